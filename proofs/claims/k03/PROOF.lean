import PyProof.Rows.All
import Wide.All
import OpenK.AllK
import Wide.FinOn
import HandS.ForMost
import HandS.Wide
import HandS.Exc
import HandS.ExcInit
import HandS.IsInst
import HandS.Codes
import HandS.Style
import HandS.Deep
import HandS.WideBits
import HandS.Walk
import HandS.RaiseMore
import HandS.ExcIs
import KE.KExcIs
import HandS.ExcValue
import PyProof.ReprRoads
import PyProof.ReprLen
import HandS.Ends
import OpenK.KMeth
import OpenK.KOps
import HandS.Small
import HandS.Conv
import HandS.WordsExc
import HandS.ExcField
import HandS.ExcOwn
import HandS.TryMany
import PySem.Challenge.RW_owedrebuilds_k03_schemas_refused
set_option Elab.async false
set_option linter.all false
set_option maxRecDepth 100000
set_option maxHeartbeats 4000000
/-! What a value is worth: data of any depth, told apart from the objects that a def still changes. -/
namespace DL
open PySem L2

inductive Da where
  | non | bl (b : Bool) | int (i : Int) | str (x : Str) | ty (n : String) | cls (a : Addr)
  | tup (ds : List Da) | lst (ds : List Da) | scr (ns : List Int)
  | dct (kvs : List (Str × Da))
  | dk (kvs : List (Key × Da))
  | dt (kvs : List (List Key × Da))
  | exc (C : Addr) (fs : List (Str × Da))
  | obj (C : Addr) (fs : List (Str × Da))

def Ex (H H' : Hp) : Prop := ∀ a o, H a = some o → H' a = some o
theorem Ex.refl (H : Hp) : Ex H H := fun _ _ h => h
theorem Ex.trans {H H1 H2 : Hp} (a : Ex H H1) (b : Ex H1 H2) : Ex H H2 := fun x o h => b x o (a x o h)
theorem Ex.rd {H H' : Hp} {a : Addr} {u : HO} (e : Ex H H') (h : Rd H a u) : Rd H' a u := by
  rcases h with h | ⟨o, h⟩
  · exact Or.inl (e a _ h)
  · exact Or.inr ⟨o, e a _ h⟩
theorem Ex.l {K : PySem.W.Frag} {H H' : Hp} {a : Addr} {xs : List V} (e : Ex H H') (h : SqL K H a xs) : SqL K H' a xs := by
  rcases h with h | h
  · exact Or.inl (e.rd h)
  · exact Or.inr h
theorem Ex.t {K : PySem.W.Frag} {H H' : Hp} {a : Addr} {xs : List V} (e : Ex H H') (h : SqT K H a xs) : SqT K H' a xs := by
  rcases h with h | h
  · exact Or.inl (e.rd h)
  · exact Or.inr h
theorem Ex.gone {H H' : Hp} {p : Addr} (e : Ex H H') (h : H' p = none) : H p = none := by
  cases h1 : H p with
  | none => rfl
  | some o =>
    rw [e p o h1] at h
    cases h
theorem Ex.new {H : Hp} {p : Addr} {o : HO} (h : H p = none) : Ex H (upd H p o) := fun a u e => by
  rw [upd_ne (ne_of_none e h)]
  exact e

mutual
inductive Rep (K : PySem.W.Frag) (I : Hp) : V → Da → Prop
  | non : Rep K I .non .non
  | bl (b : Bool) : Rep K I (.bl b) (.bl b)
  | int (i : Int) : Rep K I (.int i) (.int i)
  | str (x : Str) : Rep K I (.str x) (.str x)
  | ty (n : String) : Rep K I (.ty n) (.ty n)
  | cls (a : Addr) : Rep K I (.ref a) (.cls a)
  | tup {a : Addr} {xs : List V} {ds : List Da} : SqT K I a xs → RepL K I xs ds → Rep K I (.ref a) (.tup ds)
  | lst {a : Addr} {xs : List V} {ds : List Da} : I a = some (.lst xs) → RepL K I xs ds → Rep K I (.ref a) (.lst ds)
  | scr {a : Addr} {ns : List Int} : SqL K I a (ns.map V.int) → Rep K I (.ref a) (.scr ns)
  | dct {a : Addr} {kvs : List (Key × V)} {ds : List (Str × Da)} : I a = some (.dK kvs) → RepK K I kvs ds → Rep K I (.ref a) (.dct ds)
  | dk {a : Addr} {kvs : List (Key × V)} {ds : List (Key × Da)} : I a = some (.dK kvs) → RepD K I kvs ds → Rep K I (.ref a) (.dk ds)
  | dt {a : Addr} {kvs : List (List Key × V)} {ds : List (List Key × Da)} : I a = some (.dT kvs) → RepT K I kvs ds → Rep K I (.ref a) (.dt ds)
  | exc {a C d : Addr} {fs : List (Str × V)} {ds : List (Str × Da)} : I a = some (exo a C (some d)) → I d = some (exd d fs) → RepF K I fs ds → Rep K I (.ref a) (.exc C ds)
  | exc0 {a C : Addr} : I a = some (exo a C none) → Rep K I (.ref a) (.exc C [])
  | obj {a C dx : Addr} {fs : List (Str × V)} {ds : List (Str × Da)} : I a = some (.ins C dx fs) → RepF K I fs ds → Rep K I (.ref a) (.obj C ds)
inductive RepL (K : PySem.W.Frag) (I : Hp) : List V → List Da → Prop
  | nil : RepL K I [] []
  | cons {v : V} {vs : List V} {d : Da} {ds : List Da} : Rep K I v d → RepL K I vs ds → RepL K I (v :: vs) (d :: ds)
inductive RepF (K : PySem.W.Frag) (I : Hp) : List (Str × V) → List (Str × Da) → Prop
  | nil : RepF K I [] []
  | cons {f : Str} {v : V} {vs : List (Str × V)} {d : Da} {ds : List (Str × Da)} : Rep K I v d → RepF K I vs ds → RepF K I ((f, v) :: vs) ((f, d) :: ds)
inductive RepK (K : PySem.W.Frag) (I : Hp) : List (Key × V) → List (Str × Da) → Prop
  | nil : RepK K I [] []
  | cons {f : Str} {v : V} {vs : List (Key × V)} {d : Da} {ds : List (Str × Da)} : Rep K I v d → RepK K I vs ds → RepK K I ((.inr f, v) :: vs) ((f, d) :: ds)
inductive RepD (K : PySem.W.Frag) (I : Hp) : List (Key × V) → List (Key × Da) → Prop
  | nil : RepD K I [] []
  | cons {f : Key} {v : V} {vs : List (Key × V)} {d : Da} {ds : List (Key × Da)} : Rep K I v d → RepD K I vs ds → RepD K I ((f, v) :: vs) ((f, d) :: ds)
inductive RepT (K : PySem.W.Frag) (I : Hp) : List (List Key × V) → List (List Key × Da) → Prop
  | nil : RepT K I [] []
  | cons {f : List Key} {v : V} {vs : List (List Key × V)} {d : Da} {ds : List (List Key × Da)} : Rep K I v d → RepT K I vs ds → RepT K I ((f, v) :: vs) ((f, d) :: ds)
end

mutual
theorem Rep.mono {K : PySem.W.Frag} {I I' : Hp} (e : Ex I I') : ∀ {v : V} {d : Da}, Rep K I v d → Rep K I' v d
  | _, _, .non => .non
  | _, _, .bl b => .bl b
  | _, _, .int b => .int b
  | _, _, .str b => .str b
  | _, _, .ty b => .ty b
  | _, _, .cls b => .cls b
  | _, _, .tup h r => .tup (e.t h) (r.mono e)
  | _, _, .lst h r => .lst (e _ _ h) (r.mono e)
  | _, _, .scr h => .scr (e.l h)
  | _, _, .dct h r => .dct (e _ _ h) (r.mono e)
  | _, _, .dk h r => .dk (e _ _ h) (r.mono e)
  | _, _, .dt h r => .dt (e _ _ h) (r.mono e)
  | _, _, .exc h h2 r => .exc (e _ _ h) (e _ _ h2) (r.mono e)
  | _, _, .exc0 h => .exc0 (e _ _ h)
  | _, _, .obj h r => .obj (e _ _ h) (r.mono e)
theorem RepL.mono {K : PySem.W.Frag} {I I' : Hp} (e : Ex I I') : ∀ {v : List V} {d : List Da}, RepL K I v d → RepL K I' v d
  | _, _, .nil => .nil
  | _, _, .cons h t => .cons (h.mono e) (t.mono e)
theorem RepF.mono {K : PySem.W.Frag} {I I' : Hp} (e : Ex I I') : ∀ {v : List (Str × V)} {d : List (Str × Da)}, RepF K I v d → RepF K I' v d
  | _, _, .nil => .nil
  | _, _, .cons h t => .cons (h.mono e) (t.mono e)
theorem RepK.mono {K : PySem.W.Frag} {I I' : Hp} (e : Ex I I') : ∀ {v : List (Key × V)} {d : List (Str × Da)}, RepK K I v d → RepK K I' v d
  | _, _, .nil => .nil
  | _, _, .cons h t => .cons (h.mono e) (t.mono e)
theorem RepD.mono {K : PySem.W.Frag} {I I' : Hp} (e : Ex I I') : ∀ {v : List (Key × V)} {d : List (Key × Da)}, RepD K I v d → RepD K I' v d
  | _, _, .nil => .nil
  | _, _, .cons h t => .cons (h.mono e) (t.mono e)
theorem RepT.mono {K : PySem.W.Frag} {I I' : Hp} (e : Ex I I') : ∀ {v : List (List Key × V)} {d : List (List Key × Da)}, RepT K I v d → RepT K I' v d
  | _, _, .nil => .nil
  | _, _, .cons h t => .cons (h.mono e) (t.mono e)
end
/-- worth that no object bears -/
def flat : Da → Bool
  | .non => true | .bl _ => true | .int _ => true | .str _ => true | .ty _ => true | .cls _ => true
  | _ => false
theorem Rep.flat {K : PySem.W.Frag} {I I' : Hp} {v : V} {d : Da} (h : Rep K I v d) (f : flat d = true) : Rep K I' v d := by
  cases h <;> first | (constructor; done) | cases f
end DL
namespace DL
open PySem L2

/-! ### what a piece of code may do to the heaps: I data, H all that is tracked, F what may change -/
structure Step (F : List Addr) (I H I' H' : Hp) : Prop where
  ii : Ex I I'
  keep : ∀ a o, H a = some o → a ∉ F → H' a = some o
  own : ∀ a, H a ≠ none → I a = none → I' a = none
  alive : ∀ a, H a ≠ none → H' a ≠ none
theorem Step.refl (F : List Addr) (I H : Hp) : Step F I H I H := ⟨Ex.refl I, fun _ _ h _ => h, fun _ _ h => h, fun _ h => h⟩
theorem Step.trans {F F1 : List Addr} {I H I1 H1 I2 H2 : Hp} (a : Step F I H I1 H1) (b : Step F1 I1 H1 I2 H2) (hF : ∀ x ∈ F1, x ∈ F ∨ H x = none) : Step F I H I2 H2 where
  ii := a.ii.trans b.ii
  keep := fun x o h n => b.keep x o (a.keep x o h n) fun z => by
    rcases hF x z with q | q
    · exact n q
    · rw [h] at q; cases q
  own := fun x h n => b.own x (a.alive x h) (a.own x h n)
  alive := fun x h => b.alive x (a.alive x h)
theorem Step.wide {F G : List Addr} {I H I' H' : Hp} (a : Step F I H I' H') (h : ∀ x ∈ F, x ∈ G) : Step G I H I' H' :=
  ⟨a.ii, fun x o q n => a.keep x o q fun z => n (h x z), a.own, a.alive⟩
theorem Step.gone {F : List Addr} {I H I' H' : Hp} (a : Step F I H I' H') {p : Addr} (h : H' p = none) : H p = none := by
  cases q : H p with
  | none => rfl
  | some o => exact absurd h (a.alive p (by rw [q]; simp))
/-- a new object that is data | that is still changed -/
theorem Step.new {F : List Addr} {I H : Hp} {p : Addr} {o : HO} (hp : H p = none) (e : Ex I H) : Step F I H (upd I p o) (upd H p o) where
  ii := Ex.new (e.gone hp)
  keep := fun a u h _ => by rw [upd_ne (ne_of_none h hp)]; exact h
  own := fun a h n => by
    have : a ≠ p := fun z => h (by rw [z]; exact hp)
    rw [upd_ne this]; exact n
  alive := fun a h => by
    have : a ≠ p := fun z => h (by rw [z]; exact hp)
    rw [upd_ne this]; exact h
theorem Step.fresh {F : List Addr} {I H : Hp} {p : Addr} {o : HO} (hp : H p = none) : Step F I H I (upd H p o) where
  ii := Ex.refl I
  keep := fun a u h _ => by rw [upd_ne (ne_of_none h hp)]; exact h
  own := fun a h n => n
  alive := fun a h => by
    have : a ≠ p := fun z => h (by rw [z]; exact hp)
    rw [upd_ne this]; exact h
theorem Step.put {F : List Addr} {I H : Hp} {p : Addr} {o : HO} (hp : p ∈ F) (hh : H p ≠ none) : Step F I H I (upd H p o) where
  ii := Ex.refl I
  keep := fun a u h n => by rw [upd_ne (fun z => n (by rw [z]; exact hp))]; exact h
  own := fun a h n => n
  alive := fun a h => by
    by_cases z : a = p
    · rw [z, upd_same]; simp
    · rw [upd_ne z]; exact h

/-! ### what still changes -/
inductive MK where
  | pool (c : Nat)
  | ml (ds : List Da)
  | md (kvs : List (Str × Da))
  | ins (C dx : Addr) (fs : List (Str × Da))
  | exn (C : Addr) (d : Option Addr) (fs : List (Str × Da))
  | mo (refs : List (Str × Addr))
  | mll (refs : List Addr)
/-- a dict whose values are objects that still change -/
def refsK (refs : List (Str × Addr)) : List (Key × V) := refs.map fun p => (Sum.inr p.1, V.ref p.2)
/-- the draws' pool: its three numbers; c bounds how often it was drawn from -/
def PoolAt (H : Hp) (a : Addr) (c : Nat) : Prop :=
  ∃ d m k : Int, H a = some (.lst [.int d, .int m, .int k]) ∧ 0 ≤ d ∧ 0 ≤ m ∧ m < 2 ^ 95 ∧ 0 ≤ k ∧ k ≤ c
def MOk (K : PySem.W.Frag) (I H : Hp) (F : List Addr) (a : Addr) : MK → Prop
  | .pool c => F = [a] ∧ PoolAt H a c
  | .ml ds => F = [a] ∧ ∃ xs, H a = some (.lst xs) ∧ RepL K I xs ds
  | .md ds => F = [a] ∧ ∃ xs, H a = some (.dK xs) ∧ RepK K I xs ds
  | .ins C dx fs => F = [a, dx] ∧ ∃ xs, H a = some (.ins C dx xs) ∧ RepF K I xs fs ∧ H dx = some (.own a)
  | .exn C none fs => F = [a] ∧ fs = [] ∧ H a = some (exo a C none)
  | .exn C (some dx) fs => F = [a, dx] ∧ ∃ xs, H a = some (exo a C (some dx)) ∧ H dx = some (exd dx xs) ∧ RepF K I xs fs
  | .mo refs => F = [a] ∧ H a = some (.dK (refsK refs))
  | .mll refs => F = [a] ∧ H a = some (.lst (refs.map V.ref))
theorem MOk.mono {K : PySem.W.Frag} {I H I' H' : Hp} {F : List Addr} {a : Addr} {k : MK} (e : Ex I I') (h : ∀ x ∈ F, H' x = H x) (q : MOk K I H F a k) : MOk K I' H' F a k := by
  cases k with
  | pool c =>
    obtain ⟨rfl, d, m, k, h1, r⟩ := q
    exact ⟨rfl, d, m, k, (h a (by simp)).trans h1, r⟩
  | ml ds =>
    obtain ⟨rfl, xs, h1, r⟩ := q
    exact ⟨rfl, xs, (h a (by simp)).trans h1, r.mono e⟩
  | md ds =>
    obtain ⟨rfl, xs, h1, r⟩ := q
    exact ⟨rfl, xs, (h a (by simp)).trans h1, r.mono e⟩
  | ins C dx fs =>
    obtain ⟨rfl, xs, h1, r, h2⟩ := q
    exact ⟨rfl, xs, (h a (by simp)).trans h1, r.mono e, (h dx (by simp)).trans h2⟩
  | exn C d fs =>
    cases d with
    | none =>
      obtain ⟨rfl, z, h1⟩ := q
      exact ⟨rfl, z, (h a (by simp)).trans h1⟩
    | some dx =>
      obtain ⟨rfl, xs, h1, h2, r⟩ := q
      exact ⟨rfl, xs, (h a (by simp)).trans h1, (h dx (by simp)).trans h2, r.mono e⟩
  | mo refs =>
    obtain ⟨rfl, h1⟩ := q
    exact ⟨rfl, (h a (by simp)).trans h1⟩
  | mll refs =>
    obtain ⟨rfl, h1⟩ := q
    exact ⟨rfl, (h a (by simp)).trans h1⟩
theorem MOk.mem {K : PySem.W.Frag} {I H : Hp} {F : List Addr} {a : Addr} {k : MK} (q : MOk K I H F a k) : a ∈ F := by
  cases k with
  | pool c => obtain ⟨rfl, _⟩ := q; simp
  | ml ds => obtain ⟨rfl, _⟩ := q; simp
  | md ds => obtain ⟨rfl, _⟩ := q; simp
  | ins C dx fs => obtain ⟨rfl, _⟩ := q; simp
  | exn C d fs =>
    cases d with
    | none => obtain ⟨rfl, _⟩ := q; simp
    | some dx => obtain ⟨rfl, _⟩ := q; simp
  | mo refs => obtain ⟨rfl, _⟩ := q; simp
  | mll refs => obtain ⟨rfl, _⟩ := q; simp
theorem MOk.live {K : PySem.W.Frag} {I H : Hp} {F : List Addr} {a : Addr} {k : MK} (q : MOk K I H F a k) : ∀ x ∈ F, H x ≠ none := by
  cases k with
  | pool c =>
    obtain ⟨rfl, _, _, _, h, _⟩ := q
    intro x hx
    have : x = a := by simpa using hx
    rw [this, h]; simp
  | ml ds =>
    obtain ⟨rfl, _, h, _⟩ := q
    intro x hx
    have : x = a := by simpa using hx
    rw [this, h]; simp
  | md ds =>
    obtain ⟨rfl, _, h, _⟩ := q
    intro x hx
    have : x = a := by simpa using hx
    rw [this, h]; simp
  | ins C dx fs =>
    obtain ⟨rfl, xs, h1, _, h2⟩ := q
    intro x hx
    rcases (by simpa using hx : x = a ∨ x = dx) with z | z
    · rw [z, h1]; simp
    · rw [z, h2]; simp
  | exn C d fs =>
    cases d with
    | none =>
      obtain ⟨rfl, _, h⟩ := q
      intro x hx
      have : x = a := by simpa using hx
      rw [this, h]; simp
    | some dx =>
      obtain ⟨rfl, xs, h1, h2, _⟩ := q
      intro x hx
      rcases (by simpa using hx : x = a ∨ x = dx) with z | z
      · rw [z, h1]; simp
      · rw [z, h2]; simp
  | mo refs =>
    obtain ⟨rfl, h⟩ := q
    intro x hx
    have : x = a := by simpa using hx
    rw [this, h]; simp
  | mll refs =>
    obtain ⟨rfl, h⟩ := q
    intro x hx
    have : x = a := by simpa using hx
    rw [this, h]; simp
/-- address, what it is, whether it is the def's own (it may become data) -/
abbrev Mu := List (Addr × MK × Bool)
/-- Lc: the addresses that are the def's own -/
inductive MuOk (K : PySem.W.Frag) (Lc : Addr → Prop) (I H : Hp) : List Addr → Mu → Prop
  | nil : MuOk K Lc I H [] []
  | cons {F G : List Addr} {a : Addr} {k : MK} {fl : Bool} {μ : Mu} : MOk K I H F a k → (∀ x ∈ F, I x = none) → (∀ x ∈ F, x ∉ G) → F.Nodup → (fl = true → ∀ x ∈ F, Lc x) → MuOk K Lc I H G μ → MuOk K Lc I H (F ++ G) ((a, k, fl) :: μ)
theorem MuOk.mono {K : PySem.W.Frag} {Lc Lc' : Addr → Prop} {I H I' H' : Hp} {F : List Addr} {μ : Mu} (e : Ex I I') (h : ∀ x ∈ F, H' x = H x) (hn : ∀ x ∈ F, I' x = none) (hl : ∀ x ∈ F, Lc x → Lc' x) (q : MuOk K Lc I H F μ) : MuOk K Lc' I' H' F μ := by
  induction q with
  | nil => exact .nil
  | cons m n d nd l q ih =>
    exact .cons (m.mono e fun x hx => h x (List.mem_append_left _ hx)) (fun x hx => hn x (List.mem_append_left _ hx)) d nd (fun z x hx => hl x (List.mem_append_left _ hx) (l z x hx))
      (ih (fun x hx => h x (List.mem_append_right _ hx)) (fun x hx => hn x (List.mem_append_right _ hx)) fun x hx => hl x (List.mem_append_right _ hx))
theorem MuOk.live {K : PySem.W.Frag} {Lc : Addr → Prop} {I H : Hp} {F : List Addr} {μ : Mu} (q : MuOk K Lc I H F μ) : ∀ x ∈ F, I x = none ∧ H x ≠ none := by
  induction q with
  | nil => intro x hx; cases hx
  | cons m n d nd l q ih =>
    intro x hx
    rcases List.mem_append.mp hx with z | z
    · exact ⟨n x z, m.live x z⟩
    · exact ih x z
theorem MuOk.nodup {K : PySem.W.Frag} {Lc : Addr → Prop} {I H : Hp} {F : List Addr} {μ : Mu} (q : MuOk K Lc I H F μ) : F.Nodup := by
  induction q with
  | nil => exact List.nodup_nil
  | cons m n d nd l q ih => exact List.nodup_append.mpr ⟨nd, ih, fun x hx y hy e => d x hx (e ▸ hy)⟩

/-! ### slots -/
inductive SK where
  | any | dat (d : Da) | own (a : Addr)
def SOk (K : PySem.W.Frag) (I : Hp) : Option V → SK → Prop
  | _, .any => True
  | some v, .dat d => Rep K I v d
  | some v, .own a => v = .ref a
  | none, _ => False
theorem SOk.mono {K : PySem.W.Frag} {I I' : Hp} (e : Ex I I') {o : Option V} {k : SK} (h : SOk K I o k) : SOk K I' o k := by
  cases k with
  | any => cases o <;> trivial
  | dat d =>
    cases o with
    | none => exact h
    | some v => exact Rep.mono e h
  | own a =>
    cases o with
    | none => exact h
    | some v => exact h
inductive SlOk (K : PySem.W.Frag) (I : Hp) : St → List SK → Prop
  | nil : SlOk K I [] []
  | cons {o : Option V} {k : SK} {σ : St} {δ : List SK} : SOk K I o k → SlOk K I σ δ → SlOk K I (o :: σ) (k :: δ)
theorem SlOk.mono {K : PySem.W.Frag} {I I' : Hp} (e : Ex I I') {σ : St} {δ : List SK} (h : SlOk K I σ δ) : SlOk K I' σ δ := by
  induction h with
  | nil => exact .nil
  | cons h t ih => exact .cons (h.mono e) ih
theorem SlOk.length {K : PySem.W.Frag} {I : Hp} {σ : St} {δ : List SK} (h : SlOk K I σ δ) : σ.length = δ.length := by
  induction h with
  | nil => rfl
  | cons _ _ ih => simp [ih]
theorem SlOk.set {K : PySem.W.Frag} {I : Hp} {σ : St} {δ : List SK} (h : SlOk K I σ δ) {o : Option V} {k : SK} (q : SOk K I o k) : ∀ i : Nat, SlOk K I (σ.set i o) (δ.set i k) := by
  induction h with
  | nil => intro i; exact .nil
  | cons h t ih =>
    intro i
    cases i with
    | zero => exact .cons q t
    | succ i => exact .cons h (ih i)
theorem SlOk.get {K : PySem.W.Frag} {I : Hp} {σ : St} {δ : List SK} (h : SlOk K I σ δ) : ∀ {i : Nat} {k : SK}, δ[i]? = some k → ∃ o, σ[i]? = some o ∧ SOk K I o k := by
  induction h with
  | nil => intro i k e; simp at e
  | cons h t ih =>
    intro i k e
    cases i with
    | zero =>
      simp only [List.getElem?_cons_zero, Option.some.injEq] at e
      subst e
      exact ⟨_, rfl, h⟩
    | succ i => exact ih (by simpa using e)
/-- names forgotten -/
def wipeD (δ : List SK) : List Nat → List SK
  | [] => δ
  | v :: vs => (wipeD δ vs).set v .any
theorem SlOk.wipe {K : PySem.W.Frag} {I : Hp} {σ : St} {δ : List SK} (h : SlOk K I σ δ) : ∀ vs : List Nat, SlOk K I (L2.wipe σ vs) (wipeD δ vs)
  | [] => h
  | v :: vs => (SlOk.wipe h vs).set (k := .any) (o := none) trivial v

/-! ### the state -/
structure Sta (K : PySem.W.Frag) (Lc : Addr → Prop) (I H : Hp) (σ : St) (δ : List SK) (μ : Mu) (F : List Addr) : Prop where
  ih : Ex I H
  lc : ∀ a, H a = none → Lc a
  sl : SlOk K I σ δ
  mu : MuOk K Lc I H F μ
end DL
namespace DL
open PySem L2

theorem MuOk.at {K : PySem.W.Frag} {Lc : Addr → Prop} {I H : Hp} {F : List Addr} {μ : Mu} (q : MuOk K Lc I H F μ) : ∀ {i : Nat} {a : Addr} {k : MK} {fl : Bool}, μ[i]? = some (a, k, fl) →
    ∃ Fi, MOk K I H Fi a k ∧ (∀ x ∈ Fi, x ∈ F) ∧ (fl = true → ∀ x ∈ Fi, Lc x) ∧ ∀ (k' : MK) (I' H' : Hp), Ex I I' → (∀ x ∈ F, x ∉ Fi → H' x = H x) → (∀ x ∈ F, I' x = none) → MOk K I' H' Fi a k' → MuOk K Lc I' H' F (μ.set i (a, k', fl)) := by
  induction q with
  | nil => intro i a k fl e; simp at e
  | @cons F1 G a1 k1 fl1 μ1 m n d nd l q ih =>
    intro i a k fl e
    cases i with
    | zero =>
      simp only [List.getElem?_cons_zero, Option.some.injEq, Prod.mk.injEq] at e
      obtain ⟨rfl, rfl, rfl⟩ := e
      refine ⟨F1, m, fun x hx => List.mem_append_left _ hx, l, fun k' I' H' e h hn m' => ?_⟩
      exact .cons m' (fun x hx => hn x (List.mem_append_left _ hx)) d nd l (q.mono e (fun x hx => h x (List.mem_append_right _ hx) fun z => d x z hx) (fun x hx => hn x (List.mem_append_right _ hx)) fun _ _ z => z)
    | succ i =>
      obtain ⟨Fi, m1, s1, l1, r1⟩ := ih (by simpa using e)
      refine ⟨Fi, m1, fun x hx => List.mem_append_right _ (s1 x hx), l1, fun k' I' H' e h hn m' => ?_⟩
      exact .cons (m.mono e fun x hx => h x (List.mem_append_left _ hx) fun z => d x hx (s1 x z)) (fun x hx => hn x (List.mem_append_left _ hx)) d nd l
        (r1 k' I' H' e (fun x hx => h x (List.mem_append_right _ hx)) (fun x hx => hn x (List.mem_append_right _ hx)) m')

/-! ### readings over the worth -/
def Post (K : PySem.W.Frag) (Lc : Addr → Prop) (σ : St) (δ : List SK) (F : List Addr) (I H : Hp) (Q : SK → Mu → Prop) (QQ : VK) : Prop :=
  ∀ v I' H' r μ' F', Step F I H I' H' → (∀ x ∈ F', x ∈ F ∨ H x = none) → Sta K Lc I' H' σ δ μ' F' → SOk K I' (some v) r → Q r μ' → QQ v H'
def PostA (K : PySem.W.Frag) (Lc : Addr → Prop) (σ : St) (δ : List SK) (F : List Addr) (I H : Hp) (Q : List SK → Mu → Prop) (QQ : List V → Hp → Prop) : Prop :=
  ∀ (vs : List V) I' H' rs μ' F', Step F I H I' H' → (∀ x ∈ F', x ∈ F ∨ H x = none) → Sta K Lc I' H' σ δ μ' F' → SlOk K I' (vs.map some) rs → Q rs μ' → QQ vs H'
def PostT (K : PySem.W.Frag) (Lc : Addr → Prop) (σ : St) (δ : List SK) (F : List Addr) (I H : Hp) (Q : Bool → Mu → Prop) (QQ : Bool → Hp → Prop) : Prop :=
  ∀ b I' H' μ' F', Step F I H I' H' → (∀ x ∈ F', x ∈ F ∨ H x = none) → Sta K Lc I' H' σ δ μ' F' → Q b μ' → QQ b H'
/-- an expression's reading te, from slots of the worth δ and what is changed μ: Q of the result's worth and of what is changed behind it -/
def RD (K : PySem.W.Frag) (te : TE) (δ : List SK) (μ : Mu) (Q : SK → Mu → Prop) : Prop :=
  ∀ Lc I H σ F, Sta K Lc I H σ δ μ F → ∀ QQ : VK, Post K Lc σ δ F I H Q QQ → te σ H QQ
def RA (K : PySem.W.Frag) (ta : TA) (δ : List SK) (μ : Mu) (Q : List SK → Mu → Prop) : Prop :=
  ∀ Lc I H σ F, Sta K Lc I H σ δ μ F → ∀ QQ : List V → Hp → Prop, PostA K Lc σ δ F I H Q QQ → ta σ H QQ
def RT (K : PySem.W.Frag) (tt : TT) (δ : List SK) (μ : Mu) (Q : Bool → Mu → Prop) : Prop :=
  ∀ Lc I H σ F, Sta K Lc I H σ δ μ F → ∀ QQ : Bool → Hp → Prop, PostT K Lc σ δ F I H Q QQ → tt σ H QQ
/-- by values -/
def RR (K : PySem.W.Frag) (r : R2) (x y : SK) (δ : List SK) (μ : Mu) (Q : SK → Mu → Prop) : Prop :=
  ∀ Lc I H σ F, Sta K Lc I H σ δ μ F → ∀ v w, SOk K I (some v) x → SOk K I (some w) y → ∀ QQ : VK, Post K Lc σ δ F I H Q QQ → r v w H QQ
def RU (K : PySem.W.Frag) (r : V → Hp → VK → Prop) (x : SK) (δ : List SK) (μ : Mu) (Q : SK → Mu → Prop) : Prop :=
  ∀ Lc I H σ F, Sta K Lc I H σ δ μ F → ∀ v, SOk K I (some v) x → ∀ QQ : VK, Post K Lc σ δ F I H Q QQ → r v H QQ
def RC (K : PySem.W.Frag) (r : List V → Hp → VK → Prop) (xs : List SK) (δ : List SK) (μ : Mu) (Q : SK → Mu → Prop) : Prop :=
  ∀ Lc I H σ F, Sta K Lc I H σ δ μ F → ∀ vs : List V, SlOk K I (vs.map some) xs → ∀ QQ : VK, Post K Lc σ δ F I H Q QQ → r vs H QQ
theorem sub_trans {F F1 F2 : List Addr} {I H I1 H1 : Hp} (st : Step F I H I1 H1) (a : ∀ x ∈ F1, x ∈ F ∨ H x = none) (b : ∀ x ∈ F2, x ∈ F1 ∨ H1 x = none) : ∀ x ∈ F2, x ∈ F ∨ H x = none := fun x hx => by
  rcases b x hx with z | z
  · exact a x z
  · exact .inr (st.gone z)
section
variable {K : PySem.W.Frag} {Lc : Addr → Prop} {σ : St} {δ : List SK} {F F1 : List Addr} {I H I1 H1 : Hp} {μ μ' : Mu}
theorem Post.on {Q : SK → Mu → Prop} {QQ : VK} (p : Post K Lc σ δ F I H Q QQ) (st : Step F I H I1 H1) (hF : ∀ x ∈ F1, x ∈ F ∨ H x = none) : Post K Lc σ δ F1 I1 H1 Q QQ :=
  fun v I' H' r μ' F' s f a b q => p v I' H' r μ' F' (st.trans s hF) (sub_trans st hF f) a b q
theorem PostA.on {Q : List SK → Mu → Prop} {QQ : List V → Hp → Prop} (p : PostA K Lc σ δ F I H Q QQ) (st : Step F I H I1 H1) (hF : ∀ x ∈ F1, x ∈ F ∨ H x = none) : PostA K Lc σ δ F1 I1 H1 Q QQ :=
  fun v I' H' r μ' F' s f a b q => p v I' H' r μ' F' (st.trans s hF) (sub_trans st hF f) a b q
theorem PostT.on {Q : Bool → Mu → Prop} {QQ : Bool → Hp → Prop} (p : PostT K Lc σ δ F I H Q QQ) (st : Step F I H I1 H1) (hF : ∀ x ∈ F1, x ∈ F ∨ H x = none) : PostT K Lc σ δ F1 I1 H1 Q QQ :=
  fun v I' H' μ' F' s f a q => p v I' H' μ' F' (st.trans s hF) (sub_trans st hF f) a q
/-- here and now -/
theorem Post.now {Q : SK → Mu → Prop} {QQ : VK} {v : V} {r : SK} (p : Post K Lc σ δ F I H Q QQ) (s : Sta K Lc I H σ δ μ F) (ok : SOk K I (some v) r) (q : Q r μ) : QQ v H :=
  p v I H r μ F (Step.refl F I H) (fun x hx => .inl hx) s ok q
theorem PostT.now {Q : Bool → Mu → Prop} {QQ : Bool → Hp → Prop} {b : Bool} (p : PostT K Lc σ δ F I H Q QQ) (s : Sta K Lc I H σ δ μ F) (q : Q b μ) : QQ b H :=
  p b I H μ F (Step.refl F I H) (fun x hx => .inl hx) s q
/-- a new object that is data -/
theorem Sta.newD {p : Addr} {o : HO} (s : Sta K Lc I H σ δ μ F) (hp : H p = none) : Sta K Lc (upd I p o) (upd H p o) σ δ μ F where
  ih := fun a u h => by
    by_cases z : a = p
    · rw [z, upd_same] at h ⊢; exact h
    · rw [upd_ne z] at h ⊢; exact s.ih a u h
  lc := fun a h => s.lc a (by
    by_cases z : a = p
    · rw [z]; exact hp
    · rw [upd_ne z] at h; exact h)
  sl := s.sl.mono (Ex.new (s.ih.gone hp))
  mu := by
    have hne : ∀ x ∈ F, x ≠ p := fun x hx z => (s.mu.live x hx).2 (by rw [z]; exact hp)
    exact s.mu.mono (Ex.new (s.ih.gone hp)) (fun x hx => upd_ne (hne x hx)) (fun x hx => by rw [upd_ne (hne x hx)]; exact (s.mu.live x hx).1) fun _ _ z => z
/-- a new object that is the def's own -/
theorem Sta.newO {p : Addr} {o : HO} {k : MK} (s : Sta K Lc I H σ δ μ F) (hp : H p = none) (m : MOk K I (upd H p o) [p] p k) : Sta K Lc I (upd H p o) σ δ ((p, k, true) :: μ) (p :: F) where
  ih := fun a u h => by
    have z : a ≠ p := fun z => by
      have := s.ih.gone hp
      rw [← z, h] at this; cases this
    rw [upd_ne z]; exact s.ih a u h
  lc := fun a h => s.lc a (by
    by_cases z : a = p
    · rw [z]; exact hp
    · rw [upd_ne z] at h; exact h)
  sl := s.sl
  mu := by
    have hne : ∀ x ∈ F, x ≠ p := fun x hx z => (s.mu.live x hx).2 (by rw [z]; exact hp)
    refine MuOk.cons (F := [p]) m ?_ ?_ (by simp) ?_ (s.mu.mono (Ex.refl I) (fun x hx => upd_ne (hne x hx)) (fun x hx => (s.mu.live x hx).1) fun _ _ z => z)
    · intro x hx
      have : x = p := by simpa using hx
      rw [this]; exact s.ih.gone hp
    · intro x hx z
      have : x = p := by simpa using hx
      exact hne x z this
    · intro _ x hx
      have : x = p := by simpa using hx
      rw [this]; exact s.lc p hp
end

/-! ### rules: names, constants -/
section
variable {K : PySem.W.Frag} {δ : List SK} {μ : Mu} {Q : SK → Mu → Prop} {QA : List SK → Mu → Prop} {QT : Bool → Mu → Prop} {te ta tb : TE} {tt tu : TT} {tr : TA}
theorem rd_mono {Q' : SK → Mu → Prop} (h : RD K te δ μ Q) (q : ∀ r μ, Q r μ → Q' r μ) : RD K te δ μ Q' := fun Lc I H σ F s QQ p =>
  h Lc I H σ F s QQ fun v I' H' r μ' F' a b c d e => p v I' H' r μ' F' a b c d (q _ _ e)
theorem rd_varD {i : Nat} {d : Da} (h : δ[i]? = some (.dat d)) (q : Q (.dat d) μ) : RD K (tVar i) δ μ Q := fun Lc I H σ F s QQ p => by
  obtain ⟨o, e, k⟩ := s.sl.get h
  cases o with
  | none => exact k.elim
  | some v => exact ⟨v, e, p.now s k q⟩
theorem rd_varO {i : Nat} {a : Addr} (h : δ[i]? = some (.own a)) (q : Q (.own a) μ) : RD K (tVar i) δ μ Q := fun Lc I H σ F s QQ p => by
  obtain ⟨o, e, k⟩ := s.sl.get h
  cases o with
  | none => exact k.elim
  | some v => exact ⟨v, e, p.now s k q⟩
theorem rd_int {i : Int} (q : Q (.dat (.int i)) μ) : RD K (tC (.int i)) δ μ Q := fun Lc I H σ F s QQ p => p.now (v := .int i) (r := .dat (.int i)) s (.int i) q
theorem rd_bl {i : Bool} (q : Q (.dat (.bl i)) μ) : RD K (tC (.bl i)) δ μ Q := fun Lc I H σ F s QQ p => p.now (v := .bl i) (r := .dat (.bl i)) s (.bl i) q
theorem rd_non (q : Q (.dat .non) μ) : RD K (tC .non) δ μ Q := fun Lc I H σ F s QQ p => p.now (v := .non) (r := .dat .non) s .non q
theorem rd_str {x : Str} (q : Q (.dat (.str x)) μ) : RD K (tC (.str x)) δ μ Q := fun Lc I H σ F s QQ p => p.now (v := .str x) (r := .dat (.str x)) s (.str x) q
theorem rd_ty {x : String} (q : Q (.dat (.ty x)) μ) : RD K (tC (.ty x)) δ μ Q := fun Lc I H σ F s QQ p => p.now (v := .ty x) (r := .dat (.ty x)) s (.ty x) q
theorem rd_cls {x : Addr} (q : Q (.dat (.cls x)) μ) : RD K (tC (.ref x)) δ μ Q := fun Lc I H σ F s QQ p => p.now (v := .ref x) (r := .dat (.cls x)) s (.cls x) q
theorem rd_op {r : R2} (h : RD K ta δ μ fun x μ1 => RD K tb δ μ1 fun y μ2 => RR K r x y δ μ2 Q) : RD K (tOp r ta tb) δ μ Q := fun Lc I H σ F s QQ p =>
  h Lc I H σ F s _ fun v I1 H1 x μ1 F1 st1 f1 s1 ok1 q1 => q1 Lc I1 H1 σ F1 s1 _ fun w I2 H2 y μ2 F2 st2 f2 s2 ok2 q2 =>
    q2 Lc I2 H2 σ F2 s2 v w (ok1.mono st2.ii) ok2 QQ (p.on (st1.trans st2 f1) (sub_trans st1 f1 f2))
theorem rd_un {r : V → Hp → VK → Prop} (h : RD K ta δ μ fun x μ1 => RU K r x δ μ1 Q) : RD K (tUn r ta) δ μ Q := fun Lc I H σ F s QQ p =>
  h Lc I H σ F s _ fun v I1 H1 x μ1 F1 st1 f1 s1 ok1 q1 => q1 Lc I1 H1 σ F1 s1 v ok1 QQ (p.on st1 f1)
theorem rd_cb {r : List V → Hp → VK → Prop} (h : RA K tr δ μ fun xs μ1 => RC K r xs δ μ1 Q) : RD K (tCB r tr) δ μ Q := fun Lc I H σ F s QQ p =>
  h Lc I H σ F s _ fun vs I1 H1 xs μ1 F1 st1 f1 s1 ok1 q1 => q1 Lc I1 H1 σ F1 s1 vs ok1 QQ (p.on st1 f1)
theorem ra_nil (q : QA [] μ) : RA K tNil δ μ QA := fun Lc I H σ F s QQ p => p [] I H [] μ F (Step.refl F I H) (fun x hx => .inl hx) s .nil q
theorem ra_cons (h : RD K te δ μ fun x μ1 => RA K tr δ μ1 fun xs μ2 => QA (x :: xs) μ2) : RA K (tCons te tr) δ μ QA := fun Lc I H σ F s QQ p =>
  h Lc I H σ F s _ fun v I1 H1 x μ1 F1 st1 f1 s1 ok1 q1 => q1 Lc I1 H1 σ F1 s1 _ fun vs I2 H2 xs μ2 F2 st2 f2 s2 ok2 q2 =>
    p (v :: vs) I2 H2 (x :: xs) μ2 F2 (st1.trans st2 f1) (sub_trans st1 f1 f2) s2 (.cons (ok1.mono st2.ii) ok2) q2
theorem rd_if {c : TT} (h : RT K c δ μ fun b μ1 => (b = true → RD K ta δ μ1 Q) ∧ (b = false → RD K tb δ μ1 Q)) : RD K (tIf c ta tb) δ μ Q := fun Lc I H σ F s QQ p =>
  h Lc I H σ F s _ fun b I1 H1 μ1 F1 st1 f1 s1 q1 => by
    cases b with
    | true => exact q1.1 rfl Lc I1 H1 σ F1 s1 QQ (p.on st1 f1)
    | false => exact q1.2 rfl Lc I1 H1 σ F1 s1 QQ (p.on st1 f1)
theorem rt_b (h : RD K te δ μ fun x μ1 => ∃ b, x = .dat (.bl b) ∧ QT b μ1) : RT K (tB te) δ μ QT := fun Lc I H σ F s QQ p =>
  h Lc I H σ F s _ fun v I1 H1 x μ1 F1 st1 f1 s1 ok1 ⟨b, e, q1⟩ => by
    subst e
    cases ok1
    exact ⟨b, rfl, p b I1 H1 μ1 F1 st1 f1 s1 q1⟩
theorem rt_test (h : RD K te δ μ fun x μ1 => ∃ b, x = .dat (.bl b) ∧ QT b μ1) : RT K (tTest te) δ μ QT := fun Lc I H σ F s QQ p =>
  h Lc I H σ F s _ fun v I1 H1 x μ1 F1 st1 f1 s1 ok1 ⟨b, e, q1⟩ => by
    subst e
    cases ok1
    exact ⟨b, rfl, p b I1 H1 μ1 F1 st1 f1 s1 q1⟩
theorem rt_and (h : RT K tt δ μ fun b μ1 => (b = true → RT K tu δ μ1 QT) ∧ (b = false → QT false μ1)) : RT K (tAnd tt tu) δ μ QT := fun Lc I H σ F s QQ p =>
  h Lc I H σ F s _ fun b I1 H1 μ1 F1 st1 f1 s1 q1 => by
    cases b with
    | true => exact q1.1 rfl Lc I1 H1 σ F1 s1 QQ (p.on st1 f1)
    | false => exact p false I1 H1 μ1 F1 st1 f1 s1 (q1.2 rfl)
theorem rt_or (h : RT K tt δ μ fun b μ1 => (b = true → QT true μ1) ∧ (b = false → RT K tu δ μ1 QT)) : RT K (tOr tt tu) δ μ QT := fun Lc I H σ F s QQ p =>
  h Lc I H σ F s _ fun b I1 H1 μ1 F1 st1 f1 s1 q1 => by
    cases b with
    | true => exact p true I1 H1 μ1 F1 st1 f1 s1 (q1.1 rfl)
    | false => exact q1.2 rfl Lc I1 H1 σ F1 s1 QQ (p.on st1 f1)
theorem rt_not (h : RT K tt δ μ fun b μ1 => QT (!b) μ1) : RT K (tNot tt) δ μ QT := fun Lc I H σ F s QQ p =>
  h Lc I H σ F s _ fun b I1 H1 μ1 F1 st1 f1 s1 q1 => p (!b) I1 H1 μ1 F1 st1 f1 s1 q1
theorem rd_andV (h : RD K ta δ μ fun x μ1 => ∃ b, x = .dat (.bl b) ∧ (b = true → RD K tb δ μ1 Q) ∧ (b = false → Q (.dat (.bl false)) μ1)) : RD K (tAndV ta tb) δ μ Q := fun Lc I H σ F s QQ p =>
  h Lc I H σ F s _ fun v I1 H1 x μ1 F1 st1 f1 s1 ok1 ⟨b, e, q1, q2⟩ => by
    subst e
    cases ok1
    refine ⟨b, rfl, ?_⟩
    cases b with
    | true => exact q1 rfl Lc I1 H1 σ F1 s1 QQ (p.on st1 f1)
    | false => exact p (.bl false) I1 H1 (.dat (.bl false)) μ1 F1 st1 f1 s1 (Rep.bl false) (q2 rfl)
theorem rd_orV (h : RD K ta δ μ fun x μ1 => ∃ b, x = .dat (.bl b) ∧ (b = true → Q (.dat (.bl true)) μ1) ∧ (b = false → RD K tb δ μ1 Q)) : RD K (tOrV ta tb) δ μ Q := fun Lc I H σ F s QQ p =>
  h Lc I H σ F s _ fun v I1 H1 x μ1 F1 st1 f1 s1 ok1 ⟨b, e, q1, q2⟩ => by
    subst e
    cases ok1
    refine ⟨b, rfl, ?_⟩
    cases b with
    | true => exact p (.bl true) I1 H1 (.dat (.bl true)) μ1 F1 st1 f1 s1 (Rep.bl true) (q1 rfl)
    | false => exact q2 rfl Lc I1 H1 σ F1 s1 QQ (p.on st1 f1)
theorem rd_notV (h : RD K ta δ μ fun x μ1 => ∃ b, x = .dat (.bl b) ∧ Q (.dat (.bl (!b))) μ1) : RD K (tNotV ta) δ μ Q := fun Lc I H σ F s QQ p =>
  h Lc I H σ F s _ fun v I1 H1 x μ1 F1 st1 f1 s1 ok1 ⟨b, e, q1⟩ => by
    subst e
    cases ok1
    exact ⟨b, rfl, p (.bl (!b)) I1 H1 (.dat (.bl (!b))) μ1 F1 st1 f1 s1 (Rep.bl _) q1⟩
/-- all of them data -/
def dats (ds : List Da) : List SK := ds.map .dat
theorem repl_of {I : Hp} : ∀ {vs : List V} {ds : List Da}, SlOk K I (vs.map some) (dats ds) → RepL K I vs ds
  | [], [], _ => .nil
  | [], d :: ds, h => by cases h
  | v :: vs, [], h => by cases h
  | v :: vs, d :: ds, h => by
    cases h with
    | cons a b => exact .cons a (repl_of b)
theorem repl_len {I : Hp} : ∀ {vs : List V} {ds : List Da}, RepL K I vs ds → vs.length = ds.length
  | _, _, .nil => rfl
  | _, _, .cons _ t => by simp [repl_len t]
/-- a new tuple, a new list of data -/
theorem rd_tup (h : RA K tr δ μ fun xs μ1 => ∃ ds, xs = dats ds ∧ ds.length ≤ 100000 ∧ Q (.dat (.tup ds)) μ1) : RD K (tTup tr) δ μ Q := fun Lc I H σ F s QQ p =>
  h Lc I H σ F s _ fun vs I1 H1 xs μ1 F1 st1 f1 s1 ok1 ⟨ds, e, hl, q1⟩ => by
    subst e
    have r := repl_of ok1
    refine ⟨Nat.le_trans (by rw [repl_len r]; exact hl) (by decide : 100000 ≤ sizeLine), fun a ha => ?_⟩
    exact p (.ref a) (upd I1 a (.tup vs)) (upd H1 a (.tup vs)) (.dat (.tup ds)) μ1 F1 (st1.trans (Step.new ha s1.ih) f1) f1 (s1.newD ha) (Rep.tup (SqT.of upd_same) (r.mono (Ex.new (s1.ih.gone ha)))) q1
theorem rd_lst (h : RA K tr δ μ fun xs μ1 => ∃ ds, xs = dats ds ∧ ds.length ≤ 100000 ∧ Q (.dat (.lst ds)) μ1) : RD K (tLst tr) δ μ Q := fun Lc I H σ F s QQ p =>
  h Lc I H σ F s _ fun vs I1 H1 xs μ1 F1 st1 f1 s1 ok1 ⟨ds, e, hl, q1⟩ => by
    subst e
    have r := repl_of ok1
    refine ⟨Nat.le_trans (by rw [repl_len r]; exact hl) (by decide : 100000 ≤ sizeLine), fun a ha => ?_⟩
    exact p (.ref a) (upd I1 a (.lst vs)) (upd H1 a (.lst vs)) (.dat (.lst ds)) μ1 F1 (st1.trans (Step.new ha s1.ih) f1) f1 (s1.newD ha) (Rep.lst upd_same (r.mono (Ex.new (s1.ih.gone ha)))) q1
/-- a new list that is to be filled -/
theorem rd_lstO (h : RA K tr δ μ fun xs μ1 => ∃ ds, xs = dats ds ∧ ds.length ≤ 100000 ∧ ∀ a, Q (.own a) ((a, .ml ds, true) :: μ1)) : RD K (tLst tr) δ μ Q := fun Lc I H σ F s QQ p =>
  h Lc I H σ F s _ fun vs I1 H1 xs μ1 F1 st1 f1 s1 ok1 ⟨ds, e, hl, q1⟩ => by
    subst e
    have r := repl_of ok1
    refine ⟨Nat.le_trans (by rw [repl_len r]; exact hl) (by decide : 100000 ≤ sizeLine), fun a ha => ?_⟩
    refine p (.ref a) I1 (upd H1 a (.lst vs)) (.own a) ((a, .ml ds, true) :: μ1) (a :: F1) (st1.trans (Step.fresh ha) f1) (fun x hx => ?_) (s1.newO ha ⟨rfl, vs, upd_same, r⟩) rfl (q1 a)
    rcases List.mem_cons.mp hx with z | z
    · rw [z]; exact .inr (st1.gone ha)
    · exact f1 x z
end
end DL
namespace DL
open PySem L2

/-! ### statements -/
structure DE where
  nx : List SK → Mu → Prop
  rt : SK → Mu → Prop
  bk : List SK → Mu → Prop := fun _ _ => False
  ct : List SK → Mu → Prop := fun _ _ => False
/-- where a def stands: its entry's heaps, what it may change; Ib: the data at some moment before -/
structure At (K : PySem.W.Frag) (I0 H0 : Hp) (F0 : List Addr) (Ib I H : Hp) (σ : St) (δ : List SK) (μ : Mu) (F : List Addr) : Prop where
  st : Step F0 I0 H0 I H
  sub : ∀ x ∈ F, x ∈ F0 ∨ H0 x = none
  s : Sta K (fun a => H0 a = none) I H σ δ μ F
  ib : Ex Ib I
structure EOk (K : PySem.W.Frag) (I0 H0 : Hp) (F0 : List Addr) (Ib : Hp) (E : DE) (D : Ends) : Prop where
  nx : ∀ I H σ δ μ F, At K I0 H0 F0 Ib I H σ δ μ F → E.nx δ μ → D.nx σ H
  rt : ∀ v r I H σ δ μ F, At K I0 H0 F0 Ib I H σ δ μ F → SOk K I (some v) r → E.rt r μ → D.rt v H
  bk : ∀ I H σ δ μ F, At K I0 H0 F0 Ib I H σ δ μ F → E.bk δ μ → D.bk σ H
  ct : ∀ I H σ δ μ F, At K I0 H0 F0 Ib I H σ δ μ F → E.ct δ μ → D.ct σ H
def RS (K : PySem.W.Frag) (ts : TS) (δ : List SK) (μ : Mu) (E : DE) : Prop :=
  ∀ I0 H0 F0 Ib I H σ F, At K I0 H0 F0 Ib I H σ δ μ F → ∀ D : Ends, EOk K I0 H0 F0 Ib E D → ts D σ H
section
variable {K : PySem.W.Frag} {I0 H0 Ib I H I' H' : Hp} {F0 F F' : List Addr} {σ : St} {δ : List SK} {μ μ' : Mu} {E : DE} {D : Ends} {te ta tb : TE} {tt : TT} {t u : TS}
theorem At.on (a : At K I0 H0 F0 Ib I H σ δ μ F) (st : Step F I H I' H') (f : ∀ x ∈ F', x ∈ F ∨ H x = none) (s : Sta K (fun a => H0 a = none) I' H' σ δ μ' F') : At K I0 H0 F0 Ib I' H' σ δ μ' F' :=
  ⟨a.st.trans st a.sub, sub_trans a.st a.sub f, s, a.ib.trans st.ii⟩
theorem At.weak {Ic : Hp} (a : At K I0 H0 F0 Ib I H σ δ μ F) (e : Ex Ic Ib) : At K I0 H0 F0 Ic I H σ δ μ F := ⟨a.st, a.sub, a.s, e.trans a.ib⟩
theorem Sta.set {Lc : Addr → Prop} (s : Sta K Lc I H σ δ μ F) {o : Option V} {r : SK} (ok : SOk K I o r) (i : Nat) : Sta K Lc I H (σ.set i o) (δ.set i r) μ F := ⟨s.ih, s.lc, s.sl.set ok i, s.mu⟩
theorem rs_seq (h : RS K t δ μ { E with nx := fun δ' μ' => RS K u δ' μ' E }) : RS K (tSeq t u) δ μ E := fun I0 H0 F0 Ib I H σ F a D e =>
  h I0 H0 F0 Ib I H σ F a _ ⟨fun I1 H1 σ1 δ1 μ1 F1 a1 q1 => q1 I0 H0 F0 Ib I1 H1 σ1 F1 a1 D e, e.rt, e.bk, e.ct⟩
theorem rs_next (q : E.nx δ μ) : RS K tNext δ μ E := fun I0 H0 F0 Ib I H σ F a D e => e.nx I H σ δ μ F a q
theorem rs_break (q : E.bk δ μ) : RS K tBreak δ μ E := fun I0 H0 F0 Ib I H σ F a D e => e.bk I H σ δ μ F a q
theorem rs_cont (q : E.ct δ μ) : RS K tCont δ μ E := fun I0 H0 F0 Ib I H σ F a D e => e.ct I H σ δ μ F a q
theorem rs_set {i : Nat} (h : RD K te δ μ fun r μ1 => E.nx (δ.set i r) μ1) : RS K (tAsg te (gName i)) δ μ E := fun I0 H0 F0 Ib I H σ F a D e =>
  h _ I H σ F a.s _ fun v I1 H1 r μ1 F1 st f s1 ok q => e.nx I1 H1 (σ.set i (some v)) (δ.set i r) μ1 F1 ⟨a.st.trans st a.sub, sub_trans a.st a.sub f, s1.set ok i, a.ib.trans st.ii⟩ q
theorem rs_ret (h : RD K te δ μ fun r μ1 => E.rt r μ1) : RS K (tRet te) δ μ E := fun I0 H0 F0 Ib I H σ F a D e =>
  h _ I H σ F a.s _ fun v I1 H1 r μ1 F1 st f s1 ok q => e.rt v r I1 H1 σ δ μ1 F1 (a.on st f s1) ok q
theorem rs_retN (q : E.rt (.dat .non) μ) : RS K tRetN δ μ E := fun I0 H0 F0 Ib I H σ F a D e => e.rt .non (.dat .non) I H σ δ μ F a Rep.non q
theorem rs_drop (h : RD K te δ μ fun r μ1 => E.nx δ μ1) : RS K (tDrop te) δ μ E := fun I0 H0 F0 Ib I H σ F a D e =>
  h _ I H σ F a.s _ fun v I1 H1 r μ1 F1 st f s1 ok q => e.nx I1 H1 σ δ μ1 F1 (a.on st f s1) q
theorem rs_if (h : RT K tt δ μ fun b μ1 => (b = true → RS K t δ μ1 E) ∧ (b = false → RS K u δ μ1 E)) : RS K (tIfS tt t u) δ μ E := fun I0 H0 F0 Ib I H σ F a D e =>
  h _ I H σ F a.s _ fun b I1 H1 μ1 F1 st f s1 q => by
    cases b with
    | true => exact q.1 rfl I0 H0 F0 Ib I1 H1 σ F1 (a.on st f s1) D e
    | false => exact q.2 rfl I0 H0 F0 Ib I1 H1 σ F1 (a.on st f s1) D e
theorem rs_mono {E' : DE} (h : RS K t δ μ E') (nx : ∀ δ μ, E'.nx δ μ → E.nx δ μ) (rt : ∀ r μ, E'.rt r μ → E.rt r μ) (bk : ∀ δ μ, E'.bk δ μ → E.bk δ μ) (ct : ∀ δ μ, E'.ct δ μ → E.ct δ μ) : RS K t δ μ E :=
  fun I0 H0 F0 Ib I H σ F a D e => h I0 H0 F0 Ib I H σ F a D ⟨fun I H σ δ μ F a q => e.nx I H σ δ μ F a (nx _ _ q), fun v r I H σ δ μ F a ok q => e.rt v r I H σ δ μ F a ok (rt _ _ q), fun I H σ δ μ F a q => e.bk I H σ δ μ F a (bk _ _ q), fun I H σ δ μ F a q => e.ct I H σ δ μ F a (ct _ _ q)⟩

/-! ### targets -/
def RG (K : PySem.W.Frag) (g : TG) (r : SK) (δ : List SK) (Q : List SK → Prop) : Prop :=
  ∀ Lc I H σ μ F, Sta K Lc I H σ δ μ F → ∀ v, SOk K I (some v) r → ∀ QQ : St → Hp → Prop, (∀ σ' δ', Sta K Lc I H σ' δ' μ F → Q δ' → QQ σ' H) → g v σ H QQ
def RGs (K : PySem.W.Frag) (g : TGs) (ds : List Da) (δ : List SK) (Q : List SK → Prop) : Prop :=
  ∀ Lc I H σ μ F, Sta K Lc I H σ δ μ F → ∀ vs, RepL K I vs ds → ∀ QQ : St → Hp → Prop, (∀ σ' δ', Sta K Lc I H σ' δ' μ F → Q δ' → QQ σ' H) → g vs σ H QQ
theorem rg_name {i : Nat} {r : SK} {Q : List SK → Prop} (q : Q (δ.set i r)) : RG K (gName i) r δ Q := fun Lc I H σ μ F s v ok QQ p => p _ _ (s.set ok i) q
theorem rgs_nil {Q : List SK → Prop} (q : Q δ) : RGs K gNil [] δ Q := fun Lc I H σ μ F s vs ok QQ p => by
  cases ok
  exact ⟨rfl, p σ δ s q⟩
theorem rgs_cons {g : TG} {gs : TGs} {d : Da} {ds : List Da} {Q : List SK → Prop} (h : RG K g (.dat d) δ fun δ1 => RGs K gs ds δ1 Q) : RGs K (gCons g gs) (d :: ds) δ Q := fun Lc I H σ μ F s vs ok QQ p => by
  cases ok with
  | cons a b => exact ⟨_, _, rfl, h Lc I H σ μ F s _ a _ fun σ1 δ1 s1 q1 => q1 Lc I H σ1 μ F s1 _ b QQ p⟩
theorem rg_tup {n : Nat} {gs : TGs} {ds : List Da} {Q : List SK → Prop} (hl : ds.length = n) (h : RGs K gs ds δ Q) : RG K (gTup K n gs) (.dat (.tup ds)) δ Q := fun Lc I H σ μ F s v ok QQ p => by
  cases ok with
  | tup hs hr => exact ⟨_, _, rfl, s.ih.t hs, (repl_len hr).trans hl, h Lc I H σ μ F s _ hr QQ p⟩
/-- a target of any form -/
theorem rs_asg {g : TG} (h : RD K te δ μ fun r μ1 => RG K g r δ fun δ1 => E.nx δ1 μ1) : RS K (tAsg te g) δ μ E := fun I0 H0 F0 Ib I H σ F a D e =>
  h _ I H σ F a.s _ fun v I1 H1 r μ1 F1 st f s1 ok q => q _ I1 H1 σ μ1 F1 s1 v ok _ fun σ2 δ2 s2 q2 => e.nx I1 H1 σ2 δ2 μ1 F1 ⟨a.st.trans st a.sub, sub_trans a.st a.sub f, s2, a.ib.trans st.ii⟩ q2

/-! ### what is still changed: lists that grow, that become data -/
theorem MuOk.erase {Lc : Addr → Prop} (q : MuOk K Lc I H F μ) : ∀ {i : Nat} {a : Addr} {k : MK} {fl : Bool}, μ[i]? = some (a, k, fl) → ∃ Fi G, MOk K I H Fi a k ∧ (∀ x ∈ Fi, x ∈ F) ∧ (fl = true → ∀ x ∈ Fi, Lc x) ∧ MuOk K Lc I H G (μ.eraseIdx i) ∧ (∀ x ∈ G, x ∈ F) ∧ (∀ x ∈ Fi, x ∉ G) := by
  induction q with
  | nil => intro i a k fl e; simp at e
  | @cons F1 G1 a1 k1 fl1 μ1 m n d nd l q ih =>
    intro i a k fl e
    cases i with
    | zero =>
      simp only [List.getElem?_cons_zero, Option.some.injEq, Prod.mk.injEq] at e
      obtain ⟨rfl, rfl, rfl⟩ := e
      exact ⟨F1, G1, m, fun x hx => List.mem_append_left _ hx, l, q, fun x hx => List.mem_append_right _ hx, d⟩
    | succ i =>
      obtain ⟨Fi, G, m1, s1, l1, q1, g1, d1⟩ := ih (by simpa using e)
      refine ⟨Fi, F1 ++ G, m1, fun x hx => List.mem_append_right _ (s1 x hx), l1, .cons m n (fun x hx z => d x hx (g1 x z)) nd l q1, fun x hx => ?_, fun x hx z => ?_⟩
      · rcases List.mem_append.mp hx with z | z
        · exact List.mem_append_left _ z
        · exact List.mem_append_right _ (g1 x z)
      · rcases List.mem_append.mp z with y | y
        · exact d x y (s1 x hx)
        · exact d1 x hx y
/-- a list of the def's own becomes data -/
theorem At.freeze (a : At K I0 H0 F0 Ib I H σ δ μ F) {i : Nat} {l : Addr} {ds : List Da} (h : μ[i]? = some (l, .ml ds, true)) : ∃ I' F', At K I0 H0 F0 Ib I' H σ δ (μ.eraseIdx i) F' ∧ Ex I I' ∧ Rep K I' (.ref l) (.lst ds) := by
  obtain ⟨Fi, G, m, s1, l1, q, g, d⟩ := a.s.mu.erase h
  obtain ⟨rfl, xs, hx, r⟩ := m
  have hlI : I l = none := (a.s.mu.live l (s1 l (by simp))).1
  have hl0 : H0 l = none := l1 rfl l (by simp)
  have e : Ex I (upd I l (.lst xs)) := Ex.new hlI
  refine ⟨upd I l (.lst xs), G, ⟨⟨a.st.ii.trans e, a.st.keep, fun x hx hn => ?_, a.st.alive⟩, fun x hx => a.sub x (g x hx), ⟨fun b u hb => ?_, a.s.lc, a.s.sl.mono e, ?_⟩, a.ib.trans e⟩, e, Rep.lst upd_same (r.mono e)⟩
  · have : x ≠ l := fun z => hx (by rw [z]; exact hl0)
    rw [upd_ne this]; exact a.st.own x hx hn
  · by_cases z : b = l
    · rw [z, upd_same] at hb
      rw [z, hx]; exact hb
    · rw [upd_ne z] at hb; exact a.s.ih b u hb
  · refine q.mono e (fun _ _ => rfl) (fun x hx => ?_) fun _ _ z => z
    have : x ≠ l := fun z => d l (by simp) (z ▸ hx)
    rw [upd_ne this]; exact (q.live x hx).1
theorem set_get {α : Type} : ∀ {xs : List α} {i : Nat} {x : α}, xs[i]? = some x → xs.set i x = xs
  | [], _, _, e => by simp at e
  | a :: r, 0, x, e => by
    simp only [List.getElem?_cons_zero, Option.some.injEq] at e
    subst e; rfl
  | a :: r, i + 1, x, e => by
    have := set_get (xs := r) (i := i) (x := x) (by simpa using e)
    simp [this]
theorem rs_freeze {i j : Nat} {l : Addr} {ds : List Da} (h : RS K t (δ.set j (.dat (.lst ds))) (μ.eraseIdx i) E) (hi : μ[i]? = some (l, .ml ds, true)) (hj : δ[j]? = some (.own l)) : RS K t δ μ E := fun I0 H0 F0 Ib I H σ F a D e => by
  obtain ⟨I', F', a', ex, r⟩ := a.freeze hi
  obtain ⟨o, ho, ok⟩ := a.s.sl.get hj
  cases o with
  | none => exact ok.elim
  | some v =>
    have ok' : v = .ref l := ok
    subst ok'
    have hs : σ.set j (some (.ref l)) = σ := set_get ho
    refine h I0 H0 F0 Ib I' H σ F' ⟨a'.st, a'.sub, ?_, a'.ib⟩ D e
    have := a'.s.set (o := some (.ref l)) (r := .dat (.lst ds)) r j
    rw [hs] at this
    exact this
/-- return of a list of the def's own -/
theorem rs_retF (h : RD K te δ μ fun r μ1 => ∃ l i ds, r = .own l ∧ μ1[i]? = some (l, MK.ml ds, true) ∧ E.rt (.dat (.lst ds)) (μ1.eraseIdx i)) : RS K (tRet te) δ μ E := fun I0 H0 F0 Ib I H σ F a D e =>
  h _ I H σ F a.s _ fun v I1 H1 r μ1 F1 st f s1 ok ⟨l, i, ds, er, hi, q⟩ => by
    subst er
    have ok' : v = .ref l := ok
    subst ok'
    obtain ⟨I', F', a', ex, r⟩ := (a.on st f s1).freeze hi
    exact e.rt (.ref l) (.dat (.lst ds)) I' H1 σ δ _ F' a' r q
theorem repl_app {I : Hp} {v : V} {d : Da} (h : Rep K I v d) : ∀ {vs : List V} {ds : List Da}, RepL K I vs ds → RepL K I (vs ++ [v]) (ds ++ [d])
  | _, _, .nil => .cons h .nil
  | _, _, .cons a b => .cons a (repl_app h b)
/-- x.append(e) -/
theorem rs_app {i : Nat} {l : Addr} (hi : δ[i]? = some (.own l)) (h0 : ∃ (j : Nat) (ds : List Da) (fl : Bool), μ[j]? = some (l, MK.ml ds, fl))
    (h : RD K te δ μ fun r μ1 => ∃ (d : Da) (j : Nat) (ds : List Da) (fl : Bool), r = .dat d ∧ μ1[j]? = some (l, MK.ml ds, fl) ∧ ds.length < 100000 ∧ E.nx δ (μ1.set j (l, MK.ml (ds ++ [d]), fl))) :
    RS K (tDrop (tBM K "list" rAppend (tVar i) (tCons te tNil))) δ μ E := fun I0 H0 F0 Ib I H σ F a D e => by
  obtain ⟨j0, ds0, fl0, h0⟩ := h0
  obtain ⟨o, ho, ok⟩ := a.s.sl.get hi
  cases o with
  | none => exact ok.elim
  | some v =>
    have ok' : v = .ref l := ok
    subst ok'
    obtain ⟨Fi0, m0, _⟩ := a.s.mu.at h0
    obtain ⟨_, xs0, hx0, _⟩ := m0
    refine ⟨.ref l, ho, .inl ⟨rfl, xs0, SqL.of hx0⟩, ?_⟩
    refine h _ I H σ F a.s _ fun w I1 H1 r μ1 F1 st f s1 ok1 ⟨d, j, ds, fl, er, hj, hl, q⟩ => ?_
    subst er
    obtain ⟨Fi, m, sF, lF, mk⟩ := s1.mu.at hj
    obtain ⟨rfl, xs, hx, r⟩ := m
    have hlF : l ∈ F1 := sF l (by simp)
    refine ⟨l, xs, w, rfl, rfl, hx, Nat.lt_of_lt_of_le (by rw [repl_len r]; exact hl) (by decide : 100000 ≤ sizeLine), ?_⟩
    have st2 : Step F1 I1 H1 I1 (upd H1 l (.lst (xs ++ [w]))) := Step.put hlF (by rw [hx]; simp)
    refine e.nx I1 _ σ δ _ F1 ((a.on st f s1).on st2 (fun x hx => .inl hx) ⟨fun b u hb => ?_, fun b hb => s1.lc b ?_, s1.sl, ?_⟩) q
    · have : b ≠ l := fun z => by
        have := (s1.mu.live l hlF).1
        rw [← z, hb] at this; cases this
      rw [upd_ne this]; exact s1.ih b u hb
    · by_cases z : b = l
      · rw [z, upd_same] at hb; cases hb
      · rw [upd_ne z] at hb; exact hb
    · exact mk _ I1 _ (Ex.refl I1) (fun x hx hn => upd_ne fun z => hn (by simp [z])) (fun x hx => (s1.mu.live x hx).1) ⟨rfl, _, upd_same, repl_app ok1 r⟩
end

/-! ### reading a list: data, or one that is still changed -/
inductive IsL (μ : Mu) : SK → List Da → Prop
  | dat (ds : List Da) : IsL μ (.dat (.lst ds)) ds
  | own {l : Addr} {i : Nat} {ds : List Da} {fl : Bool} : μ[i]? = some (l, .ml ds, fl) → IsL μ (.own l) ds
theorem IsL.sq {K : PySem.W.Frag} {Lc : Addr → Prop} {I H : Hp} {σ : St} {δ : List SK} {μ : Mu} {F : List Addr} (s : Sta K Lc I H σ δ μ F) {v : V} {r : SK} {ds : List Da} (h : IsL μ r ds) (ok : SOk K I (some v) r) : ∃ a xs, v = .ref a ∧ SqL K H a xs ∧ RepL K I xs ds := by
  cases h with
  | dat =>
    cases ok with
    | lst hs hr => exact ⟨_, _, rfl, SqL.of (s.ih _ _ hs), hr⟩
  | own h =>
    have ok' : v = .ref _ := ok
    obtain ⟨Fi, m, _⟩ := s.mu.at h
    obtain ⟨_, xs, hx, r⟩ := m
    exact ⟨_, xs, ok', SqL.of hx, r⟩
theorem repl_get {K : PySem.W.Frag} {I : Hp} : ∀ {vs : List V} {ds : List Da} {i : Nat} {v : V}, RepL K I vs ds → vs[i]? = some v → ∃ d, ds[i]? = some d ∧ Rep K I v d
  | _, _, _, _, .nil, e => by simp at e
  | _, _, 0, v, .cons a b, e => by
    simp only [List.getElem?_cons_zero, Option.some.injEq] at e
    subst e
    exact ⟨_, rfl, a⟩
  | _, _, i + 1, v, .cons a b, e => repl_get (i := i) b (by simpa using e)
theorem repl_get' {K : PySem.W.Frag} {I : Hp} : ∀ {vs : List V} {ds : List Da} {i : Nat} {d : Da}, RepL K I vs ds → ds[i]? = some d → ∃ v, vs[i]? = some v ∧ Rep K I v d
  | _, _, _, _, .nil, e => by simp at e
  | _, _, 0, v, .cons a b, e => by
    simp only [List.getElem?_cons_zero, Option.some.injEq] at e
    subst e
    exact ⟨_, rfl, a⟩
  | _, _, i + 1, v, .cons a b, e => repl_get' (i := i) b (by simpa using e)

/-! ### loops -/
section
variable {K : PySem.W.Frag} {δ : List SK} {μ : Mu} {E : DE} {te tl : TE} {ta : TA} {tb : TS} {g : TG}
/-- over data that is a list -/
theorem rs_forL (h : RD K tl δ μ fun r μ1 => ∃ ds, r = .dat (.lst ds) ∧ ∃ Pv : Nat → List SK → Mu → Prop, Pv 0 δ μ1 ∧
      (∀ i d δ' μ', ds[i]? = some d → Pv i δ' μ' → RG K g (.dat d) δ' fun δ2 => RS K tb δ2 μ' { E with nx := Pv (i + 1), ct := Pv (i + 1), bk := E.nx }) ∧ (∀ δ' μ', Pv ds.length δ' μ' → E.nx δ' μ')) :
    RS K (tFor (iList K tl) g tb) δ μ E := fun I0 H0 F0 Ib I H σ F a D e =>
  h _ I H σ F a.s _ fun v I1 H1 r μ1 F1 st f s1 ok ⟨ds, er, Pv, p0, ps, pd⟩ => by
    subst er
    cases ok with
    | lst hs hr =>
      rename_i ad xs
      have e1 : Ex Ib I1 := a.ib.trans st.ii
      have a1 := a.on st f s1
      refine ⟨ad, rfl, ⟨xs, SqL.of (s1.ih _ _ hs)⟩, for_list (K := K) (a := ad) (xs := xs) (fun i σ2 H2 => ∃ I2 δ2 μ2 F2, At K I0 H0 F0 I1 I2 H2 σ2 δ2 μ2 F2 ∧ Pv i δ2 μ2) ⟨I1, δ, μ1, F1, ⟨a1.st, a1.sub, a1.s, Ex.refl _⟩, p0⟩ ?_ ?_ ?_⟩
      · rintro i σ2 H2 _ ⟨I2, δ2, μ2, F2, a2, _⟩
        exact SqL.of (a2.s.ih _ _ (a2.ib _ _ hs))
      · rintro i x σ2 H2 hx ⟨I2, δ2, μ2, F2, a2, p⟩
        obtain ⟨d, hd, rd⟩ := repl_get hr hx
        refine ps i d δ2 μ2 hd p _ I2 H2 σ2 μ2 F2 a2.s x (Rep.mono a2.ib rd) _ fun σ3 δ3 s3 q3 => ?_
        exact q3 I0 H0 F0 I1 I2 H2 σ3 F2 ⟨a2.st, a2.sub, s3, a2.ib⟩ _ ⟨fun I4 H4 σ4 δ4 μ4 F4 a4 q4 => ⟨I4, δ4, μ4, F4, a4, q4⟩, fun v r I4 H4 σ4 δ4 μ4 F4 a4 ok4 q4 => e.rt v r I4 H4 σ4 δ4 μ4 F4 (a4.weak e1) ok4 q4,
          fun I4 H4 σ4 δ4 μ4 F4 a4 q4 => e.nx I4 H4 σ4 δ4 μ4 F4 (a4.weak e1) q4, fun I4 H4 σ4 δ4 μ4 F4 a4 q4 => ⟨I4, δ4, μ4, F4, a4, q4⟩⟩
      · rintro σ2 H2 ⟨I2, δ2, μ2, F2, a2, p⟩
        rw [repl_len hr] at p
        exact e.nx I2 H2 σ2 δ2 μ2 F2 (a2.weak e1) (pd δ2 μ2 p)
/-- over data that is a tuple -/
theorem rs_forU (h : RD K tl δ μ fun r μ1 => ∃ ds, r = .dat (.tup ds) ∧ ∃ Pv : Nat → List SK → Mu → Prop, Pv 0 δ μ1 ∧
      (∀ i d δ' μ', ds[i]? = some d → Pv i δ' μ' → RG K g (.dat d) δ' fun δ2 => RS K tb δ2 μ' { E with nx := Pv (i + 1), ct := Pv (i + 1), bk := E.nx }) ∧ (∀ δ' μ', Pv ds.length δ' μ' → E.nx δ' μ')) :
    RS K (tFor (iTup K tl) g tb) δ μ E := fun I0 H0 F0 Ib I H σ F a D e =>
  h _ I H σ F a.s _ fun v I1 H1 r μ1 F1 st f s1 ok ⟨ds, er, Pv, p0, ps, pd⟩ => by
    subst er
    cases ok with
    | tup hs hr =>
      rename_i ad xs
      have e1 : Ex Ib I1 := a.ib.trans st.ii
      have a1 := a.on st f s1
      refine ⟨ad, rfl, ⟨xs, s1.ih.t hs⟩, for_tup (K := K) (a := ad) (xs := xs) (fun i σ2 H2 => ∃ I2 δ2 μ2 F2, At K I0 H0 F0 I1 I2 H2 σ2 δ2 μ2 F2 ∧ Pv i δ2 μ2) ⟨I1, δ, μ1, F1, ⟨a1.st, a1.sub, a1.s, Ex.refl _⟩, p0⟩ ?_ ?_ ?_⟩
      · rintro i σ2 H2 _ ⟨I2, δ2, μ2, F2, a2, _⟩
        exact a2.s.ih.t (a2.ib.t hs)
      · rintro i x σ2 H2 hx ⟨I2, δ2, μ2, F2, a2, p⟩
        obtain ⟨d, hd, rd⟩ := repl_get hr hx
        refine ps i d δ2 μ2 hd p _ I2 H2 σ2 μ2 F2 a2.s x (Rep.mono a2.ib rd) _ fun σ3 δ3 s3 q3 => ?_
        exact q3 I0 H0 F0 I1 I2 H2 σ3 F2 ⟨a2.st, a2.sub, s3, a2.ib⟩ _ ⟨fun I4 H4 σ4 δ4 μ4 F4 a4 q4 => ⟨I4, δ4, μ4, F4, a4, q4⟩, fun v r I4 H4 σ4 δ4 μ4 F4 a4 ok4 q4 => e.rt v r I4 H4 σ4 δ4 μ4 F4 (a4.weak e1) ok4 q4,
          fun I4 H4 σ4 δ4 μ4 F4 a4 q4 => e.nx I4 H4 σ4 δ4 μ4 F4 (a4.weak e1) q4, fun I4 H4 σ4 δ4 μ4 F4 a4 q4 => ⟨I4, δ4, μ4, F4, a4, q4⟩⟩
      · rintro σ2 H2 ⟨I2, δ2, μ2, F2, a2, p⟩
        rw [repl_len hr] at p
        exact e.nx I2 H2 σ2 δ2 μ2 F2 (a2.weak e1) (pd δ2 μ2 p)
/-- over range(n) -/
theorem rs_forR (h : RA K ta δ μ fun rs μ1 => ∃ n : Nat, rs = [.dat (.int n)] ∧ n ≤ 1000000 ∧ ∃ Pv : Nat → List SK → Mu → Prop, Pv 0 δ μ1 ∧
      (∀ i δ' μ', i < n → Pv i δ' μ' → RG K g (.dat (.int (i : Nat))) δ' fun δ2 => RS K tb δ2 μ' { E with nx := Pv (i + 1), ct := Pv (i + 1), bk := E.nx }) ∧ (∀ δ' μ', Pv n δ' μ' → E.nx δ' μ')) :
    RS K (tFor (iRng1 ta) g tb) δ μ E := fun I0 H0 F0 Ib I H σ F a D e =>
  h _ I H σ F a.s _ fun vs I1 H1 rs μ1 F1 st f s1 ok ⟨n, er, hn, Pv, p0, ps, pd⟩ => by
    subst er
    obtain ⟨rfl⟩ : vs = [.int n] := by
      cases vs with
      | nil => cases ok
      | cons v r =>
        cases ok with
        | cons x y =>
          cases r with
          | nil => cases x; rfl
          | cons _ _ => cases y
    have a1 := a.on st f s1
    have e1 : Ex Ib I1 := a.ib.trans st.ii
    refine ⟨n, rfl, by omega, by omega, ?_⟩
    rw [Int.toNat_natCast]
    refine for_range (lo := 0) (n := n) (fun i σ2 H2 => ∃ I2 δ2 μ2 F2, At K I0 H0 F0 I1 I2 H2 σ2 δ2 μ2 F2 ∧ Pv i δ2 μ2) ⟨I1, δ, μ1, F1, ⟨a1.st, a1.sub, a1.s, Ex.refl _⟩, p0⟩ ?_ ?_
    · rintro i σ2 H2 hi ⟨I2, δ2, μ2, F2, a2, p⟩
      rw [Int.zero_add]
      refine ps i δ2 μ2 hi p _ I2 H2 σ2 μ2 F2 a2.s (.int i) (Rep.int _) _ fun σ3 δ3 s3 q3 => ?_
      exact q3 I0 H0 F0 I1 I2 H2 σ3 F2 ⟨a2.st, a2.sub, s3, a2.ib⟩ _ ⟨fun I4 H4 σ4 δ4 μ4 F4 a4 q4 => ⟨I4, δ4, μ4, F4, a4, q4⟩, fun v r I4 H4 σ4 δ4 μ4 F4 a4 ok4 q4 => e.rt v r I4 H4 σ4 δ4 μ4 F4 (a4.weak e1) ok4 q4,
        fun I4 H4 σ4 δ4 μ4 F4 a4 q4 => e.nx I4 H4 σ4 δ4 μ4 F4 (a4.weak e1) q4, fun I4 H4 σ4 δ4 μ4 F4 a4 q4 => ⟨I4, δ4, μ4, F4, a4, q4⟩⟩
    · rintro σ2 H2 ⟨I2, δ2, μ2, F2, a2, p⟩
      exact e.nx I2 H2 σ2 δ2 μ2 F2 (a2.weak e1) (pd δ2 μ2 p)
end
end DL
namespace DL
open PySem L2

/-! ### comprehensions -/
/-- the target's names are the comprehension's own -/
def TgIn (g : TG) (vs : List Nat) : Prop := ∀ v σ H QQ, g v σ H QQ → g v σ H fun σ' H' => L2.wipe σ' vs = L2.wipe σ vs ∧ QQ σ' H'
def TgsIn (g : TGs) (vs : List Nat) : Prop := ∀ xs σ H QQ, g xs σ H QQ → g xs σ H fun σ' H' => L2.wipe σ' vs = L2.wipe σ vs ∧ QQ σ' H'
theorem wipe_set {o : Option V} {i : Nat} : ∀ {vs : List Nat} (σ : St), i ∈ vs → L2.wipe (σ.set i o) vs = L2.wipe σ vs
  | [], σ, h => by cases h
  | v :: vs, σ, h => by
    show (L2.wipe (σ.set i o) vs).set v none = (L2.wipe σ vs).set v none
    by_cases hm : i ∈ vs
    · rw [wipe_set σ hm]
    · have hv : i = v := by
        rcases List.mem_cons.mp h with z | z
        · exact z
        · exact absurd z hm
      subst hv
      have comm : ∀ (ws : List Nat), i ∉ ws → L2.wipe (σ.set i o) ws = (L2.wipe σ ws).set i o := by
        intro ws
        induction ws with
        | nil => intro _; rfl
        | cons w ws ih =>
          intro hn
          show (L2.wipe (σ.set i o) ws).set w none = ((L2.wipe σ ws).set w none).set i o
          rw [ih fun z => hn (List.mem_cons_of_mem _ z), List.set_comm _ _ fun z => hn (by rw [z]; exact List.mem_cons_self)]
      rw [comm vs hm, List.set_set]
theorem tgIn_name {i : Nat} {vs : List Nat} (h : i ∈ vs) : TgIn (gName i) vs := fun v σ H QQ q => ⟨wipe_set σ h, q⟩
theorem tgsIn_nil {vs : List Nat} : TgsIn gNil vs := fun xs σ H QQ ⟨e, q⟩ => ⟨e, rfl, q⟩
theorem tgsIn_cons {g : TG} {gs : TGs} {vs : List Nat} (gm : ∀ v σ H (Q Q' : St → Hp → Prop), (∀ σ' H', Q σ' H' → Q' σ' H') → g v σ H Q → g v σ H Q') (h1 : TgIn g vs) (h2 : TgsIn gs vs) : TgsIn (gCons g gs) vs := fun xs σ H QQ q => by
  obtain ⟨v, r, e, q⟩ := q
  refine ⟨v, r, e, gm v σ H _ _ ?_ (h1 v σ H _ q)⟩
  rintro σ' H' ⟨w, q2⟩
  have q3 := h2 r σ' H' QQ q2
  rw [w] at q3
  exact q3
theorem gm_name {i : Nat} : ∀ v σ H (Q Q' : St → Hp → Prop), (∀ σ' H', Q σ' H' → Q' σ' H') → gName i v σ H Q → gName i v σ H Q' := fun v σ H Q Q' h q => h _ _ q
theorem tgIn_tup {K : PySem.W.Frag} {n : Nat} {gs : TGs} {vs : List Nat} (h : TgsIn gs vs) : TgIn (gTup K n gs) vs := fun v σ H QQ ⟨a, xs, e, hq, hl, q⟩ => ⟨a, xs, e, hq, hl, h xs σ H QQ q⟩
theorem wipe_wipe (σ : St) (vs : List Nat) : L2.wipe (L2.wipe σ vs) vs = L2.wipe σ vs := by
  have all : ∀ ws : List Nat, (∀ x ∈ ws, x ∈ vs) → L2.wipe (L2.wipe σ ws) vs = L2.wipe σ vs := by
    intro ws
    induction ws with
    | nil => intro _; rfl
    | cons w ws ih =>
      intro h
      show L2.wipe ((L2.wipe σ ws).set w none) vs = _
      rw [wipe_set _ (h w List.mem_cons_self), ih fun x hx => h x (List.mem_cons_of_mem _ hx)]
  exact all vs fun _ h => h
section
variable {K : PySem.W.Frag} {δ : List SK} {μ : Mu} {Q : SK → Mu → Prop} {te tl : TE} {ta : TA} {tt : TT} {g : TG} {vs : List Nat}
/-- the state of a comprehension between two turns -/
structure LcAt (K : PySem.W.Frag) (Lc : Addr → Prop) (I1 H1 : Hp) (σ : St) (δ : List SK) (F1 : List Addr) (L : Addr) (Pv : List Da → Mu → Prop) (H : Hp) : Prop where
  w : ∃ I μ F acc accV, Step F1 I1 H1 I H ∧ (∀ x ∈ F, x ∈ F1 ∨ H1 x = none) ∧ Sta K Lc I H σ δ μ F ∧ H L = some (.lst accV) ∧ RepL K I accV acc ∧ L ∉ F ∧ I L = none ∧ Pv acc μ
theorem lc_start {Lc : Addr → Prop} {I1 H1 : Hp} {σ : St} {F1 : List Addr} {L : Addr} {Pv : List Da → Mu → Prop} (s1 : Sta K Lc I1 H1 σ δ μ F1) (hL : H1 L = none) (p0 : Pv [] μ) : LcAt K Lc I1 H1 σ δ F1 L Pv (upd H1 L (.lst [])) := by
  have hne : ∀ x ∈ F1, x ≠ L := fun x hx z => (s1.mu.live x hx).2 (by rw [z]; exact hL)
  refine ⟨I1, μ, F1, [], [], Step.fresh hL, fun x hx => .inl hx, ⟨fun a u h => ?_, fun a h => s1.lc a ?_, s1.sl, s1.mu.mono (Ex.refl I1) (fun x hx => upd_ne (hne x hx)) (fun x hx => (s1.mu.live x hx).1) fun _ _ z => z⟩, upd_same, .nil, fun hx => hne L hx rfl, s1.ih.gone hL, p0⟩
  · have z : a ≠ L := fun z => by
      have := s1.ih.gone hL
      rw [← z, h] at this; cases this
    rw [upd_ne z]; exact s1.ih a u h
  · by_cases z : a = L
    · rw [z]; exact hL
    · rw [upd_ne z] at h; exact h
theorem lc_end {Lc : Addr → Prop} {I1 H1 H : Hp} {σ : St} {F1 : List Addr} {L : Addr} {Pv : List Da → Mu → Prop} {QQ : VK} (s1 : Sta K Lc I1 H1 σ δ μ F1) (hL : H1 L = none) (p : Post K Lc σ δ F1 I1 H1 Q QQ) (h : LcAt K Lc I1 H1 σ δ F1 L Pv H) (q : ∀ acc μ', Pv acc μ' → Q (.dat (.lst acc)) μ') : QQ (.ref L) H := by
  obtain ⟨I, μ', F, acc, accV, st, f, s, hH, r, hF, hI, pv⟩ := h
  have e : Ex I (upd I L (.lst accV)) := Ex.new hI
  refine p (.ref L) (upd I L (.lst accV)) H (.dat (.lst acc)) μ' F ⟨st.ii.trans e, st.keep, fun x hx hn => ?_, st.alive⟩ f ⟨fun b u hb => ?_, s.lc, s.sl.mono e, s.mu.mono e (fun _ _ => rfl) (fun x hx => ?_) fun _ _ z => z⟩ (Rep.lst upd_same (r.mono e)) (q acc μ' pv)
  · have : x ≠ L := fun z => hx (by rw [z]; exact hL)
    rw [upd_ne this]; exact st.own x hx hn
  · by_cases z : b = L
    · rw [z, upd_same] at hb
      rw [z, hH]; exact hb
    · rw [upd_ne z] at hb; exact s.ih b u hb
  · have : x ≠ L := fun z => hF (z ▸ hx)
    rw [upd_ne this]; exact (s.mu.live x hx).1
/-- one turn: target, test, element -/
def LcTurn (K : PySem.W.Frag) (g : TG) (tt : TT) (te : TE) (vs : List Nat) (δ : List SK) (d : Da) (acc : List Da) (μ : Mu) (Nx : List Da → Mu → Prop) : Prop :=
  RG K g (.dat d) (wipeD δ vs) fun δ2 => RT K tt δ2 μ fun b μ2 => (b = true → RD K te δ2 μ2 fun y μ3 => ∃ d', y = .dat d' ∧ acc.length < 100000 ∧ Nx (acc ++ [d']) μ3) ∧ (b = false → Nx acc μ2)
theorem lc_turn {Lc : Addr → Prop} {I1 H1 : Hp} {σ : St} {F1 : List Addr} {L : Addr} {Pv Nx : List Da → Mu → Prop} {x : V} {d : Da} {H : Hp} (tg : TgIn g vs) (hL : H1 L = none) (h : LcAt K Lc I1 H1 σ δ F1 L Pv H) (rx : Rep K I1 x d)
    (t : ∀ acc μ, Pv acc μ → LcTurn K g tt te vs δ d acc μ Nx) :
    g x (L2.wipe σ vs) H fun σ2 H2 => L2.wipe σ2 vs = L2.wipe σ vs ∧ tt σ2 H2 fun b H3 =>
      if b = true then te σ2 H3 fun y H4 => ∃ acc, H4 L = some (.lst acc) ∧ acc.length < sizeLine ∧ LcAt K Lc I1 H1 σ δ F1 L Nx (upd H4 L (.lst (acc ++ [y]))) else LcAt K Lc I1 H1 σ δ F1 L Nx H3 := by
  obtain ⟨I, μ', F, acc, accV, st, f, s, hH, r, hF, hI, pv⟩ := h
  have sw : Sta K Lc I H (L2.wipe σ vs) (wipeD δ vs) μ' F := ⟨s.ih, s.lc, s.sl.wipe vs, s.mu⟩
  have key := tg x (L2.wipe σ vs) H (fun σ2 H2 => tt σ2 H2 fun b H3 =>
      if b = true then te σ2 H3 fun y H4 => ∃ acc, H4 L = some (.lst acc) ∧ acc.length < sizeLine ∧ LcAt K Lc I1 H1 σ δ F1 L Nx (upd H4 L (.lst (acc ++ [y]))) else LcAt K Lc I1 H1 σ δ F1 L Nx H3) ?_
  · rw [wipe_wipe] at key
    exact key
  refine t acc μ' pv Lc I H (L2.wipe σ vs) μ' F sw x (Rep.mono st.ii rx) _ fun σ2 δ2 s2 q2 => ?_
  refine q2 Lc I H σ2 F s2 _ fun b I3 H3 μ3 F3 st3 f3 s3 q3 => ?_
  have keepL : ∀ {I4 H4 : Hp} {F4 : List Addr}, Step F I H I4 H4 → H4 L = some (.lst accV) ∧ I4 L = none := fun {I4 H4 F4} z => ⟨z.keep L _ hH hF, z.own L (by rw [hH]; simp) hI⟩
  have notin : ∀ {F4 : List Addr}, (∀ x ∈ F4, x ∈ F ∨ H x = none) → L ∉ F4 := fun {F4} z hx => by
    rcases z L hx with y | y
    · exact hF y
    · rw [hH] at y; cases y
  cases b with
  | false =>
    show LcAt K Lc I1 H1 σ δ F1 L Nx H3
    obtain ⟨k1, k2⟩ := keepL (F4 := F3) st3
    exact ⟨I3, μ3, F3, acc, accV, st.trans st3 f, sub_trans st f f3, ⟨s3.ih, s3.lc, s.sl.mono st3.ii, s3.mu⟩, k1, r.mono st3.ii, notin f3, k2, q3.2 rfl⟩
  | true =>
    show te σ2 H3 _
    refine q3.1 rfl Lc I3 H3 σ2 F3 s3 _ fun y I4 H4 ry μ4 F4 st4 f4 s4 ok4 ⟨d', e4, hl, nx⟩ => ?_
    subst e4
    have stA : Step F I H I4 H4 := st3.trans st4 f3
    have fA := sub_trans st3 f3 f4
    obtain ⟨k1, k2⟩ := keepL (F4 := F4) stA
    refine ⟨accV, k1, Nat.lt_of_lt_of_le (by rw [repl_len r]; exact hl) (by decide : 100000 ≤ sizeLine), ?_⟩
    have hn4 : L ∉ F4 := notin fA
    have stB : Step F1 I1 H1 I4 (upd H4 L (.lst (accV ++ [y]))) := by
      have z := st.trans stA f
      refine ⟨z.ii, fun a o ha hn => ?_, z.own, fun a ha => ?_⟩
      · rw [upd_ne (ne_of_none ha hL)]; exact z.keep a o ha hn
      · by_cases w : a = L
        · rw [w, upd_same]; simp
        · rw [upd_ne w]; exact z.alive a ha
    refine ⟨I4, μ4, F4, acc ++ [d'], accV ++ [y], stB, sub_trans st f fA, ⟨fun a u h => ?_, fun a h => s4.lc a ?_, s.sl.mono stA.ii, s4.mu.mono (Ex.refl _) (fun x hx => upd_ne fun z => hn4 (z ▸ hx)) (fun x hx => (s4.mu.live x hx).1) fun _ _ z => z⟩, upd_same, repl_app ok4 (r.mono stA.ii), hn4, k2, nx⟩
    · have z : a ≠ L := fun z => by rw [z, k2] at h; cases h
      rw [upd_ne z]; exact s4.ih a u h
    · by_cases z : a = L
      · rw [z, upd_same] at h; cases h
      · rw [upd_ne z] at h; exact h
/-- [e for t in a list if ..] -/
theorem rd_lcL (tg : TgIn g vs) (h : RD K tl δ μ fun r μ1 => ∃ ds, r = .dat (.lst ds) ∧ ∃ Pv : Nat → List Da → Mu → Prop, Pv 0 [] μ1 ∧
      (∀ i d acc μ', ds[i]? = some d → Pv i acc μ' → LcTurn K g tt te vs δ d acc μ' (Pv (i + 1))) ∧ (∀ acc μ', Pv ds.length acc μ' → Q (.dat (.lst acc)) μ')) :
    RD K (tLc (iList K tl) g tt te vs) δ μ Q := fun Lc I H σ F s QQ p =>
  h Lc I H σ F s _ fun v I1 H1 r μ1 F1 st f s1 ok ⟨ds, er, Pv, p0, ps, pd⟩ => by
    subst er
    cases ok with
    | lst hs hr =>
      rename_i ad xs
      refine ⟨ad, rfl, ⟨xs, SqL.of (s1.ih _ _ hs)⟩, fun L hL => lc_list (K := K) (a := ad) (xs := xs) (fun i H2 => LcAt K Lc I1 H1 σ δ F1 L (Pv i) H2) (lc_start s1 hL p0) ?_ ?_ ?_⟩
      · rintro i H2 _ ⟨I2, μ2, F2, acc, accV, st2, f2, s2, _⟩
        exact SqL.of (s2.ih _ _ (st2.ii _ _ hs))
      · intro i x H2 hx a2
        obtain ⟨d, hd, rd⟩ := repl_get hr hx
        exact lc_turn tg hL a2 rd fun acc μ' pv => ps i d acc μ' hd pv
      · intro H2 a2
        rw [repl_len hr] at a2
        exact lc_end s1 hL (p.on st f) a2 pd
theorem rd_lcU (tg : TgIn g vs) (h : RD K tl δ μ fun r μ1 => ∃ ds, r = .dat (.tup ds) ∧ ∃ Pv : Nat → List Da → Mu → Prop, Pv 0 [] μ1 ∧
      (∀ i d acc μ', ds[i]? = some d → Pv i acc μ' → LcTurn K g tt te vs δ d acc μ' (Pv (i + 1))) ∧ (∀ acc μ', Pv ds.length acc μ' → Q (.dat (.lst acc)) μ')) :
    RD K (tLc (iTup K tl) g tt te vs) δ μ Q := fun Lc I H σ F s QQ p =>
  h Lc I H σ F s _ fun v I1 H1 r μ1 F1 st f s1 ok ⟨ds, er, Pv, p0, ps, pd⟩ => by
    subst er
    cases ok with
    | tup hs hr =>
      rename_i ad xs
      refine ⟨ad, rfl, ⟨xs, s1.ih.t hs⟩, fun L hL => lc_tup (K := K) (a := ad) (xs := xs) (fun i H2 => LcAt K Lc I1 H1 σ δ F1 L (Pv i) H2) (lc_start s1 hL p0) ?_ ?_ ?_⟩
      · rintro i H2 _ ⟨I2, μ2, F2, acc, accV, st2, f2, s2, _⟩
        exact s2.ih.t (st2.ii.t hs)
      · intro i x H2 hx a2
        obtain ⟨d, hd, rd⟩ := repl_get hr hx
        exact lc_turn tg hL a2 rd fun acc μ' pv => ps i d acc μ' hd pv
      · intro H2 a2
        rw [repl_len hr] at a2
        exact lc_end s1 hL (p.on st f) a2 pd
theorem vals1 {I : Hp} {vs : List V} {k : SK} (h : SlOk K I (vs.map some) [k]) : ∃ v, vs = [v] ∧ SOk K I (some v) k := by
  cases vs with
  | nil => cases h
  | cons v r =>
    cases h with
    | cons x y =>
      cases r with
      | nil => exact ⟨v, rfl, x⟩
      | cons _ _ => cases y
theorem vals2 {I : Hp} {vs : List V} {k l : SK} (h : SlOk K I (vs.map some) [k, l]) : ∃ v w, vs = [v, w] ∧ SOk K I (some v) k ∧ SOk K I (some w) l := by
  cases vs with
  | nil => cases h
  | cons v r =>
    cases h with
    | cons x y =>
      obtain ⟨w, e, z⟩ := vals1 y
      exact ⟨v, w, by rw [e], x, z⟩
/-- [e for t in range(n) if ..] -/
theorem rd_lcR (tg : TgIn g vs) (h : RA K ta δ μ fun rs μ1 => ∃ n : Nat, rs = [.dat (.int n)] ∧ n ≤ 1000000 ∧ ∃ Pv : Nat → List Da → Mu → Prop, Pv 0 [] μ1 ∧
      (∀ i acc μ', i < n → Pv i acc μ' → LcTurn K g tt te vs δ (.int (i : Nat)) acc μ' (Pv (i + 1))) ∧ (∀ acc μ', Pv n acc μ' → Q (.dat (.lst acc)) μ')) :
    RD K (tLc (iRng1 ta) g tt te vs) δ μ Q := fun Lc I H σ F s QQ p =>
  h Lc I H σ F s _ fun vs I1 H1 rs μ1 F1 st f s1 ok ⟨n, er, hn, Pv, p0, ps, pd⟩ => by
    subst er
    obtain ⟨v, rfl, ov⟩ := vals1 ok
    cases ov
    refine ⟨n, rfl, by omega, by omega, fun L hL => ?_⟩
    rw [Int.toNat_natCast]
    refine lc_range (lo := 0) (n := n) (fun i H2 => LcAt K Lc I1 H1 σ δ F1 L (Pv i) H2) (lc_start s1 hL p0) ?_ ?_
    · intro i H2 hi a2
      rw [Int.zero_add]
      exact lc_turn tg hL a2 (Rep.int _) fun acc μ' pv => ps i acc μ' hi pv
    · intro H2 a2
      exact lc_end s1 hL (p.on st f) a2 pd
end
end DL
namespace DL
open PySem L2
open PyProof.Rows (envOfC)

/-! ### promises -/
abbrev CA := List Da → (Da → Prop) → Prop
abbrev CP := List Da → Nat → (Da → Nat → Prop) → Prop
/-- from data to data -/
def spA (K : PySem.W.Frag) (n : Nat) (C : CA) : Sp := fun vs H Q _ => vs.length = n ∧ ∃ I ds R, Ex I H ∧ RepL K I vs ds ∧ C ds R ∧ ∀ v I' H' d, Step [] I H I' H' → Ex I' H' → Rep K I' v d → R d → Q v H'
/-- from the pool and data to data; the pool is drawn from -/
def spP (K : PySem.W.Frag) (n : Nat) (C : CP) : Sp := fun vs H Q _ => vs.length = n + 1 ∧ ∃ I p ws ds c R, vs = .ref p :: ws ∧ Ex I H ∧ I p = none ∧ PoolAt H p c ∧ RepL K I ws ds ∧ C ds c R ∧
  ∀ v I' H' d c', Step [p] I H I' H' → Ex I' H' → PoolAt H' p c' → Rep K I' v d → R d c' → Q v H'
/-- from data to a new pool -/
def spN (K : PySem.W.Frag) (n : Nat) (C : List Da → Prop) : Sp := fun vs H Q _ => vs.length = n ∧ ∃ I ds, Ex I H ∧ RepL K I vs ds ∧ C ds ∧ ∀ p H', H p = none → PoolAt H' p 0 → (∀ a o, H a = some o → H' a = some o) → Q (.ref p) H'
/-- __init__ of an instance -/
def spI (K : PySem.W.Frag) (n : Nat) (Cl : Addr) (C : List Da → (List (Str × Da) → Prop) → Prop) : Sp := fun vs H Q _ => vs.length = n + 1 ∧ ∃ I a dx ws ds R, vs = .ref a :: ws ∧ Ex I H ∧ I a = none ∧ I dx = none ∧ dx ≠ a ∧ H a = some (.ins Cl dx []) ∧ H dx = some (.own a) ∧ RepL K I ws ds ∧ C ds R ∧
  ∀ I' H' fs fds, Step [a, dx] I H I' H' → Ex I' H' → H' a = some (.ins Cl dx fs) → H' dx = some (.own a) → RepF K I' fs fds → R fds → Q .non H'

section
variable {K : PySem.W.Frag} {δ : List SK} {μ : Mu} {Q : SK → Mu → Prop} {te ta : TE} {tr : TA} {E : XK} {n : Nat}
theorem Sta.grow {Lc : Addr → Prop} {I H I' H' : Hp} {σ : St} {F G : List Addr} (s : Sta K Lc I H σ δ μ F) (st : Step G I H I' H') (hG : ∀ x ∈ G, x ∉ F) (e : Ex I' H') : Sta K Lc I' H' σ δ μ F where
  ih := e
  lc := fun a h => s.lc a (st.gone h)
  sl := s.sl.mono st.ii
  mu := s.mu.mono st.ii (fun x hx => by
      have hl := s.mu.live x hx
      cases q : H x with
      | none => exact absurd q hl.2
      | some o => exact st.keep x o q fun z => hG x z hx) (fun x hx => st.own x (s.mu.live x hx).2 (s.mu.live x hx).1) fun _ _ z => z
/-- f(..), data to data -/
theorem rd_callA {C : CA} (h : RA K tr δ μ fun rs μ1 => ∃ ds, rs = dats ds ∧ ds.length = n ∧ C ds fun d => Q (.dat d) μ1) : RD K (tCall (spA K n C) [] E tr) δ μ Q := fun Lc I H σ F s QQ p =>
  h Lc I H σ F s _ fun vs I1 H1 rs μ1 F1 st f s1 ok ⟨ds, er, hl, c⟩ => by
    subst er
    have r := repl_of ok
    refine ⟨by rw [List.append_nil, repl_len r]; exact hl, I1, ds, _, s1.ih, by rw [List.append_nil]; exact r, c, fun v I2 H2 d st2 e2 rv q => ?_⟩
    exact p v I2 H2 (.dat d) μ1 F1 (st.trans (st2.wide (G := F1) fun x hx => nomatch hx) f) f (s1.grow st2 (fun x hx => nomatch hx) e2) rv q
/-- arguments that are data, or lists that are still changed -/
inductive ArgsD (μ : Mu) : List SK → List Da → Prop
  | nil : ArgsD μ [] []
  | dat {d : Da} {ks : List SK} {ds : List Da} : ArgsD μ ks ds → ArgsD μ (.dat d :: ks) (d :: ds)
  | own {l : Addr} {i : Nat} {xs : List Da} {fl : Bool} {ks : List SK} {ds : List Da} : μ[i]? = some (l, MK.ml xs, fl) → ArgsD μ ks ds → ArgsD μ (.own l :: ks) (.lst xs :: ds)
open Classical in
/-- what is still changed seen as data, but for G -/
noncomputable def lend (F G : List Addr) (I H : Hp) : Hp := fun a => if a ∈ F ∧ a ∉ G then H a else I a
theorem lend_ex {F G : List Addr} {I H : Hp} (e : Ex I H) : Ex I (lend F G I H) := fun a o h => by
  unfold lend
  by_cases c : a ∈ F ∧ a ∉ G
  · rw [if_pos c]; exact e a o h
  · rw [if_neg c]; exact h
theorem lend_ih {F G : List Addr} {I H : Hp} (e : Ex I H) : Ex (lend F G I H) H := fun a o h => by
  unfold lend at h
  by_cases c : a ∈ F ∧ a ∉ G
  · rw [if_pos c] at h; exact h
  · rw [if_neg c] at h; exact e a o h
theorem args_rep {Lc : Addr → Prop} {I H : Hp} {σ : St} {F G : List Addr} (s : Sta K Lc I H σ δ μ F) (hG : ∀ (i : Nat) l xs fl, μ[i]? = some (l, MK.ml xs, fl) → l ∉ G) : ∀ {ks : List SK} {ds : List Da}, ArgsD μ ks ds → ∀ {vs : List V}, SlOk K I (vs.map some) ks → RepL K (lend F G I H) vs ds
  | _, _, .nil, vs, h => by
    cases vs with
    | nil => exact .nil
    | cons _ _ => cases h
  | _, _, .dat a, vs, h => by
    cases vs with
    | nil => cases h
    | cons v r =>
      cases h with
      | cons x y => exact .cons (Rep.mono (lend_ex s.ih) x) (args_rep s hG a y)
  | _, _, .own hm a, vs, h => by
    cases vs with
    | nil => cases h
    | cons v r =>
      cases h with
      | cons x y =>
        have x' : v = .ref _ := x
        subst x'
        obtain ⟨Fi, m, sF, _⟩ := s.mu.at hm
        obtain ⟨rfl, xs, hx, rx⟩ := m
        refine .cons (Rep.lst ?_ (rx.mono (lend_ex s.ih))) (args_rep s hG a y)
        unfold lend
        rw [if_pos ⟨sF _ (by simp), hG _ _ _ _ hm⟩]
        exact hx
/-- f(..) whose answer no object bears; lists that are still changed may be handed in -/
theorem rd_callB {C : CA} (h : RA K tr δ μ fun rs μ1 => ∃ ds, ArgsD μ1 rs ds ∧ ds.length = n ∧ C ds fun d => flat d = true ∧ Q (.dat d) μ1) : RD K (tCall (spA K n C) [] E tr) δ μ Q := fun Lc I H σ F s QQ p =>
  h Lc I H σ F s _ fun vs I1 H1 rs μ1 F1 st f s1 ok ⟨ds, ar, hl, c⟩ => by
    have r := args_rep (G := []) s1 (fun _ _ _ _ _ z => nomatch z) ar ok
    refine ⟨by rw [List.append_nil, repl_len r]; exact hl, lend F1 [] I1 H1, ds, _, lend_ih s1.ih, by rw [List.append_nil]; exact r, c, fun v I2 H2 d st2 e2 rv q => ?_⟩
    have st3 : Step [] I1 H1 I1 H2 := ⟨Ex.refl _, st2.keep, fun _ _ z => z, st2.alive⟩
    exact p v I1 H2 (.dat d) μ1 F1 (st.trans (st3.wide (G := F1) fun x hx => nomatch hx) f) f (s1.grow st3 (fun x hx => nomatch hx) fun a o ha => st2.keep a o (s1.ih a o ha) (by simp)) (Rep.flat rv q.1) q.2
/-- f(pool, ..) -/
theorem pool_after {Lc : Addr → Prop} {I H I' H' : Hp} {σ : St} {F : List Addr} {i : Nat} {a : Addr} {c c' : Nat} {fl : Bool} (s : Sta K Lc I H σ δ μ F) (hi : μ[i]? = some (a, MK.pool c, fl)) (st : Step [a] I H I' H') (e : Ex I' H') (hp : PoolAt H' a c') :
    Sta K Lc I' H' σ δ (μ.set i (a, MK.pool c', fl)) F ∧ a ∈ F := by
  obtain ⟨Fi, m, sF, _, mk⟩ := s.mu.at hi
  obtain ⟨rfl, _⟩ := m
  refine ⟨⟨e, fun b h => s.lc b (st.gone h), s.sl.mono st.ii, mk _ I' H' st.ii (fun x hx hn => ?_) (fun x hx => st.own x (s.mu.live x hx).2 (s.mu.live x hx).1) ⟨rfl, hp⟩⟩, sF a (by simp)⟩
  have hl := s.mu.live x hx
  cases q : H x with
  | none => exact absurd q hl.2
  | some o => exact st.keep x o q hn
theorem rd_callP {C : CP} (h : RA K tr δ μ fun rs μ1 => ∃ (a : Addr) (ds : List Da) (i c : Nat) (fl : Bool), rs = .own a :: dats ds ∧ μ1[i]? = some (a, MK.pool c, fl) ∧ ds.length = n ∧ C ds c fun d c' => Q (.dat d) (μ1.set i (a, MK.pool c', fl))) : RD K (tCall (spP K n C) [] E tr) δ μ Q := fun Lc I H σ F s QQ p =>
  h Lc I H σ F s _ fun vs I1 H1 rs μ1 F1 st f s1 ok ⟨a, ds, i, c, fl, er, hi, hl, cc⟩ => by
    subst er
    cases vs with
    | nil => cases ok
    | cons v ws =>
      cases ok with
      | cons x y =>
        have x' : v = .ref a := x
        subst x'
        have r := repl_of y
        obtain ⟨Fi, m, sF, _⟩ := s1.mu.at hi
        obtain ⟨rfl, hp⟩ := m
        refine ⟨by rw [List.append_nil, List.length_cons, repl_len r, hl], I1, a, ws, ds, c, _, by rw [List.append_nil], s1.ih, (s1.mu.live a (sF a (by simp))).1, hp, r, cc, fun v I2 H2 d c' st2 e2 hp2 rv q => ?_⟩
        obtain ⟨s2, ha⟩ := pool_after s1 hi st2 e2 hp2
        exact p v I2 H2 (.dat d) _ F1 (st.trans (st2.wide (G := F1) fun x hx => by
          have : x = a := by simpa using hx
          rw [this]; exact ha) f) f s2 rv q
theorem rd_callPB {C : CP} (h : RA K tr δ μ fun rs μ1 => ∃ (a : Addr) (ks : List SK) (ds : List Da) (i c : Nat) (fl : Bool), rs = .own a :: ks ∧ ArgsD μ1 ks ds ∧ μ1[i]? = some (a, MK.pool c, fl) ∧ ds.length = n ∧ C ds c fun d c' => flat d = true ∧ Q (.dat d) (μ1.set i (a, MK.pool c', fl))) : RD K (tCall (spP K n C) [] E tr) δ μ Q := fun Lc I H σ F s QQ p =>
  h Lc I H σ F s _ fun vs I1 H1 rs μ1 F1 st f s1 ok ⟨a, ks, ds, i, c, fl, er, ar, hi, hl, cc⟩ => by
    subst er
    cases vs with
    | nil => cases ok
    | cons v ws =>
      cases ok with
      | cons x y =>
        have x' : v = .ref a := x
        subst x'
        obtain ⟨Fi, m, sF, _⟩ := s1.mu.at hi
        obtain ⟨rfl, hp⟩ := m
        have hg : ∀ (j : Nat) l xs fl', μ1[j]? = some (l, MK.ml xs, fl') → l ∉ [a] := fun j l xs fl' hj z => by
          have e : l = a := by simpa using z
          subst e
          have nd := s1.mu.nodup
          have uniq : ∀ {μ : Mu} {G : List Addr} {Lc : Addr → Prop} {i j : Nat} {k k' : MK} {b b' : Bool}, MuOk K Lc I1 H1 G μ → μ[i]? = some (l, k, b) → μ[j]? = some (l, k', b') → i = j := by
            intro μ G Lc i j k k' b b' q
            induction q generalizing i j with
            | nil => intro e; simp at e
            | @cons F2 G2 a2 k2 fl2 μ2 m n d nd l2 q ih =>
              intro e1 e2
              cases i with
              | zero =>
                cases j with
                | zero => rfl
                | succ j =>
                  simp only [List.getElem?_cons_zero, Option.some.injEq, Prod.mk.injEq] at e1
                  obtain ⟨rfl, rfl, rfl⟩ := e1
                  obtain ⟨Fj, mj, sj, _⟩ := q.at (i := j) (by simpa using e2)
                  exact absurd (sj _ mj.mem) (d _ m.mem)
              | succ i =>
                cases j with
                | zero =>
                  simp only [List.getElem?_cons_zero, Option.some.injEq, Prod.mk.injEq] at e2
                  obtain ⟨rfl, rfl, rfl⟩ := e2
                  obtain ⟨Fj, mj, sj, _⟩ := q.at (i := i) (by simpa using e1)
                  exact absurd (sj _ mj.mem) (d _ m.mem)
                | succ j => rw [ih (i := i) (j := j) (by simpa using e1) (by simpa using e2)]
          have := uniq s1.mu hi hj
          subst this
          rw [hi] at hj
          simp at hj
        have r := args_rep (G := [a]) s1 hg ar y
        have hIa : lend F1 [a] I1 H1 a = none := by
          unfold lend
          rw [if_neg (fun z => z.2 (by simp))]
          exact (s1.mu.live a (sF a (by simp))).1
        refine ⟨by rw [List.append_nil, List.length_cons, repl_len r, hl], lend F1 [a] I1 H1, a, ws, ds, c, _, by rw [List.append_nil], lend_ih s1.ih, hIa, hp, r, cc, fun v I2 H2 d c' st2 e2 hp2 rv q => ?_⟩
        have st3 : Step [a] I1 H1 I1 H2 := ⟨Ex.refl _, st2.keep, fun _ _ z => z, st2.alive⟩
        have e3 : Ex I1 H2 := fun b o hb => st2.keep b o (s1.ih b o hb) fun z => by
          have e : b = a := by simpa using z
          rw [e, (s1.mu.live a (sF a (by simp))).1] at hb
          cases hb
        obtain ⟨s2, ha⟩ := pool_after s1 hi st3 e3 hp2
        exact p v I1 H2 (.dat d) _ F1 (st.trans (st3.wide (G := F1) fun x hx => by
          have : x = a := by simpa using hx
          rw [this]; exact ha) f) f s2 (Rep.flat rv q.1) q.2
/-- a new pool -/
theorem rd_callN {C : List Da → Prop} (h : RA K tr δ μ fun rs μ1 => ∃ ds, rs = dats ds ∧ ds.length = n ∧ C ds ∧ ∀ a, Q (.own a) ((a, MK.pool 0, true) :: μ1)) : RD K (tCall (spN K n C) [] E tr) δ μ Q := fun Lc I H σ F s QQ p =>
  h Lc I H σ F s _ fun vs I1 H1 rs μ1 F1 st f s1 ok ⟨ds, er, hl, c, q⟩ => by
    subst er
    have r := repl_of ok
    refine ⟨by rw [List.append_nil, repl_len r]; exact hl, I1, ds, s1.ih, by rw [List.append_nil]; exact r, c, fun a H2 ha hp kp => ?_⟩
    have hne : ∀ x ∈ F1, x ≠ a := fun x hx z => (s1.mu.live x hx).2 (by rw [z]; exact ha)
    have st2 : Step F1 I1 H1 I1 H2 := ⟨Ex.refl _, fun b o hb _ => kp b o hb, fun _ _ z => z, fun b hb z => by
      cases q : H1 b with
      | none => exact hb q
      | some o => rw [kp b o q] at z; cases z⟩
    refine p (.ref a) I1 H2 (.own a) _ (a :: F1) (st.trans st2 f) (fun x hx => ?_) ⟨fun b o hb => kp b o (s1.ih b o hb), fun b hb => s1.lc b (st2.gone hb), s1.sl, ?_⟩ rfl (q a)
    · rcases List.mem_cons.mp hx with z | z
      · rw [z]; exact .inr (st.gone ha)
      · exact f x z
    · refine MuOk.cons (F := [a]) ⟨rfl, hp⟩ ?_ ?_ (by simp) ?_ (s1.mu.mono (Ex.refl _) (fun x hx => ?_) (fun x hx => (s1.mu.live x hx).1) fun _ _ z => z)
      · intro x hx
        have : x = a := by simpa using hx
        rw [this]; exact s1.ih.gone ha
      · intro x hx z
        have : x = a := by simpa using hx
        exact hne x z this
      · intro _ x hx
        have : x = a := by simpa using hx
        rw [this]; exact s1.lc a ha
      · cases q : H1 x with
        | none => exact absurd q (s1.mu.live x hx).2
        | some o => exact kp x o q

/-! ### instances -/
theorem repF_lookup {I : Hp} {f : Str} {d : Da} : ∀ {fs : List (Str × V)} {ds : List (Str × Da)}, RepF K I fs ds → ds.lookup f = some d → ∃ v, fs.lookup f = some v ∧ Rep K I v d
  | _, _, .nil, e => by simp at e
  | _, _, .cons (f := g) r t, e => by
    by_cases h : f = g
    · subst h
      simp only [List.lookup, beq_self_eq_true, Option.some.injEq] at e ⊢
      subst e
      exact ⟨_, rfl, r⟩
    · have hb : (f == g) = false := by simpa using h
      simp only [List.lookup, hb] at e ⊢
      exact repF_lookup t e
theorem repF_none {I : Hp} {f : Str} : ∀ {fs : List (Str × V)} {ds : List (Str × Da)}, RepF K I fs ds → ds.lookup f = none → fs.lookup f = none
  | _, _, .nil, e => rfl
  | _, _, .cons (f := g) r t, e => by
    by_cases h : f = g
    · subst h
      simp [List.lookup] at e
    · have hb : (f == g) = false := by simpa using h
      simp only [List.lookup, hb] at e ⊢
      exact repF_none t e
/-- e.f -/
theorem rd_fld {f : Str} (h : RD K ta δ μ fun r μ1 => ∃ (Cl : Addr) (fs : List (Str × Da)) (d : Da), r = .dat (.obj Cl fs) ∧ Cls K Cl ∧ NoAttr K Cl f ∧ fs.lookup f = some d ∧ Q (.dat d) μ1) : RD K (tFld K ta f) δ μ Q := fun Lc I H σ F s QQ p =>
  h Lc I H σ F s _ fun v I1 H1 r μ1 F1 st f1 s1 ok ⟨Cl, fs, d, er, c, na, hl, q⟩ => by
    subst er
    cases ok with
    | obj ho hf =>
      obtain ⟨w, hw, rw'⟩ := repF_lookup hf hl
      exact ⟨_, Cl, _, _, w, rfl, s1.ih _ _ ho, c, na, hw, p w I1 H1 (.dat d) μ1 F1 st f1 s1 rw' q⟩
/-- o.m(..) -/
theorem rd_methA {Cl : Addr} {m : Str} {C : CA} (h : RD K ta δ μ fun r μ1 => ∃ fs, r = .dat (.obj Cl fs) ∧ fs.lookup m = none ∧ RA K tr δ μ1 fun rs μ2 => ∃ ds, rs = dats ds ∧ ds.length = n ∧ C (.obj Cl fs :: ds) fun d => Q (.dat d) μ2) : RD K (tMeth Cl m (spA K (n + 1) C) [] E ta tr) δ μ Q := fun Lc I H σ F s QQ p =>
  h Lc I H σ F s _ fun v I1 H1 r μ1 F1 st f s1 ok ⟨fs, er, hn, ha⟩ => by
    subst er
    cases ok with
    | obj ho hf =>
      refine ⟨_, _, _, rfl, s1.ih _ _ ho, repF_none hf hn, ?_⟩
      refine ha Lc I1 H1 σ F1 s1 _ fun vs I2 H2 rs μ2 F2 st2 f2 s2 ok2 ⟨ds, er, hl, c⟩ => ?_
      subst er
      have r := repl_of ok2
      have ro := Rep.mono st2.ii (Rep.obj ho hf)
      refine ⟨by rw [List.append_nil, List.length_cons, repl_len r, hl], I2, _, _, s2.ih, by rw [List.append_nil]; exact .cons ro r, c, fun v I3 H3 d st3 e3 rv q => ?_⟩
      exact p v I3 H3 (.dat d) μ2 F2 ((st.trans st2 f).trans (st3.wide (G := F2) fun x hx => nomatch hx) (sub_trans st f f2)) (sub_trans st f f2) (s2.grow st3 (fun x hx => nomatch hx) e3) rv q
/-- C(..) -/
theorem rd_make {Cl : Addr} {C : List Da → (List (Str × Da) → Prop) → Prop} (h : RA K tr δ μ fun rs μ1 => ∃ ds, rs = dats ds ∧ ds.length = n ∧ C ds fun fs => Q (.dat (.obj Cl fs)) μ1) : RD K (tMake Cl (spI K n Cl C) [] E tr) δ μ Q := fun Lc I H σ F s QQ p =>
  h Lc I H σ F s _ fun vs I1 H1 rs μ1 F1 st f s1 ok ⟨ds, er, hl, c⟩ => by
    subst er
    have r := repl_of ok
    intro x dx hx hdx hne
    have nx : upd (upd H1 dx (.own x)) x (.ins Cl dx []) dx = some (.own x) := by rw [upd_ne hne, upd_same]
    have e0 : Ex I1 (upd (upd H1 dx (.own x)) x (.ins Cl dx [])) := fun a o h => by
      have h1 := s1.ih a o h
      rw [upd_ne (ne_of_none h1 hx), upd_ne (ne_of_none h1 hdx)]
      exact h1
    refine ⟨by rw [List.append_nil, List.length_cons, repl_len r, hl], I1, x, dx, vs, ds, _, by rw [List.append_nil], e0, s1.ih.gone hx, s1.ih.gone hdx, hne, upd_same, nx, r, c, fun I2 H2 fs fds st2 e2 h1 h2 rf q => ⟨rfl, ?_⟩⟩
    have kp : ∀ a o, H1 a = some o → H2 a = some o := fun a o ha => st2.keep a o (by rw [upd_ne (ne_of_none ha hx), upd_ne (ne_of_none ha hdx)]; exact ha) (by
      simp only [List.mem_cons, List.not_mem_nil, or_false, not_or]
      exact ⟨ne_of_none ha hx, ne_of_none ha hdx⟩)
    have hIx : I2 x = none := st2.own x (by rw [upd_same]; simp) (s1.ih.gone hx)
    have e3 : Ex I2 (upd I2 x (.ins Cl dx fs)) := Ex.new hIx
    have own3 : ∀ a, H1 a ≠ none → I1 a = none → upd I2 x (.ins Cl dx fs) a = none := fun a ha hn => by
      have : a ≠ x := fun z => ha (by rw [z]; exact hx)
      rw [upd_ne this]
      refine st2.own a ?_ hn
      cases q : H1 a with
      | none => exact absurd q ha
      | some o => rw [upd_ne (ne_of_none q hx), upd_ne (ne_of_none q hdx), q]; simp
    have st3 : Step [] I1 H1 (upd I2 x (.ins Cl dx fs)) H2 := ⟨st2.ii.trans e3, fun a o ha _ => kp a o ha, own3, fun a ha z => by
      cases q : H1 a with
      | none => exact ha q
      | some o => rw [kp a o q] at z; cases z⟩
    have ih3 : Ex (upd I2 x (.ins Cl dx fs)) H2 := fun b o hb => by
      by_cases z : b = x
      · rw [z, upd_same] at hb
        rw [z, h1]; exact hb
      · rw [upd_ne z] at hb; exact e2 b o hb
    exact p (.ref x) _ H2 (.dat (.obj Cl fds)) μ1 F1 (st.trans (st3.wide (G := F1) fun x hx => nomatch hx) f) f (s1.grow st3 (fun x hx => nomatch hx) ih3) (Rep.obj upd_same (rf.mono e3)) q
end

/-! ### the defs -/
def startD (N : List Str) (ks : List SK) : List SK := ks ++ List.replicate (N.length - ks.length) .any
theorem slok_any {K : PySem.W.Frag} {I : Hp} : ∀ n : Nat, SlOk K I (List.replicate n none) (List.replicate n .any)
  | 0 => .nil
  | n + 1 => .cons trivial (slok_any n)
theorem slok_app {K : PySem.W.Frag} {I : Hp} {σ σ' : St} {δ δ' : List SK} (h : SlOk K I σ δ) (h' : SlOk K I σ' δ') : SlOk K I (σ ++ σ') (δ ++ δ') := by
  induction h with
  | nil => exact h'
  | cons a b ih => exact .cons a ih
theorem slok_dats {K : PySem.W.Frag} {I : Hp} : ∀ {vs : List V} {ds : List Da}, RepL K I vs ds → SlOk K I (vs.map some) (dats ds)
  | _, _, .nil => .nil
  | _, _, .cons a b => .cons a (slok_dats b)
theorem slok_start {K : PySem.W.Frag} {I : Hp} {N : List Str} {vs : List V} {ks : List SK} (h : SlOk K I (vs.map some) ks) : SlOk K I (L2.start N vs) (startD N ks) := by
  have hl : vs.length = ks.length := by simpa using h.length
  unfold L2.start startD
  rw [hl]
  exact slok_app h (slok_any _)
end DL
/-! Promises of defs that are kept where nothing shows itself at the moment (no guard stands): what repr asks. -/
namespace DL
open PySem L2
open PyProof.Rows (envOfC)

structure RmG (k : Nat) (A : Around) : Prop where
  r : Room k A
  g : A.guards = some []
theorem RmG.mono {j k : Nat} {A : Around} (h : RmG k A) (le : j ≤ k) : RmG j A := { r := h.r.mono le, g := h.g }
theorem RmG.deeper {k : Nat} {A : Around} (h : RmG (k + 1) A) (env : Env) : RmG k (A.deeper env) := { r := h.r.deeper env, g := h.g }
theorem RmG.make {k : Nat} {A : Around} (h : RmG (k + 1) A) (C : Addr) (us : List Value) (kw : List (Str × Value)) : RmG k (A.under (.builtin "type.__call__" ⟨.ref C :: us, kw⟩)) where
  r := h.r.make C us kw
  g := by
    have z := h.g
    first
      | (simpa [Around.under, pushGuards, Code.guards, Code.isGuard, guardIds] using z)
      | exact z

structure FnG (P : Program) (w : World) (K : PySem.W.Frag) (mg : Str → Option Value) (base : Heap) (CX : CXT) (k : Nat) (f : Addr) (fd : FuncData) (ps : List Str) (sp : Sp) : Prop where
  len : ∀ vs H Q E, sp vs H Q E → vs.length = ps.length
  go : ∀ (A : Around) (outer : List Env) (s : Shared) (H : Hp) (args : Args) (us : List Value) (vs : List V) (Q : VK) (E : XK), RmG k A → Env0 P w K mg base A outer s H → BindsTo s fd args (ps.zip us) → Vals vs us → sp vs H Q E →
    codeAny (model P w) A (.call (.ref f) args) (CR CX outer P w H s Q E) s
theorem FnG.of {P : Program} {w : World} {K : PySem.W.Frag} {mg : Str → Option Value} {base : Heap} {CX : CXT} {k : Nat} {f : Addr} {fd : FuncData} {ps : List Str} {sp : Sp} (F : FnOk P w K mg base CX k f fd ps sp) : FnG P w K mg base CX k f fd ps sp :=
  { len := F.len, go := fun A outer s H args us vs Q E hr => F.run A outer s H args us vs Q E hr.r }

section
variable {X : Cx} {CX : CXT} {k j : Nat} {f C : Addr} {fd : FuncData} {ps : List Str} {sp : Sp} {E : XK} {x m : Str} {p pos apos : Pos} {e o : Expr} {es : List Expr} {ta : TE} {t : TA}
theorem goG {pins : List (Addr × Obj)} {σ : St} {H : Hp} {s : Shared} {Q : VK} {us : List Value} {vs : List V} (F : FnG X.prog X.w X.K X.mg X.base CX k f fd ps sp) (hr : RmG k X.A) (hb : Binds X.K fd ps []) (hx : Passes CX X E)
    (I : Inv X pins σ H s) (r : Vals vs us) (h : sp vs H Q E) : wpAny (model X.prog X.w) X.A (call (.ref f) us) (EP X pins σ Q) X.xe s := by
  have hl : us.length = ps.length := r.length.symm.trans (F.len _ _ _ _ h)
  have hb' : BindsTo s fd ⟨us, []⟩ (ps.zip us) := by
    have z := hb s us I.kIn (by rw [List.append_nil]; exact hl)
    rw [List.append_nil] at z
    exact z
  refine wpAny_call (codeAny_mono (F.go X.A X.stack s H ⟨us, []⟩ us vs Q E hr I.env0 hb' r h) ?_)
  intro res s' hq
  match res, hq with
  | .error er, hq => exact hx pins σ H s er s' I hq
  | .ok (.ret u), hq => exact I.after hq
  | .ok .next, hq => exact hq.elim
  | .ok .brk, hq => exact hq.elim
  | .ok .cont, hq => exact hq.elim

/-- a def that may be called by its name -/
structure CalG (P : Program) (w : World) (K : PySem.W.Frag) (mg : Str → Option Value) (base : Heap) (CX : CXT) (k : Nat) (x : Str) (sp : Sp) : Prop where
  ex : ∃ (f : Addr) (fd : FuncData) (ps : List Str), FnG P w K mg base CX k f fd ps sp ∧ mg x = some (.ref f) ∧ PySem.W.keepIn K (.ref f) = true ∧ Binds K fd ps []
theorem pe_cg (c : CalG X.prog X.w X.K X.mg X.base CX k x sp) (hr : RmG j X.A) (hk : k ≤ j) (hx : Passes CX X E) (hg : Gl X x) (ha : PA X (e :: es) t) (hdb : (x == ("__debug__" : Str)) = false := by decide)
    (he : starEach (e :: es) X.env = (false, eval e X.env) :: starEach es X.env := by rfl) (hpl : (backTo pos (starEach es X.env)).any (·.1) = false := by rfl) : PE X (.Call (.Name x p) (e :: es) [] pos) (tCall sp [] E t) := by
  obtain ⟨f, fd, ps, F, hm, kp, b⟩ := c.ex
  refine ⟨fun pins s σ H Q I h => wpAny_Call_Name_kw (ld_glob I hg hm ?_ hdb)⟩
  refine PySem.W.callWith_K (h₀ := X.base) I.ok.mod.kin kp (thn (ha.run pos pins s σ H _ I h) ?_) he hpl
  rintro us s1 ⟨vs, H1, I1, r, q⟩
  rw [List.append_nil] at q
  exact ⟨I1.kIn, goG F (hr.mono hk) b hx I1 r q⟩
/-- a method of the class at C -/
structure MetG (P : Program) (w : World) (K : PySem.W.Frag) (mg : Str → Option Value) (base : Heap) (CX : CXT) (k : Nat) (C : Addr) (m : Str) (sp : Sp) : Prop where
  ex : ∃ (f : Addr) (fd : FuncData) (ps : List Str), Cls K C ∧ Meth K C m f ∧ FnG P w K mg base CX k f fd ps sp ∧ Binds K fd ps []
theorem pe_mg {pl : Sem Bool} (c : MetG X.prog X.w X.K X.mg X.base CX k C m sp) (hr : RmG j X.A) (hk : k ≤ j) (hx : Passes CX X E) (he : PE X o ta) (ha : PA X (e :: es) t)
    (hst : starEach (e :: es) X.env = (false, eval e X.env) :: starEach es X.env := by rfl) (hpl : (backTo pos (starEach es X.env)).any (·.1) = false := by rfl)
    (ht : eval (.Call (.Attribute o m apos) (e :: es) [] pos) X.env = (do let ov ← eval o X.env; standAt apos.atName; let (f, first) ← holding [ov] (getMethod ov m pl); callWith pos f first (backTo pos (starEach (e :: es) X.env)) (backToKw pos (keywordEach [] X.env))) := by rfl) :
    PE X (.Call (.Attribute o m apos) (e :: es) [] pos) (tMeth C m sp [] E ta t) := by
  obtain ⟨f, fd, ps, cl, me, F, b⟩ := c.ex
  refine ⟨fun pins s σ H Q I h => PySem.W.methodCall_KW (pl := pl) (thn (he.run pins s σ H _ I h) ?_) ht⟩
  rintro u s1 ⟨y, H1, I1, ry, a, dx, fs, ey, ea, l, q⟩
  subst ey
  cases (show u = Value.ref a from ry)
  refine getmeth_ok I1 ea cl me l (PySem.W.callWith_K (first := [.ref a]) (h₀ := X.base) I.ok.mod.kin me.kp (thn (ha.run pos pins s1 σ H1 _ I1 q) ?_) hst hpl)
  rintro us s2 ⟨vs, H2, I2, r, q2⟩
  rw [List.append_nil] at q2
  exact ⟨I2.kIn, goG (us := .ref a :: us) (vs := .ref a :: vs) F (hr.mono hk) b hx I2 (.cons rfl r) q2⟩
theorem pe_mg0 {pl : Sem Bool} (c : MetG X.prog X.w X.K X.mg X.base CX k C m sp) (hr : RmG j X.A) (hk : k ≤ j) (hx : Passes CX X E) (he : PE X o ta)
    (ht : eval (.Call (.Attribute o m apos) [] [] pos) X.env = (do let ov ← eval o X.env; standAt apos.atName; let (f, first) ← holding [ov] (getMethod ov m pl); callWith pos f first (backTo pos (starEach [] X.env)) (backToKw pos (keywordEach [] X.env))) := by rfl) :
    PE X (.Call (.Attribute o m apos) [] [] pos) (tMeth C m sp [] E ta tNil) := by
  obtain ⟨f, fd, ps, cl, me, F, b⟩ := c.ex
  refine ⟨fun pins s σ H Q I h => PySem.W.methodCall_KW (pl := pl) (thn (he.run pins s σ H _ I h) ?_) ht⟩
  rintro u s1 ⟨y, H1, I1, ry, a, dx, fs, ey, ea, l, q⟩
  subst ey
  cases (show u = Value.ref a from ry)
  refine getmeth_ok I1 ea cl me l (PySem.W.callWith_K0 (first := [.ref a]) I1.kIn me.kp (goG (us := [.ref a]) (vs := [.ref a]) F (hr.mono hk) b hx I1 (.cons rfl .nil) ?_))
  have q' : sp (V.ref a :: ([] ++ [])) H1 Q E := q
  exact q'
/-- a class that may be made -/
structure MakG (P : Program) (w : World) (K : PySem.W.Frag) (mg : Str → Option Value) (base : Heap) (CX : CXT) (k : Nat) (x : Str) (C : Addr) (sp : Sp) : Prop where
  ex : ∃ (f : Addr) (fd : FuncData) (ps : List Str), Mk K C f ∧ FnG P w K mg base CX k f fd ps sp ∧ mg x = some (.ref C) ∧ Binds K fd ps []
theorem makeG {pins : List (Addr × Obj)} {σ : St} {H : Hp} {s : Shared} {Q : VK} {us : List Value} {vs : List V} (M : Mk X.K C f) (F : FnG X.prog X.w X.K X.mg X.base CX k f fd ps sp) (hr : RmG (k + 1) X.A) (hb : Binds X.K fd ps []) (hx : Passes CX X E) (I : Inv X pins σ H s) (r : Vals vs us)
    (h : ∀ y dx, H y = none → H dx = none → dx ≠ y → sp (.ref y :: vs) (upd (upd H dx (.own y)) y (.ins C dx [])) (fun v H2 => v = .non ∧ Q (.ref y) H2) E) : wpAny (model X.prog X.w) X.A (call (.ref C) us) (EP X pins σ Q) X.xe s := by
  have q := h (s.heap.objs.size + 1) s.heap.objs.size (I.hok.fresh (Nat.le_succ _)) (I.hok.fresh (Nat.le_refl _)) (Nat.ne_of_lt (Nat.lt_succ_self s.heap.objs.size))
  have J := Inv.made (C := C) I
  have hl : (Value.ref (s.heap.objs.size + 1) :: us).length = ps.length := by
    rw [← F.len _ _ _ _ q, List.length_cons, List.length_cons, r.length]
  have hb' := hb _ (Value.ref (s.heap.objs.size + 1) :: us) J.kIn (by rw [List.append_nil]; exact hl)
  rw [List.append_nil] at hb'
  refine wpAny_call (make_map (f := f) I.kIn M.makes M.init (beq_iff_eq.mp M.fn) (codeAny_mono (F.go _ X.stack _ _ ⟨Value.ref (s.heap.objs.size + 1) :: us, []⟩ (Value.ref (s.heap.objs.size + 1) :: us) _ _ E (hr.make C us []) (J.env0.make C us []) hb' (.cons (show RelV (V.ref (s.heap.objs.size + 1)) (Value.ref (s.heap.objs.size + 1)) from rfl) r) q) ?_))
  intro res s' hq
  match res, hq with
  | .error er, hq => exact hx pins σ _ _ er s' J hq
  | .ok (.ret u), hq =>
    obtain ⟨v, H', I3, rv, ev, q3⟩ := J.after hq
    subst ev
    exact ⟨rv, ⟨V.ref (s.heap.objs.size + 1), H', I3, rfl, q3⟩⟩
  | .ok .next, hq => exact hq.elim
  | .ok .brk, hq => exact hq.elim
  | .ok .cont, hq => exact hq.elim
theorem pe_mkg (c : MakG X.prog X.w X.K X.mg X.base CX k x C sp) (hr : RmG j X.A) (hk : k + 1 ≤ j) (hx : Passes CX X E) (hg : Gl X x) (ha : PA X (e :: es) t) (hdb : (x == ("__debug__" : Str)) = false := by decide)
    (he : starEach (e :: es) X.env = (false, eval e X.env) :: starEach es X.env := by rfl) (hpl : (backTo pos (starEach es X.env)).any (·.1) = false := by rfl) : PE X (.Call (.Name x p) (e :: es) [] pos) (tMake C sp [] E t) := by
  obtain ⟨f, fd, ps, M, F, hm, b⟩ := c.ex
  refine ⟨fun pins s σ H Q I h => wpAny_Call_Name_kw (ld_glob I hg hm ?_ hdb)⟩
  refine PySem.W.callWith_K (h₀ := X.base) I.ok.mod.kin M.kp (thn (ha.run pos pins s σ H _ I h) ?_) he hpl
  rintro us s1 ⟨vs, H1, I1, r, q⟩
  refine ⟨I1.kIn, makeG M F (hr.mono hk) b hx I1 r fun y dx n1 n2 ne => ?_⟩
  have z := q y dx n1 n2 ne
  rw [List.append_nil] at z
  exact z
end

/-- the rule for a def, by its body -/
theorem fng_of {CX : CXT} {P : Program} {w : World} {K : PySem.W.Frag} {mg : Str → Option Value} {base : Heap} {k : Nat} {x qual : Str} {st : Stmt} {f : Addr} {fd : FuncData} {N ps : List Str} {sp : Sp} (F : Fun K x qual st f fd) (S : FnScope N ps (defScope st)) (len : ∀ vs H Q E, sp vs H Q E → vs.length = ps.length)
    (hbody : ∀ (cdv : Value) (A : Around) (outer : List Env) (s : Shared) (H : Hp) (vs : List V) (Q : VK) (E : XK), RmG k (A.deeper (envOfC qual (defScope st) s.heap.objs.size f cdv)) → sp vs H Q E →
      ∃ t, PSs (cxOf CX P w K mg base N qual (defScope st) f cdv A outer s H E) (defBody st) t ∧ t { nx := fun _ H' => Q .non H', rt := Q } (L2.start N vs) H) : FnG P w K mg base CX (k + 1) f fd ps sp := by
  obtain ⟨oc, od, kV, doc, pm, an, cdv, ct, osl, rfl, lk, hcd⟩ := F.ex
  refine { len := len, go := fun A outer s H args us vs Q E hr e0 hb r hsp => ?_ }
  have hl := len _ _ _ _ hsp
  have keepB : ∀ b o, base.get? b = some o → s.heap.get? b = some o := fun b o e => (e0.bs b o e).1
  have KX : K.In s.heap := e0.mod.kin.keeps keepB
  have lim : s.heap.NoLimit := e0.mod.nolimit.keeps keepB
  refine codeAny_call_function hr.r.depth (KX _ _ lk) rfl S.co S.gen rfl (PySem.W.codeRec_of KX hcd) (hb _ _ _ _ (wpAny_newFunctionEnv_cells S.kind ?_ ?_))
  · rintro ⟨n, v⟩ hy
    have q := S.par n (List.of_mem_zip hy).1
    exact q.imp id fun z => ⟨z, PySem.W.cellsFrom_some _ _ _ (.inl z)⟩
  · intro env he s1 y
    subst he
    refine ⟨lim.keeps y.toInCall.keep, codeAny_func ?_⟩
    obtain ⟨t, ht, hq⟩ := hbody cdv A outer s H vs Q E (hr.deeper _) hsp
    have I := inv_start (CX := CX) (E := E) S hr.r.hd e0 hl r y
    refine wpAny_mono (ht.run [] s1 _ H _ I hq) ?_ fun _ _ z => z
    intro fl s' hs
    have fin : ∀ {σ' : St} {H' : Hp} {v : V} {u : Value}, Inv (cxOf CX P w K mg base N qual (defScope st) f cdv A outer s H E) [] σ' H' s' → RelV v u → Q v H' → CE outer P w H s Q u s' :=
      fun {_ H' v _} J rv q => ⟨v, H', J.os, J.bare, J.base, J.hok, rv, q⟩
    match fl, hs with
    | .ret u, hs => obtain ⟨v, σ', H', J, rv, q⟩ := hs; exact fin J rv q
    | .next, hs => obtain ⟨σ', H', J, q⟩ := hs; exact fin (v := V.non) (u := Value.none) J rfl q
    | .brk, hs => obtain ⟨_, _, _, q⟩ := hs; exact q.elim
    | .cont, hs => obtain ⟨_, _, _, q⟩ := hs; exact q.elim
end DL
namespace DL
open PySem L2
open PyProof.Rows (envOfC)
section
variable {P : Program} {w : World} {K : PySem.W.Frag} {mg : Str → Option Value} {base : Heap} {x qual : Str} {st : Stmt} {f : Addr} {fd : FuncData} {N ps : List Str} {k n : Nat}
theorem fn_A {C : CA} (F : Fun K x qual st f fd) (S : FnScope N ps (defScope st)) (hn : ps.length = n)
    (body : ∀ (cdv : Value) (A : Around) (outer : List Env) (s : Shared) (H : Hp) (E : XK), RmG k (A.deeper (envOfC qual (defScope st) s.heap.objs.size f cdv)) →
      ∃ t, PSs (cxOf CX0 P w K mg base N qual (defScope st) f cdv A outer s H E).nox (defBody st) t ∧ ∀ ds R, ds.length = n → C ds R → RS K t (startD N (dats ds)) [] { nx := fun _ _ => R .non, rt := fun r _ => ∃ d, r = .dat d ∧ R d }) :
    FnG P w K mg base CX0 (k + 1) f fd ps (spA K n C) := by
  refine fng_of F S (fun vs H Q E h => h.1.trans hn.symm) fun cdv A outer s H vs Q E hr h => ?_
  obtain ⟨hl, I, ds, R, e, r, c, q⟩ := h
  obtain ⟨t, ht, hb⟩ := body cdv A outer s H E hr
  refine ⟨t, ht.nox, hb ds R ((repl_len r).symm.trans hl) c I H [] I I H _ [] { st := Step.refl _ _ _, sub := fun x hx => (nomatch hx), s := ⟨e, fun _ z => z, slok_start (slok_dats r), .nil⟩, ib := Ex.refl _ } _ ⟨fun I1 H1 σ1 δ1 μ1 F1 a qr => ?_, fun v r I1 H1 σ1 δ1 μ1 F1 a ok qr => ?_, fun _ _ _ _ _ _ _ z => z.elim, fun _ _ _ _ _ _ _ z => z.elim⟩⟩
  · exact q .non I1 H1 .non a.st a.s.ih .non qr
  · obtain ⟨d, er, hR⟩ := qr
    subst er
    exact q v I1 H1 d a.st a.s.ih ok hR
theorem fn_P {C : CP} (F : Fun K x qual st f fd) (S : FnScope N ps (defScope st)) (hn : ps.length = n + 1)
    (body : ∀ (cdv : Value) (A : Around) (outer : List Env) (s : Shared) (H : Hp) (E : XK), RmG k (A.deeper (envOfC qual (defScope st) s.heap.objs.size f cdv)) →
      ∃ t, PSs (cxOf CX0 P w K mg base N qual (defScope st) f cdv A outer s H E).nox (defBody st) t ∧ ∀ (p : Addr) ds c R, ds.length = n → C ds c R →
        RS K t (startD N (.own p :: dats ds)) [(p, MK.pool c, false)] { nx := fun _ _ => False, rt := fun r μ' => ∃ (d : Da) (j c' c'' : Nat), r = .dat d ∧ μ'[j]? = some (p, MK.pool c', false) ∧ c' ≤ c'' ∧ R d c'' }) :
    FnG P w K mg base CX0 (k + 1) f fd ps (spP K n C) := by
  refine fng_of F S (fun vs H Q E h => h.1.trans hn.symm) fun cdv A outer s H vs Q E hr h => ?_
  obtain ⟨hl, I, p, ws, ds, c, R, rfl, e, hI, hp, r, cc, q⟩ := h
  obtain ⟨t, ht, hb⟩ := body cdv A outer s H E hr
  have hl' : ds.length = n := by rw [← repl_len r]; simpa using hl
  refine ⟨t, ht.nox, hb p ds c R hl' cc I H [p] I I H _ [p] ⟨Step.refl _ _ _, fun x hx => .inl hx, ⟨e, fun _ z => z, slok_start (vs := .ref p :: ws) (.cons rfl (slok_dats r)), ?_⟩, Ex.refl _⟩ _ ⟨fun I1 H1 σ1 δ1 μ1 F1 a qr => qr.elim, fun v r I1 H1 σ1 δ1 μ1 F1 a ok qr => ?_, fun _ _ _ _ _ _ _ z => z.elim, fun _ _ _ _ _ _ _ z => z.elim⟩⟩
  · refine MuOk.cons (F := [p]) (G := []) ⟨rfl, hp⟩ ?_ (fun _ _ z => nomatch z) (by simp) (fun z => nomatch z) .nil
    intro x hx
    have : x = p := by simpa using hx
    rw [this]; exact hI
  · obtain ⟨d, j, c', c'', er, hj, hle, hR⟩ := qr
    subst er
    obtain ⟨Fi, m, _⟩ := a.s.mu.at hj
    obtain ⟨_, d0, m0, k0, hp', h1, h2, h3, h4, h5⟩ := m
    exact q v I1 H1 d c'' a.st a.s.ih ⟨d0, m0, k0, hp', h1, h2, h3, h4, by omega⟩ ok hR
/-- __init__ -/
theorem fn_I {Cl : Addr} {C : List Da → (List (Str × Da) → Prop) → Prop} (F : Fun K x qual st f fd) (S : FnScope N ps (defScope st)) (hn : ps.length = n + 1)
    (body : ∀ (cdv : Value) (A : Around) (outer : List Env) (s : Shared) (H : Hp) (E : XK), RmG k (A.deeper (envOfC qual (defScope st) s.heap.objs.size f cdv)) →
      ∃ t, PSs (cxOf CX0 P w K mg base N qual (defScope st) f cdv A outer s H E).nox (defBody st) t ∧ ∀ (p dx : Addr) ds R, ds.length = n → C ds R →
        RS K t (startD N (.own p :: dats ds)) [(p, MK.ins Cl dx [], false)] { nx := fun _ μ' => ∃ (fs : List (Str × Da)) (j : Nat), μ'[j]? = some (p, MK.ins Cl dx fs, false) ∧ R fs, rt := fun _ _ => False }) :
    FnG P w K mg base CX0 (k + 1) f fd ps (spI K n Cl C) := by
  refine fng_of F S (fun vs H Q E h => h.1.trans hn.symm) fun cdv A outer s H vs Q E hr h => ?_
  obtain ⟨hl, I, p, dx, ws, ds, R, rfl, e, hI, hIx, hne, hp, hd, r, cc, q⟩ := h
  obtain ⟨t, ht, hb⟩ := body cdv A outer s H E hr
  have hl' : ds.length = n := by rw [← repl_len r]; simpa using hl
  refine ⟨t, ht.nox, hb p dx ds R hl' cc I H [p, dx] I I H _ [p, dx] ⟨Step.refl _ _ _, fun x hx => .inl hx, ⟨e, fun _ z => z, slok_start (vs := .ref p :: ws) (.cons rfl (slok_dats r)), ?_⟩, Ex.refl _⟩ _ ⟨fun I1 H1 σ1 δ1 μ1 F1 a qr => ?_, fun v r I1 H1 σ1 δ1 μ1 F1 a ok qr => qr.elim, fun _ _ _ _ _ _ _ z => z.elim, fun _ _ _ _ _ _ _ z => z.elim⟩⟩
  · refine MuOk.cons (F := [p, dx]) (G := []) ⟨rfl, [], hp, .nil, hd⟩ ?_ (fun _ _ z => nomatch z) ?_ (fun z => nomatch z) .nil
    · intro x hx
      rcases (by simpa using hx : x = p ∨ x = dx) with z | z
      · rw [z]; exact hI
      · rw [z]; exact hIx
    · simp only [List.nodup_cons, List.mem_cons, List.not_mem_nil, or_false, not_false_eq_true, List.nodup_nil, and_true]
      exact fun z => hne z.symm
  · obtain ⟨fs, j, hj, hR⟩ := qr
    obtain ⟨Fi, m, _⟩ := a.s.mu.at hj
    obtain ⟨_, xs, h1, rf, h2⟩ := m
    exact q I1 H1 xs fs a.st a.s.ih h1 h2 rf hR
end

/-- a def of the module: where it stands, what its name means, how arguments bind -/
def DefAt (K : PySem.W.Frag) (mg : Str → Option Value) (x : Str) (st : Stmt) (ps : List Str) : Prop := ∃ (f : Addr) (fd : FuncData), Fun K x x st f fd ∧ mg x = some (.ref f) ∧ Binds K fd ps []
/-- a method of the class at C -/
def MethAt (K : PySem.W.Frag) (C : Addr) (m qual : Str) (st : Stmt) (ps : List Str) : Prop := ∃ (f : Addr) (fd : FuncData), Fun K m qual st f fd ∧ Meth K C m f ∧ Binds K fd ps []
def InitAt (K : PySem.W.Frag) (mg : Str → Option Value) (x : Str) (C : Addr) (qual : Str) (st : Stmt) (ps : List Str) : Prop := ∃ (f : Addr) (fd : FuncData), Fun K "__init__" qual st f fd ∧ Mk K C f ∧ mg x = some (.ref C) ∧ Binds K fd ps []
section
variable {P : Program} {w : World} {K : PySem.W.Frag} {mg : Str → Option Value} {base : Heap} {x qual m : Str} {C : Addr} {st : Stmt} {ps : List Str} {k : Nat} {sp : Sp} {CX : CXT}
theorem DefAt.cal (d : DefAt K mg x st ps) (h : ∀ {f fd}, Fun K x x st f fd → FnG P w K mg base CX k f fd ps sp) : CalG P w K mg base CX k x sp := by
  obtain ⟨f, fd, F, hm, b⟩ := d
  exact ⟨f, fd, ps, h F, hm, F.kp, b⟩
theorem MethAt.met (c : Cls K C) (d : MethAt K C m qual st ps) (h : ∀ {f fd}, Fun K m qual st f fd → FnG P w K mg base CX k f fd ps sp) : MetG P w K mg base CX k C m sp := by
  obtain ⟨f, fd, F, hm, b⟩ := d
  exact ⟨f, fd, ps, c, hm, h F, b⟩
theorem InitAt.mak (d : InitAt K mg x C qual st ps) (h : ∀ {f fd}, Fun K "__init__" qual st f fd → FnG P w K mg base CX k f fd ps sp) : MakG P w K mg base CX k x C sp := by
  obtain ⟨f, fd, F, M, hm, b⟩ := d
  exact ⟨f, fd, ps, M, h F, hm, b⟩
end
end DL
namespace DL
open PySem L2

/-! ### data that == tells apart -/
mutual
def py : Da → PyData
  | .non => .none | .bl b => .bool b | .int i => .int i | .str x => .str x
  | .tup ds => .tuple (pyL ds) | .lst ds => .list (pyL ds)
  | _ => .none
def pyL : List Da → List PyData
  | [] => []
  | d :: ds => py d :: pyL ds
end
mutual
def plain : Da → Bool
  | .non => true | .bl _ => true | .int _ => true | .str x => PyData.strOk x
  | .tup ds => plainL ds | .lst ds => plainL ds
  | _ => false
def plainL : List Da → Bool
  | [] => true
  | d :: ds => plain d && plainL ds
end
mutual
theorem rep_dp {K : PySem.W.Frag} {I H : Hp} (e : Ex I H) : ∀ {v : V} {d : Da}, Rep K I v d → plain d = true → Dp K H v (py d)
  | _, _, .non, _ => .non
  | _, _, .bl b, _ => .bl b
  | _, _, .int b, _ => .int b
  | _, _, .str b, _ => .str b
  | _, _, .ty _, h => nomatch h
  | _, _, .cls _, h => nomatch h
  | _, _, .tup h r, p => .tup (e.t h) (repl_dp e r p)
  | _, _, .lst h r, p => .lst (SqL.of (e _ _ h)) (repl_dp e r p)
  | _, _, .scr _, h => nomatch h
  | _, _, .dct _ _, h => nomatch h
  | _, _, .exc _ _ _, h => nomatch h
  | _, _, .exc0 _, h => nomatch h
  | _, _, .obj _ _, h => nomatch h
theorem repl_dp {K : PySem.W.Frag} {I H : Hp} (e : Ex I H) : ∀ {v : List V} {d : List Da}, RepL K I v d → plainL d = true → DpAll K H v (pyL d)
  | _, _, .nil, _ => .nil
  | _, _, .cons a b, p => by
    have p' := Bool.and_eq_true_iff.mp p
    exact .cons (rep_dp e a p'.1) (repl_dp e b p'.2)
end
mutual
theorem plain_lay : ∀ d : Da, plain d = true → (py d).canLay0 = true
  | .non, _ => rfl
  | .bl _, _ => rfl
  | .int _, _ => rfl
  | .str _, h => h
  | .tup ds, h => by
    show PyData.canLayAll0 (pyL ds) = true
    exact plainL_lay ds h
  | .lst ds, h => by
    show PyData.canLayAll0 (pyL ds) = true
    exact plainL_lay ds h
theorem plainL_lay : ∀ ds : List Da, plainL ds = true → PyData.canLayAll0 (pyL ds) = true
  | [], _ => rfl
  | d :: ds, h => by
    have h' := Bool.and_eq_true_iff.mp h
    show ((py d).canLay0 && PyData.canLayAll0 (pyL ds)) = true
    rw [plain_lay d h'.1, plainL_lay ds h'.2]; rfl
end
def shp (d : Da) : Bool := plain d && decide ((py d).depth ≤ 64)
theorem shp_shaped {d : Da} (h : shp d = true) : SeqAt.shaped (py d) = true := by
  have h' := Bool.and_eq_true_iff.mp h
  unfold SeqAt.shaped
  rw [plain_lay d h'.1, h'.2]; rfl
theorem shp_plain {d : Da} (h : shp d = true) : plain d = true := (Bool.and_eq_true_iff.mp h).1

/-! ### the operators, whatever stands on their sides -/
def rStrAdd : R2 := fun x y H Q => ∃ i j, x = .str i ∧ y = .str j ∧ i.length + j.length ≤ sizeLine ∧ Q (.str (i ++ j)) H
def rAddI : R2 := rI0 fun i j => .int (i + j)
def rADD (K : PySem.W.Frag) : R2 := fun x y H Q => rAddI x y H Q ∨ (rStrAdd x y H Q ∨ (rCat x y H Q ∨ rCatT K x y H Q))
theorem opADD {X : Cx} : OpR X (binaryOp .Add) (rADD X.K) := OpR.or op_add (OpR.or op_add_str (OpR.or op_cat op_catT))
def CPowB (i j : Int) : Prop := 0 ≤ j ∧ (Builtin.Int.intBits i : Int) * j ≤ 2 ^ 27
def rPOW : R2 := rI CPowB fun i j => .int (i ^ j.toNat)
theorem opPOW {X : Cx} : OpR X (binaryOp .Pow) rPOW := opI fun _ _ _ _ _ _ _ hc q => PyProof.Rows.pow_int hc.1 hc.2 q
def rMULI : R2 := rI CMulX fun i j => .int (i * j)
def rMUL : R2 := fun x y H Q => rMULI x y H Q ∨ rRep x y H Q
theorem opMUL {X : Cx} : OpR X (binaryOp .Mult) rMUL := OpR.or op_mulX op_rep
def rSUB : R2 := rI0 fun i j => .int (i - j)
theorem opSUB {X : Cx} : OpR X (binaryOp .Sub) rSUB := op_sub
def rMOD : R2 := rI (fun _ j => 0 < j) fun i j => .int (i % j)
theorem opMOD {X : Cx} : OpR X (binaryOp .Mod) rMOD := op_mod
def rFDV : R2 := rI CDivW fun i j => .int (i / j)
theorem opFDV {X : Cx} : OpR X (binaryOp .FloorDiv) rFDV := op_fdivW
def rEQ (K : PySem.W.Frag) : R2 := fun x y H Q => rEq x y H Q ∨ rEqD K x y H Q
def rNE (K : PySem.W.Frag) : R2 := fun x y H Q => rNe x y H Q ∨ rNeD K x y H Q
theorem opEQ {X : Cx} (hu : X.A.units + 64 < cLine) : OpR X (compareOp .Eq) (rEQ X.K) := OpR.or op_eq (op_eqD hu)
theorem opNE {X : Cx} (hu : X.A.units + 64 < cLine) : OpR X (compareOp .NotEq) (rNE X.K) := OpR.or op_ne (op_neD hu)
def rLTI : R2 := rI0 fun i j => .bl (decide (i < j))
def rLEI : R2 := rI0 fun i j => .bl (decide (i ≤ j))
def rGTI : R2 := rI0 fun i j => .bl (decide (j < i))
def rGEI : R2 := rI0 fun i j => .bl (decide (j ≤ i))
theorem opLT {X : Cx} : OpR X (compareOp .Lt) rLTI := op_lt
theorem opLE {X : Cx} : OpR X (compareOp .LtE) rLEI := op_le
theorem opGT {X : Cx} : OpR X (compareOp .Gt) rGTI := op_gt
theorem opGE {X : Cx} : OpR X (compareOp .GtE) rGEI := op_ge
def rISN : R2 := fun x y H Q => y = .non ∧ Q (.bl (decide (x = .non))) H
def rNON : R2 := fun x y H Q => y = .non ∧ Q (.bl (!decide (x = .non))) H
theorem opISN {X : Cx} : OpR X (compareOp .Is) rISN := op_isN
theorem opNON {X : Cx} : OpR X (compareOp .IsNot) rNON := op_notN
def rSgn : R2 := fun x y H Q => ∃ (c : Nat) (z : Str), x = .str ⟨#[c]⟩ ∧ y = .str z ∧ Q (.bl (decide (c ∈ z.cps.toList))) H
def rDIn : R2 := fun y x H Q => ∃ a o, x = .ref a ∧ DGet H a y o ∧ Q (.bl o.isSome) H
def rDNin : R2 := fun y x H Q => ∃ a o, x = .ref a ∧ DGet H a y o ∧ Q (.bl (!o.isSome)) H
theorem op_din {X : Cx} (hu : X.A.units + 64 < cLine) : OpR X (compareOp .In) rDIn := by
  rintro pins s σ H y x v u Q I ry rx ⟨a, o, rfl, g, q⟩
  cases (show u = Value.ref a from rx)
  exact d_in (by omega) I g ry fun s' J => ⟨.bl o.isSome, H, J, rfl, q⟩
theorem op_dnin {X : Cx} (hu : X.A.units + 64 < cLine) : OpR X (compareOp .NotIn) rDNin := by
  rintro pins s σ H y x v u Q I ry rx ⟨a, o, rfl, g, q⟩
  cases (show u = Value.ref a from rx)
  exact d_notIn (by omega) I g ry fun s' J => ⟨.bl (!o.isSome), H, J, rfl, q⟩
def rNSgn : R2 := fun x y H Q => ∃ (c : Nat) (z : Str), x = .str ⟨#[c]⟩ ∧ y = .str z ∧ Q (.bl (!decide (c ∈ z.cps.toList))) H
def rIN (K : PySem.W.Frag) : R2 := fun x y H Q => rIn K false x y H Q ∨ (rSgn x y H Q ∨ (rDIn x y H Q ∨ rInD K x y H Q))
def rNIN (K : PySem.W.Frag) : R2 := fun x y H Q => rIn K true x y H Q ∨ (rNSgn x y H Q ∨ (rDNin x y H Q ∨ rNotInD K x y H Q))
theorem opIN {X : Cx} (hu : X.A.units + 65 < cLine) : OpR X (compareOp .In) (rIN X.K) := OpR.or op_in_seq (OpR.or op_in_sign (OpR.or (op_din (by omega)) (op_inD hu)))
theorem opNIN {X : Cx} (hu : X.A.units + 65 < cLine) : OpR X (compareOp .NotIn) (rNIN X.K) := OpR.or op_notIn_seq (OpR.or op_notIn_sign (OpR.or (op_dnin (by omega)) (op_notInD hu)))
/-- subscripts -/
def rDIx : R2 := fun x y H Q => ∃ a v, x = .ref a ∧ DGet H a y (some v) ∧ Q v H
theorem ix_dict {X : Cx} (hu : X.A.units + 64 < cLine) : IxR X rDIx := by
  rintro value slice pins s σ H x y v u Q I rx ry ⟨a, z, rfl, g, q⟩ hs
  cases (show v = Value.ref a from rx)
  have hT := dict_typeIs I g
  have go : wpAny (model X.prog X.w) X.A (getItem (.ref a) u) (EP X pins σ Q) X.xe s := d_getItem (by omega) I g ry fun w' s3 I3 rw' => ⟨z, H, I3, rw', q⟩
  exact PyProof.Rows.tail_any hT PySem.F.slot_dict_getitem.lookup go hs
def rIX (K : PySem.W.Frag) : R2 := fun x y H Q => rIx K x y H Q ∨ rDIx x y H Q
theorem ixANY {X : Cx} (hu : X.A.units + 64 < cLine) : IxR X (rIX X.K) := IxR.or ix_seq (ix_dict hu)
end DL
namespace DL
open PySem L2
section
variable {K : PySem.W.Frag} {δ : List SK} {μ : Mu} {Q : SK → Mu → Prop} {QT : Bool → Mu → Prop} {r r' : R2} {x y : SK}
theorem rr_or1 (h : RR K r x y δ μ Q) : RR K (fun x y H Q => r x y H Q ∨ r' x y H Q) x y δ μ Q := fun Lc I H σ F s v w a b QQ p => .inl (h Lc I H σ F s v w a b QQ p)
theorem rr_or2 (h : RR K r' x y δ μ Q) : RR K (fun x y H Q => r x y H Q ∨ r' x y H Q) x y δ μ Q := fun Lc I H σ F s v w a b QQ p => .inr (h Lc I H σ F s v w a b QQ p)
theorem rr_I0 {g : Int → Int → Int} {i j : Int} (q : Q (.dat (.int (g i j))) μ) : RR K (rI0 fun i j => .int (g i j)) (.dat (.int i)) (.dat (.int j)) δ μ Q := fun Lc I H σ F s v w a b QQ p => by
  cases a
  cases b
  exact ⟨i, j, rfl, rfl, p.now (v := .int (g i j)) (r := .dat (.int (g i j))) s (Rep.int _) q⟩
theorem rr_B0 {g : Int → Int → Bool} {i j : Int} (q : Q (.dat (.bl (g i j))) μ) : RR K (rI0 fun i j => .bl (g i j)) (.dat (.int i)) (.dat (.int j)) δ μ Q := fun Lc I H σ F s v w a b QQ p => by
  cases a
  cases b
  exact ⟨i, j, rfl, rfl, p.now (v := .bl (g i j)) (r := .dat (.bl (g i j))) s (Rep.bl _) q⟩
theorem rr_I {C : Int → Int → Prop} {g : Int → Int → Int} {i j : Int} (hc : C i j) (q : Q (.dat (.int (g i j))) μ) : RR K (rI C fun i j => .int (g i j)) (.dat (.int i)) (.dat (.int j)) δ μ Q := fun Lc I H σ F s v w a b QQ p => by
  cases a
  cases b
  exact ⟨i, j, rfl, rfl, hc, p.now (v := .int (g i j)) (r := .dat (.int (g i j))) s (Rep.int _) q⟩
-- +
theorem add_i {i j : Int} (q : Q (.dat (.int (i + j))) μ) : RR K (rADD K) (.dat (.int i)) (.dat (.int j)) δ μ Q := rr_or1 (rr_I0 (g := fun i j => i + j) q)
theorem add_s {a b : Str} (hl : a.length + b.length ≤ 1000000) (q : Q (.dat (.str (a ++ b))) μ) : RR K (rADD K) (.dat (.str a)) (.dat (.str b)) δ μ Q := rr_or2 (rr_or1 fun Lc I H σ F s v w x y QQ p => by
  cases x
  cases y
  exact ⟨a, b, rfl, rfl, Nat.le_trans hl (by decide), p.now (v := .str (a ++ b)) (r := .dat (.str (a ++ b))) s (Rep.str _) q⟩)
theorem repl_cat {I : Hp} : ∀ {vs : List V} {ds : List Da} {ws : List V} {es : List Da}, RepL K I vs ds → RepL K I ws es → RepL K I (vs ++ ws) (ds ++ es)
  | _, _, _, _, .nil, h => h
  | _, _, _, _, .cons a b, h => .cons a (repl_cat b h)
/-- + of two lists (data, or still changed) makes data -/
theorem IsL.at_ {Lc : Addr → Prop} {I H : Hp} {σ : St} {F : List Addr} (s : Sta K Lc I H σ δ μ F) {v : V} {r : SK} {ds : List Da} (h : IsL μ r ds) (ok : SOk K I (some v) r) : ∃ a xs, v = .ref a ∧ H a = some (.lst xs) ∧ RepL K I xs ds := by
  cases h with
  | dat =>
    cases ok with
    | lst hs hr => exact ⟨_, _, rfl, s.ih _ _ hs, hr⟩
  | own h =>
    have ok' : v = .ref _ := ok
    obtain ⟨Fi, m, _⟩ := s.mu.at h
    obtain ⟨_, xs, hx, r⟩ := m
    exact ⟨_, xs, ok', hx, r⟩
theorem add_l {ds es : List Da} (hx : IsL μ x ds) (hy : IsL μ y es) (hl : ds.length + es.length ≤ 1000000) (q : Q (.dat (.lst (ds ++ es))) μ) : RR K (rADD K) x y δ μ Q := rr_or2 (rr_or2 (rr_or1 fun Lc I H σ F s v w ox oy QQ p => by
  obtain ⟨a, xs, rfl, ha, ra⟩ := hx.at_ s ox
  obtain ⟨b, ys, rfl, hb, rb⟩ := hy.at_ s oy
  refine ⟨a, b, xs, ys, rfl, rfl, ha, hb, Nat.le_trans (by rw [repl_len ra, repl_len rb]; exact hl) (by decide), fun c hc => ?_⟩
  exact p (.ref c) (upd I c (.lst (xs ++ ys))) (upd H c (.lst (xs ++ ys))) (.dat (.lst (ds ++ es))) μ F (Step.new hc s.ih) (fun x hx => .inl hx) (s.newD hc) (Rep.lst upd_same (repl_cat (ra.mono (Ex.new (s.ih.gone hc))) (rb.mono (Ex.new (s.ih.gone hc))))) q))
theorem add_t {ds es : List Da} (h0 : ds ≠ []) (he : es ≠ []) (hl : ds.length + es.length ≤ 1000000) (q : Q (.dat (.tup (ds ++ es))) μ) : RR K (rADD K) (.dat (.tup ds)) (.dat (.tup es)) δ μ Q := rr_or2 (rr_or2 (rr_or2 fun Lc I H σ F s v w ox oy QQ p => by
  cases ox with
  | tup h1 r1 =>
    cases oy with
    | tup h2 r2 =>
      rename_i a xs b ys
      have n1 : xs ≠ [] := fun z => by subst z; cases r1; exact h0 rfl
      have n2 : ys ≠ [] := fun z => by subst z; cases r2; exact he rfl
      refine ⟨a, b, xs, ys, rfl, rfl, s.ih.t h1, s.ih.t h2, n1, Nat.le_trans (by rw [repl_len r1, repl_len r2]; exact hl) (by decide), fun z => absurd z n2, fun _ c hc => ?_⟩
      exact p (.ref c) (upd I c (.tup (xs ++ ys))) (upd H c (.tup (xs ++ ys))) (.dat (.tup (ds ++ es))) μ F (Step.new hc s.ih) (fun x hx => .inl hx) (s.newD hc) (Rep.tup (SqT.of upd_same) (repl_cat (r1.mono (Ex.new (s.ih.gone hc))) (r2.mono (Ex.new (s.ih.gone hc))))) q))
theorem sub_i {i j : Int} (q : Q (.dat (.int (i - j))) μ) : RR K rSUB (.dat (.int i)) (.dat (.int j)) δ μ Q := rr_I0 (g := fun i j => i - j) q
theorem mul_i {i j : Int} (hc : CMulX i j) (q : Q (.dat (.int (i * j))) μ) : RR K rMUL (.dat (.int i)) (.dat (.int j)) δ μ Q := rr_or1 (rr_I (g := fun i j => i * j) hc q)
theorem mod_i {i j : Int} (hc : 0 < j) (q : Q (.dat (.int (i % j))) μ) : RR K rMOD (.dat (.int i)) (.dat (.int j)) δ μ Q := rr_I (C := fun _ j => 0 < j) (g := fun i j => i % j) hc q
theorem fdv_i {i j : Int} (hc : CDivW i j) (q : Q (.dat (.int (i / j))) μ) : RR K rFDV (.dat (.int i)) (.dat (.int j)) δ μ Q := rr_I (g := fun i j => i / j) hc q
theorem pow_i {i j : Int} (hc : CPowB i j) (q : Q (.dat (.int (i ^ j.toNat))) μ) : RR K rPOW (.dat (.int i)) (.dat (.int j)) δ μ Q := rr_I (g := fun i j => i ^ j.toNat) hc q
theorem lt_i {i j : Int} (q : Q (.dat (.bl (decide (i < j)))) μ) : RR K rLTI (.dat (.int i)) (.dat (.int j)) δ μ Q := rr_B0 (g := fun i j => decide (i < j)) q
theorem le_i {i j : Int} (q : Q (.dat (.bl (decide (i ≤ j)))) μ) : RR K rLEI (.dat (.int i)) (.dat (.int j)) δ μ Q := rr_B0 (g := fun i j => decide (i ≤ j)) q
theorem gt_i {i j : Int} (q : Q (.dat (.bl (decide (j < i)))) μ) : RR K rGTI (.dat (.int i)) (.dat (.int j)) δ μ Q := rr_B0 (g := fun i j => decide (j < i)) q
theorem ge_i {i j : Int} (q : Q (.dat (.bl (decide (j ≤ i)))) μ) : RR K rGEI (.dat (.int i)) (.dat (.int j)) δ μ Q := rr_B0 (g := fun i j => decide (j ≤ i)) q
-- == and !=
theorem eq_sc {d e : Da} {v w : V} (hs : scal v w = true) (h1 : ∀ I u, Rep K I u d → u = v) (h2 : ∀ I u, Rep K I u e → u = w) (q : Q (.dat (.bl (decide (v = w)))) μ) : RR K (rEQ K) (.dat d) (.dat e) δ μ Q := rr_or1 fun Lc I H σ F s v' w' a b QQ p => by
  cases h1 _ _ a
  cases h2 _ _ b
  exact ⟨hs, p.now (v := .bl _) (r := .dat (.bl _)) s (Rep.bl _) q⟩
theorem ne_sc {d e : Da} {v w : V} (hs : scal v w = true) (h1 : ∀ I u, Rep K I u d → u = v) (h2 : ∀ I u, Rep K I u e → u = w) (q : Q (.dat (.bl (!decide (v = w)))) μ) : RR K (rNE K) (.dat d) (.dat e) δ μ Q := rr_or1 fun Lc I H σ F s v' w' a b QQ p => by
  cases h1 _ _ a
  cases h2 _ _ b
  exact ⟨hs, p.now (v := .bl _) (r := .dat (.bl _)) s (Rep.bl _) q⟩
theorem un_int {i : Int} : ∀ I u, Rep K I u (.int i) → u = .int i := fun _ _ h => by cases h; rfl
theorem un_str {i : Str} : ∀ I u, Rep K I u (.str i) → u = .str i := fun _ _ h => by cases h; rfl
theorem un_bl {i : Bool} : ∀ I u, Rep K I u (.bl i) → u = .bl i := fun _ _ h => by cases h; rfl
theorem un_non : ∀ I u, Rep K I u .non → u = .non := fun _ _ h => by cases h; rfl
theorem eq_i {i j : Int} (q : Q (.dat (.bl (decide (i = j)))) μ) : RR K (rEQ K) (.dat (.int i)) (.dat (.int j)) δ μ Q := eq_sc rfl un_int un_int (by
  have e : decide (V.int i = V.int j) = decide (i = j) := by simp
  rw [e]; exact q)
theorem ne_i {i j : Int} (q : Q (.dat (.bl (!decide (i = j)))) μ) : RR K (rNE K) (.dat (.int i)) (.dat (.int j)) δ μ Q := ne_sc rfl un_int un_int (by
  have e : decide (V.int i = V.int j) = decide (i = j) := by simp
  rw [e]; exact q)
theorem eq_s {i j : Str} (q : Q (.dat (.bl (decide (i = j)))) μ) : RR K (rEQ K) (.dat (.str i)) (.dat (.str j)) δ μ Q := eq_sc rfl un_str un_str (by
  have e : decide (V.str i = V.str j) = decide (i = j) := by simp
  rw [e]; exact q)
theorem ne_s {i j : Str} (q : Q (.dat (.bl (!decide (i = j)))) μ) : RR K (rNE K) (.dat (.str i)) (.dat (.str j)) δ μ Q := ne_sc rfl un_str un_str (by
  have e : decide (V.str i = V.str j) = decide (i = j) := by simp
  rw [e]; exact q)
theorem eq_sn {i : Str} (q : Q (.dat (.bl false)) μ) : RR K (rEQ K) (.dat (.str i)) (.dat .non) δ μ Q := eq_sc rfl un_str un_non q
theorem eq_ns {i : Str} (q : Q (.dat (.bl false)) μ) : RR K (rEQ K) (.dat .non) (.dat (.str i)) δ μ Q := eq_sc rfl un_non un_str q
theorem eq_nn (q : Q (.dat (.bl true)) μ) : RR K (rEQ K) (.dat .non) (.dat .non) δ μ Q := eq_sc rfl un_non un_non (by simpa using q)
theorem ne_sn {i : Str} (q : Q (.dat (.bl true)) μ) : RR K (rNE K) (.dat (.str i)) (.dat .non) δ μ Q := ne_sc rfl un_str un_non q
theorem ne_ns {i : Str} (q : Q (.dat (.bl true)) μ) : RR K (rNE K) (.dat .non) (.dat (.str i)) δ μ Q := ne_sc rfl un_non un_str q
theorem ne_nn (q : Q (.dat (.bl false)) μ) : RR K (rNE K) (.dat .non) (.dat .non) δ μ Q := ne_sc rfl un_non un_non (by simpa using q)
theorem eq_b {i j : Bool} (q : Q (.dat (.bl (decide (i = j)))) μ) : RR K (rEQ K) (.dat (.bl i)) (.dat (.bl j)) δ μ Q := eq_sc rfl un_bl un_bl (by
  have e : decide (V.bl i = V.bl j) = decide (i = j) := by simp
  rw [e]; exact q)
theorem ne_b {i j : Bool} (q : Q (.dat (.bl (!decide (i = j)))) μ) : RR K (rNE K) (.dat (.bl i)) (.dat (.bl j)) δ μ Q := ne_sc rfl un_bl un_bl (by
  have e : decide (V.bl i = V.bl j) = decide (i = j) := by simp
  rw [e]; exact q)
/-- two of any form -/
theorem eq_d {d e : Da} (hd : shp d = true) (he : shp e = true) (q : Q (.dat (.bl (PyData.eqv (py d) (py e)))) μ) : RR K (rEQ K) (.dat d) (.dat e) δ μ Q := rr_or2 fun Lc I H σ F s v w a b QQ p =>
  ⟨py d, py e, rep_dp s.ih a (shp_plain hd), rep_dp s.ih b (shp_plain he), shp_shaped hd, shp_shaped he, p.now (v := .bl _) (r := .dat (.bl _)) s (Rep.bl _) q⟩
theorem ne_d {d e : Da} (hd : shp d = true) (he : shp e = true) (q : Q (.dat (.bl (!PyData.eqv (py d) (py e)))) μ) : RR K (rNE K) (.dat d) (.dat e) δ μ Q := rr_or2 fun Lc I H σ F s v w a b QQ p =>
  ⟨py d, py e, rep_dp s.ih a (shp_plain hd), rep_dp s.ih b (shp_plain he), shp_shaped hd, shp_shaped he, p.now (v := .bl _) (r := .dat (.bl _)) s (Rep.bl _) q⟩
/-- the same data -/
theorem eq_dd {d : Da} (hd : shp d = true) (q : Q (.dat (.bl true)) μ) : RR K (rEQ K) (.dat d) (.dat d) δ μ Q := eq_d hd hd (by rw [SeqAt.eqv_refl _ (plain_lay d (shp_plain hd))]; exact q)
theorem ne_dd {d : Da} (hd : shp d = true) (q : Q (.dat (.bl false)) μ) : RR K (rNE K) (.dat d) (.dat d) δ μ Q := ne_d hd hd (by rw [SeqAt.eqv_refl _ (plain_lay d (shp_plain hd))]; exact q)
-- is None
def isNon : Da → Bool
  | .non => true
  | _ => false
theorem is_n {d : Da} (q : Q (.dat (.bl (isNon d))) μ) : RR K rISN (.dat d) (.dat .non) δ μ Q := fun Lc I H σ F s v w a b QQ p => by
  cases b
  refine ⟨rfl, ?_⟩
  have e : decide (v = V.non) = isNon d := by cases a <;> simp [isNon]
  rw [e]
  exact p.now (v := .bl _) (r := .dat (.bl _)) s (Rep.bl _) q
theorem not_n {d : Da} (q : Q (.dat (.bl (!isNon d))) μ) : RR K rNON (.dat d) (.dat .non) δ μ Q := fun Lc I H σ F s v w a b QQ p => by
  cases b
  refine ⟨rfl, ?_⟩
  have e : (!decide (v = V.non)) = (!isNon d) := by cases a <;> simp [isNon]
  rw [e]
  exact p.now (v := .bl _) (r := .dat (.bl _)) s (Rep.bl _) q
-- in: a text in a list or tuple of texts; a sign in a text
def txts (l : List Str) : List Da := l.map .str
theorem repl_strs {I : Hp} : ∀ {l : List Str} {vs : List V}, RepL K I vs (txts l) → vs = l.map V.str
  | [], vs, h => by cases h; rfl
  | z :: l, vs, h => by
    cases h with
    | cons a b => cases a; rw [repl_strs b]; rfl
theorem inV_strs (z : Str) (l : List Str) : inV (.str z) (l.map V.str) = decide (z ∈ l) := by
  induction l with
  | nil => rfl
  | cons a l ih =>
    have e : inV (.str z) ((a :: l).map V.str) = (eqV (.str a) (.str z) || inV (.str z) (l.map V.str)) := rfl
    rw [e, ih]
    have e2 : eqV (.str a) (.str z) = decide (a = z) := by
      show (a == z) = decide (a = z)
      exact Bool.beq_eq_decide_eq a z
    rw [e2]
    by_cases h : a = z
    · subst h; simp
    · have h' : ¬ z = a := fun q => h q.symm
      simp [h, h']
theorem all_strs (l : List Str) : (l.map V.str).all flatV = true := by
  rw [List.all_map, List.all_eq_true]
  intro z _; rfl
theorem in_strs {z : Str} {l : List Str} {ds : List Da} (hd : ds = txts l) (hy : IsL μ y ds) (q : Q (.dat (.bl (decide (z ∈ l)))) μ) : RR K (rIN K) (.dat (.str z)) y δ μ Q := rr_or1 fun Lc I H σ F s v w a b QQ p => by
  cases a
  obtain ⟨ad, xs, rfl, hx, r⟩ := hy.sq s b
  rw [hd] at r
  cases repl_strs r
  refine ⟨ad, _, rfl, .inl hx, rfl, all_strs l, ?_⟩
  show QQ (.bl (inV (.str z) (l.map V.str))) H
  rw [inV_strs]
  exact p.now (v := .bl _) (r := .dat (.bl _)) s (Rep.bl _) q
theorem nin_strs {z : Str} {l : List Str} {ds : List Da} (hd : ds = txts l) (hy : IsL μ y ds) (q : Q (.dat (.bl (!decide (z ∈ l)))) μ) : RR K (rNIN K) (.dat (.str z)) y δ μ Q := rr_or1 fun Lc I H σ F s v w a b QQ p => by
  cases a
  obtain ⟨ad, xs, rfl, hx, r⟩ := hy.sq s b
  rw [hd] at r
  cases repl_strs r
  refine ⟨ad, _, rfl, .inl hx, rfl, all_strs l, ?_⟩
  show QQ (.bl (!inV (.str z) (l.map V.str))) H
  rw [inV_strs]
  exact p.now (v := .bl _) (r := .dat (.bl _)) s (Rep.bl _) q
theorem in_tup {z : Str} {l : List Str} {ds : List Da} (hd : ds = txts l) (q : Q (.dat (.bl (decide (z ∈ l)))) μ) : RR K (rIN K) (.dat (.str z)) (.dat (.tup ds)) δ μ Q := rr_or1 fun Lc I H σ F s v w a b QQ p => by
  cases a
  cases b with
  | tup hx r =>
    rw [hd] at r
    cases repl_strs r
    refine ⟨_, _, rfl, .inr (s.ih.t hx), rfl, all_strs l, ?_⟩
    show QQ (.bl (inV (.str z) (l.map V.str))) H
    rw [inV_strs]
    exact p.now (v := .bl _) (r := .dat (.bl _)) s (Rep.bl _) q
theorem in_sgn {c : Nat} {z : Str} (q : Q (.dat (.bl (decide (c ∈ z.cps.toList)))) μ) : RR K (rIN K) (.dat (.str ⟨#[c]⟩)) (.dat (.str z)) δ μ Q := rr_or2 (rr_or1 fun Lc I H σ F s v w a b QQ p => by
  cases a
  cases b
  exact ⟨c, z, rfl, rfl, p.now (v := .bl _) (r := .dat (.bl _)) s (Rep.bl _) q⟩)
theorem in_d {d : Da} {ds : List Da} (hd : shp d = true) (he : shp (.lst ds) = true) (q : Q (.dat (.bl ((pyL ds).any fun z => PyData.eqv z (py d)))) μ) : RR K (rIN K) (.dat d) (.dat (.lst ds)) δ μ Q := rr_or2 (rr_or2 (rr_or2 fun Lc I H σ F s v w a b QQ p =>
  ⟨py d, pyL ds, rep_dp s.ih a (shp_plain hd), rep_dp s.ih b (shp_plain he), shp_shaped hd, shp_shaped he, p.now (v := .bl _) (r := .dat (.bl _)) s (Rep.bl _) q⟩))
-- dicts with text keys
theorem repK_val {I : Hp} {z : Str} : ∀ {kvs : List (Key × V)} {ds : List (Str × Da)}, RepK K I kvs ds → (valV kvs (Sum.inr z : Key)).isSome = (ds.lookup z).isSome
  | _, _, .nil => rfl
  | _, _, .cons (f := g) r t => by
    have ih := repK_val (z := z) t
    by_cases h : g = z
    · subst h
      simp [valV, List.lookup]
    · have h1 : ¬ (Sum.inr g : Key) = Sum.inr z := fun q => h (Sum.inr.inj q)
      have h2 : (z == g) = false := by simpa using fun q : z = g => h q.symm
      simp only [List.lookup, h2]
      rw [← ih]
      simp [valV, h1]
theorem repK_get {I : Hp} {z : Str} {d : Da} : ∀ {kvs : List (Key × V)} {ds : List (Str × Da)}, RepK K I kvs ds → ds.lookup z = some d → ∃ v, valV kvs (Sum.inr z : Key) = some v ∧ Rep K I v d
  | _, _, .nil, e => by simp at e
  | _, _, .cons (f := g) r t, e => by
    by_cases h : g = z
    · subst h
      simp only [List.lookup, beq_self_eq_true, Option.some.injEq] at e
      subst e
      exact ⟨_, by simp [valV], r⟩
    · have h1 : ¬ (Sum.inr g : Key) = Sum.inr z := fun q => h (Sum.inr.inj q)
      have h2 : (z == g) = false := by simpa using fun q : z = g => h q.symm
      simp only [List.lookup, h2] at e
      obtain ⟨v, hv, rv⟩ := repK_get t e
      exact ⟨v, by simpa [valV, h1] using hv, rv⟩
theorem in_dct {z : Str} {ds : List (Str × Da)} (q : Q (.dat (.bl (ds.lookup z).isSome)) μ) : RR K (rIN K) (.dat (.str z)) (.dat (.dct ds)) δ μ Q := rr_or2 (rr_or2 (rr_or1 fun Lc I H σ F s v w a b QQ p => by
  cases a
  cases b with
  | dct h r =>
    refine ⟨_, _, rfl, DGet.k (k := Sum.inr z) (s.ih _ _ h), ?_⟩
    rw [repK_val r]
    exact p.now (v := .bl _) (r := .dat (.bl _)) s (Rep.bl _) q))
theorem nin_dct {z : Str} {ds : List (Str × Da)} (q : Q (.dat (.bl (!(ds.lookup z).isSome))) μ) : RR K (rNIN K) (.dat (.str z)) (.dat (.dct ds)) δ μ Q := rr_or2 (rr_or2 (rr_or1 fun Lc I H σ F s v w a b QQ p => by
  cases a
  cases b with
  | dct h r =>
    refine ⟨_, _, rfl, DGet.k (k := Sum.inr z) (s.ih _ _ h), ?_⟩
    rw [repK_val r]
    exact p.now (v := .bl _) (r := .dat (.bl _)) s (Rep.bl _) q))
-- subscripts
theorem ix_l {ds : List Da} {i : Int} {d : Da} (hx : IsL μ x ds) (h : atI ds i = some d) (q : Q (.dat d) μ) : RR K (rIX K) x (.dat (.int i)) δ μ Q := rr_or1 (rr_or1 fun Lc I H σ F s v w a b QQ p => by
  cases b
  obtain ⟨ad, xs, rfl, hs, r⟩ := hx.sq s a
  obtain ⟨w, hw, rw'⟩ : ∃ w, atI xs i = some w ∧ Rep K I w d := by
    unfold atI at h ⊢
    rw [repl_len r]
    cases e : ixN ds.length i with
    | none => rw [e] at h; cases h
    | some j =>
      rw [e] at h
      exact repl_get' r h
  exact ⟨ad, xs, i, w, rfl, rfl, hs, hw, p.now (v := w) (r := .dat d) s rw' q⟩)
theorem ix_t {ds : List Da} {i : Int} {d : Da} (h : atI ds i = some d) (q : Q (.dat d) μ) : RR K (rIX K) (.dat (.tup ds)) (.dat (.int i)) δ μ Q := rr_or1 (rr_or2 (rr_or1 fun Lc I H σ F s v w a b QQ p => by
  cases b
  cases a with
  | tup hs r =>
    rename_i ad xs
    obtain ⟨w, hw, rw'⟩ : ∃ w, atI xs i = some w ∧ Rep K I w d := by
      unfold atI at h ⊢
      rw [repl_len r]
      cases e : ixN ds.length i with
      | none => rw [e] at h; cases h
      | some j =>
        rw [e] at h
        exact repl_get' r h
    exact ⟨ad, xs, i, w, rfl, rfl, s.ih.t hs, hw, p.now (v := w) (r := .dat d) s rw' q⟩))
theorem ix_s {z : Str} {i : Int} {c : Nat} (hl : z.length ≤ 1000000) (h : atI z.cps.toList i = some c) (q : Q (.dat (.str ⟨#[c]⟩)) μ) : RR K (rIX K) (.dat (.str z)) (.dat (.int i)) δ μ Q := rr_or1 (rr_or2 (rr_or2 fun Lc I H σ F s v w a b QQ p => by
  cases a
  cases b
  exact ⟨z, i, c, rfl, rfl, Nat.le_trans hl (by decide), h, p.now (v := .str _) (r := .dat (.str _)) s (Rep.str _) q⟩))
theorem ix_dct {z : Str} {ds : List (Str × Da)} {d : Da} (h : ds.lookup z = some d) (q : Q (.dat d) μ) : RR K (rIX K) (.dat (.dct ds)) (.dat (.str z)) δ μ Q := rr_or2 fun Lc I H σ F s v w a b QQ p => by
  cases b
  cases a with
  | dct hd r =>
    obtain ⟨w, hw, rw'⟩ := repK_get r h
    exact ⟨_, w, rfl, by
      have z := DGet.k (k := (Sum.inr z : Key)) (s.ih _ _ hd)
      rw [hw] at z
      exact z, p.now (v := w) (r := .dat d) s rw' q⟩
end
end DL
namespace DL
open PySem L2
section
variable {K : PySem.W.Frag} {δ : List SK} {μ : Mu} {Q : SK → Mu → Prop} {QT : Bool → Mu → Prop} {r r' : List V → Hp → VK → Prop} {xs : List SK} {x y : SK} {te ta tb tc : TE}
theorem rc_or1 (h : RC K r xs δ μ Q) : RC K (fun xs H Q => r xs H Q ∨ r' xs H Q) xs δ μ Q := fun Lc I H σ F s vs a QQ p => .inl (h Lc I H σ F s vs a QQ p)
theorem rc_or2 (h : RC K r' xs δ μ Q) : RC K (fun xs H Q => r xs H Q ∨ r' xs H Q) xs δ μ Q := fun Lc I H σ F s vs a QQ p => .inr (h Lc I H σ F s vs a QQ p)
-- len
def rLenX (K : PySem.W.Frag) : List V → Hp → VK → Prop := fun xs H Q => ∃ x n, xs = [x] ∧ LenV K x H n ∧ Q (.int n) H
def rLenD : List V → Hp → VK → Prop := fun xs H Q => ∃ a kvs, xs = [V.ref a] ∧ H a = some (.dK kvs) ∧ Q (.int kvs.length) H
def rLEN (K : PySem.W.Frag) : List V → Hp → VK → Prop := fun xs H Q => rLenX K xs H Q ∨ rLenD xs H Q
theorem cLEN {X : Cx} : CallR X (.builtin "len") (rLEN X.K) := CallR.or call_len call_lenD
theorem len_l {ds : List Da} (hx : IsL μ x ds) (q : Q (.dat (.int ds.length)) μ) : RC K (rLEN K) [x] δ μ Q := rc_or1 fun Lc I H σ F s vs a QQ p => by
  obtain ⟨v, rfl, ov⟩ := vals1 a
  obtain ⟨ad, ys, rfl, hs, rr⟩ := hx.sq s ov
  refine ⟨.ref ad, ys.length, rfl, .inl ⟨ys, hs, rfl⟩, ?_⟩
  rw [repl_len rr]
  exact p.now (v := .int _) (r := .dat (.int _)) s (Rep.int _) q
theorem len_t {ds : List Da} (q : Q (.dat (.int ds.length)) μ) : RC K (rLEN K) [.dat (.tup ds)] δ μ Q := rc_or1 fun Lc I H σ F s vs a QQ p => by
  obtain ⟨v, rfl, ov⟩ := vals1 a
  cases ov with
  | tup hs rr =>
    refine ⟨_, _, rfl, .inr ⟨_, s.ih.t hs, rfl⟩, ?_⟩
    rw [repl_len rr]
    exact p.now (v := .int _) (r := .dat (.int _)) s (Rep.int _) q
theorem len_s {z : Str} (hl : z.length ≤ 1000000) (q : Q (.dat (.int z.length)) μ) : RC K (rLEN K) [.dat (.str z)] δ μ Q := rc_or1 fun Lc I H σ F s vs a QQ p => by
  obtain ⟨v, rfl, ov⟩ := vals1 a
  cases ov
  exact ⟨_, z.length, rfl, ⟨Nat.le_trans hl (by decide), rfl⟩, p.now (v := .int _) (r := .dat (.int _)) s (Rep.int _) q⟩
theorem len_scr {ns : List Int} (q : Q (.dat (.int ns.length)) μ) : RC K (rLEN K) [.dat (.scr ns)] δ μ Q := rc_or1 fun Lc I H σ F s vs a QQ p => by
  obtain ⟨v, rfl, ov⟩ := vals1 a
  cases ov with
  | scr hs =>
    refine ⟨_, _, rfl, .inl ⟨_, s.ih.l hs, rfl⟩, ?_⟩
    rw [List.length_map]
    exact p.now (v := .int _) (r := .dat (.int _)) s (Rep.int _) q
theorem repK_len {I : Hp} : ∀ {kvs : List (Key × V)} {ds : List (Str × Da)}, RepK K I kvs ds → kvs.length = ds.length
  | _, _, .nil => rfl
  | _, _, .cons _ t => by simp [repK_len t]
theorem len_d {ds : List (Str × Da)} (q : Q (.dat (.int ds.length)) μ) : RC K (rLEN K) [.dat (.dct ds)] δ μ Q := rc_or2 fun Lc I H σ F s vs a QQ p => by
  obtain ⟨v, rfl, ov⟩ := vals1 a
  cases ov with
  | dct hs rr =>
    refine ⟨_, _, rfl, s.ih _ _ hs, ?_⟩
    rw [repK_len rr]
    exact p.now (v := .int _) (r := .dat (.int _)) s (Rep.int _) q
-- int, abs, max, min
def rINT : List V → Hp → VK → Prop := fun xs H Q => (∃ i, xs = [.int i] ∧ Q (.int i) H) ∨ ∃ k, xs = [.bl k] ∧ Q (.int (if k then 1 else 0)) H
theorem cINT {X : Cx} : CallR X (.type "int") rINT := call_int1
theorem int_i {i : Int} (q : Q (.dat (.int i)) μ) : RC K rINT [.dat (.int i)] δ μ Q := fun Lc I H σ F s vs a QQ p => by
  obtain ⟨v, rfl, ov⟩ := vals1 a
  cases ov
  exact .inl ⟨i, rfl, p.now (v := .int i) (r := .dat (.int i)) s (Rep.int _) q⟩
def rABS : List V → Hp → VK → Prop := fun xs H Q => ∃ i, xs = [.int i] ∧ Q (.int (if i < 0 then -i else i)) H
theorem cABS {X : Cx} : CallR X (.builtin "abs") rABS := call_abs
theorem abs_i {i : Int} (q : Q (.dat (.int (if i < 0 then -i else i))) μ) : RC K rABS [.dat (.int i)] δ μ Q := fun Lc I H σ F s vs a QQ p => by
  obtain ⟨v, rfl, ov⟩ := vals1 a
  cases ov
  exact ⟨i, rfl, p.now (v := .int _) (r := .dat (.int _)) s (Rep.int _) q⟩
def rMAX : List V → Hp → VK → Prop := fun xs H Q => ∃ i j, xs = [.int i, .int j] ∧ Q (.int (if j > i then j else i)) H
def rMIN : List V → Hp → VK → Prop := fun xs H Q => ∃ i j, xs = [.int i, .int j] ∧ Q (.int (if j < i then j else i)) H
theorem cMAX {X : Cx} (hc : X.calm = true) : CallR X (.builtin "max") rMAX := call_max2 hc
theorem cMIN {X : Cx} (hc : X.calm = true) : CallR X (.builtin "min") rMIN := call_min2 hc
theorem max_i {i j : Int} (q : Q (.dat (.int (if j > i then j else i))) μ) : RC K rMAX [.dat (.int i), .dat (.int j)] δ μ Q := fun Lc I H σ F s vs a QQ p => by
  obtain ⟨v, w, rfl, ov, ow⟩ := vals2 a
  cases ov
  cases ow
  exact ⟨i, j, rfl, p.now (v := .int _) (r := .dat (.int _)) s (Rep.int _) q⟩
theorem min_i {i j : Int} (q : Q (.dat (.int (if j < i then j else i))) μ) : RC K rMIN [.dat (.int i), .dat (.int j)] δ μ Q := fun Lc I H σ F s vs a QQ p => by
  obtain ⟨v, w, rfl, ov, ow⟩ := vals2 a
  cases ov
  cases ow
  exact ⟨i, j, rfl, p.now (v := .int _) (r := .dat (.int _)) s (Rep.int _) q⟩
-- all, any of truths
def bls (l : List Bool) : List Da := l.map .bl
theorem repl_bls {I : Hp} : ∀ {l : List Bool} {vs : List V}, RepL K I vs (bls l) → vs = l.map V.bl
  | [], vs, h => by cases h; rfl
  | z :: l, vs, h => by
    cases h with
    | cons a b => cases a; rw [repl_bls b]; rfl
theorem cALL {X : Cx} (hc : X.calm = true) : CallR X (.builtin "all") (rAll X.K) := cr_all hc
theorem cANY {X : Cx} (hc : X.calm = true) : CallR X (.builtin "any") (rAny X.K) := cr_any hc
theorem all_b {l : List Bool} {ds : List Da} (hd : ds = bls l) (q : Q (.dat (.bl (l.all id))) μ) : RC K (rAll K) [.dat (.lst ds)] δ μ Q := fun Lc I H σ F s vs a QQ p => by
  obtain ⟨v, rfl, ov⟩ := vals1 a
  cases ov with
  | lst hs rr =>
    rw [hd] at rr
    cases repl_bls rr
    exact ⟨_, l, rfl, SqL.of (s.ih _ _ hs), p.now (v := .bl _) (r := .dat (.bl _)) s (Rep.bl _) q⟩
theorem any_b {l : List Bool} {ds : List Da} (hd : ds = bls l) (q : Q (.dat (.bl (l.any id))) μ) : RC K (rAny K) [.dat (.lst ds)] δ μ Q := fun Lc I H σ F s vs a QQ p => by
  obtain ⟨v, rfl, ov⟩ := vals1 a
  cases ov with
  | lst hs rr =>
    rw [hd] at rr
    cases repl_bls rr
    exact ⟨_, l, rfl, SqL.of (s.ih _ _ hs), p.now (v := .bl _) (r := .dat (.bl _)) s (Rep.bl _) q⟩
-- tuple(xs), list(xs)
def rTUP (K : PySem.W.Frag) : List V → Hp → VK → Prop := fun xs H Q => ∃ p ys, xs = [.ref p] ∧ ((SqL K H p ys ∧ ∀ l, H l = none → Q (.ref l) (upd H l (.tup ys))) ∨ (SqT K H p ys ∧ Q (.ref p) H))
theorem cTUP {X : Cx} : CallR X (.type "tuple") (rTUP X.K) := call_tuple_of
theorem tup_l {ds : List Da} (hx : IsL μ x ds) (hn : ∀ l, x ≠ .own l) (q : Q (.dat (.tup ds)) μ) : RC K (rTUP K) [x] δ μ Q := fun Lc I H σ F s vs a QQ p => by
  obtain ⟨v, rfl, ov⟩ := vals1 a
  obtain ⟨ad, ys, rfl, hs, rr⟩ := hx.sq s ov
  refine ⟨ad, ys, rfl, .inl ⟨hs, fun c hc => ?_⟩⟩
  exact p (.ref c) (upd I c (.tup ys)) (upd H c (.tup ys)) (.dat (.tup ds)) μ F (Step.new hc s.ih) (fun x hx => .inl hx) (s.newD hc) (Rep.tup (SqT.of upd_same) (rr.mono (Ex.new (s.ih.gone hc)))) q
def rLST (K : PySem.W.Frag) : List V → Hp → VK → Prop := fun xs H Q => ∃ p ys, xs = [.ref p] ∧ (SqL K H p ys ∨ SqT K H p ys) ∧ ∀ l, H l = none → Q (.ref l) (upd H l (.lst ys))
theorem cLST {X : Cx} : CallR X (.type "list") (rLST X.K) := call_list_of
theorem lst_l {ds : List Da} (hx : IsL μ x ds) (q : Q (.dat (.lst ds)) μ) : RC K (rLST K) [x] δ μ Q := fun Lc I H σ F s vs a QQ p => by
  obtain ⟨v, rfl, ov⟩ := vals1 a
  obtain ⟨ad, ys, rfl, hs, rr⟩ := hx.sq s ov
  refine ⟨ad, ys, rfl, .inl hs, fun c hc => ?_⟩
  exact p (.ref c) (upd I c (.lst ys)) (upd H c (.lst ys)) (.dat (.lst ds)) μ F (Step.new hc s.ih) (fun x hx => .inl hx) (s.newD hc) (Rep.lst upd_same (rr.mono (Ex.new (s.ih.gone hc)))) q
theorem lst_t {ds : List Da} (q : Q (.dat (.lst ds)) μ) : RC K (rLST K) [.dat (.tup ds)] δ μ Q := fun Lc I H σ F s vs a QQ p => by
  obtain ⟨v, rfl, ov⟩ := vals1 a
  cases ov with
  | tup hs rr =>
    refine ⟨_, _, rfl, .inr (s.ih.t hs), fun c hc => ?_⟩
    exact p (.ref c) (upd I c (.lst _)) (upd H c (.lst _)) (.dat (.lst ds)) μ F (Step.new hc s.ih) (fun x hx => .inl hx) (s.newD hc) (Rep.lst upd_same (rr.mono (Ex.new (s.ih.gone hc)))) q
-- isinstance
def tyN : Da → Option String
  | .non => some "NoneType" | .bl _ => some "bool" | .int _ => some "int" | .str _ => some "str" | .tup _ => some "tuple" | .lst _ => some "list" | .dct _ => some "dict" | .dk _ => some "dict" | .dt _ => some "dict" | _ => none
theorem rep_ty {I H : Hp} {v : V} {d : Da} {n : String} (h : Rep K I v d) (e : Ex I H) (hn : tyN d = some n) : TyX K H v (.type n) := by
  cases h with
  | non => cases hn; exact .base .non
  | bl b => cases hn; exact .base (.bl _)
  | int i => cases hn; exact .base (.int _)
  | str x => cases hn; exact .base (.str _)
  | ty _ => cases hn
  | cls _ => cases hn
  | tup h _ =>
    cases hn
    rcases h with (h | ⟨o, h⟩) | ⟨o, its, k, h, hc, _⟩
    · exact .base (.tup (e _ _ h))
    · exact .fTuple (e _ _ h)
    · exact .kTuple h hc
  | lst h _ => cases hn; exact .base (.lst (e _ _ h))
  | scr _ => cases hn
  | dct h _ => cases hn; exact .base (.dK (e _ _ h))
  | dk h _ => cases hn; exact .base (.dK (e _ _ h))
  | dt h _ => cases hn; exact .base (.dT (e _ _ h))
  | exc _ _ _ => cases hn
  | exc0 _ => cases hn
  | obj _ _ => cases hn
theorem cISI {X : Cx} : CallR X (.builtin "isinstance") (rIsi X.K) := call_isi
theorem isi_ty {d : Da} {n T : String} {b : Bool} (hn : tyN d = some n) (hb : kitB n T = some b) (q : Q (.dat (.bl b)) μ) : RC K (rIsi K) [.dat d, .dat (.ty T)] δ μ Q := fun Lc I H σ F s vs a QQ p => by
  obtain ⟨v, w, rfl, ov, ow⟩ := vals2 a
  cases ow
  exact ⟨v, .ty T, .type n, .type T, b, rfl, .ty T, rep_ty ov s.ih hn, kit_ty hb, p.now (v := .bl _) (r := .dat (.bl _)) s (Rep.bl _) q⟩
-- str(x) of a text
def rSTR : List V → Hp → VK → Prop := fun xs H Q => ∃ a, xs = [.str a] ∧ Q (.str a) H
theorem cSTR {X : Cx} : CallR X (.type "str") rSTR := SkE.call_str_str
theorem str_s {z : Str} (q : Q (.dat (.str z)) μ) : RC K rSTR [.dat (.str z)] δ μ Q := fun Lc I H σ F s vs a QQ p => by
  obtain ⟨v, rfl, ov⟩ := vals1 a
  cases ov
  exact ⟨z, rfl, p.now (v := .str _) (r := .dat (.str _)) s (Rep.str _) q⟩
-- minus
theorem rd_neg (h : RD K te δ μ fun x μ1 => ∃ i : Int, x = .dat (.int i) ∧ Q (.dat (.int (-i))) μ1) : RD K (tUn (rU fun i => .int (-i)) te) δ μ Q := fun Lc I H σ F s QQ p =>
  h Lc I H σ F s _ fun v I1 H1 r μ1 F1 st f s1 ok ⟨i, e, q⟩ => by
    subst e
    cases ok
    exact ⟨i, rfl, p (.int (-i)) I1 H1 (.dat (.int (-i))) μ1 F1 st f s1 (Rep.int _) q⟩
-- two comparisons in a row
theorem rd_chain {r r' : R2} (h : RD K ta δ μ fun x μ1 => RD K tb δ μ1 fun y μ2 => RR K r x y δ μ2 fun z μ3 => ∃ b, z = .dat (.bl b) ∧ (b = true → RD K tc δ μ3 fun w μ4 => RR K r' y w δ μ4 Q) ∧ (b = false → Q (.dat (.bl false)) μ3)) : RD K (tChain r r' ta tb tc) δ μ Q := fun Lc I H σ F s QQ p =>
  h Lc I H σ F s _ fun v I1 H1 x μ1 F1 st1 f1 s1 ok1 q1 => q1 Lc I1 H1 σ F1 s1 _ fun w I2 H2 y μ2 F2 st2 f2 s2 ok2 q2 =>
    q2 Lc I2 H2 σ F2 s2 v w (ok1.mono st2.ii) ok2 _ fun z I3 H3 kz μ3 F3 st3 f3 s3 ok3 ⟨b, ez, q3, q4⟩ => by
      subst ez
      cases ok3
      have stA := st1.trans st2 f1
      have fA := sub_trans st1 f1 f2
      have stB := stA.trans st3 fA
      have fB := sub_trans stA fA f3
      refine ⟨b, rfl, ?_⟩
      cases b with
      | false => exact p (.bl false) I3 H3 (.dat (.bl false)) μ3 F3 stB fB s3 (Rep.bl _) (q4 rfl)
      | true =>
        refine q3 rfl Lc I3 H3 σ F3 s3 _ fun u I4 H4 kw μ4 F4 st4 f4 s4 ok4 q5 => ?_
        exact q5 Lc I4 H4 σ F4 s4 w u (ok2.mono (st3.ii.trans st4.ii)) ok4 QQ (p.on (stB.trans st4 fB) (sub_trans stB fB f4))
-- slices
def RO (K : PySem.W.Frag) (to : TO) (δ : List SK) (μ : Mu) (Q : Option Int → Mu → Prop) : Prop :=
  ∀ Lc I H σ F, Sta K Lc I H σ δ μ F → ∀ QQ : Option Int → Hp → Prop, (∀ o I' H' μ' F', Step F I H I' H' → (∀ x ∈ F', x ∈ F ∨ H x = none) → Sta K Lc I' H' σ δ μ' F' → Q o μ' → QQ o H') → to σ H QQ
theorem ro_no {QO : Option Int → Mu → Prop} (q : QO none μ) : RO K tNoPart δ μ QO := fun Lc I H σ F s QQ p => p none I H μ F (Step.refl F I H) (fun x hx => .inl hx) s q
theorem ro_at {QO : Option Int → Mu → Prop} (h : RD K te δ μ fun x μ1 => ∃ i : Int, x = .dat (.int i) ∧ QO (some i) μ1) : RO K (tPart te) δ μ QO := fun Lc I H σ F s QQ p =>
  h Lc I H σ F s _ fun v I1 H1 r μ1 F1 st f s1 ok ⟨i, e, q⟩ => by
    subst e
    cases ok
    exact ⟨i, rfl, p (some i) I1 H1 μ1 F1 st f s1 q⟩
def rSL (K : PySem.W.Frag) : V → Option Int → Option Int → Hp → VK → Prop := fun x lo hi H Q => rSlL K x lo hi H Q ∨ rSlS x lo hi H Q
theorem slANY {X : Cx} : SlR X (rSL X.K) := SlR.or sl_list sl_str
def cutD (ds : List Da) (lo hi : Option Int) : List Da := (ds.drop (HT.sIx ds.length 0 lo)).take (HT.sIx ds.length ds.length hi - HT.sIx ds.length 0 lo)
theorem repl_drop {I : Hp} : ∀ {vs : List V} {ds : List Da} (n : Nat), RepL K I vs ds → RepL K I (vs.drop n) (ds.drop n)
  | _, _, 0, h => h
  | _, _, _ + 1, .nil => .nil
  | _, _, n + 1, .cons _ t => repl_drop n t
theorem repl_take {I : Hp} : ∀ {vs : List V} {ds : List Da} (n : Nat), RepL K I vs ds → RepL K I (vs.take n) (ds.take n)
  | _, _, 0, _ => .nil
  | _, _, _ + 1, .nil => .nil
  | _, _, n + 1, .cons a t => .cons a (repl_take n t)
theorem rd_slL {tl th : TO} {ds : List Da} (h : RD K te δ μ fun x μ1 => ∃ ds, IsL μ1 x ds ∧ (∀ l, x ≠ .own l) ∧ RO K tl δ μ1 fun lo μ2 => RO K th δ μ2 fun hi μ3 => Q (.dat (.lst (cutD ds lo hi))) μ3) : RD K (tSl (rSL K) te tl th) δ μ Q := fun Lc I H σ F s QQ p =>
  h Lc I H σ F s _ fun v I1 H1 x μ1 F1 st1 f1 s1 ok1 ⟨ds, hx, hn, q1⟩ => by
    cases hx with
    | own _ => exact absurd rfl (hn _)
    | dat =>
      cases ok1 with
      | lst hs rr =>
        rename_i ad xs
        refine q1 Lc I1 H1 σ F1 s1 _ fun lo I2 H2 μ2 F2 st2 f2 s2 q2 => q2 Lc I2 H2 σ F2 s2 _ fun hi I3 H3 μ3 F3 st3 f3 s3 q3 => .inl ⟨ad, xs, rfl, SqL.of (s3.ih _ _ (st3.ii _ _ (st2.ii _ _ hs))), fun c hc => ?_⟩
        have stA := st1.trans st2 f1
        have fA := sub_trans st1 f1 f2
        have stB := stA.trans st3 fA
        have fB := sub_trans stA fA f3
        have rc : RepL K I3 (cutV xs lo hi) (cutD ds lo hi) := by
          unfold cutV cutD
          rw [repl_len rr]
          exact repl_take _ (repl_drop _ (rr.mono (st2.ii.trans st3.ii)))
        exact p (.ref c) (upd I3 c (.lst _)) (upd H3 c (.lst _)) (.dat (.lst (cutD ds lo hi))) μ3 F3 (stB.trans (Step.new hc s3.ih) fB) fB (s3.newD hc) (Rep.lst upd_same (rc.mono (Ex.new (s3.ih.gone hc)))) q3
theorem rd_slS {tl th : TO} (h : RD K te δ μ fun x μ1 => ∃ z : Str, x = .dat (.str z) ∧ z.length ≤ 1000000 ∧ RO K tl δ μ1 fun lo μ2 => RO K th δ μ2 fun hi μ3 => Q (.dat (.str (cutS z lo hi))) μ3) : RD K (tSl (rSL K) te tl th) δ μ Q := fun Lc I H σ F s QQ p =>
  h Lc I H σ F s _ fun v I1 H1 x μ1 F1 st1 f1 s1 ok1 ⟨z, e, hl, q1⟩ => by
    subst e
    cases ok1
    refine q1 Lc I1 H1 σ F1 s1 _ fun lo I2 H2 μ2 F2 st2 f2 s2 q2 => q2 Lc I2 H2 σ F2 s2 _ fun hi I3 H3 μ3 F3 st3 f3 s3 q3 => .inr ⟨z, rfl, Nat.le_trans hl (by decide), ?_⟩
    have stA := st1.trans st2 f1
    have fA := sub_trans st1 f1 f2
    exact p (.str _) I3 H3 (.dat (.str _)) μ3 F3 (stA.trans st3 fA) (sub_trans stA fA f3) s3 (Rep.str _) q3
-- sep.join(xs), text.split(sep)
theorem rd_join {to ta : TE} (h : RD K to δ μ fun x μ1 => ∃ a : Str, x = .dat (.str a) ∧ RD K ta δ μ1 fun y μ2 => ∃ (l : List Str) (ds : List Da), ds = txts l ∧ IsL μ2 y ds ∧ (l.map (·.length)).sum + l.length * a.length ≤ 1000000 ∧ Q (.dat (.str (Txt.join a l))) μ2) :
    RD K (tM1 (fun x xs H Q => ∃ a p, ∃ ys : List Str, x = .str a ∧ xs = [.ref p] ∧ (SqL K H p (ys.map V.str) ∨ SqT K H p (ys.map V.str)) ∧ (ys.map (·.length)).sum + ys.length * a.length ≤ 16777216 ∧ Q (.str (Txt.join a ys)) H) to ta) δ μ Q := fun Lc I H σ F s QQ p =>
  h Lc I H σ F s _ fun v I1 H1 x μ1 F1 st1 f1 s1 ok1 ⟨a, e, q1⟩ => by
    subst e
    cases ok1
    refine ⟨⟨a, rfl⟩, q1 Lc I1 H1 σ F1 s1 _ fun w I2 H2 y μ2 F2 st2 f2 s2 ok2 ⟨l, ds, hd, hy, hl, q2⟩ => ?_⟩
    obtain ⟨ad, ys, rfl, hs, rr⟩ := hy.sq s2 ok2
    rw [hd] at rr
    cases repl_strs rr
    exact ⟨a, ad, l, rfl, rfl, .inl hs, by omega, p (.str _) I2 H2 (.dat (.str _)) μ2 F2 (st1.trans st2 f1) (sub_trans st1 f1 f2) s2 (Rep.str _) q2⟩
theorem repl_of_txts {I : Hp} : ∀ l : List Str, RepL K I (l.map V.str) (txts l)
  | [] => .nil
  | z :: l => .cons (.str z) (repl_of_txts l)
theorem rd_split {to ta : TE} (h : RD K to δ μ fun x μ1 => ∃ a : Str, x = .dat (.str a) ∧ RD K ta δ μ1 fun y μ2 => ∃ b : Str, y = .dat (.str b) ∧ (b.length == 0) = false ∧ a.length ≤ 1000000 ∧ Q (.dat (.lst (txts (Txt.split a b)))) μ2) :
    RD K (tM1 (fun x xs H Q => ∃ a b, x = .str a ∧ xs = [.str b] ∧ (b.length == 0) = false ∧ a.length + 2 ≤ sizeLine ∧ rNewStrs (Txt.split a b) H Q) to ta) δ μ Q := fun Lc I H σ F s QQ p =>
  h Lc I H σ F s _ fun v I1 H1 x μ1 F1 st1 f1 s1 ok1 ⟨a, e, q1⟩ => by
    subst e
    cases ok1
    refine ⟨⟨a, rfl⟩, q1 Lc I1 H1 σ F1 s1 _ fun w I2 H2 y μ2 F2 st2 f2 s2 ok2 ⟨b, ey, hb, hl, q2⟩ => ?_⟩
    subst ey
    cases ok2
    refine ⟨a, b, rfl, rfl, hb, Nat.le_trans (by omega : a.length + 2 ≤ 1000002) (by decide), fun c hc => ?_⟩
    exact p (.ref c) (upd I2 c (.lst _)) (upd H2 c (.lst _)) (.dat (.lst (txts _))) μ2 F2 ((st1.trans st2 f1).trans (Step.new hc s2.ih) (sub_trans st1 f1 f2)) (sub_trans st1 f1 f2) (s2.newD hc) (Rep.lst upd_same (repl_of_txts _)) q2
end

/-! ### a, b = x, y -/
section
variable {K : PySem.W.Frag} {δ : List SK} {μ : Mu} {E : DE} {ta : TA}
theorem rs_par {i j : Nat} (h : RA K ta δ μ fun rs μ1 => ∃ x y, rs = [x, y] ∧ E.nx ((δ.set i x).set j y) μ1) : RS K (tPar i j ta) δ μ E := fun I0 H0 F0 Ib I H σ F a D e =>
  h _ I H σ F a.s _ fun vs I1 H1 rs μ1 F1 st f s1 ok ⟨x, y, er, q⟩ => by
    subst er
    obtain ⟨v, w, rfl, ov, ow⟩ := vals2 ok
    exact ⟨v, w, rfl, e.nx I1 H1 _ _ μ1 F1 ⟨a.st.trans st a.sub, sub_trans a.st a.sub f, (s1.set ov i).set ow j, a.ib.trans st.ii⟩ q⟩
theorem rs_par3 {i j l : Nat} (h : RA K ta δ μ fun rs μ1 => ∃ x y z, rs = [x, y, z] ∧ E.nx (((δ.set i x).set j y).set l z) μ1) : RS K (tPar3 i j l ta) δ μ E := fun I0 H0 F0 Ib I H σ F a D e =>
  h _ I H σ F a.s _ fun vs I1 H1 rs μ1 F1 st f s1 ok ⟨x, y, z, er, q⟩ => by
    subst er
    obtain ⟨u, v, w, rfl, ou, ov, ow⟩ : ∃ u v w, vs = [u, v, w] ∧ SOk K I1 (some u) x ∧ SOk K I1 (some v) y ∧ SOk K I1 (some w) z := by
      cases vs with
      | nil => cases ok
      | cons u r =>
        cases ok with
        | cons a b =>
          obtain ⟨v, w, e, o1, o2⟩ := vals2 b
          exact ⟨u, v, w, by rw [e], a, o1, o2⟩
    exact ⟨u, v, w, rfl, e.nx I1 H1 _ _ μ1 F1 ⟨a.st.trans st a.sub, sub_trans a.st a.sub f, ((s1.set ou i).set ov j).set ow l, a.ib.trans st.ii⟩ q⟩
end
end DL
namespace DL
open PySem L2
open PyProof.Rows (envOfC)
/-- all of them data -/
def unD : List SK → Option (List Da)
  | [] => some []
  | .dat d :: r => (unD r).map (d :: ·)
  | _ :: _ => none
theorem unD_dats : ∀ {ks : List SK} {ds : List Da}, unD ks = some ds → ks = dats ds
  | [], ds, h => by cases h; rfl
  | .dat d :: r, ds, h => by
    cases e : unD r with
    | none => simp [unD, e] at h
    | some es =>
      simp only [unD, e, Option.map_some, Option.some.injEq] at h
      subst h
      rw [unD_dats e]; rfl
  | .any :: _, _, h => nomatch h
  | .own _ :: _, _, h => nomatch h
section
variable {K : PySem.W.Frag} {δ : List SK} {μ : Mu} {Q : SK → Mu → Prop} {te ta tl : TE} {tr : TA} {E : XK} {n : Nat} {g : TG} {tt : TT} {vs : List Nat} {x : SK}
theorem call_a {C : CA} (h : RA K tr δ μ fun rs μ1 => ∃ ds, unD rs = some ds ∧ ds.length = n ∧ C ds fun d => Q (.dat d) μ1) : RD K (tCall (spA K n C) [] E tr) δ μ Q := rd_callA fun Lc I H σ F s QQ p => h Lc I H σ F s QQ fun vs I' H' rs μ' F' a b c d ⟨ds, e, l, q⟩ => p vs I' H' rs μ' F' a b c d ⟨ds, unD_dats e, l, q⟩
theorem call_p {C : CP} (h : RA K tr δ μ fun rs μ1 => ∃ (a : Addr) (ks : List SK) (ds : List Da) (i c : Nat) (fl : Bool), rs = .own a :: ks ∧ unD ks = some ds ∧ μ1[i]? = some (a, MK.pool c, fl) ∧ ds.length = n ∧ C ds c fun d c' => Q (.dat d) (μ1.set i (a, MK.pool c', fl))) : RD K (tCall (spP K n C) [] E tr) δ μ Q :=
  rd_callP fun Lc I H σ F s QQ p => h Lc I H σ F s QQ fun vs I' H' rs μ' F' a b c d ⟨ad, ks, ds, i, cc, fl, e, u, hi, l, q⟩ => p vs I' H' rs μ' F' a b c d ⟨ad, ds, i, cc, fl, by rw [e, unD_dats u], hi, l, q⟩
theorem call_n {C : List Da → Prop} (h : RA K tr δ μ fun rs μ1 => ∃ ds, unD rs = some ds ∧ ds.length = n ∧ C ds ∧ ∀ a, Q (.own a) ((a, MK.pool 0, true) :: μ1)) : RD K (tCall (spN K n C) [] E tr) δ μ Q := rd_callN fun Lc I H σ F s QQ p => h Lc I H σ F s QQ fun vs I' H' rs μ' F' a b c d ⟨ds, e, l, q⟩ => p vs I' H' rs μ' F' a b c d ⟨ds, unD_dats e, l, q⟩
theorem meth_a {Cl : Addr} {m : Str} {C : CA} (h : RD K ta δ μ fun r μ1 => ∃ fs, r = .dat (.obj Cl fs) ∧ fs.lookup m = none ∧ RA K tr δ μ1 fun rs μ2 => ∃ ds, unD rs = some ds ∧ ds.length = n ∧ C (.obj Cl fs :: ds) fun d => Q (.dat d) μ2) : RD K (tMeth Cl m (spA K (n + 1) C) [] E ta tr) δ μ Q :=
  rd_methA fun Lc I H σ F s QQ p => h Lc I H σ F s QQ fun v I' H' r μ' F' a b c d ⟨fs, e, l, q⟩ => p v I' H' r μ' F' a b c d ⟨fs, e, l, fun Lc I H σ F s QQ p => q Lc I H σ F s QQ fun vs I' H' rs μ' F' a b c d ⟨ds, e, l, q⟩ => p vs I' H' rs μ' F' a b c d ⟨ds, unD_dats e, l, q⟩⟩
theorem make_a {Cl : Addr} {C : List Da → (List (Str × Da) → Prop) → Prop} (h : RA K tr δ μ fun rs μ1 => ∃ ds, unD rs = some ds ∧ ds.length = n ∧ C ds fun fs => Q (.dat (.obj Cl fs)) μ1) : RD K (tMake Cl (spI K n Cl C) [] E tr) δ μ Q := rd_make fun Lc I H σ F s QQ p => h Lc I H σ F s QQ fun vs I' H' rs μ' F' a b c d ⟨ds, e, l, q⟩ => p vs I' H' rs μ' F' a b c d ⟨ds, unD_dats e, l, q⟩
theorem tup_d (h : RA K tr δ μ fun xs μ1 => ∃ ds, unD xs = some ds ∧ ds.length ≤ 100000 ∧ Q (.dat (.tup ds)) μ1) : RD K (tTup tr) δ μ Q := rd_tup fun Lc I H σ F s QQ p => h Lc I H σ F s QQ fun vs I' H' rs μ' F' a b c d ⟨ds, e, l, q⟩ => p vs I' H' rs μ' F' a b c d ⟨ds, unD_dats e, l, q⟩
theorem lst_d (h : RA K tr δ μ fun xs μ1 => ∃ ds, unD xs = some ds ∧ ds.length ≤ 100000 ∧ Q (.dat (.lst ds)) μ1) : RD K (tLst tr) δ μ Q := rd_lst fun Lc I H σ F s QQ p => h Lc I H σ F s QQ fun vs I' H' rs μ' F' a b c d ⟨ds, e, l, q⟩ => p vs I' H' rs μ' F' a b c d ⟨ds, unD_dats e, l, q⟩
theorem lst_o (q : ∀ a, Q (.own a) ((a, MK.ml [], true) :: μ)) : RD K (tLst tNil) δ μ Q := rd_lstO (ra_nil ⟨[], rfl, by decide, q⟩)

/-! ### the pool, seen within -/
theorem ix_p0 {a : Addr} {i c : Nat} {fl : Bool} (hi : μ[i]? = some (a, MK.pool c, fl)) (q : ∀ d : Int, 0 ≤ d → Q (.dat (.int d)) μ) : RR K (rIX K) (.own a) (.dat (.int 0)) δ μ Q := rr_or1 (rr_or1 fun Lc I H σ F s v w ox oy QQ p => by
  have ex : v = .ref a := ox
  subst ex
  cases oy
  obtain ⟨Fi, m, _⟩ := s.mu.at hi
  obtain ⟨_, d, m, k, h, h1, h2, h3, h4, h5⟩ := m
  exact ⟨a, _, 0, .int d, rfl, rfl, SqL.of h, rfl, p.now (v := .int d) (r := .dat (.int d)) s (Rep.int _) (q d h1)⟩)
theorem ix_p1 {a : Addr} {i c : Nat} {fl : Bool} (hi : μ[i]? = some (a, MK.pool c, fl)) (q : ∀ d : Int, 0 ≤ d → d < 2 ^ 95 → Q (.dat (.int d)) μ) : RR K (rIX K) (.own a) (.dat (.int 1)) δ μ Q := rr_or1 (rr_or1 fun Lc I H σ F s v w ox oy QQ p => by
  have ex : v = .ref a := ox
  subst ex
  cases oy
  obtain ⟨Fi, m, _⟩ := s.mu.at hi
  obtain ⟨_, d, m, k, h, h1, h2, h3, h4, h5⟩ := m
  exact ⟨a, _, 1, .int m, rfl, rfl, SqL.of h, rfl, p.now (v := .int m) (r := .dat (.int m)) s (Rep.int _) (q m h2 h3)⟩)
theorem ix_p2 {a : Addr} {i c : Nat} {fl : Bool} (hi : μ[i]? = some (a, MK.pool c, fl)) (q : ∀ d : Int, 0 ≤ d → d ≤ c → Q (.dat (.int d)) μ) : RR K (rIX K) (.own a) (.dat (.int 2)) δ μ Q := rr_or1 (rr_or1 fun Lc I H σ F s v w ox oy QQ p => by
  have ex : v = .ref a := ox
  subst ex
  cases oy
  obtain ⟨Fi, m, _⟩ := s.mu.at hi
  obtain ⟨_, d, m, k, h, h1, h2, h3, h4, h5⟩ := m
  exact ⟨a, _, 2, .int k, rfl, rfl, SqL.of h, rfl, p.now (v := .int k) (r := .dat (.int k)) s (Rep.int _) (q k h4 h5)⟩)
theorem ix_scr {ns : List Int} {i n : Int} (h : atI ns i = some n) (q : Q (.dat (.int n)) μ) : RR K (rIX K) (.dat (.scr ns)) (.dat (.int i)) δ μ Q := rr_or1 (rr_or1 fun Lc I H σ F s v w ox oy QQ p => by
  cases oy
  cases ox with
  | scr hs =>
    refine ⟨_, _, i, .int n, rfl, rfl, s.ih.l hs, ?_, p.now (v := .int n) (r := .dat (.int n)) s (Rep.int _) q⟩
    unfold atI at h ⊢
    rw [List.length_map]
    cases e : ixN ns.length i with
    | none => rw [e] at h; cases h
    | some j =>
      rw [e] at h
      have h' : ns[j]? = some n := h
      show (ns.map V.int)[j]? = some (V.int n)
      rw [List.getElem?_map, h']; rfl)
theorem put_after {Lc : Addr → Prop} {I H : Hp} {σ : St} {F : List Addr} {i : Nat} {a : Addr} {k k' : MK} {fl : Bool} {o : HO} (s : Sta K Lc I H σ δ μ F) (hi : μ[i]? = some (a, k, fl)) (h1 : ∀ {Fi : List Addr}, MOk K I H Fi a k → MOk K I (upd H a o) Fi a k') :
    Sta K Lc I (upd H a o) σ δ (μ.set i (a, k', fl)) F ∧ Step F I H I (upd H a o) := by
  obtain ⟨Fi, m, sF, lF, mk⟩ := s.mu.at hi
  have ha : a ∈ F := sF a m.mem
  have hl := s.mu.live a ha
  refine ⟨⟨fun b u hb => ?_, fun b hb => s.lc b ?_, s.sl, mk _ I _ (Ex.refl I) (fun x hx hn => upd_ne fun z => hn (by rw [z]; exact m.mem)) (fun x hx => (s.mu.live x hx).1) (h1 m)⟩, Step.put ha hl.2⟩
  · have : b ≠ a := fun z => by rw [z, hl.1] at hb; cases hb
    rw [upd_ne this]; exact s.ih b u hb
  · by_cases z : b = a
    · rw [z, upd_same] at hb; cases hb
    · rw [upd_ne z] at hb; exact hb
/-- pool[0] = e -/
theorem rs_p0 {E : DE} {i j c : Nat} (c' : Nat) {a : Addr} {fl : Bool} (h : RD K te δ μ fun r μ1 => ∃ v : Int, r = .dat (.int v) ∧ 0 ≤ v ∧ c ≤ c' ∧ δ[i]? = some (.own a) ∧ μ1[j]? = some (a, MK.pool c, fl) ∧ E.nx δ (μ1.set j (a, MK.pool c', fl))) : RS K (tAsg te (gSub (tVar i) (tC (.int 0)) rSetL)) δ μ E := fun I0 H0 F0 Ib I H σ F at_ D e =>
  h _ I H σ F at_.s _ fun w I1 H1 r μ1 F1 st f s1 ok ⟨v, er, hv, hc, hd, hj, q⟩ => by
    subst er
    cases ok
    obtain ⟨o, ho, oo⟩ := s1.sl.get hd
    cases o with
    | none => exact oo.elim
    | some u =>
      have eu : u = .ref a := oo
      subst eu
      obtain ⟨Fi, m, _⟩ := s1.mu.at hj
      obtain ⟨_, d, m, k, hH, h1, h2, h3, h4, h5⟩ := id m
      refine ⟨.ref a, ho, a, _, 0, 0, rfl, rfl, hH, rfl, ?_⟩
      obtain ⟨s2, st2⟩ := put_after (o := .lst [.int v, .int m, .int k]) (k' := MK.pool c') s1 hj fun {Fi} m' => ⟨m'.1, v, m, k, upd_same, hv, h2, h3, h4, by omega⟩
      exact e.nx I1 _ σ δ _ F1 ((at_.on st f s1).on st2 (fun x hx => .inl hx) s2) q
/-- pool[2] = e -/
theorem rs_p2 {E : DE} {i j c : Nat} (c' : Nat) {a : Addr} {fl : Bool} (h : RD K te δ μ fun r μ1 => ∃ v : Int, r = .dat (.int v) ∧ 0 ≤ v ∧ v ≤ c' ∧ δ[i]? = some (.own a) ∧ μ1[j]? = some (a, MK.pool c, fl) ∧ E.nx δ (μ1.set j (a, MK.pool c', fl))) : RS K (tAsg te (gSub (tVar i) (tC (.int 2)) rSetL)) δ μ E := fun I0 H0 F0 Ib I H σ F at_ D e =>
  h _ I H σ F at_.s _ fun w I1 H1 r μ1 F1 st f s1 ok ⟨v, er, hv, hc, hd, hj, q⟩ => by
    subst er
    cases ok
    obtain ⟨o, ho, oo⟩ := s1.sl.get hd
    cases o with
    | none => exact oo.elim
    | some u =>
      have eu : u = .ref a := oo
      subst eu
      obtain ⟨Fi, m, _⟩ := s1.mu.at hj
      obtain ⟨_, d, m, k, hH, h1, h2, h3, h4, h5⟩ := id m
      refine ⟨.ref a, ho, a, _, 2, 2, rfl, rfl, hH, rfl, ?_⟩
      obtain ⟨s2, st2⟩ := put_after (o := .lst [.int d, .int m, .int v]) (k' := MK.pool c') s1 hj fun {Fi} m' => ⟨m'.1, d, m, v, upd_same, h1, h2, h3, hv, hc⟩
      exact e.nx I1 _ σ δ _ F1 ((at_.on st f s1).on st2 (fun x hx => .inl hx) s2) q
/-- a new list of three numbers that is a pool -/
theorem lst_p (h : RA K tr δ μ fun xs μ1 => ∃ d m : Int, unD xs = some [.int d, .int m, .int 0] ∧ 0 ≤ d ∧ 0 ≤ m ∧ m < 2 ^ 95 ∧ ∀ a, Q (.own a) ((a, MK.pool 0, true) :: μ1)) : RD K (tLst tr) δ μ Q := fun Lc I H σ F s QQ p =>
  h Lc I H σ F s _ fun vs I1 H1 xs μ1 F1 st f s1 ok ⟨d, m, hu, h1, h2, h3, q⟩ => by
    have e := unD_dats hu
    subst e
    have r := repl_of ok
    have ev : vs = [.int d, .int m, .int 0] := by
      cases r with
      | cons a b =>
        cases a
        cases b with
        | cons a b =>
          cases a
          cases b with
          | cons a b => cases a; cases b; rfl
    subst ev
    refine ⟨by show 3 ≤ sizeLine; decide, fun a ha => ?_⟩
    refine p (.ref a) I1 (upd H1 a (.lst _)) (.own a) ((a, MK.pool 0, true) :: μ1) (a :: F1) (st.trans (Step.fresh ha) f) (fun x hx => ?_) (s1.newO ha ⟨rfl, d, m, 0, upd_same, h1, h2, h3, Int.le_refl 0, Int.le_refl 0⟩) rfl (q a)
    rcases List.mem_cons.mp hx with z | z
    · rw [z]; exact .inr (st.gone ha)
    · exact f x z

/-! ### a comprehension whose turns change nothing -/
theorem lc_o (tg : TgIn g vs) (h : RD K tl δ μ fun r μ1 => ∃ ds, IsL μ1 r ds ∧ ∃ Pv : Nat → List Da → Prop, Pv 0 [] ∧
      (∀ i d acc, ds[i]? = some d → Pv i acc → LcTurn K g tt te vs δ d acc [] fun acc' μ' => μ' = [] ∧ Pv (i + 1) acc') ∧ (∀ acc, Pv ds.length acc → Q (.dat (.lst acc)) μ1)) :
    RD K (tLc (iList K tl) g tt te vs) δ μ Q := fun Lc I H σ F s QQ p =>
  h Lc I H σ F s _ fun v I1 H1 r μ1 F1 st f s1 ok ⟨ds, hx, Pv, p0, ps, pd⟩ => by
    obtain ⟨ad, xs, rfl, hH, hr⟩ := hx.at_ s1 ok
    have s0 : Sta K Lc I1 H1 σ δ [] [] := ⟨s1.ih, s1.lc, s1.sl, .nil⟩
    refine ⟨ad, rfl, ⟨xs, SqL.of hH⟩, fun L hL => lc_list (K := K) (a := ad) (xs := xs) (fun i H2 => LcAt K Lc I1 H1 σ δ [] L (fun acc μ' => μ' = [] ∧ Pv i acc) H2) (lc_start s0 hL ⟨rfl, p0⟩) ?_ ?_ ?_⟩
    · rintro i H2 _ ⟨I2, μ2, F2, acc, accV, st2, _⟩
      exact SqL.of (st2.keep _ _ hH (by simp))
    · intro i y H2 hy a2
      obtain ⟨d, hd, rd⟩ := repl_get hr hy
      refine lc_turn tg hL a2 rd fun acc μ' pv => ?_
      obtain ⟨e, pv⟩ := pv
      subst e
      exact ps i d acc hd pv
    · intro H2 a2
      have a3 : LcAt K Lc I1 H1 σ δ [] L (fun acc μ' => μ' = [] ∧ Pv ds.length acc) H2 := by rw [← repl_len hr]; exact a2
      have p1 := p.on st f
      refine lc_end (Q := fun r μ' => μ' = [] ∧ Q r μ1) s0 hL (fun w I3 H3 r3 μ3 F3 st3 f3 s3 ok3 q3 => ?_) a3 fun acc μ' pv => ⟨pv.1, pd acc pv.2⟩
      exact p1 w I3 H3 r3 μ1 F1 (st3.wide (fun x hx => nomatch hx)) (fun x hx => .inl hx) (s1.grow st3 (fun x hx => nomatch hx) s3.ih) ok3 q3.2
/-- over a text, sign by sign -/
theorem lc_s (tg : TgIn g vs) (h : RD K tl δ μ fun r μ1 => ∃ z : Str, r = .dat (.str z) ∧ ∃ Pv : Nat → List Da → Mu → Prop, Pv 0 [] μ1 ∧
      (∀ i c acc μ', z.cps[i]? = some c → Pv i acc μ' → LcTurn K g tt te vs δ (.str ⟨#[c]⟩) acc μ' (Pv (i + 1))) ∧ (∀ acc μ', Pv z.cps.size acc μ' → Q (.dat (.lst acc)) μ')) :
    RD K (tLc (iStr tl) g tt te vs) δ μ Q := fun Lc I H σ F s QQ p =>
  h Lc I H σ F s _ fun v I1 H1 r μ1 F1 st f s1 ok ⟨z, er, Pv, p0, ps, pd⟩ => by
    subst er
    cases ok
    refine ⟨z, rfl, fun L hL => lc_it (walk_str (z := z)) (fun i H2 => LcAt K Lc I1 H1 σ δ F1 L (Pv i) H2) (lc_start s1 hL p0) (fun _ _ _ _ => trivial) ?_ ?_⟩
    · rintro i y H2 H3 hi a2 ⟨rfl, c, hc, rfl⟩
      exact lc_turn tg hL a2 (Rep.str _) fun acc μ' pv => ps i c acc μ' hc pv
    · intro H2 a2
      exact lc_end s1 hL (p.on st f) a2 pd
end
section
variable {P : Program} {w : World} {K : PySem.W.Frag} {mg : Str → Option Value} {base : Heap} {x qual : Str} {st : Stmt} {f : Addr} {fd : FuncData} {N ps : List Str} {k n : Nat}
/-- a def that makes a pool -/
theorem fn_N {C : List Da → Prop} (F : Fun K x qual st f fd) (S : FnScope N ps (defScope st)) (hn : ps.length = n)
    (body : ∀ (cdv : Value) (A : Around) (outer : List Env) (s : Shared) (H : Hp) (E : XK), RmG k (A.deeper (envOfC qual (defScope st) s.heap.objs.size f cdv)) →
      ∃ t, PSs (cxOf CX0 P w K mg base N qual (defScope st) f cdv A outer s H E).nox (defBody st) t ∧ ∀ ds, ds.length = n → C ds → RS K t (startD N (dats ds)) [] { nx := fun _ _ => False, rt := fun r μ' => ∃ (a : Addr) (i : Nat), r = .own a ∧ μ'[i]? = some (a, MK.pool 0, true) }) :
    FnG P w K mg base CX0 (k + 1) f fd ps (spN K n C) := by
  refine fng_of F S (fun vs H Q E h => h.1.trans hn.symm) fun cdv A outer s H vs Q E hr h => ?_
  obtain ⟨hl, I, ds, e, r, c, q⟩ := h
  obtain ⟨t, ht, hb⟩ := body cdv A outer s H E hr
  refine ⟨t, ht.nox, hb ds ((repl_len r).symm.trans hl) c I H [] I I H _ [] { st := Step.refl _ _ _, sub := fun x hx => (nomatch hx), s := ⟨e, fun _ z => z, slok_start (slok_dats r), .nil⟩, ib := Ex.refl _ } _ ⟨fun I1 H1 σ1 δ1 μ1 F1 a qr => qr.elim, fun v r I1 H1 σ1 δ1 μ1 F1 a ok qr => ?_, fun _ _ _ _ _ _ _ z => z.elim, fun _ _ _ _ _ _ _ z => z.elim⟩⟩
  obtain ⟨p, i, er, hi⟩ := qr
  subst er
  have ev : v = .ref p := ok
  subst ev
  obtain ⟨Fi, m, sF, lF, _⟩ := a.s.mu.at hi
  obtain ⟨rfl, hp⟩ := m
  exact q p H1 (lF rfl p (by simp)) hp fun b o hb => a.st.keep b o hb (by simp)
end
end DL
/-! Exceptions of own classes as values: made (by position, by keyword), their fields read, asked for their class. -/
namespace PySem
namespace HandSPX
open PySem.W PySem.Calls PyProof.Rows
section
variable {prog : Program} {w : World} {A : Around} {E : Value → Shared → Prop} {R : Result → Shared → Prop} {h : Heap} {g : Array GenState} {d : Drawn} {t : Nat} {os : OsState}
variable {nm q : Str} {C N : Addr} {bs bm bmB : List Value} {hdct : Bool} {sn : List Str} {sub : List Value} {ab : Bool} {col : Option Bool} {dd : Option Addr} {k0 k1 k2 k3 k5 : Option Value} {B newId initId : String}
theorem kw_new_check {M : Model} (F : ExcBaseFacts B newId initId bmB) (hT : ∀ X : String, bm.contains (.type X) = bmB.contains (.type X)) {rest : List Value} {kw : List (Str × Value)} {Q : Unit → Shared → Prop}
    (hC : h.get? C = some (excClassObj nm q C N bs bm hdct sn sub ab col dd k0 k1 k2 k3 k5 newId)) (hq : Q () ⟨h, g, d, t, os⟩) :
    wpAny M A (checkBuiltinCall newId ⟨.ref C :: rest, kw⟩) Q E ⟨h, g, d, t, os⟩ := by
  have hin : (Value.ref C :: bm).contains (.type B) = true := by rw [List.contains_cons, hT, F.hasB, Bool.or_true]
  have hst := F.noStar
  simp only [checkBuiltinCall, F.newKind, F.newSplit, F.newRow]
  repeat (first | refine wpAny_loadPart_at hC ?_ | (refine wpAny_isSubtype_exc hC ?_; rw [hin]) | refine wpAny_staticBase_exc hC ?_ | refine wpAny_madeBy_exc hC ?_ | simp only [bne_self_eq_false, Bool.false_eq_true, if_false] | wp_step)
  exact hq
theorem kw_new (F : ExcBaseFacts B newId initId bmB) (hT : ∀ X : String, bm.contains (.type X) = bmB.contains (.type X)) {rest : List Value} {kw : List (Str × Value)}
    (hC : h.get? C = some (excClassObj nm q C N bs bm hdct sn sub ab col dd k0 k1 k2 k3 k5 newId)) (hrest : rest.length ≤ sizeLine)
    (hq : R (.ok (.ret (.ref (h.objs.size + 1)))) ⟨(h.push (W.kdv_tup rest)).push (excO C h.objs.size), g, d, t, os⟩) :
    codeAny (model prog w) A (.builtin newId ⟨.ref C :: rest, kw⟩) R ⟨h, g, d, t, os⟩ := by
  have he := F.ends
  have c1 : (Value.ref C :: bm).contains (.type B) = true := by rw [List.contains_cons, hT, F.hasB, Bool.or_true]
  have c2 : (Value.ref C :: bm).contains (.type "AttributeError") = false := by rw [List.contains_cons, hT, F.noAttr]; rfl
  have c3 : (Value.ref C :: bm).contains (.type "NameError") = false := by rw [List.contains_cons, hT, F.noName]; rfl
  refine codeAny_builtinAt F.entry ?_
  unfold Builtin.«BaseException.__new__»
  refine wpAt_bind ?_
  show wpAt _ _ _ (stack >>= _) _ _ _
  refine wpAt_bind (wpAt_stack fun p below => wpAt_of_wpAny ?_)
  wp_walk
  refine wpAt_of_wpAny ?_
  rw [F.owner]
  repeat (first | with_reducible refine wpAny_madeHere_exc F.canon hC ?_ | with_reducible refine wpAny_loadPart_at hC ?_ | (with_reducible refine wpAny_isSubtype_exc hC ?_; first | rw [c1] | rw [c2] | rw [c3]) | wp_step)
  show R _ _
  rw [Heap.size_push]
  exact hq
theorem kw_type_call (F : ExcBaseFacts B newId initId bmB) (hT : ∀ X : String, bm.contains (.type X) = bmB.contains (.type X)) {rest : List Value} {kw : List (Str × Value)} {fI : Addr} {Q : Fin → Shared → Prop}
    (hC : h.get? C = some (excClassObj nm q C N bs bm hdct sn sub ab col dd k0 k1 k2 k3 k5 newId)) (hrest : rest.length ≤ sizeLine)
    (hi : W.Looks (model prog w) h (typeLookup (.ref C) "__init__") (some (.ref fI))) (hb : ∀ self, W.Looks (model prog w) h (bindSpecial (.ref fI) self) (.ref fI, [self]))
    (hq : codeAny (model prog w) A (.call (.ref fI) ⟨.ref (h.objs.size + 1) :: rest, kw⟩)
      (fun r s' => match r with | .ok (.ret v) => v = .none ∧ Q (.done (.ret (.ref (h.objs.size + 1)))) s' | .ok _ => False | .error e => E e s') ⟨(h.push (W.kdv_tup rest)).push (excO C h.objs.size), g, d, t, os⟩) :
    wpAny (model prog w) A (Builtin.«type.__call__» ⟨.ref C :: rest, kw⟩) Q E ⟨h, g, d, t, os⟩ := by
  repeat (first | with_reducible refine wpAny_loadPart_at hC ?_ | with_reducible refine wpAny_madeBy_exc hC ?_ | wp_step)
  refine codeAny_call_builtin_code (Code.quiet_builtin _ F.quiet) (kw_new_check F hT hC ?_)
  refine kw_new F hT hC hrest ?_
  show wpAny _ _ _ _ _ _
  have kp : ∀ b o, h.get? b = some o → ((h.push (W.kdv_tup rest)).push (excO C h.objs.size)).get? b = some o := fun b o e => Heap.get?_push_of_some _ (Heap.get?_push_of_some _ e)
  have hC2 := kp _ _ hC
  have hat : ((h.push (W.kdv_tup rest)).push (excO C h.objs.size)).get? (h.objs.size + 1) = some (excO C h.objs.size) := by heap_get
  have cC : (Value.ref C :: bm).contains (.ref C) = true := by simp
  have i1 := hi.keeps kp
  have b1 := (hb (.ref (h.objs.size + 1))).keeps kp
  unfold isInstance
  repeat (first | with_reducible refine wpAny_loadPart_at hat ?_ | (with_reducible refine wpAny_isSubtype_exc hC2 ?_; rw [cC]) | wp_step)
  show wpAny _ _ (typeLookup (.ref C) _) _ _ _
  refine i1.at (wpAny_holding (wpAny_bind (b1.at (wpAny_bind (wpAny_call (codeAny_mono hq fun r s' z => ?_))))))
  rcases r with e | (v | _ | _ | _) <;> first | exact z | exact z.elim | skip
  obtain ⟨rfl, z⟩ := z
  first
    | exact wpAny_pure (wpAny_pure z)
    | (wp_walk; exact z)
theorem kw_call (F : ExcBaseFacts B newId initId bmB) (hT : ∀ X : String, bm.contains (.type X) = bmB.contains (.type X)) {rest : List Value} {kw : List (Str × Value)} {fI : Addr}
    (hC : h.get? C = some (excClassObj nm q C N bs bm hdct sn sub ab col dd k0 k1 k2 k3 k5 newId)) (hrest : rest.length ≤ sizeLine)
    (hi : W.Looks (model prog w) h (typeLookup (.ref C) "__init__") (some (.ref fI))) (hb : ∀ self, W.Looks (model prog w) h (bindSpecial (.ref fI) self) (.ref fI, [self]))
    (hq : codeAny (model prog w) (A.under (.builtin "type.__call__" ⟨.ref C :: rest, kw⟩)) (.call (.ref fI) ⟨.ref (h.objs.size + 1) :: rest, kw⟩) (W.InitBack (h.objs.size + 1) R) ⟨(h.push (W.kdv_tup rest)).push (excO C h.objs.size), g, d, t, os⟩) :
    codeAny (model prog w) A (.call (.ref C) ⟨rest, kw⟩) R ⟨h, g, d, t, os⟩ := by
  have z1 := tc_lookup
  have z2 := tc_bind (.ref C)
  have hTy : (⟨h, g, d, t, os⟩ : Shared).TypeIs (.ref C) "type" := ⟨_, hC, rfl⟩
  refine codeAny_of_tree ?_
  show wpAny _ _ (callAny (.ref C) _) _ _ _
  repeat (any_goals (first | assumption | with_reducible refine wpAny_loadPart_at hC ?_ | wp_step))
  refine ⟨rfl, codeAny_call_builtin_at (Code.quiet_builtin _ (by decide +kernel)) entry_typeCall (wpAny_check_type_call_sub hC (kw_type_call F hT hC hrest hi hb ?_))⟩
  refine codeAny_mono hq fun r s' z => ?_
  rcases r with e | (v | _ | _ | _) <;> exact z
end
end HandSPX
end PySem
/-! Exceptions of own classes as values: readings and rules. -/
namespace DL
open PySem L2
open PyProof.Rows (envOfC)

/-- what the written part says of an own exception class; O: the class under it -/
structure XCls (K : PySem.W.Frag) (O C : Addr) : Prop where
  ox : OexC K C
  cl : (PySem.W.clsIn K C).isSome = true
  hd : PySem.W.hasDictIn K C = true
  ga : PySem.W.findIn K (.ref C) "__getattribute__" = some (some (.builtin "BaseException.__getattribute__"))
  gt : PySem.W.findIn K (.ref C) "__getattr__" = some none
  ca : PySem.W.findIn K (.ref C) "__class__" = some (some (.builtin "object.__class__"))
  ng : PySem.W.specialIn K (.builtin "object.__class__") "__get__" = some (some (.builtin "getset_descriptor.__get__"))
  tk : PySem.W.takesIn K (.builtin "object.__class__") = some true
  mo : PySem.W.mroIn K C (.type "object") = some true
  mro : ∃ cd, PySem.W.clsIn K C = some cd ∧ cd.mro = [.ref C, .ref O, .type "ValueError", .type "Exception", .type "BaseException", .type "object"]
theorem XCls.kit {K : PySem.W.Frag} {O C D : Addr} (x : XCls K O C) (h : (PySem.W.clsIn K D).isSome = true) (ht : PySem.W.typeIn K (.ref D) = some (.type "type")) : PySem.W.kitOne K (.ref C) (.ref D) = some (decide (D = C) || decide (D = O)) := by
  obtain ⟨cd, hc, hm⟩ := x.mro
  unfold PySem.W.kitOne
  by_cases e : D = C
  · subst e; simp
  · have hb : (Value.ref C == Value.ref D) = false := by
      refine Bool.eq_false_iff.mpr fun q => ?_
      exact e (Value.ref.inj (beq_iff_eq.mp q)).symm
    rw [hb, if_neg Bool.false_ne_true]
    have h2 : (PySem.W.typeIn K (.ref D) == some (Value.type "type")) = true := by rw [ht]; exact beq_iff_eq.mpr rfl
    show (if ((PySem.W.clsIn K D).isSome && PySem.W.typeIn K (.ref D) == some (.type "type")) = true then PySem.W.mroIn K C (.ref D) else none) = _
    rw [h, h2, if_pos (by rfl)]
    unfold PySem.W.mroIn
    rw [hc, Option.bind_some, hm, if_neg (by simp)]
    have key : ([Value.ref C, .ref O, .type "ValueError", .type "Exception", .type "BaseException", .type "object"].contains (Value.ref D)) = (decide (D = C) || decide (D = O)) := by
      rw [Bool.eq_iff_iff]
      simp [e]
    rw [key]
theorem XCls.kitV {K : PySem.W.Frag} {O C : Addr} (x : XCls K O C) : PySem.W.kitOne K (.ref C) (.type "ValueError") = some true := by
  obtain ⟨cd, hc, hm⟩ := x.mro
  unfold PySem.W.kitOne
  have hb : (Value.ref C == Value.type "ValueError") = false := by
    refine Bool.eq_false_iff.mpr fun q => ?_
    have := beq_iff_eq.mp q
    cases this
  rw [hb, if_neg Bool.false_ne_true]
  show (if PySem.W.kitMeta "ValueError" = true then PySem.W.mroIn K C (.type "ValueError") else none) = _
  rw [if_pos (by decide +kernel)]
  unfold PySem.W.mroIn
  rw [hc, Option.bind_some, hm, if_neg (by simp)]
  simp

/-- positions picked -/
def pick {α : Type} (ix : List Nat) (l : List α) : List α := ix.filterMap fun i => l[i]?
theorem repl_pick {K : PySem.W.Frag} {I : Hp} {vs : List V} {ds : List Da} (h : RepL K I vs ds) : ∀ ix : List Nat, RepL K I (pick ix vs) (pick ix ds)
  | [] => .nil
  | i :: r => by
    have t := repl_pick h r
    unfold pick at t ⊢
    cases e : vs[i]? with
    | none =>
      have e2 : ds[i]? = none := by
        rw [List.getElem?_eq_none_iff] at e ⊢
        rw [← repl_len h]; exact e
      rw [List.filterMap_cons, List.filterMap_cons, e, e2]; exact t
    | some v =>
      obtain ⟨d, e2, r2⟩ := repl_get h e
      rw [List.filterMap_cons, List.filterMap_cons, e, e2]
      exact .cons r2 t
theorem vals_get : ∀ {vs : List V} {us : List Value}, Vals vs us → ∀ i : Nat, (vs[i]? = none ∧ us[i]? = none) ∨ ∃ v u, vs[i]? = some v ∧ us[i]? = some u ∧ RelV v u
  | _, _, .nil, i => .inl ⟨by simp, by simp⟩
  | _, _, .cons a b, 0 => .inr ⟨_, _, rfl, rfl, a⟩
  | _, _, .cons a b, i + 1 => by simpa using vals_get b i
theorem vals_pick {vs : List V} {us : List Value} (h : Vals vs us) : ∀ ix : List Nat, Vals (pick ix vs) (pick ix us)
  | [] => .nil
  | i :: r => by
    have t := vals_pick h r
    unfold pick at t ⊢
    rcases vals_get h i with ⟨e1, e2⟩ | ⟨v, u, e1, e2, rv⟩
    · rw [List.filterMap_cons, List.filterMap_cons, e1, e2]; exact t
    · rw [List.filterMap_cons, List.filterMap_cons, e1, e2]; exact .cons rv t

/-- how an __init__ binds: n positional values, keywords named ks -/
def KBx (fd : FuncData) (ps : List Str) (n : Nat) (ks : List Str) (ix : List Nat) : Prop :=
  ∀ (u : Value) (us ws : List Value), us.length = n → ws.length = ks.length → bindArgs fd ⟨u :: us, ks.zip ws⟩ = pure (ps.zip (u :: pick ix (us ++ ws)))
/-- the promise of an __init__ of an exception class -/
def spX (K : PySem.W.Frag) (n : Nat) (C : Addr) (Cn : List Da → (List (Str × Da) → Prop) → Prop) : Sp := fun vs H Q _ => vs.length = n + 1 ∧ ∃ I a ws ds R, vs = .ref a :: ws ∧ Ex I H ∧ I a = none ∧ H a = some (exo a C none) ∧ RepL K I ws ds ∧ Cn ds R ∧
  ∀ I' H' dx fs fds, Step [a] I H I' H' → Ex I' H' → H' a = some (exo a C (some dx)) → H' dx = some (exd dx fs) → dx ≠ a → I' dx = none → H dx = none → RepF K I' fs fds → R fds → Q .non H'
/-- C(e, .., k = v, ..) -/
def tMkX (C : Addr) (n m : Nat) (ix : List Nat) (sp : Sp) (t tk : TA) : TE := fun σ H Q => t σ H fun vs H1 => tk σ H1 fun zs H2 => vs.length = n ∧ zs.length = m ∧ (pick ix (vs ++ zs)).length ≤ 1000 ∧
  ∀ a, H2 a = none → sp (.ref a :: pick ix (vs ++ zs)) (upd H2 a (exo a C none)) (fun v H3 => v = .non ∧ Q (.ref a) H3) E0
/-- an exception class that may be made -/
structure XG (P : Program) (w : World) (K : PySem.W.Frag) (mg : Str → Option Value) (base : Heap) (k : Nat) (x qual : Str) (st : Stmt) (C : Addr) (ps : List Str) (sp : Sp) : Prop where
  ex : ∃ (f : Addr) (fd : FuncData), OexC K C ∧ PySem.W.findIn K (.ref C) "__init__" = some (some (.ref f)) ∧ PySem.W.typeIn K (.ref f) = some (.type "function") ∧ FnG P w K mg base CX0 k f fd ps sp ∧ mg x = some (.ref C) ∧
    ∃ (kV doc pm : Value) (an : Option Addr) (cdv ct : Value), fd = PySem.W.fnOf "__init__" qual (defArgs st) (defBody st) (defScope st) .none kV doc pm an cdv ct
/-- .. for any such function object -/
def KBxs (qual : Str) (st : Stmt) (ps : List Str) (n : Nat) (ks : List Str) (ix : List Nat) : Prop :=
  ∀ (kV doc pm : Value) (an : Option Addr) (cdv ct : Value), KBx (PySem.W.fnOf "__init__" qual (defArgs st) (defBody st) (defScope st) .none kV doc pm an cdv ct) ps n ks ix
section
variable {X : Cx} {k j n : Nat} {f C : Addr} {fd : FuncData} {ps ks : List Str} {ix : List Nat} {sp : Sp} {x qual : Str} {st : Stmt} {p pos : Pos} {e : Expr} {es : List Expr} {kws : List Keyword} {t tk : TA}
theorem makeX {pins : List (Addr × Obj)} {σ : St} {H : Hp} {s : Shared} {Q : VK} {us ws : List Value} {vs zs : List V} (c : XG X.prog X.w X.K X.mg X.base k x qual st C ps sp) (hr : RmG (k + 1) X.A) (hb : KBxs qual st ps n ks ix) (hx : Passes CX0 X E0) (I : Inv X pins σ H s)
    (r : Vals vs us) (rz : Vals zs ws) (l1 : vs.length = n) (l2 : zs.length = ks.length) (lp : (pick ix (vs ++ zs)).length ≤ 1000) (lu : us.length ≤ sizeLine)
    (h : ∀ a, H a = none → sp (.ref a :: pick ix (vs ++ zs)) (upd H a (exo a C none)) (fun v H3 => v = .non ∧ Q (.ref a) H3) E0) :
    wpAny (model X.prog X.w) X.A (call (.ref C) us (ks.zip ws)) (EP X pins σ Q) X.xe s := by
  obtain ⟨fI, fd, T, iC, tI, F1, hm, kV, doc, pm, an, cdv, ct, rfl⟩ := c.ex
  obtain ⟨nm, q, N, bs, bm, sn, sub, ab, col, dd, k0, k1, k2, k3, k5, hC, hbm⟩ := T.cls
  obtain ⟨hp, g, dr, tk, os⟩ := s
  have hsz : hp.objs.size ≤ hp.objs.size + 1 := Nat.le_succ _
  have hn : H (hp.objs.size + 1) = none := I.hok.fresh hsz
  have hq := h (hp.objs.size + 1) hn
  have kk : ∀ b o, hp.get? b = some o → ((hp.push (PySem.W.kdv_tup us)).push (PySem.HandSPX.excO C hp.objs.size)).get? b = some o := fun b o e => Heap.get?_push_of_some _ (Heap.get?_push_of_some _ e)
  have hget : ((hp.push (PySem.W.kdv_tup us)).push (PySem.HandSPX.excO C hp.objs.size)).get? (hp.objs.size + 1) = some (PySem.HandSPX.excO C hp.objs.size) := by heap_get
  have I2 : Inv X pins σ (upd H (hp.objs.size + 1) (exo (hp.objs.size + 1) C none)) ⟨(hp.push (PySem.W.kdv_tup us)).push (PySem.HandSPX.excO C hp.objs.size), g, dr, tk, os⟩ :=
    I.laid (t' := tk) (a := hp.objs.size + 1) (o := exo (hp.objs.size + 1) C none) (h' := (hp.push (PySem.W.kdv_tup us)).push (PySem.HandSPX.excO C hp.objs.size)) kk hsz (exo_ok hget)
  have rr : Vals (vs ++ zs) (us ++ ws) := r.append rz
  have r2 : Vals (V.ref (hp.objs.size + 1) :: pick ix (vs ++ zs)) (Value.ref (hp.objs.size + 1) :: pick ix (us ++ ws)) := .cons rfl (vals_pick rr ix)
  have hbt := BindsTo.of_eq (s := (⟨(hp.push (PySem.W.kdv_tup us)).push (PySem.HandSPX.excO C hp.objs.size), g, dr, tk, os⟩ : Shared)) (hb kV doc pm an cdv ct (Value.ref (hp.objs.size + 1)) us ws (r.length.symm.trans l1) (rz.length.symm.trans l2))
  refine wpAny_call (PySem.HandSPX.kw_call F.excBase_ValueError (fun Y => PySem.HandSPX.refsVE_contains Y bm hbm) (I.kIn _ _ hC) lu (PySem.W.looks_findIn I.kIn iC) (fun self => PySem.W.bind_fn I.kIn self tI)
    (codeAny_mono (F1.go _ X.stack _ _ ⟨Value.ref (hp.objs.size + 1) :: us, ks.zip ws⟩ (Value.ref (hp.objs.size + 1) :: pick ix (us ++ ws)) _ _ E0 (hr.make C us (ks.zip ws)) (I2.env0.make C us (ks.zip ws)) hbt r2 hq) fun r s' hq' => ?_))
  match r, hq' with
  | .error er, hq' => exact hx pins σ _ _ er s' I2 hq'
  | .ok (.ret u), hq' =>
    obtain ⟨v, H', I3, rv, ev, q3⟩ := I2.after hq'
    subst ev
    exact ⟨rv, ⟨V.ref (hp.objs.size + 1), H', I3, rfl, q3⟩⟩
  | .ok .next, hq' => exact hq'.elim
  | .ok .brk, hq' => exact hq'.elim
  | .ok .cont, hq' => exact hq'.elim
theorem pe_mkx (c : XG X.prog X.w X.K X.mg X.base k x qual st C ps sp) (hr : RmG j X.A) (hk : k + 1 ≤ j) (hx : Passes CX0 X E0) (hb : KBxs qual st ps n ks ix) (hg : Gl X x) (ha : PA X (e :: es) t) (hkw : PK X kws tk) (hn : n ≤ 100 := by decide)
    (hall : (backToKw pos (keywordEach kws X.env)).all (·.1.isSome) = true := by rfl) (hks : (backToKw pos (keywordEach kws X.env)).filterMap (·.1) = ks := by rfl)
    (hdb : (x == ("__debug__" : Str)) = false := by decide) (he : starEach (e :: es) X.env = (false, eval e X.env) :: starEach es X.env := by rfl)
    (hpl : ((backTo pos (starEach (e :: es) X.env)).any (·.1) || (backToKw pos (keywordEach kws X.env)).any (·.1.isNone)) = false := by rfl) :
    PE X (.Call (.Name x p) (e :: es) kws pos) (tMkX C n ks.length ix sp t tk) := by
  obtain ⟨f, fd, T, _, _, _, hm, _⟩ := id c.ex
  refine ⟨fun pins s σ H Q I h => ?_⟩
  refine wpAny_Call_Name_kw (ld_glob I hg hm ?_ hdb)
  refine PySem.W.callWith_KW (h₀ := X.base) I.ok.mod.kin T.kC hall (thn (ha.run pos pins s σ H _ I h) fun us s1 ⟨vs, H1, I1, r, q⟩ => ?_) hpl he
  refine thn (hkw.run pos pins s1 σ H1 _ I1 q) fun ws s2 ⟨zs, H2, I2, rz, l1, l2, l3, q2⟩ => ⟨I2.kIn, ?_⟩
  rw [hks]
  exact makeX c (hr.mono hk) hb hx I2 r rz l1 l2 l3 (by show us.length ≤ sizeLine; rw [← r.length, l1, sizeLine_eq]; omega) q2
theorem pe_mkx0 (c : XG X.prog X.w X.K X.mg X.base k x qual st C ps sp) (hr : RmG j X.A) (hk : k + 1 ≤ j) (hx : Passes CX0 X E0) (hb : KBxs qual st ps 0 ks ix) (hg : Gl X x) (hkw : PK X kws tk)
    (hall : (backToKw pos (keywordEach kws X.env)).all (·.1.isSome) = true := by rfl) (hks : (backToKw pos (keywordEach kws X.env)).filterMap (·.1) = ks := by rfl)
    (hdb : (x == ("__debug__" : Str)) = false := by decide)
    (hpl : ((backTo pos (starEach [] X.env)).any (·.1) || (backToKw pos (keywordEach kws X.env)).any (·.1.isNone)) = false := by rfl) :
    PE X (.Call (.Name x p) [] kws pos) (tMkX C 0 ks.length ix sp tNil tk) := by
  obtain ⟨f, fd, T, _, _, _, hm, _⟩ := id c.ex
  refine ⟨fun pins s σ H Q I h => ?_⟩
  refine wpAny_Call_Name_kw (ld_glob I hg hm ?_ hdb)
  refine PySem.W.callWith_KW0 (h₀ := X.base) I.ok.mod.kin T.kC hall ?_ hpl
  refine thn (hkw.run pos pins s σ H _ I h) fun ws s2 ⟨zs, H2, I2, rz, l1, l2, l3, q2⟩ => ⟨I2.kIn, ?_⟩
  rw [hks]
  exact makeX (us := []) (vs := []) c (hr.mono hk) hb hx I2 .nil rz l1 l2 l3 (Nat.zero_le _) q2
end
end DL
namespace DL
open PySem L2
open PyProof.Rows (envOfC)
/-! ### reading an exception's field, its class -/
def tFldX (K : PySem.W.Frag) (O : Addr) (ta : TE) (f : Str) : TE := fun σ H Q => ta σ H fun x H1 => ∃ (a C d : Addr) (fs : List (Str × V)) (v : V), x = .ref a ∧ XCls K O C ∧ PySem.W.findIn K (.ref C) f = some none ∧ H1 a = some (exo a C (some d)) ∧ H1 d = some (exd d fs) ∧ fs.lookup f = some v ∧ Q v H1
theorem exd_look {P : Program} {w : World} {H : Hp} {h : Heap} {dx : Addr} {fs : List (Str × V)} {f : Str} {v : V} (hok : HOk P w H h) (he : H dx = some (exd dx fs)) (hl : fs.lookup f = some v) : ∃ (o : Obj) (u : Value), h.get? dx = some o ∧ PySem.W.lookIn f o = some (some u) ∧ RelV v u := by
  obtain ⟨mA, hns, rel⟩ := exd_at hok he
  have q := rel f
  rw [hl] at q
  cases hm : mA f with
  | none => rw [hm] at q; exact q.elim
  | some u =>
    rw [hm] at q
    obtain ⟨o, ho, hk⟩ := lookIn_ns hns
    exact ⟨o, u, ho, by rw [hk, hm], q⟩
theorem exd_obj {P : Program} {w : World} {H : Hp} {h : Heap} {dx : Addr} {fs : List (Str × V)} (hok : HOk P w H h) (he : H dx = some (exd dx fs)) : ∃ (o : Obj), h.get? dx = some o := by
  obtain ⟨mA, ⟨o, es, ep, ho, hr⟩, rel⟩ := exd_at hok he
  exact ⟨o, ho⟩
/-- isinstance(e, C), e an exception of an own class -/
def rIsX (K : PySem.W.Frag) (O : Addr) : List V → Hp → VK → Prop := fun xs H Q => ∃ (a C : Addr) (od : Option Addr) (c : V) (cv : Value) (b : Bool), xs = [.ref a, c] ∧ XCls K O C ∧ H a = some (exo a C od) ∧ (∀ d, od = some d → ∃ fs, H d = some (exd d fs)) ∧ (∀ u, RelV c u → u = cv) ∧ PySem.W.kitOne K (.ref C) cv = some b ∧ Q (.bl b) H
theorem call_isx {X : Cx} {O : Addr} : CallR X (.builtin "isinstance") (rIsX X.K O) := by
  intro pins s σ H xs us Q I r h
  obtain ⟨a, C, od, c, cv, b, rfl, xc, ea, ed, hcv, e, q⟩ := h
  cases r with
  | cons rx rr =>
    cases rr with
    | cons rt rr =>
      cases rr
      cases rx
      have ec := hcv _ rt
      subst ec
      obtain ⟨t1, ho⟩ := exo_at I.hok ea
      cases od with
      | none =>
        exact PySem.W.kia_one (PySem.W.kitx_exc (ox := { cls := .ref C, dict := none, data := .fields #[.ref t1, .none, .none, .none, .bool false, .none] }) (od := none) xc.cl xc.ga xc.gt xc.ox.exC xc.ca xc.ng xc.tk xc.mo) I.kIn ⟨ho, rfl, rfl, trivial⟩ e (fun z => nomatch z) fun tk => ⟨.bl b, H, I.kept (t' := tk) fun _ _ z => z, rfl, q⟩
      | some d =>
        obtain ⟨fs, hd⟩ := ed d rfl
        obtain ⟨oD, hD⟩ := exd_obj I.hok hd
        exact PySem.W.kia_one (PySem.W.kitx_exc (ox := { cls := .ref C, dict := some d, data := .fields #[.ref t1, .none, .none, .none, .bool false, .none] }) (od := some oD) xc.cl xc.ga xc.gt xc.ox.exC xc.ca xc.ng xc.tk xc.mo) I.kIn ⟨ho, rfl, rfl, hD⟩ e (fun z => nomatch z) fun tk => ⟨.bl b, H, I.kept (t' := tk) fun _ _ z => z, rfl, q⟩
section
variable {X : Cx} {e : Expr} {f : Str} {pos : Pos} {ta : TE} {O : Addr}
theorem pe_fldx (he : PE X e ta) (hb : attributeBase e f X.env (eval e X.env) = eval e X.env) : PE X (.Attribute e f pos) (tFldX X.K O ta f) := by
  refine ⟨fun pins s σ H Q I h => ?_⟩
  refine attr_of hb (thn (he.run pins s σ H _ I h) fun u s1 ⟨x, H1, I1, rx, a, C, d, fs, v, ex, xc, hno, ea, ed, l, q⟩ => ?_)
  subst ex
  obtain rfl : u = Value.ref a := rx
  obtain ⟨t1, ho⟩ := exo_at I1.hok ea
  obtain ⟨oD, uv, hD, hlk, rv⟩ := exd_look I1.hok ed l
  refine PySem.HandSPX.exc_get I1.kIn (ox := { cls := .ref C, dict := some d, data := .fields #[.ref t1, .none, .none, .none, .bool false, .none] }) (od := some oD) ⟨ho, rfl, rfl, hD⟩ xc.ga xc.gt xc.ox.exC (PySem.W.findObj_own xc.hd hno rfl hlk) (handed_of rv) ?_
  exact ⟨v, H1, I1.tok _, rv, q⟩
/-- C(), an own exception class without own __init__ -/
def tMk0 (C : Addr) : TE := fun σ H Q => ∀ a, H a = none → Q (.ref a) (upd H a (exo a C none))
theorem pe_mk0 {C : Addr} {bmB : List Value} {B newId initId : String} {x : Str} {p pos : Pos} (F : PySem.ExcBaseFacts B newId initId bmB) (q : PySem.W.excIn X.K C bmB newId = true) (gC : X.mg x = some (.ref C)) (kC : PySem.W.keepIn X.K (.ref C) = true) (hg : Gl X x)
    (hdb : (x == ("__debug__" : Str)) = false := by decide) : PE X (.Call (.Name x p) [] [] pos) (tMk0 C) := by
  refine ⟨fun pins s σ H Q I h => ?_⟩
  refine wpAny_Call_Name_kw (ld_glob I hg gC ?_ hdb)
  refine PySem.W.callWith_K0 (first := []) I.kIn kC ?_
  obtain ⟨bm, N, nm, qn, bs, hdct, sn, sub, ab, col, dd, k0, k1, k2, k3, k5, mN, hC, hN, hni, T⟩ := exc_obj I.kIn q
  refine PySem.wpAny_call_exc_subT F T hC hN hni (fun h' a hm => ?_) (Nat.zero_le _)
  have hn : H a = none := I.hok.gone hm.new
  obtain ⟨t, ht, _, _⟩ := hm.there
  exact ⟨.ref a, upd H a (exo a C none), I.laidN hm.keeps hm.new hn (exo_ok ht), rfl, h a hn⟩
end

/-! ### over the worth -/
section
variable {K : PySem.W.Frag} {δ : List SK} {μ : Mu} {Q : SK → Mu → Prop} {te ta tl : TE} {tr tk : TA} {E : DE} {n m : Nat} {C O : Addr} {ix : List Nat}
theorem rd_fldx {f : Str} (h : RD K ta δ μ fun r μ1 => ∃ (C : Addr) (fs : List (Str × Da)) (d : Da), r = .dat (.exc C fs) ∧ XCls K O C ∧ PySem.W.findIn K (.ref C) f = some none ∧ fs.lookup f = some d ∧ Q (.dat d) μ1) : RD K (tFldX K O ta f) δ μ Q := fun Lc I H σ F s QQ p =>
  h Lc I H σ F s _ fun v I1 H1 r μ1 F1 st f1 s1 ok ⟨C, fs, d, er, xc, hno, hl, q⟩ => by
    subst er
    cases ok with
    | exc h1 h2 rf =>
      obtain ⟨w, hw, rw'⟩ := repF_lookup rf hl
      exact ⟨_, C, _, _, w, rfl, xc, hno, s1.ih _ _ h1, s1.ih _ _ h2, hw, p w I1 H1 (.dat d) μ1 F1 st f1 s1 rw' q⟩
    | exc0 h1 => simp at hl
theorem isx_cls {D : Addr} {fs : List (Str × Da)} {b : Bool} (xc : XCls K O C) (e : PySem.W.kitOne K (.ref C) (.ref D) = some b) (q : Q (.dat (.bl b)) μ) : RC K (rIsX K O) [.dat (.exc C fs), .dat (.cls D)] δ μ Q := fun Lc I H σ F s vs a QQ p => by
  cases vs with
  | nil => cases a
  | cons v ws =>
    cases a with
    | cons x y =>
      cases ws with
      | nil => cases y
      | cons w zs =>
        cases y with
        | cons y z =>
          cases zs with
          | cons _ _ => cases z
          | nil =>
            cases y
            cases x with
            | exc h1 h2 rf => exact ⟨_, C, some _, _, .ref D, b, rfl, xc, s.ih _ _ h1, fun d hd => (by cases hd; exact ⟨_, s.ih _ _ h2⟩), fun u hu => hu, e, p.now (v := .bl b) (r := .dat (.bl b)) s (Rep.bl b) q⟩
            | exc0 h1 => exact ⟨_, C, none, _, .ref D, b, rfl, xc, s.ih _ _ h1, fun d hd => (nomatch hd), fun u hu => hu, e, p.now (v := .bl b) (r := .dat (.bl b)) s (Rep.bl b) q⟩
theorem isx_ty {D : String} {fs : List (Str × Da)} {b : Bool} (xc : XCls K O C) (e : PySem.W.kitOne K (.ref C) (.type D) = some b) (q : Q (.dat (.bl b)) μ) : RC K (rIsX K O) [.dat (.exc C fs), .dat (.ty D)] δ μ Q := fun Lc I H σ F s vs a QQ p => by
  cases vs with
  | nil => cases a
  | cons v ws =>
    cases a with
    | cons x y =>
      cases ws with
      | nil => cases y
      | cons w zs =>
        cases y with
        | cons y z =>
          cases zs with
          | cons _ _ => cases z
          | nil =>
            cases y
            cases x with
            | exc h1 h2 rf => exact ⟨_, C, some _, _, .type D, b, rfl, xc, s.ih _ _ h1, fun d hd => (by cases hd; exact ⟨_, s.ih _ _ h2⟩), fun u hu => hu, e, p.now (v := .bl b) (r := .dat (.bl b)) s (Rep.bl b) q⟩
            | exc0 h1 => exact ⟨_, C, none, _, .type D, b, rfl, xc, s.ih _ _ h1, fun d hd => (nomatch hd), fun u hu => hu, e, p.now (v := .bl b) (r := .dat (.bl b)) s (Rep.bl b) q⟩
theorem rd_mk0 (q : Q (.dat (.exc C [])) μ) : RD K (tMk0 C) δ μ Q := fun Lc I H σ F s QQ p a ha =>
  p (.ref a) (upd I a (exo a C none)) (upd H a (exo a C none)) (.dat (.exc C [])) μ F (Step.new ha s.ih) (fun x hx => .inl hx) (s.newD ha) (Rep.exc0 upd_same) q
theorem rd_mkx {Cn : List Da → (List (Str × Da) → Prop) → Prop} (hix : ix.length ≤ 100) (h : RA K tr δ μ fun rs μ1 => ∃ ds, unD rs = some ds ∧ ds.length = n ∧ RA K tk δ μ1 fun rs2 μ2 => ∃ es, unD rs2 = some es ∧ es.length = m ∧ (pick ix (ds ++ es)).length = ix.length ∧ Cn (pick ix (ds ++ es)) fun fs => Q (.dat (.exc C fs)) μ2) :
    RD K (tMkX C n m ix (spX K ix.length C Cn) tr tk) δ μ Q := fun Lc I H σ F s QQ p =>
  h Lc I H σ F s _ fun vs I1 H1 rs μ1 F1 st f s1 ok ⟨ds, e1, hl, h2⟩ => h2 Lc I1 H1 σ F1 s1 _ fun zs I2 H2 rs2 μ2 F2 st2 f2 s2 ok2 ⟨es, e2, hl2, hp, c⟩ => by
    have e1' := unD_dats e1
    have e2' := unD_dats e2
    subst e1'
    subst e2'
    have r1 := repl_of ok
    have r2 := repl_of ok2
    have rapp : ∀ {vs ws : List V} {ds es : List Da}, RepL K I2 vs ds → RepL K I2 ws es → RepL K I2 (vs ++ ws) (ds ++ es) := by
      intro vs ws ds es a b
      induction vs generalizing ds with
      | nil => cases a; exact b
      | cons v vs ih => cases a with | cons x y => exact .cons x (ih y)
    have rp := repl_pick (rapp (r1.mono st2.ii) r2) ix
    have stA := st.trans st2 f
    have fA := sub_trans st f f2
    have hpl : (pick ix (vs ++ zs)).length = ix.length := (repl_len rp).trans hp
    refine ⟨by rw [repl_len r1]; exact hl, by rw [repl_len r2]; exact hl2, by omega, fun a ha => ?_⟩
    have e0 : Ex I2 (upd H2 a (exo a C none)) := s2.ih.trans (Ex.new ha)
    refine ⟨by rw [List.length_cons, hpl], I2, a, _, _, _, rfl, e0, s2.ih.gone ha, upd_same, rp, c, fun I3 H3 dx fs fds st3 e3 h1 h2 hne hdI hdH rf q => ⟨rfl, ?_⟩⟩
    have kp : ∀ b o, H2 b = some o → H3 b = some o := fun b o hb => st3.keep b o (by rw [upd_ne (ne_of_none hb ha)]; exact hb) (by
      simp only [List.mem_cons, List.not_mem_nil, or_false]
      exact ne_of_none hb ha)
    have hIa : I3 a = none := st3.own a (by rw [upd_same]; simp) (s2.ih.gone ha)
    have hd2 : H2 dx = none := by rw [upd_ne hne] at hdH; exact hdH
    have x1 : Ex I3 (upd I3 dx (exd dx fs)) := Ex.new hdI
    have hIa' : upd I3 dx (exd dx fs) a = none := by rw [upd_ne hne.symm]; exact hIa
    have x2 : Ex (upd I3 dx (exd dx fs)) (upd (upd I3 dx (exd dx fs)) a (exo a C (some dx))) := Ex.new hIa'
    have st4 : Step [] I2 H2 (upd (upd I3 dx (exd dx fs)) a (exo a C (some dx))) H3 := ⟨st3.ii.trans (x1.trans x2), fun b o hb _ => kp b o hb, fun b hb hn => by
        have n1 : b ≠ a := fun z => hb (by rw [z]; exact ha)
        have n2 : b ≠ dx := fun z => hb (by rw [z]; exact hd2)
        rw [upd_ne n1, upd_ne n2]
        refine st3.own b ?_ hn
        rw [upd_ne n1]; exact hb, fun b hb z => by
        cases q : H2 b with
        | none => exact hb q
        | some o => rw [kp b o q] at z; cases z⟩
    have ih4 : Ex (upd (upd I3 dx (exd dx fs)) a (exo a C (some dx))) H3 := fun b o hb => by
      by_cases z : b = a
      · rw [z, upd_same] at hb
        rw [z, h1]; exact hb
      · rw [upd_ne z] at hb
        by_cases z2 : b = dx
        · rw [z2, upd_same] at hb
          rw [z2, h2]; exact hb
        · rw [upd_ne z2] at hb; exact e3 b o hb
    exact p (.ref a) _ H3 (.dat (.exc C fds)) μ2 F2 (stA.trans (st4.wide (G := F2) fun x hx => nomatch hx) fA) fA (s2.grow st4 (fun x hx => nomatch hx) ih4) (Rep.exc upd_same (by rw [upd_ne hne, upd_same]) (rf.mono (x1.trans x2))) q
/-- self.f = e, the first | a further one -/
theorem rs_ost1 {f : Str} {i : Nat} {a : Addr} (h : RD K te δ μ fun r μ1 => ∃ d : Da, r = .dat d ∧ μ1 = [(a, MK.exn C none [], false)] ∧ δ[i]? = some (.own a) ∧ OexC K C ∧ PySem.W.findIn K (.ref C) f = some none ∧ ∀ dx, E.nx δ [(a, MK.exn C (some dx) [(f, d)], false)]) :
    RS K (tOst K f (tVar i) te) δ μ E := fun I0 H0 F0 Ib I H σ F at_ D e =>
  h _ I H σ F at_.s _ fun w I1 H1 r μ1 F1 st fF s1 ok ⟨d, er, em, hd, ox, hno, q⟩ => by
    subst er
    subst em
    obtain ⟨o, ho, oo⟩ := s1.sl.get hd
    cases o with
    | none => exact oo.elim
    | some u =>
      have eu : u = .ref a := oo
      subst eu
      refine ⟨.ref a, ho, a, C, rfl, ox, hno, ?_⟩
      have mu := s1.mu
      cases mu with
      | cons m n dj nd l r =>
        cases r
        obtain ⟨rfl, _, hH⟩ := m
        refine .inl ⟨hH, fun dx hdx hne => ?_⟩
        have hIa : I1 a = none := n a (by simp)
        have hIx : I1 dx = none := s1.ih.gone hdx
        have kp : ∀ b o, b ≠ a → H1 b = some o → upd (upd H1 dx (exd dx [(f, w)])) a (exo a C (some dx)) b = some o := fun b o hb q => by rw [upd_ne hb, upd_ne (ne_of_none q hdx)]; exact q
        have st2 : Step ([a] ++ []) I1 H1 I1 (upd (upd H1 dx (exd dx [(f, w)])) a (exo a C (some dx))) := ⟨Ex.refl _, fun b o hb hn => kp b o (fun z => hn (by simp [z])) hb, fun _ _ z => z, fun b hb => by
          by_cases z : b = a
          · rw [z, upd_same]; simp
          · cases q : H1 b with
            | none => exact absurd q hb
            | some o => rw [kp b o z q]; simp⟩
        have at2 : At K I0 H0 F0 Ib I1 (upd (upd H1 dx (exd dx [(f, w)])) a (exo a C (some dx))) σ δ [(a, MK.exn C (some dx) [(f, d)], false)] ([a, dx] ++ []) := by
          refine (at_.on st fF s1).on st2 (fun x hx => ?_) ⟨fun b u hb => ?_, fun b hb => s1.lc b ?_, s1.sl, ?_⟩
          · rcases (by simpa using hx : x = a ∨ x = dx) with z | z
            · exact .inl (by simp [z])
            · exact .inr (by rw [z]; exact hdx)
          · exact kp b u (fun z => by rw [z, hIa] at hb; cases hb) (s1.ih b u hb)
          · cases q : H1 b with
            | none => rfl
            | some o =>
              by_cases z : b = a
              · rw [z, upd_same] at hb; cases hb
              · rw [kp b o z q] at hb; cases hb
          · refine MuOk.cons (F := [a, dx]) (G := []) ⟨rfl, [(f, w)], upd_same, ?_, .cons ok .nil⟩ ?_ (fun _ _ z => nomatch z) ?_ (fun z => nomatch z) .nil
            · rw [upd_ne hne, upd_same]
            · intro x hx
              rcases (by simpa using hx : x = a ∨ x = dx) with z | z
              · rw [z]; exact hIa
              · rw [z]; exact hIx
            · simp only [List.nodup_cons, List.mem_cons, List.not_mem_nil, or_false, not_false_eq_true, List.nodup_nil, and_true]
              exact fun z => hne z.symm
        exact e.nx I1 _ σ δ _ _ at2 (q dx)
theorem rs_ost2 {f : Str} {i : Nat} {a dx : Addr} {fs : List (Str × Da)} (h : RD K te δ μ fun r μ1 => ∃ d : Da, r = .dat d ∧ μ1 = [(a, MK.exn C (some dx) fs, false)] ∧ δ[i]? = some (.own a) ∧ OexC K C ∧ PySem.W.findIn K (.ref C) f = some none ∧ fs.length ≤ 900 ∧ E.nx δ [(a, MK.exn C (some dx) ((f, d) :: fs), false)]) :
    RS K (tOst K f (tVar i) te) δ μ E := fun I0 H0 F0 Ib I H σ F at_ D e =>
  h _ I H σ F at_.s _ fun w I1 H1 r μ1 F1 st fF s1 ok ⟨d, er, em, hd, ox, hno, hl, q⟩ => by
    subst er
    subst em
    obtain ⟨o, ho, oo⟩ := s1.sl.get hd
    cases o with
    | none => exact oo.elim
    | some u =>
      have eu : u = .ref a := oo
      subst eu
      refine ⟨.ref a, ho, a, C, rfl, ox, hno, ?_⟩
      have mu := s1.mu
      cases mu with
      | cons m n dj nd l r =>
        cases r
        obtain ⟨rfl, xs, hH, hX, rf⟩ := m
        have ne : dx ≠ a := fun z => by
          have := (List.nodup_cons.mp nd).1
          simp [z] at this
        have lenF : ∀ {xs : List (Str × V)} {ds : List (Str × Da)}, RepF K I1 xs ds → xs.length = ds.length := by
          intro xs ds r
          induction xs generalizing ds with
          | nil => cases r; rfl
          | cons x xs ih => cases r with | cons a b => simp [ih b]
        refine .inr ⟨dx, xs, hH, hX, by rw [lenF rf]; exact hl, ?_⟩
        have hIx : I1 dx = none := n dx (by simp)
        have st2 : Step ([a, dx] ++ []) I1 H1 I1 (upd H1 dx (exd dx ((f, w) :: xs))) := Step.put (by simp) (by rw [hX]; simp)
        refine e.nx I1 _ σ δ _ ([a, dx] ++ []) ((at_.on st fF s1).on st2 (fun x hx => .inl hx) ⟨fun b u hb => ?_, fun b hb => s1.lc b ?_, s1.sl, ?_⟩) q
        · have : b ≠ dx := fun z => by rw [z, hIx] at hb; cases hb
          rw [upd_ne this]; exact s1.ih b u hb
        · by_cases z : b = dx
          · rw [z, upd_same] at hb; cases hb
          · rw [upd_ne z] at hb; exact hb
        · refine MuOk.cons (F := [a, dx]) (G := []) ⟨rfl, (f, w) :: xs, ?_, upd_same, .cons ok rf⟩ n (fun _ _ z => nomatch z) nd (fun z => nomatch z) .nil
          rw [upd_ne ne.symm]; exact hH
end
section
variable {P : Program} {w : World} {K : PySem.W.Frag} {mg : Str → Option Value} {base : Heap} {x qual : Str} {st : Stmt} {f : Addr} {fd : FuncData} {N ps : List Str} {k n : Nat}
theorem fn_X {Cl : Addr} {C : List Da → (List (Str × Da) → Prop) → Prop} (F : Fun K x qual st f fd) (S : FnScope N ps (defScope st)) (hn : ps.length = n + 1)
    (body : ∀ (cdv : Value) (A : Around) (outer : List Env) (s : Shared) (H : Hp) (E : XK), RmG k (A.deeper (envOfC qual (defScope st) s.heap.objs.size f cdv)) →
      ∃ t, PSs (cxOf CX0 P w K mg base N qual (defScope st) f cdv A outer s H E).nox (defBody st) t ∧ ∀ (p : Addr) ds R, ds.length = n → C ds R →
        RS K t (startD N (.own p :: dats ds)) [(p, MK.exn Cl none [], false)] { nx := fun _ μ' => ∃ (dx : Addr) (fs : List (Str × Da)), μ' = [(p, MK.exn Cl (some dx) fs, false)] ∧ R fs, rt := fun _ _ => False }) :
    FnG P w K mg base CX0 (k + 1) f fd ps (spX K n Cl C) := by
  refine fng_of F S (fun vs H Q E h => h.1.trans hn.symm) fun cdv A outer s H vs Q E hr h => ?_
  obtain ⟨hl, I, p, ws, ds, R, rfl, e, hI, hp, r, cc, q⟩ := h
  obtain ⟨t, ht, hb⟩ := body cdv A outer s H E hr
  have hl' : ds.length = n := by rw [← repl_len r]; simpa using hl
  refine ⟨t, ht.nox, hb p ds R hl' cc I H [p] I I H _ ([p] ++ []) ⟨Step.refl _ _ _, fun x hx => .inl (by simpa using hx), ⟨e, fun _ z => z, slok_start (vs := .ref p :: ws) (.cons rfl (slok_dats r)), ?_⟩, Ex.refl _⟩ _ ⟨fun I1 H1 σ1 δ1 μ1 F1 a qr => ?_, fun v r I1 H1 σ1 δ1 μ1 F1 a ok qr => qr.elim, fun _ _ _ _ _ _ _ z => z.elim, fun _ _ _ _ _ _ _ z => z.elim⟩⟩
  · refine MuOk.cons (F := [p]) (G := []) ⟨rfl, rfl, hp⟩ ?_ (fun _ _ z => nomatch z) (by simp) (fun z => nomatch z) .nil
    intro x hx
    have : x = p := by simpa using hx
    rw [this]; exact hI
  · obtain ⟨dx, fs, em, hR⟩ := qr
    subst em
    have mu := a.s.mu
    cases mu with
    | cons m nn dj nd l r2 =>
      cases r2
      obtain ⟨rfl, xs, hH, hX, rf⟩ := m
      have ne : dx ≠ p := fun z => by
        have := (List.nodup_cons.mp nd).1
        simp [z] at this
      have hdx : H dx = none := by
        rcases a.sub dx (by simp) with z | z
        · exact absurd (by simpa using z) ne
        · exact z
      exact q I1 H1 dx xs fs a.st a.s.ih hH hX ne (nn dx (by simp)) hdx rf hR
end
end DL
namespace DL
open PySem L2
/-- an exception class of the module: where its __init__ stands -/
def XAt (K : PySem.W.Frag) (mg : Str → Option Value) (x : Str) (C : Addr) (qual : Str) (st : Stmt) : Prop := ∃ (f : Addr) (fd : FuncData), Fun K "__init__" qual st f fd ∧ OexC K C ∧ PySem.W.findIn K (.ref C) "__init__" = some (some (.ref f)) ∧ PySem.W.typeIn K (.ref f) = some (.type "function") ∧ mg x = some (.ref C)
theorem XAt.xg {P : Program} {w : World} {K : PySem.W.Frag} {mg : Str → Option Value} {base : Heap} {x qual : Str} {C : Addr} {st : Stmt} {ps : List Str} {k : Nat} {sp : Sp} (d : XAt K mg x C qual st) (h : ∀ {f fd}, Fun K "__init__" qual st f fd → FnG P w K mg base CX0 k f fd ps sp) : XG P w K mg base k x qual st C ps sp := by
  obtain ⟨f, fd, F, T, i, t, hm⟩ := d
  obtain ⟨oc, od, kV, doc, pm, an, cdv, ct, osl, e, _⟩ := F.ex
  exact ⟨f, fd, T, i, t, h F, hm, kV, doc, pm, an, cdv, ct, e⟩
end DL
namespace DL
open PySem L2
/-! ### repr of data -/
def rREPR (K : PySem.W.Frag) : List V → Hp → VK → Prop := fun xs H Q => ∃ (a : Addr) (d : PyData), xs = [.ref a] ∧ Dp K H (.ref a) d ∧ d.showable = true ∧ d.hasDict = false ∧ d.shown.length ≤ sizeLine ∧ d.depth ≤ 60 ∧ Q (.str d.shown) H
theorem cREPR {X : Cx} (hg : X.A.guards = some []) (hu : X.A.units + 65 < cLine) : CallR X (.builtin "repr") (rREPR X.K) := by
  intro pins s σ H xs us Q I r h
  obtain ⟨a, d, rfl, hd, h1, h2, h3, h4, q⟩ := h
  cases r with
  | cons rx rr =>
    cases rr
    cases (show _ = Value.ref a from rx)
    obtain ⟨as, rd⟩ := Dp.reads I d (.ref a) (.ref a) hd rfl
    exact PySem.repr_of_reads' rd h1 (PyData.noDict_hsm h2) hg (by omega) (fun _ _ z => z) (fun h' u tk k => ⟨.str d.shown, H, I.kept (t' := tk) k, ⟨u, rfl⟩, q⟩) h3
/-- data whose repr is told -/
structure Shw (d : Da) : Prop where
  p : plain d = true
  s : (py d).showable = true
  l : (py d).shown.length ≤ sizeLine
  d : (py d).depth ≤ 60
section
variable {K : PySem.W.Frag} {δ : List SK} {μ : Mu} {Q : SK → Mu → Prop}
theorem rp_t {ds : List Da} (h : Shw (.tup ds)) (q : Q (.dat (.str (py (.tup ds)).shown)) μ) : RC K (rREPR K) [.dat (.tup ds)] δ μ Q := fun Lc I H σ F s vs a QQ p => by
  cases vs with
  | nil => cases a
  | cons v ws =>
    cases a with
    | cons x y =>
      cases ws with
      | cons _ _ => cases y
      | nil =>
        have dp := rep_dp s.ih x h.p
        cases x with
        | tup hs hr =>
          exact ⟨_, _, rfl, dp, h.s, PyData.hasDict_of_canLay _ (plain_lay _ h.p), h.l, h.d, p.now (v := .str _) (r := .dat (.str _)) s (Rep.str _) q⟩
end
section
variable {K : PySem.W.Frag} {δ : List SK} {μ : Mu} {QT : Bool → Mu → Prop}
theorem rt_yes (q : QT true μ) : RT K tYes δ μ QT := fun Lc I H σ F s QQ p => p.now s q
end
/-! ### small data -/
/-- whole numbers and texts that are short, the truth values, None -/
def gp : Da → Bool
  | .non => true | .bl _ => true | .int i => decide (i.natAbs ≤ 10 ^ 40) | .str x => decide (x.cps.size ≤ 10) && PyData.strOk x
  | _ => false
/-- .. or tuples of at most 3 of them -/
def gv : Da → Bool
  | .tup ds => ds.all gp && decide (ds.length ≤ 3)
  | d => gp d
theorem gp_ints : ∀ {d : Da}, gp d = true → plain d = true ∧ (py d).intsShort 60 = true ∧ (py d).showable = true ∧ (py d).weight ≤ 200 ∧ (py d).depth = 0 := by
  intro d h
  cases d with
  | non => exact ⟨rfl, rfl, rfl, by decide, rfl⟩
  | bl b => exact ⟨rfl, rfl, rfl, Nat.zero_le _, rfl⟩
  | int i =>
    have h' : i.natAbs ≤ 10 ^ 40 := by simpa [gp] using h
    have hl : i.natAbs < 2 ^ 135 := Nat.lt_of_le_of_lt h' (by decide)
    have hlog : i.natAbs.log2 < 135 ∨ i.natAbs = 0 := by
      by_cases z : i.natAbs = 0
      · exact .inr z
      · exact .inl ((Nat.log2_lt z).mpr hl)
    refine ⟨rfl, ?_, ?_, ?_, rfl⟩
    · have e := int_text_length_le10 (k := 41) (a := i) (by decide) (Nat.lt_of_le_of_lt h' (by decide))
      show decide ((Str.ofString (toString i)).length ≤ 60) = true
      rw [ofString_length]
      exact decide_eq_true (Nat.le_trans e (by decide))
    · show decide (i.natAbs.log2 < 1920) = true
      refine decide_eq_true ?_
      rcases hlog with z | z
      · omega
      · rw [z]; decide
    · show (if i == 0 then 0 else i.natAbs.log2 + 1) ≤ 200
      split
      · exact Nat.zero_le _
      · rename_i z
        have : i.natAbs ≠ 0 := fun y => z (by simpa using y)
        rcases hlog with y | y
        · omega
        · exact absurd y this
  | str x =>
    have h' : x.cps.size ≤ 10 ∧ PyData.strOk x = true := by simpa [gp] using h
    exact ⟨h'.2, rfl, rfl, by show x.cps.size ≤ 200; omega, rfl⟩
  | _ => cases h
theorem gpL_ints : ∀ {ds : List Da}, ds.all gp = true → plainL ds = true ∧ PyData.intsShortAll 60 (pyL ds) = true ∧ PyData.showableAll (pyL ds) = true ∧ PyData.weightAll (pyL ds) ≤ 201 * ds.length ∧ PyData.depthAll (pyL ds) = 0
  | [], _ => ⟨rfl, rfl, rfl, by decide, rfl⟩
  | d :: ds, h => by
    have h' : gp d = true ∧ ds.all gp = true := by simpa using h
    obtain ⟨a1, a2, a3, a4, a5⟩ := gp_ints h'.1
    obtain ⟨b1, b2, b3, b4, b5⟩ := gpL_ints h'.2
    refine ⟨?_, ?_, ?_, ?_, ?_⟩
    · show (plain d && plainL ds) = true; rw [a1, b1]; rfl
    · show ((py d).intsShort 60 && PyData.intsShortAll 60 (pyL ds)) = true; rw [a2, b2]; rfl
    · show ((py d).showable && PyData.showableAll (pyL ds)) = true; rw [a3, b3]; rfl
    · show (py d).weight + 1 + PyData.weightAll (pyL ds) ≤ 201 * (ds.length + 1); omega
    · show max (py d).depth (PyData.depthAll (pyL ds)) = 0; rw [a5, b5]; rfl
theorem gv_ints {d : Da} (h : gv d = true) : plain d = true ∧ (py d).intsShort 60 = true ∧ (py d).showable = true ∧ (py d).weight ≤ 700 ∧ (py d).depth ≤ 1 := by
  by_cases t : ∃ ds, d = .tup ds
  · obtain ⟨ds, rfl⟩ := t
    have h' : ds.all gp = true ∧ ds.length ≤ 3 := by simpa [gv] using h
    obtain ⟨b1, b2, b3, b4, b5⟩ := gpL_ints h'.1
    exact ⟨b1, b2, b3, by show PyData.weightAll (pyL ds) ≤ 700; omega, by show PyData.depthAll (pyL ds) + 1 ≤ 1; omega⟩
  · have hg : gp d = true := by
      cases d <;> first | exact h | exact absurd ⟨_, rfl⟩ t
    obtain ⟨a1, a2, a3, a4, a5⟩ := gp_ints hg
    exact ⟨a1, a2, a3, by omega, by omega⟩
theorem gvL_ints : ∀ {ds : List Da}, (∀ d ∈ ds, gv d = true) → plainL ds = true ∧ PyData.intsShortAll 60 (pyL ds) = true ∧ PyData.showableAll (pyL ds) = true ∧ PyData.weightAll (pyL ds) ≤ 701 * ds.length ∧ PyData.depthAll (pyL ds) ≤ 1
  | [], _ => ⟨rfl, rfl, rfl, by decide, by decide⟩
  | d :: ds, h => by
    obtain ⟨a1, a2, a3, a4, a5⟩ := gv_ints (h d (by simp))
    obtain ⟨b1, b2, b3, b4, b5⟩ := gvL_ints fun x hx => h x (List.mem_cons_of_mem _ hx)
    refine ⟨?_, ?_, ?_, ?_, ?_⟩
    · show (plain d && plainL ds) = true; rw [a1, b1]; rfl
    · show ((py d).intsShort 60 && PyData.intsShortAll 60 (pyL ds)) = true; rw [a2, b2]; rfl
    · show ((py d).showable && PyData.showableAll (pyL ds)) = true; rw [a3, b3]; rfl
    · show (py d).weight + 1 + PyData.weightAll (pyL ds) ≤ 701 * (ds.length + 1); omega
    · show max (py d).depth (PyData.depthAll (pyL ds)) ≤ 1; omega
theorem shw_of {ds : List Da} (h : ∀ d ∈ ds, gv d = true) (hl : ds.length ≤ 3) : Shw (.tup ds) := by
  obtain ⟨b1, b2, b3, b4, b5⟩ := gvL_ints h
  refine ⟨b1, b3, ?_, by show PyData.depthAll (pyL ds) + 1 ≤ 60; omega⟩
  have q := PyData.shown_le 60 (by decide) (py (.tup ds)) (PyData.leavesShort_of_canLay0 60 _ (plain_lay (.tup ds) b1) b2)
  have w : (py (.tup ds)).weight ≤ 2200 := by show PyData.weightAll (pyL ds) ≤ 2200; omega
  have w2 : 62 * (py (.tup ds)).weight ≤ 62 * 2200 := Nat.mul_le_mul_left _ w
  rw [sizeLine_eq]
  omega
end DL
namespace DL
open PySem L2
theorem mk_x {K : PySem.W.Frag} {δ : List SK} {μ : Mu} {Q : SK → Mu → Prop} {tr tk : TA} {n m N : Nat} {C : Addr} {ix : List Nat} {Cn : List Da → (List (Str × Da) → Prop) → Prop} (hN : ix.length = N) (hix : N ≤ 100) (h : RA K tr δ μ fun rs μ1 => ∃ ds, unD rs = some ds ∧ ds.length = n ∧ RA K tk δ μ1 fun rs2 μ2 => ∃ es, unD rs2 = some es ∧ es.length = m ∧ (pick ix (ds ++ es)).length = ix.length ∧ Cn (pick ix (ds ++ es)) fun fs => Q (.dat (.exc C fs)) μ2) :
    RD K (tMkX C n m ix (spX K N C Cn) tr tk) δ μ Q := by
  subst hN
  exact rd_mkx hix h
end DL
namespace DL
open PySem L2 PySem.Spec PyProof.Rows
/-! ### the end: a law whose def keeps a promise from the script to True -/
def cScr : CA := fun ds R => ∃ ns : List Int, ds = [.scr ns] ∧ R (.bl true)
/-- what is tracked when the law begins: the script, or nothing where it is the module's own -/
theorem seen {P : Program} {w : World} {K : PySem.W.Frag} {a : Addr} {s : Shared} {vs : List Value} {ns : List Int} (kin : K.In s.heap) (at_ : s.heap.get? a = some { cls := .type "list", data := .seq vs.toArray }) (whole : IntsAre vs ns) (len : ns.length ≤ sizeLine) :
    ∃ H : Hp, SqL K H a (ns.map V.int) ∧ HOk P w H s.heap ∧ ∀ b u, H b = some u → b = a ∧ K.lookup a = none ∧ ∃ o xs, u = .frz o (.lst xs) := by
  have rel := vals_ints whole
  cases look : K.lookup a with
  | some o =>
    have e := kin a o look
    rw [at_] at e
    cases e
    exact ⟨fun _ => none, Or.inr ⟨_, vs.toArray, _, look, rfl, rfl, rfl, by rw [List.size_toArray, whole.length]; exact len, by simpa using rel⟩, (fun b u z => nomatch (show (none : Option HO) = some u from z)), (fun b u z => nomatch (show (none : Option HO) = some u from z))⟩
  | none =>
    have key : ∀ b u, (fun c : Addr => if c = a then some (HO.frz { cls := .type "list", data := .seq vs.toArray } (.lst (ns.map V.int))) else none) b = some u → b = a ∧ u = HO.frz { cls := .type "list", data := .seq vs.toArray } (.lst (ns.map V.int)) := by
      intro b u z
      by_cases hb : b = a
      · exact ⟨hb, (Option.some.inj ((if_pos hb).symm.trans z)).symm⟩
      · exact nomatch (if_neg hb).symm.trans z
    refine ⟨fun c => if c = a then some (.frz { cls := .type "list", data := .seq vs.toArray } (.lst (ns.map V.int))) else none, Or.inl (Or.inr ⟨{ cls := .type "list", data := .seq vs.toArray }, if_pos rfl⟩), fun b u z => ?_, fun b u z => ?_⟩
    · obtain ⟨rfl, rfl⟩ := key b u z
      exact ⟨at_, by rw [List.length_map]; exact len, vs, _, rel, at_⟩
    · obtain ⟨rfl, rfl⟩ := key b u z
      exact ⟨rfl, rfl, _, _, rfl⟩
theorem law_g {P : Program} {w : World} {K : PySem.W.Frag} {mg mb : Str → Option Value} {k : Nat} {fa a : Addr} {fd : FuncData} {x : Str} {s : Shared} {vs : List Value} {ns : List Int} (kin : K.In s.heap) (gl : s.heap.Ns mainGlobals mg) (bl : s.heap.Ns builtinsNs mb)
    (boot : ∀ x : Str, x ≠ "__name__" → mb x = bootBuiltins x) (lim : s.heap.NoLimit) (gens : s.gens = #[]) (at_ : s.heap.get? a = some { cls := .type "list", data := .seq vs.toArray }) (whole : IntsAre vs ns) (len : ns.length ≤ sizeLine) (room : RmG k callerA)
    (F : ∀ base : Heap, K.In base → base.Ns mainGlobals mg → FnG P w K mg base CX0 k fa fd [x] (spA K 1 cScr)) (bind : ∀ (s : Shared) (u : Value), BindsTo s fd ⟨[u], []⟩ [(x, u)]) :
    codeAny (model P w) callerA (.call (.ref fa) ⟨[.ref a], []⟩) (fun r s' => r = .ok (.ret (.bool true)) ∧ OldK s.heap s'.heap ∧ s'.os = s.os ∧ AllBare s'.gens) s := by
  obtain ⟨H, hS, hok, hH⟩ := seen (P := P) (w := w) kin at_ whole len
  -- what is not tracked stays in the base
  have free : ∀ {b : Addr} {o : Obj}, s.heap.get? b = some o → H b = none → (hidT s.heap H).get? b = some o := fun e n => hidT_get e n
  have bare : ∀ {b : Addr} {o : Obj} {es : Array DictEntry} {ep : Nat}, s.heap.get? b = some o → o.data = .dict es ep → H b = none := by
    intro b o es ep e d
    cases q : H b with
    | none => rfl
    | some u =>
      obtain ⟨rfl, _⟩ := hH b u q
      rw [at_] at e
      cases e
      have d' : Data.seq vs.toArray _ = Data.dict es ep := d
      cases d'
  have ns' : ∀ {b : Addr} {m : Str → Option Value}, s.heap.Ns b m → (hidT s.heap H).Ns b m := by
    rintro b m ⟨o, es, ep, e, d, r⟩
    exact ⟨o, es, ep, free e (bare e d), d, r⟩
  have kb : K.In (hidT s.heap H) := by
    intro b o e
    refine free (kin b o e) ?_
    cases q : H b with
    | none => rfl
    | some u =>
      obtain ⟨rfl, no, _⟩ := hH b u q
      rw [no] at e
      cases e
  have md : Mod K mg (hidT s.heap H) := by
    refine ⟨kb, ns' gl, ⟨mb, ns' bl, boot⟩, ?_⟩
    obtain ⟨mc, h1, h2⟩ := lim
    exact ⟨mc, ns' h1, h2⟩
  have env : Env0 P w K mg (hidT s.heap H) callerA [] s H := by
    refine ⟨rfl, md, ?_, Nat.le_of_eq (hidT_size _ _), trivial, ?_, hok, AllBare.of_eq gens⟩
    · exact fun b o e => of_hidT e
    · intro b hb
      exact nomatch hb
  have pr : spA K 1 cScr [.ref a] H (fun v _ => v = .bl true) fun _ _ _ => False := by
    refine ⟨rfl, H, [.scr ns], fun d => d = .bl true, Ex.refl H, .cons (Rep.scr hS) .nil, ⟨ns, rfl, rfl⟩, ?_⟩
    intro v I' H' d _ _ rv ed
    subst ed
    cases rv
    rfl
  refine codeAny_mono ((F _ kb (ns' gl)).go callerA [] s H ⟨[.ref a], []⟩ [.ref a] [.ref a] _ _ room env (bind s (.ref a)) (.cons rfl .nil) pr) ?_
  intro r s' h
  match r, h with
  | .error e, h => exact h.elim
  | .ok .next, h => exact h.elim
  | .ok .brk, h => exact h.elim
  | .ok .cont, h => exact h.elim
  | .ok (.ret u), h =>
    obtain ⟨v, H', os, bg, un, _, rv, ev⟩ := h
    have ev' : v = .bl true := ev
    subst ev'
    obtain rfl : u = Value.bool true := rv
    refine ⟨rfl, ?_, os, bg⟩
    refine OldK.of_keep fun b o e => ?_
    cases q : H b with
    | none =>
      refine un.keep b o e q ?_ ?_
      · intro z
        exact nomatch (show b ∈ ([] : List Addr) from z)
      · simp
    | some y =>
      obtain ⟨rfl, _, ob, xs, rfl⟩ := hH b y q
      have z2 := un.frzs b ob _ q
      obtain ⟨e1, _⟩ := hok b _ q
      obtain ⟨e2, _⟩ := (by assumption : HOk P w H' s'.heap) b _ z2
      rw [e] at e1
      cases e1
      exact e2
theorem walk_g {l : PySem.W.OpenLaw} {n k : Nat} {q : Program} {loose : List Str} {XP : (Str → Option Value) → Heap → Prop} {YP : World → Heap → Prop} {d : DefRec} {K : Params → PySem.W.Frag} {x : Str}
    (most : l.most = some n) (small : n ≤ sizeLine) (nod : d.params.defaults = []) (room : RmG k callerA) (kin : ∀ (w : World) (h : Heap), YP w h → (K w.params).In h)
    (F : ∀ (w : World) (mg : Str → Option Value) (fa : Addr) (h : Heap), (K w.params).In h → h.Ns mainGlobals mg → mg d.name = some (.ref fa) → ∃ fd : FuncData, (∀ (s : Shared) (u : Value), BindsTo s fd ⟨[u], []⟩ [(x, u)]) ∧
        ∀ base : Heap, (K w.params).In base → base.Ns mainGlobals mg → FnG l.prog w (K w.params) mg base CX0 k fa fd [x] (spA (K w.params) 1 cScr)) :
    PySem.W.WalkO q loose XP YP l.row.toRowW d [] (fun f vs => PySem.call f vs) := by
  refine Att.attach_call most nod ?_
  intro w s0 s1 mg mb fa o pm cd doc a vs ns G Y ho hd hcd hmg hobj hints hlen hg
  have kx := kin w _ Y
  obtain ⟨fd, hb, hF⟩ := F w mg fa _ kx G.T.g hmg
  exact law_g kx G.T.g G.T.b G.T.builtins G.T.nolimit hg hobj hints (Nat.le_trans hlen small) room hF hb
end DL
namespace DL
open PySem L2 PySem.Spec PyProof.Rows
/-! ### what stands behind the top -/
section
variable {K : PySem.W.Frag} {h : Heap} {mg : Str → Option Value} {x qual : Str} {st : Stmt} {ps : List Str} {f C O : Addr} {oc kV doc pm cd ct : Value} {od an : Option Addr} {sl : Array (Option Value)}
theorem mk_def (X : K.In h) (G : h.Ns mainGlobals mg) (a : PySem.W.nsIn K mainGlobals x = some (some (.ref f)))
    (l : K.lookup f = some ⟨oc, od, .func (PySem.W.fnOf x x (defArgs st) (defBody st) (defScope st) .none kV doc pm an cd ct), sl⟩) (c : PySem.W.codeIn K cd x = true) (k : PySem.W.keepIn K (.ref f) = true)
    (b : ∀ (kV doc pm : Value) (an : Option Addr) (cdv ct : Value) (us : List Value), us.length = ps.length → bindArgs (PySem.W.fnOf x x (defArgs st) (defBody st) (defScope st) .none kV doc pm an cdv ct) ⟨us, []⟩ = pure (ps.zip us)) : DefAt K mg x st ps :=
  ⟨f, _, fun_mk l c k, PySem.W.mg_of X G a, .all (b kV doc pm an cd ct)⟩
theorem mk_law (X : K.In h) (G : h.Ns mainGlobals mg) (hfa : mg x = some (.ref C)) (a : PySem.W.nsIn K mainGlobals x = some (some (.ref f)))
    (l : K.lookup f = some ⟨oc, od, .func (PySem.W.fnOf x x (defArgs st) (defBody st) (defScope st) .none kV doc pm an cd ct), sl⟩) (c : PySem.W.codeIn K cd x = true) (k : PySem.W.keepIn K (.ref f) = true) :
    Fun K x x st C (PySem.W.fnOf x x (defArgs st) (defBody st) (defScope st) .none kV doc pm an cd ct) := by
  have e := hfa.symm.trans (PySem.W.mg_of X G a)
  cases e
  exact fun_mk l c k
theorem mk_none (X : K.In h) (G : h.Ns mainGlobals mg) (e : PySem.W.nsIn K mainGlobals x = some none) : mg x = none := PySem.W.mg_none_of X G e
theorem mk_some (X : K.In h) (G : h.Ns mainGlobals mg) (e : PySem.W.nsIn K mainGlobals x = some (some (.ref C))) : mg x = some (.ref C) := PySem.W.mg_of X G e
theorem mk_na (X : K.In h) (e : PySem.W.findIn K (.ref C) x = some none) : PySem.W.findIn K (.ref C) x = some none := e
abbrev veBm (O : Addr) : List Value := [.ref O, .type "ValueError", .type "Exception", .type "BaseException", .type "object"]
theorem mk_xcls {nm q : Str} {N : Addr} {bs : List Value} {sn : List Str} {sub : List Value} {ab : Bool} {col : Option Bool} {dd : Option Addr} {k0 k1 k2 k3 k5 : Option Value} (X : K.In h) (l : K.lookup C = some (excClassObj nm q C N bs (veBm O) true sn sub ab col dd k0 k1 k2 k3 k5 "ValueError.__new__"))
    (sa : PySem.W.findIn K (.ref C) "__setattr__" = some (some (.builtin "object.__setattr__"))) (kc : PySem.W.keepIn K (.ref C) = true)
    (ga : PySem.W.findIn K (.ref C) "__getattribute__" = some (some (.builtin "BaseException.__getattribute__"))) (gt : PySem.W.findIn K (.ref C) "__getattr__" = some none) (ca : PySem.W.findIn K (.ref C) "__class__" = some (some (.builtin "object.__class__")))
    (ng : PySem.W.specialIn K (.builtin "object.__class__") "__get__" = some (some (.builtin "getset_descriptor.__get__"))) (tk : PySem.W.takesIn K (.builtin "object.__class__") = some true) : XCls K O C := by
  have hc : PySem.W.clsIn K C = some { name := nm, bases := bs, mro := .ref C :: veBm O, ns := N, qualname := q, hasDict := true, slotNames := sn, subclasses := sub, abstract := ab, collection := col, hasDel := false } := by
    unfold PySem.W.clsIn
    rw [l]
  have mr : ∀ v : Value, PySem.W.mroIn K C v = some ((Value.ref C :: veBm O).contains v) := fun v => by
    unfold PySem.W.mroIn
    rw [hc, Option.bind_some, if_neg (by simp)]
  have ty : PySem.W.typeIn K (.ref C) = some (.type "type") := by
    show (K.lookup C).map (·.cls) = _
    rw [l]; rfl
  have e1 : (Value.ref C :: veBm O).contains (.type "BaseException") = true := by simp
  have e2 : (Value.ref C :: veBm O).contains (.type "object") = true := by simp
  refine ⟨⟨⟨nm, q, N, bs, veBm O, sn, sub, ab, col, dd, k0, k1, k2, k3, k5, l, ?_⟩, sa, ?_, ty, kc⟩, by rw [hc]; rfl, ?_, ga, gt, ca, ng, tk, by rw [mr, e2], _, hc, rfl⟩
  · show ((veBm O).tail == PySem.HandSPX.veTail) = true
    exact beq_self_eq_true _
  · show PySem.W.mroIn K C (.type "BaseException") = _
    rw [mr, e1]
  · unfold PySem.W.hasDictIn
    rw [hc]; rfl
theorem mk_xat (X : K.In h) (G : h.Ns mainGlobals mg) (xc : XCls K O C) (a : PySem.W.nsIn K mainGlobals x = some (some (.ref C))) (i : PySem.W.findIn K (.ref C) "__init__" = some (some (.ref f))) (t : PySem.W.typeIn K (.ref f) = some (.type "function"))
    (l : K.lookup f = some ⟨oc, od, .func (PySem.W.fnOf "__init__" qual (defArgs st) (defBody st) (defScope st) .none kV doc pm an cd ct), sl⟩) (c : PySem.W.codeIn K cd qual = true) (k : PySem.W.keepIn K (.ref f) = true) : XAt K mg x C qual st :=
  ⟨f, _, fun_mk l c k, xc.ox, i, t, PySem.W.mg_of X G a⟩
theorem allQ {α : Type} {P : α → Prop} {y : α} {l : List α} (h : P y) (t : ∀ x ∈ l, P x) : ∀ x ∈ y :: l, P x := fun x hx => by
  rcases List.mem_cons.mp hx with z | z
  · rw [z]; exact h
  · exact t x z
theorem allQn {α : Type} {P : α → Prop} : ∀ x ∈ ([] : List α), P x := fun _ h => nomatch h
end
end DL
namespace DL
open PySem L2 PySem.Spec PyProof.Rows
section
variable {K : PySem.W.Frag} {h : Heap} {C : Addr} {bm : List Value} {z : String}
theorem mk_sp (X : K.In h) (e : PySem.W.specialIn K (.builtin "object.__class__") "__get__" = some (some (.builtin "getset_descriptor.__get__"))) : PySem.W.specialIn K (.builtin "object.__class__") "__get__" = some (some (.builtin "getset_descriptor.__get__")) := e
theorem mk_tk (X : K.In h) (e : PySem.W.takesIn K (.builtin "object.__class__") = some true) : PySem.W.takesIn K (.builtin "object.__class__") = some true := e
theorem mk_oc (X : K.In h) (e : PySem.W.isClsIn K C = true) : (PySem.W.clsIn K C).isSome = true := e
theorem mk_ot (X : K.In h) (e : PySem.W.typeIn K (.ref C) = some (.type "type")) : PySem.W.typeIn K (.ref C) = some (.type "type") := e
theorem mk_kp (X : K.In h) (e : PySem.W.keepIn K (.ref C) = true) : PySem.W.keepIn K (.ref C) = true := e
theorem mk_ex (X : K.In h) (e : PySem.W.excIn K C bm z = true) : PySem.W.excIn K C bm z = true := e
end
end DL
namespace DL
open PySem L2 PySem.Spec PyProof.Rows
theorem mk_fin {P : Program} {w : World} {K : PySem.W.Frag} {mg : Str → Option Value} {k : Nat} {f : Addr} {fd : FuncData} {x y : Str} {st : Stmt} (F : Fun K x x st f fd) (hb : ∀ (s : Shared) (u : Value), BindsTo s fd ⟨[u], []⟩ [(y, u)])
    (h : ∀ base : Heap, K.In base → base.Ns mainGlobals mg → FnG P w K mg base CX0 k f fd [y] (spA K 1 cScr)) : ∃ fd : FuncData, (∀ (s : Shared) (u : Value), BindsTo s fd ⟨[u], []⟩ [(y, u)]) ∧ ∀ base : Heap, K.In base → base.Ns mainGlobals mg → FnG P w K mg base CX0 k f fd [y] (spA K 1 cScr) := ⟨fd, hb, h⟩
end DL
namespace DL
open PySem L2
/-! ### an object's own __len__, __contains__, __eq__ -/
theorem RmG.in1 {k : Nat} {A : Around} (h : RmG (k + 1) A) : RmG k A.in1 := { r := h.r.in1, g := h.g }
section
variable {X : Cx} {CX : CXT} {k j : Nat} {f C a dx : Addr} {fd : FuncData} {ps : List Str} {sp : Sp} {E : XK} {x m : Str}
theorem go_at {A : Around} {pins : List (Addr × Obj)} {σ : St} {H : Hp} {s : Shared} {Q : VK} {us : List Value} {vs : List V} (F : FnG X.prog X.w X.K X.mg X.base CX k f fd ps sp) (hr : RmG k A) (he : Env0 X.prog X.w X.K X.mg X.base A X.stack s H) (hb : Binds X.K fd ps []) (hx : Passes CX X E)
    (I : Inv X pins σ H s) (r : Vals vs us) (h : sp vs H Q E) : wpAny (model X.prog X.w) A (call (.ref f) us) (EP X pins σ Q) X.xe s := by
  have hl : us.length = ps.length := r.length.symm.trans (F.len _ _ _ _ h)
  have hb' : BindsTo s fd ⟨us, []⟩ (ps.zip us) := by
    have z := hb s us I.kIn (by rw [List.append_nil]; exact hl)
    rw [List.append_nil] at z
    exact z
  refine wpAny_call (codeAny_mono (F.go A X.stack s H ⟨us, []⟩ us vs Q E hr he hb' r h) ?_)
  intro res s' hq
  match res, hq with
  | .error er, hq => exact hx pins σ H s er s' I hq
  | .ok (.ret u), hq => exact I.after hq
  | .ok .next, hq => exact hq.elim
  | .ok .brk, hq => exact hq.elim
  | .ok .cont, hq => exact hq.elim
/-- len(o) -/
def rLenO (C : Addr) (sp : Sp) : List V → Hp → VK → Prop := fun xs H Q => ∃ a dx fs, xs = [.ref a] ∧ H a = some (.ins C dx fs) ∧ sp [.ref a] H (fun v H2 => ∃ n : Int, v = .int n ∧ 0 ≤ n ∧ n < 2 ^ 63 ∧ Q (.int n) H2) E0
theorem call_lenO (c : MetG X.prog X.w X.K X.mg X.base CX0 k C "__len__" sp) (hr : RmG (j + 1) X.A) (hk : k ≤ j) (hx : Passes CX0 X E0) : CallR X (.builtin "len") (rLenO C sp) := by
  intro pins s σ H xs us Q I r h
  obtain ⟨f, fd, ps, cl, me, F, b⟩ := c.ex
  obtain ⟨a, dx, fs, rfl, ea, q⟩ := h
  cases r with
  | cons rx rr =>
    cases rr
    cases (show _ = Value.ref a from rx)
    obtain ⟨mA, O, _⟩ := ins_get I.hok ea
    obtain ⟨od, J, _⟩ := O.look
    obtain ⟨m, fr⟩ := I.fr
    refine PySem.W.len_K fr I.ok.mod.kin J me.at_ me.fn (wpAny_mono (go_at (us := [.ref a]) (vs := [.ref a]) F (hr.in1.mono hk) I.env0.in1 b hx I (.cons rfl .nil) q) (fun u s' z => ?_) fun _ _ z => z)
    obtain ⟨v, H', I', rv, n, rfl, h0, h1, q'⟩ := z
    obtain ⟨t, rfl⟩ := rv
    exact ⟨⟨h0, h1⟩, ⟨.int n, H', I'.tok _, ⟨_, rfl⟩, q'⟩⟩
/-- x in o -/
def rInO (C : Addr) (sp : Sp) (neg : Bool) : R2 := fun x y H Q => ∃ a dx fs, y = .ref a ∧ H a = some (.ins C dx fs) ∧ sp [.ref a, x] H (fun v H2 => ∃ b : Bool, v = .bl b ∧ Q (.bl (if neg then !b else b)) H2) E0
theorem op_inO (c : MetG X.prog X.w X.K X.mg X.base CX0 k C "__contains__" sp) (hr : RmG j X.A) (hk : k ≤ j) (hx : Passes CX0 X E0) : OpR X (compareOp .In) (rInO C sp false) := by
  intro pins s σ H x y v u Q I rx ry h
  obtain ⟨f, fd, ps, cl, me, F, b⟩ := c.ex
  obtain ⟨a, dx, fs, rfl, ea, q⟩ := h
  cases (show u = Value.ref a from ry)
  obtain ⟨mA, O, _⟩ := ins_get I.hok ea
  obtain ⟨od, J, _⟩ := O.look
  obtain ⟨m, fr⟩ := I.fr
  refine PySem.W.in_K fr I.ok.mod.kin J me.at_ me.fn (wpAny_mono (go_at (us := [.ref a, v]) (vs := [.ref a, x]) F (hr.mono hk) I.env0 b hx I (.cons rfl (.cons rx .nil)) q) (fun w s' z => ?_) fun _ _ z => z)
  obtain ⟨v', H', I', rv, t, rfl, q'⟩ := z
  cases (show w = Value.bool t from rv)
  refine wpAny_mono (wpAny_truthy_bool (b := t) ?_) (fun _ _ z => z) fun _ _ z => z
  exact ⟨.bl t, H', I', rfl, q'⟩
end
end DL
namespace DL
open PySem PySem.Spec PyProof.Rows
section
variable {M : Model} {prog : Program} {w : World} {A : Around} {E : Value → Shared → Prop} {s : Shared} {K : PySem.W.Frag} {x C f : Addr} {ox : Obj} {od : Option Obj} {v tb : Value}
theorem bound_ne {args : List Value} {Q : Option Value → Shared → Prop} (kin : K.In s.heap) (at_ : PySem.W.InstAt s.heap x ox C od) (slot : PySem.W.findIn K (.ref C) "__ne__" = some (some (.builtin "object.__ne__")))
    (h : wpAny M A (call (.builtin "object.__ne__") (.ref x :: args)) (fun v => Q (some v)) E s) : wpAny M A (callSpecialIfBound? (.ref x) "__ne__" args) Q E s := by
  have last : wpAny M A (call (.builtin "object.__ne__") ([.ref x] ++ args) >>= fun v => pure (some v)) Q E s := wpAny_bind (wpAny_mono h (fun _ _ z => wpAny_pure z) fun _ _ z => z)
  simp only [callSpecialIfBound?, bindSpecialIfBound?]
  refine wpAny_holding (wpAny_bind (wpAny_bind (wpAny_bind (at_.type.here ((PySem.W.looks_findIn kin slot).here ?_)))))
  refine wpAny_bind (wpAny_askSetting (wpAny_ite ?_))
  split
  · exact wpAny_bind (wpAny_of_eq (F.cmp_object.ne.bind _) (wpAny_pure (by exact last)))
  · exact wpAny_tryCatch (wpAny_bind (wpAny_of_eq (F.cmp_object.ne.bind _) (wpAny_pure (by exact last))))
theorem entry_ne {Q : Fin → Shared → Prop} (room : A.units < cLine) (kin : K.In s.heap) (at_ : PySem.W.InstAt s.heap x ox C od) (own : PySem.W.findIn K (.ref C) "__eq__" = some (some (.ref f))) (fn : PySem.W.isFn K (.ref f) = true)
    (h : wpAny (model prog w) A (call (.ref f) [.ref x, v]) (fun r s' => ∃ b, r = .bool b ∧ Q (.done (.ret (.bool (!b)))) s') E s) : wpAny (model prog w) A (Builtin.«object.__ne__» ⟨[.ref x, v], []⟩) Q E s := by
  have h1 : wpAny (model prog w) A (callSpecialIfBound? (.ref x) (Str.ofString "__eq__") [v]) (fun r s' => ∃ b, r = some (.bool b) ∧ Q (.done (.ret (.bool (!b)))) s') E s := by
    refine PySem.W.ifBound_K kin at_ own fn (wpAny_mono h (fun r s' z => ?_) fun _ _ z => z)
    obtain ⟨b, rfl, q⟩ := z
    exact ⟨b, rfl, q⟩
  unfold Builtin.«object.__ne__»
  repeat (first
    | with_reducible refine wpAny_cRoomFor room ?_
    | refine wpAny_bind (m := callSpecialIfBound? (.ref x) (Str.ofString "__eq__") [v]) (wpAny_mono h1 (fun r s' z => ?_) fun _ _ z => z)
    | wp_step)
  obtain ⟨b, rfl, q⟩ := z
  repeat (first | exact q | exact wpAny_pure q | (refine wpAny_bind (m := truthy (.bool _)) (wpAny_truthy_bool ?_)) | wp_step)
theorem rich_ne {Q : Value → Shared → Prop} (room : A.units + 1 < cLine) (kin : K.In s.heap) (at_ : PySem.W.InstAt s.heap x ox C od) (ty : PySem.W.Looks (model prog w) s.heap (typeOf v) tb) (nf : PySem.W.notFirst K C tb = true)
    (slot : PySem.W.findIn K (.ref C) "__ne__" = some (some (.builtin "object.__ne__"))) (ob : PySem.W.mroIn K C (.type "object") = some true) (own : PySem.W.findIn K (.ref C) "__eq__" = some (some (.ref f))) (fn : PySem.W.isFn K (.ref f) = true)
    (h : wpAny (model prog w) A.in1 (call (.ref f) [.ref x, v]) (fun r s' => ∃ b, r = .bool b ∧ Q (.bool (!b)) s') E s) : wpAny (model prog w) A (compareOp .NotEq (.ref x) v) Q E s := by
  have first_ : wpAny (model prog w) A (tryCompare (.ref x) (cmpInfo .NotEq).2.1 v) (fun r s' => ∃ y, r = some y ∧ Q y s') E s := by
    unfold tryCompare
    refine wpAny_bind (bound_ne kin at_ slot (wpAny_call (codeAny_call_builtin F.cmp_object.ne.plain F.cmpEntry_ne (PySem.W.check_slot F.cmpKind_ne F.cmpSplit_ne (at_.type.andThen (PySem.W.looks_mroIn kin ob)) (F.cmpArgs_ne _ _)
      (entry_ne (A := A.in1) room kin at_ own fn (wpAny_mono h (fun r s' z => ?_) fun _ _ z => z))))))
    obtain ⟨b, rfl, q⟩ := z
    first | exact ⟨b, rfl, wpAny_pure ⟨_, rfl, q⟩⟩ | exact ⟨b, rfl, ⟨_, rfl, q⟩⟩
  unfold compareOp richCompare
  simp only [oneThing_ref]
  refine wpAny_holding (wpAny_bind (wpAny_cRoomFor (by omega) ?_))
  refine wpAny_bind (at_.type.here (wpAny_bind (ty.here ?_)))
  have tail : wpAny (model prog w) A (tryCompare (.ref x) (cmpInfo .NotEq).2.1 v) (fun r s' => ∃ y, r = some y ∧ Q y s') E s := first_
  split
  · rename_i q
    have e : PySem.W.subIn K tb (.ref C) = some false := by
      rcases Bool.or_eq_true_iff.mp nf with e | e
      · rw [beq_iff_eq.mp e] at q
        simp at q
      · exact beq_iff_eq.mp e
    refine wpAny_bind ((PySem.W.looks_subIn kin e).here ?_)
    simp only [Bool.false_eq_true, if_false]
    refine wpAny_bind (wpAny_mono tail (fun r s' z => ?_) fun _ _ z => z)
    obtain ⟨y, rfl, q⟩ := z
    exact wpAny_pure q
  · refine wpAny_bind (wpAny_pure ?_)
    simp only [Bool.false_eq_true, if_false]
    refine wpAny_bind (wpAny_mono tail (fun r s' z => ?_) fun _ _ z => z)
    obtain ⟨y, rfl, q⟩ := z
    exact wpAny_pure q
end
end DL
namespace DL
open PySem L2
section
variable {X : Cx} {k j : Nat} {C : Addr} {sp : Sp}
/-- o == x, o != x -/
def rEqO (K : PySem.W.Frag) (C : Addr) (sp : Sp) (neg : Bool) : R2 := fun x y H Q => ∃ (a dx : Addr) (fs : List (Str × V)) (tb : Value), x = .ref a ∧ H a = some (.ins C dx fs) ∧ TyX K H y tb ∧ PySem.W.notFirst K C tb = true ∧
  sp [.ref a, y] H (fun v H2 => ∃ b : Bool, v = .bl b ∧ Q (.bl (if neg then !b else b)) H2) E0
theorem op_eqO (c : MetG X.prog X.w X.K X.mg X.base CX0 k C "__eq__" sp) (hr : RmG j X.A) (hk : k ≤ j) (hx : Passes CX0 X E0) : OpR X (compareOp .Eq) (rEqO X.K C sp false) := by
  intro pins s σ H x y v u Q I rx ry h
  obtain ⟨f, fd, ps, cl, me, F, b⟩ := c.ex
  obtain ⟨a, dx, fs, tb, rfl, ea, ty, nf, q⟩ := h
  cases (show v = Value.ref a from rx)
  obtain ⟨mA, O, _⟩ := ins_get I.hok ea
  obtain ⟨od, J, _⟩ := O.look
  obtain ⟨m, fr⟩ := I.fr
  obtain ⟨P, Z, hp, _⟩ := kit_of I ry ty
  unfold compareOp
  refine PySem.W.cmp_K (op := .Eq) hr.r.units0 fr I.ok.mod.kin J (Z.ty _ _ I.kIn hp) nf me.at_ me.fn (wpAny_mono (go_at (us := [.ref a, u]) (vs := [.ref a, y]) F (hr.mono hk) I.env0 b hx I (.cons rfl (.cons ry .nil)) q) (fun w s' z => ?_) fun _ _ z => z)
  obtain ⟨v', H', I', rv, t, rfl, q'⟩ := z
  cases (show w = Value.bool t from rv)
  exact ⟨.bl t, H', I', rfl, q'⟩
theorem op_neO (c : MetG X.prog X.w X.K X.mg X.base CX0 k C "__eq__" sp) (hr : RmG (j + 1) X.A) (hk : k ≤ j) (hx : Passes CX0 X E0) (slot : PySem.W.findIn X.K (.ref C) "__ne__" = some (some (.builtin "object.__ne__"))) (ob : PySem.W.mroIn X.K C (.type "object") = some true) :
    OpR X (compareOp .NotEq) (rEqO X.K C sp true) := by
  intro pins s σ H x y v u Q I rx ry h
  obtain ⟨f, fd, ps, cl, me, F, b⟩ := c.ex
  obtain ⟨a, dx, fs, tb, rfl, ea, ty, nf, q⟩ := h
  cases (show v = Value.ref a from rx)
  obtain ⟨mA, O, _⟩ := ins_get I.hok ea
  obtain ⟨od, J, _⟩ := O.look
  obtain ⟨P, Z, hp, _⟩ := kit_of I ry ty
  have hu := hr.r.un
  refine rich_ne (by omega) I.kIn J (Z.ty _ _ I.kIn hp) nf slot ob me.at_ me.fn (wpAny_mono (go_at (us := [.ref a, u]) (vs := [.ref a, y]) F (hr.in1.mono hk) I.env0.in1 b hx I (.cons rfl (.cons ry .nil)) q) (fun w s' z => ?_) fun _ _ z => z)
  obtain ⟨v', H', I', rv, t, rfl, q'⟩ := z
  cases (show w = Value.bool t from rv)
  exact ⟨t, rfl, ⟨.bl (!t), H', I', rfl, q'⟩⟩
end
end DL
namespace DL
open PySem PySem.Spec PyProof.Rows
section
variable {prog : Program} {w : World} {A : Around} {E : Value → Shared → Prop} {s : Shared} {K : PySem.W.Frag} {x C f : Addr} {ox : Obj} {od : Option Obj}
open Builtin in
/-- str(o), o's own __str__ -/
theorem str_own {Q : Value → Shared → Prop} (room : A.units + 2 < cLine) (kin : K.In s.heap) (at_ : PySem.W.InstAt s.heap x ox C od) (own : PySem.W.findIn K (.ref C) "__str__" = some (some (.ref f))) (fn : PySem.W.isFn K (.ref f) = true)
    (h : wpAny (model prog w) A.in1.in1 (call (.ref f) [.ref x]) (PySem.W.StrBack Q) E s) : wpAny (model prog w) A (call (.type "str") [.ref x]) Q E s := by
  have text : wpAny (model prog w) A.in1.in1 (PySem.Builtin.Str.strOf (.ref x)) (fun r s₁ => ∃ y u, r = .str y u ∧ Q r s₁) E s := by
    unfold PySem.Builtin.Str.strOf
    rw [show PySem.Builtin.Str.isExactStr (.ref x) = false from rfl]
    refine wpAny_bind (m := cRoomFor _ _) (wpAny_cRoomFor (by show A.units + 2 < cLine; exact room) ?_)
    refine wpAny_bind (m := callSpecial? (.ref x) (Str.ofString "__str__")) (PySem.W.special_fn kin at_ own (beq_iff_eq.mp fn) (wpAny_mono h (fun r s' z => ?_) fun _ _ z => z))
    cases r <;> first
      | exact z.elim
      | (refine wpAny_bind (wpAny_isInstance (typeIs_str _ _ _) isSubtype_str_str ?_)
         first
           | exact wpAny_pure ⟨_, _, rfl, z⟩
           | (rw [if_pos rfl]; exact wpAny_pure ⟨_, _, rfl, z⟩)
           | (simp only [if_true]; exact wpAny_pure ⟨_, _, rfl, z⟩))
      | exact wpAny_pure ⟨_, _, rfl, z⟩
  refine callType_codes (T := "str") (Bi := Builtin.«object.__init__») (Q₁ := fun r s₁ => ∃ y u, r = .str y u ∧ Q r s₁) PySem.F.called_str (PySem.F.typeCall_str_1 _) PySem.F.entry_object_init (codeAny_of_tree ?_) ?_
  · show wpAny _ A.in1.in1 (do
        checkBuiltinCall "str.__new__" ⟨[.type "str", .ref x], []⟩
        again (.builtin "str.__new__" ⟨[.type "str", .ref x], []⟩)) _ _ s
    refine wpAny_bind (wpAny_of_eq (PySem.F.newCall_str_1 _) (wpAny_pure ⟨plainId_quiet (by decide +kernel) _, codeAny_builtin PySem.F.entry_str_new ?_⟩))
    rw [Around.under_plainId (by decide +kernel) _, PySem.str_new_tree]
    exact wpAny_bind (wpAny_pure (wpAny_bind (wpAny_of_eq isSubtype_str_str (wpAny_bind (wpAny_mono text (fun r s₁ z => wpAny_pure z) fun _ _ z => z)))))
  · intro obj s₁ z
    obtain ⟨y, u, rfl, q⟩ := z
    refine ⟨typeIs_str _ _ _, PySem.F.args_object_init_2 _ _, ?_⟩
    exact object_init_meets PySem.F.called_str.init.lookup PySem.F.called_str.made (by decide) prog w A.in1 _ s₁ ⟨typeIs_str _ _ _, rfl, q⟩
end
end DL
namespace DL
open PySem L2
section
variable {X : Cx} {k j : Nat} {C : Addr} {sp : Sp}
/-- str(o) -/
def rStrO (C : Addr) (sp : Sp) : List V → Hp → VK → Prop := fun xs H Q => ∃ a dx fs, xs = [.ref a] ∧ H a = some (.ins C dx fs) ∧ sp [.ref a] H (fun v H2 => ∃ z : Str, v = .str z ∧ Q (.str z) H2) E0
theorem call_strO (c : MetG X.prog X.w X.K X.mg X.base CX0 k C "__str__" sp) (hr : RmG (j + 2) X.A) (hk : k ≤ j) (hx : Passes CX0 X E0) : CallR X (.type "str") (rStrO C sp) := by
  intro pins s σ H xs us Q I r h
  obtain ⟨f, fd, ps, cl, me, F, b⟩ := c.ex
  obtain ⟨a, dx, fs, rfl, ea, q⟩ := h
  cases r with
  | cons rx rr =>
    cases rr
    cases (show _ = Value.ref a from rx)
    obtain ⟨mA, O, _⟩ := ins_get I.hok ea
    obtain ⟨od, J, _⟩ := O.look
    have hu := hr.r.un
    refine str_own (by omega) I.kIn J me.at_ me.fn (wpAny_mono (go_at (us := [.ref a]) (vs := [.ref a]) F (hr.in1.in1.mono hk) I.env0.in1.in1 b hx I (.cons rfl .nil) q) (fun u s' z => ?_) fun _ _ z => z)
    obtain ⟨v, H', I', rv, y, rfl, q'⟩ := z
    obtain ⟨t, rfl⟩ := rv
    exact ⟨.str y, H', I', ⟨_, rfl⟩, q'⟩
end
end DL
namespace DL
open PySem L2
/-! ### an object's own len, in, ==, != and str, over the worth -/
section
variable {K : PySem.W.Frag} {δ : List SK} {μ : Mu} {Q : SK → Mu → Prop} {n : Nat} {C : Addr} {Cn : CA} {fs : List (Str × Da)}
/-- a promise from data to data, used: what comes of it is a value that no object bears -/
theorem use_flat {Lc : Addr → Prop} {I H : Hp} {σ : St} {F : List Addr} {vs : List V} {ds : List Da} {QQ : VK} {g : V → VK → Hp → Prop} (s : Sta K Lc I H σ δ μ F) (r : RepL K I vs ds) (hl : ds.length = n) {R : Da → Prop} (c : Cn ds R) {W : VK}
    (k : ∀ v I2 H2 d, Step [] I H I2 H2 → Sta K Lc I2 H2 σ δ μ F → Rep K I2 v d → R d → W v H2) : spA K n Cn vs H W E0 :=
  ⟨by rw [repl_len r, hl], I, ds, R, s.ih, r, c, fun v I2 H2 d st e rv q => k v I2 H2 d st (s.grow st (fun x hx => nomatch hx) e) rv q⟩
theorem len_o (c : Cn [.obj C fs] fun d => ∃ i : Int, d = .int i ∧ 0 ≤ i ∧ i < 2 ^ 63 ∧ Q (.dat (.int i)) μ) : RC K (rLenO C (spA K 1 Cn)) [.dat (.obj C fs)] δ μ Q := fun Lc I H σ F s vs a QQ p => by
  cases vs with
  | nil => cases a
  | cons v ws =>
    cases a with
    | cons x y =>
      cases ws with
      | cons _ _ => cases y
      | nil =>
        cases x with
        | obj ho hf =>
          refine ⟨_, _, _, rfl, s.ih _ _ ho, ?_⟩
          refine use_flat (QQ := QQ) (g := fun _ _ _ => True) s (.cons (Rep.obj ho hf) .nil) rfl c fun v I2 H2 d st s2 rv q => ?_
          obtain ⟨i, rfl, h0, h1, q⟩ := q
          cases rv
          exact ⟨i, rfl, h0, h1, p (.int i) I2 H2 (.dat (.int i)) μ F (st.wide fun x hx => nomatch hx) (fun x hx => .inl hx) s2 (Rep.int i) q⟩
theorem str_o (c : Cn [.obj C fs] fun d => ∃ z : Str, d = .str z ∧ Q (.dat (.str z)) μ) : RC K (rStrO C (spA K 1 Cn)) [.dat (.obj C fs)] δ μ Q := fun Lc I H σ F s vs a QQ p => by
  cases vs with
  | nil => cases a
  | cons v ws =>
    cases a with
    | cons x y =>
      cases ws with
      | cons _ _ => cases y
      | nil =>
        cases x with
        | obj ho hf =>
          refine ⟨_, _, _, rfl, s.ih _ _ ho, ?_⟩
          refine use_flat (QQ := QQ) (g := fun _ _ _ => True) s (.cons (Rep.obj ho hf) .nil) rfl c fun v I2 H2 d st s2 rv q => ?_
          obtain ⟨i, rfl, q⟩ := q
          cases rv
          exact ⟨i, rfl, p (.str i) I2 H2 (.dat (.str i)) μ F (st.wide fun x hx => nomatch hx) (fun x hx => .inl hx) s2 (Rep.str i) q⟩
theorem in_o {d0 : Da} {neg : Bool} (c : Cn [.obj C fs, d0] fun d => ∃ b : Bool, d = .bl b ∧ Q (.dat (.bl (if neg then !b else b))) μ) : RR K (rInO C (spA K 2 Cn) neg) (.dat d0) (.dat (.obj C fs)) δ μ Q := fun Lc I H σ F s v w ox oy QQ p => by
  cases oy with
  | obj ho hf =>
    refine ⟨_, _, _, rfl, s.ih _ _ ho, ?_⟩
    refine use_flat (QQ := QQ) (g := fun _ _ _ => True) s (.cons (Rep.obj ho hf) (.cons ox .nil)) rfl c fun v I2 H2 d st s2 rv q => ?_
    obtain ⟨b, rfl, q⟩ := q
    cases rv
    exact ⟨b, rfl, p (.bl _) I2 H2 (.dat (.bl _)) μ F (st.wide fun x hx => nomatch hx) (fun x hx => .inl hx) s2 (Rep.bl _) q⟩
/-- the class of a value, told by its worth -/
def TyD (K : PySem.W.Frag) (d : Da) (tb : Value) : Prop := ∀ {I H : Hp} {v : V}, Ex I H → Rep K I v d → TyX K H v tb
theorem tyd_non : TyD K .non (.type "NoneType") := fun e r => by cases r; exact .base .non
theorem tyd_int {i : Int} : TyD K (.int i) (.type "int") := fun e r => by cases r; exact .base (.int _)
theorem tyd_bl {i : Bool} : TyD K (.bl i) (.type "bool") := fun e r => by cases r; exact .base (.bl _)
theorem tyd_str {i : Str} : TyD K (.str i) (.type "str") := fun e r => by cases r; exact .base (.str _)
theorem eq_o {d0 : Da} {neg : Bool} {tb : Value} (ty : TyD K d0 tb) (nf : PySem.W.notFirst K C tb = true) (c : Cn [.obj C fs, d0] fun d => ∃ b : Bool, d = .bl b ∧ Q (.dat (.bl (if neg then !b else b))) μ) : RR K (rEqO K C (spA K 2 Cn) neg) (.dat (.obj C fs)) (.dat d0) δ μ Q := fun Lc I H σ F s v w ox oy QQ p => by
  cases ox with
  | obj ho hf =>
    refine ⟨_, _, _, tb, rfl, s.ih _ _ ho, ty s.ih oy, nf, ?_⟩
    refine use_flat (QQ := QQ) (g := fun _ _ _ => True) s (.cons (Rep.obj ho hf) (.cons oy .nil)) rfl c fun v I2 H2 d st s2 rv q => ?_
    obtain ⟨b, rfl, q⟩ := q
    cases rv
    exact ⟨b, rfl, p (.bl _) I2 H2 (.dat (.bl _)) μ F (st.wide fun x hx => nomatch hx) (fun x hx => .inl hx) s2 (Rep.bl _) q⟩
end
end DL
namespace DL
open PySem L2
theorem tyd_of {K : PySem.W.Frag} {d : Da} {n : String} (h : tyN d = some n) : TyD K d (.type n) := fun e r => rep_ty r e h
theorem tyd_obj {K : PySem.W.Frag} {C : Addr} {fs : List (Str × Da)} (cl : Cls K C) (ha : PySem.W.findIn K (.ref C) "__class__" = some (some (.builtin "object.__class__"))) (hn : PySem.W.specialIn K (.builtin "object.__class__") "__get__" = some (some (.builtin "getset_descriptor.__get__")))
    (htk : PySem.W.takesIn K (.builtin "object.__class__") = some true) (hm : PySem.W.mroIn K C (.type "object") = some true) : TyD K (.obj C fs) (.ref C) := fun e r => by
  cases r with
  | obj ho hf => exact .base (.ins (e _ _ ho) cl ha hn htk hm)
end DL
namespace DL
open PySem L2
theorem pe_gcv {X : Cx} {x : Str} {pos : Pos} {v : V} (hg : Gl X x) (h : ∃ u, X.mg x = some u ∧ RelV v u) (hd : (x == ("__debug__" : Str)) = false := by decide) : PE X (.Name x pos) (tC v) := by
  obtain ⟨u, hm, r⟩ := h
  exact pe_glob hg hm r hd
theorem repl_txts {K : PySem.W.Frag} {I : Hp} : ∀ l : List Str, RepL K I (l.map V.str) (txts l)
  | [] => .nil
  | x :: l => .cons (.str x) (repl_txts l)
/-- a constant of the module that is a tuple of texts -/
def tK (a : Addr) : TE := tC (.ref a)
theorem pe_ktup {X : Cx} {x : Str} {pos : Pos} {a : Addr} (hg : Gl X x) (hm : X.mg x = some (.ref a)) (hd : (x == ("__debug__" : Str)) = false := by decide) : PE X (.Name x pos) (tK a) := pe_glob (v := V.ref a) hg hm rfl hd
theorem rd_ktup {K : PySem.W.Frag} {δ : List SK} {μ : Mu} {Q : SK → Mu → Prop} {a : Addr} {l : List Str} (h : ∀ H : Hp, SqT K H a (l.map V.str)) (q : Q (.dat (.tup (txts l))) μ) : RD K (tK a) δ μ Q := fun Lc I H σ F s QQ p =>
  p.now (v := .ref a) (r := .dat (.tup (txts l))) s (Rep.tup (h I) (repl_txts l)) q
end DL
namespace DL
open PySem L2
abbrev rSplit : V → List V → Hp → VK → Prop := fun x xs H Q => ∃ a b, x = .str a ∧ xs = [.str b] ∧ (b.length == 0) = false ∧ a.length + 2 ≤ sizeLine ∧ rNewStrs (Txt.split a b) H Q
abbrev rJoin (K : PySem.W.Frag) : V → List V → Hp → VK → Prop := fun x xs H Q => ∃ a p, ∃ ys : List Str, x = .str a ∧ xs = [.ref p] ∧ (SqL K H p (ys.map V.str) ∨ SqT K H p (ys.map V.str)) ∧ (ys.map (·.length)).sum + ys.length * a.length ≤ 16777216 ∧ Q (.str (Txt.join a ys)) H
end DL
namespace DL
open PySem L2
/-! ### dicts that still change: of data (md), of objects that still change (mo) -/
section
variable {K : PySem.W.Frag} {δ : List SK} {μ : Mu} {Q : SK → Mu → Prop} {E : DE} {te : TE} {a : Addr} {i : Nat} {fl : Bool} {z : Str}
/-- {} -/
theorem dct_o (q : ∀ a, Q (.own a) ((a, MK.md [], true) :: μ)) : RD K tDNewK δ μ Q := fun Lc I H σ F s QQ p a ha => by
  refine p (.ref a) I (upd H a (.dK [])) (.own a) ((a, MK.md [], true) :: μ) (a :: F) (Step.fresh ha) (fun x hx => ?_) (s.newO ha ⟨rfl, [], upd_same, .nil⟩) rfl (q a)
  rcases List.mem_cons.mp hx with z | z
  · rw [z]; exact .inr ha
  · exact .inl z
theorem dct_om (q : ∀ a, Q (.own a) ((a, MK.mo [], true) :: μ)) : RD K tDNewK δ μ Q := fun Lc I H σ F s QQ p a ha => by
  refine p (.ref a) I (upd H a (.dK [])) (.own a) ((a, MK.mo [], true) :: μ) (a :: F) (Step.fresh ha) (fun x hx => ?_) (s.newO ha ⟨rfl, upd_same⟩) rfl (q a)
  rcases List.mem_cons.mp hx with z | z
  · rw [z]; exact .inr ha
  · exact .inl z
theorem refs_val : ∀ {refs : List (Str × Addr)}, (valV (refsK refs) (Sum.inr z : Key)) = (refs.lookup z).map V.ref
  | [] => rfl
  | (g, b) :: t => by
    have ih := refs_val (refs := t)
    by_cases h : g = z
    · subst h
      simp [refsK, valV, List.lookup]
    · have h1 : ¬ (Sum.inr g : Key) = Sum.inr z := fun q => h (Sum.inr.inj q)
      have h2 : (z == g) = false := by simpa using fun q : z = g => h q.symm
      simp only [List.lookup, h2]
      rw [← ih]
      simp [refsK, valV, h1]
/-- z in d -/
theorem in_md {ds : List (Str × Da)} (hi : μ[i]? = some (a, MK.md ds, fl)) (q : Q (.dat (.bl (ds.lookup z).isSome)) μ) : RR K (rIN K) (.dat (.str z)) (.own a) δ μ Q := rr_or2 (rr_or2 (rr_or1 fun Lc I H σ F s v w x y QQ p => by
  cases x
  have e : w = .ref a := y
  subst e
  obtain ⟨Fi, m, _⟩ := s.mu.at hi
  obtain ⟨_, xs, hx, r⟩ := m
  refine ⟨_, _, rfl, DGet.k (k := Sum.inr z) hx, ?_⟩
  rw [repK_val r]
  exact p.now (v := .bl _) (r := .dat (.bl _)) s (Rep.bl _) q))
theorem in_mo {refs : List (Str × Addr)} (hi : μ[i]? = some (a, MK.mo refs, fl)) (q : Q (.dat (.bl (refs.lookup z).isSome)) μ) : RR K (rIN K) (.dat (.str z)) (.own a) δ μ Q := rr_or2 (rr_or2 (rr_or1 fun Lc I H σ F s v w x y QQ p => by
  cases x
  have e : w = .ref a := y
  subst e
  obtain ⟨Fi, m, _⟩ := s.mu.at hi
  obtain ⟨_, hx⟩ := m
  refine ⟨_, _, rfl, DGet.k (k := Sum.inr z) hx, ?_⟩
  rw [refs_val, Option.isSome_map]
  exact p.now (v := .bl _) (r := .dat (.bl _)) s (Rep.bl _) q))
/-- len(d) -/
theorem len_md {ds : List (Str × Da)} (hi : μ[i]? = some (a, MK.md ds, fl)) (q : Q (.dat (.int ds.length)) μ) : RC K (rLEN K) [.own a] δ μ Q := rc_or2 fun Lc I H σ F s vs x QQ p => by
  obtain ⟨v, rfl, ov⟩ := vals1 x
  have e : v = .ref a := ov
  subst e
  obtain ⟨Fi, m, _⟩ := s.mu.at hi
  obtain ⟨_, xs, hx, r⟩ := m
  refine ⟨_, _, rfl, hx, ?_⟩
  rw [repK_len r]
  exact p.now (v := .int _) (r := .dat (.int _)) s (Rep.int _) q
theorem len_mo {refs : List (Str × Addr)} (hi : μ[i]? = some (a, MK.mo refs, fl)) (q : Q (.dat (.int refs.length)) μ) : RC K (rLEN K) [.own a] δ μ Q := rc_or2 fun Lc I H σ F s vs x QQ p => by
  obtain ⟨v, rfl, ov⟩ := vals1 x
  have e : v = .ref a := ov
  subst e
  obtain ⟨Fi, m, _⟩ := s.mu.at hi
  obtain ⟨_, hx⟩ := m
  refine ⟨_, _, rfl, hx, ?_⟩
  rw [refsK, List.length_map]
  exact p.now (v := .int _) (r := .dat (.int _)) s (Rep.int _) q
/-- d[z], an object that still changes -/
theorem ix_mo {refs : List (Str × Addr)} {b : Addr} (hi : μ[i]? = some (a, MK.mo refs, fl)) (h : refs.lookup z = some b) (q : Q (.own b) μ) : RR K (rIX K) (.own a) (.dat (.str z)) δ μ Q := rr_or2 fun Lc I H σ F s v w x y QQ p => by
  cases y
  have e : v = .ref a := x
  subst e
  obtain ⟨Fi, m, _⟩ := s.mu.at hi
  obtain ⟨_, hx⟩ := m
  refine ⟨_, .ref b, rfl, ?_, p.now (v := .ref b) (r := .own b) s rfl q⟩
  have g := DGet.k (k := (Sum.inr z : Key)) hx
  rw [refs_val, h] at g
  exact g
end
end DL
namespace DL
open PySem L2
def putD (ds : List (Str × Da)) (z : Str) (d : Da) : List (Str × Da) := if (ds.lookup z).isSome then ds.map (fun p => if p.1 = z then (p.1, d) else p) else ds ++ [(z, d)]
end DL
namespace DL
open PySem L2
section
variable {K : PySem.W.Frag} {δ : List SK} {μ : Mu} {Q : SK → Mu → Prop} {E : DE} {te to ti : TE} {z : Str}
theorem repK_any {I : Hp} : ∀ {kvs : List (Key × V)} {ds : List (Str × Da)}, RepK K I kvs ds → (kvs.any fun kv => decide (kv.1 = (Sum.inr z : Key))) = (ds.lookup z).isSome
  | _, _, .nil => rfl
  | _, _, .cons (f := g) r t => by
    have ih := repK_any t
    by_cases h : g = z
    · subst h
      simp [List.lookup]
    · have h2 : (z == g) = false := by simpa using fun q : z = g => h q.symm
      simp only [List.any_cons, List.lookup, h2, ih]
      have h1 : ¬ (Sum.inr g : Key) = Sum.inr z := fun q => h (Sum.inr.inj q)
      simp [h1]
theorem repK_map {I : Hp} {v : V} {d : Da} (rv : Rep K I v d) : ∀ {kvs : List (Key × V)} {ds : List (Str × Da)}, RepK K I kvs ds → RepK K I (kvs.map fun kv => if kv.1 = (Sum.inr z : Key) then (kv.1, v) else kv) (ds.map fun p => if p.1 = z then (p.1, d) else p)
  | _, _, .nil => .nil
  | _, _, .cons (f := g) (v := v0) (d := d0) r t => by
    have ih := repK_map rv t
    by_cases h : g = z
    · have h1 : (Sum.inr g : Key) = Sum.inr z := by rw [h]
      simp only [List.map_cons, h1, h, if_true]
      rw [← h]
      exact .cons rv (by rw [h]; exact ih)
    · have h1 : ¬ (Sum.inr g : Key) = Sum.inr z := fun q => h (Sum.inr.inj q)
      simp only [List.map_cons, h1, h, if_false]
      exact .cons r ih
theorem repK_app {I : Hp} {v : V} {d : Da} (rv : Rep K I v d) : ∀ {kvs : List (Key × V)} {ds : List (Str × Da)}, RepK K I kvs ds → RepK K I (kvs ++ [(Sum.inr z, v)]) (ds ++ [(z, d)])
  | _, _, .nil => .cons rv .nil
  | _, _, .cons r t => .cons r (repK_app rv t)
theorem repK_put {I : Hp} {v : V} {d : Da} (rv : Rep K I v d) {kvs : List (Key × V)} {ds : List (Str × Da)} (r : RepK K I kvs ds) : RepK K I (putK kvs (Sum.inr z : Key) v) (putD ds z d) := by
  unfold putK putD
  rw [repK_any r]
  by_cases h : (ds.lookup z).isSome = true
  · rw [if_pos h, if_pos h]
    exact repK_map rv r
  · rw [if_neg h, if_neg h]
    exact repK_app rv r
/-- d[z] = e, d a dict of data that still changes -/
theorem rs_md (h : RD K te δ μ fun r μ1 => ∃ d : Da, r = .dat d ∧ RD K to δ μ1 fun ro μ2 => RD K ti δ μ2 fun rz μ3 => ∃ (a : Addr) (z : Str) (i : Nat) (ds : List (Str × Da)) (fl : Bool), ro = .own a ∧ rz = .dat (.str z) ∧ μ3[i]? = some (a, MK.md ds, fl) ∧ ds.length ≤ 100000 ∧ E.nx δ (μ3.set i (a, MK.md (putD ds z d), fl))) :
    RS K (tAsg te (gSub to ti rSetD)) δ μ E := fun I0 H0 F0 Ib I H σ F at_ D e =>
  h _ I H σ F at_.s _ fun w I1 H1 r μ1 F1 st f s1 ok ⟨d, er, h2⟩ => by
    subst er
    have a1 := at_.on st f s1
    refine h2 _ I1 H1 σ F1 s1 _ fun o I2 H2 ro μ2 F2 st2 f2 s2 ok2 h3 => ?_
    have a2 := a1.on st2 f2 s2
    refine h3 _ I2 H2 σ F2 s2 _ fun x I3 H3 rz μ3 F3 st3 f3 s3 ok3 ⟨a, z, i, ds, fl, eo, ez, hi, hl, q⟩ => ?_
    have a3 := a2.on st3 f3 s3
    subst eo
    subst ez
    cases ok3
    have e0 : o = .ref a := ok2
    subst e0
    obtain ⟨Fi, m, _⟩ := s3.mu.at hi
    obtain ⟨_, xs, hx, r⟩ := id m
    have hlen : xs.length < sizeLine := Nat.lt_of_le_of_lt (Nat.le_trans (Nat.le_of_eq (repK_len r)) hl) (by decide)

    refine ⟨a, _, rfl, DPut.k (k := (Sum.inr z : Key)) (v := w) hx hlen, ?_⟩
    have rw3 : Rep K I3 w d := Rep.mono (st2.ii.trans st3.ii) ok
    obtain ⟨s4, st4⟩ := put_after (o := .dK (putK xs (Sum.inr z : Key) w)) (k' := MK.md (putD ds z d)) s3 hi fun {Fi} m' => by
      obtain ⟨e1, ys, hy, ry⟩ := m'
      rw [hx] at hy
      cases hy
      exact ⟨e1, _, upd_same, repK_put rw3 ry⟩
    exact e.nx I3 _ σ δ _ F3 (a3.on st4 (fun x hx => .inl hx) s4) q
theorem refs_any : ∀ {refs : List (Str × Addr)}, ((refsK refs).any fun kv => decide (kv.1 = (Sum.inr z : Key))) = (refs.lookup z).isSome
  | [] => rfl
  | (g, b) :: t => by
    have ih := refs_any (refs := t)
    by_cases h : g = z
    · subst h
      simp [refsK, List.lookup]
    · have h2 : (z == g) = false := by simpa using fun q : z = g => h q.symm
      have h1 : ¬ (Sum.inr g : Key) = Sum.inr z := fun q => h (Sum.inr.inj q)
      simp only [List.lookup, h2]
      rw [← ih]
      simp [refsK, h1]
/-- d[z] = o, d a dict of objects that still change, z new -/
theorem rs_mo (h : RD K te δ μ fun r μ1 => ∃ b : Addr, r = .own b ∧ RD K to δ μ1 fun ro μ2 => RD K ti δ μ2 fun rz μ3 => ∃ (a : Addr) (z : Str) (i : Nat) (refs : List (Str × Addr)) (fl : Bool), ro = .own a ∧ rz = .dat (.str z) ∧ μ3[i]? = some (a, MK.mo refs, fl) ∧ refs.length ≤ 100000 ∧ refs.lookup z = none ∧ E.nx δ (μ3.set i (a, MK.mo (refs ++ [(z, b)]), fl))) :
    RS K (tAsg te (gSub to ti rSetD)) δ μ E := fun I0 H0 F0 Ib I H σ F at_ D e =>
  h _ I H σ F at_.s _ fun w I1 H1 r μ1 F1 st f s1 ok ⟨b, er, h2⟩ => by
    subst er
    have a1 := at_.on st f s1
    refine h2 _ I1 H1 σ F1 s1 _ fun o I2 H2 ro μ2 F2 st2 f2 s2 ok2 h3 => ?_
    have a2 := a1.on st2 f2 s2
    refine h3 _ I2 H2 σ F2 s2 _ fun x I3 H3 rz μ3 F3 st3 f3 s3 ok3 ⟨a, z, i, refs, fl, eo, ez, hi, hl, hn, q⟩ => ?_
    have a3 := a2.on st3 f3 s3
    subst eo
    subst ez
    cases ok3
    have e0 : o = .ref a := ok2
    subst e0
    have e1 : w = .ref b := ok
    subst e1
    obtain ⟨Fi, m, _⟩ := s3.mu.at hi
    obtain ⟨_, hx⟩ := id m
    have hlen : (refsK refs).length < sizeLine := Nat.lt_of_le_of_lt (by rw [refsK, List.length_map]; exact hl) (by decide : 100000 < sizeLine)

    refine ⟨a, _, rfl, DPut.k (k := (Sum.inr z : Key)) (v := .ref b) hx hlen, ?_⟩
    have ep : putK (refsK refs) (Sum.inr z : Key) (.ref b) = refsK (refs ++ [(z, b)]) := by
      unfold putK
      rw [refs_any, hn]
      simp [refsK]
    rw [ep]
    obtain ⟨s4, st4⟩ := put_after (o := .dK (refsK (refs ++ [(z, b)]))) (k' := MK.mo (refs ++ [(z, b)])) s3 hi fun {Fi} m' => ⟨m'.1, upd_same⟩
    exact e.nx I3 _ σ δ _ F3 (a3.on st4 (fun x hx => .inl hx) s4) q
end
end DL
namespace DL
open PySem L2
/-! ### for .. in enumerate(list) -/
section
variable {K : PySem.W.Frag} {δ : List SK} {μ : Mu} {E : DE} {ta : TA} {tb : TS} {g : TG}
theorem rs_forE (h : RA K ta δ μ fun rs μ1 => ∃ ds, rs = [.dat (.lst ds)] ∧ ∃ Pv : Nat → List SK → Mu → Prop, Pv 0 δ μ1 ∧
      (∀ i d δ' μ', ds[i]? = some d → Pv i δ' μ' → RG K g (.dat (.tup [.int (i : Nat), d])) δ' fun δ2 => RS K tb δ2 μ' { E with nx := Pv (i + 1), ct := Pv (i + 1), bk := E.nx }) ∧ (∀ δ' μ', Pv ds.length δ' μ' → E.nx δ' μ')) :
    RS K (tFor (iEnum K ta) g tb) δ μ E := fun I0 H0 F0 Ib I H σ F a D e =>
  h _ I H σ F a.s _ fun vs I1 H1 rs μ1 F1 st f s1 ok ⟨ds, er, Pv, p0, ps, pd⟩ => by
    subst er
    obtain ⟨v, rfl, ov⟩ := vals1 ok
    cases ov with
    | lst hs hr =>
      rename_i ad xs
      have e1 : Ex Ib I1 := a.ib.trans st.ii
      have a1 := a.on st f s1
      refine ⟨ad, xs, rfl, SqL.of (s1.ih _ _ hs), for_it (walk_enum (K := K) (a := ad) (xs := xs)) (fun i σ2 H2 => ∃ I2 δ2 μ2 F2, At K I0 H0 F0 I1 I2 H2 σ2 δ2 μ2 F2 ∧ Pv i δ2 μ2) ⟨I1, δ, μ1, F1, ⟨a1.st, a1.sub, a1.s, Ex.refl _⟩, p0⟩ ?_ ?_ ?_⟩
      · rintro i σ2 H2 _ ⟨I2, δ2, μ2, F2, a2, _⟩
        exact SqL.of (a2.s.ih _ _ (a2.ib _ _ hs))
      · rintro i y σ2 H2 H3 hi ⟨I2, δ2, μ2, F2, a2, p⟩ ⟨T, x, z, rfl, hT, rfl, hx, hz⟩
        cases hx
        obtain ⟨d, hd, rd⟩ := repl_get hr hz
        have s3 := a2.s.newD (o := .tup [.int (i : Nat), z]) hT
        have eI : Ex I2 (upd I2 T (.tup [.int (i : Nat), z])) := Ex.new (a2.s.ih.gone hT)
        have a3 := a2.on (Step.new hT a2.s.ih) (fun x hx => .inl hx) s3
        have rt : Rep K (upd I2 T (.tup [.int (i : Nat), z])) (.ref T) (.tup [.int (i : Nat), d]) := Rep.tup (SqT.of upd_same) (.cons (.int _) (.cons (Rep.mono (a2.ib.trans eI) rd) .nil))
        refine ps i d δ2 μ2 hd p _ _ _ σ2 μ2 F2 s3 (.ref T) rt _ fun σ3 δ3 s4 q3 => ?_
        exact q3 I0 H0 F0 I1 _ _ σ3 F2 ⟨a3.st, a3.sub, s4, a3.ib⟩ _ ⟨fun I4 H4 σ4 δ4 μ4 F4 a4 q4 => ⟨I4, δ4, μ4, F4, a4, q4⟩, fun v r I4 H4 σ4 δ4 μ4 F4 a4 ok4 q4 => e.rt v r I4 H4 σ4 δ4 μ4 F4 (a4.weak e1) ok4 q4,
          fun I4 H4 σ4 δ4 μ4 F4 a4 q4 => e.nx I4 H4 σ4 δ4 μ4 F4 (a4.weak e1) q4, fun I4 H4 σ4 δ4 μ4 F4 a4 q4 => ⟨I4, δ4, μ4, F4, a4, q4⟩⟩
      · rintro σ2 H2 ⟨I2, δ2, μ2, F2, a2, p⟩
        rw [repl_len hr] at p
        exact e.nx I2 H2 σ2 δ2 μ2 F2 (a2.weak e1) (pd δ2 μ2 p)
end
end DL
namespace DL
open PySem L2
/-! ### a dict of dicts that still change becomes data, as it is returned -/
inductive FrzOk (μ : Mu) : List (Str × Addr) → List (Str × Da) → Prop
  | nil : FrzOk μ [] []
  | cons {z : Str} {b : Addr} {j : Nat} {ds : List (Str × Da)} {refs : List (Str × Addr)} {dd : List (Str × Da)} : μ[j]? = some (b, MK.md ds, true) → FrzOk μ refs dd → FrzOk μ ((z, b) :: refs) ((z, .dct ds) :: dd)
open Classical in
/-- what lies in S is data from now on -/
noncomputable def froze (S : Addr → Prop) (I H : Hp) : Hp := fun a => if S a then H a else I a
theorem froze_in {S : Addr → Prop} {I H : Hp} {a : Addr} (h : S a) : froze S I H a = H a := if_pos h
theorem froze_out {S : Addr → Prop} {I H : Hp} {a : Addr} (h : ¬ S a) : froze S I H a = I a := if_neg h
theorem froze_ex {S : Addr → Prop} {I H : Hp} (e : Ex I H) : Ex I (froze S I H) := fun a o h => by
  by_cases c : S a
  · rw [froze_in c]; exact e a o h
  · rw [froze_out c]; exact h
theorem froze_ih {S : Addr → Prop} {I H : Hp} (e : Ex I H) : Ex (froze S I H) H := fun a o h => by
  by_cases c : S a
  · rw [froze_in c] at h; exact h
  · rw [froze_out c] at h; exact e a o h
section
variable {K : PySem.W.Frag} {δ : List SK} {μ : Mu} {E : DE} {te : TE}
theorem froze_rep {Lc : Addr → Prop} {I H : Hp} {σ : St} {F : List Addr} {S : Addr → Prop} (s : Sta K Lc I H σ δ μ F) : ∀ {refs : List (Str × Addr)} {dd : List (Str × Da)}, FrzOk μ refs dd → (∀ p ∈ refs, S p.2) → RepK K (froze S I H) (refsK refs) dd
  | _, _, .nil, _ => .nil
  | _, _, .cons hj t, hS => by
    obtain ⟨Fi, m, _⟩ := s.mu.at hj
    obtain ⟨_, xs, hx, r⟩ := m
    exact .cons (Rep.dct (by rw [froze_in (hS _ (by simp))]; exact hx) (r.mono (froze_ex s.ih))) (froze_rep s t fun p hp => hS p (List.mem_cons_of_mem _ hp))
theorem froze_lc {Lc : Addr → Prop} {I H : Hp} {σ : St} {F : List Addr} (s : Sta K Lc I H σ δ μ F) : ∀ {refs : List (Str × Addr)} {dd : List (Str × Da)}, FrzOk μ refs dd → ∀ p ∈ refs, Lc p.2
  | _, _, .nil, p, hp => nomatch hp
  | _, _, .cons hj t, p, hp => by
    rcases List.mem_cons.mp hp with z | z
    · obtain ⟨Fi, m, _, l, _⟩ := s.mu.at hj
      rw [z]
      exact l rfl _ m.mem
    · exact froze_lc s t p z
theorem rs_retM (h : RD K te δ μ fun r μ1 => ∃ (a : Addr) (i : Nat) (refs : List (Str × Addr)) (dd : List (Str × Da)), r = .own a ∧ μ1[i]? = some (a, MK.mo refs, true) ∧ FrzOk μ1 refs dd ∧ E.rt (.dat (.dct dd)) []) : RS K (tRet te) δ μ E := fun I0 H0 F0 Ib I H σ F at_ D e =>
  h _ I H σ F at_.s _ fun v I1 H1 r μ1 F1 st f s1 ok ⟨a, i, refs, dd, er, hi, hf, q⟩ => by
    subst er
    have ev : v = .ref a := ok
    subst ev
    have a1 := at_.on st f s1
    obtain ⟨Fi, m, _, l, _⟩ := s1.mu.at hi
    have lcA := l rfl a m.mem
    obtain ⟨_, hx⟩ := m
    let S : Addr → Prop := fun x => x = a ∨ ∃ p ∈ refs, x = p.2
    have hSl : ∀ x, S x → H0 x = none := fun x hx => by
      rcases hx with rfl | ⟨p, hp, rfl⟩
      · exact lcA
      · exact froze_lc s1 hf p hp
    have e1 : Ex I1 (froze S I1 H1) := froze_ex s1.ih
    have st2 : Step F0 I0 H0 (froze S I1 H1) H1 := ⟨a1.st.ii.trans e1, a1.st.keep, fun x hx hn => by
      have nS : ¬ S x := fun c => hx (hSl x c)
      rw [froze_out nS]
      exact a1.st.own x hx hn, a1.st.alive⟩
    have a2 : At K I0 H0 F0 Ib (froze S I1 H1) H1 σ δ [] [] := ⟨st2, (fun x hx => nomatch hx), ⟨froze_ih s1.ih, s1.lc, s1.sl.mono e1, .nil⟩, a1.ib.trans e1⟩
    refine e.rt (.ref a) (.dat (.dct dd)) _ H1 σ δ [] [] a2 (Rep.dct (kvs := refsK refs) ?_ (froze_rep s1 hf fun p hp => .inr ⟨p, hp, rfl⟩)) q
    have hSa : S a := .inl rfl
    rw [froze_in hSa]
    exact hx
end
end DL
namespace DL
open PySem L2
/-- arguments that are data, or dicts that are still changed -/
inductive ArgsM (μ : Mu) : List SK → List Da → Prop
  | nil : ArgsM μ [] []
  | dat {d : Da} {ks : List SK} {ds : List Da} : ArgsM μ ks ds → ArgsM μ (.dat d :: ks) (d :: ds)
  | own {l : Addr} {i : Nat} {kvs : List (Str × Da)} {fl : Bool} {ks : List SK} {ds : List Da} : μ[i]? = some (l, MK.md kvs, fl) → ArgsM μ ks ds → ArgsM μ (.own l :: ks) (.dct kvs :: ds)
section
variable {K : PySem.W.Frag} {δ : List SK} {μ : Mu} {Q : SK → Mu → Prop} {tr : TA} {n : Nat}
theorem argsm_rep {Lc : Addr → Prop} {I H : Hp} {σ : St} {F : List Addr} (s : Sta K Lc I H σ δ μ F) : ∀ {ks : List SK} {ds : List Da}, ArgsM μ ks ds → ∀ {vs : List V}, SlOk K I (vs.map some) ks → RepL K (lend F [] I H) vs ds
  | _, _, .nil, vs, h => by
    cases vs with
    | nil => exact .nil
    | cons _ _ => cases h
  | _, _, .dat a, vs, h => by
    cases vs with
    | nil => cases h
    | cons v r =>
      cases h with
      | cons x y => exact .cons (Rep.mono (lend_ex s.ih) x) (argsm_rep s a y)
  | _, _, .own hm a, vs, h => by
    cases vs with
    | nil => cases h
    | cons v r =>
      cases h with
      | cons x y =>
        have ev : v = .ref _ := x
        subst ev
        obtain ⟨Fi, m, sF, _⟩ := s.mu.at hm
        obtain ⟨rfl, xs, hx, rx⟩ := m
        refine .cons (Rep.dct ?_ (rx.mono (lend_ex s.ih))) (argsm_rep s a y)
        unfold lend
        rw [if_pos ⟨sF _ (by simp), by simp⟩]
        exact hx
/-- f(..) whose answer no object bears; dicts that are still changed may be handed in -/
theorem rd_callM {C : CA} (h : RA K tr δ μ fun rs μ1 => ∃ ds, ArgsM μ1 rs ds ∧ ds.length = n ∧ C ds fun d => flat d = true ∧ Q (.dat d) μ1) : RD K (tCall (spA K n C) [] E0 tr) δ μ Q := fun Lc I H σ F s QQ p =>
  h Lc I H σ F s _ fun vs I1 H1 rs μ1 F1 st f s1 ok ⟨ds, ar, hl, c⟩ => by
    have r := argsm_rep s1 ar ok
    refine ⟨by rw [List.append_nil, repl_len r]; exact hl, lend F1 [] I1 H1, ds, _, lend_ih s1.ih, by rw [List.append_nil]; exact r, c, fun v I2 H2 d st2 e2 rv q => ?_⟩
    have st3 : Step [] I1 H1 I1 H2 := ⟨Ex.refl _, st2.keep, fun _ _ z => z, st2.alive⟩
    exact p v I1 H2 (.dat d) μ1 F1 (st.trans (st3.wide (G := F1) fun x hx => nomatch hx) f) f (s1.grow st3 (fun x hx => nomatch hx) fun a o ha => st2.keep a o (s1.ih a o ha) (by simp)) (Rep.flat rv q.1) q.2
end
end DL
/-! tuple of a dict; fields of an object that is being made; comprehensions with two clauses. -/
namespace DL
open PySem L2 PySem.Spec PyProof.Rows
section
variable {prog : Program} {w : World} {A : Around} {E : Value → Shared → Prop} {s : Shared} {d : Addr} {n : Nat} {P : Nat → Value → Prop} {OK : Heap → Prop}
theorem collect_kd {Q : List Value → Shared → Prop} (K : PySem.W.KdlSrc prog w "dict" d d n P OK) (hh : A.handled = none) (hok : OK s.heap) (hn : n ≤ sizeLine)
    (hQ : ∀ (h' : Heap) (tk : Nat) (acc : Array Value), (∀ b o, s.heap.get? b = some o → h'.get? b = some o) → ItemsOf P acc n → Q acc.toList { s with heap := h', toks := tk }) :
    wpAny (model prog w) A (collect (.ref d)) Q E s := by
  unfold collect
  refine wpAny_bind (wpAny_runValue (codeAny_builtin F.entry_proto_collect ?_))
  rw [Around.under_plainId F.plain_proto_collect _]
  show wpAny _ A.in1 (newList [] >>= fun l => again (.builtin "list.__iadd__" ⟨[l, .ref d], []⟩)) _ _ s
  refine wpAny_bind (wpAny_newObj_type ?_)
  refine wpAny_pure ⟨plainId_quiet F.plain_list_iadd _, codeAny_builtin F.entry_list_iadd ?_⟩
  rw [Around.under_plainId F.plain_list_iadd _]
  show wpAny _ A.in1 (Builtin.List.listExtendWith (.ref s.heap.objs.size) (.ref d) (.ref s.heap.objs.size)) _ _ _
  have hS : (s.heap.push { cls := .type "list", data := .seq ([] : List Value).toArray }).get? s.heap.objs.size = some { cls := .type "list", data := .seq #[] 0 } := Heap.get?_push_size _ rfl
  have hlt := K.there _ hok
  refine wpAny_mono (PySem.W.kdl_extend (A := A) (R := fun rr s' => rr = .ok (.ret (.ref s.heap.objs.size)) ∧ ∃ (h' : Heap) (tk : Nat) (acc : Array Value) (c' : Nat), s' = { s with heap := h', toks := tk } ∧
      (∀ b o, s.heap.get? b = some o → h'.get? b = some o) ∧ h'.get? s.heap.objs.size = some { cls := .type "list", dict := none, data := .seq acc c', slots := #[] } ∧ ItemsOf P acc n)
    (s := { s with heap := s.heap.push { cls := .type "list", data := .seq ([] : List Value).toArray } }) K hh (K.keep _ _ hok fun b _ o e => Heap.get?_push_of_some _ e) s.heap.objs.size (Nat.ne_of_gt hlt.1) (Nat.ne_of_gt hlt.2) (.ref s.heap.objs.size) 0 hS
    (fun h' tk acc c' hk e hi => ⟨rfl, h', tk, acc, c', rfl, fun b o q => hk b o (Nat.ne_of_lt (Heap.lt_size q)) (Heap.get?_push_of_some _ q), e, hi⟩) hn) (fun fin s' h => ?_) (fun e s' h => ?_)
  · cases fin with
    | done f =>
      obtain ⟨e, h', tk, acc, c', rfl, hk, hS', hi⟩ := h
      cases e
      show wpAny _ A (load s.heap.objs.size >>= _) _ _ _
      exact wpAny_bind (wpAny_load hS' (wpAny_pure (hQ h' tk acc hk hi)))
    | again c' =>
      refine ⟨h.1, codeAny_mono h.2 fun rr s'' hr' => ?_⟩
      obtain ⟨rfl, h', tk, acc, c', rfl, hk, hS', hi⟩ := hr'
      show wpAny _ A (load s.heap.objs.size >>= _) _ _ _
      exact wpAny_bind (wpAny_load hS' (wpAny_pure (hQ h' tk acc hk hi)))
  · exact absurd h.1 (by simp)
theorem code_tuple_new_kd {Q₁ : Value → Shared → Prop} (K : PySem.W.KdlSrc prog w "dict" d d n P OK) (hh : A.handled = none) (hok : OK s.heap) (hn : n ≤ sizeLine)
    (h : ∀ (h' : Heap) (tk : Nat) (acc : Array Value), (∀ b o, s.heap.get? b = some o → h'.get? b = some o) → ItemsOf P acc n →
      Q₁ (.ref h'.objs.size) { s with heap := h'.push { cls := .type "tuple", data := .seq acc }, toks := tk }) :
    codeAny (model prog w) A (.call (.builtin "tuple.__new__") ⟨[.type "tuple", .ref d], []⟩) (wants Q₁ E) s := by
  refine codeAny_of_tree ?_
  show wpAny _ A.in1 (do checkBuiltinCall "tuple.__new__" ⟨[.type "tuple", .ref d], []⟩; again (.builtin "tuple.__new__" ⟨[.type "tuple", .ref d], []⟩)) _ _ s
  refine wpAny_bind (wpAny_of_eq (F.newCall_tuple_1 _) (wpAny_pure ⟨plainId_quiet F.plain_tuple_new _, codeAny_builtin F.entry_tuple_new ?_⟩))
  rw [Around.under_plainId F.plain_tuple_new _]
  have hsub := sub_tuple_self
  have hinit := init_tuple_lookup
  have hmh := madeHere_tuple
  have hTI : s.TypeIs (.ref d) "dict" := K.type s hok
  have hh1 : A.in1.handled = none := hh
  wp_walk using wpAny_typeOf hTI, collect_kd (A := A.in1) K hh1 hok hn
  intro h' tk acc hk hacc
  show wpAny _ _ (Builtin.Tuple.tupleExact acc.toList.toArray >>= fun v => ret v) _ _ _
  unfold Builtin.Tuple.tupleExact
  refine wpAny_bind (wpAny_newObj_type ?_ (by show acc.toList.toArray.size ≤ sizeLine; simp only [Array.toArray_toList]; rw [hacc.1]; exact hn))
  refine wpAny_pure ?_
  have e : acc.toList.toArray = acc := by simp
  rw [e]
  exact h h' tk acc hk hacc
theorem call_tuple_kd {Q : Value → Shared → Prop} (K : PySem.W.KdlSrc prog w "dict" d d n P OK) (hh : A.handled = none) (hok : OK s.heap) (hn : n ≤ sizeLine)
    (hQ : ∀ (h' : Heap) (tk : Nat) (acc : Array Value), (∀ b o, s.heap.get? b = some o → h'.get? b = some o) → ItemsOf P acc n →
      Q (.ref h'.objs.size) { s with heap := h'.push { cls := .type "tuple", data := .seq acc }, toks := tk }) :
    wpAny (model prog w) A (call (.type "tuple") [.ref d]) Q E s := by
  refine callType_codes (Q₁ := fun obj s₁ => s₁.TypeIs obj "tuple" ∧ Q obj s₁) F.called_tuple (F.typeCall_tuple_1 _) F.entry_object_init
    (code_tuple_new_kd (A := A.in1) K hh hok hn fun h' tk acc hk hacc => ⟨⟨_, Heap.get?_push_size _ rfl, rfl⟩, hQ h' tk acc hk hacc⟩) fun obj s₁ h₁ => ?_
  exact ⟨h₁.1, F.args_object_init_2 obj _, object_init_meets F.called_tuple.init.lookup F.called_tuple.made (by decide) prog w A.in1 _ s₁ ⟨h₁.1, rfl, h₁.2⟩⟩
end
/-- tuple(d): the keys of a dict -/
def rTupD : List V → Hp → VK → Prop := fun xs H Q => ∃ p kvs, xs = [.ref p] ∧ H p = some (.dK kvs) ∧ ∀ q, H q = none → Q (.ref q) (upd H q (.tup (kvs.map fun kv => kV kv.1)))
theorem call_tuple_dK {X : Cx} (hc : X.calm = true) : CallR X (.type "tuple") rTupD := by
  intro pins s σ H xs us Q I r h
  obtain ⟨p, kvs, e, hk, q⟩ := h
  subst e
  obtain ⟨u, eu, rx⟩ := L2.vals1 r
  subst eu
  obtain rfl : u = Value.ref p := rx
  obtain ⟨z, lo, vs, rk, hd⟩ := (show ObjOk X.prog X.w H s.heap p (.dK kvs) from I.hok p _ hk)
  obtain ⟨ep, hat⟩ := hd.dictAt
  have hl : kvs.length = vs.length := Paired.length rk
  refine call_tuple_kd (PySem.W.kdl_dict (knd := mixKind X.prog X.w) (kvs := vs) (ep := ep) lo) (I.ok.hd hc) hat (by rw [← hl]; exact z) fun h' tk acc' hkeep hacc => ?_
  have I2 : Inv X pins σ H { s with heap := h', toks := tk } := I.kept hkeep
  refine ⟨.ref h'.objs.size, upd H h'.objs.size (.tup (kvs.map fun kv => kV kv.1)), I2.laid (t' := tk) (fun c o e => Heap.get?_push_of_some _ e) (Nat.le_refl _) (show ObjOk X.prog X.w _ _ _ (.tup (kvs.map fun kv => kV kv.1)) from ⟨?_, acc'.toList, ?_, ?_⟩), rfl, q _ (I2.hok.fresh (Nat.le_refl _))⟩
  · rw [List.length_map]; exact z
  · have el : acc'.toList.length = acc'.size := by simp
    refine vals_of_at (by rw [List.length_map, el, hacc.1, hl]) fun j x w h1 h2 => ?_
    obtain ⟨k, y, hky, hi⟩ := hacc.2 j w (by rw [← Array.getElem?_toList]; exact h2)
    have e1 : (kvs.map (·.1))[j]? = some k := by
      rw [KV.keys rk, List.getElem?_map, hky] <;> rfl
    have e2 : (kvs.map fun kv => kV kv.1)[j]? = some (kV k) := by
      have e3 : (kvs.map fun kv => kV kv.1) = (kvs.map (·.1)).map kV := by rw [List.map_map] <;> rfl
      rw [e3, List.getElem?_map, e1] <;> rfl
    rw [e2] at h1
    cases h1
    exact keyIs_rel hi
  · rw [Array.toArray_toList]; exact IsTup.new _ _
end DL
namespace DL
open PySem L2
def rTUPd (K : PySem.W.Frag) : List V → Hp → VK → Prop := fun xs H Q => rTUP K xs H Q ∨ rTupD xs H Q
theorem cTUPd {X : Cx} (hc : X.calm = true) : CallR X (.type "tuple") (rTUPd X.K) := CallR.or cTUP (call_tuple_dK hc)
section
variable {K : PySem.W.Frag} {δ : List SK} {μ : Mu} {Q : SK → Mu → Prop} {E : DE} {te : TE}
theorem repK_keys {I : Hp} : ∀ {kvs : List (Key × V)} {ds : List (Str × Da)}, RepK K I kvs ds → RepL K I (kvs.map fun kv => kV kv.1) (txts (ds.map (·.1)))
  | _, _, .nil => .nil
  | _, _, .cons h t => .cons (.str _) (repK_keys t)
theorem tup_kd {ds : List (Str × Da)} (q : Q (.dat (.tup (txts (ds.map (·.1))))) μ) : RC K (rTUPd K) [.dat (.dct ds)] δ μ Q := rc_or2 fun Lc I H σ F s vs a QQ p => by
  obtain ⟨v, rfl, ov⟩ := vals1 a
  cases ov with
  | dct hs hr =>
    rename_i ad kvs
    refine ⟨ad, kvs, rfl, s.ih _ _ hs, fun l hl => ?_⟩
    have e := Ex.new (o := .tup (kvs.map fun kv => kV kv.1)) (s.ih.gone hl)
    exact p (.ref l) (upd I l (.tup (kvs.map fun kv => kV kv.1))) (upd H l (.tup (kvs.map fun kv => kV kv.1))) (.dat (.tup (txts (ds.map (·.1))))) μ F (Step.new hl s.ih) (fun x hx => .inl hx) (s.newD hl) (Rep.tup (SqT.of upd_same) ((repK_keys hr).mono e)) q
/-! ### an object that is being made -/
def putFd (f : Str) (d : Da) : List (Str × Da) → List (Str × Da)
  | [] => [(f, d)]
  | (g, x) :: r => if g = f then (g, d) :: r else (g, x) :: putFd f d r
theorem repF_put {I : Hp} {f : Str} {v : V} {d : Da} (rv : Rep K I v d) : ∀ {fs : List (Str × V)} {ds : List (Str × Da)}, RepF K I fs ds → RepF K I (putF f v fs) (putFd f d ds)
  | _, _, .nil => .cons rv .nil
  | _, _, .cons (f := g) h t => by
    unfold putF putFd
    by_cases z : g = f
    · rw [if_pos z, if_pos z]; exact .cons rv t
    · rw [if_neg z, if_neg z]; exact .cons h (repF_put rv t)
theorem repF_len {I : Hp} : ∀ {fs : List (Str × V)} {ds : List (Str × Da)}, RepF K I fs ds → fs.length = ds.length
  | _, _, .nil => rfl
  | _, _, .cons _ t => congrArg (· + 1) (repF_len t)
/-- self.f = e -/
theorem rs_fldI {f : Str} {i j : Nat} {a C dx : Addr} {fs : List (Str × Da)} {fl : Bool} (hi : δ[i]? = some (.own a)) (cl : Cls K C) (na : NoAttr K C f)
    (h : RD K te δ μ fun r μ1 => ∃ d : Da, r = .dat d ∧ μ1[j]? = some (a, MK.ins C dx fs, fl) ∧ fs.length < 1000 ∧ E.nx δ (μ1.set j (a, MK.ins C dx (putFd f d fs), fl))) :
    RS K (sFld K (tVar i) te f) δ μ E := fun I0 H0 F0 Ib I H σ F at_ D e =>
  h _ I H σ F at_.s _ fun w I1 H1 r μ1 F1 st fF s1 ok ⟨d, er, hj, hl, q⟩ => by
    subst er
    have a1 := at_.on st fF s1
    obtain ⟨o, ho, oo⟩ := s1.sl.get hi
    cases o with
    | none => exact oo.elim
    | some u =>
      have eu : u = .ref a := oo
      subst eu
      obtain ⟨Fi, m, _⟩ := s1.mu.at hj
      obtain ⟨_, xs, hx, r, hdx⟩ := id m
      refine ⟨.ref a, ho, a, C, dx, xs, rfl, hx, cl, na, by rw [repF_len r]; exact hl, ?_⟩
      obtain ⟨s4, st4⟩ := put_after (o := .ins C dx (putF f w xs)) (k' := MK.ins C dx (putFd f d fs)) s1 hj fun {Fi} m' => by
        obtain ⟨e1, ys, hy, ry, hd⟩ := m'
        rw [hx] at hy
        cases hy
        refine ⟨e1, _, upd_same, repF_put ok ry, ?_⟩
        have : dx ≠ a := fun z => by
          rw [z, hx] at hd
          cases hd
        rw [upd_ne this]; exact hd
      exact e.nx I1 _ σ δ _ F1 (a1.on st4 (fun x hx => .inl hx) s4) q
/-- self.f -/
theorem rd_fldI {f : Str} {i j : Nat} {a C dx : Addr} {fs : List (Str × Da)} {fl : Bool} {d : Da} (hi : δ[i]? = some (.own a)) (cl : Cls K C) (na : NoAttr K C f) (hj : μ[j]? = some (a, MK.ins C dx fs, fl)) (hf : fs.lookup f = some d) (q : Q (.dat d) μ) :
    RD K (tFld K (tVar i) f) δ μ Q := fun Lc I H σ F s QQ p => by
  obtain ⟨o, ho, oo⟩ := s.sl.get hi
  cases o with
  | none => exact oo.elim
  | some u =>
    have eu : u = .ref a := oo
    subst eu
    obtain ⟨Fi, m, _⟩ := s.mu.at hj
    obtain ⟨_, xs, hx, r, _⟩ := m
    obtain ⟨v, hv, rv⟩ := repF_lookup r hf
    exact ⟨.ref a, ho, a, C, dx, xs, v, rfl, hx, cl, na, hv, p.now (r := .dat d) s rv q⟩
end
end DL
namespace DL
open PySem L2
/-! ### [e for t in a tuple for u in a tuple if ..] -/
section
variable {K : PySem.W.Frag} {δ : List SK} {μ : Mu} {Q : SK → Mu → Prop} {te tl tl1 : TE} {tt tt1 : TT} {g g1 : TG} {vs vs1 : List Nat}
theorem lc_turn2 {Lc : Addr → Prop} {I1 H1 : Hp} {σ : St} {F1 : List Addr} {L : Addr} {Pv Nx : List Da → Mu → Prop} {x : V} {d : Da} {H : Hp} (tg : TgIn g vs) (hL : ∀ a o, H1 a = some o → a ∉ F1 → a ≠ L) (h : LcAt K Lc I1 H1 σ δ F1 L Pv H) (rx : Rep K I1 x d)
    (t : ∀ acc μ, Pv acc μ → LcTurn K g tt te vs δ d acc μ Nx) :
    g x (L2.wipe σ vs) H fun σ2 H2 => L2.wipe σ2 vs = L2.wipe σ vs ∧ tt σ2 H2 fun b H3 =>
      if b = true then te σ2 H3 fun y H4 => ∃ acc, H4 L = some (.lst acc) ∧ acc.length < sizeLine ∧ LcAt K Lc I1 H1 σ δ F1 L Nx (upd H4 L (.lst (acc ++ [y]))) else LcAt K Lc I1 H1 σ δ F1 L Nx H3 := by
  obtain ⟨I, μ', F, acc, accV, st, f, s, hH, r, hF, hI, pv⟩ := h
  have sw : Sta K Lc I H (L2.wipe σ vs) (wipeD δ vs) μ' F := ⟨s.ih, s.lc, s.sl.wipe vs, s.mu⟩
  have key := tg x (L2.wipe σ vs) H (fun σ2 H2 => tt σ2 H2 fun b H3 =>
      if b = true then te σ2 H3 fun y H4 => ∃ acc, H4 L = some (.lst acc) ∧ acc.length < sizeLine ∧ LcAt K Lc I1 H1 σ δ F1 L Nx (upd H4 L (.lst (acc ++ [y]))) else LcAt K Lc I1 H1 σ δ F1 L Nx H3) ?_
  · rw [wipe_wipe] at key
    exact key
  refine t acc μ' pv Lc I H (L2.wipe σ vs) μ' F sw x (Rep.mono st.ii rx) _ fun σ2 δ2 s2 q2 => ?_
  refine q2 Lc I H σ2 F s2 _ fun b I3 H3 μ3 F3 st3 f3 s3 q3 => ?_
  have keepL : ∀ {I4 H4 : Hp} {F4 : List Addr}, Step F I H I4 H4 → H4 L = some (.lst accV) ∧ I4 L = none := fun {I4 H4 F4} z => ⟨z.keep L _ hH hF, z.own L (by rw [hH]; simp) hI⟩
  have notin : ∀ {F4 : List Addr}, (∀ x ∈ F4, x ∈ F ∨ H x = none) → L ∉ F4 := fun {F4} z hx => by
    rcases z L hx with y | y
    · exact hF y
    · rw [hH] at y; cases y
  cases b with
  | false =>
    show LcAt K Lc I1 H1 σ δ F1 L Nx H3
    obtain ⟨k1, k2⟩ := keepL (F4 := F3) st3
    exact ⟨I3, μ3, F3, acc, accV, st.trans st3 f, sub_trans st f f3, ⟨s3.ih, s3.lc, s.sl.mono st3.ii, s3.mu⟩, k1, r.mono st3.ii, notin f3, k2, q3.2 rfl⟩
  | true =>
    show te σ2 H3 _
    refine q3.1 rfl Lc I3 H3 σ2 F3 s3 _ fun y I4 H4 ry μ4 F4 st4 f4 s4 ok4 ⟨d', e4, hl, nx⟩ => ?_
    subst e4
    have stA : Step F I H I4 H4 := st3.trans st4 f3
    have fA := sub_trans st3 f3 f4
    obtain ⟨k1, k2⟩ := keepL (F4 := F4) stA
    refine ⟨accV, k1, Nat.lt_of_lt_of_le (by rw [repl_len r]; exact hl) (by decide : 100000 ≤ sizeLine), ?_⟩
    have hn4 : L ∉ F4 := notin fA
    have stB : Step F1 I1 H1 I4 (upd H4 L (.lst (accV ++ [y]))) := by
      have z := st.trans stA f
      refine ⟨z.ii, fun a o ha hn => ?_, z.own, fun a ha => ?_⟩
      · rw [upd_ne (hL a o ha hn)]; exact z.keep a o ha hn
      · by_cases w : a = L
        · rw [w, upd_same]; simp
        · rw [upd_ne w]; exact z.alive a ha
    refine ⟨I4, μ4, F4, acc ++ [d'], accV ++ [y], stB, sub_trans st f fA, ⟨fun a u h => ?_, fun a h => s4.lc a ?_, s.sl.mono stA.ii, s4.mu.mono (Ex.refl _) (fun x hx => upd_ne fun z => hn4 (z ▸ hx)) (fun x hx => (s4.mu.live x hx).1) fun _ _ z => z⟩, upd_same, repl_app ok4 (r.mono stA.ii), hn4, k2, nx⟩
    · have z : a ≠ L := fun z => by rw [z, k2] at h; cases h
      rw [upd_ne z]; exact s4.ih a u h
    · by_cases z : a = L
      · rw [z, upd_same] at h; cases h
      · rw [upd_ne z] at h; exact h
def LcOpen (K : PySem.W.Frag) (g : TG) (tt : TT) (tl1 : TE) (g1 : TG) (tt1 : TT) (te : TE) (vs vs1 : List Nat) (δ : List SK) (d : Da) (acc : List Da) (μ : Mu) (Nx : List Da → Mu → Prop) : Prop :=
  RG K g (.dat d) (wipeD δ vs) fun δ2 => RT K tt δ2 μ fun b μ2 => (b = true → RD K tl1 δ2 μ2 fun r μ3 => ∃ es, r = .dat (.tup es) ∧ ∃ Pw : Nat → List Da → Mu → Prop, Pw 0 acc μ3 ∧
    (∀ j e acc' μ', es[j]? = some e → Pw j acc' μ' → LcTurn K g1 tt1 te vs1 δ2 e acc' μ' (Pw (j + 1))) ∧ ∀ acc' μ', Pw es.length acc' μ' → Nx acc' μ') ∧ (b = false → Nx acc μ2)
theorem lc_open {Lc : Addr → Prop} {I1 H1 : Hp} {σ : St} {F1 : List Addr} {L : Addr} {Pv Nx : List Da → Mu → Prop} {x : V} {d : Da} {H : Hp} (s1 : SlOk K I1 σ δ) (tg : TgIn g vs) (tg1 : TgIn g1 vs1) (hL : H1 L = none) (h : LcAt K Lc I1 H1 σ δ F1 L Pv H) (rx : Rep K I1 x d)
    (t : ∀ acc μ, Pv acc μ → LcOpen K g tt tl1 g1 tt1 te vs vs1 δ d acc μ Nx) :
    g x (L2.wipe σ vs) H fun σ2 H2 => L2.wipe σ2 vs = L2.wipe σ vs ∧ tt σ2 H2 fun b H3 =>
      if b = true then iTup K tl1 σ2 H3 fun J1 H4 => ∃ W1 : Nat → Nat → Hp → Prop, (∃ m, W1 0 m H4) ∧ ∀ j k H, W1 j k H →
        (J1.stop j H ∧ LcAt K Lc I1 H1 σ δ F1 L Nx H) ∨ (J1.go j H ∧ ∃ Nx1 : Hp → Prop, (∀ H', Nx1 H' → ∃ k', k' < k ∧ W1 (j + 1) k' H') ∧ ∀ x H', J1.yld j H x H' → g1 x (L2.wipe σ2 vs1) H' fun σ3 H5 => L2.wipe σ3 vs1 = L2.wipe σ2 vs1 ∧ tt1 σ3 H5 fun b H6 =>
          if b = true then te σ3 H6 fun y H7 => ∃ acc, H7 L = some (.lst acc) ∧ acc.length < sizeLine ∧ Nx1 (upd H7 L (.lst (acc ++ [y]))) else Nx1 H6)
      else LcAt K Lc I1 H1 σ δ F1 L Nx H3 := by
  obtain ⟨I, μ', F, acc, accV, st, f, s, hH, r, hF, hI, pv⟩ := h
  have sw : Sta K Lc I H (L2.wipe σ vs) (wipeD δ vs) μ' F := ⟨s.ih, s.lc, s.sl.wipe vs, s.mu⟩
  have key := tg x (L2.wipe σ vs) H (fun σ2 H2 => tt σ2 H2 fun b H3 =>
      if b = true then iTup K tl1 σ2 H3 fun J1 H4 => ∃ W1 : Nat → Nat → Hp → Prop, (∃ m, W1 0 m H4) ∧ ∀ j k H, W1 j k H →
        (J1.stop j H ∧ LcAt K Lc I1 H1 σ δ F1 L Nx H) ∨ (J1.go j H ∧ ∃ Nx1 : Hp → Prop, (∀ H', Nx1 H' → ∃ k', k' < k ∧ W1 (j + 1) k' H') ∧ ∀ x H', J1.yld j H x H' → g1 x (L2.wipe σ2 vs1) H' fun σ3 H5 => L2.wipe σ3 vs1 = L2.wipe σ2 vs1 ∧ tt1 σ3 H5 fun b H6 =>
          if b = true then te σ3 H6 fun y H7 => ∃ acc, H7 L = some (.lst acc) ∧ acc.length < sizeLine ∧ Nx1 (upd H7 L (.lst (acc ++ [y]))) else Nx1 H6)
      else LcAt K Lc I1 H1 σ δ F1 L Nx H3) ?_
  · rw [wipe_wipe] at key
    exact key
  refine t acc μ' pv Lc I H (L2.wipe σ vs) μ' F sw x (Rep.mono st.ii rx) _ fun σ2 δ2 s2 q2 => ?_
  refine q2 Lc I H σ2 F s2 _ fun b I3 H3 μ3 F3 st3 f3 s3 q3 => ?_
  have keepL : ∀ {I4 H4 : Hp} {F4 : List Addr}, Step F I H I4 H4 → H4 L = some (.lst accV) ∧ I4 L = none := fun {I4 H4 F4} z => ⟨z.keep L _ hH hF, z.own L (by rw [hH]; simp) hI⟩
  have notin : ∀ {F4 : List Addr}, (∀ x ∈ F4, x ∈ F ∨ H x = none) → L ∉ F4 := fun {F4} z hx => by
    rcases z L hx with y | y
    · exact hF y
    · rw [hH] at y; cases y
  cases b with
  | false =>
    show LcAt K Lc I1 H1 σ δ F1 L Nx H3
    obtain ⟨k1, k2⟩ := keepL (F4 := F3) st3
    exact ⟨I3, μ3, F3, acc, accV, st.trans st3 f, sub_trans st f f3, ⟨s3.ih, s3.lc, s.sl.mono st3.ii, s3.mu⟩, k1, r.mono st3.ii, notin f3, k2, q3.2 rfl⟩
  | true =>
    rw [if_pos rfl]
    refine q3.1 rfl Lc I3 H3 σ2 F3 s3 _ fun v I4 H4 ry μ4 F4 st4 f4 s4 ok4 ⟨es, e4, Pw, p0, ps, pd⟩ => ?_
    subst e4
    have stA : Step F I H I4 H4 := st3.trans st4 f3
    have fA := sub_trans st3 f3 f4
    obtain ⟨k1, k2⟩ := keepL (F4 := F4) stA
    have hn4 : L ∉ F4 := notin fA
    have st14 : Step F1 I1 H1 I4 H4 := st.trans stA f
    cases ok4 with
    | tup hs hr =>
      rename_i ad xs
      refine ⟨ad, rfl, ⟨xs, s4.ih.t hs⟩, ?_⟩
      have w := walk_tup (K := K) (a := ad) (xs := xs)
      -- the items stand in I4, which the inner states are later than
      refine ⟨fun j k H5 => k = xs.length - j ∧ j ≤ xs.length ∧ LcAt K Lc I4 H4 σ2 δ2 (L :: F4) L (Pw j) H5, ⟨xs.length, by simp, Nat.zero_le _, ⟨I4, μ4, F4, acc, accV, Step.refl _ _ _, fun x hx => .inl (List.mem_cons_of_mem _ hx), s4, k1, r.mono stA.ii, hn4, k2, p0⟩⟩, ?_⟩
      rintro j k H5 ⟨rfl, hj, a5⟩
      have g5 : SqT K H5 ad xs := by
        obtain ⟨I5, μ5, F5, ac5, aV5, st5, f5, s5, _⟩ := a5
        exact s5.ih.t (st5.ii.t hs)
      by_cases hlt : j < xs.length
      · refine .inr ⟨w.goes j H5 hlt g5, LcAt K Lc I4 H4 σ2 δ2 (L :: F4) L (Pw (j + 1)), fun H' p' => ⟨xs.length - (j + 1), by omega, rfl, hlt, p'⟩, fun y H6 hy => ?_⟩
        obtain ⟨rfl, hx⟩ := w.yields j H5 y H6 hlt g5 hy
        obtain ⟨e, he, re⟩ := repl_get hr hx
        exact lc_turn2 tg1 (fun a o _ hn z => hn (by rw [z]; exact List.mem_cons_self)) a5 re fun acc5 μ5 pv5 => ps j e acc5 μ5 he pv5
      · have e : j = xs.length := by omega
        subst e
        refine .inl ⟨w.stops H5 g5, ?_⟩
        obtain ⟨I5, μ5, F5, ac5, aV5, st5, f5, s5, hH5, r5, hF5, hI5, pv5⟩ := a5
        rw [repl_len hr] at pv5
        have fL : ∀ x ∈ L :: F4, x ∈ F1 ∨ H1 x = none := fun x hx => by
          rcases List.mem_cons.mp hx with z | z
          · rw [z]; exact .inr hL
          · exact sub_trans st f fA x z
        exact ⟨I5, μ5, F5, ac5, aV5, st14.trans st5 fL, sub_trans st14 fL f5, ⟨s5.ih, s5.lc, s1.mono (st14.ii.trans st5.ii), s5.mu⟩, hH5, r5, hF5, hI5, pd _ _ pv5⟩
/-- the whole -/
theorem rd_lc2 (tg : TgIn g vs) (tg1 : TgIn g1 vs1) (h : RD K tl δ μ fun r μ1 => ∃ ds, r = .dat (.tup ds) ∧ ∃ Pv : Nat → List Da → Mu → Prop, Pv 0 [] μ1 ∧
      (∀ i d acc μ', ds[i]? = some d → Pv i acc μ' → LcOpen K g tt tl1 g1 tt1 te vs vs1 δ d acc μ' (Pv (i + 1))) ∧ (∀ acc μ', Pv ds.length acc μ' → Q (.dat (.lst acc)) μ')) :
    RD K (tLc2 (iTup K tl) g tt (iTup K tl1) g1 tt1 te vs vs1) δ μ Q := fun Lc I H σ F s QQ p =>
  h Lc I H σ F s _ fun v I1 H1 r μ1 F1 st f s1 ok ⟨ds, er, Pv, p0, ps, pd⟩ => by
    subst er
    cases ok with
    | tup hs hr =>
      rename_i ad xs
      have w := walk_tup (K := K) (a := ad) (xs := xs)
      refine ⟨ad, rfl, ⟨xs, s1.ih.t hs⟩, fun L hL => ?_⟩
      refine ⟨fun i m H2 => m = xs.length - i ∧ i ≤ xs.length ∧ LcAt K Lc I1 H1 σ δ F1 L (Pv i) H2, ⟨xs.length, by simp, Nat.zero_le _, lc_start s1 hL p0⟩, ?_⟩
      rintro i m H2 ⟨rfl, hi, a2⟩
      have g2 : SqT K H2 ad xs := by
        obtain ⟨I2, μ2, F2, ac2, aV2, st2, f2, s2, _⟩ := a2
        exact s2.ih.t (st2.ii.t hs)
      by_cases hlt : i < xs.length
      · refine .inr ⟨w.goes i H2 hlt g2, LcAt K Lc I1 H1 σ δ F1 L (Pv (i + 1)), fun H' p' => ⟨xs.length - (i + 1), by omega, rfl, hlt, p'⟩, fun y H6 hy => ?_⟩
        obtain ⟨rfl, hx⟩ := w.yields i H2 y H6 hlt g2 hy
        obtain ⟨e, he, re⟩ := repl_get hr hx
        exact lc_open s1.sl tg tg1 hL a2 re fun acc5 μ5 pv5 => ps i e acc5 μ5 he pv5
      · have e : i = xs.length := by omega
        subst e
        refine .inl ⟨w.stops H2 g2, ?_⟩
        rw [repl_len hr] at a2
        exact lc_end s1 hL (p.on st f) a2 pd
end
end DL
/-! A promise of a new list; lists that still change, compared; isinstance of an own class. -/
namespace DL
open PySem L2
open PyProof.Rows (envOfC)
abbrev CL := List Da → (List Da → Prop) → Prop
/-- from data to a new list, which the caller may change -/
def spL (K : PySem.W.Frag) (n : Nat) (C : CL) : Sp := fun vs H Q _ => vs.length = n ∧ ∃ I ds R, Ex I H ∧ RepL K I vs ds ∧ C ds R ∧
  ∀ p I' H' es, Step [] I H I' H' → Ex I' H' → H p = none → I' p = none → (∃ xs, H' p = some (.lst xs) ∧ RepL K I' xs es) → R es → Q (.ref p) H'
section
variable {P : Program} {w : World} {K : PySem.W.Frag} {mg : Str → Option Value} {base : Heap} {x qual : Str} {st : Stmt} {f : Addr} {fd : FuncData} {N ps : List Str} {k n : Nat}
theorem fn_L {C : CL} (F : Fun K x qual st f fd) (S : FnScope N ps (defScope st)) (hn : ps.length = n)
    (body : ∀ (cdv : Value) (A : Around) (outer : List Env) (s : Shared) (H : Hp) (E : XK), RmG k (A.deeper (envOfC qual (defScope st) s.heap.objs.size f cdv)) →
      ∃ t, PSs (cxOf CX0 P w K mg base N qual (defScope st) f cdv A outer s H E).nox (defBody st) t ∧ ∀ ds R, ds.length = n → C ds R → RS K t (startD N (dats ds)) [] { nx := fun _ _ => False, rt := fun r μ' => ∃ (a : Addr) (i : Nat) (es : List Da), r = .own a ∧ μ'[i]? = some (a, MK.ml es, true) ∧ R es }) :
    FnG P w K mg base CX0 (k + 1) f fd ps (spL K n C) := by
  refine fng_of F S (fun vs H Q E h => h.1.trans hn.symm) fun cdv A outer s H vs Q E hr h => ?_
  obtain ⟨hl, I, ds, R, e, r, c, q⟩ := h
  obtain ⟨t, ht, hb⟩ := body cdv A outer s H E hr
  refine ⟨t, ht.nox, hb ds R ((repl_len r).symm.trans hl) c I H [] I I H _ [] { st := Step.refl _ _ _, sub := fun x hx => (nomatch hx), s := ⟨e, fun _ z => z, slok_start (slok_dats r), .nil⟩, ib := Ex.refl _ } _ ⟨fun I1 H1 σ1 δ1 μ1 F1 a qr => qr.elim, fun v r I1 H1 σ1 δ1 μ1 F1 a ok qr => ?_, fun _ _ _ _ _ _ _ z => z.elim, fun _ _ _ _ _ _ _ z => z.elim⟩⟩
  obtain ⟨p, i, es, er, hi, hR⟩ := qr
  subst er
  have ev : v = .ref p := ok
  subst ev
  obtain ⟨Fi, m, sF, lF, _⟩ := a.s.mu.at hi
  have hm := sF p m.mem
  have hlc := lF rfl p m.mem
  obtain ⟨rfl, xs, hx, rx⟩ := m
  exact q p I1 H1 es a.st a.s.ih hlc (a.s.mu.live p hm).1 ⟨xs, hx, rx⟩ hR
end
section
variable {K : PySem.W.Frag} {δ : List SK} {μ : Mu} {Q : SK → Mu → Prop} {te tl tl1 : TE} {ta : TE} {tr : TA} {tt tt1 : TT} {g g1 : TG} {vs vs1 : List Nat} {n : Nat} {E0' : XK}
theorem rd_methL {Cl : Addr} {m : Str} {C : CL} (h : RD K ta δ μ fun r μ1 => ∃ fs, r = .dat (.obj Cl fs) ∧ fs.lookup m = none ∧ RA K tr δ μ1 fun rs μ2 => ∃ ds, unD rs = some ds ∧ ds.length = n ∧ C (.obj Cl fs :: ds) fun es => ∀ a, Q (.own a) ((a, MK.ml es, true) :: μ2)) : RD K (tMeth Cl m (spL K (n + 1) C) [] E0' ta tr) δ μ Q := fun Lc I H σ F s QQ p =>
  h Lc I H σ F s _ fun v I1 H1 r μ1 F1 st f s1 ok ⟨fs, er, hn, ha⟩ => by
    subst er
    cases ok with
    | obj ho hf =>
      refine ⟨_, _, _, rfl, s1.ih _ _ ho, repF_none hf hn, ?_⟩
      refine ha Lc I1 H1 σ F1 s1 _ fun vs I2 H2 rs μ2 F2 st2 f2 s2 ok2 ⟨ds, eu, hl, c⟩ => ?_
      have er := unD_dats eu
      subst er
      have r := repl_of ok2
      have ro := Rep.mono st2.ii (Rep.obj ho hf)
      refine ⟨by rw [List.append_nil, List.length_cons, repl_len r, hl], I2, _, _, s2.ih, by rw [List.append_nil]; exact .cons ro r, c, fun a I3 H3 es st3 e3 ha hIa hx q => ?_⟩
      have s3 := s2.grow st3 (fun x hx => nomatch hx) e3
      obtain ⟨xs, hxs, rx⟩ := hx
      have fA := sub_trans st f f2
      refine p (.ref a) I3 H3 (.own a) _ (a :: F2) ((st.trans st2 f).trans (st3.wide (G := F2) fun x hx => nomatch hx) fA) (fun x hx => ?_) ⟨s3.ih, s3.lc, s3.sl, ?_⟩ rfl (q a)
      · rcases List.mem_cons.mp hx with z | z
        · rw [z]; exact .inr ((st.trans st2 f).gone ha)
        · exact fA x z
      · refine MuOk.cons (F := [a]) ⟨rfl, xs, hxs, rx⟩ ?_ ?_ (by simp) ?_ s3.mu
        · intro x hx
          have : x = a := by simpa using hx
          rw [this]; exact hIa
        · intro x hx z
          have : x = a := by simpa using hx
          exact (s2.mu.live x z).2 (by rw [this]; exact ha)
        · intro _ x hx
          have : x = a := by simpa using hx
          rw [this]; exact s2.lc a ha
theorem lc_endO {Lc : Addr → Prop} {I1 H1 H : Hp} {σ : St} {F1 : List Addr} {L : Addr} {Pv : List Da → Mu → Prop} {QQ : VK} (s1 : Sta K Lc I1 H1 σ δ μ F1) (hL : H1 L = none) (p : Post K Lc σ δ F1 I1 H1 Q QQ) (h : LcAt K Lc I1 H1 σ δ F1 L Pv H) (q : ∀ acc μ', Pv acc μ' → ∀ a, Q (.own a) ((a, MK.ml acc, true) :: μ')) : QQ (.ref L) H := by
  obtain ⟨I, μ', F, acc, accV, st, f, s, hH, r, hF, hI, pv⟩ := h
  refine p (.ref L) I H (.own L) _ (L :: F) st (fun x hx => ?_) ⟨s.ih, s.lc, s.sl, ?_⟩ rfl (q acc μ' pv L)
  · rcases List.mem_cons.mp hx with z | z
    · rw [z]; exact .inr hL
    · exact f x z
  · refine MuOk.cons (F := [L]) ⟨rfl, accV, hH, r⟩ ?_ ?_ (by simp) ?_ s.mu
    · intro x hx
      have : x = L := by simpa using hx
      rw [this]; exact hI
    · intro x hx z
      have : x = L := by simpa using hx
      exact hF (this ▸ z)
    · intro _ x hx
      have : x = L := by simpa using hx
      rw [this]; exact s1.lc L hL
theorem rd_lc2O (tg : TgIn g vs) (tg1 : TgIn g1 vs1) (h : RD K tl δ μ fun r μ1 => ∃ ds, r = .dat (.tup ds) ∧ ∃ Pv : Nat → List Da → Mu → Prop, Pv 0 [] μ1 ∧
      (∀ i d acc μ', ds[i]? = some d → Pv i acc μ' → LcOpen K g tt tl1 g1 tt1 te vs vs1 δ d acc μ' (Pv (i + 1))) ∧ (∀ acc μ', Pv ds.length acc μ' → ∀ a, Q (.own a) ((a, MK.ml acc, true) :: μ'))) :
    RD K (tLc2 (iTup K tl) g tt (iTup K tl1) g1 tt1 te vs vs1) δ μ Q := fun Lc I H σ F s QQ p =>
  h Lc I H σ F s _ fun v I1 H1 r μ1 F1 st f s1 ok ⟨ds, er, Pv, p0, ps, pd⟩ => by
    subst er
    cases ok with
    | tup hs hr =>
      rename_i ad xs
      have w := walk_tup (K := K) (a := ad) (xs := xs)
      refine ⟨ad, rfl, ⟨xs, s1.ih.t hs⟩, fun L hL => ?_⟩
      refine ⟨fun i m H2 => m = xs.length - i ∧ i ≤ xs.length ∧ LcAt K Lc I1 H1 σ δ F1 L (Pv i) H2, ⟨xs.length, by simp, Nat.zero_le _, lc_start s1 hL p0⟩, ?_⟩
      rintro i m H2 ⟨rfl, hi, a2⟩
      have g2 : SqT K H2 ad xs := by
        obtain ⟨I2, μ2, F2, ac2, aV2, st2, f2, s2, _⟩ := a2
        exact s2.ih.t (st2.ii.t hs)
      by_cases hlt : i < xs.length
      · refine .inr ⟨w.goes i H2 hlt g2, LcAt K Lc I1 H1 σ δ F1 L (Pv (i + 1)), fun H' p' => ⟨xs.length - (i + 1), by omega, rfl, hlt, p'⟩, fun y H6 hy => ?_⟩
        obtain ⟨rfl, hx⟩ := w.yields i H2 y H6 hlt g2 hy
        obtain ⟨e, he, re⟩ := repl_get hr hx
        exact lc_open s1.sl tg tg1 hL a2 re fun acc5 μ5 pv5 => ps i e acc5 μ5 he pv5
      · have e : i = xs.length := by omega
        subst e
        refine .inl ⟨w.stops H2 g2, ?_⟩
        rw [repl_len hr] at a2
        exact lc_endO s1 hL (p.on st f) a2 pd
/-- isinstance(x, T), x a list that still changes -/
theorem isi_own {T : String} {b : Bool} {a : Addr} {i : Nat} {ds : List Da} {fl : Bool} (hi : μ[i]? = some (a, MK.ml ds, fl)) (hb : kitB "list" T = some b) (q : Q (.dat (.bl b)) μ) : RC K (rIsi K) [.own a, .dat (.ty T)] δ μ Q := fun Lc I H σ F s vs c QQ p => by
  obtain ⟨v, w, rfl, ov, ow⟩ := vals2 c
  cases ow
  have ev : v = .ref a := ov
  subst ev
  obtain ⟨Fi, m, _⟩ := s.mu.at hi
  obtain ⟨_, xs, hx, rx⟩ := m
  exact ⟨.ref a, .ty T, .type "list", .type T, b, rfl, .ty T, .base (.lst hx), kit_ty hb, p.now (v := .bl _) (r := .dat (.bl _)) s (Rep.bl _) q⟩
/-- isinstance(x, C), C an own class -/
theorem isi_cls {d : Da} {C : Addr} {tb : Value} {b : Bool} (ty : TyD K d tb) (hb : PySem.W.kitOne K tb (.ref C) = some b) (q : Q (.dat (.bl b)) μ) : RC K (rIsi K) [.dat d, .dat (.cls C)] δ μ Q := fun Lc I H σ F s vs a QQ p => by
  obtain ⟨v, w, rfl, ov, ow⟩ := vals2 a
  cases ow
  exact ⟨v, .ref C, tb, .ref C, b, rfl, .own C, ty s.ih ov, hb, p.now (v := .bl _) (r := .dat (.bl _)) s (Rep.bl _) q⟩
/-- x != y, x a list that still changes, y data -/
theorem ne_own {a : Addr} {i : Nat} {ds : List Da} {fl : Bool} (hi : μ[i]? = some (a, MK.ml ds, fl)) (hd : shp (.lst ds) = true) (q : Q (.dat (.bl false)) μ) : RR K (rNE K) (.own a) (.dat (.lst ds)) δ μ Q := rr_or2 fun Lc I H σ F s v w ox oy QQ p => by
  have ev : v = .ref a := ox
  subst ev
  obtain ⟨Fi, m, _⟩ := s.mu.at hi
  obtain ⟨_, xs, hx, rx⟩ := m
  have hp := shp_plain hd
  refine ⟨py (.lst ds), py (.lst ds), ?_, rep_dp s.ih oy hp, shp_shaped hd, shp_shaped hd, ?_⟩
  · exact .lst (SqL.of hx) (repl_dp s.ih rx hp)
  · rw [SeqAt.eqv_refl _ (plain_lay _ hp)]
    exact p.now (v := .bl _) (r := .dat (.bl _)) s (Rep.bl _) q
end
end DL
/-! what stands behind the top: a plain class, its methods, constants. -/
namespace DL
open PySem L2 PySem.Spec PyProof.Rows
section
variable {K : PySem.W.Frag} {h : Heap} {mg : Str → Option Value} {x m qual : Str} {st : Stmt} {ps : List Str} {f C : Addr} {oc kV doc pm cd ct : Value} {od an : Option Addr} {sl : Array (Option Value)}
theorem mk_cls (X : K.In h) (ga : PySem.W.findIn K (.ref C) "__getattribute__" = some (some (.builtin "object.__getattribute__"))) (gt : PySem.W.findIn K (.ref C) "__getattr__" = some none) (hd : PySem.W.hasDictIn K C = true) (po : PySem.W.plainOver K C = true)
    (sa : PySem.W.findIn K (.ref C) "__setattr__" = some (some (.builtin "object.__setattr__"))) : Cls K C := ⟨by
  unfold PySem.W.plainGet
  rw [ga, gt]
  simp, hd, po, sa⟩
theorem mk_meth (X : K.In h) (i : PySem.W.findIn K (.ref C) m = some (some (.ref f))) (t : PySem.W.typeIn K (.ref f) = some (.type "function"))
    (l : K.lookup f = some ⟨oc, od, .func (PySem.W.fnOf m qual (defArgs st) (defBody st) (defScope st) .none kV doc pm an cd ct), sl⟩) (c : PySem.W.codeIn K cd qual = true) (k : PySem.W.keepIn K (.ref f) = true)
    (b : ∀ (kV doc pm : Value) (an : Option Addr) (cdv ct : Value) (us : List Value), us.length = ps.length → bindArgs (PySem.W.fnOf m qual (defArgs st) (defBody st) (defScope st) .none kV doc pm an cdv ct) ⟨us, []⟩ = pure (ps.zip us)) : MethAt K C m qual st ps :=
  ⟨f, _, fun_mk l c k, ⟨i, by unfold PySem.W.isFn; rw [t]; simp, k⟩, .all (b kV doc pm an cd ct)⟩
theorem mk_init (X : K.In h) (G : h.Ns mainGlobals mg) (mk : PySem.W.makesIn K C = true) (i : PySem.W.findIn K (.ref C) "__init__" = some (some (.ref f))) (t : PySem.W.typeIn K (.ref f) = some (.type "function"))
    (l : K.lookup f = some ⟨oc, od, .func (PySem.W.fnOf "__init__" qual (defArgs st) (defBody st) (defScope st) .none kV doc pm an cd ct), sl⟩) (c : PySem.W.codeIn K cd qual = true) (k : PySem.W.keepIn K (.ref f) = true)
    (a : PySem.W.nsIn K mainGlobals x = some (some (.ref C))) (kp : PySem.W.keepIn K (.ref C) = true)
    (b : ∀ (kV doc pm : Value) (an : Option Addr) (cdv ct : Value) (us : List Value), us.length = ps.length → bindArgs (PySem.W.fnOf "__init__" qual (defArgs st) (defBody st) (defScope st) .none kV doc pm an cdv ct) ⟨us, []⟩ = pure (ps.zip us)) : InitAt K mg x C qual st ps :=
  ⟨f, _, fun_mk l c k, ⟨mk, i, by unfold PySem.W.isFn; rw [t]; simp, kp⟩, PySem.W.mg_of X G a, .all (b kV doc pm an cd ct)⟩
theorem mk_str {z : Str} {t : Tok} (X : K.In h) (G : h.Ns mainGlobals mg) (e : PySem.W.nsIn K mainGlobals x = some (some (.str z t))) : ∃ u, mg x = some u ∧ RelV (.str z) u := ⟨_, PySem.W.mg_of X G e, t, rfl⟩
theorem mk_int {z : Int} {t : Tok} (X : K.In h) (G : h.Ns mainGlobals mg) (e : PySem.W.nsIn K mainGlobals x = some (some (.int z t))) : ∃ u, mg x = some u ∧ RelV (.int z) u := ⟨_, PySem.W.mg_of X G e, t, rfl⟩
theorem mk_ktup {l : List V} {arr : Array Value} {n : Nat} (X : K.In h) (e : K.lookup C = some ⟨.type "tuple", od, .seq arr n, sl⟩) (hz : arr.size ≤ sizeLine) (v : Vals l arr.toList) : ∀ H : Hp, SqT K H C l := fun H =>
  .inr ⟨_, arr, n, e, rfl, rfl, hz, v⟩
theorem mk_nf {t : Value} (X : K.In h) (e : PySem.W.subIn K t (.ref C) = some false) : PySem.W.notFirst K C t = true := by
  unfold PySem.W.notFirst
  rw [e]; simp
theorem mk_nfo (X : K.In h) : PySem.W.notFirst K C (.ref C) = true := by
  unfold PySem.W.notFirst
  simp
theorem mk_mro (X : K.In h) {v : Value} (e : PySem.W.mroIn K C v = some true) : PySem.W.mroIn K C v = some true := e
theorem mk_slot (X : K.In h) {v : Value} (e : PySem.W.findIn K (.ref C) x = some (some v)) : PySem.W.findIn K (.ref C) x = some (some v) := e
theorem mk_kt {t : Value} (X : K.In h) (e : PySem.W.kitOne K t (.ref C) = some false) : PySem.W.kitOne K t (.ref C) = some false := e
end
end DL
/-! Defs that raise exceptions of own classes, and try, over the worth of values. -/
namespace DL
open PySem L2
open PyProof.Rows (envOfC)
/-! ### what an exception that is let out is worth -/
abbrev Xp := Addr → List (Str × Da) → Prop
/-- W is reached by an exception of a class and fields as P says -/
def YOk (K : PySem.W.Frag) (I0 H0 : Hp) (F0 : List Addr) (Ib : Hp) (P : Addr → List (Str × Da) → List SK → Mu → Prop) (W : WX) : Prop :=
  ∀ I H σ δ μ F, At K I0 H0 F0 Ib I H σ δ μ F → ∀ (Cl dx : Addr) (xs : List (Str × V)) (fs : List (Str × Da)), I dx = some (.xd xs) → RepF K I xs fs → P Cl fs δ μ → W (.ref Cl) (some dx) σ H
/-- statements that may raise -/
def RY (K : PySem.W.Frag) (t : TS) (δ : List SK) (μ : Mu) (E : DE) (P : Addr → List (Str × Da) → List SK → Mu → Prop) (W : WX) : Prop :=
  ∀ I0 H0 F0 Ib I H σ F, At K I0 H0 F0 Ib I H σ δ μ F → ∀ D : Ends, EOk K I0 H0 F0 Ib E D → YOk K I0 H0 F0 Ib P W → t D σ H
def XPost (K : PySem.W.Frag) (Lc : Addr → Prop) (σ : St) (δ : List SK) (F : List Addr) (I H : Hp) (P : Addr → List (Str × Da) → Mu → Prop) (W : WX) : Prop :=
  ∀ I' H' μ' F', Step F I H I' H' → (∀ x ∈ F', x ∈ F ∨ H x = none) → Sta K Lc I' H' σ δ μ' F' → ∀ (Cl dx : Addr) (xs : List (Str × V)) (fs : List (Str × Da)), I' dx = some (.xd xs) → RepF K I' xs fs → P Cl fs μ' → W (.ref Cl) (some dx) σ H'
/-- expressions that may raise -/
def RDx (K : PySem.W.Frag) (te : TE) (δ : List SK) (μ : Mu) (Q : SK → Mu → Prop) (P : Addr → List (Str × Da) → Mu → Prop) (W : WX) : Prop :=
  ∀ Lc I H σ F, Sta K Lc I H σ δ μ F → ∀ QQ : VK, Post K Lc σ δ F I H Q QQ → XPost K Lc σ δ F I H P W → te σ H QQ
section
variable {K : PySem.W.Frag} {δ : List SK} {μ : Mu} {E : DE} {Q : SK → Mu → Prop} {P : Addr → List (Str × Da) → List SK → Mu → Prop} {p : Addr → List (Str × Da) → Mu → Prop} {W : WX} {t u : TS} {te ta tb : TE} {tr : TA} {tt : TT}
theorem XPost.on {Lc : Addr → Prop} {σ : St} {F F1 : List Addr} {I H I1 H1 : Hp} (x : XPost K Lc σ δ F I H p W) (st : Step F I H I1 H1) (f : ∀ y ∈ F1, y ∈ F ∨ H y = none) : XPost K Lc σ δ F1 I1 H1 p W :=
  fun I' H' μ' F' st' f' s' => x I' H' μ' F' (st.trans st' f) (sub_trans st f f') s'
theorem ry_lift (h : RS K t δ μ E) : RY K t δ μ E P W := fun I0 H0 F0 Ib I H σ F a D e _ => h I0 H0 F0 Ib I H σ F a D e
theorem ry_seq (h : RY K t δ μ { E with nx := fun δ' μ' => RY K u δ' μ' E P W } P W) : RY K (tSeq t u) δ μ E P W := fun I0 H0 F0 Ib I H σ F a D e x =>
  h I0 H0 F0 Ib I H σ F a _ ⟨fun I1 H1 σ1 δ1 μ1 F1 a1 q1 => q1 I0 H0 F0 Ib I1 H1 σ1 F1 a1 D e x, e.rt, e.bk, e.ct⟩ x
theorem ry_if (h : RT K tt δ μ fun b μ1 => (b = true → RY K t δ μ1 E P W) ∧ (b = false → RY K u δ μ1 E P W)) : RY K (tIfS tt t u) δ μ E P W := fun I0 H0 F0 Ib I H σ F a D e x =>
  h _ I H σ F a.s _ fun b I1 H1 μ1 F1 st f s1 q => by
    cases b with
    | true => exact q.1 rfl I0 H0 F0 Ib I1 H1 σ F1 (a.on st f s1) D e x
    | false => exact q.2 rfl I0 H0 F0 Ib I1 H1 σ F1 (a.on st f s1) D e x
theorem ry_set {i : Nat} (h : RDx K te δ μ (fun r μ1 => E.nx (δ.set i r) μ1) (fun C fs μ1 => P C fs δ μ1) W) : RY K (tAsg te (gName i)) δ μ E P W := fun I0 H0 F0 Ib I H σ F a D e x =>
  h _ I H σ F a.s _ (fun v I1 H1 r μ1 F1 st f s1 ok q => e.nx I1 H1 (σ.set i (some v)) (δ.set i r) μ1 F1 ⟨a.st.trans st a.sub, sub_trans a.st a.sub f, s1.set ok i, a.ib.trans st.ii⟩ q)
    fun I1 H1 μ1 F1 st f s1 Cl dx xs fs hx rf hp => x I1 H1 σ δ μ1 F1 (a.on st f s1) Cl dx xs fs hx rf hp
theorem ry_ret (h : RDx K te δ μ (fun r μ1 => E.rt r μ1) (fun C fs μ1 => P C fs δ μ1) W) : RY K (tRet te) δ μ E P W := fun I0 H0 F0 Ib I H σ F a D e x =>
  h _ I H σ F a.s _ (fun v I1 H1 r μ1 F1 st f s1 ok q => e.rt v r I1 H1 σ δ μ1 F1 (a.on st f s1) ok q)
    fun I1 H1 μ1 F1 st f s1 Cl dx xs fs hx rf hp => x I1 H1 σ δ μ1 F1 (a.on st f s1) Cl dx xs fs hx rf hp
theorem ry_drop (h : RDx K te δ μ (fun _ μ1 => E.nx δ μ1) (fun C fs μ1 => P C fs δ μ1) W) : RY K (tDrop te) δ μ E P W := fun I0 H0 F0 Ib I H σ F a D e x =>
  h _ I H σ F a.s _ (fun v I1 H1 r μ1 F1 st f s1 ok q => e.nx I1 H1 σ δ μ1 F1 (a.on st f s1) q)
    fun I1 H1 μ1 F1 st f s1 Cl dx xs fs hx rf hp => x I1 H1 σ δ μ1 F1 (a.on st f s1) Cl dx xs fs hx rf hp
theorem rdx_lift (h : RD K te δ μ Q) : RDx K te δ μ Q p W := fun Lc I H σ F s QQ q _ => h Lc I H σ F s QQ q
theorem rdx_op {r : R2} (h : RDx K ta δ μ (fun x μ1 => RDx K tb δ μ1 (fun y μ2 => RR K r x y δ μ2 Q) p W) p W) : RDx K (tOp r ta tb) δ μ Q p W := fun Lc I H σ F s QQ q x =>
  h Lc I H σ F s _ (fun v I1 H1 rv μ1 F1 st1 f1 s1 ok1 h2 => h2 Lc I1 H1 σ F1 s1 _ (fun w I2 H2 rw μ2 F2 st2 f2 s2 ok2 h3 =>
    h3 Lc I2 H2 σ F2 s2 v w (SOk.mono st2.ii ok1) ok2 QQ (q.on (st1.trans st2 f1) (sub_trans st1 f1 f2))) (x.on st1 f1)) x
end
/-! ### a promise that may raise -/
abbrev CY := List Da → (Da → Prop) → Xp → Prop
def spR (K : PySem.W.Frag) (n : Nat) (C : CY) : Sp := fun vs H Q E => vs.length = n ∧ ∃ I ds R P, Ex I H ∧ RepL K I vs ds ∧ C ds R P ∧ (∀ v I' H' d, Step [] I H I' H' → Ex I' H' → Rep K I' v d → R d → Q v H') ∧
  ∀ (Cl : Addr) I' H' (dx : Addr) (xs : List (Str × V)) (fs : List (Str × Da)), Step [] I H I' H' → Ex I' H' → I' dx = some (.xd xs) → RepF K I' xs fs → P Cl fs → E (.ref Cl) (some dx) H'
section
variable {P : Program} {w : World} {K : PySem.W.Frag} {mg : Str → Option Value} {base : Heap} {x qual : Str} {st : Stmt} {f : Addr} {fd : FuncData} {N ps : List Str} {k n : Nat}
theorem fn_R {C : CY} (F : Fun K x qual st f fd) (S : FnScope N ps (defScope st)) (hn : ps.length = n)
    (body : ∀ (cdv : Value) (A : Around) (outer : List Env) (s : Shared) (H : Hp) (E : XK), RmG k (A.deeper (envOfC qual (defScope st) s.heap.objs.size f cdv)) →
      ∃ t, PSs (cxOf (L2.CX P w) P w K mg base N qual (defScope st) f cdv A outer s H E) (defBody st) t ∧ ∀ ds R W, ds.length = n → C ds R W → RY K t (startD N (dats ds)) [] { nx := fun _ _ => R .non, rt := fun r _ => ∃ d, r = .dat d ∧ R d } (fun Cl fs _ _ => W Cl fs) (fun cls d _ H => E cls d H)) :
    FnG P w K mg base (L2.CX P w) (k + 1) f fd ps (spR K n C) := by
  refine fng_of F S (fun vs H Q E h => h.1.trans hn.symm) fun cdv A outer s H vs Q E hr h => ?_
  obtain ⟨hl, I, ds, R, W, e, r, c, q, qx⟩ := h
  obtain ⟨t, ht, hb⟩ := body cdv A outer s H E hr
  refine ⟨t, ht, hb ds R W ((repl_len r).symm.trans hl) c I H [] I I H _ [] { st := Step.refl _ _ _, sub := fun x hx => (nomatch hx), s := ⟨e, fun _ z => z, slok_start (slok_dats r), .nil⟩, ib := Ex.refl _ } _ ⟨fun I1 H1 σ1 δ1 μ1 F1 a qr => q .non I1 H1 .non a.st a.s.ih .non qr, fun v r I1 H1 σ1 δ1 μ1 F1 a ok qr => ?_, fun _ _ _ _ _ _ _ z => z.elim, fun _ _ _ _ _ _ _ z => z.elim⟩ ?_⟩
  · obtain ⟨d, er, hR⟩ := qr
    subst er
    exact q v I1 H1 d a.st a.s.ih ok hR
  · intro I1 H1 σ1 δ1 μ1 F1 a Cl dx xs fs hx rf hp
    exact qx Cl I1 H1 dx xs fs a.st a.s.ih hx rf hp
end
/-! ### a call of one that may raise -/
def tMethS (C : Addr) (m : Str) (sp : Sp) (W : WX) (ta : TE) (t : TA) : TE := fun σ H Q => ta σ H fun x H1 => ∃ a dx fs, x = .ref a ∧ H1 a = some (.ins C dx fs) ∧ fs.lookup m = none ∧ t σ H1 fun vs H2 => sp (x :: vs) H2 Q (fun cls d H => W cls d σ H)
section
variable {X : Cx} {k j : Nat} {f C : Addr} {fd : FuncData} {ps : List Str} {sp : Sp} {W : WX} {x m : Str} {p pos apos : Pos} {e o : Expr} {es : List Expr} {ta : TE} {t : TA}
theorem goGS {pins : List (Addr × Obj)} {σ : St} {H : Hp} {s : Shared} {Q : VK} {us : List Value} {vs : List V} (F : FnG X.prog X.w X.K X.mg X.base (L2.CX X.prog X.w) k f fd ps sp) (hr : RmG k X.A) (hb : Binds X.K fd ps []) (tk : Takes X W)
    (I : Inv X pins σ H s) (r : Vals vs us) (h : sp vs H Q (fun cls d H => W cls d σ H)) : wpAny (model X.prog X.w) X.A (call (.ref f) us) (EP X pins σ Q) X.xe s := by
  have hl : us.length = ps.length := r.length.symm.trans (F.len _ _ _ _ h)
  have hb' : BindsTo s fd ⟨us, []⟩ (ps.zip us) := by
    have z := hb s us I.kIn (by rw [List.append_nil]; exact hl)
    rw [List.append_nil] at z
    exact z
  refine wpAny_call (codeAny_mono (F.go X.A X.stack s H ⟨us, []⟩ us vs Q _ hr I.env0 hb' r h) ?_)
  intro res s' hq
  match res, hq with
  | .error er, hq => exact passAt tk σ pins H s er s' I hq
  | .ok (.ret u), hq => exact I.after hq
  | .ok .next, hq => exact hq.elim
  | .ok .brk, hq => exact hq.elim
  | .ok .cont, hq => exact hq.elim
theorem pe_mgS {pl : Sem Bool} (c : MetG X.prog X.w X.K X.mg X.base (L2.CX X.prog X.w) k C m sp) (hr : RmG j X.A) (hk : k ≤ j) (tk : Takes X W) (he : PE X o ta) (ha : PA X (e :: es) t)
    (hst : starEach (e :: es) X.env = (false, eval e X.env) :: starEach es X.env := by rfl) (hpl : (backTo pos (starEach es X.env)).any (·.1) = false := by rfl)
    (ht : eval (.Call (.Attribute o m apos) (e :: es) [] pos) X.env = (do let ov ← eval o X.env; standAt apos.atName; let (f, first) ← holding [ov] (getMethod ov m pl); callWith pos f first (backTo pos (starEach (e :: es) X.env)) (backToKw pos (keywordEach [] X.env))) := by rfl) :
    PE X (.Call (.Attribute o m apos) (e :: es) [] pos) (tMethS C m sp W ta t) := by
  obtain ⟨f, fd, ps, cl, me, F, b⟩ := c.ex
  refine ⟨fun pins s σ H Q I h => PySem.W.methodCall_KW (pl := pl) (thn (he.run pins s σ H _ I h) ?_) ht⟩
  rintro u s1 ⟨y, H1, I1, ry, a, dx, fs, ey, ea, l, q⟩
  subst ey
  cases (show u = Value.ref a from ry)
  refine getmeth_ok I1 ea cl me l (PySem.W.callWith_K (first := [.ref a]) (h₀ := X.base) I.ok.mod.kin me.kp (thn (ha.run pos pins s1 σ H1 _ I1 q) ?_) hst hpl)
  rintro us s2 ⟨vs, H2, I2, r, q2⟩
  exact ⟨I2.kIn, goGS (us := .ref a :: us) (vs := .ref a :: vs) F (hr.mono hk) b tk I2 (.cons rfl r) q2⟩
end
section
variable {K : PySem.W.Frag} {δ : List SK} {μ : Mu} {E : DE} {Q : SK → Mu → Prop} {p : Addr → List (Str × Da) → Mu → Prop} {W : WX} {te ta tb : TE} {tr : TA} {n : Nat}
theorem rdx_meth {Cl : Addr} {m : Str} {C : CY} (h : RD K ta δ μ fun r μ1 => ∃ fs, r = .dat (.obj Cl fs) ∧ fs.lookup m = none ∧ RA K tr δ μ1 fun rs μ2 => ∃ ds, unD rs = some ds ∧ ds.length = n ∧ C (.obj Cl fs :: ds) (fun d => Q (.dat d) μ2) (fun Cx fs => p Cx fs μ2)) :
    RDx K (tMethS Cl m (spR K (n + 1) C) W ta tr) δ μ Q p W := fun Lc I H σ F s QQ q x =>
  h Lc I H σ F s _ fun v I1 H1 r μ1 F1 st f s1 ok ⟨fs, er, hn, ha⟩ => by
    subst er
    cases ok with
    | obj ho hf =>
      refine ⟨_, _, _, rfl, s1.ih _ _ ho, repF_none hf hn, ?_⟩
      refine ha Lc I1 H1 σ F1 s1 _ fun vs I2 H2 rs μ2 F2 st2 f2 s2 ok2 ⟨ds, eu, hl, c⟩ => ?_
      have er := unD_dats eu
      subst er
      have r := repl_of ok2
      have ro := Rep.mono st2.ii (Rep.obj ho hf)
      have stA := st.trans st2 f
      have fA := sub_trans st f f2
      refine ⟨by rw [List.length_cons, repl_len r, hl], I2, _, _, _, s2.ih, .cons ro r, c, fun v I3 H3 d st3 e3 rv hq => ?_, fun Cx I3 H3 dx xs gs st3 e3 hx rf hp => ?_⟩
      · exact q v I3 H3 (.dat d) μ2 F2 (stA.trans (st3.wide (G := F2) fun x hx => nomatch hx) fA) fA (s2.grow st3 (fun x hx => nomatch hx) e3) rv hq
      · exact x I3 H3 μ2 F2 (stA.trans (st3.wide (G := F2) fun x hx => nomatch hx) fA) fA (s2.grow st3 (fun x hx => nomatch hx) e3) Cx dx xs gs hx rf hp
end
end DL
/-! raise, over the worth of values. -/
namespace DL
open PySem L2 PySem.Spec PyProof.Rows
/-- C(e, ..), to be raised -/
def tMkO2 (C : Addr) (n : Nat) (ix : List Nat) (sp : Sp) (ta : TA) : L2.St → Hp → XK → Prop := fun σ H Q => ta σ H fun vs H1 => vs.length = n ∧ (pick ix (vs ++ [])).length ≤ 1000 ∧ ∀ a, H1 a = none → sp (.ref a :: pick ix (vs ++ [])) (upd H1 a (exo a C none))
  (fun v H2 => v = .non ∧ ∃ (d : Addr) (fs : List (Str × V)), H2 a = some (exo a C (some d)) ∧ H2 d = some (exd d fs) ∧ H1 d = none ∧ Q (.ref C) (some d) (upd (del H2 a) d (.xd fs))) E0
section
variable {X : Cx} {k j n : Nat} {C : Addr} {ps : List Str} {ix : List Nat} {sp : Sp} {x qual : Str} {st : Stmt} {p pos pos' : Pos} {e : Expr} {es : List Expr} {t : TA} {W : WX}
theorem pmk_g (c : XG X.prog X.w X.K X.mg X.base k x qual st C ps sp) (hr : RmG j X.A) (hk : k + 1 ≤ j) (hb : KBxs qual st ps n [] ix) (hg : Gl X x) (ha : PA X (e :: es) t) (hn : n ≤ 100 := by decide)
    (hdb : (x == ("__debug__" : Str)) = false := by decide) (he : starEach (e :: es) X.env = (false, eval e X.env) :: starEach es X.env := by rfl) (hpl : (backTo pos (starEach es X.env)).any (·.1) = false := by rfl) :
    PMk X (.Call (.Name x p) (e :: es) [] pos) (tMkO2 C n ix sp t) := by
  intro pins s σ H Q I h
  obtain ⟨fI, fd, T, iC, tI, F1, hm, kV, doc, pm, an, cdv, ct, rfl⟩ := c.ex
  obtain ⟨nm, q, N, bs, bm, sn, sub, ab, col, dd, k0, k1, k2, k3, k5, hC, hbm⟩ := T.cls
  have hr' := hr.mono hk
  refine wpAny_Call_Name_kw (ld_glob I hg hm ?_ hdb)
  refine PySem.W.callWith_K (h₀ := X.base) I.ok.mod.kin T.kC (thn (ha.run pos pins s σ H _ I h) fun us s1 ⟨vs, H1, I1, r1, l1, lp, q1⟩ => ⟨I1.kIn, ?_⟩) he hpl
  show wpAny _ _ (call (.ref C) us) _ _ _
  obtain ⟨hp, g, dr, tk, os⟩ := s1
  have hn1 : H1 (hp.objs.size + 1) = none := I1.hok.fresh (Nat.le_succ _)
  have hq := q1 (hp.objs.size + 1) hn1
  have kk : ∀ b o, hp.get? b = some o → ((hp.push (PySem.W.kdv_tup us)).push (PySem.HandSPX.excO C hp.objs.size)).get? b = some o := fun b o z => Heap.get?_push_of_some _ (Heap.get?_push_of_some _ z)
  have hget : ((hp.push (PySem.W.kdv_tup us)).push (PySem.HandSPX.excO C hp.objs.size)).get? (hp.objs.size + 1) = some (PySem.HandSPX.excO C hp.objs.size) := by heap_get
  have I2 : Inv X pins σ (upd H1 (hp.objs.size + 1) (exo (hp.objs.size + 1) C none)) ⟨(hp.push (PySem.W.kdv_tup us)).push (PySem.HandSPX.excO C hp.objs.size), g, dr, tk, os⟩ :=
    I1.laid (t' := tk) (a := hp.objs.size + 1) (o := exo (hp.objs.size + 1) C none) (h' := (hp.push (PySem.W.kdv_tup us)).push (PySem.HandSPX.excO C hp.objs.size)) kk (Nat.le_succ _) (exo_ok hget)
  have rr : Vals (vs ++ []) (us ++ []) := r1.append .nil
  have r2 : Vals (V.ref (hp.objs.size + 1) :: pick ix (vs ++ [])) (Value.ref (hp.objs.size + 1) :: pick ix (us ++ [])) := .cons rfl (vals_pick rr ix)
  have hbt := BindsTo.of_eq (s := (⟨(hp.push (PySem.W.kdv_tup us)).push (PySem.HandSPX.excO C hp.objs.size), g, dr, tk, os⟩ : Shared)) (hb kV doc pm an cdv ct (Value.ref (hp.objs.size + 1)) us [] (r1.length.symm.trans l1) rfl)
  have hus : us.length ≤ sizeLine := by
    rw [← r1.length, l1, sizeLine_eq]
    omega
  refine wpAny_call (PySem.HandSPX.call_own PySem.F.excBase_ValueError (fun Y => PySem.HandSPX.refsVE_contains Y bm hbm) (I1.kIn _ _ hC) (PySem.W.looks_findIn I1.kIn iC) (fun self => PySem.W.bind_fn I1.kIn self tI) hus
    (codeAny_mono (F1.go _ X.stack _ _ ⟨Value.ref (hp.objs.size + 1) :: us, []⟩ (Value.ref (hp.objs.size + 1) :: pick ix (us ++ [])) _ _ E0 (hr'.make C us []) (I2.env0.make C us []) hbt r2 hq) fun r s' hq' => ?_))
  match r, hq' with
  | .error er, hq' => exact hq'.elim
  | .ok (.ret u), hq' =>
    obtain ⟨v, H2, os2, bare2, un2, hok2, rv, ev, d, fs, ea, ed, hd1, q2⟩ := hq'
    subst ev
    obtain ⟨h2, g2, d2, t2, os'⟩ := s'
    exact ⟨rv, mk_end (raises_own T.exC T.tyC) I1 (Nat.le_succ _) kk un2 hok2 os2 bare2 ea ed hd1 q2⟩
  | .ok .next, hq' => exact hq'.elim
  | .ok .brk, hq' => exact hq'.elim
  | .ok .cont, hq' => exact hq'.elim
/-- raise C(e, ..) -/
def tRaise (C : Addr) (n : Nat) (ix : List Nat) (sp : Sp) (ta : TA) (W : WX) : TS := fun _ σ H => tMkO2 C n ix sp ta σ H fun cls d H' => W cls d σ H'
theorem ps_raiseX (hc : X.calm = true) (tk : Takes X W) (c : XG X.prog X.w X.K X.mg X.base k x qual st C ps sp) (hr : RmG j X.A) (hk : k + 1 ≤ j) (hb : KBxs qual st ps n [] ix) (hg : Gl X x) (ha : PA X (e :: es) t) (hn : n ≤ 100 := by decide)
    (hdb : (x == ("__debug__" : Str)) = false := by decide) (he : starEach (e :: es) X.env = (false, eval e X.env) :: starEach es X.env := by rfl) (hpl : (backTo pos (starEach es X.env)).any (·.1) = false := by rfl) :
    PS X (.Raise (some (.Call (.Name x p) (e :: es) [] pos)) none pos') (tRaise C n ix sp t W) := ps_raise hc tk (pmk_g c hr hk hb hg ha hn hdb he hpl)
end
section
variable {K : PySem.W.Frag} {δ : List SK} {μ : Mu} {E : DE} {P : Addr → List (Str × Da) → List SK → Mu → Prop} {W : WX} {ta : TA} {n m : Nat} {ix : List Nat} {C : Addr}
theorem ry_raise {Cn : List Da → (List (Str × Da) → Prop) → Prop} (h : RA K ta δ μ fun rs μ1 => ∃ ds, unD rs = some ds ∧ ds.length = n ∧ (pick ix (ds ++ [])).length = m ∧ m ≤ 1000 ∧ Cn (pick ix (ds ++ [])) fun fs => P C fs δ μ1) :
    RY K (tRaise C n ix (spX K m C Cn) ta W) δ μ E P W := fun I0 H0 F0 Ib I H σ F at_ D e x =>
  h _ I H σ F at_.s _ fun vs I1 H1 rs μ1 F1 st f s1 ok ⟨ds, eu, hl, lm, lm2, c⟩ => by
    have er := unD_dats eu
    subst er
    have r := repl_of ok
    have a1 := at_.on st f s1
    have rp : RepL K I1 (pick ix (vs ++ [])) (pick ix (ds ++ [])) := repl_pick (by rw [List.append_nil, List.append_nil]; exact r) ix
    refine ⟨(repl_len r).trans hl, by rw [repl_len rp, lm]; exact lm2, fun a ha => ?_⟩
    have hIa : I1 a = none := s1.ih.gone ha
    have e0 : Ex I1 (upd H1 a (exo a C none)) := fun b o hb => by
      rw [upd_ne (ne_of_none (s1.ih b o hb) ha)]
      exact s1.ih b o hb
    refine ⟨by rw [List.length_cons, repl_len rp, lm], I1, a, _, _, _, rfl, e0, hIa, upd_same, rp, c, fun I2 H2 dx xs fs st2 e2 h1 h2 hne hIx hHx rf hp => ⟨rfl, dx, xs, h1, h2, ?_, ?_⟩⟩
    · rw [upd_ne hne] at hHx
      exact hHx
    · have hdx : H1 dx = none := by
        rw [upd_ne hne] at hHx
        exact hHx
      have h2a : I2 a = none := st2.own a (by rw [upd_same]; simp) hIa
      have kp : ∀ b o, H1 b = some o → upd (del H2 a) dx (.xd xs) b = some o := fun b o hb => by
        have nb : b ≠ a := ne_of_none hb ha
        rw [upd_ne (ne_of_none hb hdx), del_ne nb]
        exact st2.keep b o (by rw [upd_ne nb]; exact hb) (by simpa using nb)
      have eI : Ex I2 (upd I2 dx (.xd xs)) := Ex.new hIx
      have st3 : Step [] I1 H1 (upd I2 dx (.xd xs)) (upd (del H2 a) dx (.xd xs)) := ⟨st2.ii.trans eI, fun b o hb _ => kp b o hb, fun b hb hn => by
        have nb : b ≠ dx := fun z => hb (by rw [z]; exact hdx)
        rw [upd_ne nb]
        refine st2.own b ?_ hn
        by_cases z : b = a
        · rw [z, upd_same]; simp
        · rw [upd_ne z]; exact hb, fun b hb => by
        cases q : H1 b with
        | none => exact absurd q hb
        | some o => rw [kp b o q]; simp⟩
      have e3 : Ex (upd I2 dx (.xd xs)) (upd (del H2 a) dx (.xd xs)) := fun b o hb => by
        by_cases z : b = dx
        · rw [z, upd_same] at hb ⊢
          exact hb
        · rw [upd_ne z] at hb ⊢
          have nb : b ≠ a := ne_of_none hb h2a
          rw [del_ne nb]
          exact e2 b o hb
      have s3 := s1.grow st3 (fun x hx => nomatch hx) e3
      have a3 := a1.on (st3.wide (G := F1) fun x hx => nomatch hx) (fun x hx => .inl hx) s3
      exact x _ _ σ δ μ1 F1 a3 C dx xs fs upd_same (RepF.mono eI rf) hp
end
end DL
/-! try with several clauses that bear names. -/
namespace DL
open PySem L2 PySem.Spec PyProof.Rows
/-- a clause: the class, the slot of its name, the suite -/
abbrev Cl3 := Value × Nat × (Addr → Value → Option Addr → TS)
/-- the ends of a suite whose name goes -/
def endsA (D : Ends) (i : Nat) : Ends := { nx := fun σ' H' => D.nx (σ'.set i none) H', rt := D.rt, bk := fun σ' H' => D.bk (σ'.set i none) H', ct := fun σ' H' => D.ct (σ'.set i none) H' }
def wishA (K : PySem.W.Frag) (Wo : WX) (D : Ends) : List Cl3 → WX
  | [] => Wo
  | (c, i, ts) :: r => fun cls d σ H => ∃ b, PySem.W.exmOne K cls c = some b ∧ (b = true → ∀ a, H a = none → ts a cls d (endsA D i) (σ.set i (some (.ref a))) H) ∧ (b = false → wishA K Wo D r cls d σ H)
/-- the reading of a try -/
def tTryA (K : PySem.W.Frag) (Wo : WX) (l : List Cl3) (tb : WX → TS) : TS := fun D σ H => tb (wishA K Wo D l) D σ H
inductive HdsA (X : Cx) : List ExceptHandler → List Cl3 → Prop
  | nil : HdsA X [] []
  | cons {x nm : Str} {c : Value} {i : Nat} {ts : Addr → Value → Option Addr → TS} {s0 : Stmt} {su : List Stmt} {np hp : Pos} {hds : List ExceptHandler} {l : List Cl3} : X.N[i]? = some nm → X.env.kindOf nm = some .local → Names X x c →
      (∀ (a : Addr) (oe : Obj) (cls : Value) (d : Option Addr) (pn : List (Addr × Obj)), Zc cls d oe → (∃ vs, oe.data = .fields vs) → PSs (X.suite a ((a, oe) :: pn)) (s0 :: su) (ts a cls d)) → HdsA X hds l →
      HdsA X (.ExceptHandler (some (.Name x np)) (some nm) (s0 :: su) hp :: hds) ((c, i, ts) :: l)
section
variable {X : Cx} {body : List Stmt} {hd0 : ExceptHandler} {hds : List ExceptHandler} {l : List Cl3} {pos : Pos} {tb : WX → TS} {Wo : WX}
theorem ps_tryA (hN : X.N.Nodup) (hstk : X.stack = X.env :: X.outer) (hfrm : X.env.frame = some X.env.locals) (tk : Takes X Wo)
    (hbody : ∀ (W : WX) (pn : List (Addr × Obj)) (xe : Value → Shared → Prop), Takes (X.tr pn xe) W → PassesOwn (model X.prog X.w) X.A X.env xe → PSs (X.tr pn xe) body (tb W))
    (hh : HdsA X (hd0 :: hds) l) : PS X (.Try body (hd0 :: hds) [] [] pos) (tTryA X.K Wo l tb) := by
  refine ⟨fun pins st0 σ H D I h => ?_⟩
  have okX := I.ok
  have framesX : X.A.frames = some (X.env :: X.outer) := by rw [okX.frames, hstk]
  refine wpAny_Try_except ?_
  refine wpAny_mono ((hbody (wishA X.K Wo D l) (X.pn ++ pins) (fun e s₁ => wpAny (model X.prog X.w) X.A (noteFrame e X.env) (fun _ s₂ => wpAny (model X.prog X.w) X.A (setFlight e none) (fun _ s₃ =>
    wpAny (model X.prog X.w) X.A (handleBy e X.env (hd0 :: hds)) (SP X pins D) X.xe s₃) X.xe s₂) X.xe s₁) (fun u sx caught => ?_) PassesOwn.looking).run [] st0 σ H D (I.toTry _) h) (fun fl s1 ended => ?_) (fun e s1 he => he)
  · obtain ⟨a, B, sI, pi2, σx, Hx, cls, d, rfl, Jt, nb, up, sky, na, os, ag, wsh⟩ := caught
    have J : Inv X pins σx Hx sI := Jt.ofTry okX
    have sky2 : Sky B (X.env :: X.outer) a (Zc cls d) X.env.locals sx.heap := by rw [← hstk]; exact sky
    show wpAny (model X.prog X.w) X.A (noteFrame (.ref a) X.env) _ _ _
    refine Sky.land Zc.steady framesX hfrm sky2 fun h3 fl3 up3 => ?_
    have J3 : Inv X pins σx Hx { sx with heap := h3 } := J.landed nb fl3.1 (up.trans up3) os ag
    obtain ⟨o3, v3, get3, zc3, dat3⟩ := fl3.there
    have notIn : a ∉ frs (X.env :: X.outer) := fun hm => by
      obtain ⟨_, o', e', hnf⟩ := fl3.2.2.1.mem hm
      rw [get3] at e'
      cases e'
      exact hnf _ dat3
    have nL : a ≠ X.env.locals := fun z => notIn (List.mem_filterMap.mpr ⟨X.env, by simp, by rw [hfrm, z]⟩)
    have nF : a ∉ X.fs := fun hm => by
      obtain ⟨e, he, q⟩ := List.mem_filterMap.mp hm
      exact notIn (List.mem_filterMap.mpr ⟨e, List.mem_cons_of_mem _ he, q⟩)
    have S3 := J3.suite get3 dat3 na nL nF
    have go : ∀ {hs2 : List ExceptHandler} {l2 : List Cl3}, HdsA X hs2 l2 → wishA X.K Wo D l2 cls d σx Hx → wpAny (model X.prog X.w) X.A (handleBy (.ref a) X.env hs2) (SP X pins D) X.xe { sx with heap := h3 } := by
      intro hs2 l2 hk
      induction hk with
      | nil =>
        intro wsh
        refine wpAny_handleBy_nil ?_
        obtain ⟨_, _, _, oe, fv, T, oT, tr, got, _, gd, g1, _⟩ := id fl3
        unfold PySem.passOn
        refine wpAny_bind (wpAny_field got gd g1 ?_)
        rw [if_neg (show ¬ ((Value.ref T == Value.none) = true) from by simp)]
        have out : wpAny (model X.prog X.w) X.A (setFlight (.ref a) X.env.frame) (fun _ s4 => wpAny (model X.prog X.w) X.A (throw (.ref a) : Sem Flow) (SP X pins D) X.xe s4) X.xe { sx with heap := h3 } := by
          rw [hfrm]
          refine HandSPX.setFlight_upZ fl3 fun h4 hh4 up4 => wpAny_throw (tk _ _ ?_)
          exact ⟨a, B, sI, pins, σx, Hx, cls, d, rfl, J, nb, (up.trans up3).trans up4, .inr (.inr (by rw [hstk]; exact hh4)), na, os, ag, wsh⟩
        first
          | exact wpAny_bind (wpAny_pure (wpAny_bind out))
          | exact wpAny_bind out
      | @cons x nm c i ts s0 su np hp hds3 l3 hi hln hc hsu r ih =>
        intro wsh
        obtain ⟨b, hb1, hyes, hno⟩ := wsh
        have lcl : Loc X.env.scope nm := .inl hln
        refine wpAny_handleBy_cons (codeAny_handlers_test ?_) (by intro q; cases q)
        have LT : PySem.W.Looks (model X.prog X.w) h3 (typeOf (.ref a)) cls := fun A Q E s k q => wpAny_typeOf_ref (k _ _ get3) (by rw [zc3.1]; exact q)
        have LM := PySem.W.exm_one (M := model X.prog X.w) (J3.kIn) LT hb1
        have named : ∀ {Q : Value → Shared → Prop} {E : Value → Shared → Prop}, Q c { sx with heap := h3 } → wpAny (model X.prog X.w) (X.A.mark (some (.ref a))) (eval (.Name x np) X.env) Q E { sx with heap := h3 } := fun {Q E} q => by
          obtain ⟨hg, hdbg, hm | ⟨hm, hv, hnn⟩⟩ := hc
          · exact ld_glob (X := X.suite a ((a, o3) :: (X.pn ++ pins))) S3 hg hm q hdbg
          · exact ld_blt (X := X.suite a ((a, o3) :: (X.pn ++ pins))) S3 hg hm hv q hnn hdbg
        refine named (LM.here ?_)
        cases b with
        | true =>
          refine codeAny_handlers_suite_as ?_
          refine HandSPX.lands_againZ fl3 fun h4 fl4 up4 => ?_
          have J4 : Inv X pins σx Hx { sx with heap := h4 } := J.landed nb fl4.1 ((up.trans up3).trans up4) os ag
          obtain ⟨o4, v4, get4, zc4, dat4⟩ := fl4.there
          have S4 := J4.suite get4 dat4 na nL nF
          refine store_ok (X := X.suite a ((a, o4) :: (X.pn ++ pins))) (v := .ref a) S4 hN hi lcl rfl (fun s5 S5 => ?_) (.inr hln)
          refine wpAny_mono ((hsu a o4 cls d (X.pn ++ pins) zc4 ⟨_, dat4⟩).run [] s5 _ Hx _ S5 (hyes rfl a na)) (fun f6 s6 end6 => ?_) (fun _ _ z => False.elim z)
          have shut : ∀ {σ6 : L2.St} {H6 : Hp} {Q : Shared → Prop}, Inv (X.suite a ((a, o4) :: (X.pn ++ pins))) [] σ6 H6 s6 → (∀ s7, Inv X pins (σ6.set i none) H6 s7 → Q s7) →
              wpAny (model X.prog X.w) X.A (do bindName X.env nm .none; unbindBehindTheSuite X.env nm hp) (fun _ s7 => Q s7) X.xe s6 := fun {σ6 H6 Q} S6 hq => gone_ok (S6.unsuite okX) hN hi hln hq
          cases f6 with
          | next =>
            obtain ⟨σ6, H6, S6, q6⟩ := end6
            exact shut S6 fun s7 J7 => ⟨_, _, J7, q6⟩
          | brk =>
            obtain ⟨σ6, H6, S6, q6⟩ := end6
            exact shut S6 fun s7 J7 => ⟨_, _, J7, q6⟩
          | cont =>
            obtain ⟨σ6, H6, S6, q6⟩ := end6
            exact shut S6 fun s7 J7 => ⟨_, _, J7, q6⟩
          | ret u =>
            obtain ⟨v6, σ6, H6, S6, r6, q6⟩ := end6
            exact shut S6 fun s7 J7 => ⟨_, _, _, J7, r6, q6⟩
        | false =>
          show wpAny _ X.A (handleBy (.ref a) X.env hds3) _ _ _
          exact ih (hno rfl)
    exact go hh wsh
  · cases fl with
    | next =>
      obtain ⟨σ2, H2, J2, q⟩ := ended
      exact wpAny_execs_nil ⟨σ2, H2, J2.ofTry okX, q⟩
    | brk =>
      obtain ⟨σ2, H2, J2, q⟩ := ended
      exact ⟨σ2, H2, J2.ofTry okX, q⟩
    | cont =>
      obtain ⟨σ2, H2, J2, q⟩ := ended
      exact ⟨σ2, H2, J2.ofTry okX, q⟩
    | ret u =>
      obtain ⟨v, σ2, H2, J2, r, q⟩ := ended
      exact ⟨v, σ2, H2, J2.ofTry okX, r, q⟩
end
section
variable {K : PySem.W.Frag} {δ : List SK} {μ : Mu} {E : DE} {P : Addr → List (Str × Da) → List SK → Mu → Prop} {tb : WX → TS} {l : List Cl3}
/-- statements that know the fields of the caught exception's dict at dx -/
def RSF (K : PySem.W.Frag) (fs : List (Str × Da)) (dx : Addr) (t : TS) (δ : List SK) (μ : Mu) (E : DE) : Prop :=
  ∀ I0 H0 F0 Ib I H σ F, At K I0 H0 F0 Ib I H σ δ μ F → ∀ xs : List (Str × V), I dx = some (.xd xs) → RepF K I xs fs → ∀ D : Ends, EOk K I0 H0 F0 Ib E D → t D σ H
def RDF (K : PySem.W.Frag) (fs : List (Str × Da)) (dx : Addr) (te : TE) (δ : List SK) (μ : Mu) (Q : SK → Mu → Prop) : Prop :=
  ∀ Lc I H σ F, Sta K Lc I H σ δ μ F → ∀ xs : List (Str × V), I dx = some (.xd xs) → RepF K I xs fs → ∀ QQ : VK, Post K Lc σ δ F I H Q QQ → te σ H QQ
def RAF (K : PySem.W.Frag) (fs : List (Str × Da)) (dx : Addr) (ta : TA) (δ : List SK) (μ : Mu) (Q : List SK → Mu → Prop) : Prop :=
  ∀ Lc I H σ F, Sta K Lc I H σ δ μ F → ∀ xs : List (Str × V), I dx = some (.xd xs) → RepF K I xs fs → ∀ QQ : List V → Hp → Prop, PostA K Lc σ δ F I H Q QQ → ta σ H QQ
/-- what the clauses make of an exception of the class C with the fields fs -/
inductive ClsD (K : PySem.W.Frag) (C : Addr) (fs : List (Str × Da)) (δ : List SK) (μ : Mu) (E : DE) : List Cl3 → Prop
  | hit {c : Value} {i : Nat} {ts : Addr → Value → Option Addr → TS} {r : List Cl3} : PySem.W.exmOne K (.ref C) c = some true →
      (∀ (a dx : Addr), RSF K fs dx (ts a (.ref C) (some dx)) (δ.set i (.own a)) μ { nx := fun δ' μ' => E.nx (δ'.set i .any) μ', rt := E.rt, bk := fun δ' μ' => E.bk (δ'.set i .any) μ', ct := fun δ' μ' => E.ct (δ'.set i .any) μ' }) →
      ClsD K C fs δ μ E ((c, i, ts) :: r)
  | miss {c : Value} {i : Nat} {ts : Addr → Value → Option Addr → TS} {r : List Cl3} : PySem.W.exmOne K (.ref C) c = some false → ClsD K C fs δ μ E r → ClsD K C fs δ μ E ((c, i, ts) :: r)
theorem wish_ok {I0 H0 Ib I H : Hp} {F0 F : List Addr} {σ : L2.St} {D : Ends} {Wo : WX} {C dx : Addr} {xs : List (Str × V)} {fs : List (Str × Da)} (at_ : At K I0 H0 F0 Ib I H σ δ μ F) (e : EOk K I0 H0 F0 Ib E D) (hx : I dx = some (.xd xs)) (rf : RepF K I xs fs) :
    ∀ {l : List Cl3}, ClsD K C fs δ μ E l → wishA K Wo D l (.ref C) (some dx) σ H
  | _, .hit (i := i) h1 h2 => ⟨true, h1, (fun _ a ha => by
      have s2 : Sta K (fun a => H0 a = none) I H (σ.set i (some (.ref a))) (δ.set i (.own a)) μ F := at_.s.set (o := some (.ref a)) (r := .own a) rfl i
      refine h2 a dx I0 H0 F0 Ib I H _ F ⟨at_.st, at_.sub, s2, at_.ib⟩ xs hx rf (endsA D i) ⟨fun I1 H1 σ1 δ1 μ1 F1 a1 q => ?_, e.rt, fun I1 H1 σ1 δ1 μ1 F1 a1 q => ?_, fun I1 H1 σ1 δ1 μ1 F1 a1 q => ?_⟩
      · exact e.nx I1 H1 _ _ μ1 F1 ⟨a1.st, a1.sub, a1.s.set (o := none) (r := .any) trivial i, a1.ib⟩ q
      · exact e.bk I1 H1 _ _ μ1 F1 ⟨a1.st, a1.sub, a1.s.set (o := none) (r := .any) trivial i, a1.ib⟩ q
      · exact e.ct I1 H1 _ _ μ1 F1 ⟨a1.st, a1.sub, a1.s.set (o := none) (r := .any) trivial i, a1.ib⟩ q), (fun z => nomatch z)⟩
  | _, .miss h1 h2 => ⟨false, h1, (fun z => nomatch z), (fun _ => wish_ok at_ e hx rf h2)⟩
/-- a try whose clauses take all that its body lets out -/
theorem rs_try {Wo : WX} (h : ∀ W : WX, RY K (tb W) δ μ E (fun C fs δ' μ' => ClsD K C fs δ' μ' E l) W) : RS K (tTryA K Wo l tb) δ μ E := fun I0 H0 F0 Ib I H σ F at_ D e =>
  h _ I0 H0 F0 Ib I H σ F at_ D e fun I1 H1 σ1 δ1 μ1 F1 a1 C dx xs fs hx rf hc => wish_ok a1 e hx rf hc
section
variable {fs : List (Str × Da)} {dx : Addr} {te : TE} {ta : TA} {Q : SK → Mu → Prop} {QA : List SK → Mu → Prop}
theorem rsf_ret (h : RDF K fs dx te δ μ fun r μ1 => E.rt r μ1) : RSF K fs dx (tRet te) δ μ E := fun I0 H0 F0 Ib I H σ F a xs hx rf D e =>
  h _ I H σ F a.s xs hx rf _ fun v I1 H1 r μ1 F1 st f s1 ok q => e.rt v r I1 H1 σ δ μ1 F1 (a.on st f s1) ok q
theorem rdf_lift (h : RD K te δ μ Q) : RDF K fs dx te δ μ Q := fun Lc I H σ F s _ _ _ QQ p => h Lc I H σ F s QQ p
theorem raf_nil (q : QA [] μ) : RAF K fs dx tNil δ μ QA := fun Lc I H σ F s _ _ _ QQ p => ra_nil q Lc I H σ F s QQ p
theorem raf_cons (h : RDF K fs dx te δ μ fun x μ1 => RAF K fs dx ta δ μ1 fun xs μ2 => QA (x :: xs) μ2) : RAF K fs dx (tCons te ta) δ μ QA := fun Lc I H σ F s xs hx rf QQ p => by
  refine h Lc I H σ F s xs hx rf _ fun v I1 H1 r μ1 F1 st f s1 ok q => ?_
  refine q Lc I1 H1 σ F1 s1 xs (st.ii _ _ hx) (RepF.mono st.ii rf) _ fun vs I2 H2 rs μ2 F2 st2 f2 s2 ok2 q2 => ?_
  exact p (v :: vs) I2 H2 (r :: rs) μ2 F2 (st.trans st2 f) (sub_trans st f f2) s2 (.cons (SOk.mono st2.ii ok) ok2) q2
theorem rdf_tup (h : RAF K fs dx ta δ μ fun xs μ1 => ∃ ds, unD xs = some ds ∧ ds.length ≤ 100000 ∧ Q (.dat (.tup ds)) μ1) : RDF K fs dx (tTup ta) δ μ Q := fun Lc I H σ F s xs hx rf QQ p => by
  refine h Lc I H σ F s xs hx rf _ fun vs I1 H1 rs μ1 F1 st f s1 ok ⟨ds, eu, hl, q⟩ => ?_
  have er := unD_dats eu
  subst er
  have r := repl_of ok
  refine ⟨Nat.le_trans (by rw [repl_len r]; exact hl) (by decide : 100000 ≤ sizeLine), fun L hL => ?_⟩
  have eI := Ex.new (o := .tup vs) (s1.ih.gone hL)
  exact p (.ref L) (upd I1 L (.tup vs)) (upd H1 L (.tup vs)) (.dat (.tup ds)) μ1 F1 (st.trans (Step.new hL s1.ih) f) f (s1.newD hL) (Rep.tup (SqT.of upd_same) (r.mono eI)) q
/-- e.f, e the caught exception -/
theorem rdf_xf {a C : Addr} {f : Str} {d : Da} {i : Nat} (hi : δ[i]? = some (.own a)) (hf : fs.lookup f = some d) (q : Q (.dat d) μ) : RDF K fs dx (tXf a (.ref C) (some dx) C f (tVar i)) δ μ Q := fun Lc I H σ F s xs hx rf QQ p => by
  obtain ⟨o, ho, oo⟩ := s.sl.get hi
  cases o with
  | none => exact oo.elim
  | some u =>
    have eu : u = .ref a := oo
    subst eu
    obtain ⟨v, hv, rv⟩ := repF_lookup rf hf
    exact ⟨.ref a, ho, rfl, rfl, dx, xs, v, rfl, s.ih _ _ hx, hv, p.now (r := .dat d) s rv q⟩
end
end
end DL
/-! upper(), a list some times over. -/
namespace DL
open PySem L2
section
variable {K : PySem.W.Frag} {δ : List SK} {μ : Mu} {Q : SK → Mu → Prop} {te : TE}
theorem rd_upper (h : RD K te δ μ fun x μ1 => ∃ z : Str, x = .dat (.str z) ∧ z.length ≤ 100000 ∧ Q (.dat (.str (Txt.upper z))) μ1) :
    RD K (tM0 (fun x xs H Q => ∃ a, x = .str a ∧ xs = [] ∧ a.length ≤ 5592405 ∧ Q (.str (Txt.upper a)) H) te) δ μ Q := fun Lc I H σ F s QQ p =>
  h Lc I H σ F s _ fun v I1 H1 x μ1 F1 st f s1 ok ⟨z, e, hl, q⟩ => by
    subst e
    cases ok
    exact ⟨⟨z, rfl⟩, z, rfl, rfl, by omega, p (.str _) I1 H1 (.dat (.str _)) μ1 F1 st f s1 (Rep.str _) q⟩
theorem repl_flat {I : Hp} {vs : List V} {ds : List Da} (r : RepL K I vs ds) : ∀ k : Nat, RepL K I (List.replicate k vs).flatten (List.replicate k ds).flatten
  | 0 => .nil
  | k + 1 => by
    rw [List.replicate_succ, List.replicate_succ, List.flatten_cons, List.flatten_cons]
    exact repl_cat r (repl_flat r k)
/-- xs * k -/
theorem mul_l {ds : List Da} {k : Nat} (hl : ds.length * k ≤ 1000000) (hk : k ≤ 1000) (q : Q (.dat (.lst (List.replicate k ds).flatten)) μ) : RR K rMUL (.dat (.lst ds)) (.dat (.int k)) δ μ Q := rr_or2 fun Lc I H σ F s v w a b QQ p => by
  cases b
  obtain ⟨ad, xs, rfl, hH, hr⟩ := (IsL.dat (μ := μ) ds).at_ s a
  refine ⟨ad, k, xs, rfl, rfl, hH, by omega, by omega, ?_, fun L hL => ?_⟩
  · rw [repl_len hr, Int.toNat_natCast]
    exact Nat.le_trans hl (by decide : 1000000 ≤ sizeLine)
  · rw [Int.toNat_natCast]
    have eI := Ex.new (o := .lst (List.replicate k xs).flatten) (s.ih.gone hL)
    exact p (.ref L) (upd I L (.lst (List.replicate k xs).flatten)) (upd H L (.lst (List.replicate k xs).flatten)) (.dat (.lst (List.replicate k ds).flatten)) μ F (Step.new hL s.ih) (fun x hx => .inl hx) (s.newD hL) (Rep.lst upd_same ((repl_flat hr k).mono eI)) q
end
end DL
/-! isinstance of a caught exception. -/
namespace DL
open PySem L2
def rIsC (K : PySem.W.Frag) (O a : Addr) (cls : Value) (dd : Option Addr) : List V → Hp → VK → Prop := fun xs H Q => ∃ (C d : Addr) (gs : List (Str × V)) (c : V) (cv : Value) (b : Bool), xs = [.ref a, c] ∧ cls = .ref C ∧ dd = some d ∧ H d = some (.xd gs) ∧ XCls K O C ∧ (∀ u, RelV c u → u = cv) ∧ PySem.W.kitOne K (.ref C) cv = some b ∧ Q (.bl b) H
theorem call_isC {X : Cx} {a O : Addr} {oe : Obj} {cls : Value} {dd : Option Addr} {pn : List (Addr × Obj)} (hz : Zc cls dd oe) (hf : ∃ vs, oe.data = .fields vs) : CallR (X.suite a ((a, oe) :: pn)) (.builtin "isinstance") (rIsC X.K O a cls dd) := by
  intro pins s σ H xs us Q I r h
  obtain ⟨C, d, gs, c, cv, b, rfl, ec, ed, hH, xc, hcv, e, q⟩ := h
  subst ec
  subst ed
  cases r with
  | cons rx rr =>
    cases rr with
    | cons rt rr =>
      cases rr
      cases rx
      have e2 := hcv _ rt
      subst e2
      obtain ⟨ha, _⟩ := I.pin (a, oe) (List.mem_append_left _ List.mem_cons_self)
      obtain ⟨vs, hd⟩ := hf
      obtain ⟨mA, hns, hr⟩ := (show ObjOk X.prog X.w H s.heap d (.xd gs) from I.hok d _ hH)
      obtain ⟨od, ho, hl⟩ := lookIn_ns hns
      have J : PySem.W.InstAt s.heap a oe C (some od) := ⟨ha, hz.1, by unfold PySem.W.notCls; rw [hd] <;> rfl, by rw [hz.2]; exact ho⟩
      exact PySem.W.kia_one (PySem.W.kitx_exc (ox := oe) (od := some od) xc.cl xc.ga xc.gt xc.ox.exC xc.ca xc.ng xc.tk xc.mo) I.kIn J e (fun z => nomatch z) fun tk => ⟨.bl b, H, I.kept (t' := tk) fun _ _ z => z, rfl, q⟩
section
variable {K : PySem.W.Frag} {δ : List SK} {μ : Mu} {Q : SK → Mu → Prop} {fs : List (Str × Da)} {dx a O C : Addr} {i : Nat}
theorem rdf_isC (hi : δ[i]? = some (.own a)) (xc : XCls K O C) (q : Q (.dat (.bl true)) μ) : RDF K fs dx (tCB (rIsC K O a (.ref C) (some dx)) (tCons (tVar i) (tCons (tC (.ty "ValueError")) tNil))) δ μ Q := fun Lc I H σ F s xs hx rf QQ p => by
  obtain ⟨o, ho, oo⟩ := s.sl.get hi
  cases o with
  | none => exact oo.elim
  | some u =>
    have eu : u = .ref a := oo
    subst eu
    exact ⟨.ref a, ho, C, dx, xs, .ty "ValueError", .type "ValueError", true, rfl, rfl, rfl, s.ih _ _ hx, xc, (fun _ h => h), xc.kitV, p.now (v := .bl true) (r := .dat (.bl true)) s (Rep.bl _) q⟩
end
end DL
namespace DL
open PySem L2
section
variable {K : PySem.W.Frag} {h : Heap} {C : Addr}
theorem mk_xf (X : K.In h) (ga : PySem.W.findIn K (.ref C) "__getattribute__" = some (some (.builtin "BaseException.__getattribute__"))) (gg : PySem.W.findIn K (.ref C) "__getattr__" = some none) (ex : PySem.W.subIn K (.ref C) (.type "BaseException") = some true) (hd : PySem.W.hasDictIn K C = true) : XfC K C := ⟨ga, gg, ex, hd⟩
theorem mk_exm (X : K.In h) {a b : Value} {r : Bool} (e : PySem.W.exmOne K a b = some r) : PySem.W.exmOne K a b = some r := e
end
end DL
/-! Loops whose bodies may raise, and calls of defs that may raise. -/
namespace DL
open PySem L2
open PyProof.Rows (envOfC)
section
variable {K : PySem.W.Frag} {δ : List SK} {μ : Mu} {E : DE} {te tl : TE} {ta : TA} {tb : TS} {g : TG} {P : Addr → List (Str × Da) → List SK → Mu → Prop} {W : WX}
/-- over data that is a list -/
theorem ry_forL (h : RD K tl δ μ fun r μ1 => ∃ ds, r = .dat (.lst ds) ∧ ∃ Pv : Nat → List SK → Mu → Prop, Pv 0 δ μ1 ∧
      (∀ i d δ' μ', ds[i]? = some d → Pv i δ' μ' → RG K g (.dat d) δ' fun δ2 => RY K tb δ2 μ' { E with nx := Pv (i + 1), ct := Pv (i + 1), bk := E.nx } P W) ∧ (∀ δ' μ', Pv ds.length δ' μ' → E.nx δ' μ')) :
    RY K (tFor (iList K tl) g tb) δ μ E P W := fun I0 H0 F0 Ib I H σ F a D e x =>
  h _ I H σ F a.s _ fun v I1 H1 r μ1 F1 st f s1 ok ⟨ds, er, Pv, p0, ps, pd⟩ => by
    subst er
    cases ok with
    | lst hs hr =>
      rename_i ad xs
      have e1 : Ex Ib I1 := a.ib.trans st.ii
      have a1 := a.on st f s1
      refine ⟨ad, rfl, ⟨xs, SqL.of (s1.ih _ _ hs)⟩, for_list (K := K) (a := ad) (xs := xs) (fun i σ2 H2 => ∃ I2 δ2 μ2 F2, At K I0 H0 F0 I1 I2 H2 σ2 δ2 μ2 F2 ∧ Pv i δ2 μ2) ⟨I1, δ, μ1, F1, ⟨a1.st, a1.sub, a1.s, Ex.refl _⟩, p0⟩ ?_ ?_ ?_⟩
      · rintro i σ2 H2 _ ⟨I2, δ2, μ2, F2, a2, _⟩
        exact SqL.of (a2.s.ih _ _ (a2.ib _ _ hs))
      · rintro i xv σ2 H2 hx ⟨I2, δ2, μ2, F2, a2, p⟩
        obtain ⟨d, hd, rd⟩ := repl_get hr hx
        refine ps i d δ2 μ2 hd p _ I2 H2 σ2 μ2 F2 a2.s xv (Rep.mono a2.ib rd) _ fun σ3 δ3 s3 q3 => ?_
        exact q3 I0 H0 F0 I1 I2 H2 σ3 F2 ⟨a2.st, a2.sub, s3, a2.ib⟩ _ ⟨fun I4 H4 σ4 δ4 μ4 F4 a4 q4 => ⟨I4, δ4, μ4, F4, a4, q4⟩, fun v r I4 H4 σ4 δ4 μ4 F4 a4 ok4 q4 => e.rt v r I4 H4 σ4 δ4 μ4 F4 (a4.weak e1) ok4 q4,
          fun I4 H4 σ4 δ4 μ4 F4 a4 q4 => e.nx I4 H4 σ4 δ4 μ4 F4 (a4.weak e1) q4, fun I4 H4 σ4 δ4 μ4 F4 a4 q4 => ⟨I4, δ4, μ4, F4, a4, q4⟩⟩ (fun I4 H4 σ4 δ4 μ4 F4 a4 => x I4 H4 σ4 δ4 μ4 F4 (a4.weak e1))
      · rintro σ2 H2 ⟨I2, δ2, μ2, F2, a2, p⟩
        rw [repl_len hr] at p
        exact e.nx I2 H2 σ2 δ2 μ2 F2 (a2.weak e1) (pd δ2 μ2 p)
/-- over data that is a tuple -/
theorem ry_forU (h : RD K tl δ μ fun r μ1 => ∃ ds, r = .dat (.tup ds) ∧ ∃ Pv : Nat → List SK → Mu → Prop, Pv 0 δ μ1 ∧
      (∀ i d δ' μ', ds[i]? = some d → Pv i δ' μ' → RG K g (.dat d) δ' fun δ2 => RY K tb δ2 μ' { E with nx := Pv (i + 1), ct := Pv (i + 1), bk := E.nx } P W) ∧ (∀ δ' μ', Pv ds.length δ' μ' → E.nx δ' μ')) :
    RY K (tFor (iTup K tl) g tb) δ μ E P W := fun I0 H0 F0 Ib I H σ F a D e x =>
  h _ I H σ F a.s _ fun v I1 H1 r μ1 F1 st f s1 ok ⟨ds, er, Pv, p0, ps, pd⟩ => by
    subst er
    cases ok with
    | tup hs hr =>
      rename_i ad xs
      have e1 : Ex Ib I1 := a.ib.trans st.ii
      have a1 := a.on st f s1
      refine ⟨ad, rfl, ⟨xs, s1.ih.t hs⟩, for_tup (K := K) (a := ad) (xs := xs) (fun i σ2 H2 => ∃ I2 δ2 μ2 F2, At K I0 H0 F0 I1 I2 H2 σ2 δ2 μ2 F2 ∧ Pv i δ2 μ2) ⟨I1, δ, μ1, F1, ⟨a1.st, a1.sub, a1.s, Ex.refl _⟩, p0⟩ ?_ ?_ ?_⟩
      · rintro i σ2 H2 _ ⟨I2, δ2, μ2, F2, a2, _⟩
        exact a2.s.ih.t (a2.ib.t hs)
      · rintro i xv σ2 H2 hx ⟨I2, δ2, μ2, F2, a2, p⟩
        obtain ⟨d, hd, rd⟩ := repl_get hr hx
        refine ps i d δ2 μ2 hd p _ I2 H2 σ2 μ2 F2 a2.s xv (Rep.mono a2.ib rd) _ fun σ3 δ3 s3 q3 => ?_
        exact q3 I0 H0 F0 I1 I2 H2 σ3 F2 ⟨a2.st, a2.sub, s3, a2.ib⟩ _ ⟨fun I4 H4 σ4 δ4 μ4 F4 a4 q4 => ⟨I4, δ4, μ4, F4, a4, q4⟩, fun v r I4 H4 σ4 δ4 μ4 F4 a4 ok4 q4 => e.rt v r I4 H4 σ4 δ4 μ4 F4 (a4.weak e1) ok4 q4,
          fun I4 H4 σ4 δ4 μ4 F4 a4 q4 => e.nx I4 H4 σ4 δ4 μ4 F4 (a4.weak e1) q4, fun I4 H4 σ4 δ4 μ4 F4 a4 q4 => ⟨I4, δ4, μ4, F4, a4, q4⟩⟩ (fun I4 H4 σ4 δ4 μ4 F4 a4 => x I4 H4 σ4 δ4 μ4 F4 (a4.weak e1))
      · rintro σ2 H2 ⟨I2, δ2, μ2, F2, a2, p⟩
        rw [repl_len hr] at p
        exact e.nx I2 H2 σ2 δ2 μ2 F2 (a2.weak e1) (pd δ2 μ2 p)
/-- over range(n) -/
theorem ry_forR (h : RA K ta δ μ fun rs μ1 => ∃ n : Nat, rs = [.dat (.int n)] ∧ n ≤ 1000000 ∧ ∃ Pv : Nat → List SK → Mu → Prop, Pv 0 δ μ1 ∧
      (∀ i δ' μ', i < n → Pv i δ' μ' → RG K g (.dat (.int (i : Nat))) δ' fun δ2 => RY K tb δ2 μ' { E with nx := Pv (i + 1), ct := Pv (i + 1), bk := E.nx } P W) ∧ (∀ δ' μ', Pv n δ' μ' → E.nx δ' μ')) :
    RY K (tFor (iRng1 ta) g tb) δ μ E P W := fun I0 H0 F0 Ib I H σ F a D e x =>
  h _ I H σ F a.s _ fun vs I1 H1 rs μ1 F1 st f s1 ok ⟨n, er, hn, Pv, p0, ps, pd⟩ => by
    subst er
    obtain ⟨rfl⟩ : vs = [.int n] := by
      cases vs with
      | nil => cases ok
      | cons v r =>
        cases ok with
        | cons x y =>
          cases r with
          | nil => cases x; rfl
          | cons _ _ => cases y
    have a1 := a.on st f s1
    have e1 : Ex Ib I1 := a.ib.trans st.ii
    refine ⟨n, rfl, by omega, by omega, ?_⟩
    rw [Int.toNat_natCast]
    refine for_range (lo := 0) (n := n) (fun i σ2 H2 => ∃ I2 δ2 μ2 F2, At K I0 H0 F0 I1 I2 H2 σ2 δ2 μ2 F2 ∧ Pv i δ2 μ2) ⟨I1, δ, μ1, F1, ⟨a1.st, a1.sub, a1.s, Ex.refl _⟩, p0⟩ ?_ ?_
    · rintro i σ2 H2 hi ⟨I2, δ2, μ2, F2, a2, p⟩
      rw [Int.zero_add]
      refine ps i δ2 μ2 hi p _ I2 H2 σ2 μ2 F2 a2.s (.int i) (Rep.int _) _ fun σ3 δ3 s3 q3 => ?_
      exact q3 I0 H0 F0 I1 I2 H2 σ3 F2 ⟨a2.st, a2.sub, s3, a2.ib⟩ _ ⟨fun I4 H4 σ4 δ4 μ4 F4 a4 q4 => ⟨I4, δ4, μ4, F4, a4, q4⟩, fun v r I4 H4 σ4 δ4 μ4 F4 a4 ok4 q4 => e.rt v r I4 H4 σ4 δ4 μ4 F4 (a4.weak e1) ok4 q4,
        fun I4 H4 σ4 δ4 μ4 F4 a4 q4 => e.nx I4 H4 σ4 δ4 μ4 F4 (a4.weak e1) q4, fun I4 H4 σ4 δ4 μ4 F4 a4 q4 => ⟨I4, δ4, μ4, F4, a4, q4⟩⟩ (fun I4 H4 σ4 δ4 μ4 F4 a4 => x I4 H4 σ4 δ4 μ4 F4 (a4.weak e1))
    · rintro σ2 H2 ⟨I2, δ2, μ2, F2, a2, p⟩
      exact e.nx I2 H2 σ2 δ2 μ2 F2 (a2.weak e1) (pd δ2 μ2 p)
/-- over enumerate(list) -/
theorem ry_forE (h : RA K ta δ μ fun rs μ1 => ∃ ds, rs = [.dat (.lst ds)] ∧ ∃ Pv : Nat → List SK → Mu → Prop, Pv 0 δ μ1 ∧
      (∀ i d δ' μ', ds[i]? = some d → Pv i δ' μ' → RG K g (.dat (.tup [.int (i : Nat), d])) δ' fun δ2 => RY K tb δ2 μ' { E with nx := Pv (i + 1), ct := Pv (i + 1), bk := E.nx } P W) ∧ (∀ δ' μ', Pv ds.length δ' μ' → E.nx δ' μ')) :
    RY K (tFor (iEnum K ta) g tb) δ μ E P W := fun I0 H0 F0 Ib I H σ F a D e x =>
  h _ I H σ F a.s _ fun vs I1 H1 rs μ1 F1 st f s1 ok ⟨ds, er, Pv, p0, ps, pd⟩ => by
    subst er
    obtain ⟨v, rfl, ov⟩ := vals1 ok
    cases ov with
    | lst hs hr =>
      rename_i ad xs
      have e1 : Ex Ib I1 := a.ib.trans st.ii
      have a1 := a.on st f s1
      refine ⟨ad, xs, rfl, SqL.of (s1.ih _ _ hs), for_it (walk_enum (K := K) (a := ad) (xs := xs)) (fun i σ2 H2 => ∃ I2 δ2 μ2 F2, At K I0 H0 F0 I1 I2 H2 σ2 δ2 μ2 F2 ∧ Pv i δ2 μ2) ⟨I1, δ, μ1, F1, ⟨a1.st, a1.sub, a1.s, Ex.refl _⟩, p0⟩ ?_ ?_ ?_⟩
      · rintro i σ2 H2 _ ⟨I2, δ2, μ2, F2, a2, _⟩
        exact SqL.of (a2.s.ih _ _ (a2.ib _ _ hs))
      · rintro i y σ2 H2 H3 hi ⟨I2, δ2, μ2, F2, a2, p⟩ ⟨T, xv, z, rfl, hT, rfl, hx, hz⟩
        cases hx
        obtain ⟨d, hd, rd⟩ := repl_get hr hz
        have s3 := a2.s.newD (o := .tup [.int (i : Nat), z]) hT
        have eI : Ex I2 (upd I2 T (.tup [.int (i : Nat), z])) := Ex.new (a2.s.ih.gone hT)
        have a3 := a2.on (Step.new hT a2.s.ih) (fun x hx => .inl hx) s3
        have rt : Rep K (upd I2 T (.tup [.int (i : Nat), z])) (.ref T) (.tup [.int (i : Nat), d]) := Rep.tup (SqT.of upd_same) (.cons (.int _) (.cons (Rep.mono (a2.ib.trans eI) rd) .nil))
        refine ps i d δ2 μ2 hd p _ _ _ σ2 μ2 F2 s3 (.ref T) rt _ fun σ3 δ3 s4 q3 => ?_
        exact q3 I0 H0 F0 I1 _ _ σ3 F2 ⟨a3.st, a3.sub, s4, a3.ib⟩ _ ⟨fun I4 H4 σ4 δ4 μ4 F4 a4 q4 => ⟨I4, δ4, μ4, F4, a4, q4⟩, fun v r I4 H4 σ4 δ4 μ4 F4 a4 ok4 q4 => e.rt v r I4 H4 σ4 δ4 μ4 F4 (a4.weak e1) ok4 q4,
          fun I4 H4 σ4 δ4 μ4 F4 a4 q4 => e.nx I4 H4 σ4 δ4 μ4 F4 (a4.weak e1) q4, fun I4 H4 σ4 δ4 μ4 F4 a4 q4 => ⟨I4, δ4, μ4, F4, a4, q4⟩⟩ (fun I4 H4 σ4 δ4 μ4 F4 a4 => x I4 H4 σ4 δ4 μ4 F4 (a4.weak e1))
      · rintro σ2 H2 ⟨I2, δ2, μ2, F2, a2, p⟩
        rw [repl_len hr] at p
        exact e.nx I2 H2 σ2 δ2 μ2 F2 (a2.weak e1) (pd δ2 μ2 p)
end
end DL
/-! Calls of defs of the module, and makings of objects, that may raise. -/
namespace DL
open PySem L2
open PyProof.Rows (envOfC)
section
variable {X : Cx} {k j : Nat} {f C : Addr} {fd : FuncData} {ps : List Str} {sp : Sp} {W : WX} {x m : Str} {p pos apos : Pos} {e o : Expr} {es : List Expr} {ta : TE} {t : TA}
abbrev tCallR (sp : Sp) (W : WX) (t : TA) : TE := tCallS sp (fun σ cls d H => W cls d σ H) t
theorem pe_cgS (c : CalG X.prog X.w X.K X.mg X.base (L2.CX X.prog X.w) k x sp) (hr : RmG j X.A) (hk : k ≤ j) (tk : Takes X W) (hg : Gl X x) (ha : PA X (e :: es) t) (hdb : (x == ("__debug__" : Str)) = false := by decide)
    (he : starEach (e :: es) X.env = (false, eval e X.env) :: starEach es X.env := by rfl) (hpl : (backTo pos (starEach es X.env)).any (·.1) = false := by rfl) : PE X (.Call (.Name x p) (e :: es) [] pos) (tCallR sp W t) := by
  obtain ⟨f, fd, ps, F, hm, kp, b⟩ := c.ex
  refine ⟨fun pins s σ H Q I h => wpAny_Call_Name_kw (ld_glob I hg hm ?_ hdb)⟩
  refine PySem.W.callWith_K (h₀ := X.base) I.ok.mod.kin kp (thn (ha.run pos pins s σ H _ I h) ?_) he hpl
  rintro us s1 ⟨vs, H1, I1, r, q⟩
  exact ⟨I1.kIn, goGS F (hr.mono hk) b tk I1 r q⟩
def tMakeS (C : Addr) (sp : Sp) (W : WX) (t : TA) : TE := fun σ H Q => t σ H fun vs H1 => ∀ x dx, H1 x = none → H1 dx = none → dx ≠ x → sp (.ref x :: vs) (upd (upd H1 dx (.own x)) x (.ins C dx [])) (fun v H2 => v = .non ∧ Q (.ref x) H2) (fun cls d H => W cls d σ H)
theorem makeGS {pins : List (Addr × Obj)} {σ : St} {H : Hp} {s : Shared} {Q : VK} {us : List Value} {vs : List V} (M : Mk X.K C f) (F : FnG X.prog X.w X.K X.mg X.base (L2.CX X.prog X.w) k f fd ps sp) (hr : RmG (k + 1) X.A) (hb : Binds X.K fd ps []) (tk : Takes X W) (I : Inv X pins σ H s) (r : Vals vs us)
    (h : ∀ y dx, H y = none → H dx = none → dx ≠ y → sp (.ref y :: vs) (upd (upd H dx (.own y)) y (.ins C dx [])) (fun v H2 => v = .non ∧ Q (.ref y) H2) (fun cls d H => W cls d σ H)) : wpAny (model X.prog X.w) X.A (call (.ref C) us) (EP X pins σ Q) X.xe s := by
  have q := h (s.heap.objs.size + 1) s.heap.objs.size (I.hok.fresh (Nat.le_succ _)) (I.hok.fresh (Nat.le_refl _)) (Nat.ne_of_lt (Nat.lt_succ_self s.heap.objs.size))
  have J := Inv.made (C := C) I
  have hl : (Value.ref (s.heap.objs.size + 1) :: us).length = ps.length := by
    rw [← F.len _ _ _ _ q, List.length_cons, List.length_cons, r.length]
  have hb' := hb _ (Value.ref (s.heap.objs.size + 1) :: us) J.kIn (by rw [List.append_nil]; exact hl)
  rw [List.append_nil] at hb'
  refine wpAny_call (make_map (f := f) I.kIn M.makes M.init (beq_iff_eq.mp M.fn) (codeAny_mono (F.go _ X.stack _ _ ⟨Value.ref (s.heap.objs.size + 1) :: us, []⟩ (Value.ref (s.heap.objs.size + 1) :: us) _ _ _ (hr.make C us []) (J.env0.make C us []) hb' (.cons (show RelV (V.ref (s.heap.objs.size + 1)) (Value.ref (s.heap.objs.size + 1)) from rfl) r) q) ?_))
  intro res s' hq
  match res, hq with
  | .error er, hq => exact passAt tk σ pins _ _ er s' J hq
  | .ok (.ret u), hq =>
    obtain ⟨v, H', I3, rv, ev, q3⟩ := J.after hq
    subst ev
    exact ⟨rv, ⟨V.ref (s.heap.objs.size + 1), H', I3, rfl, q3⟩⟩
  | .ok .next, hq => exact hq.elim
  | .ok .brk, hq => exact hq.elim
  | .ok .cont, hq => exact hq.elim
theorem pe_mkgS (c : MakG X.prog X.w X.K X.mg X.base (L2.CX X.prog X.w) k x C sp) (hr : RmG j X.A) (hk : k + 1 ≤ j) (tk : Takes X W) (hg : Gl X x) (ha : PA X (e :: es) t) (hdb : (x == ("__debug__" : Str)) = false := by decide)
    (he : starEach (e :: es) X.env = (false, eval e X.env) :: starEach es X.env := by rfl) (hpl : (backTo pos (starEach es X.env)).any (·.1) = false := by rfl) : PE X (.Call (.Name x p) (e :: es) [] pos) (tMakeS C sp W t) := by
  obtain ⟨f, fd, ps, M, F, hm, b⟩ := c.ex
  refine ⟨fun pins s σ H Q I h => wpAny_Call_Name_kw (ld_glob I hg hm ?_ hdb)⟩
  refine PySem.W.callWith_K (h₀ := X.base) I.ok.mod.kin M.kp (thn (ha.run pos pins s σ H _ I h) ?_) he hpl
  rintro us s1 ⟨vs, H1, I1, r, q⟩
  exact ⟨I1.kIn, makeGS M F (hr.mono hk) b tk I1 r q⟩
end
section
variable {K : PySem.W.Frag} {δ : List SK} {μ : Mu} {E : DE} {Q : SK → Mu → Prop} {p : Addr → List (Str × Da) → Mu → Prop} {W : WX} {te ta tb : TE} {tr : TA} {n : Nat}
theorem rdx_call {C : CY} (h : RA K tr δ μ fun rs μ2 => ∃ ds, unD rs = some ds ∧ ds.length = n ∧ C ds (fun d => Q (.dat d) μ2) (fun Cx fs => p Cx fs μ2)) :
    RDx K (tCallR (spR K n C) W tr) δ μ Q p W := fun Lc I H σ F s QQ q x =>
  h Lc I H σ F s _ fun vs I2 H2 rs μ2 F2 st2 f2 s2 ok2 ⟨ds, eu, hl, c⟩ => by
    have er := unD_dats eu
    subst er
    have r := repl_of ok2
    refine ⟨by rw [repl_len r, hl], I2, _, _, _, s2.ih, r, c, fun v I3 H3 d st3 e3 rv hq => ?_, fun Cx I3 H3 dx xs gs st3 e3 hx rf hp => ?_⟩
    · exact q v I3 H3 (.dat d) μ2 F2 (st2.trans (st3.wide (G := F2) fun x hx => nomatch hx) f2) f2 (s2.grow st3 (fun x hx => nomatch hx) e3) rv hq
    · exact x I3 H3 μ2 F2 (st2.trans (st3.wide (G := F2) fun x hx => nomatch hx) f2) f2 (s2.grow st3 (fun x hx => nomatch hx) e3) Cx dx xs gs hx rf hp
end
end DL
/-! Objects whose __init__ may raise. -/
namespace DL
open PySem L2
open PyProof.Rows (envOfC)
abbrev CIX := List Da → (List (Str × Da) → Prop) → Xp → Prop
def spIR (K : PySem.W.Frag) (n : Nat) (Cl : Addr) (C : CIX) : Sp := fun vs H Q E => vs.length = n + 1 ∧ ∃ I a dx ws ds R P, vs = .ref a :: ws ∧ Ex I H ∧ I a = none ∧ I dx = none ∧ dx ≠ a ∧ H a = some (.ins Cl dx []) ∧ H dx = some (.own a) ∧ RepL K I ws ds ∧ C ds R P ∧
  (∀ I' H' fs fds, Step [a, dx] I H I' H' → Ex I' H' → H' a = some (.ins Cl dx fs) → H' dx = some (.own a) → RepF K I' fs fds → R fds → Q .non H') ∧
  ∀ (Cx : Addr) I' H' (d2 : Addr) (xs : List (Str × V)) (gs : List (Str × Da)), Step [a, dx] I H I' H' → Ex I' H' → I' d2 = some (.xd xs) → RepF K I' xs gs → P Cx gs → E (.ref Cx) (some d2) H'
section
variable {P : Program} {w : World} {K : PySem.W.Frag} {mg : Str → Option Value} {base : Heap} {x qual : Str} {st : Stmt} {f : Addr} {fd : FuncData} {N ps : List Str} {k n : Nat}
theorem fn_IR {Cl : Addr} {C : CIX} (F : Fun K x qual st f fd) (S : FnScope N ps (defScope st)) (hn : ps.length = n + 1)
    (body : ∀ (cdv : Value) (A : Around) (outer : List Env) (s : Shared) (H : Hp) (E : XK), RmG k (A.deeper (envOfC qual (defScope st) s.heap.objs.size f cdv)) →
      ∃ t, PSs (cxOf (L2.CX P w) P w K mg base N qual (defScope st) f cdv A outer s H E) (defBody st) t ∧ ∀ (p dx : Addr) ds R Px, ds.length = n → C ds R Px →
        RY K t (startD N (.own p :: dats ds)) [(p, MK.ins Cl dx [], false)] { nx := fun _ μ' => ∃ (fs : List (Str × Da)) (j : Nat), μ'[j]? = some (p, MK.ins Cl dx fs, false) ∧ R fs, rt := fun _ _ => False } (fun Cx fs _ _ => Px Cx fs) (fun cls d _ H => E cls d H)) :
    FnG P w K mg base (L2.CX P w) (k + 1) f fd ps (spIR K n Cl C) := by
  refine fng_of F S (fun vs H Q E h => h.1.trans hn.symm) fun cdv A outer s H vs Q E hr h => ?_
  obtain ⟨hl, I, p, dx, ws, ds, R, Px, rfl, e, hI, hIx, hne, hp, hd, r, cc, q, qx⟩ := h
  obtain ⟨t, ht, hb⟩ := body cdv A outer s H E hr
  have hl' : ds.length = n := by rw [← repl_len r]; simpa using hl
  refine ⟨t, ht, hb p dx ds R Px hl' cc I H [p, dx] I I H _ [p, dx] ⟨Step.refl _ _ _, fun x hx => .inl hx, ⟨e, fun _ z => z, slok_start (vs := .ref p :: ws) (.cons rfl (slok_dats r)), ?_⟩, Ex.refl _⟩ _ ⟨fun I1 H1 σ1 δ1 μ1 F1 a qr => ?_, fun v r I1 H1 σ1 δ1 μ1 F1 a ok qr => qr.elim, fun _ _ _ _ _ _ _ z => z.elim, fun _ _ _ _ _ _ _ z => z.elim⟩ ?_⟩
  · refine MuOk.cons (F := [p, dx]) (G := []) ⟨rfl, [], hp, .nil, hd⟩ ?_ (fun _ _ z => nomatch z) ?_ (fun z => nomatch z) .nil
    · intro x hx
      rcases (by simpa using hx : x = p ∨ x = dx) with z | z
      · rw [z]; exact hI
      · rw [z]; exact hIx
    · simp only [List.nodup_cons, List.mem_cons, List.not_mem_nil, or_false, not_false_eq_true, List.nodup_nil, and_true]
      exact fun z => hne z.symm
  · obtain ⟨fs, j, hj, hR⟩ := qr
    obtain ⟨Fi, m, _⟩ := a.s.mu.at hj
    obtain ⟨_, xs, h1, rf, h2⟩ := m
    exact q I1 H1 xs fs a.st a.s.ih h1 h2 rf hR
  · intro I1 H1 σ1 δ1 μ1 F1 a Cx d2 xs gs hx rf hp
    exact qx Cx I1 H1 d2 xs gs a.st a.s.ih hx rf hp
end
section
variable {K : PySem.W.Frag} {δ : List SK} {μ : Mu} {E : DE} {Q : SK → Mu → Prop} {p : Addr → List (Str × Da) → Mu → Prop} {W : WX} {te ta tb : TE} {tr : TA} {n : Nat}
theorem rdx_make {Cl : Addr} {C : CIX} (h : RA K tr δ μ fun rs μ1 => ∃ ds, unD rs = some ds ∧ ds.length = n ∧ C ds (fun fs => Q (.dat (.obj Cl fs)) μ1) fun Cx gs => p Cx gs μ1) : RDx K (tMakeS Cl (spIR K n Cl C) W tr) δ μ Q p W := fun Lc I H σ F s QQ q0 x0 =>
  h Lc I H σ F s _ fun vs I1 H1 rs μ1 F1 st f s1 ok ⟨ds, eu, hl, c⟩ => by
    have er := unD_dats eu
    subst er
    have r := repl_of ok
    intro x dx hx hdx hne
    have nx : upd (upd H1 dx (.own x)) x (.ins Cl dx []) dx = some (.own x) := by rw [upd_ne hne, upd_same]
    have e0 : Ex I1 (upd (upd H1 dx (.own x)) x (.ins Cl dx [])) := fun a o h => by
      have h1 := s1.ih a o h
      rw [upd_ne (ne_of_none h1 hx), upd_ne (ne_of_none h1 hdx)]
      exact h1
    have kp0 : ∀ {I2 H2 : Hp}, Step [x, dx] I1 (upd (upd H1 dx (.own x)) x (.ins Cl dx [])) I2 H2 → ∀ a o, H1 a = some o → H2 a = some o := fun st2 a o ha => st2.keep a o (by rw [upd_ne (ne_of_none ha hx), upd_ne (ne_of_none ha hdx)]; exact ha) (by
      simp only [List.mem_cons, List.not_mem_nil, or_false, not_or]
      exact ⟨ne_of_none ha hx, ne_of_none ha hdx⟩)
    refine ⟨by rw [List.length_cons, repl_len r, hl], I1, x, dx, vs, ds, _, _, rfl, e0, s1.ih.gone hx, s1.ih.gone hdx, hne, upd_same, nx, r, c, fun I2 H2 fs fds st2 e2 h1 h2 rf q => ⟨rfl, ?_⟩, fun Cx I2 H2 d2 xs gs st2 e2 hd2 rf hp => ?_⟩
    · have kp := kp0 st2
      have hIx : I2 x = none := st2.own x (by rw [upd_same]; simp) (s1.ih.gone hx)
      have e3 : Ex I2 (upd I2 x (.ins Cl dx fs)) := Ex.new hIx
      have own3 : ∀ a, H1 a ≠ none → I1 a = none → upd I2 x (.ins Cl dx fs) a = none := fun a ha hn => by
        have : a ≠ x := fun z => ha (by rw [z]; exact hx)
        rw [upd_ne this]
        refine st2.own a ?_ hn
        cases q : H1 a with
        | none => exact absurd q ha
        | some o => rw [upd_ne (ne_of_none q hx), upd_ne (ne_of_none q hdx), q]; simp
      have st3 : Step [] I1 H1 (upd I2 x (.ins Cl dx fs)) H2 := ⟨st2.ii.trans e3, fun a o ha _ => kp a o ha, own3, fun a ha z => by
        cases q : H1 a with
        | none => exact ha q
        | some o => rw [kp a o q] at z; cases z⟩
      have ih3 : Ex (upd I2 x (.ins Cl dx fs)) H2 := fun b o hb => by
        by_cases z : b = x
        · rw [z, upd_same] at hb
          rw [z, h1]; exact hb
        · rw [upd_ne z] at hb; exact e2 b o hb
      exact q0 (.ref x) _ H2 (.dat (.obj Cl fds)) μ1 F1 (st.trans (st3.wide (G := F1) fun x hx => nomatch hx) f) f (s1.grow st3 (fun x hx => nomatch hx) ih3) (Rep.obj upd_same (rf.mono e3)) q
    · have kp := kp0 st2
      have own3 : ∀ a, H1 a ≠ none → I1 a = none → I2 a = none := fun a ha hn => by
        refine st2.own a ?_ hn
        cases q : H1 a with
        | none => exact absurd q ha
        | some o => rw [upd_ne (ne_of_none q hx), upd_ne (ne_of_none q hdx), q]; simp
      have st3 : Step [] I1 H1 I2 H2 := ⟨st2.ii, fun a o ha _ => kp a o ha, own3, fun a ha z => by
        cases q : H1 a with
        | none => exact ha q
        | some o => rw [kp a o q] at z; cases z⟩
      exact x0 I2 H2 μ1 F1 (st.trans (st3.wide (G := F1) fun x hx => nomatch hx) f) f (s1.grow st3 (fun x hx => nomatch hx) e2) Cx d2 xs gs hd2 rf hp
/-- self.f = e, where e may raise -/
theorem ry_fldI {P : Addr → List (Str × Da) → List SK → Mu → Prop} {f : Str} {i j : Nat} {a C dx : Addr} {fs : List (Str × Da)} {fl : Bool} (hi : δ[i]? = some (.own a)) (cl : Cls K C) (na : NoAttr K C f)
    (h : RDx K te δ μ (fun r μ1 => ∃ d : Da, r = .dat d ∧ μ1[j]? = some (a, MK.ins C dx fs, fl) ∧ fs.length < 1000 ∧ E.nx δ (μ1.set j (a, MK.ins C dx (putFd f d fs), fl))) (fun Cx gs μ1 => P Cx gs δ μ1) W) :
    RY K (sFld K (tVar i) te f) δ μ E P W := fun I0 H0 F0 Ib I H σ F at_ D e y =>
  h _ I H σ F at_.s _ (fun w I1 H1 r μ1 F1 st fF s1 ok ⟨d, er, hj, hl, q⟩ => by
    subst er
    have a1 := at_.on st fF s1
    obtain ⟨o, ho, oo⟩ := s1.sl.get hi
    cases o with
    | none => exact oo.elim
    | some u =>
      have eu : u = .ref a := oo
      subst eu
      obtain ⟨Fi, m, _⟩ := s1.mu.at hj
      obtain ⟨_, xs, hx, r, hdx⟩ := id m
      refine ⟨.ref a, ho, a, C, dx, xs, rfl, hx, cl, na, by rw [repF_len r]; exact hl, ?_⟩
      obtain ⟨s4, st4⟩ := put_after (o := .ins C dx (putF f w xs)) (k' := MK.ins C dx (putFd f d fs)) s1 hj fun {Fi} m' => by
        obtain ⟨e1, ys, hy, ry, hd⟩ := m'
        rw [hx] at hy
        cases hy
        refine ⟨e1, _, upd_same, repF_put ok ry, ?_⟩
        have : dx ≠ a := fun z => by
          rw [z, hx] at hd
          cases hd
        rw [upd_ne this]; exact hd
      exact e.nx I1 _ σ δ _ F1 (a1.on st4 (fun x hx => .inl hx) s4) q)
    fun I1 H1 μ1 F1 st f s1 Cl dx xs fs hx rf hp => y I1 H1 σ δ μ1 F1 (at_.on st f s1) Cl dx xs fs hx rf hp
end
end DL
/-! Lists of lists that still change. -/
namespace DL
open PySem L2
section
variable {K : PySem.W.Frag} {δ : List SK} {μ : Mu} {E : DE} {Q : SK → Mu → Prop} {te : TE} {ta : TA} {a : Addr} {i : Nat} {fl : Bool}
/-- a new list that is to be filled with lists -/
theorem lst_oll (q : ∀ a, Q (.own a) ((a, MK.mll [], true) :: μ)) : RD K (tLst tNil) δ μ Q := fun Lc I H σ F s QQ p => by
  refine ⟨Nat.zero_le _, fun a ha => ?_⟩
  refine p (.ref a) I (upd H a (.lst [])) (.own a) ((a, MK.mll [], true) :: μ) (a :: F) (Step.fresh ha) (fun x hx => ?_) (s.newO ha ⟨rfl, upd_same⟩) rfl (q a)
  rcases List.mem_cons.mp hx with z | z
  · rw [z]; exact .inr ha
  · exact .inl z
/-- x.append(a list that still changes) -/
theorem rs_appL {l : Addr} (hi : δ[i]? = some (.own l)) (h0 : ∃ (j : Nat) (refs : List Addr) (fl : Bool), μ[j]? = some (l, MK.mll refs, fl))
    (h : RD K te δ μ fun r μ1 => ∃ (b : Addr) (j : Nat) (refs : List Addr) (fl : Bool), r = .own b ∧ μ1[j]? = some (l, MK.mll refs, fl) ∧ refs.length < 100000 ∧ E.nx δ (μ1.set j (l, MK.mll (refs ++ [b]), fl))) :
    RS K (tDrop (tBM K "list" rAppend (tVar i) (tCons te tNil))) δ μ E := fun I0 H0 F0 Ib I H σ F at_ D e => by
  obtain ⟨j0, refs0, fl0, h0⟩ := h0
  obtain ⟨o, ho, ok⟩ := at_.s.sl.get hi
  cases o with
  | none => exact ok.elim
  | some v =>
    have ok' : v = .ref l := ok
    subst ok'
    obtain ⟨Fi0, m0, _⟩ := at_.s.mu.at h0
    obtain ⟨_, hx0⟩ := m0
    refine ⟨.ref l, ho, .inl ⟨rfl, _, SqL.of hx0⟩, ?_⟩
    refine h _ I H σ F at_.s _ fun w I1 H1 r μ1 F1 st f s1 ok1 ⟨b, j, refs, fl, er, hj, hl, q⟩ => ?_
    subst er
    have ew : w = .ref b := ok1
    subst ew
    obtain ⟨Fi, m, sF, lF, mk⟩ := s1.mu.at hj
    obtain ⟨_, hx⟩ := id m
    refine ⟨l, refs.map V.ref, .ref b, rfl, rfl, hx, Nat.lt_of_lt_of_le (by rw [List.length_map]; exact hl) (by decide : 100000 ≤ sizeLine), ?_⟩
    have e2 : refs.map V.ref ++ [V.ref b] = (refs ++ [b]).map V.ref := by simp
    rw [e2]
    obtain ⟨s4, st4⟩ := put_after (o := .lst ((refs ++ [b]).map V.ref)) (k' := MK.mll (refs ++ [b])) s1 hj fun {Fi} m' => ⟨m'.1, upd_same⟩
    exact e.nx I1 _ σ δ _ F1 ((at_.on st f s1).on st4 (fun x hx => .inl hx) s4) q
theorem atI_map {α β : Type} (g : α → β) {xs : List α} {n : Int} {x : α} (h : atI xs n = some x) : atI (xs.map g) n = some (g x) := by
  unfold atI at h ⊢
  rw [List.length_map]
  cases e : ixN xs.length n with
  | none => rw [e] at h; cases h
  | some j =>
    rw [e] at h
    have h' : xs[j]? = some x := h
    show (xs.map g)[j]? = some (g x)
    rw [List.getElem?_map, h']
    rfl
/-- x[n], a list that still changes -/
theorem ix_ll {refs : List Addr} {b : Addr} {n : Int} (hi : μ[i]? = some (a, MK.mll refs, fl)) (h : atI refs n = some b) (q : Q (.own b) μ) : RR K (rIX K) (.own a) (.dat (.int n)) δ μ Q := rr_or1 (rr_or1 fun Lc I H σ F s v w x y QQ p => by
  cases y
  have e : v = .ref a := x
  subst e
  obtain ⟨Fi, m, _⟩ := s.mu.at hi
  obtain ⟨_, hx⟩ := m
  exact ⟨a, _, n, .ref b, rfl, rfl, SqL.of hx, atI_map V.ref h, p.now (v := .ref b) (r := .own b) s rfl q⟩)
/-! ### all of it becomes data, as a tuple of it is returned -/
inductive FrzL (μ : Mu) : List Addr → List (List Da) → Prop
  | nil : FrzL μ [] []
  | cons {b : Addr} {j : Nat} {ds : List Da} {refs : List Addr} {dss : List (List Da)} : μ[j]? = some (b, MK.ml ds, true) → FrzL μ refs dss → FrzL μ (b :: refs) (ds :: dss)
inductive FrzV (μ : Mu) : SK → Da → Prop
  | dat (d : Da) : FrzV μ (.dat d) d
  | ml {l : Addr} {j : Nat} {ds : List Da} : μ[j]? = some (l, MK.ml ds, true) → FrzV μ (.own l) (.lst ds)
  | mll {l : Addr} {j : Nat} {refs : List Addr} {dss : List (List Da)} : μ[j]? = some (l, MK.mll refs, true) → FrzL μ refs dss → FrzV μ (.own l) (.lst (dss.map Da.lst))
inductive FrzVs (μ : Mu) : List SK → List Da → Prop
  | nil : FrzVs μ [] []
  | cons {k : SK} {d : Da} {ks : List SK} {ds : List Da} : FrzV μ k d → FrzVs μ ks ds → FrzVs μ (k :: ks) (d :: ds)
theorem frzl_rep {Lc : Addr → Prop} {I H : Hp} {σ : St} {F : List Addr} {S : Addr → Prop} (s : Sta K Lc I H σ δ μ F) (hS : ∀ x, Lc x → S x) : ∀ {refs : List Addr} {dss : List (List Da)}, FrzL μ refs dss → RepL K (froze S I H) (refs.map V.ref) (dss.map Da.lst)
  | _, _, .nil => .nil
  | _, _, .cons hj t => by
    obtain ⟨Fi, m, _, l, _⟩ := s.mu.at hj
    have lc := l rfl _ m.mem
    obtain ⟨_, xs, hx, r⟩ := m
    exact .cons (Rep.lst (by rw [froze_in (hS _ lc)]; exact hx) (r.mono (froze_ex s.ih))) (frzl_rep s hS t)
theorem frzv_rep {Lc : Addr → Prop} {I H : Hp} {σ : St} {F : List Addr} {S : Addr → Prop} (s : Sta K Lc I H σ δ μ F) (hS : ∀ x, Lc x → S x) {k : SK} {d : Da} {v : V} (ok : SOk K I (some v) k) (z : FrzV μ k d) : Rep K (froze S I H) v d := by
  cases z with
  | dat => exact Rep.mono (froze_ex s.ih) ok
  | ml hj =>
    have ev : v = .ref _ := ok
    subst ev
    obtain ⟨Fi, m, _, l, _⟩ := s.mu.at hj
    have lc := l rfl _ m.mem
    obtain ⟨_, xs, hx, r⟩ := m
    exact Rep.lst (by rw [froze_in (hS _ lc)]; exact hx) (r.mono (froze_ex s.ih))
  | mll hj t =>
    have ev : v = .ref _ := ok
    subst ev
    obtain ⟨Fi, m, _, l, _⟩ := s.mu.at hj
    have lc := l rfl _ m.mem
    obtain ⟨_, hx⟩ := m
    exact Rep.lst (by rw [froze_in (hS _ lc)]; exact hx) (frzl_rep s hS t)
theorem frzvs_rep {Lc : Addr → Prop} {I H : Hp} {σ : St} {F : List Addr} {S : Addr → Prop} (s : Sta K Lc I H σ δ μ F) (hS : ∀ x, Lc x → S x) : ∀ {ks : List SK} {ds : List Da} {vs : List V}, SlOk K I (vs.map some) ks → FrzVs μ ks ds → RepL K (froze S I H) vs ds
  | _, _, vs, h, .nil => by
    cases vs with
    | nil => exact .nil
    | cons _ _ => cases h
  | _, _, vs, h, .cons z t => by
    cases vs with
    | nil => cases h
    | cons v r =>
      cases h with
      | cons x y => exact .cons (frzv_rep s hS x z) (frzvs_rep s hS y t)
theorem rs_retZ (h : RA K ta δ μ fun rs μ1 => ∃ ds, FrzVs μ1 rs ds ∧ ds.length ≤ 100000 ∧ E.rt (.dat (.tup ds)) []) : RS K (tRet (tTup ta)) δ μ E := fun I0 H0 F0 Ib I H σ F at_ D e =>
  h _ I H σ F at_.s _ fun vs I1 H1 rs μ1 F1 st f s1 ok ⟨ds, hz, hl, q⟩ => by
    have a1 := at_.on st f s1
    let S : Addr → Prop := fun x => H0 x = none
    have e1 : Ex I1 (froze S I1 H1) := froze_ex s1.ih
    have st2 : Step F0 I0 H0 (froze S I1 H1) H1 := ⟨a1.st.ii.trans e1, a1.st.keep, fun x hx hn => by
      have nS : ¬ S x := fun c => hx c
      rw [froze_out nS]
      exact a1.st.own x hx hn, a1.st.alive⟩
    have a2 : At K I0 H0 F0 Ib (froze S I1 H1) H1 σ δ [] [] := ⟨st2, (fun x hx => nomatch hx), ⟨froze_ih s1.ih, s1.lc, s1.sl.mono e1, .nil⟩, a1.ib.trans e1⟩
    have r : RepL K (froze S I1 H1) vs ds := frzvs_rep s1 (fun x hx => hx) ok hz
    refine ⟨Nat.le_trans (by rw [repl_len r]; exact hl) (by decide : 100000 ≤ sizeLine), fun a ha => ?_⟩
    exact e.rt (.ref a) (.dat (.tup ds)) _ (upd H1 a (.tup vs)) σ δ [] [] (a2.on (Step.new ha a2.s.ih) (fun x hx => .inl hx) (a2.s.newD ha)) (Rep.tup (SqT.of upd_same) (r.mono (Ex.new (a2.s.ih.gone ha)))) q
end
end DL
/-! A def's meaning as a plain function over worth and a small heap of what still changes: the ground. -/
namespace EL
open PySem L2
open DL (Da Rep RepL RepF RepK RepD RepT Ex)

/-- a value: data, or an object that still changes -/
inductive AV where
  | d (x : Da) | o (i : Nat)
/-- an object that still changes (gone: it became data, or there is none) -/
inductive AO where
  | gone
  | ml (vs : List AV) | tu (vs : List AV)
  | md (kvs : List (Key × AV)) | mt (kvs : List (List Key × AV))
  | ins (C : Addr) (j : Nat) (fs : List (Str × AV)) | own (i : Nat)
  | lk (o : AO)
/-- lk: some dict that is data is locked at the moment -/
structure AHp where
  next : Nat
  objs : Nat → AO
  lk : Bool
def AO.free : AO → Bool
  | .gone => false | .lk _ => false | _ => true
def AO.isG : AO → Bool
  | .gone => true | _ => false
def put (h : AHp) (i : Nat) (o : AO) : AHp := ⟨h.next, fun j => if j = i then o else h.objs j, h.lk⟩
def alloc (h : AHp) (o : AO) : AHp := ⟨h.next + 1, fun j => if j = h.next then o else h.objs j, h.lk⟩
def bump (h : AHp) (m : Nat) : AHp := ⟨h.next + m, h.objs, h.lk⟩
def AHp.wf (h : AHp) : Prop := ∀ i, h.next ≤ i → h.objs i = .gone

/-! ### how it stands to the tracked heap -/
def isD : HO → Bool
  | .dK _ => true | .dT _ => true | _ => false
/-- data lies in the heap; a dict may be locked at the moment -/
def Up (I H : Hp) : Prop := ∀ a u, I a = some u → H a = some u ∨ (isD u = true ∧ ∃ o, H a = some (.frz o u))
theorem Up.none {I H : Hp} (u : Up I H) {a : Addr} (h : H a = none) : I a = none := by
  cases e : I a with
  | none => rfl
  | some w =>
    rcases u a w e with z | ⟨_, o, z⟩ <;> rw [h] at z <;> cases z
theorem Up.plain {I H : Hp} (u : Up I H) {a : Addr} {w : HO} (h : I a = some w) (hd : isD w = false) : H a = some w := by
  rcases u a w h with z | ⟨z, _⟩
  · exact z
  · rw [hd] at z; cases z
/-- data but for the dicts -/
def nod (I : Hp) : Hp := fun a => match I a with
  | some u => if isD u then none else some u
  | none => none
theorem nod_some {I : Hp} {a : Addr} {u : HO} (h : I a = some u) (hd : isD u = false) : nod I a = some u := by
  unfold nod; rw [h]; simp [hd]
theorem of_nod {I : Hp} {a : Addr} {u : HO} (h : nod I a = some u) : I a = some u ∧ isD u = false := by
  unfold nod at h
  cases e : I a with
  | none => rw [e] at h; cases h
  | some w =>
    rw [e] at h
    simp only at h
    cases d : isD w with
    | true => rw [d] at h; simp at h
    | false => rw [d] at h; simp at h; subst h; exact ⟨rfl, d⟩
theorem Up.nod {I H : Hp} (u : Up I H) : Ex (nod I) H := fun a w h => let ⟨h1, h2⟩ := of_nod h; u.plain h1 h2
def AVr (K : PySem.W.Frag) (I : Hp) (n : Nat) (ad : Nat → Addr) (v : V) : AV → Prop
  | .d x => Rep K I v x
  | .o i => i < n ∧ v = .ref (ad i)
def KVr (κ : Type) (K : PySem.W.Frag) (I : Hp) (n : Nat) (ad : Nat → Addr) (p : κ × V) (q : κ × AV) : Prop := p.1 = q.1 ∧ AVr K I n ad p.2 q.2
def AOr (K : PySem.W.Frag) (I H : Hp) (n : Nat) (ad : Nat → Addr) (a : Addr) : AO → Prop
  | .gone => True
  | .ml vs => ∃ xs, H a = some (.lst xs) ∧ Paired (AVr K I n ad) xs vs
  | .tu vs => ∃ xs, H a = some (.tup xs) ∧ Paired (AVr K I n ad) xs vs
  | .md kvs => ∃ xs, H a = some (.dK xs) ∧ Paired (KVr Key K I n ad) xs kvs
  | .mt kvs => ∃ xs, H a = some (.dT xs) ∧ Paired (KVr (List Key) K I n ad) xs kvs
  | .ins C j fs => j < n ∧ ∃ xs, H a = some (.ins C (ad j) xs) ∧ Paired (KVr Str K I n ad) xs fs
  | .own i => i < n ∧ H a = some (.own (ad i))
  | .lk (.md kvs) => ∃ ob xs, H a = some (.frz ob (.dK xs)) ∧ Paired (KVr Key K I n ad) xs kvs
  | .lk (.mt kvs) => ∃ ob xs, H a = some (.frz ob (.dT xs)) ∧ Paired (KVr (List Key) K I n ad) xs kvs
  | .lk _ => False
structure HH (K : PySem.W.Frag) (I H : Hp) (h : AHp) (ad : Nat → Addr) : Prop where
  up : Up I H
  wf : h.wf
  inj : ∀ i j, i < h.next → j < h.next → ad i = ad j → i = j
  tr : ∀ i, i < h.next → H (ad i) ≠ none
  ob : ∀ i, i < h.next → AOr K I H h.next ad (ad i) (h.objs i)
  out : ∀ i, i < h.next → (h.objs i).isG = false → I (ad i) = none
  exa : h.lk = false → Ex I H
def Own (h : AHp) (ad : Nat → Addr) (a : Addr) : Prop := ∃ i, i < h.next ∧ ad i = a ∧ (h.objs i).free = true
structure Goes (I H : Hp) (h : AHp) (ad : Nat → Addr) (I' H' : Hp) (h' : AHp) (ad' : Nat → Addr) : Prop where
  ii : Ex I I'
  keep : ∀ a o, H a = some o → ¬ Own h ad a → H' a = some o
  new : ∀ a, H a ≠ none → I a = none → ¬ Own h ad a → I' a = none
  alive : ∀ a, H a ≠ none → H' a ≠ none
  sub : ∀ a, Own h' ad' a → Own h ad a ∨ H a = none
  le : h.next ≤ h'.next
  pre : ∀ i, i < h.next → ad' i = ad i
  adn : ∀ i, h.next ≤ i → i < h'.next → H (ad' i) = none
section
variable {K : PySem.W.Frag} {I H I' H' I1 H1 : Hp} {h h' h1 : AHp} {ad ad' ad1 : Nat → Addr}
theorem Goes.refl : Goes I H h ad I H h ad := ⟨DL.Ex.refl I, fun _ _ e _ => e, fun _ _ e _ => e, fun _ e => e, fun _ e => .inl e, Nat.le_refl _, fun _ _ => rfl, fun _ l l' => by omega⟩
theorem Goes.trans (a : Goes I H h ad I1 H1 h1 ad1) (b : Goes I1 H1 h1 ad1 I' H' h' ad') : Goes I H h ad I' H' h' ad' where
  ii := a.ii.trans b.ii
  keep := fun x o e n => b.keep x o (a.keep x o e n) fun z => by
    rcases a.sub x z with q | q
    · exact n q
    · rw [e] at q; cases q
  new := fun x e i n => b.new x (a.alive x e) (a.new x e i n) fun z => by
    rcases a.sub x z with q | q
    · exact n q
    · exact e q
  alive := fun x e => b.alive x (a.alive x e)
  sub := fun x z => by
    rcases b.sub x z with q | q
    · exact a.sub x q
    · refine .inr ?_
      cases e : H x with
      | none => rfl
      | some o => exact absurd q (a.alive x (by rw [e]; simp))
  le := Nat.le_trans a.le b.le
  pre := fun i hi => (b.pre i (Nat.lt_of_lt_of_le hi a.le)).trans (a.pre i hi)
  adn := fun i l l' => by
    by_cases z : i < h1.next
    · rw [b.pre i z]; exact a.adn i l z
    · have q := b.adn i (by omega) l'
      cases e : H (ad' i) with
      | none => rfl
      | some o => exact absurd q (a.alive _ (by rw [e]; simp))
theorem AVr.mono {n n' : Nat} (e : Ex I I') (hn : n ≤ n') (hp : ∀ i, i < n → ad' i = ad i) {v : V} : ∀ {x : AV}, AVr K I n ad v x → AVr K I' n' ad' v x
  | .d _, r => Rep.mono e r
  | .o i, ⟨l, q⟩ => ⟨Nat.lt_of_lt_of_le l hn, by rw [hp i l]; exact q⟩
theorem AVr.goes (g : Goes I H h ad I' H' h' ad') {v : V} {x : AV} (r : AVr K I h.next ad v x) : AVr K I' h'.next ad' v x := r.mono g.ii g.le g.pre
theorem pmono {α β : Type} {F G : α → β → Prop} (hf : ∀ a b, F a b → G a b) : ∀ {l : List α} {m : List β}, Paired F l m → Paired G l m
  | _, _, .nil => .nil
  | _, _, .cons a b => .cons (hf _ _ a) (pmono hf b)
theorem plen {α β : Type} {F : α → β → Prop} : ∀ {l : List α} {m : List β}, Paired F l m → l.length = m.length
  | _, _, .nil => rfl
  | _, _, .cons _ b => congrArg (· + 1) (plen b)
theorem AOr.mono {n n' : Nat} {a : Addr} (e : Ex I I') (hn : n ≤ n') (hp : ∀ i, i < n → ad' i = ad i) (hH : H' a = H a) : ∀ {o : AO}, AOr K I H n ad a o → AOr K I' H' n' ad' a o
  | .gone, _ => trivial
  | .ml _, ⟨xs, q, r⟩ => ⟨xs, hH.trans q, pmono (fun _ _ z => z.mono e hn hp) r⟩
  | .tu _, ⟨xs, q, r⟩ => ⟨xs, hH.trans q, pmono (fun _ _ z => z.mono e hn hp) r⟩
  | .md _, ⟨xs, q, r⟩ => ⟨xs, hH.trans q, pmono (fun _ _ z => ⟨z.1, z.2.mono e hn hp⟩) r⟩
  | .mt _, ⟨xs, q, r⟩ => ⟨xs, hH.trans q, pmono (fun _ _ z => ⟨z.1, z.2.mono e hn hp⟩) r⟩
  | .ins C j _, ⟨l, xs, q, r⟩ => ⟨Nat.lt_of_lt_of_le l hn, xs, by rw [hp j l]; exact hH.trans q, pmono (fun _ _ z => ⟨z.1, z.2.mono e hn hp⟩) r⟩
  | .own i, ⟨l, q⟩ => ⟨Nat.lt_of_lt_of_le l hn, by rw [hp i l]; exact hH.trans q⟩
  | .lk (.md _), ⟨ob, xs, q, r⟩ => ⟨ob, xs, hH.trans q, pmono (fun _ _ z => ⟨z.1, z.2.mono e hn hp⟩) r⟩
  | .lk (.mt _), ⟨ob, xs, q, r⟩ => ⟨ob, xs, hH.trans q, pmono (fun _ _ z => ⟨z.1, z.2.mono e hn hp⟩) r⟩
  | .lk .gone, q | .lk (.ml _), q | .lk (.tu _), q | .lk (.ins _ _ _), q | .lk (.own _), q | .lk (.lk _), q => q.elim
/-- what is its own is tracked and no data -/
theorem HH.own (hh : HH K I H h ad) {a : Addr} (o : Own h ad a) : H a ≠ none ∧ I a = none := by
  obtain ⟨i, l, e, f⟩ := o
  subst e
  refine ⟨hh.tr i l, hh.out i l ?_⟩
  cases q : h.objs i <;> rw [q] at f <;> first | rfl | cases f
theorem HH.notown (hh : HH K I H h ad) {a : Addr} {u : HO} (e : I a = some u) : ¬ Own h ad a := fun o => by
  have := (hh.own o).2
  rw [e] at this; cases this
/-- a new thing that is data -/
theorem HH.newD (hh : HH K I H h ad) {p : Addr} {u : HO} (hp : H p = none) : HH K (upd I p u) (upd H p u) h ad ∧ Goes I H h ad (upd I p u) (upd H p u) h ad := by
  have hI : I p = none := hh.up.none hp
  have ne : ∀ i, i < h.next → ad i ≠ p := fun i l z => hh.tr i l (by rw [z]; exact hp)
  have ex : Ex I (upd I p u) := DL.Ex.new hI
  refine ⟨⟨fun a w e => ?_, hh.wf, hh.inj, fun i l => by rw [upd_ne (ne i l)]; exact hh.tr i l, fun i l => (hh.ob i l).mono ex (Nat.le_refl _) (fun _ _ => rfl) (upd_ne (ne i l)), fun i l q => by rw [upd_ne (ne i l)]; exact hh.out i l q, fun z a w e => ?_⟩,
    ⟨ex, fun a o e _ => by rw [upd_ne (ne_of_none e hp)]; exact e, fun a e i _ => ?_, fun a e => ?_, fun a o => .inl o, Nat.le_refl _, fun _ _ => rfl, fun _ l l' => by omega⟩⟩
  · by_cases z : a = p
    · rw [z, upd_same] at e; rw [z, upd_same]; exact .inl e
    · rw [upd_ne z] at e; rw [upd_ne z]; exact hh.up a w e
  · by_cases y : a = p
    · rw [y, upd_same] at e; rw [y, upd_same]; exact e
    · rw [upd_ne y] at e; rw [upd_ne y]; exact hh.exa z a w e
  · have z : a ≠ p := fun z => e (by rw [z]; exact hp)
    rw [upd_ne z]; exact i
  · have z : a ≠ p := fun z => e (by rw [z]; exact hp)
    rw [upd_ne z]; exact e
/-- the object with a number changes -/
theorem HH.put (hh : HH K I H h ad) {i : Nat} {u : HO} {o : AO} (l : i < h.next) (fr : (h.objs i).free = true) (new : AOr K I (upd H (ad i) u) h.next ad (ad i) o) (fo : o.isG = false) :
    HH K I (upd H (ad i) u) (put h i o) ad ∧ Goes I H h ad I (upd H (ad i) u) (put h i o) ad := by
  have own : Own h ad (ad i) := ⟨i, l, rfl, fr⟩
  have hI := (hh.own own).2
  have ne : ∀ j, j < h.next → j ≠ i → ad j ≠ ad i := fun j lj z q => z (hh.inj j i lj l q)
  refine ⟨⟨fun a w e => ?_, fun j lj => ?_, hh.inj, fun j lj => ?_, fun j lj => ?_, fun j lj q => ?_, fun z a w e => ?_⟩, ⟨DL.Ex.refl I, fun a w e n => ?_, fun _ _ e _ => e, fun a e => ?_, fun a ⟨j, lj, ea, f⟩ => .inl ?_, Nat.le_refl _, fun _ _ => rfl, fun _ l l' => absurd l' (Nat.not_lt.mpr l)⟩⟩
  · have z : a ≠ ad i := fun z => by rw [z, hI] at e; cases e
    rw [upd_ne z]; exact hh.up a w e
  · have lj' : h.next ≤ j := lj
    have z : j ≠ i := by omega
    show (if j = i then o else h.objs j) = .gone
    rw [if_neg z]; exact hh.wf j lj'
  · by_cases z : j = i
    · rw [z, upd_same]; simp
    · rw [upd_ne (ne j lj z)]; exact hh.tr j lj
  · show AOr K I (upd H (ad i) u) h.next ad (ad j) (if j = i then o else h.objs j)
    by_cases z : j = i
    · rw [if_pos z, z]; exact new
    · rw [if_neg z]; exact (hh.ob j lj).mono (DL.Ex.refl I) (Nat.le_refl _) (fun _ _ => rfl) (upd_ne (ne j lj z))
  · by_cases z : j = i
    · rw [z]; exact hI
    · refine hh.out j lj ?_
      have q' : (if j = i then o else h.objs j).isG = false := q
      rw [if_neg z] at q'; exact q'
  · have y : a ≠ ad i := fun y => by rw [y, hI] at e; cases e
    rw [upd_ne y]; exact hh.exa z a w e
  · have z : a ≠ ad i := fun z => n (by rw [z]; exact own)
    rw [upd_ne z]; exact e
  · by_cases z : a = ad i
    · rw [z, upd_same]; simp
    · rw [upd_ne z]; exact e
  · by_cases z : j = i
    · rw [← ea, z]; exact own
    · have f' : (if j = i then o else h.objs j).free = true := f
      rw [if_neg z] at f'
      exact ⟨j, lj, ea, f'⟩
/-- a new object that still changes -/
def ext (ad : Nat → Addr) (n : Nat) (p : Addr) : Nat → Addr := fun j => if j = n then p else ad j
theorem ext_at {n : Nat} {p : Addr} : ext ad n p n = p := if_pos rfl
theorem ext_lt {n i : Nat} {p : Addr} (l : i < n) : ext ad n p i = ad i := if_neg (by omega)
theorem HH.alloc (hh : HH K I H h ad) {p : Addr} {u : HO} {o : AO} (hp : H p = none) (new : AOr K I (upd H p u) (h.next + 1) (ext ad h.next p) p o) :
    HH K I (upd H p u) (alloc h o) (ext ad h.next p) ∧ Goes I H h ad I (upd H p u) (alloc h o) (ext ad h.next p) := by
  have hI : I p = none := hh.up.none hp
  have ne : ∀ i, i < h.next → ad i ≠ p := fun i l z => hh.tr i l (by rw [z]; exact hp)
  refine ⟨⟨fun a w e => ?_, fun j lj => ?_, fun i j li lj e => ?_, fun j lj => ?_, fun j lj => ?_, fun j lj q => ?_, fun z a w e => ?_⟩, ⟨DL.Ex.refl I, fun a w e _ => by rw [upd_ne (ne_of_none e hp)]; exact e, fun _ _ e _ => e, fun a e => ?_, fun a ⟨j, lj, ea, f⟩ => ?_, Nat.le_succ _, fun i l => ext_lt l, fun i l l' => by
      have l2 : i < h.next + 1 := l'
      have z : i = h.next := by omega
      rw [z, ext_at]; exact hp⟩⟩
  · have z : a ≠ p := fun z => by rw [z, hI] at e; cases e
    rw [upd_ne z]; exact hh.up a w e
  · have lj' : h.next + 1 ≤ j := lj
    show (if j = h.next then o else h.objs j) = .gone
    rw [if_neg (by omega)]; exact hh.wf j (by omega)
  · have li' : i < h.next + 1 := li
    have lj' : j < h.next + 1 := lj
    by_cases z : i = h.next
    · by_cases y : j = h.next
      · omega
      · rw [z, ext_at, ext_lt (by omega)] at e
        exact absurd e.symm (ne j (by omega))
    · by_cases y : j = h.next
      · rw [y, ext_at, ext_lt (by omega)] at e
        exact absurd e (ne i (by omega))
      · rw [ext_lt (by omega), ext_lt (by omega)] at e
        exact hh.inj i j (by omega) (by omega) e
  · have lj' : j < h.next + 1 := lj
    by_cases z : j = h.next
    · rw [z, ext_at, upd_same]; simp
    · rw [ext_lt (by omega), upd_ne (ne j (by omega))]; exact hh.tr j (by omega)
  · have lj' : j < h.next + 1 := lj
    show AOr K I (upd H p u) (h.next + 1) (ext ad h.next p) (ext ad h.next p j) (if j = h.next then o else h.objs j)
    by_cases z : j = h.next
    · rw [if_pos z, z, ext_at]; exact new
    · rw [if_neg z, ext_lt (by omega)]
      exact (hh.ob j (by omega)).mono (DL.Ex.refl I) (Nat.le_succ _) (fun i l => ext_lt l) (upd_ne (ne j (by omega)))
  · have lj' : j < h.next + 1 := lj
    by_cases z : j = h.next
    · rw [z, ext_at]; exact hI
    · rw [ext_lt (by omega)]
      refine hh.out j (by omega) ?_
      have q' : (if j = h.next then o else h.objs j).isG = false := q
      rw [if_neg z] at q'; exact q'
  · have y : a ≠ p := fun y => by rw [y, hI] at e; cases e
    rw [upd_ne y]; exact hh.exa z a w e
  · by_cases z : a = p
    · rw [z, upd_same]; simp
    · rw [upd_ne z]; exact e
  · have lj' : j < h.next + 1 := lj
    by_cases z : j = h.next
    · rw [z, ext_at] at ea; rw [← ea]; exact .inr hp
    · rw [ext_lt (by omega)] at ea
      have f' : (if j = h.next then o else h.objs j).free = true := f
      rw [if_neg z] at f'
      exact .inl ⟨j, by omega, ea, f'⟩
end

/-! ### outcomes -/
inductive Rs (α : Type) where
  | ok (a : α) (h : AHp) | ex (C : Addr) (fs : List (Str × Da)) (h : AHp) | bad
def Rs.bind {α β : Type} : Rs α → (α → AHp → Rs β) → Rs β
  | .ok a h, f => f a h
  | .ex C fs h, _ => .ex C fs h
  | .bad, _ => .bad
@[simp] theorem bind_ok {α β : Type} (a : α) (h : AHp) (f : α → AHp → Rs β) : (Rs.ok a h).bind f = f a h := rfl
@[simp] theorem bind_ex {α β : Type} (C : Addr) (fs : List (Str × Da)) (h : AHp) (f : α → AHp → Rs β) : (Rs.ex C fs h : Rs α).bind f = .ex C fs h := rfl
@[simp] theorem bind_bad {α β : Type} (f : α → AHp → Rs β) : (Rs.bad : Rs α).bind f = .bad := rfl
abbrev Okk (α : Type) := α → Hp → Hp → AHp → (Nat → Addr) → Prop
abbrev Exk := Addr → Addr → Hp → Prop
def Pst (K : PySem.W.Frag) {α : Type} (r : Rs α) (I H : Hp) (h : AHp) (ad : Nat → Addr) (okk : Okk α) (exk : Exk) : Prop :=
  match r with
  | .ok a h' => ∀ I' H' ad', Goes I H h ad I' H' h' ad' → HH K I' H' h' ad' → okk a I' H' h' ad'
  | .ex C fs h' => ∀ I' H' ad', Goes I H h ad I' H' h' ad' → HH K I' H' h' ad' → ∀ dx xs, I' dx = some (.xd xs) → RepF K I' xs fs → exk C dx H'
  | .bad => False
section
variable {K : PySem.W.Frag} {I H I' H' I1 H1 : Hp} {h h' h1 : AHp} {ad ad' ad1 : Nat → Addr} {α β : Type} {okk okk' : Okk α} {exk exk' : Exk}
theorem Pst.on {r : Rs α} (p : Pst K r I H h ad okk exk) (g : Goes I H h ad I1 H1 h1 ad1) : Pst K r I1 H1 h1 ad1 okk exk := by
  cases r with
  | ok a h' => exact fun I' H' ad' g' => p I' H' ad' (g.trans g')
  | ex C fs h' => exact fun I' H' ad' g' => p I' H' ad' (g.trans g')
  | bad => exact p
theorem Pst.bind {r : Rs α} {f : α → AHp → Rs β} {okk : Okk β} (p : Pst K (r.bind f) I H h ad okk exk) : Pst K r I H h ad (fun a I' H' h' ad' => Pst K (f a h') I' H' h' ad' okk exk) exk := by
  cases r with
  | ok a h' => exact fun I' H' ad' g _ => Pst.on p g
  | ex C fs h' => exact p
  | bad => exact p
theorem Pst.imp {r : Rs α} (p : Pst K r I H h ad okk exk) (f : ∀ a I' H' h' ad', Goes I H h ad I' H' h' ad' → HH K I' H' h' ad' → okk a I' H' h' ad' → okk' a I' H' h' ad') (x : ∀ C d H', exk C d H' → exk' C d H') : Pst K r I H h ad okk' exk' := by
  cases r with
  | ok a h' => exact fun I' H' ad' g hh => f _ _ _ _ _ g hh (p I' H' ad' g hh)
  | ex C fs h' => exact fun I' H' ad' g hh dx xs a b => x _ _ _ (p I' H' ad' g hh dx xs a b)
  | bad => exact p
/-- here and now -/
theorem Pst.now {a : α} (p : Pst K (.ok a h) I H h ad okk exk) (hh : HH K I H h ad) : okk a I H h ad := p I H ad Goes.refl hh
end

/-! ### slots, expressions -/
def SVr (K : PySem.W.Frag) (I : Hp) (n : Nat) (ad : Nat → Addr) (o : Option V) : Option AV → Prop
  | none => True
  | some x => ∃ v, o = some v ∧ AVr K I n ad v x
abbrev SLr (K : PySem.W.Frag) (I : Hp) (n : Nat) (ad : Nat → Addr) (σ : St) (env : List (Option AV)) : Prop := Paired (SVr K I n ad) σ env
abbrev EvX := List (Option AV) → AHp → Rs AV
abbrev EvA := List (Option AV) → AHp → Rs (List AV)
abbrev EvT := List (Option AV) → AHp → Rs Bool
abbrev Env := List (Option AV)
section
variable {K : PySem.W.Frag} {I H I' H' : Hp} {h h' : AHp} {ad ad' : Nat → Addr} {σ : St} {env : Env}
theorem SLr.goes (g : Goes I H h ad I' H' h' ad') (s : SLr K I h.next ad σ env) : SLr K I' h'.next ad' σ env :=
  pmono (fun o x r => by
    cases x with
    | none => trivial
    | some x => obtain ⟨v, e, r⟩ := r; exact ⟨v, e, r.goes g⟩) s
theorem paired_get {α β : Type} {F : α → β → Prop} : ∀ {l : List α} {m : List β} {i : Nat} {b : β}, Paired F l m → m[i]? = some b → ∃ a, l[i]? = some a ∧ F a b
  | _, _, _, _, .nil, e => by simp at e
  | _, _, 0, _, .cons r _, e => by simp at e; subst e; exact ⟨_, rfl, r⟩
  | _, _, i + 1, _, .cons _ t, e => paired_get (i := i) t (by simpa using e)
theorem paired_get' {α β : Type} {F : α → β → Prop} : ∀ {l : List α} {m : List β} {i : Nat} {a : α}, Paired F l m → l[i]? = some a → ∃ b, m[i]? = some b ∧ F a b
  | _, _, _, _, .nil, e => by simp at e
  | _, _, 0, _, .cons r _, e => by simp at e; subst e; exact ⟨_, rfl, r⟩
  | _, _, i + 1, _, .cons _ t, e => paired_get' (i := i) t (by simpa using e)
theorem paired_set {α β : Type} {F : α → β → Prop} {a : α} {b : β} (r : F a b) : ∀ {l : List α} {m : List β} (i : Nat), Paired F l m → Paired F (l.set i a) (m.set i b)
  | _, _, _, .nil => .nil
  | _, _, 0, .cons _ t => .cons r t
  | _, _, i + 1, .cons q t => .cons q (paired_set r i t)
theorem paired_app {α β : Type} {F : α → β → Prop} : ∀ {l l' : List α} {m m' : List β}, Paired F l m → Paired F l' m' → Paired F (l ++ l') (m ++ m')
  | _, _, _, _, .nil, s => s
  | _, _, _, _, .cons r t, s => .cons r (paired_app t s)
end
/-- an expression's reading is sound for a function -/
def SX (K : PySem.W.Frag) (W : WX) (te : TE) (ev : EvX) : Prop :=
  ∀ I H h ad σ env, HH K I H h ad → SLr K I h.next ad σ env → ∀ QQ : VK, Pst K (ev env h) I H h ad (fun v I' H' h' ad' => ∀ w, AVr K I' h'.next ad' w v → QQ w H') (fun C dx H' => W (.ref C) (some dx) σ H') → te σ H QQ
def SA (K : PySem.W.Frag) (W : WX) (ta : TA) (ev : EvA) : Prop :=
  ∀ I H h ad σ env, HH K I H h ad → SLr K I h.next ad σ env → ∀ QQ : List V → Hp → Prop, Pst K (ev env h) I H h ad (fun vs I' H' h' ad' => ∀ ws, Paired (AVr K I' h'.next ad') ws vs → QQ ws H') (fun C dx H' => W (.ref C) (some dx) σ H') → ta σ H QQ
def ST (K : PySem.W.Frag) (W : WX) (tt : TT) (ev : EvT) : Prop :=
  ∀ I H h ad σ env, HH K I H h ad → SLr K I h.next ad σ env → ∀ QQ : Bool → Hp → Prop, Pst K (ev env h) I H h ad (fun b I' H' h' ad' => QQ b H') (fun C dx H' => W (.ref C) (some dx) σ H') → tt σ H QQ
end EL
/-! Expressions, tests, arguments: their readings and their functions. -/
namespace EL
open PySem L2
open DL (Da Rep RepL RepF RepK RepD RepT Ex)
section
variable {K : PySem.W.Frag} {W : WX} {te ta tb tc : TE} {tt tu : TT} {tr : TA} {ev ea eb : EvX} {et eu : EvT} {er : EvA}
/-! ### names, constants -/
def evVar (i : Nat) : EvX := fun env h => match env[i]? with
  | some (some v) => .ok v h
  | _ => .bad
theorem sx_var {i : Nat} : SX K W (tVar i) (evVar i) := fun I H h ad σ env hh sl QQ p => by
  unfold evVar at p
  cases e : env[i]? with
  | none => rw [e] at p; exact p.elim
  | some o =>
    cases o with
    | none => rw [e] at p; exact p.elim
    | some v =>
      rw [e] at p
      obtain ⟨u, hu, w, ew, r⟩ := paired_get sl e
      subst ew
      exact ⟨w, hu, p.now hh w r⟩
def evC (d : Da) : EvX := fun _ h => .ok (.d d) h
theorem sx_con {v : V} {d : Da} (r : ∀ I, Rep K I v d) : SX K W (tC v) (evC d) := fun I H h ad σ env hh sl QQ p => p.now hh v (r I)
theorem sx_int {i : Int} : SX K W (tC (.int i)) (evC (.int i)) := sx_con fun _ => .int i
theorem sx_bl {i : Bool} : SX K W (tC (.bl i)) (evC (.bl i)) := sx_con fun _ => .bl i
theorem sx_str {i : Str} : SX K W (tC (.str i)) (evC (.str i)) := sx_con fun _ => .str i
theorem sx_non : SX K W (tC .non) (evC .non) := sx_con fun _ => .non
theorem sx_ty {i : String} : SX K W (tC (.ty i)) (evC (.ty i)) := sx_con fun _ => .ty i
theorem sx_cls {i : Addr} : SX K W (tC (.ref i)) (evC (.cls i)) := sx_con fun _ => .cls i
/-- a name of the module that holds a written tuple of texts, or such -/
theorem sx_kon {a : Addr} {d : Da} (r : ∀ I, Rep K I (.ref a) d) : SX K W (DL.tK a) (evC d) := sx_con r
/-! ### arguments -/
def evNil : EvA := fun _ h => .ok [] h
def evCons (ea : EvX) (er : EvA) : EvA := fun env h => (ea env h).bind fun x h1 => (er env h1).bind fun xs h2 => .ok (x :: xs) h2
theorem sa_nil : SA K W tNil evNil := fun I H h ad σ env hh sl QQ p => p.now hh [] .nil
theorem sa_cons (ha : SX K W ta ea) (hr : SA K W tr er) : SA K W (tCons ta tr) (evCons ea er) := fun I H h ad σ env hh sl QQ p =>
  ha I H h ad σ env hh sl _ <| Pst.imp (Pst.bind p) (fun x I1 H1 h1 ad1 g1 hh1 p1 v rv =>
    hr I1 H1 h1 ad1 σ env hh1 (sl.goes g1) _ <| Pst.imp (Pst.bind p1) (fun xs I2 H2 h2 ad2 g2 hh2 p2 ws rs =>
      p2.now hh2 (v :: ws) (.cons (rv.goes g2) rs)) fun _ _ _ z => z) fun _ _ _ z => z
/-! ### operators by values -/
def SR2 (K : PySem.W.Frag) (r : R2) (f : AV → AV → AHp → Rs AV) : Prop :=
  ∀ I H h ad, HH K I H h ad → ∀ v w x y, AVr K I h.next ad v x → AVr K I h.next ad w y → ∀ QQ : VK, Pst K (f x y h) I H h ad (fun z I' H' h' ad' => ∀ u, AVr K I' h'.next ad' u z → QQ u H') (fun _ _ _ => False) → r v w H QQ
def SR1 (K : PySem.W.Frag) (r : V → Hp → VK → Prop) (f : AV → AHp → Rs AV) : Prop :=
  ∀ I H h ad, HH K I H h ad → ∀ v x, AVr K I h.next ad v x → ∀ QQ : VK, Pst K (f x h) I H h ad (fun z I' H' h' ad' => ∀ u, AVr K I' h'.next ad' u z → QQ u H') (fun _ _ _ => False) → r v H QQ
def SRC (K : PySem.W.Frag) (r : List V → Hp → VK → Prop) (f : List AV → AHp → Rs AV) : Prop :=
  ∀ I H h ad, HH K I H h ad → ∀ vs xs, Paired (AVr K I h.next ad) vs xs → ∀ QQ : VK, Pst K (f xs h) I H h ad (fun z I' H' h' ad' => ∀ u, AVr K I' h'.next ad' u z → QQ u H') (fun _ _ _ => False) → r vs H QQ
def noex {α : Type} : Rs α → Rs α
  | .ok a h => .ok a h
  | _ => .bad
theorem Pst.noex {α : Type} {r : Rs α} {I H : Hp} {h : AHp} {ad : Nat → Addr} {okk : Okk α} {exk exk' : Exk} (p : Pst K (EL.noex r) I H h ad okk exk) : Pst K r I H h ad okk exk' := by
  cases r with
  | ok a h' => exact p
  | ex C fs h' => exact p.elim
  | bad => exact p
theorem Pst.noex' {α : Type} {r : Rs α} {I H : Hp} {h : AHp} {ad : Nat → Addr} {okk : Okk α} {exk exk' : Exk} (p : Pst K (EL.noex r) I H h ad okk exk) : Pst K (EL.noex r) I H h ad okk exk' := by
  cases r with
  | ok a h' => exact p
  | ex C fs h' => exact p.elim
  | bad => exact p
def evOp (f : AV → AV → AHp → Rs AV) (ea eb : EvX) : EvX := fun env h => (ea env h).bind fun x h1 => (eb env h1).bind fun y h2 => noex (f x y h2)
theorem sx_op {r : R2} {f : AV → AV → AHp → Rs AV} (hr : SR2 K r f) (ha : SX K W ta ea) (hb : SX K W tb eb) : SX K W (tOp r ta tb) (evOp f ea eb) := fun I H h ad σ env hh sl QQ p =>
  ha I H h ad σ env hh sl _ <| Pst.imp (Pst.bind p) (fun x I1 H1 h1 ad1 g1 hh1 p1 v rv =>
    hb I1 H1 h1 ad1 σ env hh1 (sl.goes g1) _ <| Pst.imp (Pst.bind p1) (fun y I2 H2 h2 ad2 g2 hh2 p2 w rw =>
      hr I2 H2 h2 ad2 hh2 v w x y (rv.goes g2) rw QQ p2.noex) fun _ _ _ z => z) fun _ _ _ z => z
def evUn (f : AV → AHp → Rs AV) (ea : EvX) : EvX := fun env h => (ea env h).bind fun x h1 => noex (f x h1)
theorem sx_un {r : V → Hp → VK → Prop} {f : AV → AHp → Rs AV} (hr : SR1 K r f) (ha : SX K W ta ea) : SX K W (tUn r ta) (evUn f ea) := fun I H h ad σ env hh sl QQ p =>
  ha I H h ad σ env hh sl _ <| Pst.imp (Pst.bind p) (fun x I1 H1 h1 ad1 g1 hh1 p1 v rv => hr I1 H1 h1 ad1 hh1 v x rv QQ p1.noex) fun _ _ _ z => z
def evCB (f : List AV → AHp → Rs AV) (er : EvA) : EvX := fun env h => (er env h).bind fun xs h1 => noex (f xs h1)
theorem sx_cb {r : List V → Hp → VK → Prop} {f : List AV → AHp → Rs AV} (hr : SRC K r f) (ha : SA K W tr er) : SX K W (tCB r tr) (evCB f er) := fun I H h ad σ env hh sl QQ p =>
  ha I H h ad σ env hh sl _ <| Pst.imp (Pst.bind p) (fun xs I1 H1 h1 ad1 g1 hh1 p1 vs rv => hr I1 H1 h1 ad1 hh1 vs xs rv QQ p1.noex) fun _ _ _ z => z
/-! ### tests -/
def asB (v : AV) (h : AHp) : Rs Bool := match v with
  | .d (.bl b) => .ok b h
  | _ => .bad
def evTst (ea : EvX) : EvT := fun env h => (ea env h).bind asB
theorem asB_ok {v : AV} {I H : Hp} {h : AHp} {ad : Nat → Addr} {okk : Okk Bool} {exk : Exk} (hh : HH K I H h ad) (p : Pst K (asB v h) I H h ad okk exk) : ∃ b, v = .d (.bl b) ∧ okk b I H h ad := by
  unfold asB at p
  split at p
  · exact ⟨_, rfl, p.now hh⟩
  · exact p.elim
theorem st_b (ha : SX K W ta ea) : ST K W (tB ta) (evTst ea) := fun I H h ad σ env hh sl QQ p =>
  ha I H h ad σ env hh sl _ <| Pst.imp (Pst.bind p) (fun x I1 H1 h1 ad1 g1 hh1 p1 v rv => by
    obtain ⟨b, e, q⟩ := asB_ok hh1 p1
    subst e
    cases (show Rep K I1 v (.bl b) from rv)
    exact ⟨b, rfl, q⟩) fun _ _ _ z => z
theorem st_test (ha : SX K W ta ea) : ST K W (tTest ta) (evTst ea) := fun I H h ad σ env hh sl QQ p =>
  ha I H h ad σ env hh sl _ <| Pst.imp (Pst.bind p) (fun x I1 H1 h1 ad1 g1 hh1 p1 v rv => by
    obtain ⟨b, e, q⟩ := asB_ok hh1 p1
    subst e
    cases (show Rep K I1 v (.bl b) from rv)
    exact ⟨b, rfl, q⟩) fun _ _ _ z => z
def evAnd (et eu : EvT) : EvT := fun env h => (et env h).bind fun b h1 => if b = true then eu env h1 else .ok false h1
def evOr (et eu : EvT) : EvT := fun env h => (et env h).bind fun b h1 => if b = true then .ok true h1 else eu env h1
def evNot (et : EvT) : EvT := fun env h => (et env h).bind fun b h1 => .ok (!b) h1
def evYes : EvT := fun _ h => .ok true h
theorem st_and (ha : ST K W tt et) (hb : ST K W tu eu) : ST K W (tAnd tt tu) (evAnd et eu) := fun I H h ad σ env hh sl QQ p =>
  ha I H h ad σ env hh sl _ <| Pst.imp (Pst.bind p) (fun b I1 H1 h1 ad1 g1 hh1 p1 => by
    cases b with
    | true => exact hb I1 H1 h1 ad1 σ env hh1 (sl.goes g1) QQ p1
    | false => exact p1.now hh1) fun _ _ _ z => z
theorem st_or (ha : ST K W tt et) (hb : ST K W tu eu) : ST K W (tOr tt tu) (evOr et eu) := fun I H h ad σ env hh sl QQ p =>
  ha I H h ad σ env hh sl _ <| Pst.imp (Pst.bind p) (fun b I1 H1 h1 ad1 g1 hh1 p1 => by
    cases b with
    | true => exact p1.now hh1
    | false => exact hb I1 H1 h1 ad1 σ env hh1 (sl.goes g1) QQ p1) fun _ _ _ z => z
theorem st_not (ha : ST K W tt et) : ST K W (tNot tt) (evNot et) := fun I H h ad σ env hh sl QQ p =>
  ha I H h ad σ env hh sl _ <| Pst.imp (Pst.bind p) (fun b I1 H1 h1 ad1 g1 hh1 p1 => p1.now hh1) fun _ _ _ z => z
theorem st_yes : ST K W tYes evYes := fun I H h ad σ env hh sl QQ p => p.now hh
def bV (b : Bool) (h : AHp) : Rs AV := .ok (.d (.bl b)) h
def evAndV (ea eb : EvX) : EvX := fun env h => (evTst ea env h).bind fun b h1 => if b = true then eb env h1 else bV false h1
def evOrV (ea eb : EvX) : EvX := fun env h => (evTst ea env h).bind fun b h1 => if b = true then bV true h1 else eb env h1
def evNotV (ea : EvX) : EvX := fun env h => (evTst ea env h).bind fun b h1 => bV (!b) h1
theorem tst_pst {I H : Hp} {h : AHp} {ad : Nat → Addr} {env : Env} {β : Type} {f : Bool → AHp → Rs β} {okk : Okk β} {exk : Exk} (p : Pst K ((evTst ea env h).bind f) I H h ad okk exk) :
    Pst K (ea env h) I H h ad (fun x I1 H1 h1 ad1 => ∃ b, x = .d (.bl b) ∧ Pst K (f b h1) I1 H1 h1 ad1 okk exk) exk := by
  refine Pst.imp (Pst.bind (Pst.bind p)) (fun x I1 H1 h1 ad1 g1 hh1 p1 => ?_) fun _ _ _ z => z
  obtain ⟨b, e, q⟩ := asB_ok hh1 p1
  exact ⟨b, e, q⟩
theorem sx_andV (ha : SX K W ta ea) (hb : SX K W tb eb) : SX K W (tAndV ta tb) (evAndV ea eb) := fun I H h ad σ env hh sl QQ p =>
  ha I H h ad σ env hh sl _ <| Pst.imp (tst_pst p) (fun x I1 H1 h1 ad1 g1 hh1 ⟨b, e, p1⟩ v rv => by
    subst e
    cases (show Rep K I1 v (.bl b) from rv)
    refine ⟨b, rfl, ?_⟩
    cases b with
    | true => exact hb I1 H1 h1 ad1 σ env hh1 (sl.goes g1) QQ p1
    | false => exact p1.now hh1 _ (Rep.bl false)) fun _ _ _ z => z
theorem sx_orV (ha : SX K W ta ea) (hb : SX K W tb eb) : SX K W (tOrV ta tb) (evOrV ea eb) := fun I H h ad σ env hh sl QQ p =>
  ha I H h ad σ env hh sl _ <| Pst.imp (tst_pst p) (fun x I1 H1 h1 ad1 g1 hh1 ⟨b, e, p1⟩ v rv => by
    subst e
    cases (show Rep K I1 v (.bl b) from rv)
    refine ⟨b, rfl, ?_⟩
    cases b with
    | true => exact p1.now hh1 _ (Rep.bl true)
    | false => exact hb I1 H1 h1 ad1 σ env hh1 (sl.goes g1) QQ p1) fun _ _ _ z => z
theorem sx_notV (ha : SX K W ta ea) : SX K W (tNotV ta) (evNotV ea) := fun I H h ad σ env hh sl QQ p =>
  ha I H h ad σ env hh sl _ <| Pst.imp (tst_pst p) (fun x I1 H1 h1 ad1 g1 hh1 ⟨b, e, p1⟩ v rv => by
    subst e
    cases (show Rep K I1 v (.bl b) from rv)
    exact ⟨b, rfl, p1.now hh1 _ (Rep.bl _)⟩) fun _ _ _ z => z
def evIf (et : EvT) (ea eb : EvX) : EvX := fun env h => (et env h).bind fun b h1 => if b = true then ea env h1 else eb env h1
theorem sx_if (hc : ST K W tt et) (ha : SX K W ta ea) (hb : SX K W tb eb) : SX K W (tIf tt ta tb) (evIf et ea eb) := fun I H h ad σ env hh sl QQ p =>
  hc I H h ad σ env hh sl _ <| Pst.imp (Pst.bind p) (fun b I1 H1 h1 ad1 g1 hh1 p1 => by
    cases b with
    | true => exact ha I1 H1 h1 ad1 σ env hh1 (sl.goes g1) QQ p1
    | false => exact hb I1 H1 h1 ad1 σ env hh1 (sl.goes g1) QQ p1) fun _ _ _ z => z
/-- two comparisons in a row -/
def evChain (f g : AV → AV → AHp → Rs AV) (ea eb ec : EvX) : EvX := fun env h => (ea env h).bind fun x h1 => (eb env h1).bind fun y h2 => (noex (f x y h2)).bind fun z h3 => (asB z h3).bind fun b h4 => if b = true then (ec env h4).bind fun w h5 => noex (g y w h5) else bV false h4
theorem sx_chain {r r' : R2} {f g : AV → AV → AHp → Rs AV} {ec : EvX} (hr : SR2 K r f) (hr' : SR2 K r' g) (ha : SX K W ta ea) (hb : SX K W tb eb) (hc : SX K W tc ec) : SX K W (tChain r r' ta tb tc) (evChain f g ea eb ec) := fun I H h ad σ env hh sl QQ p =>
  ha I H h ad σ env hh sl _ <| Pst.imp (Pst.bind p) (fun x I1 H1 h1 ad1 g1 hh1 p1 v rv =>
    hb I1 H1 h1 ad1 σ env hh1 (sl.goes g1) _ <| Pst.imp (Pst.bind p1) (fun y I2 H2 h2 ad2 g2 hh2 p2 w rw =>
      hr I2 H2 h2 ad2 hh2 v w x y (rv.goes g2) rw _ <| Pst.noex <| Pst.imp (Pst.bind p2) (fun z I3 H3 h3 ad3 g3 hh3 p3 u ru => by
        obtain ⟨b, e, q⟩ := asB_ok hh3 (Pst.bind p3)
        subst e
        cases (show Rep K I3 u (.bl b) from ru)
        refine ⟨b, rfl, ?_⟩
        cases b with
        | true =>
          refine hc I3 H3 h3 ad3 σ env hh3 (SLr.goes g3 (SLr.goes g2 (sl.goes g1))) _ <| Pst.imp (Pst.bind q) (fun t I4 H4 h4 ad4 g4 hh4 p4 s rs => ?_) fun _ _ _ z => z
          exact hr' I4 H4 h4 ad4 hh4 w s y t ((rw.goes g3).goes g4) rs QQ p4.noex
        | false => exact q.now hh3 _ (Rep.bl false)) fun _ _ _ z => z) fun _ _ _ z => z) fun _ _ _ z => z
end
/-! ### rules for data, taken over -/
mutual
def noD : Da → Bool
  | .tup ds => noDL ds
  | .lst ds => noDL ds
  | .dct _ => false | .dk _ => false | .dt _ => false | .exc _ _ => false | .obj _ _ => false
  | .non => true | .bl _ => true | .int _ => true | .str _ => true | .ty _ => true | .cls _ => true | .scr _ => true
def noDL : List Da → Bool
  | [] => true
  | d :: ds => noD d && noDL ds
end
section
variable {K : PySem.W.Frag} {I H : Hp}
theorem nod_t {a : Addr} {xs : List V} (h : SqT K I a xs) : SqT K (nod I) a xs := by
  rcases h with (h | ⟨o, h⟩) | h
  · exact .inl (.inl (nod_some h rfl))
  · exact .inl (.inr ⟨o, nod_some h rfl⟩)
  · exact .inr h
theorem nod_l {a : Addr} {xs : List V} (h : SqL K I a xs) : SqL K (nod I) a xs := by
  rcases h with (h | ⟨o, h⟩) | h
  · exact .inl (.inl (nod_some h rfl))
  · exact .inl (.inr ⟨o, nod_some h rfl⟩)
  · exact .inr h
mutual
theorem rep_nod : ∀ {v : V} {d : Da}, Rep K I v d → noD d = true → Rep K (nod I) v d
  | _, _, .non, _ => .non
  | _, _, .bl b, _ => .bl b
  | _, _, .int b, _ => .int b
  | _, _, .str b, _ => .str b
  | _, _, .ty b, _ => .ty b
  | _, _, .cls b, _ => .cls b
  | _, _, .tup h r, e => .tup (nod_t h) (repl_nod r e)
  | _, _, .lst h r, e => .lst (nod_some h rfl) (repl_nod r e)
  | _, _, .scr h, _ => .scr (nod_l h)
  | _, _, .dct _ _, e => nomatch e
  | _, _, .dk _ _, e => nomatch e
  | _, _, .dt _ _, e => nomatch e
  | _, _, .exc _ _ _, e => nomatch e
  | _, _, .exc0 _, e => nomatch e
  | _, _, .obj _ _, e => nomatch e
theorem repl_nod : ∀ {v : List V} {d : List Da}, RepL K I v d → noDL d = true → RepL K (nod I) v d
  | _, _, .nil, _ => .nil
  | _, _, .cons h t, e => .cons (rep_nod h (Bool.and_eq_true_iff.mp e).1) (repl_nod t (Bool.and_eq_true_iff.mp e).2)
end
end
/-- data of both -/
def mrg (I J : Hp) : Hp := fun a => match I a with
  | some u => some u
  | none => J a
theorem mrg_l {I J : Hp} : Ex I (mrg I J) := fun a u h => by unfold mrg; rw [h]
section
variable {K : PySem.W.Frag} {I H I' H' : Hp} {h : AHp} {ad : Nat → Addr}
/-- behind a rule of the layer below, which touched nothing -/
theorem mrg_ok (hh : HH K I H h ad) (st : DL.Step [] (nod I) H I' H') (ih : Ex I' H') : HH K (mrg I I') H' h ad ∧ Goes I H h ad (mrg I I') H' h ad ∧ Ex I' (mrg I I') := by
  have kp : ∀ a o, H a = some o → H' a = some o := fun a o e => st.keep a o e (by simp)
  have nI' : ∀ i, i < h.next → (h.objs i).isG = false → mrg I I' (ad i) = none := fun i l q => by
    have e := hh.out i l q
    have en : nod I (ad i) = none := by
      unfold nod; rw [e]
    unfold mrg
    rw [e]
    exact st.own _ (hh.tr i l) en
  refine ⟨⟨fun a u e => ?_, hh.wf, hh.inj, fun i l => ?_, fun i l => ?_, nI', fun z a u e => ?_⟩, ⟨mrg_l, fun a o e _ => kp a o e, fun a e i n => ?_, st.alive, fun a o => .inl o, Nat.le_refl _, fun _ _ => rfl, fun _ l l' => by omega⟩, fun a u e => ?_⟩
  · unfold mrg at e
    cases q : I a with
    | some w =>
      rw [q] at e
      simp only [Option.some.injEq] at e
      subst e
      rcases hh.up a w q with z | ⟨z, o, y⟩
      · exact .inl (kp a w z)
      · exact .inr ⟨z, o, kp a _ y⟩
    | none =>
      rw [q] at e
      exact .inl (ih a u e)
  · cases q : H (ad i) with
    | none => exact absurd q (hh.tr i l)
    | some o => rw [kp _ o q]; simp
  · refine (hh.ob i l).mono mrg_l (Nat.le_refl _) (fun _ _ => rfl) ?_
    cases q : H (ad i) with
    | none => exact absurd q (hh.tr i l)
    | some o => rw [kp _ o q]
  · unfold mrg at e
    cases q : I a with
    | some w =>
      rw [q] at e
      simp only [Option.some.injEq] at e
      subst e
      exact kp a w (hh.exa z a w q)
    | none =>
      rw [q] at e
      exact ih a u e
  · unfold mrg
    rw [i]
    refine st.own a e ?_
    unfold nod; rw [i]
  · unfold mrg
    cases q : I a with
    | none => exact e
    | some w =>
      show some w = some u
      cases d : isD w with
      | false =>
        have := st.ii a w (nod_some q d)
        rw [this] at e; exact e
      | true =>
        have ht : H a ≠ none := by
          rcases hh.up a w q with z | ⟨_, o, z⟩ <;> rw [z] <;> simp
        have hn : nod I a = none := by unfold nod; rw [q]; simp [d]
        have := st.own a ht hn
        rw [this] at e; cases e
theorem sta0 (hh : HH K I H h ad) : DL.Sta K (fun _ => True) (nod I) H [] [] [] [] := ⟨hh.up.nod, fun _ _ => trivial, .nil, .nil⟩
abbrev QD (z : Da) : DL.SK → DL.Mu → Prop := fun r μ => r = .dat z ∧ μ = []
theorem post0 {z : Da} {QQ : VK} (hh : HH K I H h ad) (p : Pst K (.ok (AV.d z) h) I H h ad (fun z I' H' h' ad' => ∀ u, AVr K I' h'.next ad' u z → QQ u H') (fun _ _ _ => False)) : DL.Post K (fun _ => True) [] [] [] (nod I) H (QD z) QQ :=
  fun v I' H' r μ' F' st f s ok ⟨er, em⟩ => by
    subst er
    obtain ⟨a, b, c⟩ := mrg_ok hh st s.ih
    exact p _ H' ad b a v (Rep.mono c ok)
/-- data to data -/
def d1 (g : Da → Option Da) : AV → AHp → Rs AV := fun x h => match x with
  | .d a => (match g a with
    | some z => .ok (.d z) h
    | none => .bad)
  | .o _ => .bad
def d2 (g : Da → Da → Option Da) : AV → AV → AHp → Rs AV := fun x y h => match x, y with
  | .d a, .d b => (match g a b with
    | some z => .ok (.d z) h
    | none => .bad)
  | _, _ => .bad
@[simp] theorem d1_d (g : Da → Option Da) (a : Da) (h : AHp) : d1 g (.d a) h = match g a with | some z => .ok (.d z) h | none => .bad := rfl
@[simp] theorem d2_d (g : Da → Da → Option Da) (a b : Da) (h : AHp) : d2 g (.d a) (.d b) h = match g a b with | some z => .ok (.d z) h | none => .bad := rfl
theorem sr2_d {r : R2} {g : Da → Da → Option Da} (hg : ∀ a b z, g a b = some z → noD a = true ∧ noD b = true ∧ DL.RR K r (.dat a) (.dat b) [] [] (QD z)) : SR2 K r (d2 g) := fun I H h ad hh v w x y rv rw QQ p => by
  cases x with
  | o i => cases y <;> exact p.elim
  | d a =>
    cases y with
    | o i => exact p.elim
    | d b =>
      rw [d2_d] at p
      cases e : g a b with
      | none => rw [e] at p; exact p.elim
      | some z =>
        rw [e] at p
        obtain ⟨na, nb, q⟩ := hg a b z e
        exact q _ (nod I) H [] [] (sta0 hh) v w (rep_nod rv na) (rep_nod rw nb) QQ (post0 hh p)
theorem sr1_d {r : V → Hp → VK → Prop} {g : Da → Option Da} (hg : ∀ a z, g a = some z → noD a = true ∧ DL.RU K r (.dat a) [] [] (QD z)) : SR1 K r (d1 g) := fun I H h ad hh v x rv QQ p => by
  cases x with
  | o i => exact p.elim
  | d a =>
    rw [d1_d] at p
    cases e : g a with
    | none => rw [e] at p; exact p.elim
    | some z =>
      rw [e] at p
      obtain ⟨na, q⟩ := hg a z e
      exact q _ (nod I) H [] [] (sta0 hh) v (rep_nod rv na) QQ (post0 hh p)
/-- data, all of them -/
def allD : List AV → Option (List Da)
  | [] => some []
  | .d x :: r => (allD r).map (x :: ·)
  | .o _ :: _ => none
@[simp] theorem allD_nil : allD [] = some [] := rfl
@[simp] theorem allD_cons (x : Da) (r : List AV) : allD (.d x :: r) = (allD r).map (x :: ·) := rfl
@[simp] theorem allD_map (ds : List Da) : allD (ds.map AV.d) = some ds := by
  induction ds with
  | nil => rfl
  | cons x r ih => simp [ih]
@[simp] theorem allD_mapf {α : Type} (f : α → Da) (l : List α) : allD (l.map fun a => AV.d (f a)) = some (l.map f) := by
  induction l with
  | nil => rfl
  | cons x r ih => simp [ih]
theorem allD_is : ∀ {xs : List AV} {ds : List Da}, allD xs = some ds → xs = ds.map AV.d
  | [], ds, e => by cases e; rfl
  | .o _ :: _, _, e => by cases e
  | .d x :: r, ds, e => by
    rw [allD_cons] at e
    cases q : allD r with
    | none => rw [q] at e; cases e
    | some es =>
      rw [q] at e
      cases e
      simp [allD_is q]
theorem paired_repl {n : Nat} : ∀ {vs : List V} {ds : List Da}, Paired (AVr K I n ad) vs (ds.map AV.d) → RepL K I vs ds
  | _, [], h => by
    cases h; exact .nil
  | _, _ :: _, h => by
    cases h with
    | cons a b => exact .cons a (paired_repl b)
theorem repl_paired {n : Nat} : ∀ {vs : List V} {ds : List Da}, RepL K I vs ds → Paired (AVr K I n ad) vs (ds.map AV.d)
  | _, _, .nil => .nil
  | _, _, .cons a b => .cons a (repl_paired b)
def dC (g : List Da → Option Da) : List AV → AHp → Rs AV := fun xs h => match allD xs with
  | some ds => (match g ds with
    | some z => .ok (.d z) h
    | none => .bad)
  | none => .bad
theorem slok0 {I : Hp} : ∀ {vs : List V} {ds : List Da}, RepL K I vs ds → DL.SlOk K I (vs.map some) (DL.dats ds)
  | _, _, .nil => .nil
  | _, _, .cons a b => .cons a (slok0 b)
theorem src_d {r : List V → Hp → VK → Prop} {g : List Da → Option Da} (hg : ∀ ds z, g ds = some z → noDL ds = true ∧ DL.RC K r (DL.dats ds) [] [] (QD z)) : SRC K r (dC g) := fun I H h ad hh vs xs rv QQ p => by
  unfold dC at p
  cases e : allD xs with
  | none => rw [e] at p; exact p.elim
  | some ds =>
    rw [e] at p
    simp only at p
    cases e2 : g ds with
    | none => rw [e2] at p; exact p.elim
    | some z =>
      rw [e2] at p
      obtain ⟨nd, q⟩ := hg ds z e2
      have := allD_is e
      subst this
      exact q _ (nod I) H [] [] (sta0 hh) vs (slok0 (repl_nod (paired_repl rv) nd)) QQ (post0 hh p)
end
end EL
/-! Sequences, targets, statements, loops. -/
namespace EL
open PySem L2
open DL (Da Rep RepL RepF RepK RepD RepT Ex)
/-! ### what may be read as a list, as a tuple -/
def AO.un : AO → AO
  | .lk o => o | o => o
def seqL (h : AHp) : AV → Option (List AV)
  | .d (.lst ds) => some (ds.map .d)
  | .d (.scr ns) => some (ns.map fun i => .d (.int i))
  | .o i => match h.objs i with
    | .ml vs => some vs
    | _ => none
  | _ => none
def seqT (h : AHp) : AV → Option (List AV)
  | .d (.tup ds) => some (ds.map .d)
  | .o i => match h.objs i with
    | .tu vs => some vs
    | _ => none
  | _ => none
@[simp] theorem seqL_d (h : AHp) (ds : List Da) : seqL h (.d (.lst ds)) = some (ds.map .d) := rfl
@[simp] theorem seqL_s (h : AHp) (ns : List Int) : seqL h (.d (.scr ns)) = some (ns.map fun i => .d (.int i)) := rfl
@[simp] theorem seqL_t (h : AHp) (ds : List Da) : seqL h (.d (.tup ds)) = none := rfl
@[simp] theorem seqT_d (h : AHp) (ds : List Da) : seqT h (.d (.tup ds)) = some (ds.map .d) := rfl
theorem seqL_o {h : AHp} {i : Nat} {vs : List AV} (e : h.objs i = .ml vs) : seqL h (.o i) = some vs := by
  show (match h.objs i with | .ml vs => some vs | _ => none) = some vs
  rw [e]
section
variable {K : PySem.W.Frag} {W : WX} {I H I' H' : Hp} {h h' : AHp} {ad ad' : Nat → Addr}
theorem up_l (u : Up I H) {a : Addr} {xs : List V} (q : SqL K I a xs) : SqL K H a xs := by
  rcases q with (q | ⟨o, q⟩) | q
  · exact .inl (.inl (u.plain q rfl))
  · exact .inl (.inr ⟨o, u.plain q rfl⟩)
  · exact .inr q
theorem up_t (u : Up I H) {a : Addr} {xs : List V} (q : SqT K I a xs) : SqT K H a xs := by
  rcases q with (q | ⟨o, q⟩) | q
  · exact .inl (.inl (u.plain q rfl))
  · exact .inl (.inr ⟨o, u.plain q rfl⟩)
  · exact .inr q
theorem ints_paired {n : Nat} : ∀ ns : List Int, Paired (AVr K I n ad) (ns.map V.int) (ns.map fun i => AV.d (.int i))
  | [] => .nil
  | i :: r => .cons (Rep.int i) (ints_paired r)
/-- a list is there; it stays so while nothing that is its own is written (free = false), or for good where it is data -/
theorem seqL_ok (hh : HH K I H h ad) {v : V} {x : AV} {vs : List AV} (e : seqL h x = some vs) (r : AVr K I h.next ad v x) : ∃ a xs, v = .ref a ∧ SqL K H a xs ∧ Paired (AVr K I h.next ad) xs vs := by
  cases x with
  | o i =>
    obtain ⟨l, ev⟩ := r
    have e' : (match h.objs i with | .ml vs => some vs | _ => none) = some vs := e
    have ob := hh.ob i l
    cases q : h.objs i with
    | ml ws =>
      rw [q] at e' ob
      cases e'
      obtain ⟨xs, hx, p⟩ := ob
      exact ⟨_, xs, ev, SqL.of hx, p⟩
    | _ => rw [q] at e'; cases e'
  | d x =>
    cases x with
    | lst ds =>
      cases e
      cases (show Rep K I v (.lst ds) from r) with
      | lst hs hr => exact ⟨_, _, rfl, SqL.of (hh.up.plain hs rfl), repl_paired hr⟩
    | scr ns =>
      cases e
      cases (show Rep K I v (.scr ns) from r) with
      | scr hs => exact ⟨_, _, rfl, up_l hh.up hs, ints_paired ns⟩
    | _ => cases e
theorem seqT_ok (hh : HH K I H h ad) {v : V} {x : AV} {vs : List AV} (e : seqT h x = some vs) (r : AVr K I h.next ad v x) : ∃ a xs, v = .ref a ∧ SqT K H a xs ∧ Paired (AVr K I h.next ad) xs vs := by
  cases x with
  | o i =>
    obtain ⟨l, ev⟩ := r
    have e' : (match h.objs i with | .tu vs => some vs | _ => none) = some vs := e
    have ob := hh.ob i l
    cases q : h.objs i with
    | tu ws =>
      rw [q] at e' ob
      cases e'
      obtain ⟨xs, hx, p⟩ := ob
      exact ⟨_, xs, ev, SqT.of hx, p⟩
    | _ => rw [q] at e'; cases e'
  | d x =>
    cases x with
    | tup ds =>
      cases e
      cases (show Rep K I v (.tup ds) from r) with
      | tup hs hr => exact ⟨_, _, rfl, up_t hh.up hs, repl_paired hr⟩
    | _ => cases e
end
/-! ### targets -/
abbrev EvG := AV → Env → AHp → Rs Env
abbrev EvGs := List AV → Env → AHp → Rs Env
def SG (K : PySem.W.Frag) (W : WX) (g : TG) (tg : EvG) : Prop :=
  ∀ I H h ad σ env, HH K I H h ad → SLr K I h.next ad σ env → ∀ v x, AVr K I h.next ad v x → ∀ QQ : St → Hp → Prop, Pst K (tg x env h) I H h ad (fun env' I' H' h' ad' => ∀ σ', SLr K I' h'.next ad' σ' env' → QQ σ' H') (fun C dx H' => W (.ref C) (some dx) σ H') → g v σ H QQ
def SGs (K : PySem.W.Frag) (W : WX) (g : TGs) (tg : EvGs) : Prop :=
  ∀ I H h ad σ env, HH K I H h ad → SLr K I h.next ad σ env → ∀ vs xs, Paired (AVr K I h.next ad) vs xs → ∀ QQ : St → Hp → Prop, Pst K (tg xs env h) I H h ad (fun env' I' H' h' ad' => ∀ σ', SLr K I' h'.next ad' σ' env' → QQ σ' H') (fun _ _ _ => False) → g vs σ H QQ
def tgN (i : Nat) : EvG := fun x env h => .ok (env.set i (some x)) h
def tgNil : EvGs := fun xs env h => match xs with
  | [] => .ok env h
  | _ => .bad
def tgCons (t : EvG) (u : EvGs) : EvGs := fun xs env h => match xs with
  | x :: r => (noex (t x env h)).bind fun env1 h1 => u r env1 h1
  | [] => .bad
def tgTup (n : Nat) (u : EvGs) : EvG := fun x env h => match seqT h x with
  | some xs => if xs.length = n then noex (u xs env h) else .bad
  | none => .bad
section
variable {K : PySem.W.Frag} {W : WX} {g : TG} {gs : TGs} {tg : EvG} {tgs : EvGs}
theorem sg_name {i : Nat} : SG K W (gName i) (tgN i) := fun I H h ad σ env hh sl v x r QQ p => p.now hh _ (paired_set (F := SVr K I h.next ad) (a := some v) (b := some x) ⟨v, rfl, r⟩ i sl)
theorem sgs_nil : SGs K W gNil tgNil := fun I H h ad σ env hh sl vs xs r QQ p => by
  cases r with
  | nil => exact ⟨rfl, p.now hh σ sl⟩
  | cons _ _ => exact p.elim
theorem sgs_cons (h1 : SG K (fun _ _ _ _ => False) g tg) (h2 : SGs K W gs tgs) : SGs K W (gCons g gs) (tgCons tg tgs) := fun I H h ad σ env hh sl vs xs r QQ p => by
  cases r with
  | nil => exact p.elim
  | cons a b =>
    refine ⟨_, _, rfl, h1 I H h ad σ env hh sl _ _ a _ <| Pst.noex <| Pst.imp (Pst.bind p) (fun env1 I1 H1 h1' ad1 g1 hh1 p1 σ1 s1 => ?_) fun _ _ _ z => z⟩
    exact h2 I1 H1 h1' ad1 σ1 env1 hh1 s1 _ _ (pmono (fun _ _ z => z.goes g1) b) QQ p1
theorem sg_tup {n : Nat} (h1 : SGs K W gs tgs) : SG K W (gTup K n gs) (tgTup n tgs) := fun I H h ad σ env hh sl v x r QQ p => by
  unfold tgTup at p
  cases e : seqT h x with
  | none => rw [e] at p; exact p.elim
  | some xs =>
    rw [e] at p
    obtain ⟨a, ys, ev, hq, pr⟩ := seqT_ok hh e r
    simp only at p
    by_cases hl : xs.length = n
    · rw [if_pos hl] at p
      exact ⟨a, ys, ev, hq, (plen pr).trans hl, h1 I H h ad σ env hh sl _ _ pr QQ p.noex⟩
    · rw [if_neg hl] at p
      exact p.elim
end
/-! ### statements -/
inductive So where
  | nx (env : Env) (h : AHp) | rt (v : AV) (h : AHp) | bk (env : Env) (h : AHp) | ct (env : Env) (h : AHp)
  | ex (C : Addr) (fs : List (Str × Da)) (env : Env) (h : AHp) | bad
abbrev EvS := Env → AHp → So
def PstS (K : PySem.W.Frag) (r : So) (I H : Hp) (h : AHp) (ad : Nat → Addr) (D : Ends) (W : WX) : Prop :=
  match r with
  | .nx env' h' => ∀ I' H' ad' σ', Goes I H h ad I' H' h' ad' → HH K I' H' h' ad' → SLr K I' h'.next ad' σ' env' → D.nx σ' H'
  | .rt v h' => ∀ I' H' ad' w, Goes I H h ad I' H' h' ad' → HH K I' H' h' ad' → AVr K I' h'.next ad' w v → D.rt w H'
  | .bk env' h' => ∀ I' H' ad' σ', Goes I H h ad I' H' h' ad' → HH K I' H' h' ad' → SLr K I' h'.next ad' σ' env' → D.bk σ' H'
  | .ct env' h' => ∀ I' H' ad' σ', Goes I H h ad I' H' h' ad' → HH K I' H' h' ad' → SLr K I' h'.next ad' σ' env' → D.ct σ' H'
  | .ex C fs env' h' => ∀ I' H' ad' σ', Goes I H h ad I' H' h' ad' → HH K I' H' h' ad' → SLr K I' h'.next ad' σ' env' → ∀ dx xs, I' dx = some (.xd xs) → RepF K I' xs fs → W (.ref C) (some dx) σ' H'
  | .bad => False
def SS (K : PySem.W.Frag) (W : WX) (t : TS) (ev : EvS) : Prop :=
  ∀ I H h ad σ env, HH K I H h ad → SLr K I h.next ad σ env → ∀ D : Ends, PstS K (ev env h) I H h ad D W → t D σ H
def Rs.so {α : Type} (r : Rs α) (env : Env) (f : α → AHp → So) : So := match r with
  | .ok a h => f a h
  | .ex C fs h => .ex C fs env h
  | .bad => .bad
def So.thn (r : So) (f : EvS) : So := match r with
  | .nx env h => f env h
  | .rt v h => .rt v h | .bk env h => .bk env h | .ct env h => .ct env h | .ex C fs env h => .ex C fs env h | .bad => .bad
@[simp] theorem so_ok {α : Type} (a : α) (h : AHp) (env : Env) (f : α → AHp → So) : (Rs.ok a h).so env f = f a h := rfl
@[simp] theorem so_ex {α : Type} (C : Addr) (fs : List (Str × Da)) (h : AHp) (env : Env) (f : α → AHp → So) : (Rs.ex C fs h : Rs α).so env f = .ex C fs env h := rfl
@[simp] theorem thn_nx (env : Env) (h : AHp) (f : EvS) : (So.nx env h).thn f = f env h := rfl
@[simp] theorem thn_rt (v : AV) (h : AHp) (f : EvS) : (So.rt v h).thn f = .rt v h := rfl
@[simp] theorem thn_bk (env : Env) (h : AHp) (f : EvS) : (So.bk env h).thn f = .bk env h := rfl
@[simp] theorem thn_ct (env : Env) (h : AHp) (f : EvS) : (So.ct env h).thn f = .ct env h := rfl
@[simp] theorem thn_ex (C : Addr) (fs : List (Str × Da)) (env : Env) (h : AHp) (f : EvS) : (So.ex C fs env h).thn f = .ex C fs env h := rfl
def evNext : EvS := fun env h => .nx env h
def evSeq (s u : EvS) : EvS := fun env h => (s env h).thn u
def evBreak : EvS := fun env h => .bk env h
def evCont : EvS := fun env h => .ct env h
def evDrop (e : EvX) : EvS := fun env h => (e env h).so env fun _ h1 => .nx env h1
def evRet (e : EvX) : EvS := fun env h => (e env h).so env fun v h1 => .rt v h1
def evRetN : EvS := fun _ h => .rt (.d .non) h
def evIfS (c : EvT) (s u : EvS) : EvS := fun env h => (c env h).so env fun b h1 => if b = true then s env h1 else u env h1
def evAsg (e : EvX) (tg : EvG) : EvS := fun env h => (e env h).so env fun v h1 => (tg v env h1).so env fun env1 h2 => .nx env1 h2
def evAug (i : Nat) (f : AV → AV → AHp → Rs AV) (e : EvX) : EvS := fun env h => match env[i]? with
  | some (some x) => (e env h).so env fun y h1 => (noex (f x y h1)).so env fun z h2 => .nx (env.set i (some z)) h2
  | _ => .bad
section
variable {K : PySem.W.Frag} {W : WX} {I H I' H' I1 H1 : Hp} {h h' h1 : AHp} {ad ad' ad1 : Nat → Addr} {D : Ends} {σ : St} {env : Env} {te ta : TE} {tc : TT} {t u : TS} {e : EvX} {c : EvT} {s v : EvS} {g : TG} {tg : EvG}
theorem PstS.on {r : So} (p : PstS K r I H h ad D W) (q : Goes I H h ad I1 H1 h1 ad1) : PstS K r I1 H1 h1 ad1 D W := by
  cases r with
  | nx _ _ => exact fun I' H' ad' σ' g' => p I' H' ad' σ' (q.trans g')
  | rt _ _ => exact fun I' H' ad' σ' g' => p I' H' ad' σ' (q.trans g')
  | bk _ _ => exact fun I' H' ad' σ' g' => p I' H' ad' σ' (q.trans g')
  | ct _ _ => exact fun I' H' ad' σ' g' => p I' H' ad' σ' (q.trans g')
  | ex _ _ _ _ => exact fun I' H' ad' σ' g' => p I' H' ad' σ' (q.trans g')
  | bad => exact p
theorem PstS.so {α : Type} {r : Rs α} {f : α → AHp → So} (sl : SLr K I h.next ad σ env) (p : PstS K (r.so env f) I H h ad D W) : Pst K r I H h ad (fun a I' H' h' ad' => PstS K (f a h') I' H' h' ad' D W) (fun C dx H' => W (.ref C) (some dx) σ H') := by
  cases r with
  | ok a h' => exact fun I' H' ad' g _ => PstS.on p g
  | ex C fs h' => exact fun I' H' ad' g hh dx xs a b => p I' H' ad' σ g hh (sl.goes g) dx xs a b
  | bad => exact p
theorem PstS.thn {r : So} {f : EvS} (p : PstS K (r.thn f) I H h ad D W) (hf : SS K W u f) : PstS K r I H h ad { D with nx := u D } W := by
  cases r with
  | nx env h' => exact fun I' H' ad' σ' g hh sl => hf I' H' h' ad' σ' env hh sl D (PstS.on p g)
  | rt _ _ => exact p
  | bk _ _ => exact p
  | ct _ _ => exact p
  | ex _ _ _ _ => exact p
  | bad => exact p
theorem ss_next : SS K W tNext evNext := fun I H h ad σ env hh sl D p => p I H ad σ Goes.refl hh sl
theorem ss_break : SS K W tBreak evBreak := fun I H h ad σ env hh sl D p => p I H ad σ Goes.refl hh sl
theorem ss_cont : SS K W tCont evCont := fun I H h ad σ env hh sl D p => p I H ad σ Goes.refl hh sl
theorem ss_seq (h1 : SS K W t s) (h2 : SS K W u v) : SS K W (tSeq t u) (evSeq s v) := fun I H h ad σ env hh sl D p => h1 I H h ad σ env hh sl _ (PstS.thn p h2)
theorem ss_drop (he : SX K W te e) : SS K W (tDrop te) (evDrop e) := fun I H h ad σ env hh sl D p =>
  he I H h ad σ env hh sl _ <| Pst.imp (PstS.so sl p) (fun v I1 H1 h1 ad1 g1 hh1 p1 w rw => p1 I1 H1 ad1 σ Goes.refl hh1 (sl.goes g1)) fun _ _ _ z => z
theorem ss_ret (he : SX K W te e) : SS K W (tRet te) (evRet e) := fun I H h ad σ env hh sl D p =>
  he I H h ad σ env hh sl _ <| Pst.imp (PstS.so sl p) (fun v I1 H1 h1 ad1 g1 hh1 p1 w rw => p1 I1 H1 ad1 w Goes.refl hh1 rw) fun _ _ _ z => z
theorem ss_retN : SS K W tRetN evRetN := fun I H h ad σ env hh sl D p => p I H ad .non Goes.refl hh Rep.non
theorem ss_if (hc : ST K W tc c) (h1 : SS K W t s) (h2 : SS K W u v) : SS K W (tIfS tc t u) (evIfS c s v) := fun I H h ad σ env hh sl D p =>
  hc I H h ad σ env hh sl _ <| Pst.imp (PstS.so sl p) (fun b I1 H1 h1' ad1 g1 hh1 p1 => by
    cases b with
    | true => exact h1 I1 H1 h1' ad1 σ env hh1 (sl.goes g1) D p1
    | false => exact h2 I1 H1 h1' ad1 σ env hh1 (sl.goes g1) D p1) fun _ _ _ z => z
theorem ss_asg (he : SX K W te e) (hg : SG K W g tg) : SS K W (tAsg te g) (evAsg e tg) := fun I H h ad σ env hh sl D p =>
  he I H h ad σ env hh sl _ <| Pst.imp (PstS.so sl p) (fun v I1 H1 h1 ad1 g1 hh1 p1 w rw =>
    hg I1 H1 h1 ad1 σ env hh1 (sl.goes g1) w v rw _ <| Pst.imp (PstS.so (sl.goes g1) p1) (fun env2 I2 H2 h2 ad2 g2 hh2 p2 σ2 s2 => p2 I2 H2 ad2 σ2 Goes.refl hh2 s2) fun _ _ _ z => z) fun _ _ _ z => z
theorem ss_aug {i : Nat} {ti : TIp} {f : AV → AV → AHp → Rs AV} (hr : SR2 K ti f) (he : SX K W te e) : SS K W (tAug i te ti) (evAug i f e) := fun I H h ad σ env hh sl D p => by
  unfold evAug at p
  cases q : env[i]? with
  | none => rw [q] at p; exact p.elim
  | some o =>
    cases o with
    | none => rw [q] at p; exact p.elim
    | some x =>
      rw [q] at p
      obtain ⟨u, hu, w, ew, rw'⟩ := paired_get sl q
      subst ew
      refine ⟨w, hu, he I H h ad σ env hh sl _ <| Pst.imp (PstS.so sl p) (fun y I1 H1 h1 ad1 g1 hh1 p1 z rz => ?_) fun _ _ _ z => z⟩
      refine hr I1 H1 h1 ad1 hh1 w z x y (rw'.goes g1) rz _ <| Pst.noex <| Pst.imp (PstS.so (sl.goes g1) p1) (fun r I2 H2 h2 ad2 g2 hh2 p2 t rt => ?_) fun _ _ _ z => z
      exact p2 I2 H2 ad2 _ Goes.refl hh2 (paired_set (F := SVr K I2 h2.next ad2) (a := some t) (b := some r) ⟨t, rfl, rt⟩ i ((sl.goes g1).goes g2))
/-- several names at once -/
def evPar (i j : Nat) (er : EvA) : EvS := fun env h => (er env h).so env fun vs h1 => match vs with
  | [v, w] => .nx ((env.set i (some v)).set j (some w)) h1
  | _ => .bad
theorem ss_par {i j : Nat} {tr : TA} {er : EvA} (hr : SA K W tr er) : SS K W (tPar i j tr) (evPar i j er) := fun I H h ad σ env hh sl D p =>
  hr I H h ad σ env hh sl _ <| Pst.imp (PstS.so sl p) (fun vs I1 H1 h1 ad1 g1 hh1 p1 ws rw => by
    match vs, ws, rw, p1 with
    | [v, w], [a, b], .cons ra (.cons rb .nil), p1 =>
      refine ⟨a, b, rfl, p1 I1 H1 ad1 _ Goes.refl hh1 (paired_set (F := SVr K I1 h1.next ad1) (a := some b) (b := some w) ⟨b, rfl, rb⟩ j (paired_set (F := SVr K I1 h1.next ad1) (a := some a) (b := some v) ⟨a, rfl, ra⟩ i (sl.goes g1)))⟩
    | [], _, _, p1 => exact p1.elim
    | [_], _, _, p1 => exact p1.elim
    | _ :: _ :: _ :: _, _, _, p1 => exact p1.elim) fun _ _ _ z => z
/-! ### what a for walks -/
def SIt (K : PySem.W.Frag) (W : WX) (wi : TI) (evi : EvA) : Prop :=
  ∀ I H h ad σ env, HH K I H h ad → SLr K I h.next ad σ env → ∀ R : It → Hp → Prop,
    Pst K (evi env h) I H h ad (fun items I1 H1 h1 ad1 => ∀ (J : It) (G : Hp → Prop) (Y : Nat → Hp → V → Hp → Prop), Walk J items.length G Y →
      (∀ I2 H2 h2 ad2, Goes I1 H1 h1 ad1 I2 H2 h2 ad2 → HH K I2 H2 h2 ad2 → G H2) →
      (∀ i x I2 H2 h2 ad2 H3, i < items.length → Goes I1 H1 h1 ad1 I2 H2 h2 ad2 → HH K I2 H2 h2 ad2 → Y i H2 x H3 → ∃ I3 it, Goes I2 H2 h2 ad2 I3 H3 h2 ad2 ∧ HH K I3 H3 h2 ad2 ∧ items[i]? = some it ∧ AVr K I3 h2.next ad2 x it) →
      R J H1) (fun C dx H' => W (.ref C) (some dx) σ H') → wi σ H R
def evLoop (tg : EvG) (b : EvS) : List AV → EvS
  | [], env, h => .nx env h
  | x :: xs, env, h => (tg x env h).so env fun env1 h1 => match b env1 h1 with
    | .nx env2 h2 => evLoop tg b xs env2 h2
    | .ct env2 h2 => evLoop tg b xs env2 h2
    | .bk env2 h2 => .nx env2 h2
    | .rt v h2 => .rt v h2
    | .ex C fs env2 h2 => .ex C fs env2 h2
    | .bad => .bad
def evFor (evi : EvA) (tg : EvG) (b : EvS) : EvS := fun env h => (evi env h).so env fun items h1 => evLoop tg b items env h1
theorem ss_for {wi : TI} {evi : EvA} (hi : SIt K W wi evi) (hg : SG K W g tg) (hb : SS K W t s) : SS K W (tFor wi g t) (evFor evi tg s) := fun I H h ad σ env hh sl D p => by
  refine hi I H h ad σ env hh sl _ <| Pst.imp (PstS.so sl p) (fun items I1 H1 h1 ad1 g1 hh1 p1 J G Y w gG gY => ?_) fun _ _ _ z => z
  refine for_it w (fun i σ2 H2 => ∃ I2 h2 ad2 env2, Goes I1 H1 h1 ad1 I2 H2 h2 ad2 ∧ HH K I2 H2 h2 ad2 ∧ SLr K I2 h2.next ad2 σ2 env2 ∧ PstS K (evLoop tg s (items.drop i) env2 h2) I2 H2 h2 ad2 D W)
    ⟨I1, h1, ad1, env, Goes.refl, hh1, sl.goes g1, p1⟩ ?_ ?_ ?_
  · rintro i σ2 H2 _ ⟨I2, h2, ad2, env2, g2, hh2, _⟩
    exact gG I2 H2 h2 ad2 g2 hh2
  · rintro i x σ2 H2 H3 hi2 ⟨I2, h2, ad2, env2, g2, hh2, sl2, p2⟩ y
    obtain ⟨I3, it, g3, hh3, ei, rx⟩ := gY i x I2 H2 h2 ad2 H3 hi2 g2 hh2 y
    have ed : items.drop i = it :: items.drop (i + 1) := by
      rw [List.drop_eq_getElem_cons hi2]
      congr 1
      rw [List.getElem?_eq_getElem hi2] at ei
      exact Option.some.inj ei
    rw [ed] at p2
    have p3 : PstS K ((tg it env2 h2).so env2 fun env1 h1 => match s env1 h1 with
      | .nx env2 h2 => evLoop tg s (items.drop (i + 1)) env2 h2
      | .ct env2 h2 => evLoop tg s (items.drop (i + 1)) env2 h2
      | .bk env2 h2 => .nx env2 h2
      | .rt v h2 => .rt v h2
      | .ex C fs env2 h2 => .ex C fs env2 h2
      | .bad => .bad) I3 H3 h2 ad2 D W := PstS.on p2 g3
    refine hg I3 H3 h2 ad2 σ2 env2 hh3 (sl2.goes g3) x it rx _ <| Pst.imp (PstS.so (sl2.goes g3) p3) (fun env4 I4 H4 h4 ad4 g4 hh4 p4 σ4 s4 => ?_) fun _ _ _ z => z
    refine hb I4 H4 h4 ad4 σ4 env4 hh4 s4 _ ?_
    have gg := g2.trans (g3.trans g4)
    cases q : s env4 h4 with
    | nx env5 h5 =>
      rw [q] at p4
      exact fun I5 H5 ad5 σ5 g5 hh5 s5 => ⟨I5, h5, ad5, env5, gg.trans g5, hh5, s5, PstS.on p4 g5⟩
    | ct env5 h5 =>
      rw [q] at p4
      exact fun I5 H5 ad5 σ5 g5 hh5 s5 => ⟨I5, h5, ad5, env5, gg.trans g5, hh5, s5, PstS.on p4 g5⟩
    | bk env5 h5 => rw [q] at p4; exact p4
    | rt v h5 => rw [q] at p4; exact p4
    | ex C fs env5 h5 => rw [q] at p4; exact p4
    | bad => rw [q] at p4; exact p4
  · rintro σ2 H2 ⟨I2, h2, ad2, env2, g2, hh2, sl2, p2⟩
    have e : items.drop items.length = [] := List.drop_length
    rw [e] at p2
    exact p2 I2 H2 ad2 σ2 Goes.refl hh2 sl2
/-! ### while -/
def evWhile (c : EvT) (b : EvS) : Nat → EvS
  | 0, _, _ => .bad
  | n + 1, env, h => (c env h).so env fun r h1 => if r = true then (match b env h1 with
    | .nx env2 h2 => evWhile c b n env2 h2
    | .ct env2 h2 => evWhile c b n env2 h2
    | .bk env2 h2 => .nx env2 h2
    | .rt v h2 => .rt v h2
    | .ex C fs env2 h2 => .ex C fs env2 h2
    | .bad => .bad) else .nx env h1
theorem ss_while {n : Nat} (hc : ST K W tc c) (hb : SS K W t s) : SS K W (tWhile tc t) (evWhile c s n) := fun I H h ad σ env hh sl D p => by
  refine ⟨fun m σ2 H2 => ∃ I2 h2 ad2 env2, HH K I2 H2 h2 ad2 ∧ SLr K I2 h2.next ad2 σ2 env2 ∧ PstS K (evWhile c s m env2 h2) I2 H2 h2 ad2 D W, ⟨n, I, h, ad, env, hh, sl, p⟩, ?_⟩
  rintro m σ2 H2 ⟨I2, h2, ad2, env2, hh2, sl2, p2⟩
  cases m with
  | zero => exact p2.elim
  | succ m =>
    refine hc I2 H2 h2 ad2 σ2 env2 hh2 sl2 _ <| Pst.imp (PstS.so sl2 p2) (fun b I3 H3 h3 ad3 g3 hh3 p3 => ?_) fun _ _ _ z => z
    cases b with
    | false => exact p3 I3 H3 ad3 σ2 Goes.refl hh3 (sl2.goes g3)
    | true =>
      refine ⟨fun σ' H' => ∃ I2 h2 ad2 env2, HH K I2 H' h2 ad2 ∧ SLr K I2 h2.next ad2 σ' env2 ∧ PstS K (evWhile c s m env2 h2) I2 H' h2 ad2 D W, fun σ' H' q => ⟨m, Nat.lt_succ_self m, q⟩, ?_⟩
      refine hb I3 H3 h3 ad3 σ2 env2 hh3 (sl2.goes g3) _ ?_
      have p4 : PstS K (match s env2 h3 with
        | .nx env2 h2 => evWhile c s m env2 h2
        | .ct env2 h2 => evWhile c s m env2 h2
        | .bk env2 h2 => .nx env2 h2
        | .rt v h2 => .rt v h2
        | .ex C fs env2 h2 => .ex C fs env2 h2
        | .bad => .bad) I3 H3 h3 ad3 D W := p3
      cases q : s env2 h3 with
      | nx env5 h5 =>
        rw [q] at p4
        exact fun I5 H5 ad5 σ5 g5 hh5 s5 => ⟨I5, h5, ad5, env5, hh5, s5, PstS.on p4 g5⟩
      | ct env5 h5 =>
        rw [q] at p4
        exact fun I5 H5 ad5 σ5 g5 hh5 s5 => ⟨I5, h5, ad5, env5, hh5, s5, PstS.on p4 g5⟩
      | bk env5 h5 => rw [q] at p4; exact p4
      | rt v h5 => rw [q] at p4; exact p4
      | ex C fs env5 h5 => rw [q] at p4; exact p4
      | bad => rw [q] at p4; exact p4
end
end EL
/-! Displays, what is walked, comprehensions. -/
namespace EL
open PySem L2
open DL (Da Rep RepL RepF RepK RepD RepT Ex)
section
variable {K : PySem.W.Frag} {W : WX} {I H I' H' I1 H1 : Hp} {h h' h1 : AHp} {ad ad' ad1 : Nat → Addr} {σ : St} {env : Env} {te ta : TE} {tt : TT} {tr : TA} {e : EvX} {c : EvT} {er : EvA} {g : TG} {tg : EvG}
/-! ### a thing that stands beside becomes data, or a thing of the def's own -/
theorem HH.adopt (hh : HH K I H h ad) {p : Addr} {u : HO} (hp : H p = some u) (hI : I p = none) (ne : ∀ i, i < h.next → ad i ≠ p) (g : Goes I1 H1 h1 ad1 I H h ad) (h1p : H1 p = none) :
    HH K (upd I p u) H h ad ∧ Goes I1 H1 h1 ad1 (upd I p u) H h ad := by
  have ex : Ex I (upd I p u) := DL.Ex.new hI
  refine ⟨⟨fun a w e => ?_, hh.wf, hh.inj, hh.tr, fun i l => (hh.ob i l).mono ex (Nat.le_refl _) (fun _ _ => rfl) rfl, fun i l q => by rw [upd_ne (ne i l)]; exact hh.out i l q, fun z a w e => ?_⟩,
    ⟨g.ii.trans ex, g.keep, fun a e i n => ?_, g.alive, g.sub, g.le, g.pre, g.adn⟩⟩
  · by_cases z : a = p
    · rw [z, upd_same] at e
      cases e
      rw [z]; exact .inl hp
    · rw [upd_ne z] at e; exact hh.up a w e
  · by_cases y : a = p
    · rw [y, upd_same] at e
      cases e
      rw [y]; exact hp
    · rw [upd_ne y] at e; exact hh.exa z a w e
  · have z : a ≠ p := fun z => e (by rw [z]; exact h1p)
    rw [upd_ne z]; exact g.new a e i n
theorem HH.adoptO (hh : HH K I H h ad) {p : Addr} {o : AO} (hp : H p ≠ none) (hI : I p = none) (ne : ∀ i, i < h.next → ad i ≠ p) (new : AOr K I H (h.next + 1) (ext ad h.next p) p o) (g : Goes I1 H1 h1 ad1 I H h ad) (h1p : H1 p = none) :
    HH K I H (EL.alloc h o) (ext ad h.next p) ∧ Goes I1 H1 h1 ad1 I H (EL.alloc h o) (ext ad h.next p) := by
  refine ⟨⟨hh.up, fun j lj => ?_, fun i j li lj e => ?_, fun j lj => ?_, fun j lj => ?_, fun j lj q => ?_, hh.exa⟩, ⟨g.ii, g.keep, g.new, g.alive, fun a ⟨j, lj, ea, f⟩ => ?_, Nat.le_trans g.le (Nat.le_succ _), fun i l => by rw [ext_lt (Nat.lt_of_lt_of_le l g.le)]; exact g.pre i l, fun i l l' => ?_⟩⟩
  · have lj' : h.next + 1 ≤ j := lj
    show (if j = h.next then o else h.objs j) = .gone
    rw [if_neg (by omega)]; exact hh.wf j (by omega)
  · have li' : i < h.next + 1 := li
    have lj' : j < h.next + 1 := lj
    by_cases z : i = h.next
    · by_cases y : j = h.next
      · omega
      · rw [z, ext_at, ext_lt (by omega)] at e
        exact absurd e.symm (ne j (by omega))
    · by_cases y : j = h.next
      · rw [y, ext_at, ext_lt (by omega)] at e
        exact absurd e (ne i (by omega))
      · rw [ext_lt (by omega), ext_lt (by omega)] at e
        exact hh.inj i j (by omega) (by omega) e
  · have lj' : j < h.next + 1 := lj
    by_cases z : j = h.next
    · rw [z, ext_at]; exact hp
    · rw [ext_lt (by omega)]; exact hh.tr j (by omega)
  · have lj' : j < h.next + 1 := lj
    show AOr K I H (h.next + 1) (ext ad h.next p) (ext ad h.next p j) (if j = h.next then o else h.objs j)
    by_cases z : j = h.next
    · rw [if_pos z, z, ext_at]; exact new
    · rw [if_neg z, ext_lt (by omega)]
      exact (hh.ob j (by omega)).mono (DL.Ex.refl I) (Nat.le_succ _) (fun i l => ext_lt l) rfl
  · have lj' : j < h.next + 1 := lj
    by_cases z : j = h.next
    · rw [z, ext_at]; exact hI
    · rw [ext_lt (by omega)]
      refine hh.out j (by omega) ?_
      have q' : (if j = h.next then o else h.objs j).isG = false := q
      rw [if_neg z] at q'; exact q'
  · have lj' : j < h.next + 1 := lj
    by_cases z : j = h.next
    · rw [z, ext_at] at ea; rw [← ea]; exact .inr h1p
    · rw [ext_lt (by omega)] at ea
      have f' : (if j = h.next then o else h.objs j).free = true := f
      rw [if_neg z] at f'
      exact g.sub a ⟨j, by omega, ea, f'⟩
  · have l2 : i < h.next + 1 := l'
    by_cases z : i = h.next
    · rw [z, ext_at]; exact h1p
    · rw [ext_lt (by omega)]; exact g.adn i l (by omega)
/-- a thing that stands beside changes -/
theorem HH.side (hh : HH K I H h ad) {p : Addr} {u : HO} (hI : I p = none) (ne : ∀ i, i < h.next → ad i ≠ p) (g : Goes I1 H1 h1 ad1 I H h ad) (h1p : H1 p = none) :
    HH K I (upd H p u) h ad ∧ Goes I1 H1 h1 ad1 I (upd H p u) h ad := by
  refine ⟨⟨fun a w e => ?_, hh.wf, hh.inj, fun i l => by rw [upd_ne (ne i l)]; exact hh.tr i l, fun i l => (hh.ob i l).mono (DL.Ex.refl I) (Nat.le_refl _) (fun _ _ => rfl) (upd_ne (ne i l)), hh.out, fun z a w e => ?_⟩,
    ⟨g.ii, fun a o e n => by rw [upd_ne (ne_of_none e h1p)]; exact g.keep a o e n, g.new, fun a e => ?_, g.sub, g.le, g.pre, g.adn⟩⟩
  · have z : a ≠ p := fun z => by rw [z, hI] at e; cases e
    rw [upd_ne z]; exact hh.up a w e
  · have y : a ≠ p := fun y => by rw [y, hI] at e; cases e
    rw [upd_ne y]; exact hh.exa z a w e
  · have z : a ≠ p := fun z => e (by rw [z]; exact h1p)
    rw [upd_ne z]; exact g.alive a e
theorem Goes.beside (g : Goes I H h ad I' H' h' ad') {p : Addr} {u : HO} (hp : H p = some u) (hI : I p = none) (ne : ∀ i, i < h.next → ad i ≠ p) : H' p = some u ∧ I' p = none ∧ ∀ i, i < h'.next → ad' i ≠ p := by
  have no : ¬ Own h ad p := fun ⟨i, l, e, _⟩ => ne i l e
  refine ⟨g.keep p u hp no, g.new p (by rw [hp]; simp) hI no, fun i l z => ?_⟩
  by_cases q : i < h.next
  · rw [g.pre i q] at z; exact ne i q z
  · have := g.adn i (by omega) l
    rw [z, hp] at this; cases this
theorem Pst.bindS {α β : Type} {r : Rs α} {f : α → AHp → Rs β} {okk : Okk β} {exk : Exk} (p : Pst K (r.bind f) I1 H1 h1 ad1 okk exk) (g : Goes I1 H1 h1 ad1 I H h ad) :
    Pst K r I H h ad (fun a I' H' h' ad' => Goes I1 H1 h1 ad1 I' H' h' ad' ∧ HH K I' H' h' ad' ∧ Goes I H h ad I' H' h' ad' ∧ Pst K (f a h') I1 H1 h1 ad1 okk exk) exk := by
  cases r with
  | ok a h' => exact fun I' H' ad' g' hh' => ⟨g.trans g', hh', g', p⟩
  | ex C fs h' => exact fun I' H' ad' g' => p I' H' ad' (g.trans g')
  | bad => exact p
/-! ### displays -/
def mkL (vs : List AV) (h : AHp) : Rs AV := match allD vs with
  | some ds => .ok (.d (.lst ds)) h
  | none => .ok (.o h.next) (alloc h (.ml vs))
def mkT (vs : List AV) (h : AHp) : Rs AV := match allD vs with
  | some ds => .ok (.d (.tup ds)) h
  | none => .ok (.o h.next) (alloc h (.tu vs))
/-- a list that is to be changed -/
def mkO (vs : List AV) (h : AHp) : Rs AV := .ok (.o h.next) (alloc h (.ml vs))
@[simp] theorem mkL_d (ds : List Da) (h : AHp) : mkL (ds.map AV.d) h = .ok (.d (.lst ds)) h := by unfold mkL; rw [allD_map]
@[simp] theorem mkL_f {α : Type} (f : α → Da) (l : List α) (h : AHp) : mkL (l.map fun a => AV.d (f a)) h = .ok (.d (.lst (l.map f))) h := by unfold mkL; rw [allD_mapf]
def lim (vs : List AV) (r : Rs AV) : Rs AV := if vs.length ≤ 100000 then r else .bad
def evLst (er : EvA) : EvX := fun env h => (er env h).bind fun vs h1 => lim vs (mkL vs h1)
def evLstO (er : EvA) : EvX := fun env h => (er env h).bind fun vs h1 => lim vs (mkO vs h1)
def evTup (er : EvA) : EvX := fun env h => (er env h).bind fun vs h1 => lim vs (mkT vs h1)
theorem sz_le {n : Nat} (h : n ≤ 100000) : n ≤ sizeLine := Nat.le_trans h (by decide : 100000 ≤ sizeLine)
theorem lim_pst {vs : List AV} {r : Rs AV} {okk : Okk AV} {exk : Exk} (p : Pst K (lim vs r) I H h ad okk exk) : vs.length ≤ 100000 ∧ Pst K r I H h ad okk exk := by
  unfold lim at p
  by_cases z : vs.length ≤ 100000
  · rw [if_pos z] at p; exact ⟨z, p⟩
  · rw [if_neg z] at p; exact p.elim
theorem mkO_pst {vs : List AV} {ws : List V} {QQ : VK} {exk : Exk} (hh : HH K I H h ad) (r : Paired (AVr K I h.next ad) ws vs) {p : Addr} (hp : H p = none)
    (q : Pst K (mkO vs h) I H h ad (fun v I' H' h' ad' => ∀ w, AVr K I' h'.next ad' w v → QQ w H') exk) : QQ (.ref p) (upd H p (.lst ws)) := by
  obtain ⟨a, b⟩ := hh.alloc (u := .lst ws) (o := .ml vs) hp ⟨ws, upd_same, pmono (fun _ _ z => z.mono (DL.Ex.refl I) (Nat.le_succ _) fun i l => ext_lt l) r⟩
  exact q _ _ _ b a (.ref p) ⟨Nat.lt_succ_self _, by rw [ext_at]⟩
theorem mkL_pst {vs : List AV} {ws : List V} {QQ : VK} {exk : Exk} (hh : HH K I H h ad) (r : Paired (AVr K I h.next ad) ws vs) {p : Addr} (hp : H p = none)
    (q : Pst K (mkL vs h) I H h ad (fun v I' H' h' ad' => ∀ w, AVr K I' h'.next ad' w v → QQ w H') exk) : QQ (.ref p) (upd H p (.lst ws)) := by
  unfold mkL at q
  cases e : allD vs with
  | none => rw [e] at q; exact mkO_pst hh r hp q
  | some ds =>
    rw [e] at q
    have := allD_is e
    subst this
    obtain ⟨a, b⟩ := hh.newD (u := .lst ws) hp
    exact q _ _ _ b a (.ref p) (Rep.lst upd_same ((paired_repl r).mono b.ii))
theorem mkT_pst {vs : List AV} {ws : List V} {QQ : VK} {exk : Exk} (hh : HH K I H h ad) (r : Paired (AVr K I h.next ad) ws vs) {p : Addr} (hp : H p = none)
    (q : Pst K (mkT vs h) I H h ad (fun v I' H' h' ad' => ∀ w, AVr K I' h'.next ad' w v → QQ w H') exk) : QQ (.ref p) (upd H p (.tup ws)) := by
  unfold mkT at q
  cases e : allD vs with
  | none =>
    rw [e] at q
    obtain ⟨a, b⟩ := hh.alloc (u := .tup ws) (o := .tu vs) hp ⟨ws, upd_same, pmono (fun _ _ z => z.mono (DL.Ex.refl I) (Nat.le_succ _) fun i l => ext_lt l) r⟩
    exact q _ _ _ b a (.ref p) ⟨Nat.lt_succ_self _, by rw [ext_at]⟩
  | some ds =>
    rw [e] at q
    have := allD_is e
    subst this
    obtain ⟨a, b⟩ := hh.newD (u := .tup ws) hp
    exact q _ _ _ b a (.ref p) (Rep.tup (SqT.of upd_same) ((paired_repl r).mono b.ii))
theorem sx_lst (hr : SA K W tr er) : SX K W (tLst tr) (evLst er) := fun I H h ad σ env hh sl QQ p =>
  hr I H h ad σ env hh sl _ <| Pst.imp (Pst.bind p) (fun vs I1 H1 h1 ad1 g1 hh1 p1 ws rs => by
    obtain ⟨l, p2⟩ := lim_pst p1
    exact ⟨sz_le (by rw [plen rs]; exact l), fun a ha => mkL_pst hh1 rs ha p2⟩) fun _ _ _ z => z
theorem sx_lstO (hr : SA K W tr er) : SX K W (tLst tr) (evLstO er) := fun I H h ad σ env hh sl QQ p =>
  hr I H h ad σ env hh sl _ <| Pst.imp (Pst.bind p) (fun vs I1 H1 h1 ad1 g1 hh1 p1 ws rs => by
    obtain ⟨l, p2⟩ := lim_pst p1
    exact ⟨sz_le (by rw [plen rs]; exact l), fun a ha => mkO_pst hh1 rs ha p2⟩) fun _ _ _ z => z
theorem sx_tup (hr : SA K W tr er) : SX K W (tTup tr) (evTup er) := fun I H h ad σ env hh sl QQ p =>
  hr I H h ad σ env hh sl _ <| Pst.imp (Pst.bind p) (fun vs I1 H1 h1 ad1 g1 hh1 p1 ws rs => by
    obtain ⟨l, p2⟩ := lim_pst p1
    exact ⟨sz_le (by rw [plen rs]; exact l), fun a ha => mkT_pst hh1 rs ha p2⟩) fun _ _ _ z => z
/-! ### what is walked: data -/
def datL : AV → Option (List AV)
  | .d (.lst ds) => some (ds.map .d)
  | .d (.scr ns) => some (ns.map fun i => .d (.int i))
  | _ => none
def datT : AV → Option (List AV)
  | .d (.tup ds) => some (ds.map .d)
  | _ => none
@[simp] theorem datL_d (ds : List Da) : datL (.d (.lst ds)) = some (ds.map .d) := rfl
@[simp] theorem datL_s (ns : List Int) : datL (.d (.scr ns)) = some (ns.map fun i => .d (.int i)) := rfl
@[simp] theorem datT_d (ds : List Da) : datT (.d (.tup ds)) = some (ds.map .d) := rfl
theorem datL_ok {v : V} {x : AV} {n : Nat} {vs : List AV} (e : datL x = some vs) (r : AVr K I n ad v x) : ∃ a xs, v = .ref a ∧ SqL K (nod I) a xs ∧ ∀ I' n' ad', Ex I I' → Paired (AVr K I' n' ad') xs vs := by
  cases x with
  | o i => cases e
  | d x =>
    cases x with
    | lst ds =>
      cases e
      cases (show Rep K I v (.lst ds) from r) with
      | lst hs hr => exact ⟨_, _, rfl, SqL.of (nod_some hs rfl), fun I' n' ad' ee => repl_paired (hr.mono ee)⟩
    | scr ns =>
      cases e
      cases (show Rep K I v (.scr ns) from r) with
      | scr hs => exact ⟨_, _, rfl, nod_l hs, fun I' n' ad' ee => ints_paired ns⟩
    | _ => cases e
theorem datT_ok {v : V} {x : AV} {n : Nat} {vs : List AV} (e : datT x = some vs) (r : AVr K I n ad v x) : ∃ a xs, v = .ref a ∧ SqT K (nod I) a xs ∧ ∀ I' n' ad', Ex I I' → Paired (AVr K I' n' ad') xs vs := by
  cases x with
  | o i => cases e
  | d x =>
    cases x with
    | tup ds =>
      cases e
      cases (show Rep K I v (.tup ds) from r) with
      | tup hs hr => exact ⟨_, _, rfl, nod_t hs, fun I' n' ad' ee => repl_paired (hr.mono ee)⟩
    | _ => cases e
theorem nod_mono (e : Ex I I') : Ex (nod I) (nod I') := fun a u q => let ⟨h1, h2⟩ := of_nod q; nod_some (e a u h1) h2
theorem ex_l (e : Ex I I') {a : Addr} {xs : List V} (q : SqL K I a xs) : SqL K I' a xs := DL.Ex.l e q
theorem ex_t (e : Ex I I') {a : Addr} {xs : List V} (q : SqT K I a xs) : SqT K I' a xs := DL.Ex.t e q
def ofO {α : Type} (o : Option α) (h : AHp) : Rs α := match o with
  | some a => .ok a h
  | none => .bad
@[simp] theorem ofO_s {α : Type} (a : α) (h : AHp) : ofO (some a) h = .ok a h := rfl
def evIt (f : AV → Option (List AV)) (e : EvX) : EvA := fun env h => (e env h).bind fun v h1 => ofO (f v) h1
theorem opt_pst {α : Type} {o : Option α} {hx : AHp} {okk : Okk α} {exk : Exk} (p : Pst K (ofO o hx) I H h ad okk exk) : ∃ a, o = some a ∧ Pst K (.ok a hx) I H h ad okk exk := by
  cases o with
  | none => exact p.elim
  | some a => exact ⟨a, rfl, p⟩
theorem si_list (he : SX K W te e) : SIt K W (iList K te) (evIt datL e) := fun I H h ad σ env hh sl R p =>
  he I H h ad σ env hh sl _ <| Pst.imp (Pst.bind p) (fun v I1 H1 h1 ad1 g1 hh1 p1 w rw => by
    obtain ⟨vs, ed, p2⟩ := opt_pst p1
    obtain ⟨a, xs, ew, hs, hr⟩ := datL_ok ed rw
    refine ⟨a, ew, ⟨xs, ex_l hh1.up.nod hs⟩, ?_⟩
    have hl := plen (hr I1 h1.next ad1 (DL.Ex.refl _))
    have q := p2.now hh1 (Itl K a) (fun H => SqL K H a xs) (YAt xs)
    rw [← hl] at q
    refine q walk_list (fun I2 H2 h2 ad2 g2 hh2 => ex_l hh2.up.nod (ex_l (nod_mono g2.ii) hs)) fun i x I2 H2 h2 ad2 H3 hi g2 hh2 ⟨e3, ex⟩ => ?_
    subst e3
    obtain ⟨it, ei, ri⟩ := paired_get' (hr I2 h2.next ad2 g2.ii) ex
    exact ⟨I2, it, Goes.refl, hh2, ei, ri⟩) fun _ _ _ z => z
theorem si_tup (he : SX K W te e) : SIt K W (iTup K te) (evIt datT e) := fun I H h ad σ env hh sl R p =>
  he I H h ad σ env hh sl _ <| Pst.imp (Pst.bind p) (fun v I1 H1 h1 ad1 g1 hh1 p1 w rw => by
    obtain ⟨vs, ed, p2⟩ := opt_pst p1
    obtain ⟨a, xs, ew, hs, hr⟩ := datT_ok ed rw
    refine ⟨a, ew, ⟨xs, ex_t hh1.up.nod hs⟩, ?_⟩
    have hl := plen (hr I1 h1.next ad1 (DL.Ex.refl _))
    have q := p2.now hh1 (Itt K a) (fun H => SqT K H a xs) (YAt xs)
    rw [← hl] at q
    refine q walk_tup (fun I2 H2 h2 ad2 g2 hh2 => ex_t hh2.up.nod (ex_t (nod_mono g2.ii) hs)) fun i x I2 H2 h2 ad2 H3 hi g2 hh2 ⟨e3, ex⟩ => ?_
    subst e3
    obtain ⟨it, ei, ri⟩ := paired_get' (hr I2 h2.next ad2 g2.ii) ex
    exact ⟨I2, it, Goes.refl, hh2, ei, ri⟩) fun _ _ _ z => z
/-- range(n) -/
def rng (n : Nat) : List AV := (List.range n).map fun i => .d (.int (i : Nat))
def asR (vs : List AV) : Option (List AV) := match vs with
  | [.d (.int j)] => if -100000 ≤ j ∧ j ≤ 100000 then some (rng j.toNat) else none
  | _ => none
def evItA (f : List AV → Option (List AV)) (er : EvA) : EvA := fun env h => (er env h).bind fun v h1 => ofO (f v) h1
theorem asR_is {vs items : List AV} (e : asR vs = some items) : ∃ j : Int, vs = [.d (.int j)] ∧ -100000 ≤ j ∧ j ≤ 100000 ∧ items = rng j.toNat := by
  unfold asR at e
  split at e
  · rename_i j
    by_cases q : -100000 ≤ j ∧ j ≤ 100000
    · rw [if_pos q] at e
      exact ⟨j, rfl, q.1, q.2, (Option.some.inj e).symm⟩
    · rw [if_neg q] at e; cases e
  · cases e
theorem pair1 {n : Nat} {ws : List V} {v : AV} (r : Paired (AVr K I n ad) ws [v]) : ∃ w, ws = [w] ∧ AVr K I n ad w v := by
  cases r with
  | cons a b => cases b; exact ⟨_, rfl, a⟩
theorem pair2 {n : Nat} {ws : List V} {v u : AV} (r : Paired (AVr K I n ad) ws [v, u]) : ∃ w x, ws = [w, x] ∧ AVr K I n ad w v ∧ AVr K I n ad x u := by
  cases r with
  | cons a b =>
    obtain ⟨x, e, q⟩ := pair1 b
    exact ⟨_, x, by rw [e], a, q⟩
theorem si_rng1 (he : SA K W tr er) : SIt K W (iRng1 tr) (evItA asR er) := fun I H h ad σ env hh sl R p =>
  he I H h ad σ env hh sl _ <| Pst.imp (Pst.bind p) (fun v I1 H1 h1 ad1 g1 hh1 p1 w rw => by
    obtain ⟨vs, ed, p2⟩ := opt_pst p1
    obtain ⟨j, rfl, j0, j1, rfl⟩ := asR_is ed
    obtain ⟨u, rfl, r⟩ := pair1 rw
    cases (show Rep K I1 u (.int j) from r)
    refine ⟨j, rfl, by omega, by omega, ?_⟩
    have q := p2.now hh1 (Itr 0 j.toNat) (fun _ => True) (YFn fun i => .int (0 + (i : Nat)))
    have hl : (rng j.toNat).length = j.toNat := by simp [rng]
    rw [hl] at q
    refine q walk_range (fun _ _ _ _ _ _ => trivial) fun i x I2 H2 h2 ad2 H3 hi g2 hh2 ⟨e3, ex⟩ => ?_
    subst e3 ex
    refine ⟨I2, .d (.int (i : Nat)), Goes.refl, hh2, by simp [rng, hi], ?_⟩
    show Rep K I2 (.int (0 + (i : Nat))) (.int (i : Nat))
    rw [Int.zero_add]
    exact Rep.int _) fun _ _ _ z => z
def asR2 (vs : List AV) : Option (List AV) := match vs with
  | [.d (.int i), .d (.int j)] => if -100000 ≤ i ∧ i ≤ 100000 ∧ -100000 ≤ j ∧ j ≤ 100000 then some ((List.range (j - i).toNat).map fun k => .d (.int (i + (k : Nat)))) else none
  | _ => none
theorem asR2_is {vs items : List AV} (e : asR2 vs = some items) : ∃ i j : Int, vs = [.d (.int i), .d (.int j)] ∧ -100000 ≤ i ∧ i ≤ 100000 ∧ -100000 ≤ j ∧ j ≤ 100000 ∧ items = (List.range (j - i).toNat).map fun k => AV.d (.int (i + (k : Nat))) := by
  unfold asR2 at e
  split at e
  · rename_i i j
    by_cases q : -100000 ≤ i ∧ i ≤ 100000 ∧ -100000 ≤ j ∧ j ≤ 100000
    · rw [if_pos q] at e
      exact ⟨i, j, rfl, q.1, q.2.1, q.2.2.1, q.2.2.2, (Option.some.inj e).symm⟩
    · rw [if_neg q] at e; cases e
  · cases e
theorem si_rng2 (he : SA K W tr er) : SIt K W (iRng2 tr) (evItA asR2 er) := fun I H h ad σ env hh sl R p =>
  he I H h ad σ env hh sl _ <| Pst.imp (Pst.bind p) (fun v I1 H1 h1 ad1 g1 hh1 p1 w rw => by
    obtain ⟨vs, ed, p2⟩ := opt_pst p1
    obtain ⟨i, j, rfl, i0, i1, j0, j1, rfl⟩ := asR2_is ed
    obtain ⟨u, t, rfl, r, r2⟩ := pair2 rw
    cases (show Rep K I1 u (.int i) from r)
    cases (show Rep K I1 t (.int j) from r2)
    refine ⟨i, j, rfl, ⟨by omega, by omega, by omega, by omega⟩, ?_⟩
    have q := p2.now hh1 (Itr i (j - i).toNat) (fun _ => True) (YFn fun k => .int (i + (k : Nat)))
    have hl : ((List.range (j - i).toNat).map fun k => AV.d (.int (i + (k : Nat)))).length = (j - i).toNat := by simp
    rw [hl] at q
    refine q walk_range (fun _ _ _ _ _ _ => trivial) fun k x I2 H2 h2 ad2 H3 hk g2 hh2 ⟨e3, ex⟩ => ?_
    subst e3 ex
    exact ⟨I2, .d (.int (i + (k : Nat))), Goes.refl, hh2, by simp [hk], Rep.int _⟩) fun _ _ _ z => z
/-- enumerate(l), zip(l, m), the signs of a text -/
def pairD (x y : Da) : AV := .d (.tup [x, y])
def asE (vs : List AV) : Option (List AV) := match vs with
  | [.d (.lst ds)] => some ((List.range ds.length).map fun i => pairD (.int (i : Nat)) (ds.getD i .non))
  | _ => none
theorem asE_is {vs items : List AV} (e : asE vs = some items) : ∃ ds, vs = [.d (.lst ds)] ∧ items = (List.range ds.length).map fun i => pairD (.int (i : Nat)) (ds.getD i .non) := by
  unfold asE at e
  split at e
  · exact ⟨_, rfl, (Option.some.inj e).symm⟩
  · cases e
theorem si_enum (he : SA K W tr er) : SIt K W (iEnum K tr) (evItA asE er) := fun I H h ad σ env hh sl R p =>
  he I H h ad σ env hh sl _ <| Pst.imp (Pst.bind p) (fun v I1 H1 h1 ad1 g1 hh1 p1 w rw => by
    obtain ⟨vs, ed, p2⟩ := opt_pst p1
    obtain ⟨ds, rfl, rfl⟩ := asE_is ed
    obtain ⟨u, rfl, r⟩ := pair1 rw
    obtain ⟨a, xs, ew, hs, hr⟩ := datL_ok (n := h1.next) (ad := ad1) (x := .d (.lst ds)) rfl r
    subst ew
    refine ⟨a, xs, rfl, ex_l hh1.up.nod hs, ?_⟩
    have hl : xs.length = ds.length := by simpa using plen (hr I1 h1.next ad1 (DL.Ex.refl _))
    have q := p2.now hh1 (Ite K a) (fun H => SqL K H a xs) (YPair (fun i => some (.int (i : Nat))) (fun i => xs[i]?))
    have hl2 : ((List.range ds.length).map fun i => pairD (.int (i : Nat)) (ds.getD i .non)).length = xs.length := by simp [hl]
    rw [hl2] at q
    refine q walk_enum (fun I2 H2 h2 ad2 g2 hh2 => ex_l hh2.up.nod (ex_l (nod_mono g2.ii) hs)) fun i x I2 H2 h2 ad2 H3 hi g2 hh2 ⟨T, x1, y1, ex, hT, eH, e1, e2⟩ => ?_
    subst ex eH
    cases e1
    obtain ⟨hn, gn⟩ := hh2.newD (u := .tup [.int (i : Nat), y1]) hT
    obtain ⟨it, ei, ri⟩ := paired_get' (hr I2 h2.next ad2 g2.ii) e2
    have hi2 : i < ds.length := by omega
    rw [List.getElem?_map, List.getElem?_eq_getElem hi2] at ei
    simp only [Option.map_some, Option.some.injEq] at ei
    subst ei
    refine ⟨_, pairD (.int (i : Nat)) ds[i], gn, hn, by simp [hi2], ?_⟩
    exact Rep.tup (SqT.of upd_same) (.cons (Rep.int _) (.cons (Rep.mono gn.ii ri) .nil))) fun _ _ _ z => z
def asZ (vs : List AV) : Option (List AV) := match vs with
  | [.d (.lst ds), .d (.lst es)] => some ((ds.zip es).map fun p => pairD p.1 p.2)
  | _ => none
theorem asZ_is {vs items : List AV} (e : asZ vs = some items) : ∃ ds es, vs = [.d (.lst ds), .d (.lst es)] ∧ items = (ds.zip es).map fun p => pairD p.1 p.2 := by
  unfold asZ at e
  split at e
  · exact ⟨_, _, rfl, (Option.some.inj e).symm⟩
  · cases e
theorem si_zip (he : SA K W tr er) : SIt K W (iZip K tr) (evItA asZ er) := fun I H h ad σ env hh sl R p =>
  he I H h ad σ env hh sl _ <| Pst.imp (Pst.bind p) (fun v I1 H1 h1 ad1 g1 hh1 p1 w rw => by
    obtain ⟨vs, ed, p2⟩ := opt_pst p1
    obtain ⟨ds, es, rfl, rfl⟩ := asZ_is ed
    obtain ⟨u, t, rfl, r, r2⟩ := pair2 rw
    obtain ⟨a, xs, ew, hs, hr⟩ := datL_ok (n := h1.next) (ad := ad1) (x := .d (.lst ds)) rfl r
    obtain ⟨b, ys, ew2, hs2, hr2⟩ := datL_ok (n := h1.next) (ad := ad1) (x := .d (.lst es)) rfl r2
    subst ew ew2
    refine ⟨a, b, xs, ys, rfl, ex_l hh1.up.nod hs, ex_l hh1.up.nod hs2, ?_⟩
    have hl : xs.length = ds.length := by simpa using plen (hr I1 h1.next ad1 (DL.Ex.refl _))
    have hl2 : ys.length = es.length := by simpa using plen (hr2 I1 h1.next ad1 (DL.Ex.refl _))
    have hl3 : ((ds.zip es).map fun p => pairD p.1 p.2).length = min xs.length ys.length := by simp [hl, hl2]
    refine p2.now hh1 (Itz K a b) (fun H => SqL K H a xs ∧ SqL K H b ys) (YPair (fun i => xs[i]?) (fun i => ys[i]?)) (walk_zip hl3) (fun I2 H2 h2 ad2 g2 hh2 => ⟨ex_l hh2.up.nod (ex_l (nod_mono g2.ii) hs), ex_l hh2.up.nod (ex_l (nod_mono g2.ii) hs2)⟩) fun i x I2 H2 h2 ad2 H3 hi g2 hh2 ⟨T, x1, y1, ex, hT, eH, e1, e2⟩ => ?_
    subst ex eH
    obtain ⟨hn, gn⟩ := hh2.newD (u := .tup [x1, y1]) hT
    obtain ⟨it, ei, ri⟩ := paired_get' (hr I2 h2.next ad2 g2.ii) e1
    obtain ⟨it2, ei2, ri2⟩ := paired_get' (hr2 I2 h2.next ad2 g2.ii) e2
    have hi1 : i < ds.length := by simp at hi; omega
    have hi2 : i < es.length := by simp at hi; omega
    rw [List.getElem?_map, List.getElem?_eq_getElem hi1] at ei
    rw [List.getElem?_map, List.getElem?_eq_getElem hi2] at ei2
    simp only [Option.map_some, Option.some.injEq] at ei ei2
    subst ei ei2
    refine ⟨_, pairD ds[i] es[i], gn, hn, ?_, ?_⟩
    · rw [List.getElem?_map, List.getElem?_eq_getElem (by simp; omega)]
      simp
    · exact Rep.tup (SqT.of upd_same) (.cons (Rep.mono gn.ii ri) (.cons (Rep.mono gn.ii ri2) .nil))) fun _ _ _ z => z
def asS : AV → Option (List AV)
  | .d (.str z) => some (z.cps.toList.map fun c => .d (.str ⟨#[c]⟩))
  | _ => none
@[simp] theorem asS_s (z : Str) : asS (.d (.str z)) = some (z.cps.toList.map fun c => .d (.str ⟨#[c]⟩)) := rfl
theorem si_str (he : SX K W te e) : SIt K W (iStr te) (evIt asS e) := fun I H h ad σ env hh sl R p =>
  he I H h ad σ env hh sl _ <| Pst.imp (Pst.bind p) (fun v I1 H1 h1 ad1 g1 hh1 p1 w rw => by
    obtain ⟨vs, ed, p2⟩ := opt_pst p1
    match v, ed with
    | .d (.str z), ed =>
      cases ed
      cases (show Rep K I1 w (.str z) from rw)
      refine ⟨z, rfl, ?_⟩
      have q := p2.now hh1 (Its z) (fun _ => True) (fun i H v H' => H' = H ∧ ∃ c, z.cps[i]? = some c ∧ v = .str ⟨#[c]⟩)
      have hl : (z.cps.toList.map fun c => AV.d (.str ⟨#[c]⟩)).length = z.cps.size := by simp
      rw [hl] at q
      refine q walk_str (fun _ _ _ _ _ _ => trivial) fun i x I2 H2 h2 ad2 H3 hi g2 hh2 ⟨e3, c, ec, ex⟩ => ?_
      subst e3 ex
      refine ⟨I2, .d (.str ⟨#[c]⟩), Goes.refl, hh2, ?_, Rep.str _⟩
      rw [List.getElem?_map]
      have : z.cps.toList[i]? = some c := by simpa using ec
      rw [this]; rfl) fun _ _ _ z => z
end
end EL
/-! Comprehensions. -/
namespace EL
open PySem L2
open DL (Da Rep RepL RepF RepK RepD RepT Ex)
abbrev WN : WX := fun _ _ _ _ => False
def wipeE (env : Env) : List Nat → Env
  | [] => env
  | v :: vs => (wipeE env vs).set v none
section
variable {K : PySem.W.Frag} {W : WX} {I H I' H' I1 H1 : Hp} {h h' h1 : AHp} {ad ad' ad1 : Nat → Addr} {σ : St} {env : Env} {te ta : TE} {tt tt1 : TT} {tr : TA} {e : EvX} {c c1 : EvT} {er : EvA} {g g1 : TG} {tg tg1 : EvG}
theorem SLr.wipe {n : Nat} (s : SLr K I n ad σ env) : ∀ vs : List Nat, SLr K I n ad (L2.wipe σ vs) (wipeE env vs)
  | [] => s
  | v :: vs => paired_set (F := SVr K I n ad) (a := none) (b := none) trivial v (SLr.wipe s vs)
def evLcL (tg : EvG) (c : EvT) (e : EvX) (env : Env) : List AV → AHp → Rs (List AV)
  | [], h => .ok [] h
  | x :: xs, h => (noex (tg x env h)).bind fun env1 h1 => (noex (c env1 h1)).bind fun b h2 => if b = true then (noex (e env1 h2)).bind fun y h3 => (evLcL tg c e env xs h3).bind fun ys h4 => .ok (y :: ys) h4 else evLcL tg c e env xs h2
def evLcV (vs : List Nat) (tg : EvG) (c : EvT) (e : EvX) (mk : List AV → AHp → Rs AV) (env : Env) (items : List AV) (h : AHp) : Rs AV := if items.length ≤ 100000 then (evLcL tg c e (wipeE env vs) items h).bind mk else .bad
/-- [e for t in it if c] -/
def evLc (evi : EvA) (vs : List Nat) (tg : EvG) (c : EvT) (e : EvX) : EvX := fun env h => (evi env h).bind fun items h1 => evLcV vs tg c e mkL env items h1
def evLcO (evi : EvA) (vs : List Nat) (tg : EvG) (c : EvT) (e : EvX) : EvX := fun env h => (evi env h).bind fun items h1 => evLcV vs tg c e mkO env items h1
/-- a value to be made of what was gathered at p -/
def MkOk (K : PySem.W.Frag) (mk : List AV → AHp → Rs AV) : Prop := ∀ {I H I1 H1 : Hp} {h h1 : AHp} {ad ad1 : Nat → Addr} {vs : List AV} {ws : List V} {p : Addr} {QQ : VK} {exk : Exk}, HH K I H h ad → Goes I1 H1 h1 ad1 I H h ad → H1 p = none → H p = some (.lst ws) → I p = none → (∀ i, i < h.next → ad i ≠ p) →
  Paired (AVr K I h.next ad) ws vs → Pst K (mk vs h) I1 H1 h1 ad1 (fun v I' H' h' ad' => ∀ w, AVr K I' h'.next ad' w v → QQ w H') exk → QQ (.ref p) H
theorem mkOk_O : MkOk K mkO := fun {I H I1 H1 h h1 ad ad1 vs ws p QQ exk} hh g h1p hp hI ne r q => by
  obtain ⟨a, b⟩ := hh.adoptO (o := .ml vs) (by rw [hp]; simp) hI ne ⟨ws, hp, pmono (fun _ _ z => z.mono (DL.Ex.refl I) (Nat.le_succ _) fun i l => ext_lt l) r⟩ g h1p
  exact q _ _ _ b a (.ref p) ⟨Nat.lt_succ_self _, by rw [ext_at]⟩
theorem mkOk_L : MkOk K mkL := fun {I H I1 H1 h h1 ad ad1 vs ws p QQ exk} hh g h1p hp hI ne r q => by
  unfold mkL at q
  cases e : allD vs with
  | none => rw [e] at q; exact mkOk_O hh g h1p hp hI ne r q
  | some ds =>
    rw [e] at q
    have := allD_is e
    subst this
    obtain ⟨a, b⟩ := hh.adopt hp hI ne g h1p
    exact q _ _ _ b a (.ref p) (Rep.lst upd_same ((paired_repl r).mono (DL.Ex.new hI)))
/-- where a comprehension stands: at p its list so far -/
structure LcE (K : PySem.W.Frag) (I1 H1 : Hp) (h1 : AHp) (ad1 : Nat → Addr) (p : Addr) (n : Nat) (R : List AV → AHp → Rs AV) (okk : Okk AV) (H : Hp) : Prop where
  w : ∃ I h ad acc accV, Goes I1 H1 h1 ad1 I H h ad ∧ HH K I H h ad ∧ H p = some (.lst accV) ∧ I p = none ∧ (∀ i, i < h.next → ad i ≠ p) ∧ acc.length ≤ n ∧ Paired (AVr K I h.next ad) accV acc ∧ Pst K (R acc h) I1 H1 h1 ad1 okk (fun _ _ _ => False)
theorem lcE_start {p : Addr} {R : List AV → AHp → Rs AV} {okk : Okk AV} (hh : HH K I1 H1 h1 ad1) (hp : H1 p = none) (q : Pst K (R [] h1) I1 H1 h1 ad1 okk (fun _ _ _ => False)) : LcE K I1 H1 h1 ad1 p 0 R okk (upd H1 p (.lst [])) := by
  have ne : ∀ i, i < h1.next → ad1 i ≠ p := fun i l z => hh.tr i l (by rw [z]; exact hp)
  obtain ⟨a, b⟩ := hh.side (u := .lst []) (hh.up.none hp) ne Goes.refl hp
  exact ⟨I1, h1, ad1, [], [], b, a, upd_same, hh.up.none hp, ne, Nat.le_refl _, .nil, q⟩
/-- the body of one turn -/
theorem lcE_turn {n : Nat} {vs : List Nat} {p : Addr} {R : List AV → AHp → Rs AV} {okk : Okk AV} {x : V} {it : AV} (hn : n < 100000) (hp1 : H1 p = none) (s1 : SLr K I1 h1.next ad1 σ env) (tgi : DL.TgIn g vs) (hg : SG K WN g tg) (hc : ST K WN tt c) (he : SX K WN te e)
    {acc : List AV} {accV : List V} (gs : Goes I1 H1 h1 ad1 I H h ad) (hh : HH K I H h ad) (hHp : H p = some (.lst accV)) (hIp : I p = none) (ne : ∀ i, i < h.next → ad i ≠ p) (hl : acc.length ≤ n) (ra : Paired (AVr K I h.next ad) accV acc)
    (ps : Pst K ((noex (tg it (wipeE env vs) h)).bind fun env1 h1 => (noex (c env1 h1)).bind fun b h2 => if b = true then (noex (e env1 h2)).bind fun y h3 => R (acc ++ [y]) h3 else R acc h2) I1 H1 h1 ad1 okk (fun _ _ _ => False))
    (rx : AVr K I h.next ad x it) :
    g x (L2.wipe σ vs) H fun σ2 H2 => L2.wipe σ2 vs = L2.wipe σ vs ∧ tt σ2 H2 fun b H3 =>
      if b = true then te σ2 H3 fun y H4 => ∃ acc, H4 p = some (.lst acc) ∧ acc.length < sizeLine ∧ LcE K I1 H1 h1 ad1 p (n + 1) R okk (upd H4 p (.lst (acc ++ [y]))) else LcE K I1 H1 h1 ad1 p (n + 1) R okk H3 := by
  have key := tgi x (L2.wipe σ vs) H (fun σ2 H2 => tt σ2 H2 fun b H3 =>
      if b = true then te σ2 H3 fun y H4 => ∃ acc, H4 p = some (.lst acc) ∧ acc.length < sizeLine ∧ LcE K I1 H1 h1 ad1 p (n + 1) R okk (upd H4 p (.lst (acc ++ [y]))) else LcE K I1 H1 h1 ad1 p (n + 1) R okk H3) ?_
  · rw [DL.wipe_wipe] at key
    exact key
  refine hg I H h ad _ _ hh ((s1.goes gs).wipe vs) x it rx _ <| Pst.noex <| Pst.imp (Pst.bindS ps gs) (fun env2 I2 H2 h2 ad2 g2 hh2 ⟨gs2, _, gl2, ps2⟩ σ2 sl2 => ?_) fun _ _ _ z => z
  refine hc I2 H2 h2 ad2 σ2 env2 hh2 sl2 _ <| Pst.noex <| Pst.imp (Pst.bindS ps2 gs2) (fun b I3 H3 h3 ad3 g3 hh3 ⟨gs3, _, gl3, ps3⟩ => ?_) fun _ _ _ z => z
  have gA := gl2.trans gl3
  cases b with
  | false =>
    obtain ⟨k1, k2, k3⟩ := gA.beside hHp hIp ne
    exact ⟨I3, h3, ad3, acc, accV, gs3, hh3, k1, k2, k3, by omega, pmono (fun _ _ z => z.goes gA) ra, ps3⟩
  | true =>
    refine he I3 H3 h3 ad3 σ2 env2 hh3 (sl2.goes gl3) _ <| Pst.noex <| Pst.imp (Pst.bindS ps3 gs3) (fun y I4 H4 h4 ad4 g4 hh4 ⟨gs4, _, gl4, ps4⟩ w rw => ?_) fun _ _ _ z => z
    have gB := gA.trans gl4
    obtain ⟨k1, k2, k3⟩ := gB.beside hHp hIp ne
    have hlen := plen ra
    refine ⟨accV, k1, Nat.lt_of_lt_of_le (by omega : accV.length < 100000) (by decide : 100000 ≤ sizeLine), ?_⟩
    obtain ⟨hh5, gs5⟩ := hh4.side (u := .lst (accV ++ [w])) k2 k3 gs4 hp1
    exact ⟨I4, h4, ad4, acc ++ [y], accV ++ [w], gs5, hh5, upd_same, k2, k3, by simp; omega, paired_app (pmono (fun _ _ z => z.goes gB) ra) (.cons rw .nil), ps4⟩
theorem bind_assoc {α β γ : Type} (r : Rs α) (f : α → AHp → Rs β) (k : β → AHp → Rs γ) : (r.bind f).bind k = r.bind fun a h => (f a h).bind k := by
  cases r <;> rfl
theorem evLcL_cons {mk : List AV → AHp → Rs AV} {it : AV} {items acc : List AV} {h : AHp} : (evLcL tg c e env (it :: items) h).bind (fun ys h' => mk (acc ++ ys) h') =
    (noex (tg it env h)).bind fun env1 h1 => (noex (c env1 h1)).bind fun b h2 => if b = true then (noex (e env1 h2)).bind fun y h3 => (evLcL tg c e env items h3).bind (fun ys h' => mk ((acc ++ [y]) ++ ys) h') else (evLcL tg c e env items h2).bind (fun ys h' => mk (acc ++ ys) h') := by
  show ((noex (tg it env h)).bind fun env1 h1 => (noex (c env1 h1)).bind fun b h2 => if b = true then (noex (e env1 h2)).bind fun y h3 => (evLcL tg c e env items h3).bind fun ys h4 => .ok (y :: ys) h4 else evLcL tg c e env items h2).bind _ = _
  rw [bind_assoc]
  congr 1
  funext env1 h1
  rw [bind_assoc]
  congr 1
  funext b h2
  cases b with
  | false => rfl
  | true =>
    show ((noex (e env1 h2)).bind fun y h3 => (evLcL tg c e env items h3).bind fun ys h4 => .ok (y :: ys) h4).bind _ = _
    rw [bind_assoc]
    show _ = (noex (e env1 h2)).bind fun y h3 => (evLcL tg c e env items h3).bind (fun ys h' => mk ((acc ++ [y]) ++ ys) h')
    congr 1
    funext y h3
    rw [bind_assoc]
    congr 1
    funext ys h4
    show mk (acc ++ (y :: ys)) h4 = _
    rw [List.append_assoc]
    rfl
theorem sx_lcM {wi : TI} {evi : EvA} {vs : List Nat} {mk : List AV → AHp → Rs AV} (mo : MkOk K mk) (hi : SIt K W wi evi) (tgi : DL.TgIn g vs) (hg : SG K WN g tg) (hc : ST K WN tt c) (he : SX K WN te e) :
    SX K W (tLc wi g tt te vs) (fun env h => (evi env h).bind fun items h1 => noex (evLcV vs tg c e mk env items h1)) := fun I H h ad σ env hh sl QQ q => by
  refine hi I H h ad σ env hh sl _ <| Pst.imp (Pst.bind q) (fun items I1 H1 h1 ad1 g1 hh1 p1 J G Y w gG gY p hp => ?_) fun _ _ _ z => z
  have p2 := Pst.noex (exk' := fun _ _ _ => False) p1
  unfold evLcV at p2
  by_cases hl : items.length ≤ 100000
  · rw [if_pos hl] at p2
    refine lc_it w (fun i H2 => LcE K I1 H1 h1 ad1 p i (fun acc h => (evLcL tg c e (wipeE env vs) (items.drop i) h).bind fun ys h' => mk (acc ++ ys) h') (fun v I' H' h' ad' => ∀ w, AVr K I' h'.next ad' w v → QQ w H') H2)
      (lcE_start hh1 hp p2) ?_ ?_ ?_
    · rintro i H2 _ ⟨I2, h2, ad2, acc, accV, gs, hh2, _⟩
      exact gG I2 H2 h2 ad2 gs hh2
    · rintro i x H2 H3 hi2 st y
      have hn : i < 100000 := by omega
      obtain ⟨it, ei⟩ : ∃ it, items[i]? = some it := ⟨items[i], List.getElem?_eq_getElem hi2⟩
      have ed : items.drop i = it :: items.drop (i + 1) := by
        rw [List.drop_eq_getElem_cons hi2]
        congr 1
        rw [List.getElem?_eq_getElem hi2] at ei
        exact Option.some.inj ei
      obtain ⟨I2, h2, ad2, acc, accV, gs, hh2, hHp, hIp, ne, hl2, ra, ps⟩ := st
      obtain ⟨I3, it', g3, hh3, ei', rx⟩ := gY i x I2 H2 h2 ad2 H3 hi2 gs hh2 y
      rw [ei] at ei'
      cases ei'
      rw [ed, evLcL_cons] at ps
      obtain ⟨k1, k2, k3⟩ := g3.beside hHp hIp ne
      exact lcE_turn (R := fun acc h => (evLcL tg c e (wipeE env vs) (items.drop (i + 1)) h).bind fun ys h' => mk (acc ++ ys) h') hn hp (sl.goes g1) tgi hg hc he (gs.trans g3) hh3 k1 k2 k3 hl2 (pmono (fun _ _ z => z.goes g3) ra) ps rx
    · rintro H2 ⟨I2, h2, ad2, acc, accV, gs, hh2, hHp, hIp, ne, hl2, ra, ps⟩
      have e0 : items.drop items.length = [] := List.drop_length
      rw [e0] at ps
      have ps' : Pst K (mk (acc ++ []) h2) I1 H1 h1 ad1 (fun v I' H' h' ad' => ∀ w, AVr K I' h'.next ad' w v → QQ w H') (fun _ _ _ => False) := ps
      rw [List.append_nil] at ps'
      exact mo hh2 gs hp hHp hIp ne ra ps'
  · rw [if_neg hl] at p2
    exact p2.elim
end
end EL
/-! Operators and built-in calls, by tables. -/
namespace EL
open PySem L2
open DL (Da Rep RepL RepF RepK RepD RepT Ex)
/-! ### flat data -/
def flD : Da → Option V
  | .non => some .non | .bl b => some (.bl b) | .int i => some (.int i) | .str z => some (.str z)
  | _ => none
def flAll : List Da → Option (List V)
  | [] => some []
  | d :: r => match flD d, flAll r with
    | some v, some vs => some (v :: vs)
    | _, _ => none
@[simp] theorem flD_n : flD .non = some .non := rfl
@[simp] theorem flD_b (b : Bool) : flD (.bl b) = some (.bl b) := rfl
@[simp] theorem flD_i (b : Int) : flD (.int b) = some (.int b) := rfl
@[simp] theorem flD_s (b : Str) : flD (.str b) = some (.str b) := rfl
@[simp] theorem flD_t (b : List Da) : flD (.tup b) = none := rfl
@[simp] theorem flD_l (b : List Da) : flD (.lst b) = none := rfl
@[simp] theorem flAll_nil : flAll [] = some [] := rfl
@[simp] theorem flAll_cons (d : Da) (r : List Da) : flAll (d :: r) = match flD d, flAll r with
    | some v, some vs => some (v :: vs)
    | _, _ => none := rfl
@[simp] theorem flAll_strs (l : List Str) : flAll (DL.txts l) = some (l.map V.str) := by
  induction l with
  | nil => rfl
  | cons a r ih =>
    have e : DL.txts (a :: r) = Da.str a :: DL.txts r := rfl
    rw [e, flAll_cons, ih]; rfl
@[simp] theorem flAll_ints (l : List Int) : flAll (l.map Da.int) = some (l.map V.int) := by
  induction l with
  | nil => rfl
  | cons a r ih => rw [List.map_cons, flAll_cons, ih]; rfl
@[simp] theorem inV_strs (z : Str) (l : List Str) : inV (.str z) (l.map V.str) = decide (z ∈ l) := DL.inV_strs z l
@[simp] theorem inV_ints (k : Int) (l : List Int) : inV (.int k) (l.map V.int) = decide (k ∈ l) := by
  induction l with
  | nil => rfl
  | cons a l ih =>
    have e : inV (.int k) ((a :: l).map V.int) = (eqV (.int a) (.int k) || inV (.int k) (l.map V.int)) := rfl
    rw [e, ih]
    have e2 : eqV (.int a) (.int k) = decide (a = k) := by
      show (a == k) = decide (a = k)
      exact Bool.beq_eq_decide_eq a k
    rw [e2]
    by_cases h : a = k
    · subst h; simp
    · have h' : ¬ k = a := fun q => h q.symm
      simp [h, h']
section
variable {K : PySem.W.Frag} {W : WX} {I H I' H' I1 H1 : Hp} {h h' h1 : AHp} {ad ad' ad1 : Nat → Addr} {σ : St} {env : Env} {te ta : TE} {e : EvX}
theorem flD_ok {v w : V} {d : Da} (r : Rep K I v d) (h : flD d = some w) : v = w := by
  cases r <;> first | (cases h; done) | (cases h; rfl)
theorem flAll_ok : ∀ {xs vs : List V} {ds : List Da}, RepL K I xs ds → flAll ds = some vs → xs = vs
  | _, _, _, .nil, h => by cases h; rfl
  | _, _, _, .cons (d := d) (ds := ds) a b, h => by
    rw [flAll_cons] at h
    cases e1 : flD d with
    | none => rw [e1] at h; cases h
    | some v =>
      cases e2 : flAll ds with
      | none => rw [e1, e2] at h; cases h
      | some vs =>
        rw [e1, e2] at h
        cases h
        rw [flD_ok a e1, flAll_ok b e2]
theorem flat_flatV {d : Da} {w : V} (h : flD d = some w) : flatV w = true := by
  cases d <;> cases h <;> rfl
theorem flatAll_flatV : ∀ {ds : List Da} {vs : List V}, flAll ds = some vs → vs.all flatV = true
  | [], _, h => by cases h; rfl
  | d :: ds, _, h => by
    rw [flAll_cons] at h
    cases e1 : flD d with
    | none => rw [e1] at h; cases h
    | some v =>
      cases e2 : flAll ds with
      | none => rw [e1, e2] at h; cases h
      | some vs =>
        rw [e1, e2] at h
        cases h
        rw [List.all_cons, flat_flatV e1, flatAll_flatV e2]; rfl
/-! ### what an object is worth as it stands -/
def o2 {α : Type} : Option α → Option (List α) → Option (List α)
  | some a, some as => some (a :: as)
  | _, _ => none
def optL {α : Type} : List (Option α) → Option (List α)
  | [] => some []
  | o :: r => o2 o (optL r)
def frzV : Nat → AHp → AV → Option Da
  | _, _, .d x => some x
  | 0, _, .o _ => none
  | n + 1, h, .o i => match h.objs i with
    | .ml vs => (optL (vs.map (frzV n h))).map .lst
    | .tu vs => (optL (vs.map (frzV n h))).map .tup
    | .md kvs => (optL (kvs.map fun p => (frzV n h p.2).map fun d => (p.1, d))).map .dk
    | .mt kvs => (optL (kvs.map fun p => (frzV n h p.2).map fun d => (p.1, d))).map .dt
    | .ins C _ fs => (optL (fs.map fun p => (frzV n h p.2).map fun d => (p.1, d))).map (.obj C)
    | _ => none
abbrev worth (h : AHp) (x : AV) : Option Da := frzV 9 h x
@[simp] theorem frzV_d (n : Nat) (h : AHp) (x : Da) : frzV n h (.d x) = some x := by cases n <;> rfl
theorem frzV_o (n : Nat) (h : AHp) (i : Nat) : frzV (n + 1) h (.o i) = match h.objs i with
    | .ml vs => (optL (vs.map (frzV n h))).map .lst
    | .tu vs => (optL (vs.map (frzV n h))).map .tup
    | .md kvs => (optL (kvs.map fun p => (frzV n h p.2).map fun d => (p.1, d))).map .dk
    | .mt kvs => (optL (kvs.map fun p => (frzV n h p.2).map fun d => (p.1, d))).map .dt
    | .ins C _ fs => (optL (fs.map fun p => (frzV n h p.2).map fun d => (p.1, d))).map (.obj C)
    | _ => none := rfl
@[simp] theorem optL_nil {α : Type} : optL ([] : List (Option α)) = some [] := rfl
@[simp] theorem optL_cons {α : Type} (a : α) (r : List (Option α)) : optL (some a :: r) = (optL r).map (a :: ·) := by
  show o2 (some a) (optL r) = _
  cases optL r <;> rfl
@[simp] theorem optL_ds (n : Nat) (h : AHp) (ds : List Da) : optL ((ds.map AV.d).map (frzV n h)) = some ds := by
  induction ds with
  | nil => rfl
  | cons a r ih => rw [List.map_cons, List.map_cons, frzV_d, optL_cons, ih]; rfl
@[simp] theorem optL_fs {α : Type} (n : Nat) (h : AHp) (f : α → Da) (l : List α) : optL ((l.map fun a => AV.d (f a)).map (frzV n h)) = some (l.map f) := by
  induction l with
  | nil => rfl
  | cons a r ih => rw [List.map_cons, List.map_cons, frzV_d, optL_cons, ih]; rfl
open Classical in
/-- what still changes seen as data -/
noncomputable def pk (I H : Hp) (h : AHp) (ad : Nat → Addr) : Hp := fun a => if ∃ i, i < h.next ∧ ad i = a then H a else I a
theorem pk_own {i : Nat} (l : i < h.next) : pk I H h ad (ad i) = H (ad i) := by unfold pk; rw [if_pos ⟨i, l, rfl⟩]
theorem pk_up (hh : HH K I H h ad) : Up (pk I H h ad) H := fun a u e => by
  unfold pk at e
  by_cases c : ∃ i, i < h.next ∧ ad i = a
  · rw [if_pos c] at e; exact .inl e
  · rw [if_neg c] at e; exact hh.up a u e
theorem pk_ex (hh : HH K I H h ad) (og : ∀ i, i < h.next → (h.objs i).isG = true → I (ad i) = H (ad i)) : Ex I (pk I H h ad) := fun a u e => by
  unfold pk
  by_cases c : ∃ i, i < h.next ∧ ad i = a
  · rw [if_pos c]
    obtain ⟨i, l, ea⟩ := c
    subst ea
    cases q : (h.objs i).isG with
    | true => rw [← og i l q]; exact e
    | false => rw [hh.out i l q] at e; cases e
  · rw [if_neg c]; exact e
theorem opt_paired {α : Type} {F : V → Da → Prop} {n : Nat} (ih : ∀ x d v, frzV n h x = some d → AVr K I h.next ad v x → F v d) : ∀ {xs : List V} {vs : List AV} {ds : List Da}, Paired (AVr K I h.next ad) xs vs → optL (vs.map (frzV n h)) = some ds → Paired F xs ds
  | _, _, _, .nil, e => by cases e; exact .nil
  | _, _, _, .cons (b := b) (l₂ := r) a t, e => by
    have e' : o2 (frzV n h b) (optL (r.map (frzV n h))) = some _ := e
    cases q : frzV n h b with
    | none => rw [q] at e'; cases e'
    | some d =>
      cases q2 : optL (r.map (frzV n h)) with
      | none => rw [q, q2] at e'; cases e'
      | some as =>
        rw [q, q2] at e'
        cases e'
        exact .cons (ih _ _ _ q a) (opt_paired (α := α) ih t q2)
theorem opt_pairedK {κ : Type} {F : V → Da → Prop} {n : Nat} (ih : ∀ x d v, frzV n h x = some d → AVr K I h.next ad v x → F v d) : ∀ {xs : List (κ × V)} {vs : List (κ × AV)} {ds : List (κ × Da)}, Paired (KVr κ K I h.next ad) xs vs → optL (vs.map fun p => (frzV n h p.2).map fun d => (p.1, d)) = some ds → Paired (fun p q => p.1 = q.1 ∧ F p.2 q.2) xs ds
  | _, _, _, .nil, e => by cases e; exact .nil
  | _, _, _, .cons (b := b) (l₂ := r) a t, e => by
    have e' : o2 ((frzV n h b.2).map fun d => (b.1, d)) (optL (r.map fun p => (frzV n h p.2).map fun d => (p.1, d))) = some _ := e
    cases q : frzV n h b.2 with
    | none => rw [q] at e'; cases e'
    | some d =>
      cases q2 : optL (r.map fun p => (frzV n h p.2).map fun d => (p.1, d)) with
      | none => rw [q, q2] at e'; cases e'
      | some as =>
        rw [q, q2] at e'
        cases e'
        exact .cons ⟨a.1, ih _ _ _ q a.2⟩ (opt_pairedK ih t q2)
theorem repl_of_paired {J : Hp} : ∀ {xs : List V} {ds : List Da}, Paired (fun v d => Rep K J v d) xs ds → RepL K J xs ds
  | _, _, .nil => .nil
  | _, _, .cons a b => .cons a (repl_of_paired b)
theorem repd_of_paired {J : Hp} : ∀ {xs : List (Key × V)} {ds : List (Key × Da)}, Paired (fun p q => p.1 = q.1 ∧ Rep K J p.2 q.2) xs ds → RepD K J xs ds
  | _, _, .nil => .nil
  | _, _, .cons (a := (f, v)) (b := (g, d)) a b => by
    obtain ⟨e, r⟩ := a
    have e' : f = g := e
    subst e'
    exact .cons r (repd_of_paired b)
theorem rept_of_paired {J : Hp} : ∀ {xs : List (List Key × V)} {ds : List (List Key × Da)}, Paired (fun p q => p.1 = q.1 ∧ Rep K J p.2 q.2) xs ds → RepT K J xs ds
  | _, _, .nil => .nil
  | _, _, .cons (a := (f, v)) (b := (g, d)) a b => by
    obtain ⟨e, r⟩ := a
    have e' : f = g := e
    subst e'
    exact .cons r (rept_of_paired b)
theorem repf_of_paired {J : Hp} : ∀ {xs : List (Str × V)} {ds : List (Str × Da)}, Paired (fun p q => p.1 = q.1 ∧ Rep K J p.2 q.2) xs ds → RepF K J xs ds
  | _, _, .nil => .nil
  | _, _, .cons (a := (f, v)) (b := (g, d)) a b => by
    obtain ⟨e, r⟩ := a
    have e' : f = g := e
    subst e'
    exact .cons r (repf_of_paired b)
/-- in any heap of data that has the objects' things as they stand -/
theorem frz_rep (hh : HH K I H h ad) {J : Hp} (eI : Ex I J) (eo : ∀ i, i < h.next → (h.objs i).free = true → J (ad i) = H (ad i)) : ∀ (n : Nat) (x : AV) (d : Da) (v : V), frzV n h x = some d → AVr K I h.next ad v x → Rep K J v d
  | n, .d x, d, v, e, r => by
    rw [frzV_d] at e
    cases e
    exact Rep.mono eI r
  | 0, .o i, d, v, e, r => by cases e
  | n + 1, .o i, d, v, e, r => by
    obtain ⟨l, ev⟩ := r
    subst ev
    have ob := hh.ob i l
    rw [frzV_o] at e
    have ih := frz_rep hh eI eo n
    have fr := eo i l
    cases q : h.objs i with
    | ml vs =>
      rw [q] at e ob fr
      obtain ⟨xs, hx, p⟩ := ob
      have e1 : (optL (vs.map (frzV n h))).map Da.lst = some d := e
      cases q2 : optL (vs.map (frzV n h)) with
      | none => rw [q2] at e1; cases e1
      | some ds =>
        rw [q2] at e1
        cases e1
        exact Rep.lst ((fr rfl).trans hx) (repl_of_paired (opt_paired (α := V) ih p q2))
    | tu vs =>
      rw [q] at e ob fr
      obtain ⟨xs, hx, p⟩ := ob
      have e1 : (optL (vs.map (frzV n h))).map Da.tup = some d := e
      cases q2 : optL (vs.map (frzV n h)) with
      | none => rw [q2] at e1; cases e1
      | some ds =>
        rw [q2] at e1
        cases e1
        exact Rep.tup (SqT.of ((fr rfl).trans hx)) (repl_of_paired (opt_paired (α := V) ih p q2))
    | md kvs =>
      rw [q] at e ob fr
      obtain ⟨xs, hx, p⟩ := ob
      have e1 : (optL (kvs.map fun p => (frzV n h p.2).map fun d => (p.1, d))).map Da.dk = some d := e
      cases q2 : optL (kvs.map fun p => (frzV n h p.2).map fun d => (p.1, d)) with
      | none => rw [q2] at e1; cases e1
      | some ds =>
        rw [q2] at e1
        cases e1
        exact Rep.dk ((fr rfl).trans hx) (repd_of_paired (opt_pairedK ih p q2))
    | mt kvs =>
      rw [q] at e ob fr
      obtain ⟨xs, hx, p⟩ := ob
      have e1 : (optL (kvs.map fun p => (frzV n h p.2).map fun d => (p.1, d))).map Da.dt = some d := e
      cases q2 : optL (kvs.map fun p => (frzV n h p.2).map fun d => (p.1, d)) with
      | none => rw [q2] at e1; cases e1
      | some ds =>
        rw [q2] at e1
        cases e1
        exact Rep.dt ((fr rfl).trans hx) (rept_of_paired (opt_pairedK ih p q2))
    | ins C j fs =>
      rw [q] at e ob fr
      obtain ⟨_, xs, hx, p⟩ := ob
      have e1 : (optL (fs.map fun p => (frzV n h p.2).map fun d => (p.1, d))).map (Da.obj C) = some d := e
      cases q2 : optL (fs.map fun p => (frzV n h p.2).map fun d => (p.1, d)) with
      | none => rw [q2] at e1; cases e1
      | some ds =>
        rw [q2] at e1
        cases e1
        exact Rep.obj ((fr rfl).trans hx) (repf_of_paired (opt_pairedK ih p q2))
    | gone => rw [q] at e; cases e
    | own j => rw [q] at e; cases e
    | lk o => rw [q] at e; cases e
end
end EL
/-! Rules of the layer below whose answers no object bears; freezing. -/
namespace EL
open PySem L2
open DL (Da Rep RepL RepF RepK RepD RepT Ex)
section
variable {K : PySem.W.Frag} {W : WX} {I H I' H' I1 H1 : Hp} {h h' h1 : AHp} {ad ad' ad1 : Nat → Addr} {σ : St} {env : Env} {te ta : TE} {e : EvX}
open Classical in
noncomputable def pkO (I H : Hp) (h : AHp) (ad : Nat → Addr) : Hp := fun a => if Own h ad a then H a else I a
theorem pkO_up (hh : HH K I H h ad) : Up (pkO I H h ad) H := fun a u e => by
  unfold pkO at e
  by_cases c : Own h ad a
  · rw [if_pos c] at e; exact .inl e
  · rw [if_neg c] at e; exact hh.up a u e
theorem pkO_ex (hh : HH K I H h ad) : Ex I (pkO I H h ad) := fun a u e => by
  unfold pkO
  rw [if_neg (hh.notown e)]; exact e
theorem pkO_own {i : Nat} (l : i < h.next) (f : (h.objs i).free = true) : pkO I H h ad (ad i) = H (ad i) := by unfold pkO; rw [if_pos ⟨i, l, rfl, f⟩]
theorem worth_rep (hh : HH K I H h ad) {x : AV} {d : Da} {v : V} (e : worth h x = some d) (r : AVr K I h.next ad v x) : Rep K (pkO I H h ad) v d := frz_rep hh (pkO_ex hh) (fun i l f => pkO_own l f) _ x d v e r
theorem HH.more (hh : HH K I H h ad) (kp : ∀ a o, H a = some o → H' a = some o) : HH K I H' h ad ∧ Goes I H h ad I H' h ad := by
  have al : ∀ a, H a ≠ none → H' a ≠ none := fun a e => by
    cases q : H a with
    | none => exact absurd q e
    | some o => rw [kp a o q]; simp
  refine ⟨⟨fun a u e => ?_, hh.wf, hh.inj, fun i l => al _ (hh.tr i l), fun i l => (hh.ob i l).mono (DL.Ex.refl I) (Nat.le_refl _) (fun _ _ => rfl) ?_, hh.out, fun z a w e => kp a w (hh.exa z a w e)⟩, ⟨DL.Ex.refl I, fun a o e _ => kp a o e, fun _ _ e _ => e, al, fun a o => .inl o, Nat.le_refl _, fun _ _ => rfl, fun _ l l' => by omega⟩⟩
  · rcases hh.up a u e with z | ⟨z, o, y⟩
    · exact .inl (kp a u z)
    · exact .inr ⟨z, o, kp a _ y⟩
  · cases q : H (ad i) with
    | none => exact absurd q (hh.tr i l)
    | some o => rw [kp _ o q]
theorem staP (hh : HH K I H h ad) : DL.Sta K (fun _ => True) (nod (pkO I H h ad)) H [] [] [] [] := ⟨(pkO_up hh).nod, fun _ _ => trivial, .nil, .nil⟩
theorem postP {z : Da} {QQ : VK} {J : Hp} (fl : DL.flat z = true) (hh : HH K I H h ad) (p : Pst K (.ok (AV.d z) h) I H h ad (fun z I' H' h' ad' => ∀ u, AVr K I' h'.next ad' u z → QQ u H') (fun _ _ _ => False)) : DL.Post K (fun _ => True) [] [] [] J H (QD z) QQ :=
  fun v I' H' r μ' F' st f s ok ⟨er, em⟩ => by
    subst er
    obtain ⟨a, b⟩ := hh.more fun a o e => st.keep a o e (by simp)
    exact p _ H' ad b a v (Rep.flat ok fl)
/-- an answer that no object bears, of what the things are worth as they stand -/
def q2 (g : Da → Da → Option Da) : AV → AV → AHp → Rs AV := fun x y h => match worth h x, worth h y with
  | some a, some b => (match g a b with
    | some z => .ok (.d z) h
    | none => .bad)
  | _, _ => .bad
@[simp] theorem q2_d (g : Da → Da → Option Da) (a b : Da) (h : AHp) : q2 g (.d a) (.d b) h = match g a b with | some z => .ok (.d z) h | none => .bad := rfl
theorem sr2_q {r : R2} {g : Da → Da → Option Da} (hg : ∀ a b z, g a b = some z → DL.flat z = true ∧ noD a = true ∧ noD b = true ∧ DL.RR K r (.dat a) (.dat b) [] [] (QD z)) : SR2 K r (q2 g) := fun I H h ad hh v w x y rv rw QQ p => by
  unfold q2 at p
  cases e1 : worth h x with
  | none => rw [e1] at p; exact p.elim
  | some a =>
    cases e2 : worth h y with
    | none => rw [e1, e2] at p; exact p.elim
    | some b =>
      rw [e1, e2] at p
      cases e : g a b with
      | none => simp only [e] at p; exact p.elim
      | some z =>
        simp only [e] at p
        obtain ⟨fl, na, nb, q⟩ := hg a b z e
        exact q _ _ H [] [] (staP hh) v w (rep_nod (worth_rep hh e1 rv) na) (rep_nod (worth_rep hh e2 rw) nb) QQ (postP fl hh p)
def qC (g : List Da → Option Da) : List AV → AHp → Rs AV := fun xs h => match optL (xs.map (worth h)) with
  | some ds => (match g ds with
    | some z => .ok (.d z) h
    | none => .bad)
  | none => .bad
@[simp] theorem qC1 (g : List Da → Option Da) (a : Da) (h : AHp) : qC g [.d a] h = match g [a] with | some z => .ok (.d z) h | none => .bad := rfl
@[simp] theorem qC2 (g : List Da → Option Da) (a b : Da) (h : AHp) : qC g [.d a, .d b] h = match g [a, b] with | some z => .ok (.d z) h | none => .bad := rfl
theorem src_q {r : List V → Hp → VK → Prop} {g : List Da → Option Da} (hg : ∀ ds z, g ds = some z → DL.flat z = true ∧ noDL ds = true ∧ DL.RC K r (DL.dats ds) [] [] (QD z)) : SRC K r (qC g) := fun I H h ad hh vs xs rv QQ p => by
  unfold qC at p
  cases e : optL (xs.map (worth h)) with
  | none => rw [e] at p; exact p.elim
  | some ds =>
    rw [e] at p
    simp only at p
    cases e2 : g ds with
    | none => rw [e2] at p; exact p.elim
    | some z =>
      rw [e2] at p
      obtain ⟨fl, nd, q⟩ := hg ds z e2
      have rr : RepL K (pkO I H h ad) vs ds := repl_of_paired (opt_paired (α := V) (n := 9) (fun x d v e r => worth_rep hh e r) rv e)
      exact q _ _ H [] [] (staP hh) vs (slok0 (repl_nod rr nd)) QQ (postP fl hh p)
/-! ### tables -/
theorem now_rr {r : R2} {x y z : Da} (f : ∀ {Q : DL.SK → DL.Mu → Prop}, Q (.dat z) [] → DL.RR K r (.dat x) (.dat y) [] [] Q) : DL.RR K r (.dat x) (.dat y) [] [] (QD z) := f ⟨rfl, rfl⟩
def gADD : Da → Da → Option Da
  | .int i, .int j => some (.int (i + j))
  | .str a, .str b => if a.length + b.length ≤ 1000000 then some (.str (a ++ b)) else none
  | _, _ => none
@[simp] theorem gADD_i (i j : Int) : gADD (.int i) (.int j) = some (.int (i + j)) := rfl
@[simp] theorem gADD_s (a b : Str) : gADD (.str a) (.str b) = if a.length + b.length ≤ 1000000 then some (.str (a ++ b)) else none := rfl
theorem hADD : ∀ a b z, gADD a b = some z → DL.flat z = true ∧ noD a = true ∧ noD b = true ∧ DL.RR K (DL.rADD K) (.dat a) (.dat b) [] [] (QD z) := fun a b z e => by
  unfold gADD at e
  split at e
  · cases e; exact ⟨rfl, rfl, rfl, DL.add_i ⟨rfl, rfl⟩⟩
  · split at e
    · rename_i hl
      cases e; exact ⟨rfl, rfl, rfl, DL.add_s hl ⟨rfl, rfl⟩⟩
    · cases e
  · cases e
def gI (c : Int → Int → Prop) [∀ i j, Decidable (c i j)] (f : Int → Int → Da) : Da → Da → Option Da
  | .int i, .int j => if c i j then some (f i j) else none
  | _, _ => none
@[simp] theorem gI_i (c : Int → Int → Prop) [∀ i j, Decidable (c i j)] (f : Int → Int → Da) (i j : Int) : gI c f (.int i) (.int j) = if c i j then some (f i j) else none := rfl
theorem hI {c : Int → Int → Prop} [∀ i j, Decidable (c i j)] {f : Int → Int → Da} {r : R2} (hf : ∀ i j, DL.flat (f i j) = true) (hr : ∀ i j, c i j → DL.RR K r (.dat (.int i)) (.dat (.int j)) [] [] (QD (f i j))) :
    ∀ a b z, gI c f a b = some z → DL.flat z = true ∧ noD a = true ∧ noD b = true ∧ DL.RR K r (.dat a) (.dat b) [] [] (QD z) := fun a b z e => by
  unfold gI at e
  split at e
  · split at e
    · rename_i hc
      cases e; exact ⟨hf _ _, rfl, rfl, hr _ _ hc⟩
    · cases e
  · cases e
instance : ∀ i j, Decidable (CMulX i j) := fun i j => inferInstanceAs (Decidable ((Builtin.Int.intBits i : Int) + (Builtin.Int.intBits j : Int) ≤ 134217728))
instance : ∀ i j, Decidable (CDivW i j) := fun i j => inferInstanceAs (Decidable (0 < j ∧ j.natAbs.log2 < 9000))
instance : ∀ i j, Decidable (DL.CPowB i j) := fun i j => inferInstanceAs (Decidable (0 ≤ j ∧ (Builtin.Int.intBits i : Int) * j ≤ 2 ^ 27))
abbrev cT : Int → Int → Prop := fun _ _ => True
abbrev fADD0 : AV → AV → AHp → Rs AV := q2 gADD
abbrev fSUB : AV → AV → AHp → Rs AV := q2 (gI cT fun i j => .int (i - j))
abbrev fMUL0 : AV → AV → AHp → Rs AV := q2 (gI CMulX fun i j => .int (i * j))
abbrev fMOD : AV → AV → AHp → Rs AV := q2 (gI (fun _ j => 0 < j) fun i j => .int (i % j))
abbrev fFDV : AV → AV → AHp → Rs AV := q2 (gI CDivW fun i j => .int (i / j))
abbrev fPOW : AV → AV → AHp → Rs AV := q2 (gI DL.CPowB fun i j => .int (i ^ j.toNat))
abbrev fLT : AV → AV → AHp → Rs AV := q2 (gI cT fun i j => .bl (decide (i < j)))
abbrev fLE : AV → AV → AHp → Rs AV := q2 (gI cT fun i j => .bl (decide (i ≤ j)))
abbrev fGT : AV → AV → AHp → Rs AV := q2 (gI cT fun i j => .bl (decide (j < i)))
abbrev fGE : AV → AV → AHp → Rs AV := q2 (gI cT fun i j => .bl (decide (j ≤ i)))
theorem sSUB : SR2 K DL.rSUB fSUB := sr2_q (hI (fun _ _ => rfl) fun i j _ => DL.sub_i ⟨rfl, rfl⟩)
theorem sMUL0 : SR2 K DL.rMUL fMUL0 := sr2_q (hI (fun _ _ => rfl) fun i j c => DL.mul_i c ⟨rfl, rfl⟩)
theorem sMOD : SR2 K DL.rMOD fMOD := sr2_q (hI (fun _ _ => rfl) fun i j c => DL.mod_i c ⟨rfl, rfl⟩)
theorem sFDV : SR2 K DL.rFDV fFDV := sr2_q (hI (fun _ _ => rfl) fun i j c => DL.fdv_i c ⟨rfl, rfl⟩)
theorem sPOW : SR2 K DL.rPOW fPOW := sr2_q (hI (fun _ _ => rfl) fun i j c => DL.pow_i c ⟨rfl, rfl⟩)
theorem sLT : SR2 K DL.rLTI fLT := sr2_q (hI (fun _ _ => rfl) fun i j c => DL.lt_i ⟨rfl, rfl⟩)
theorem sLE : SR2 K DL.rLEI fLE := sr2_q (hI (fun _ _ => rfl) fun i j c => DL.le_i ⟨rfl, rfl⟩)
theorem sGT : SR2 K DL.rGTI fGT := sr2_q (hI (fun _ _ => rfl) fun i j c => DL.gt_i ⟨rfl, rfl⟩)
theorem sGE : SR2 K DL.rGEI fGE := sr2_q (hI (fun _ _ => rfl) fun i j c => DL.ge_i ⟨rfl, rfl⟩)
/-! equality -/
mutual
theorem plain_noD : ∀ d : Da, DL.plain d = true → noD d = true
  | .tup ds, h => plainL_noD ds h
  | .lst ds, h => plainL_noD ds h
  | .non, _ => rfl | .bl _, _ => rfl | .int _, _ => rfl | .str _, _ => rfl
  | .ty _, _ => rfl | .cls _, _ => rfl | .scr _, _ => rfl
  | .dct _, h => by simp [DL.plain] at h
  | .dk _, h => by simp [DL.plain] at h
  | .dt _, h => by simp [DL.plain] at h
  | .exc _ _, h => by simp [DL.plain] at h
  | .obj _ _, h => by simp [DL.plain] at h
theorem plainL_noD : ∀ ds : List Da, DL.plainL ds = true → noDL ds = true
  | [], _ => rfl
  | d :: ds, h => by
    obtain ⟨a, b⟩ := Bool.and_eq_true_iff.mp h
    exact Bool.and_eq_true_iff.mpr ⟨plain_noD d a, plainL_noD ds b⟩
end
def gEQ (neg : Bool) (a b : Da) : Option Da := match flD a, flD b with
  | some v, some w => if scal v w = true then some (.bl (neg ^^ decide (v = w))) else none
  | _, _ => if DL.shp a = true ∧ DL.shp b = true then some (.bl (neg ^^ PyData.eqv (DL.py a) (DL.py b))) else none
theorem flD_noD {d : Da} {v : V} (h : flD d = some v) : noD d = true := by cases d <;> cases h <;> rfl
theorem flD_rep {d : Da} {v : V} (h : flD d = some v) : ∀ I u, Rep K I u d → u = v := fun I u r => flD_ok r h
theorem hEQ : ∀ a b z, gEQ false a b = some z → DL.flat z = true ∧ noD a = true ∧ noD b = true ∧ DL.RR K (DL.rEQ K) (.dat a) (.dat b) [] [] (QD z) := fun a b z e => by
  unfold gEQ at e
  split at e
  · rename_i v w e1 e2
    split at e
    · rename_i hs
      cases e
      exact ⟨rfl, flD_noD e1, flD_noD e2, DL.eq_sc hs (flD_rep e1) (flD_rep e2) (by simp [QD])⟩
    · cases e
  · split at e
    · rename_i hs
      cases e
      exact ⟨rfl, plain_noD _ (DL.shp_plain hs.1), plain_noD _ (DL.shp_plain hs.2), DL.eq_d hs.1 hs.2 (by simp [QD])⟩
    · cases e
theorem hNE : ∀ a b z, gEQ true a b = some z → DL.flat z = true ∧ noD a = true ∧ noD b = true ∧ DL.RR K (DL.rNE K) (.dat a) (.dat b) [] [] (QD z) := fun a b z e => by
  unfold gEQ at e
  split at e
  · rename_i v w e1 e2
    split at e
    · rename_i hs
      cases e
      exact ⟨rfl, flD_noD e1, flD_noD e2, DL.ne_sc hs (flD_rep e1) (flD_rep e2) (by simp [QD])⟩
    · cases e
  · split at e
    · rename_i hs
      cases e
      exact ⟨rfl, plain_noD _ (DL.shp_plain hs.1), plain_noD _ (DL.shp_plain hs.2), DL.ne_d hs.1 hs.2 (by simp [QD])⟩
    · cases e
abbrev fEQ : AV → AV → AHp → Rs AV := q2 (gEQ false)
abbrev fNE : AV → AV → AHp → Rs AV := q2 (gEQ true)
theorem sEQ : SR2 K (DL.rEQ K) fEQ := sr2_q hEQ
theorem sNE : SR2 K (DL.rNE K) fNE := sr2_q hNE
@[simp] theorem gEQ_i (n : Bool) (i j : Int) : gEQ n (.int i) (.int j) = some (.bl (n ^^ decide (i = j))) := by simp [gEQ, scal]
@[simp] theorem gEQ_s (n : Bool) (i j : Str) : gEQ n (.str i) (.str j) = some (.bl (n ^^ decide (i = j))) := by simp [gEQ, scal]
@[simp] theorem gEQ_b (n : Bool) (i j : Bool) : gEQ n (.bl i) (.bl j) = some (.bl (n ^^ decide (i = j))) := by simp [gEQ, scal]
@[simp] theorem gEQ_nn (n : Bool) : gEQ n .non .non = some (.bl (n ^^ true)) := by simp [gEQ, scal]
@[simp] theorem gEQ_sn (n : Bool) (i : Str) : gEQ n (.str i) .non = some (.bl (n ^^ false)) := by simp [gEQ, scal]
@[simp] theorem gEQ_ns (n : Bool) (i : Str) : gEQ n .non (.str i) = some (.bl (n ^^ false)) := by simp [gEQ, scal]
@[simp] theorem gEQ_in (n : Bool) (i : Int) : gEQ n (.int i) .non = some (.bl (n ^^ false)) := by simp [gEQ, scal]
@[simp] theorem gEQ_ni (n : Bool) (i : Int) : gEQ n .non (.int i) = some (.bl (n ^^ false)) := by simp [gEQ, scal]
@[simp] theorem gEQ_si (n : Bool) (i : Str) (j : Int) : gEQ n (.str i) (.int j) = some (.bl (n ^^ false)) := by simp [gEQ, scal]
@[simp] theorem gEQ_is (n : Bool) (i : Str) (j : Int) : gEQ n (.int j) (.str i) = some (.bl (n ^^ false)) := by simp [gEQ, scal]
theorem gEQ_deep {n : Bool} {a b : Da} (h : flD a = none ∨ flD b = none) (ha : DL.shp a = true) (hb : DL.shp b = true) : gEQ n a b = some (.bl (n ^^ PyData.eqv (DL.py a) (DL.py b))) := by
  unfold gEQ
  rcases h with e | e
  · simp [e, ha, hb]
  · cases q : flD a <;> simp [e, ha, hb]
/-! is None -/
def gIS (neg : Bool) (a b : Da) : Option Da := match b with
  | .non => some (.bl (neg ^^ DL.isNon a))
  | _ => none
def avN : AV → Bool
  | .d a => DL.isNon a
  | .o _ => false
def fIS (neg : Bool) (x y : AV) (h : AHp) : Rs AV := match y with
  | .d .non => bV (neg ^^ avN x) h
  | _ => .bad
@[simp] theorem fIS_d (n : Bool) (a : Da) (h : AHp) : fIS n (.d a) (.d .non) h = .ok (.d (.bl (n ^^ DL.isNon a))) h := rfl
@[simp] theorem fIS_o (n : Bool) (i : Nat) (h : AHp) : fIS n (.o i) (.d .non) h = .ok (.d (.bl n)) h := by show bV (n ^^ false) h = _; simp [bV]
theorem isNon_v {v : V} {x : AV} {n : Nat} (r : AVr K I n ad v x) : decide (v = .non) = avN x := by
  cases x with
  | o i => obtain ⟨_, e⟩ := r; subst e; simp [avN]
  | d a =>
    have r' : Rep K I v a := r
    cases r' <;> simp [DL.isNon, avN]
theorem sIS : SR2 K DL.rISN (fIS false) := fun I H h ad hh v w x y rv rw QQ p => by
  cases y with
  | o i => exact p.elim
  | d b =>
    cases b with
    | non =>
      cases (show Rep K I w .non from rw)
      refine ⟨rfl, ?_⟩
      rw [isNon_v rv]
      have p' : Pst K (.ok (AV.d (.bl (false ^^ avN x))) h) I H h ad _ _ := p
      rw [Bool.false_xor] at p'
      exact p'.now hh _ (Rep.bl _)
    | _ => exact p.elim
theorem sNON : SR2 K DL.rNON (fIS true) := fun I H h ad hh v w x y rv rw QQ p => by
  cases y with
  | o i => exact p.elim
  | d b =>
    cases b with
    | non =>
      cases (show Rep K I w .non from rw)
      refine ⟨rfl, ?_⟩
      rw [isNon_v rv]
      have p' : Pst K (.ok (AV.d (.bl (true ^^ avN x))) h) I H h ad _ _ := p
      rw [Bool.true_xor] at p'
      exact p'.now hh _ (Rep.bl _)
    | _ => exact p.elim
end
end EL
/-! Lists, tuples, dicts, texts: what is asked of them and done to them. -/
namespace EL
open PySem L2
open DL (Da Rep RepL RepF RepK RepD RepT Ex)
/-! ### dicts seen -/
def dctK (h : AHp) : AV → Option (List (Key × AV))
  | .d (.dk kvs) => some (kvs.map fun p => (p.1, .d p.2))
  | .o i => match h.objs i with
    | .md kvs => some kvs
    | .lk (.md kvs) => some kvs
    | _ => none
  | _ => none
@[simp] theorem dctK_d (h : AHp) (kvs : List (Key × Da)) : dctK h (.d (.dk kvs)) = some (kvs.map fun p => (p.1, .d p.2)) := rfl
def keyD : Da → Option Key
  | .int i => some (.inl i) | .str z => some (.inr z)
  | _ => none
@[simp] theorem keyD_i (i : Int) : keyD (.int i) = some (.inl i) := rfl
@[simp] theorem keyD_s (z : Str) : keyD (.str z) = some (.inr z) := rfl
def getK {κ α : Type} [DecidableEq κ] (k : κ) : List (κ × α) → Option α
  | [] => none
  | (a, b) :: r => if a = k then some b else getK k r
def keyK (k : Key) : Da := match k with
  | .inl i => .int i
  | .inr z => .str z
section
variable {K : PySem.W.Frag} {W : WX} {I H I' H' I1 H1 : Hp} {h h' h1 : AHp} {ad ad' ad1 : Nat → Addr} {σ : St} {env : Env} {te ta : TE} {e ev : EvX}
theorem repd_paired {n : Nat} : ∀ {xs : List (Key × V)} {ds : List (Key × Da)}, RepD K I xs ds → Paired (KVr Key K I n ad) xs (ds.map fun p => (p.1, .d p.2))
  | _, _, .nil => .nil
  | _, _, .cons a b => .cons ⟨rfl, a⟩ (repd_paired b)
theorem dctK_ok (hh : HH K I H h ad) {v : V} {x : AV} {kvs : List (Key × AV)} (e : dctK h x = some kvs) (r : AVr K I h.next ad v x) : ∃ a xs, v = .ref a ∧ Rd H a (.dK xs) ∧ Paired (KVr Key K I h.next ad) xs kvs := by
  cases x with
  | d x =>
    cases x with
    | dk ds =>
      cases e
      cases (show Rep K I v (.dk ds) from r) with
      | dk hs hr =>
        rename_i a xs
        refine ⟨a, xs, rfl, ?_, repd_paired hr⟩
        rcases hh.up _ _ hs with z | ⟨_, o, z⟩
        · exact .inl z
        · exact .inr ⟨o, z⟩
    | _ => cases e
  | o i =>
    obtain ⟨l, ev⟩ := r
    have ob := hh.ob i l
    have e' : (match h.objs i with | .md kvs => some kvs | .lk (.md kvs) => some kvs | _ => none) = some kvs := e
    cases q : h.objs i with
    | md ws =>
      rw [q] at e' ob
      cases e'
      obtain ⟨xs, hx, p⟩ := ob
      exact ⟨_, xs, ev, .inl hx, p⟩
    | lk o =>
      cases o with
      | md ws =>
        rw [q] at e' ob
        cases e'
        obtain ⟨o, xs, hx, p⟩ := ob
        exact ⟨_, xs, ev, .inr ⟨o, hx⟩, p⟩
      | _ => rw [q] at e'; cases e'
    | _ => rw [q] at e'; cases e'
theorem keyD_ok {v : V} {d : Da} {k : Key} (r : Rep K I v d) (e : keyD d = some k) : v = kV k := by
  cases r <;> cases e <;> rfl
theorem getK_val {κ : Type} [DecidableEq κ] {n : Nat} {k : κ} : ∀ {xs : List (κ × V)} {kvs : List (κ × AV)}, Paired (KVr κ K I n ad) xs kvs → (valV xs k).isSome = (getK k kvs).isSome ∧ ∀ x, getK k kvs = some x → ∃ v, valV xs k = some v ∧ AVr K I n ad v x
  | _, _, .nil => ⟨rfl, fun _ e => nomatch e⟩
  | _, _, .cons (a := (f, v)) (b := (g, x)) a b => by
    obtain ⟨e, r⟩ := a
    have e' : f = g := e
    subst e'
    obtain ⟨h1, h2⟩ := getK_val (k := k) b
    by_cases z : f = k
    · rw [valV_pos z]
      show (some v).isSome = (if f = k then some x else _).isSome ∧ ∀ y, (if f = k then some x else _) = some y → _
      rw [if_pos z]
      exact ⟨rfl, fun y ey => by cases ey; exact ⟨v, rfl, r⟩⟩
    · rw [valV_neg z]
      show _ = (if f = k then some x else getK k _).isSome ∧ ∀ y, (if f = k then some x else getK k _) = some y → _
      rw [if_neg z]
      exact ⟨h1, h2⟩
theorem rd_get {a : Addr} {xs : List (Key × V)} {k : Key} (r : Rd H a (.dK xs)) : DGet H a (kV k) (valV xs k) := .inl ⟨xs, k, r, rfl, rfl⟩
/-! ### in -/
def gIN (neg : Bool) (a b : Da) : Option Da := match b with
  | .lst ds => (match flD a, flAll ds with
    | some v, some vs => some (.bl (neg ^^ inV v vs))
    | _, _ => if DL.shp a = true ∧ DL.shp (.lst ds) = true then some (.bl (neg ^^ (DL.pyL ds).any fun z => PyData.eqv z (DL.py a))) else none)
  | .tup ds => (match flD a, flAll ds with
    | some v, some vs => some (.bl (neg ^^ inV v vs))
    | _, _ => none)
  | .str z => (match a with
    | .str s => (match s.cps.toList with
      | [c] => some (.bl (neg ^^ decide (c ∈ z.cps.toList)))
      | _ => none)
    | _ => none)
  | _ => none
def fIN (neg : Bool) (x y : AV) (h : AHp) : Rs AV := match dctK h y with
  | some kvs => (match x with
    | .d a => (match keyD a with
      | some k => bV (neg ^^ (getK k kvs).isSome) h
      | none => .bad)
    | .o _ => .bad)
  | none => q2 (gIN neg) x y h
theorem flAll_noD : ∀ {ds : List Da} {vs : List V}, flAll ds = some vs → noDL ds = true
  | [], _, _ => rfl
  | d :: ds, vs, e => by
    rw [flAll_cons] at e
    cases e1 : flD d with
    | none => rw [e1] at e; cases e
    | some v =>
      cases e2 : flAll ds with
      | none => rw [e1, e2] at e; cases e
      | some vs => exact Bool.and_eq_true_iff.mpr ⟨flD_noD e1, flAll_noD e2⟩
theorem seq_in {neg : Bool} {v : V} {vs : List V} {a : Da} {y : DL.SK} {r : R2} (hr : r = rIn K neg) (fa : flD a = some v) (fs : vs.all flatV = true) (hy : ∀ {Lc : Addr → Prop} {J H : Hp} {σ : St} {F : List Addr} {δ : List DL.SK} {μ : DL.Mu}, DL.Sta K Lc J H σ δ μ F → ∀ u, DL.SOk K J (some u) y → ∃ p, u = .ref p ∧ (SqL K H p vs ∨ SqT K H p vs)) :
    DL.RR K r (.dat a) y [] [] (QD (.bl (neg ^^ inV v vs))) := fun Lc J H σ F s u w ou ow QQ p => by
  subst hr
  obtain ⟨q, e, hq⟩ := hy s w ow
  subst e
  have eu : u = v := flD_ok ou fa
  subst eu
  refine ⟨q, vs, rfl, hq, flat_flatV fa, fs, ?_⟩
  have pn := p.now (v := .bl (neg ^^ inV u vs)) (r := .dat (.bl (neg ^^ inV u vs))) s (Rep.bl _) ⟨rfl, rfl⟩
  cases neg with
  | false => simpa using pn
  | true => simpa using pn
theorem str_one {s : Str} {c : Nat} (e : s.cps.toList = [c]) : s = ⟨#[c]⟩ := by
  have h : s.cps = #[c] := by
    have := congrArg List.toArray e
    simpa using this
  cases s
  cases h
  rfl
theorem hIN (neg : Bool) : ∀ a b z, gIN neg a b = some z → DL.flat z = true ∧ noD a = true ∧ noD b = true ∧ DL.RR K (if neg then DL.rNIN K else DL.rIN K) (.dat a) (.dat b) [] [] (QD z) := fun a b z e => by
  unfold gIN at e
  split at e
  · rename_i ds
    split at e
    · rename_i v vs e1 e2
      cases e
      refine ⟨rfl, flD_noD e1, flAll_noD e2, ?_⟩
      have key := fun (r : R2) (hr : r = rIn K neg) => seq_in (neg := neg) (v := v) (vs := vs) (a := a) (y := .dat (.lst ds)) hr e1 (flatAll_flatV e2) fun {Lc J H σ F δ μ} s u ou => by
        have ou' : Rep K J u (.lst ds) := ou
        cases ou' with
        | lst hs hr => exact ⟨_, rfl, .inl (by rw [← flAll_ok hr e2]; exact SqL.of (s.ih _ _ hs))⟩
      cases neg with
      | false => exact DL.rr_or1 (key _ rfl)
      | true => exact DL.rr_or1 (key _ rfl)
    · split at e
      · rename_i hs
        cases e
        refine ⟨rfl, plain_noD _ (DL.shp_plain hs.1), plain_noD _ (DL.shp_plain hs.2), ?_⟩
        cases neg with
        | false => exact DL.in_d hs.1 hs.2 (by simp [QD])
        | true =>
          show DL.RR K (DL.rNIN K) _ _ _ _ _
          exact DL.rr_or2 (DL.rr_or2 (DL.rr_or2 fun Lc I H σ F s v w a b QQ p =>
            ⟨DL.py _, DL.pyL ds, DL.rep_dp s.ih a (DL.shp_plain hs.1), DL.rep_dp s.ih b (DL.shp_plain hs.2), DL.shp_shaped hs.1, DL.shp_shaped hs.2, p.now (v := .bl _) (r := .dat (.bl _)) s (Rep.bl _) (by simp [QD])⟩))
      · cases e
  · rename_i ds
    split at e
    · rename_i v vs e1 e2
      cases e
      refine ⟨rfl, flD_noD e1, flAll_noD e2, ?_⟩
      have key := fun (r : R2) (hr : r = rIn K neg) => seq_in (neg := neg) (v := v) (vs := vs) (a := a) (y := .dat (.tup ds)) hr e1 (flatAll_flatV e2) fun {Lc J H σ F δ μ} s u ou => by
        have ou' : Rep K J u (.tup ds) := ou
        cases ou' with
        | tup hs hr => exact ⟨_, rfl, .inr (by rw [← flAll_ok hr e2]; exact s.ih.t hs)⟩
      cases neg with
      | false => exact DL.rr_or1 (key _ rfl)
      | true => exact DL.rr_or1 (key _ rfl)
    · cases e
  · rename_i z2
    split at e
    · rename_i s
      split at e
      · rename_i c ec
        cases e
        have es := str_one ec
        subst es
        refine ⟨rfl, rfl, rfl, ?_⟩
        cases neg with
        | false => exact DL.in_sgn (by simp [QD])
        | true =>
          show DL.RR K (DL.rNIN K) _ _ _ _ _
          exact DL.rr_or2 (DL.rr_or1 fun Lc I H σ F s v w a b QQ p => by
            cases a
            cases b
            exact ⟨c, z2, rfl, rfl, p.now (v := .bl _) (r := .dat (.bl _)) s (Rep.bl _) (by simp [QD])⟩)
      · cases e
    · cases e
  · cases e
theorem sIN (neg : Bool) : SR2 K (if neg then DL.rNIN K else DL.rIN K) (fIN neg) := fun I H h ad hh v w x y rv rw QQ p => by
  unfold fIN at p
  cases e : dctK h y with
  | none => rw [e] at p; exact sr2_q (hIN neg) I H h ad hh v w x y rv rw QQ p
  | some kvs =>
    rw [e] at p
    cases x with
    | o i => exact p.elim
    | d a =>
      simp only at p
      cases e2 : keyD a with
      | none => rw [e2] at p; exact p.elim
      | some k =>
        rw [e2] at p
        obtain ⟨ad, xs, ew, hd, hp⟩ := dctK_ok hh e rw
        subst ew
        have ek := keyD_ok rv e2
        subst ek
        obtain ⟨h1, _⟩ := getK_val (k := k) hp
        have q := p.now hh (.bl (neg ^^ (getK k kvs).isSome)) (Rep.bl _)
        cases neg with
        | false =>
          refine .inr (.inr (.inl ⟨ad, valV xs k, rfl, rd_get hd, ?_⟩))
          rw [h1]; simpa using q
        | true =>
          refine .inr (.inr (.inl ⟨ad, valV xs k, rfl, rd_get hd, ?_⟩))
          rw [h1]; simpa using q
theorem sINp : SR2 K (DL.rIN K) (fIN false) := sIN false
theorem sNINp : SR2 K (DL.rNIN K) (fIN true) := sIN true
@[simp] theorem fIN_d (n : Bool) (x : AV) (d : Da) (h : AHp) (hd : ∀ kvs, d ≠ .dk kvs) : fIN n x (.d d) h = q2 (gIN n) x (.d d) h := by
  unfold fIN
  cases d <;> first | rfl | exact absurd rfl (hd _)
/-! ### subscripts -/
def fIX (x y : AV) (h : AHp) : Rs AV := match y with
  | .o _ => .bad
  | .d k => (match dctK h x with
    | some kvs => (match keyD k with
      | some k => ofO (getK k kvs) h
      | none => .bad)
    | none => (match k with
      | .int i => (match seqL h x with
        | some vs => ofO (atI vs i) h
        | none => (match seqT h x with
          | some vs => ofO (atI vs i) h
          | none => (match x with
            | .d (.str z) => if z.length ≤ 1000000 then ofO ((atI z.cps.toList i).map fun c => .d (.str ⟨#[c]⟩)) h else .bad
            | _ => .bad)))
      | _ => .bad))
theorem paired_at {α β : Type} {F : α → β → Prop} {l : List α} {m : List β} {i : Int} {b : β} (r : Paired F l m) (e : atI m i = some b) : ∃ a, atI l i = some a ∧ F a b := by
  unfold atI at e ⊢
  rw [plen r]
  cases q : ixN m.length i with
  | none => rw [q] at e; cases e
  | some j =>
    rw [q] at e
    exact paired_get r e
theorem ofO_now {α : Type} {o : Option α} {okk : Okk α} {exk : Exk} (hh : HH K I H h ad) (p : Pst K (ofO o h) I H h ad okk exk) : ∃ a, o = some a ∧ okk a I H h ad := by
  obtain ⟨a, e, q⟩ := opt_pst p
  exact ⟨a, e, q.now hh⟩
theorem sIX : SR2 K (DL.rIX K) fIX := fun I H h ad hh v w x y rv rw QQ p => by
  unfold fIX at p
  cases y with
  | o i => exact p.elim
  | d k =>
    simp only at p
    cases e : dctK h x with
    | some kvs =>
      rw [e] at p
      simp only at p
      cases e2 : keyD k with
      | none => rw [e2] at p; exact p.elim
      | some kk =>
        rw [e2] at p
        obtain ⟨u, eu, q⟩ := ofO_now hh p
        obtain ⟨a, xs, ew, hd, hp⟩ := dctK_ok hh e rv
        subst ew
        have ek := keyD_ok rw e2
        subst ek
        obtain ⟨z, hz, rz⟩ := (getK_val (k := kk) hp).2 u eu
        refine .inr ⟨a, z, rfl, ?_, q z rz⟩
        rw [← hz]; exact rd_get hd
    | none =>
      rw [e] at p
      simp only at p
      cases k with
      | int i =>
        simp only at p
        cases (show Rep K I w (.int i) from rw)
        cases e3 : seqL h x with
        | some vs =>
          rw [e3] at p
          obtain ⟨u, eu, q⟩ := ofO_now hh p
          obtain ⟨a, xs, ea, hs, hp⟩ := seqL_ok hh e3 rv
          obtain ⟨z, hz, rz⟩ := paired_at hp eu
          exact .inl (.inl ⟨a, xs, i, z, ea, rfl, hs, hz, q z rz⟩)
        | none =>
          rw [e3] at p
          simp only at p
          cases e4 : seqT h x with
          | some vs =>
            rw [e4] at p
            obtain ⟨u, eu, q⟩ := ofO_now hh p
            obtain ⟨a, xs, ea, hs, hp⟩ := seqT_ok hh e4 rv
            obtain ⟨z, hz, rz⟩ := paired_at hp eu
            exact .inl (.inr (.inl ⟨a, xs, i, z, ea, rfl, hs, hz, q z rz⟩))
          | none =>
            rw [e4] at p
            simp only at p
            cases x with
            | o j => exact p.elim
            | d x =>
              cases x with
              | str s =>
                simp only at p
                by_cases hl : s.length ≤ 1000000
                · rw [if_pos hl] at p
                  obtain ⟨u, eu, q⟩ := ofO_now hh p
                  cases ec : atI s.cps.toList i with
                  | none => rw [ec] at eu; cases eu
                  | some c =>
                    rw [ec] at eu
                    cases eu
                    cases (show Rep K I v (.str s) from rv)
                    exact .inl (.inr (.inr ⟨s, i, c, rfl, rfl, Nat.le_trans hl (by decide), ec, q _ (Rep.str _)⟩))
                · rw [if_neg hl] at p; exact p.elim
              | _ => exact p.elim
      | _ => exact p.elim
@[simp] theorem fIX_l (ds : List Da) (i : Int) (h : AHp) : fIX (.d (.lst ds)) (.d (.int i)) h = ofO (atI (ds.map AV.d) i) h := rfl
@[simp] theorem fIX_t (ds : List Da) (i : Int) (h : AHp) : fIX (.d (.tup ds)) (.d (.int i)) h = ofO (atI (ds.map AV.d) i) h := rfl
@[simp] theorem fIX_sc (ns : List Int) (i : Int) (h : AHp) : fIX (.d (.scr ns)) (.d (.int i)) h = ofO (atI (ns.map fun i => AV.d (.int i)) i) h := rfl
theorem fIX_s (z : Str) (i : Int) (h : AHp) (hl : z.length ≤ 1000000) : fIX (.d (.str z)) (.d (.int i)) h = ofO ((atI z.cps.toList i).map fun c => .d (.str ⟨#[c]⟩)) h := by
  show (if z.length ≤ 1000000 then _ else Rs.bad) = _
  rw [if_pos hl]
@[simp] theorem fIX_k (kvs : List (Key × Da)) (k : Da) (kk : Key) (hk : keyD k = some kk) (h : AHp) : fIX (.d (.dk kvs)) (.d k) h = ofO (getK kk (kvs.map fun (p : Key × Da) => (p.1, AV.d p.2))) h := by
  show (match keyD k with | some k => ofO (getK k (kvs.map fun (p : Key × Da) => (p.1, AV.d p.2))) h | none => Rs.bad) = _
  rw [hk]
theorem fIX_ol {h : AHp} {j : Nat} {vs : List AV} (e : h.objs j = .ml vs) (i : Int) : fIX (.o j) (.d (.int i)) h = ofO (atI vs i) h := by
  have e1 : dctK h (.o j) = none := by show (match h.objs j with | .md kvs => some kvs | .lk (.md kvs) => some kvs | _ => none) = none; rw [e]
  unfold fIX
  simp only [e1, seqL_o e]
theorem fIX_om {h : AHp} {j : Nat} {kvs : List (Key × AV)} (e : h.objs j = .md kvs) {k : Da} {kk : Key} (hk : keyD k = some kk) : fIX (.o j) (.d k) h = ofO (getK kk kvs) h := by
  have e1 : dctK h (.o j) = some kvs := by show (match h.objs j with | .md kvs => some kvs | .lk (.md kvs) => some kvs | _ => none) = _; rw [e]
  unfold fIX
  simp only [e1, hk]
/-! ### len -/
def fLEN (xs : List AV) (h : AHp) : Rs AV := match xs with
  | [x] => (match seqL h x with
    | some vs => .ok (.d (.int vs.length)) h
    | none => (match seqT h x with
      | some vs => .ok (.d (.int vs.length)) h
      | none => (match x with
        | .d (.str z) => if z.length ≤ 1000000 then .ok (.d (.int z.length)) h else .bad
        | .d (.dk kvs) => if h.lk = false then .ok (.d (.int kvs.length)) h else .bad
        | .o i => (match h.objs i with
          | .md kvs => .ok (.d (.int kvs.length)) h
          | _ => .bad)
        | _ => .bad)))
  | _ => .bad
theorem repd_len {J : Hp} : ∀ {xs : List (Key × V)} {ds : List (Key × Da)}, RepD K J xs ds → xs.length = ds.length
  | _, _, .nil => rfl
  | _, _, .cons _ t => by simp [repd_len t]
theorem sLEN : SRC K (DL.rLEN K) fLEN := fun I H h ad hh vs xs rv QQ p => by
  unfold fLEN at p
  match xs, vs, rv, p with
  | [], _, _, p => exact p.elim
  | _ :: _ :: _, _, _, p => exact p.elim
  | [x], [v], .cons r .nil, p =>
    simp only at p
    cases e3 : seqL h x with
    | some ys =>
      rw [e3] at p
      obtain ⟨a, zs, ea, hs, hp⟩ := seqL_ok hh e3 r
      subst ea
      refine .inl ⟨.ref a, zs.length, rfl, .inl ⟨zs, hs, rfl⟩, ?_⟩
      rw [plen hp]
      exact p.now hh _ (Rep.int _)
    | none =>
      rw [e3] at p
      simp only at p
      cases e4 : seqT h x with
      | some ys =>
        rw [e4] at p
        obtain ⟨a, zs, ea, hs, hp⟩ := seqT_ok hh e4 r
        subst ea
        refine .inl ⟨.ref a, zs.length, rfl, .inr ⟨zs, hs, rfl⟩, ?_⟩
        rw [plen hp]
        exact p.now hh _ (Rep.int _)
      | none =>
        rw [e4] at p
        simp only at p
        cases x with
        | o i =>
          obtain ⟨l, ev⟩ := r
          simp only at p
          have ob := hh.ob i l
          cases q : h.objs i with
          | md kvs =>
            rw [q] at p ob
            obtain ⟨ys, hx, hp⟩ := ob
            subst ev
            refine .inr ⟨_, ys, rfl, hx, ?_⟩
            rw [plen hp]
            exact p.now hh _ (Rep.int _)
          | _ => rw [q] at p; exact p.elim
        | d x =>
          cases x with
          | str s =>
            simp only at p
            by_cases hl : s.length ≤ 1000000
            · rw [if_pos hl] at p
              cases (show Rep K I v (.str s) from r)
              exact .inl ⟨_, s.length, rfl, ⟨Nat.le_trans hl (by decide), rfl⟩, p.now hh _ (Rep.int _)⟩
            · rw [if_neg hl] at p; exact p.elim
          | dk kvs =>
            simp only at p
            cases hl : h.lk with
            | true => rw [hl] at p; simp only [Bool.true_eq_false, if_false] at p; exact p.elim
            | false =>
              rw [hl] at p
              simp only [if_true] at p
              cases (show Rep K I v (.dk kvs) from r) with
              | dk hs hr =>
                refine .inr ⟨_, _, rfl, hh.exa hl _ _ hs, ?_⟩
                rw [repd_len hr]
                exact p.now hh _ (Rep.int _)
          | _ => exact p.elim
@[simp] theorem fLEN_l (ds : List Da) (h : AHp) : fLEN [.d (.lst ds)] h = .ok (.d (.int ds.length)) h := by simp [fLEN]
@[simp] theorem fLEN_t (ds : List Da) (h : AHp) : fLEN [.d (.tup ds)] h = .ok (.d (.int ds.length)) h := by simp [fLEN]
@[simp] theorem fLEN_sc (ns : List Int) (h : AHp) : fLEN [.d (.scr ns)] h = .ok (.d (.int ns.length)) h := by simp [fLEN]
theorem fLEN_s {z : Str} (hl : z.length ≤ 1000000) (h : AHp) : fLEN [.d (.str z)] h = .ok (.d (.int z.length)) h := by
  show (if z.length ≤ 1000000 then _ else Rs.bad) = _
  rw [if_pos hl]
theorem fLEN_k {h : AHp} (hl : h.lk = false) (kvs : List (Key × Da)) : fLEN [.d (.dk kvs)] h = .ok (.d (.int kvs.length)) h := by
  show (if h.lk = false then _ else Rs.bad) = _
  rw [if_pos hl]
theorem fLEN_ol {h : AHp} {j : Nat} {vs : List AV} (e : h.objs j = .ml vs) : fLEN [.o j] h = .ok (.d (.int vs.length)) h := by
  unfold fLEN
  simp only [seqL_o e]
theorem fLEN_om {h : AHp} {j : Nat} {kvs : List (Key × AV)} (e : h.objs j = .md kvs) : fLEN [.o j] h = .ok (.d (.int kvs.length)) h := by
  have e1 : seqL h (.o j) = none := by show (match h.objs j with | .ml vs => some vs | _ => none) = none; rw [e]
  have e2 : seqT h (.o j) = none := by show (match h.objs j with | .tu vs => some vs | _ => none) = none; rw [e]
  unfold fLEN
  simp only [e1, e2, e]
end
end EL
/-! Concatenation, slices, what changes lists and dicts; makings of tuples and lists; isinstance and the small calls. -/
namespace EL
open PySem L2
open DL (Da Rep RepL RepF RepK RepD RepT Ex)
def lstV (h : AHp) : AV → Option (List AV)
  | .d (.lst ds) => some (ds.map .d)
  | .o i => match h.objs i with
    | .ml vs => some vs
    | _ => none
  | _ => none
@[simp] theorem lstV_l (h : AHp) (ds : List Da) : lstV h (.d (.lst ds)) = some (ds.map .d) := rfl
theorem lstV_o {h : AHp} {i : Nat} {vs : List AV} (e : h.objs i = .ml vs) : lstV h (.o i) = some vs := by
  show (match h.objs i with | .ml vs => some vs | _ => none) = some vs
  rw [e]
@[simp] theorem put_objs (h : AHp) (i : Nat) (o : AO) : (put h i o).objs i = o := if_pos rfl
theorem put_ne (h : AHp) {i j : Nat} (o : AO) (z : j ≠ i) : (put h i o).objs j = h.objs j := if_neg z
@[simp] theorem put_next (h : AHp) (i : Nat) (o : AO) : (put h i o).next = h.next := rfl
@[simp] theorem put_lk (h : AHp) (i : Nat) (o : AO) : (put h i o).lk = h.lk := rfl
@[simp] theorem alloc_objs (h : AHp) (o : AO) : (alloc h o).objs h.next = o := if_pos rfl
theorem alloc_ne (h : AHp) {j : Nat} (o : AO) (z : j ≠ h.next) : (alloc h o).objs j = h.objs j := if_neg z
@[simp] theorem alloc_next (h : AHp) (o : AO) : (alloc h o).next = h.next + 1 := rfl
@[simp] theorem alloc_lk (h : AHp) (o : AO) : (alloc h o).lk = h.lk := rfl
@[simp] theorem put_put (h : AHp) (i : Nat) (o u : AO) : put (put h i o) i u = put h i u := by
  unfold put
  simp only [AHp.mk.injEq, true_and, and_true]
  funext j
  by_cases z : j = i <;> simp [z]
@[simp] theorem put_alloc (h : AHp) (o u : AO) : put (alloc h o) h.next u = alloc h u := by
  unfold put alloc
  simp only [AHp.mk.injEq, true_and, and_true]
  funext j
  by_cases z : j = h.next <;> simp [z]
theorem alloc_gone {h : AHp} (w : h.wf) : alloc h .gone = bump h 1 := by
  unfold alloc bump
  simp only [AHp.mk.injEq, true_and, and_true]
  funext j
  by_cases z : j = h.next
  · rw [if_pos z, z, w _ (Nat.le_refl _)]
  · rw [if_neg z]
@[simp] theorem bump_objs (h : AHp) (m : Nat) : (bump h m).objs = h.objs := rfl
@[simp] theorem bump_next (h : AHp) (m : Nat) : (bump h m).next = h.next + m := rfl
@[simp] theorem bump_lk (h : AHp) (m : Nat) : (bump h m).lk = h.lk := rfl
@[simp] theorem bump_bump (h : AHp) (m k : Nat) : bump (bump h m) k = bump h (m + k) := by unfold bump; simp [Nat.add_assoc]
@[simp] theorem bump_0 (h : AHp) : bump h 0 = h := rfl
theorem bump_wf {h : AHp} (w : h.wf) (m : Nat) : (bump h m).wf := fun i l => w i (by have : h.next + m ≤ i := l; omega)
section
variable {K : PySem.W.Frag} {W : WX} {I H I' H' I1 H1 : Hp} {h h' h1 : AHp} {ad ad' ad1 : Nat → Addr} {σ : St} {env : Env} {te ta tb : TE} {e ev : EvX} {er : EvA} {tr : TA}
theorem lstV_ok (hh : HH K I H h ad) {v : V} {x : AV} {vs : List AV} (e : lstV h x = some vs) (r : AVr K I h.next ad v x) : ∃ a xs, v = .ref a ∧ H a = some (.lst xs) ∧ Paired (AVr K I h.next ad) xs vs := by
  cases x with
  | o i =>
    obtain ⟨l, ev⟩ := r
    have e' : (match h.objs i with | .ml vs => some vs | _ => none) = some vs := e
    have ob := hh.ob i l
    cases q : h.objs i with
    | ml ws =>
      rw [q] at e' ob
      cases e'
      obtain ⟨xs, hx, p⟩ := ob
      exact ⟨_, xs, ev, hx, p⟩
    | _ => rw [q] at e'; cases e'
  | d x =>
    cases x with
    | lst ds =>
      cases e
      cases (show Rep K I v (.lst ds) from r) with
      | lst hs hr => exact ⟨_, _, rfl, hh.up.plain hs rfl, repl_paired hr⟩
    | _ => cases e
/-! ### + -/
def fADD (x y : AV) (h : AHp) : Rs AV := match lstV h x, lstV h y with
  | some vs, some ws => lim (vs ++ ws) (mkL (vs ++ ws) h)
  | _, _ => (match x, y with
    | .d (.tup (a :: as)), .d (.tup (b :: bs)) => if (a :: as).length + (b :: bs).length ≤ 100000 then .ok (.d (.tup ((a :: as) ++ (b :: bs)))) h else .bad
    | _, _ => q2 gADD x y h)
theorem sADD : SR2 K (DL.rADD K) fADD := fun I H h ad hh v w x y rv rw QQ p => by
  unfold fADD at p
  cases e1 : lstV h x with
  | some vs =>
    cases e2 : lstV h y with
    | some ws =>
      rw [e1, e2] at p
      obtain ⟨hl, p2⟩ := lim_pst p
      obtain ⟨a, xs, ea, hx, hp⟩ := lstV_ok hh e1 rv
      obtain ⟨b, ys, eb, hy, hp2⟩ := lstV_ok hh e2 rw
      refine .inr (.inr (.inl ⟨a, b, xs, ys, ea, eb, hx, hy, ?_, fun c hc => mkL_pst hh (paired_app hp hp2) hc p2⟩))
      rw [plen hp, plen hp2]
      exact sz_le (by simpa using hl)
    | none =>
      rw [e1, e2] at p
      simp only at p
      split at p
      · cases e1
      · exact sr2_q hADD I H h ad hh v w x y rv rw QQ p
  | none =>
    rw [e1] at p
    simp only at p
    split at p
    · rename_i a as b bs
      split at p
      · rename_i hl
        cases (show Rep K I v (.tup (a :: as)) from rv) with
        | tup hs hr =>
          cases (show Rep K I w (.tup (b :: bs)) from rw) with
          | tup hs2 hr2 =>
            rename_i p1 xs p2 ys
            have l1 := DL.repl_len hr
            have l2 := DL.repl_len hr2
            refine .inr (.inr (.inr ⟨p1, p2, xs, ys, rfl, rfl, up_t hh.up hs, up_t hh.up hs2, (fun z => by rw [z] at l1; cases l1), ?_, (fun z => by rw [z] at l2; cases l2), fun _ c hc => ?_⟩))
            · rw [l1, l2]; exact sz_le hl
            · obtain ⟨a1, b1⟩ := hh.newD (u := .tup (xs ++ ys)) hc
              exact p _ _ _ b1 a1 (.ref c) (Rep.tup (SqT.of upd_same) (DL.repl_cat (hr.mono b1.ii) (hr2.mono b1.ii)))
      · exact p.elim
    · exact sr2_q hADD I H h ad hh v w x y rv rw QQ p
@[simp] theorem fADD_i (i j : Int) (h : AHp) : fADD (.d (.int i)) (.d (.int j)) h = .ok (.d (.int (i + j))) h := rfl
@[simp] theorem fADD_l (a b : List Da) (h : AHp) (hl : a.length + b.length ≤ 100000) : fADD (.d (.lst a)) (.d (.lst b)) h = .ok (.d (.lst (a ++ b))) h := by
  show lim (a.map AV.d ++ b.map AV.d) (mkL (a.map AV.d ++ b.map AV.d) h) = _
  rw [← List.map_append, mkL_d]
  unfold lim
  rw [if_pos (by simpa using hl)]
@[simp] theorem fADD_s (a b : Str) (h : AHp) (hl : a.length + b.length ≤ 1000000) : fADD (.d (.str a)) (.d (.str b)) h = .ok (.d (.str (a ++ b))) h := by
  have e : fADD (.d (.str a)) (.d (.str b)) h = q2 gADD (.d (.str a)) (.d (.str b)) h := rfl
  rw [e, q2_d, gADD_s, if_pos hl]
/-! ### * -/
def fMUL (x y : AV) (h : AHp) : Rs AV := match x, y with
  | .d (.lst ds), .d (.int k) => if 0 ≤ k ∧ k ≤ 1000 ∧ ds.length * k.toNat ≤ 100000 then .ok (.d (.lst (List.replicate k.toNat ds).flatten)) h else .bad
  | _, _ => fMUL0 x y h
theorem repl_flat' {J : Hp} {vs : List V} {ds : List Da} (r : RepL K J vs ds) (k : Nat) : RepL K J (List.replicate k vs).flatten (List.replicate k ds).flatten := DL.repl_flat r k
theorem sMUL : SR2 K DL.rMUL fMUL := fun I H h ad hh v w x y rv rw QQ p => by
  unfold fMUL at p
  split at p
  · rename_i ds k
    split at p
    · rename_i hl
      cases (show Rep K I v (.lst ds) from rv) with
      | lst hs hr =>
        rename_i a xs
        cases (show Rep K I w (.int k) from rw)
        refine .inr ⟨a, k, xs, rfl, rfl, hh.up.plain hs rfl, by omega, by omega, ?_, fun c hc => ?_⟩
        · rw [DL.repl_len hr]; exact sz_le hl.2.2
        · obtain ⟨a1, b1⟩ := hh.newD (u := .lst (List.replicate k.toNat xs).flatten) hc
          exact p _ _ _ b1 a1 (.ref c) (Rep.lst upd_same (repl_flat' (hr.mono b1.ii) _))
    · exact p.elim
  · exact sMUL0 I H h ad hh v w x y rv rw QQ p
@[simp] theorem fMUL_i (i j : Int) (h : AHp) : fMUL (.d (.int i)) (.d (.int j)) h = if CMulX i j then .ok (.d (.int (i * j))) h else .bad := by
  have e : fMUL (.d (.int i)) (.d (.int j)) h = fMUL0 (.d (.int i)) (.d (.int j)) h := rfl
  rw [e]
  show (match gI CMulX (fun i j => .int (i * j)) (.int i) (.int j) with | some z => Rs.ok (AV.d z) h | none => .bad) = _
  rw [gI_i]
  by_cases c : CMulX i j <;> simp [c]
/-! ### slices -/
def evO (e : Option EvX) : Env → AHp → Rs (Option Int) := fun env h => match e with
  | none => .ok none h
  | some e => (e env h).bind fun v h1 => match v with
    | .d (.int i) => .ok (some i) h1
    | _ => .bad
def SO (K : PySem.W.Frag) (W : WX) (to : TO) (ev : Env → AHp → Rs (Option Int)) : Prop :=
  ∀ I H h ad σ env, HH K I H h ad → SLr K I h.next ad σ env → ∀ QQ : Option Int → Hp → Prop, Pst K (ev env h) I H h ad (fun b I' H' h' ad' => QQ b H') (fun C dx H' => W (.ref C) (some dx) σ H') → to σ H QQ
theorem so_no : SO K W tNoPart (evO none) := fun I H h ad σ env hh sl QQ p => p.now hh
theorem so_at (he : SX K W te e) : SO K W (tPart te) (evO (some e)) := fun I H h ad σ env hh sl QQ p =>
  he I H h ad σ env hh sl _ <| Pst.imp (Pst.bind p) (fun v I1 H1 h1 ad1 g1 hh1 p1 w rw => by
    split at p1
    · cases (show Rep K I1 w (.int _) from rw)
      exact ⟨_, rfl, p1.now hh1⟩
    · exact p1.elim) fun _ _ _ z => z
def cutA {α : Type} (ds : List α) (lo hi : Option Int) : List α := (ds.drop (HT.sIx ds.length 0 lo)).take (HT.sIx ds.length ds.length hi - HT.sIx ds.length 0 lo)
def fSL (x : AV) (lo hi : Option Int) (h : AHp) : Rs AV := match seqL h x with
  | some vs => mkL (cutA vs lo hi) h
  | none => (match x with
    | .d (.str z) => if z.length ≤ 1000000 then .ok (.d (.str (cutS z lo hi))) h else .bad
    | .d (.tup ds) => if HT.sIx ds.length 0 lo = 0 ∧ HT.sIx ds.length ds.length hi = ds.length then .bad else .ok (.d (.tup (cutA ds lo hi))) h
    | _ => .bad)
def evSl (e : EvX) (lo hi : Option EvX) : EvX := fun env h => (e env h).bind fun x h1 => (evO lo env h1).bind fun l h2 => (evO hi env h2).bind fun u h3 => noex (fSL x l u h3)
theorem paired_drop {α β : Type} {F : α → β → Prop} : ∀ {l : List α} {m : List β} (n : Nat), Paired F l m → Paired F (l.drop n) (m.drop n)
  | _, _, 0, h => h
  | _, _, _ + 1, .nil => .nil
  | _, _, n + 1, .cons _ t => paired_drop n t
theorem paired_take {α β : Type} {F : α → β → Prop} : ∀ {l : List α} {m : List β} (n : Nat), Paired F l m → Paired F (l.take n) (m.take n)
  | _, _, 0, _ => .nil
  | _, _, _ + 1, .nil => .nil
  | _, _, n + 1, .cons a t => .cons a (paired_take n t)
abbrev rSLX (K : PySem.W.Frag) : V → Option Int → Option Int → Hp → VK → Prop := fun x lo hi H Q => DL.rSL K x lo hi H Q ∨ rSlT K x lo hi H Q
theorem slX {X : Cx} : SlR X (rSLX X.K) := SlR.or DL.slANY sl_tup
theorem sx_sl {tl th : TO} {lo hi : Option EvX} (he : SX K W te e) (hl : SO K W tl (evO lo)) (hu : SO K W th (evO hi)) : SX K W (tSl (rSLX K) te tl th) (evSl e lo hi) := fun I H h ad σ env hh sl QQ p =>
  he I H h ad σ env hh sl _ <| Pst.imp (Pst.bind p) (fun x I1 H1 h1 ad1 g1 hh1 p1 v rv =>
    hl I1 H1 h1 ad1 σ env hh1 (sl.goes g1) _ <| Pst.imp (Pst.bind p1) (fun l I2 H2 h2 ad2 g2 hh2 p2 =>
      hu I2 H2 h2 ad2 σ env hh2 ((sl.goes g1).goes g2) _ <| Pst.imp (Pst.bind p2) (fun u I3 H3 h3 ad3 g3 hh3 p3 => by
        have r := (rv.goes g2).goes g3
        have p4 := Pst.noex (exk' := fun _ _ _ => False) p3
        unfold fSL at p4
        cases e1 : seqL h3 x with
        | some vs =>
          rw [e1] at p4
          obtain ⟨a, xs, ea, hs, hp⟩ := seqL_ok hh3 e1 r
          refine .inl (.inl ⟨a, xs, ea, hs, fun c hc => ?_⟩)
          have hp2 : Paired (AVr K I3 h3.next ad3) (cutV xs l u) (cutA vs l u) := by
            unfold cutV cutA
            rw [plen hp]
            exact paired_take _ (paired_drop _ hp)
          exact mkL_pst hh3 hp2 hc p4
        | none =>
          rw [e1] at p4
          cases x with
          | o i => exact p4.elim
          | d x =>
            cases x with
            | str z =>
              simp only at p4
              by_cases hz : z.length ≤ 1000000
              · rw [if_pos hz] at p4
                cases (show Rep K I3 v (.str z) from r)
                exact .inl (.inr ⟨z, rfl, Nat.le_trans hz (by decide), p4.now hh3 _ (Rep.str _)⟩)
              · rw [if_neg hz] at p4; exact p4.elim
            | tup ds =>
              simp only at p4
              split at p4
              · exact p4.elim
              · rename_i hn
                cases (show Rep K I3 v (.tup ds) from r) with
                | tup hs hr =>
                  rename_i a xs
                  have hl := DL.repl_len hr
                  refine .inr ⟨a, xs, rfl, up_t hh3.up hs, by rw [hl]; exact hn, fun c hc => ?_⟩
                  obtain ⟨a1, b1⟩ := hh3.newD (u := .tup (cutV xs l u)) hc
                  have rc : ∀ J, Ex I3 J → RepL K J (cutV xs l u) (cutA ds l u) := fun J ej => by
                    unfold cutV cutA
                    rw [hl]
                    exact DL.repl_take _ (DL.repl_drop _ (hr.mono ej))
                  exact p4 _ _ _ b1 a1 (.ref c) (Rep.tup (SqT.of upd_same) (rc _ b1.ii))
            | _ => exact p4.elim) fun _ _ _ z => z) fun _ _ _ z => z) fun _ _ _ z => z
@[simp] theorem fSL_l (ds : List Da) (lo hi : Option Int) (h : AHp) : fSL (.d (.lst ds)) lo hi h = .ok (.d (.lst (cutA ds lo hi))) h := by
  show mkL (cutA (ds.map AV.d) lo hi) h = _
  have : cutA (ds.map AV.d) lo hi = (cutA ds lo hi).map AV.d := by
    unfold cutA
    rw [List.length_map, List.map_take, List.map_drop]
  rw [this, mkL_d]
theorem fSL_s {z : Str} (hl : z.length ≤ 1000000) (lo hi : Option Int) (h : AHp) : fSL (.d (.str z)) lo hi h = .ok (.d (.str (cutS z lo hi))) h := by
  show (if z.length ≤ 1000000 then _ else Rs.bad) = _
  rw [if_pos hl]
/-- xs[::-1] -/
def fREV (x : AV) (h : AHp) : Rs AV := match seqL h x with
  | some vs => mkL vs.reverse h
  | none => .bad
theorem paired_rev {α β : Type} {F : α → β → Prop} : ∀ {l : List α} {m : List β}, Paired F l m → Paired F l.reverse m.reverse
  | _, _, .nil => .nil
  | _, _, .cons a t => by
    rw [List.reverse_cons, List.reverse_cons]
    exact paired_app (paired_rev t) (.cons a .nil)
theorem sx_revL (he : SX K W te e) : SX K W (tRevL K te) (evUn fREV e) := fun I H h ad σ env hh sl QQ p =>
  he I H h ad σ env hh sl _ <| Pst.imp (Pst.bind p) (fun x I1 H1 h1 ad1 g1 hh1 p1 v rv => by
    have p4 := Pst.noex (exk' := fun _ _ _ => False) p1
    unfold fREV at p4
    cases e1 : seqL h1 x with
    | none => rw [e1] at p4; exact p4.elim
    | some vs =>
      rw [e1] at p4
      obtain ⟨a, xs, ea, hs, hp⟩ := seqL_ok hh1 e1 rv
      exact ⟨a, xs, ea, hs, fun c hc => mkL_pst hh1 (paired_rev hp) hc p4⟩) fun _ _ _ z => z
@[simp] theorem fREV_l (ds : List Da) (h : AHp) : fREV (.d (.lst ds)) h = .ok (.d (.lst ds.reverse)) h := by
  show mkL (ds.map AV.d).reverse h = _
  rw [← List.map_reverse, mkL_d]
/-! ### append, clear -/
def fAPP (x : AV) (ys : List AV) (h : AHp) : Rs AV := match x, ys with
  | .o i, [y] => (match h.objs i with
    | .ml vs => if vs.length < 100000 then .ok (.d .non) (put h i (.ml (vs ++ [y]))) else .bad
    | _ => .bad)
  | _, _ => .bad
/-- a method of a list -/
def evBML (f : AV → List AV → AHp → Rs AV) (eo : EvX) (er : EvA) : EvX := fun env h => (eo env h).bind fun x h1 => match seqL h1 x with
  | some _ => (er env h1).bind fun ys h2 => noex (f x ys h2)
  | none => .bad
def SRM (K : PySem.W.Frag) (r : V → List V → Hp → VK → Prop) (f : AV → List AV → AHp → Rs AV) : Prop :=
  ∀ I H h ad, HH K I H h ad → ∀ v x ws ys, AVr K I h.next ad v x → Paired (AVr K I h.next ad) ws ys → ∀ QQ : VK, Pst K (f x ys h) I H h ad (fun z I' H' h' ad' => ∀ u, AVr K I' h'.next ad' u z → QQ u H') (fun _ _ _ => False) → r v ws H QQ
theorem sx_bml {r : V → List V → Hp → VK → Prop} {f : AV → List AV → AHp → Rs AV} (hf : SRM K r f) (he : SX K W te e) (hr : SA K W tr er) : SX K W (tBM K "list" r te tr) (evBML f e er) := fun I H h ad σ env hh sl QQ p =>
  he I H h ad σ env hh sl _ <| Pst.imp (Pst.bind p) (fun x I1 H1 h1 ad1 g1 hh1 p1 v rv => by
    cases e1 : seqL h1 x with
    | none => rw [e1] at p1; exact p1.elim
    | some vs =>
      rw [e1] at p1
      obtain ⟨a, xs, ea, hs, hp⟩ := seqL_ok hh1 e1 rv
      subst ea
      refine ⟨.inl ⟨rfl, xs, hs⟩, hr I1 H1 h1 ad1 σ env hh1 (sl.goes g1) _ <| Pst.imp (Pst.bind p1) (fun ys I2 H2 h2 ad2 g2 hh2 p2 ws rws => ?_) fun _ _ _ z => z⟩
      exact hf I2 H2 h2 ad2 hh2 _ x ws ys (rv.goes g2) rws QQ (Pst.noex (exk' := fun _ _ _ => False) p2)) fun _ _ _ z => z
theorem sAPP : SRM K rAppend fAPP := fun I H h ad hh v x ws ys rv rws QQ p => by
  unfold fAPP at p
  split at p
  · rename_i i y
    obtain ⟨l, ev⟩ := rv
    subst ev
    obtain ⟨w, ew, rw'⟩ := pair1 rws
    subst ew
    have ob := hh.ob i l
    cases q : h.objs i with
    | ml vs =>
      rw [q] at p ob
      obtain ⟨xs, hx, hp⟩ := ob
      simp only at p
      by_cases hl : vs.length < 100000
      · rw [if_pos hl] at p
        refine ⟨_, xs, w, rfl, rfl, hx, by rw [plen hp]; exact Nat.lt_of_lt_of_le hl (by decide : 100000 ≤ sizeLine), ?_⟩
        obtain ⟨a1, b1⟩ := hh.put (u := .lst (xs ++ [w])) (o := .ml (vs ++ [y])) l (by rw [q]; rfl) ⟨_, upd_same, paired_app hp (.cons rw' .nil)⟩ rfl
        exact p _ _ _ b1 a1 _ Rep.non
      · rw [if_neg hl] at p; exact p.elim
    | _ => rw [q] at p; exact p.elim
  · exact p.elim
theorem fAPP_o {h : AHp} {i : Nat} {vs : List AV} (e : h.objs i = .ml vs) (hl : vs.length < 100000) (y : AV) : fAPP (.o i) [y] h = .ok (.d .non) (put h i (.ml (vs ++ [y]))) := by
  show (match h.objs i with | .ml vs => if vs.length < 100000 then Rs.ok (AV.d .non) (put h i (.ml (vs ++ [y]))) else .bad | _ => .bad) = _
  rw [e]
  exact if_pos hl
/-! ### stores to places -/
abbrev SetF := AV → AV → AV → AHp → Rs Unit
def SSet (K : PySem.W.Frag) (t : TSet) (f : SetF) : Prop :=
  ∀ I H h ad, HH K I H h ad → ∀ o i v xo xi xv, AVr K I h.next ad o xo → AVr K I h.next ad i xi → AVr K I h.next ad v xv → ∀ Q : Hp → Prop, Pst K (f xo xi xv h) I H h ad (fun _ I' H' h' ad' => Q H') (fun _ _ _ => False) → t o i v H Q
def tgSub (f : SetF) (eo ei : EvX) : EvG := fun v env h => (eo env h).bind fun o h1 => (ei env h1).bind fun i h2 => (noex (f o i v h2)).bind fun _ h3 => .ok env h3
theorem sg_sub {t : TSet} {f : SetF} {to ti : TE} {eo ei : EvX} (hf : SSet K t f) (ho : SX K W to eo) (hi : SX K W ti ei) : SG K W (gSub to ti t) (tgSub f eo ei) := fun I H h ad σ env hh sl v x rv QQ p =>
  ho I H h ad σ env hh sl _ <| Pst.imp (Pst.bind p) (fun o I1 H1 h1 ad1 g1 hh1 p1 vo ro =>
    hi I1 H1 h1 ad1 σ env hh1 (sl.goes g1) _ <| Pst.imp (Pst.bind p1) (fun i I2 H2 h2 ad2 g2 hh2 p2 vi ri =>
      hf I2 H2 h2 ad2 hh2 vo vi v o i x (ro.goes g2) ri ((rv.goes g1).goes g2) _ <| Pst.noex <| Pst.imp (Pst.bind p2) (fun _ I3 H3 h3 ad3 g3 hh3 p3 => p3.now hh3 σ (((sl.goes g1).goes g2).goes g3)) fun _ _ _ z => z) fun _ _ _ z => z) fun _ _ _ z => z
def putA {κ α : Type} [DecidableEq κ] (kvs : List (κ × α)) (k : κ) (v : α) : List (κ × α) :=
  if (getK k kvs).isSome then kvs.map (fun kv => if kv.1 = k then (kv.1, v) else kv) else kvs ++ [(k, v)]
def fSET (o i v : AV) (h : AHp) : Rs Unit := match o with
  | .o j => (match h.objs j, i with
    | .ml vs, .d (.int k) => (match ixN vs.length k with
      | some n => .ok () (put h j (.ml (vs.set n v)))
      | none => .bad)
    | .md kvs, .d k => (match keyD k with
      | some k => if kvs.length < 100000 then .ok () (put h j (.md (putA kvs k v))) else .bad
      | none => .bad)
    | _, _ => .bad)
  | _ => .bad
def rSETX : TSet := fun o i v H Q => rSetL o i v H Q ∨ rSetD o i v H Q
theorem set_X {X : Cx} (hu : X.A.units + 1 < cLine) : PSet X rSETX := fun pins s σ H o i v ov iv u Q I ro ri rv h => by
  rcases h with h | h
  · exact set_list pins s σ H o i v ov iv u Q I ro ri rv h
  · exact set_dict hu pins s σ H o i v ov iv u Q I ro ri rv h
theorem pany {κ : Type} [DecidableEq κ] {n : Nat} {k : κ} {xs : List (κ × V)} {kvs : List (κ × AV)} (r : Paired (KVr κ K I n ad) xs kvs) : (xs.any fun kv => decide (kv.1 = k)) = (getK k kvs).isSome := by
  rw [valV_any]
  exact (getK_val r).1
theorem pput {κ : Type} [DecidableEq κ] {n : Nat} {k : κ} {v : V} {x : AV} (rv : AVr K I n ad v x) {xs : List (κ × V)} {kvs : List (κ × AV)} (r : Paired (KVr κ K I n ad) xs kvs) : Paired (KVr κ K I n ad) (putK xs k v) (putA kvs k x) := by
  unfold putK putA
  rw [pany r]
  by_cases z : (getK k kvs).isSome = true
  · rw [if_pos z, if_pos z]
    clear z
    induction r with
    | nil => exact .nil
    | @cons p q l1 l2 a t ih =>
      obtain ⟨f, u⟩ := p
      obtain ⟨g, y⟩ := q
      obtain ⟨e, ra⟩ := a
      have e' : f = g := e
      subst e'
      rw [List.map_cons, List.map_cons]
      by_cases y : f = k
      · simp only [y, if_true]
        exact .cons ⟨rfl, rv⟩ (by simpa [y] using ih)
      · simp only [y, if_false]
        exact .cons ⟨rfl, ra⟩ ih
  · rw [if_neg z, if_neg z]
    exact paired_app r (.cons ⟨rfl, rv⟩ .nil)
theorem sSET : SSet K rSETX fSET := fun I H h ad hh o i v xo xi xv ro ri rv Q p => by
  unfold fSET at p
  cases xo with
  | d _ => exact p.elim
  | o j =>
    obtain ⟨l, ev⟩ := ro
    subst ev
    have ob := hh.ob j l
    simp only at p
    split at p
    · rename_i vs k q
      rw [q] at ob
      obtain ⟨xs, hx, hp⟩ := ob
      cases (show Rep K I i (.int k) from ri)
      cases e : ixN vs.length k with
      | none => rw [e] at p; exact p.elim
      | some n =>
        rw [e] at p
        refine .inl ⟨_, xs, k, n, rfl, rfl, hx, by rw [plen hp]; exact e, ?_⟩
        obtain ⟨a1, b1⟩ := hh.put (u := .lst (xs.set n v)) (o := .ml (vs.set n xv)) l (by rw [q]; rfl) ⟨_, upd_same, paired_set rv n hp⟩ rfl
        exact p _ _ _ b1 a1
    · rename_i kvs k q
      rw [q] at ob
      obtain ⟨xs, hx, hp⟩ := ob
      cases e : keyD k with
      | none => rw [e] at p; exact p.elim
      | some kk =>
        rw [e] at p
        simp only at p
        by_cases hl : kvs.length < 100000
        · rw [if_pos hl] at p
          have ek := keyD_ok ri e
          subst ek
          obtain ⟨a1, b1⟩ := hh.put (u := .dK (putK xs kk v)) (o := .md (putA kvs kk xv)) l (by rw [q]; rfl) ⟨_, upd_same, pput rv hp⟩ rfl
          exact .inr ⟨_, _, rfl, DPut.k hx (by rw [plen hp]; exact Nat.lt_of_lt_of_le hl (by decide : 100000 ≤ sizeLine)), p _ _ _ b1 a1⟩
        · rw [if_neg hl] at p; exact p.elim
    · exact p.elim
theorem fSET_l {h : AHp} {j n : Nat} {vs : List AV} {k : Int} (e : h.objs j = .ml vs) (hn : ixN vs.length k = some n) (v : AV) : fSET (.o j) (.d (.int k)) v h = .ok () (put h j (.ml (vs.set n v))) := by
  unfold fSET
  simp only [e, hn]
theorem fSET_k {h : AHp} {j : Nat} {kvs : List (Key × AV)} {k : Da} {kk : Key} (e : h.objs j = .md kvs) (hk : keyD k = some kk) (hl : kvs.length < 100000) (v : AV) : fSET (.o j) (.d k) v h = .ok () (put h j (.md (putA kvs kk v))) := by
  unfold fSET
  simp only [e, hk, if_pos hl]
/-! ### a new dict -/
def evDNewO : EvX := fun _ h => .ok (.o h.next) (alloc h (.md []))
def evDNew : EvX := fun _ h => .ok (.d (.dk [])) h
theorem sx_dnewO : SX K W tDNewK evDNewO := fun I H h ad σ env hh sl QQ p a ha => by
  obtain ⟨a1, b1⟩ := hh.alloc (u := .dK []) (o := .md []) ha ⟨[], upd_same, .nil⟩
  exact p _ _ _ b1 a1 (.ref a) ⟨Nat.lt_succ_self _, by rw [ext_at]⟩
theorem sx_dnew : SX K W tDNewK evDNew := fun I H h ad σ env hh sl QQ p a ha => by
  obtain ⟨a1, b1⟩ := hh.newD (u := .dK []) ha
  exact p _ _ _ b1 a1 (.ref a) (Rep.dk upd_same .nil)
end
end EL
/-! Small calls, methods of texts, attributes, freezing. -/
namespace EL
open PySem L2
open DL (Da Rep RepL RepF RepK RepD RepT Ex)
section
variable {K : PySem.W.Frag} {W : WX} {I H I' H' I1 H1 : Hp} {h h' h1 : AHp} {ad ad' ad1 : Nat → Addr} {σ : St} {env : Env} {te ta tb : TE} {e ev : EvX} {er : EvA} {tr : TA} {t : TS} {s : EvS}
/-! ### tables of calls whose answers no object bears -/
def gINT : List Da → Option Da
  | [.int i] => some (.int i) | [.bl b] => some (.int (if b then 1 else 0))
  | _ => none
def gABS : List Da → Option Da
  | [.int i] => some (.int (if i < 0 then -i else i))
  | _ => none
def gMAX : List Da → Option Da
  | [.int i, .int j] => some (.int (if j > i then j else i))
  | _ => none
def gMIN : List Da → Option Da
  | [.int i, .int j] => some (.int (if j < i then j else i))
  | _ => none
def gSTR : List Da → Option Da
  | [.str z] => some (.str z)
  | _ => none
def blL : List Da → Option (List Bool)
  | [] => some []
  | .bl b :: r => (blL r).map (b :: ·)
  | _ => none
@[simp] theorem blL_nil : blL [] = some [] := rfl
@[simp] theorem blL_cons (b : Bool) (r : List Da) : blL (.bl b :: r) = (blL r).map (b :: ·) := rfl
@[simp] theorem blL_map (l : List Bool) : blL (l.map Da.bl) = some l := by
  induction l with
  | nil => rfl
  | cons b r ih => rw [List.map_cons, blL_cons, ih]; rfl
@[simp] theorem blL_mapf {α : Type} (f : α → Bool) (l : List α) : blL (l.map fun a => Da.bl (f a)) = some (l.map f) := by
  induction l with
  | nil => rfl
  | cons b r ih => rw [List.map_cons, blL_cons, ih]; rfl
theorem blL_is : ∀ {ds : List Da} {l : List Bool}, blL ds = some l → ds = DL.bls l
  | [], _, e => by cases e; rfl
  | d :: r, l, e => by
    cases d with
    | bl b =>
      rw [blL_cons] at e
      cases q : blL r with
      | none => rw [q] at e; cases e
      | some m =>
        rw [q] at e
        cases e
        rw [blL_is q]; rfl
    | _ => cases e
def gALL : List Da → Option Da
  | [.lst ds] => (blL ds).map fun l => .bl (l.all id)
  | _ => none
def gANY : List Da → Option Da
  | [.lst ds] => (blL ds).map fun l => .bl (l.any id)
  | _ => none
theorem hINT : ∀ ds z, gINT ds = some z → DL.flat z = true ∧ noDL ds = true ∧ DL.RC K DL.rINT (DL.dats ds) [] [] (QD z) := fun ds z e => by
  unfold gINT at e
  split at e
  · cases e; exact ⟨rfl, rfl, DL.int_i ⟨rfl, rfl⟩⟩
  · rename_i b
    cases e
    refine ⟨rfl, rfl, fun Lc I H σ F s vs a QQ p => ?_⟩
    obtain ⟨v, rfl, ov⟩ := DL.vals1 a
    cases ov
    exact .inr ⟨b, rfl, p.now (v := .int _) (r := .dat (.int _)) s (Rep.int _) ⟨rfl, rfl⟩⟩
  · cases e
theorem hABS : ∀ ds z, gABS ds = some z → DL.flat z = true ∧ noDL ds = true ∧ DL.RC K DL.rABS (DL.dats ds) [] [] (QD z) := fun ds z e => by
  unfold gABS at e
  split at e
  · cases e; exact ⟨rfl, rfl, DL.abs_i ⟨rfl, rfl⟩⟩
  · cases e
theorem hMAX : ∀ ds z, gMAX ds = some z → DL.flat z = true ∧ noDL ds = true ∧ DL.RC K DL.rMAX (DL.dats ds) [] [] (QD z) := fun ds z e => by
  unfold gMAX at e
  split at e
  · cases e; exact ⟨rfl, rfl, DL.max_i ⟨rfl, rfl⟩⟩
  · cases e
theorem hMIN : ∀ ds z, gMIN ds = some z → DL.flat z = true ∧ noDL ds = true ∧ DL.RC K DL.rMIN (DL.dats ds) [] [] (QD z) := fun ds z e => by
  unfold gMIN at e
  split at e
  · cases e; exact ⟨rfl, rfl, DL.min_i ⟨rfl, rfl⟩⟩
  · cases e
theorem hSTR : ∀ ds z, gSTR ds = some z → DL.flat z = true ∧ noDL ds = true ∧ DL.RC K DL.rSTR (DL.dats ds) [] [] (QD z) := fun ds z e => by
  unfold gSTR at e
  split at e
  · cases e; exact ⟨rfl, rfl, DL.str_s ⟨rfl, rfl⟩⟩
  · cases e
theorem bls_noD : ∀ l : List Bool, noDL (DL.bls l) = true
  | [] => rfl
  | _ :: r => Bool.and_eq_true_iff.mpr ⟨rfl, bls_noD r⟩
theorem hALL : ∀ ds z, gALL ds = some z → DL.flat z = true ∧ noDL ds = true ∧ DL.RC K (rAll K) (DL.dats ds) [] [] (QD z) := fun ds z e => by
  unfold gALL at e
  split at e
  · rename_i ds
    cases q : blL ds with
    | none => rw [q] at e; cases e
    | some l =>
      rw [q] at e
      cases e
      have := blL_is q
      subst this
      exact ⟨rfl, Bool.and_eq_true_iff.mpr ⟨bls_noD l, rfl⟩, DL.all_b rfl ⟨rfl, rfl⟩⟩
  · cases e
theorem hANY : ∀ ds z, gANY ds = some z → DL.flat z = true ∧ noDL ds = true ∧ DL.RC K (rAny K) (DL.dats ds) [] [] (QD z) := fun ds z e => by
  unfold gANY at e
  split at e
  · rename_i ds
    cases q : blL ds with
    | none => rw [q] at e; cases e
    | some l =>
      rw [q] at e
      cases e
      have := blL_is q
      subst this
      exact ⟨rfl, Bool.and_eq_true_iff.mpr ⟨bls_noD l, rfl⟩, DL.any_b rfl ⟨rfl, rfl⟩⟩
  · cases e
theorem sINT : SRC K DL.rINT (qC gINT) := src_q hINT
theorem sABS : SRC K DL.rABS (qC gABS) := src_q hABS
theorem sMAX : SRC K DL.rMAX (qC gMAX) := src_q hMAX
theorem sMIN : SRC K DL.rMIN (qC gMIN) := src_q hMIN
theorem sSTR : SRC K DL.rSTR (qC gSTR) := src_q hSTR
theorem sALL : SRC K (rAll K) (qC gALL) := src_q hALL
theorem sANY : SRC K (rAny K) (qC gANY) := src_q hANY
/-! ### isinstance of a built-in class -/
def tyA (h : AHp) : AV → Option String
  | .d (.dk _) => if h.lk = false then some "dict" else none
  | .d (.dt _) => if h.lk = false then some "dict" else none
  | .d (.dct _) => none
  | .d x => DL.tyN x
  | .o i => match h.objs i with
    | .ml _ => some "list" | .tu _ => some "tuple" | .md _ => some "dict" | .mt _ => some "dict"
    | _ => none
theorem tyA_ok (hh : HH K I H h ad) {v : V} {x : AV} {n : String} (e : tyA h x = some n) (r : AVr K I h.next ad v x) : TyX K H v (.type n) := by
  cases x with
  | o i =>
    obtain ⟨l, ev⟩ := r
    subst ev
    have ob := hh.ob i l
    have e' : (match h.objs i with | .ml _ => some "list" | .tu _ => some "tuple" | .md _ => some "dict" | .mt _ => some "dict" | _ => none) = some n := e
    cases q : h.objs i with
    | ml vs => rw [q] at e' ob; cases e'; obtain ⟨xs, hx, _⟩ := ob; exact .base (.lst hx)
    | tu vs => rw [q] at e' ob; cases e'; obtain ⟨xs, hx, _⟩ := ob; exact .base (.tup hx)
    | md vs => rw [q] at e' ob; cases e'; obtain ⟨xs, hx, _⟩ := ob; exact .base (.dK hx)
    | mt vs => rw [q] at e' ob; cases e'; obtain ⟨xs, hx, _⟩ := ob; exact .base (.dT hx)
    | _ => rw [q] at e'; cases e'
  | d x =>
    have r' : Rep K I v x := r
    cases r' with
    | non => cases e; exact .base .non
    | bl b => cases e; exact .base (.bl _)
    | int i => cases e; exact .base (.int _)
    | str z => cases e; exact .base (.str _)
    | ty _ => cases e
    | cls _ => cases e
    | tup hs _ =>
      cases e
      rcases hs with (hs | ⟨o, hs⟩) | ⟨o, its, k, hs, hc, _⟩
      · exact .base (.tup (hh.up.plain hs rfl))
      · exact .fTuple (hh.up.plain hs rfl)
      · exact .kTuple hs hc
    | lst hs _ => cases e; exact .base (.lst (hh.up.plain hs rfl))
    | scr _ => cases e
    | dct _ _ => cases e
    | dk hs _ =>
      have e' : (if h.lk = false then some "dict" else none) = some n := e
      split at e'
      · rename_i hl; cases e'; exact .base (.dK (hh.exa hl _ _ hs))
      · cases e'
    | dt hs _ =>
      have e' : (if h.lk = false then some "dict" else none) = some n := e
      split at e'
      · rename_i hl; cases e'; exact .base (.dT (hh.exa hl _ _ hs))
      · cases e'
    | exc _ _ _ => cases e
    | exc0 _ => cases e
    | obj _ _ => cases e
def kitT (n T : String) : Option Bool := kitB n T
def fISI (tbl : List (Addr × Bool)) (xs : List AV) (h : AHp) : Rs AV := match xs with
  | [x, .d (.ty T)] => (match tyA h x with
    | some n => (match kitT n T with
      | some b => bV b h
      | none => .bad)
    | none => (match x with
      | .d (.obj C _) => (match tbl.lookup C with
        | some b => bV b h
        | none => .bad)
      | _ => .bad))
  | _ => .bad
/-- what is known of isinstance(an object of C, T) -/
def IsiT (K : PySem.W.Frag) (T : String) (tbl : List (Addr × Bool)) : Prop := ∀ C b, tbl.lookup C = some b → PySem.W.kitOne K (.ref C) (.type T) = some b ∧ ∀ {H : Hp} {a dx : Addr} {fs : List (Str × V)}, H a = some (.ins C dx fs) → TyX K H (.ref a) (.ref C)
theorem isiT_nil {T : String} : IsiT K T [] := fun _ _ e => nomatch e
theorem sISI0 : SRC K (rIsi K) (fISI []) := fun I H h ad hh vs xs rv QQ p => by
  unfold fISI at p
  split at p
  · rename_i x T
    obtain ⟨v, w, rfl, rx, rw'⟩ := pair2 rv
    cases (show Rep K I w (.ty T) from rw')
    cases e : tyA h x with
    | none =>
      rw [e] at p
      simp only at p
      split at p
      · exact p.elim
      · exact p.elim
    | some n =>
      rw [e] at p
      simp only at p
      cases e2 : kitT n T with
      | none => rw [e2] at p; exact p.elim
      | some b =>
        rw [e2] at p
        exact ⟨v, .ty T, .type n, .type T, b, rfl, .ty T, tyA_ok hh e rx, kit_ty e2, p.now hh _ (Rep.bl _)⟩
  · exact p.elim
abbrev fISIb : List AV → AHp → Rs AV := fISI []
theorem fISI_d {d : Da} {n T : String} {b : Bool} {tbl : List (Addr × Bool)} {h : AHp} (hn : tyA h (.d d) = some n) (hb : kitT n T = some b) : fISI tbl [.d d, .d (.ty T)] h = .ok (.d (.bl b)) h := by
  unfold fISI
  simp only [hn, hb]
  rfl
/-- of an own class A: of the built-in kinds never, of the objects of known classes as the table says -/
def isoK (ns : List String) (n : String) : Bool := decide (n ∈ ns)
def fISC (tbl : List (Addr × Bool)) (xs : List AV) (h : AHp) : Rs AV := match xs with
  | [x, .d (.cls _)] => (match x with
    | .d (.obj C _) => (match tbl.lookup C with
      | some b => bV b h
      | none => .bad)
    | .o i => (match h.objs i with
      | .ins C _ _ => (match tbl.lookup C with
        | some b => bV b h
        | none => .bad)
      | _ => (match tyA h x with
        | some _ => bV false h
        | none => .bad))
    | _ => (match tyA h x with
      | some _ => bV false h
      | none => .bad))
  | _ => .bad
structure IscT (K : PySem.W.Frag) (A : Addr) (tbl : List (Addr × Bool)) : Prop where
  own : ∀ C b, tbl.lookup C = some b → PySem.W.kitOne K (.ref C) (.ref A) = some b ∧ ∀ {H : Hp} {a dx : Addr} {fs : List (Str × V)}, H a = some (.ins C dx fs) → TyX K H (.ref a) (.ref C)
  bas : ∀ n ∈ (["NoneType", "bool", "int", "str", "tuple", "list", "dict"] : List String), PySem.W.kitOne K (.type n) (.ref A) = some false
/-! ### methods of texts -/
def gS1 (g : Str → Str → Option Da) : AV → List AV → AHp → Rs AV := fun x ys h => match x, ys with
  | .d (.str a), [.d (.str b)] => ofO ((g a b).map .d) h
  | _, _ => .bad
def evM1 (f : AV → List AV → AHp → Rs AV) (eo ea : EvX) : EvX := fun env h => (eo env h).bind fun x h1 => match x with
  | .d (.str z) => (ea env h1).bind fun y h2 => noex (f (.d (.str z)) [y] h2)
  | _ => .bad
def evM0 (f : AV → List AV → AHp → Rs AV) (eo : EvX) : EvX := fun env h => (eo env h).bind fun x h1 => match x with
  | .d (.str z) => noex (f (.d (.str z)) [] h1)
  | _ => .bad
theorem sx_m1 {r : V → List V → Hp → VK → Prop} {f : AV → List AV → AHp → Rs AV} {ea : EvX} (hf : SRM K r f) (he : SX K W te e) (ha : SX K W ta ea) : SX K W (tM1 r te ta) (evM1 f e ea) := fun I H h ad σ env hh sl QQ p =>
  he I H h ad σ env hh sl _ <| Pst.imp (Pst.bind p) (fun x I1 H1 h1 ad1 g1 hh1 p1 v rv => by
    split at p1
    · rename_i z
      cases (show Rep K I1 v (.str z) from rv)
      refine ⟨⟨z, rfl⟩, ha I1 H1 h1 ad1 σ env hh1 (sl.goes g1) _ <| Pst.imp (Pst.bind p1) (fun y I2 H2 h2 ad2 g2 hh2 p2 w rw => ?_) fun _ _ _ z => z⟩
      exact hf I2 H2 h2 ad2 hh2 (.str z) (.d (.str z)) [w] [y] (Rep.str z) (.cons rw .nil) QQ (Pst.noex (exk' := fun _ _ _ => False) p2)
    · exact p1.elim) fun _ _ _ z => z
theorem sx_m0 {r : V → List V → Hp → VK → Prop} {f : AV → List AV → AHp → Rs AV} (hf : SRM K r f) (he : SX K W te e) : SX K W (tM0 r te) (evM0 f e) := fun I H h ad σ env hh sl QQ p =>
  he I H h ad σ env hh sl _ <| Pst.imp (Pst.bind p) (fun x I1 H1 h1 ad1 g1 hh1 p1 v rv => by
    split at p1
    · rename_i z
      cases (show Rep K I1 v (.str z) from rv)
      refine ⟨⟨z, rfl⟩, hf I1 H1 h1 ad1 hh1 (.str z) (.d (.str z)) [] [] (Rep.str z) .nil QQ (Pst.noex (exk' := fun _ _ _ => False) p1)⟩
    · exact p1.elim) fun _ _ _ z => z
def strsV : List AV → Option (List Str)
  | [] => some []
  | .d (.str z) :: r => (strsV r).map (z :: ·)
  | _ => none
@[simp] theorem strsV_nil : strsV [] = some [] := rfl
@[simp] theorem strsV_cons (z : Str) (r : List AV) : strsV (.d (.str z) :: r) = (strsV r).map (z :: ·) := rfl
@[simp] theorem strsV_txts (l : List Str) : strsV ((DL.txts l).map AV.d) = some l := by
  induction l with
  | nil => rfl
  | cons z r ih =>
    have e : (DL.txts (z :: r)).map AV.d = AV.d (.str z) :: (DL.txts r).map AV.d := rfl
    rw [e, strsV_cons, ih]; rfl
theorem strsV_ok {n : Nat} : ∀ {xs : List V} {vs : List AV} {l : List Str}, Paired (AVr K I n ad) xs vs → strsV vs = some l → xs = l.map V.str
  | _, _, _, .nil, e => by cases e; rfl
  | _, _, _, .cons (b := b) (l₂ := r) a t, e => by
    cases b with
    | o i => cases e
    | d x =>
      cases x with
      | str z =>
        rw [strsV_cons] at e
        cases q : strsV r with
        | none => rw [q] at e; cases e
        | some m =>
          rw [q] at e
          cases e
          cases (show Rep K I _ (.str z) from a)
          rw [strsV_ok t q]; rfl
      | _ => cases e
def fJOIN (x : AV) (ys : List AV) (h : AHp) : Rs AV := match x, ys with
  | .d (.str a), [y] => (match (match seqL h y with
      | some vs => some vs
      | none => seqT h y) with
    | some vs => (match strsV vs with
      | some l => if (l.map (·.length)).sum + l.length * a.length ≤ 1000000 then .ok (.d (.str (Txt.join a l))) h else .bad
      | none => .bad)
    | none => .bad)
  | _, _ => .bad
theorem sJOIN : SRM K (fun x xs H Q => ∃ a p, ∃ ys : List Str, x = .str a ∧ xs = [.ref p] ∧ (SqL K H p (ys.map V.str) ∨ SqT K H p (ys.map V.str)) ∧ (ys.map (·.length)).sum + ys.length * a.length ≤ 16777216 ∧ Q (.str (Txt.join a ys)) H) fJOIN := fun I H h ad hh v x ws ys rv rws QQ p => by
  unfold fJOIN at p
  split at p
  · rename_i a y
    cases (show Rep K I v (.str a) from rv)
    obtain ⟨w, rfl, rw'⟩ := pair1 rws
    have key : ∀ vs, (seqL h y = some vs ∨ seqT h y = some vs) → ∃ b xs, w = .ref b ∧ (SqL K H b xs ∨ SqT K H b xs) ∧ Paired (AVr K I h.next ad) xs vs := fun vs q => by
      rcases q with q | q
      · obtain ⟨b, xs, e, hs, hp⟩ := seqL_ok hh q rw'
        exact ⟨b, xs, e, .inl hs, hp⟩
      · obtain ⟨b, xs, e, hs, hp⟩ := seqT_ok hh q rw'
        exact ⟨b, xs, e, .inr hs, hp⟩
    have fin : ∀ vs, (seqL h y = some vs ∨ seqT h y = some vs) → Pst K (match strsV vs with
      | some l => if (l.map (·.length)).sum + l.length * a.length ≤ 1000000 then Rs.ok (AV.d (.str (Txt.join a l))) h else .bad
      | none => .bad) I H h ad (fun z I' H' h' ad' => ∀ u, AVr K I' h'.next ad' u z → QQ u H') (fun _ _ _ => False) → ∃ a_1 p, ∃ ys : List Str, V.str a = .str a_1 ∧ [w] = [.ref p] ∧ (SqL K H p (ys.map V.str) ∨ SqT K H p (ys.map V.str)) ∧ (ys.map (·.length)).sum + ys.length * a_1.length ≤ 16777216 ∧ QQ (.str (Txt.join a_1 ys)) H := fun vs hv q => by
      obtain ⟨b, xs, e, hs, hp⟩ := key vs hv
      subst e
      cases e2 : strsV vs with
      | none => rw [e2] at q; exact q.elim
      | some l =>
        rw [e2] at q
        simp only at q
        by_cases hl : (l.map (·.length)).sum + l.length * a.length ≤ 1000000
        · rw [if_pos hl] at q
          have ex := strsV_ok hp e2
          subst ex
          exact ⟨a, b, l, rfl, rfl, hs, by omega, q.now hh _ (Rep.str _)⟩
        · rw [if_neg hl] at q; exact q.elim
    cases e1 : seqL h y with
    | some vs => rw [e1] at p; exact fin vs (.inl e1) p
    | none =>
      rw [e1] at p
      simp only at p
      cases e2 : seqT h y with
      | some vs => rw [e2] at p; exact fin vs (.inr e2) p
      | none => rw [e2] at p; exact p.elim
  · exact p.elim
theorem fJOIN_l {a : Str} {l : List Str} {h : AHp} (hl : (l.map (·.length)).sum + l.length * a.length ≤ 1000000) : fJOIN (.d (.str a)) [.d (.lst (DL.txts l))] h = .ok (.d (.str (Txt.join a l))) h := by
  unfold fJOIN
  simp only [seqL_d, strsV_txts, if_pos hl]
def gSPLIT (a b : Str) : Option Da := if (b.length == 0) = false ∧ a.length ≤ 900000 then some (.lst (DL.txts (Txt.split a b))) else none
theorem strs_rep {J : Hp} : ∀ l : List Str, RepL K J (l.map V.str) (DL.txts l)
  | [] => .nil
  | _ :: r => .cons (.str _) (strs_rep r)
theorem sSPLIT : SRM K (fun x xs H Q => ∃ a b, x = .str a ∧ xs = [.str b] ∧ (b.length == 0) = false ∧ a.length + 2 ≤ sizeLine ∧ rNewStrs (Txt.split a b) H Q) (gS1 gSPLIT) := fun I H h ad hh v x ws ys rv rws QQ p => by
  unfold gS1 at p
  split at p
  · rename_i a b
    cases (show Rep K I v (.str a) from rv)
    obtain ⟨w, rfl, rw'⟩ := pair1 rws
    cases (show Rep K I w (.str b) from rw')
    unfold gSPLIT at p
    by_cases hc : (b.length == 0) = false ∧ a.length ≤ 900000
    · rw [if_pos hc] at p
      refine ⟨a, b, rfl, rfl, hc.1, Nat.le_trans (by omega : a.length + 2 ≤ 900002) (by decide : 900002 ≤ sizeLine), fun c hcn => ?_⟩
      obtain ⟨a1, b1⟩ := hh.newD (u := .lst ((Txt.split a b).map V.str)) hcn
      exact p _ _ _ b1 a1 (.ref c) (Rep.lst upd_same (strs_rep _))
    · rw [if_neg hc] at p; exact p.elim
  · exact p.elim
theorem fSPLIT {a b : Str} {h : AHp} (hb : (b.length == 0) = false) (ha : a.length ≤ 900000) : gS1 gSPLIT (.d (.str a)) [.d (.str b)] h = .ok (.d (.lst (DL.txts (Txt.split a b)))) h := by
  show ofO ((gSPLIT a b).map AV.d) h = _
  unfold gSPLIT
  rw [if_pos ⟨hb, ha⟩]; rfl
def gPART (a b : Str) : Option Da := if (b.length == 0) = false ∧ a.length ≤ 1000000 then some (.tup [.str (Txt.partition a b).1, .str (Txt.partition a b).2.1, .str (Txt.partition a b).2.2]) else none
theorem sPART : SRM K (fun x xs H Q => ∃ a b, x = .str a ∧ xs = [.str b] ∧ (b.length == 0) = false ∧ a.length ≤ sizeLine ∧ ∀ p, H p = none → Q (.ref p) (upd H p (.tup [.str (Txt.partition a b).1, .str (Txt.partition a b).2.1, .str (Txt.partition a b).2.2]))) (gS1 gPART) := fun I H h ad hh v x ws ys rv rws QQ p => by
  unfold gS1 at p
  split at p
  · rename_i a b
    cases (show Rep K I v (.str a) from rv)
    obtain ⟨w, rfl, rw'⟩ := pair1 rws
    cases (show Rep K I w (.str b) from rw')
    unfold gPART at p
    by_cases hc : (b.length == 0) = false ∧ a.length ≤ 1000000
    · rw [if_pos hc] at p
      refine ⟨a, b, rfl, rfl, hc.1, Nat.le_trans hc.2 (by decide : 1000000 ≤ sizeLine), fun c hcn => ?_⟩
      obtain ⟨a1, b1⟩ := hh.newD (u := .tup [.str (Txt.partition a b).1, .str (Txt.partition a b).2.1, .str (Txt.partition a b).2.2]) hcn
      exact p _ _ _ b1 a1 (.ref c) (Rep.tup (SqT.of upd_same) (.cons (.str _) (.cons (.str _) (.cons (.str _) .nil))))
    · rw [if_neg hc] at p; exact p.elim
  · exact p.elim
theorem fPART {a b : Str} {h : AHp} (hb : (b.length == 0) = false) (ha : a.length ≤ 1000000) : gS1 gPART (.d (.str a)) [.d (.str b)] h = .ok (.d (.tup [.str (Txt.partition a b).1, .str (Txt.partition a b).2.1, .str (Txt.partition a b).2.2])) h := by
  show ofO ((gPART a b).map AV.d) h = _
  unfold gPART
  rw [if_pos ⟨hb, ha⟩]; rfl
def fUPPER (x : AV) (ys : List AV) (h : AHp) : Rs AV := match x, ys with
  | .d (.str a), [] => if a.length ≤ 100000 then .ok (.d (.str (Txt.upper a))) h else .bad
  | _, _ => .bad
theorem sUPPER : SRM K (fun x xs H Q => ∃ a, x = .str a ∧ xs = [] ∧ a.length ≤ 5592405 ∧ Q (.str (Txt.upper a)) H) fUPPER := fun I H h ad hh v x ws ys rv rws QQ p => by
  unfold fUPPER at p
  split at p
  · rename_i a
    cases (show Rep K I v (.str a) from rv)
    cases rws
    split at p
    · exact ⟨a, rfl, rfl, by omega, p.now hh _ (Rep.str _)⟩
    · exact p.elim
  · exact p.elim
def gSTA (a b : Str) : Option Da := some (.bl (Txt.startswith a b))
def gEND (a b : Str) : Option Da := some (.bl (Txt.endswith a b))
/-! ### tuple(x), list(x) -/
def fTUP (xs : List AV) (h : AHp) : Rs AV := match xs with
  | [.d (.tup ds)] => .ok (.d (.tup ds)) h
  | [.d (.dk kvs)] => if h.lk = false then .ok (.d (.tup (kvs.map fun p => keyK p.1))) h else .bad
  | [x] => (match seqL h x with
    | some vs => mkT vs h
    | none => .bad)
  | _ => .bad
theorem keys_rep {J : Hp} : ∀ {xs : List (Key × V)} {ds : List (Key × Da)}, RepD K J xs ds → RepL K J (xs.map fun kv => kV kv.1) (ds.map fun p => keyK p.1)
  | _, _, .nil => .nil
  | _, _, .cons (f := f) _ t => by
    cases f with
    | inl i => exact .cons (.int i) (keys_rep t)
    | inr z => exact .cons (.str z) (keys_rep t)
theorem sTUP : SRC K (DL.rTUPd K) fTUP := fun I H h ad hh vs xs rv QQ p => by
  unfold fTUP at p
  split at p
  · rename_i ds
    obtain ⟨v, rfl, r⟩ := pair1 rv
    cases (show Rep K I v (.tup ds) from r) with
    | tup hs hr => exact .inl ⟨_, _, rfl, .inr ⟨up_t hh.up hs, p.now hh _ (Rep.tup hs hr)⟩⟩
  · rename_i kvs
    obtain ⟨v, rfl, r⟩ := pair1 rv
    split at p
    · rename_i hl
      cases (show Rep K I v (.dk kvs) from r) with
      | dk hs hr =>
        rename_i a xs
        refine .inr ⟨a, xs, rfl, hh.exa hl _ _ hs, fun c hc => ?_⟩
        obtain ⟨a1, b1⟩ := hh.newD (u := .tup (xs.map fun kv => kV kv.1)) hc
        exact p _ _ _ b1 a1 (.ref c) (Rep.tup (SqT.of upd_same) (keys_rep (hr.mono b1.ii)))
    · exact p.elim
  · rename_i x _ _
    obtain ⟨v, rfl, r⟩ := pair1 rv
    cases e : seqL h x with
    | none => rw [e] at p; exact p.elim
    | some vs =>
      rw [e] at p
      obtain ⟨a, ys, ea, hs, hp⟩ := seqL_ok hh e r
      subst ea
      exact .inl ⟨a, ys, rfl, .inl ⟨hs, fun c hc => mkT_pst hh hp hc p⟩⟩
  · exact p.elim
@[simp] theorem fTUP_l (ds : List Da) (h : AHp) : fTUP [.d (.lst ds)] h = .ok (.d (.tup ds)) h := by
  show mkT (ds.map AV.d) h = _
  unfold mkT
  rw [allD_map]
@[simp] theorem fTUP_t (ds : List Da) (h : AHp) : fTUP [.d (.tup ds)] h = .ok (.d (.tup ds)) h := rfl
theorem fTUP_k {h : AHp} (hl : h.lk = false) (kvs : List (Key × Da)) : fTUP [.d (.dk kvs)] h = .ok (.d (.tup (kvs.map fun p => keyK p.1))) h := if_pos hl
/-! ### e.f -/
def fldA (h : AHp) (C : Addr) (f : Str) : AV → Option AV
  | .d (.obj D fs) => if D = C then (fs.lookup f).map .d else none
  | .o i => match h.objs i with
    | .ins D _ fs => if D = C then fs.lookup f else none
    | _ => none
  | _ => none
def evFld (C : Addr) (e : EvX) (f : Str) : EvX := fun env h => (e env h).bind fun x h1 => ofO (fldA h1 C f x) h1
theorem pf_lookup {n : Nat} {f : Str} : ∀ {xs : List (Str × V)} {fs : List (Str × AV)}, Paired (KVr Str K I n ad) xs fs → (∀ x, fs.lookup f = some x → ∃ v, xs.lookup f = some v ∧ AVr K I n ad v x) ∧ (fs.lookup f = none → xs.lookup f = none)
  | _, _, .nil => ⟨(fun _ e => nomatch e), (fun _ => rfl)⟩
  | _, _, .cons (a := (g, v)) (b := (g', x)) a b => by
    obtain ⟨e, r⟩ := a
    have e' : g = g' := e
    subst e'
    obtain ⟨h1, h2⟩ := pf_lookup (f := f) b
    by_cases z : f = g
    · subst z
      simp only [List.lookup, beq_self_eq_true]
      exact ⟨(fun y ey => by cases ey; exact ⟨v, rfl, r⟩), (fun e => nomatch e)⟩
    · have hb : (f == g) = false := by simpa using z
      simp only [List.lookup, hb]
      exact ⟨h1, h2⟩
theorem repf_paired {n : Nat} : ∀ {xs : List (Str × V)} {ds : List (Str × Da)}, RepF K I xs ds → Paired (KVr Str K I n ad) xs (ds.map fun p => (p.1, .d p.2))
  | _, _, .nil => .nil
  | _, _, .cons a b => .cons ⟨rfl, a⟩ (repf_paired b)
theorem lookup_mapd {f : Str} : ∀ ds : List (Str × Da), (ds.map fun p => (p.1, AV.d p.2)).lookup f = (ds.lookup f).map .d
  | [] => rfl
  | (g, x) :: r => by
    by_cases z : f = g
    · subst z; simp [List.lookup]
    · have hb : (f == g) = false := by simpa using z
      simp only [List.map_cons, List.lookup, hb]
      exact lookup_mapd r
/-- an object of the class C, its fields -/
def objA (h : AHp) (C : Addr) : AV → Option (List (Str × AV))
  | .d (.obj D fs) => if D = C then some (fs.map fun p => (p.1, .d p.2)) else none
  | .o i => match h.objs i with
    | .ins D _ fs => if D = C then some fs else none
    | _ => none
  | _ => none
theorem objA_ok (hh : HH K I H h ad) {v : V} {x : AV} {C : Addr} {fs : List (Str × AV)} (e : objA h C x = some fs) (r : AVr K I h.next ad v x) : ∃ a dx xs, v = .ref a ∧ H a = some (.ins C dx xs) ∧ Paired (KVr Str K I h.next ad) xs fs := by
  cases x with
  | o i =>
    obtain ⟨l, ev⟩ := r
    have ob := hh.ob i l
    have e' : (match h.objs i with | .ins D _ fs => if D = C then some fs else none | _ => none) = some fs := e
    cases q : h.objs i with
    | ins D j gs =>
      rw [q] at e' ob
      simp only at e'
      by_cases z : D = C
      · rw [if_pos z] at e'
        cases e'
        subst z
        obtain ⟨_, xs, hx, p⟩ := ob
        exact ⟨_, _, xs, ev, hx, p⟩
      · rw [if_neg z] at e'; cases e'
    | _ => rw [q] at e'; cases e'
  | d x =>
    cases x with
    | obj D ds =>
      have e' : (if D = C then some (ds.map fun p => (p.1, AV.d p.2)) else none) = some fs := e
      by_cases z : D = C
      · rw [if_pos z] at e'
        cases e'
        subst z
        cases (show Rep K I v (.obj D ds) from r) with
        | obj ho hf => exact ⟨_, _, _, rfl, hh.up.plain ho rfl, repf_paired hf⟩
      · rw [if_neg z] at e'; cases e'
    | _ => cases e
theorem fldA_obj {C : Addr} {f : Str} {x y : AV} (e : fldA h C f x = some y) : ∃ fs, objA h C x = some fs ∧ fs.lookup f = some y := by
  cases x with
  | o i =>
    have e' : (match h.objs i with | .ins D _ fs => if D = C then fs.lookup f else none | _ => none) = some y := e
    show ∃ fs, (match h.objs i with | .ins D _ fs => if D = C then some fs else none | _ => none) = some fs ∧ _
    cases q : h.objs i with
    | ins D j gs =>
      rw [q] at e'
      simp only at e' ⊢
      by_cases z : D = C
      · rw [if_pos z] at e' ⊢; exact ⟨gs, rfl, e'⟩
      · rw [if_neg z] at e'; cases e'
    | _ => rw [q] at e'; cases e'
  | d x =>
    cases x with
    | obj D ds =>
      have e' : (if D = C then (ds.lookup f).map AV.d else none) = some y := e
      by_cases z : D = C
      · rw [if_pos z] at e'
        exact ⟨_, if_pos z, by rw [lookup_mapd]; exact e'⟩
      · rw [if_neg z] at e'; cases e'
    | _ => cases e
theorem sx_fld {C : Addr} {f : Str} (cl : Cls K C) (na : NoAttr K C f) (he : SX K W te e) : SX K W (tFld K te f) (evFld C e f) := fun I H h ad σ env hh sl QQ p =>
  he I H h ad σ env hh sl _ <| Pst.imp (Pst.bind p) (fun x I1 H1 h1 ad1 g1 hh1 p1 v rv => by
    obtain ⟨y, ey, q⟩ := ofO_now hh1 p1
    obtain ⟨fs, eo, hl⟩ := fldA_obj ey
    obtain ⟨a, dx, xs, ea, ha, hp⟩ := objA_ok hh1 eo rv
    obtain ⟨w, hw, rw'⟩ := (pf_lookup (f := f) hp).1 y hl
    exact ⟨a, C, dx, xs, w, ea, ha, cl, na, hw, q w rw'⟩) fun _ _ _ z => z
@[simp] theorem fldA_d (h : AHp) (C : Addr) (f : Str) (fs : List (Str × Da)) : fldA h C f (.d (.obj C fs)) = (fs.lookup f).map .d := if_pos rfl
end
end EL
/-! Freezing; defs and their calls; objects made; exceptions raised and caught. -/
namespace EL
open PySem L2
open PyProof.Rows (envOfC)
open DL (Da Rep RepL RepF RepK RepD RepT Ex RmG FnG CalG MetG MakG)
/-! ### freezing -/
def AO.isOwn : AO → Bool
  | .own _ => true | _ => false
def rch : Nat → AHp → AV → List Nat
  | _, _, .d _ => []
  | 0, _, .o _ => []
  | n + 1, h, .o i => i :: match h.objs i with
    | .ml vs => vs.flatMap (rch n h)
    | .tu vs => vs.flatMap (rch n h)
    | .md kvs => kvs.flatMap fun p => rch n h p.2
    | .mt kvs => kvs.flatMap fun p => rch n h p.2
    | .ins _ j fs => (if (h.objs j).isOwn then [j] else []) ++ fs.flatMap fun p => rch n h p.2
    | _ => []
def goneL (h : AHp) : List Nat → AHp
  | [] => h
  | i :: r => goneL (if (h.objs i).free then put h i .gone else h) r
def frzX (h : AHp) (x : AV) : Option (Da × AHp) := (worth h x).map fun d => (d, goneL h (rch 9 h x))
@[simp] theorem rch_d (n : Nat) (h : AHp) (x : Da) : rch n h (.d x) = [] := by cases n <;> rfl
@[simp] theorem rch_ds (n : Nat) (h : AHp) (ds : List Da) : (ds.map AV.d).flatMap (rch n h) = [] := by
  induction ds with
  | nil => rfl
  | cons a r ih => rw [List.map_cons, List.flatMap_cons, rch_d, ih]; rfl
section
variable {K : PySem.W.Frag} {W : WX} {I H I' H' I1 H1 : Hp} {h h' h1 : AHp} {ad ad' ad1 : Nat → Addr} {σ : St} {env : Env} {te ta tb : TE} {e ev : EvX} {er : EvA} {tr : TA} {t : TS} {s : EvS}
/-- in any heap of data that has what is reached as it stands -/
theorem frz_rep2 (hh : HH K I H h ad) {J : Hp} (eI : Ex I J) : ∀ (n : Nat) (x : AV) (d : Da) (v : V), frzV n h x = some d → (∀ i ∈ rch n h x, J (ad i) = H (ad i)) → AVr K I h.next ad v x → Rep K J v d
  | n, .d x, d, v, e, _, r => by
    rw [frzV_d] at e
    cases e
    exact Rep.mono eI r
  | 0, .o i, d, v, e, _, r => by cases e
  | n + 1, .o i, d, v, e, hr, r => by
    obtain ⟨l, ev⟩ := r
    subst ev
    have ob := hh.ob i l
    rw [frzV_o] at e
    have ih := frz_rep2 hh eI n
    have fr : J (ad i) = H (ad i) := hr i (by show i ∈ i :: _; exact List.mem_cons_self)
    have sub : ∀ {l : List Nat}, (rch (n + 1) h (.o i) = i :: l) → ∀ j ∈ l, J (ad j) = H (ad j) := fun {l} q j hj => hr j (by rw [q]; exact List.mem_cons_of_mem _ hj)
    cases q : h.objs i with
    | ml vs =>
      rw [q] at e ob
      obtain ⟨xs, hx, p⟩ := ob
      have e1 : (optL (vs.map (frzV n h))).map Da.lst = some d := e
      have er : rch (n + 1) h (.o i) = i :: vs.flatMap (rch n h) := by show i :: (match h.objs i with | .ml vs => vs.flatMap (rch n h) | .tu vs => vs.flatMap (rch n h) | .md kvs => kvs.flatMap fun p => rch n h p.2 | .mt kvs => kvs.flatMap fun p => rch n h p.2 | .ins _ j fs => (if (h.objs j).isOwn then [j] else []) ++ fs.flatMap fun p => rch n h p.2 | _ => []) = _; rw [q]
      cases q2 : optL (vs.map (frzV n h)) with
      | none => rw [q2] at e1; cases e1
      | some ds =>
        rw [q2] at e1
        cases e1
        refine Rep.lst (fr.trans hx) ?_
        have sr := sub er
        clear er e hr hx q sub
        induction p generalizing ds with
        | nil => cases q2; exact .nil
        | @cons w y ws ys a t ih2 =>
          have e' : o2 (frzV n h y) (optL (ys.map (frzV n h))) = some ds := q2
          cases g1 : frzV n h y with
          | none => rw [g1] at e'; cases e'
          | some d1 =>
            cases g2 : optL (ys.map (frzV n h)) with
            | none => rw [g1, g2] at e'; cases e'
            | some ds1 =>
              rw [g1, g2] at e'
              cases e'
              exact .cons (ih y d1 w g1 (fun j hj => sr j (by rw [List.flatMap_cons]; exact List.mem_append_left _ hj)) a) (ih2 ds1 g2 fun j hj => sr j (by rw [List.flatMap_cons]; exact List.mem_append_right _ hj))
    | tu vs =>
      rw [q] at e ob
      obtain ⟨xs, hx, p⟩ := ob
      have e1 : (optL (vs.map (frzV n h))).map Da.tup = some d := e
      have er : rch (n + 1) h (.o i) = i :: vs.flatMap (rch n h) := by show i :: (match h.objs i with | .ml vs => vs.flatMap (rch n h) | .tu vs => vs.flatMap (rch n h) | .md kvs => kvs.flatMap fun p => rch n h p.2 | .mt kvs => kvs.flatMap fun p => rch n h p.2 | .ins _ j fs => (if (h.objs j).isOwn then [j] else []) ++ fs.flatMap fun p => rch n h p.2 | _ => []) = _; rw [q]
      cases q2 : optL (vs.map (frzV n h)) with
      | none => rw [q2] at e1; cases e1
      | some ds =>
        rw [q2] at e1
        cases e1
        refine Rep.tup (SqT.of (fr.trans hx)) ?_
        have sr := sub er
        clear er e hr hx q sub
        induction p generalizing ds with
        | nil => cases q2; exact .nil
        | @cons w y ws ys a t ih2 =>
          have e' : o2 (frzV n h y) (optL (ys.map (frzV n h))) = some ds := q2
          cases g1 : frzV n h y with
          | none => rw [g1] at e'; cases e'
          | some d1 =>
            cases g2 : optL (ys.map (frzV n h)) with
            | none => rw [g1, g2] at e'; cases e'
            | some ds1 =>
              rw [g1, g2] at e'
              cases e'
              exact .cons (ih y d1 w g1 (fun j hj => sr j (by rw [List.flatMap_cons]; exact List.mem_append_left _ hj)) a) (ih2 ds1 g2 fun j hj => sr j (by rw [List.flatMap_cons]; exact List.mem_append_right _ hj))
    | md kvs =>
      rw [q] at e ob
      obtain ⟨xs, hx, p⟩ := ob
      have e1 : (optL (kvs.map fun p => (frzV n h p.2).map fun d => (p.1, d))).map Da.dk = some d := e
      have er : rch (n + 1) h (.o i) = i :: kvs.flatMap (fun p => rch n h p.2) := by show i :: (match h.objs i with | .ml vs => vs.flatMap (rch n h) | .tu vs => vs.flatMap (rch n h) | .md kvs => kvs.flatMap fun p => rch n h p.2 | .mt kvs => kvs.flatMap fun p => rch n h p.2 | .ins _ j fs => (if (h.objs j).isOwn then [j] else []) ++ fs.flatMap fun p => rch n h p.2 | _ => []) = _; rw [q]
      cases q2 : optL (kvs.map fun p => (frzV n h p.2).map fun d => (p.1, d)) with
      | none => rw [q2] at e1; cases e1
      | some ds =>
        rw [q2] at e1
        cases e1
        refine Rep.dk (fr.trans hx) (repd_of_paired ?_)
        have sr := sub er
        clear er e hr hx q sub
        induction p generalizing ds with
        | nil => cases q2; exact .nil
        | @cons w y ws ys a t ih2 =>
          have e' : o2 ((frzV n h y.2).map fun d => (y.1, d)) (optL (ys.map fun p => (frzV n h p.2).map fun d => (p.1, d))) = some ds := q2
          cases g1 : frzV n h y.2 with
          | none => rw [g1] at e'; cases e'
          | some d1 =>
            cases g2 : optL (ys.map fun p => (frzV n h p.2).map fun d => (p.1, d)) with
            | none => rw [g1, g2] at e'; cases e'
            | some ds1 =>
              rw [g1, g2] at e'
              cases e'
              exact .cons ⟨a.1, ih y.2 d1 w.2 g1 (fun j hj => sr j (by rw [List.flatMap_cons]; exact List.mem_append_left _ hj)) a.2⟩ (ih2 ds1 g2 fun j hj => sr j (by rw [List.flatMap_cons]; exact List.mem_append_right _ hj))
    | mt kvs =>
      rw [q] at e ob
      obtain ⟨xs, hx, p⟩ := ob
      have e1 : (optL (kvs.map fun p => (frzV n h p.2).map fun d => (p.1, d))).map Da.dt = some d := e
      have er : rch (n + 1) h (.o i) = i :: kvs.flatMap (fun p => rch n h p.2) := by show i :: (match h.objs i with | .ml vs => vs.flatMap (rch n h) | .tu vs => vs.flatMap (rch n h) | .md kvs => kvs.flatMap fun p => rch n h p.2 | .mt kvs => kvs.flatMap fun p => rch n h p.2 | .ins _ j fs => (if (h.objs j).isOwn then [j] else []) ++ fs.flatMap fun p => rch n h p.2 | _ => []) = _; rw [q]
      cases q2 : optL (kvs.map fun p => (frzV n h p.2).map fun d => (p.1, d)) with
      | none => rw [q2] at e1; cases e1
      | some ds =>
        rw [q2] at e1
        cases e1
        refine Rep.dt (fr.trans hx) (rept_of_paired ?_)
        have sr := sub er
        clear er e hr hx q sub
        induction p generalizing ds with
        | nil => cases q2; exact .nil
        | @cons w y ws ys a t ih2 =>
          have e' : o2 ((frzV n h y.2).map fun d => (y.1, d)) (optL (ys.map fun p => (frzV n h p.2).map fun d => (p.1, d))) = some ds := q2
          cases g1 : frzV n h y.2 with
          | none => rw [g1] at e'; cases e'
          | some d1 =>
            cases g2 : optL (ys.map fun p => (frzV n h p.2).map fun d => (p.1, d)) with
            | none => rw [g1, g2] at e'; cases e'
            | some ds1 =>
              rw [g1, g2] at e'
              cases e'
              exact .cons ⟨a.1, ih y.2 d1 w.2 g1 (fun j hj => sr j (by rw [List.flatMap_cons]; exact List.mem_append_left _ hj)) a.2⟩ (ih2 ds1 g2 fun j hj => sr j (by rw [List.flatMap_cons]; exact List.mem_append_right _ hj))
    | ins C k fs =>
      rw [q] at e ob
      obtain ⟨_, xs, hx, p⟩ := ob
      have e1 : (optL (fs.map fun p => (frzV n h p.2).map fun d => (p.1, d))).map (Da.obj C) = some d := e
      have er : rch (n + 1) h (.o i) = i :: ((if (h.objs k).isOwn then [k] else []) ++ fs.flatMap (fun p => rch n h p.2)) := by show i :: (match h.objs i with | .ml vs => vs.flatMap (rch n h) | .tu vs => vs.flatMap (rch n h) | .md kvs => kvs.flatMap fun p => rch n h p.2 | .mt kvs => kvs.flatMap fun p => rch n h p.2 | .ins _ j fs => (if (h.objs j).isOwn then [j] else []) ++ fs.flatMap fun p => rch n h p.2 | _ => []) = _; rw [q]
      cases q2 : optL (fs.map fun p => (frzV n h p.2).map fun d => (p.1, d)) with
      | none => rw [q2] at e1; cases e1
      | some ds =>
        rw [q2] at e1
        cases e1
        refine Rep.obj (fr.trans hx) (repf_of_paired ?_)
        have sr : ∀ j ∈ fs.flatMap (fun p => rch n h p.2), J (ad j) = H (ad j) := fun j hj => sub er j (List.mem_append_right _ hj)
        clear er e hr hx q sub
        induction p generalizing ds with
        | nil => cases q2; exact .nil
        | @cons w y ws ys a t ih2 =>
          have e' : o2 ((frzV n h y.2).map fun d => (y.1, d)) (optL (ys.map fun p => (frzV n h p.2).map fun d => (p.1, d))) = some ds := q2
          cases g1 : frzV n h y.2 with
          | none => rw [g1] at e'; cases e'
          | some d1 =>
            cases g2 : optL (ys.map fun p => (frzV n h p.2).map fun d => (p.1, d)) with
            | none => rw [g1, g2] at e'; cases e'
            | some ds1 =>
              rw [g1, g2] at e'
              cases e'
              exact .cons ⟨a.1, ih y.2 d1 w.2 g1 (fun j hj => sr j (by rw [List.flatMap_cons]; exact List.mem_append_left _ hj)) a.2⟩ (ih2 ds1 g2 fun j hj => sr j (by rw [List.flatMap_cons]; exact List.mem_append_right _ hj))
    | gone => rw [q] at e; cases e
    | own j => rw [q] at e; cases e
    | lk o => rw [q] at e; cases e
/-- one object becomes data -/
theorem HH.freeze1 (hh : HH K I H h ad) {i : Nat} (l : i < h.next) (fr : (h.objs i).free = true) : ∃ I', HH K I' H (EL.put h i .gone) ad ∧ Goes I H h ad I' H (EL.put h i .gone) ad ∧ I' (ad i) = H (ad i) := by
  have own : Own h ad (ad i) := ⟨i, l, rfl, fr⟩
  obtain ⟨hH, hI⟩ := hh.own own
  obtain ⟨u, hu⟩ : ∃ u, H (ad i) = some u := by
    cases q : H (ad i) with
    | none => exact absurd q hH
    | some u => exact ⟨u, rfl⟩
  have ex : Ex I (upd I (ad i) u) := DL.Ex.new hI
  refine ⟨upd I (ad i) u, ⟨fun a w e => ?_, fun j lj => ?_, hh.inj, hh.tr, fun j lj => ?_, fun j lj q => ?_, fun z a w e => ?_⟩, ⟨ex, fun a o e _ => e, fun a e j n => ?_, fun a e => e, fun a ⟨j, lj, ea, f⟩ => .inl ?_, Nat.le_refl _, fun _ _ => rfl, fun _ l l' => absurd l' (Nat.not_lt.mpr l)⟩, by rw [upd_same, hu]⟩
  · by_cases z : a = ad i
    · rw [z, upd_same] at e
      cases e
      rw [z]; exact .inl hu
    · rw [upd_ne z] at e; exact hh.up a w e
  · have lj' : h.next ≤ j := lj
    have z : j ≠ i := by omega
    show (if j = i then AO.gone else h.objs j) = .gone
    rw [if_neg z]; exact hh.wf j lj'
  · show AOr K (upd I (ad i) u) H h.next ad (ad j) (if j = i then AO.gone else h.objs j)
    by_cases z : j = i
    · rw [if_pos z]; trivial
    · rw [if_neg z]; exact (hh.ob j lj).mono ex (Nat.le_refl _) (fun _ _ => rfl) rfl
  · have q' : (if j = i then AO.gone else h.objs j).isG = false := q
    by_cases z : j = i
    · rw [if_pos z] at q'; cases q'
    · rw [if_neg z] at q'
      have : ad j ≠ ad i := fun y => z (hh.inj j i lj l y)
      rw [upd_ne this]; exact hh.out j lj q'
  · by_cases y : a = ad i
    · rw [y, upd_same] at e
      cases e
      rw [y]; exact hu
    · rw [upd_ne y] at e; exact hh.exa z a w e
  · have z : a ≠ ad i := fun z => n (by rw [z]; exact own)
    rw [upd_ne z]; exact j
  · have f' : (if j = i then AO.gone else h.objs j).free = true := f
    by_cases z : j = i
    · rw [if_pos z] at f'; cases f'
    · rw [if_neg z] at f'; exact ⟨j, lj, ea, f'⟩
theorem HH.freezeL (hh : HH K I H h ad) : ∀ {S : List Nat}, (∀ i ∈ S, i < h.next ∧ ((h.objs i).free = true ∨ I (ad i) = H (ad i))) → ∃ I', HH K I' H (goneL h S) ad ∧ Goes I H h ad I' H (goneL h S) ad ∧ ∀ i ∈ S, I' (ad i) = H (ad i) := by
  intro S
  induction S generalizing h I with
  | nil => intro _; exact ⟨I, hh, Goes.refl, fun _ z => nomatch z⟩
  | cons i r ih =>
    intro hS
    obtain ⟨l, hi⟩ := hS i List.mem_cons_self
    by_cases fr : (h.objs i).free = true
    · obtain ⟨I1, hh1, g1, e1⟩ := hh.freeze1 l fr
      have eg : goneL h (i :: r) = goneL (EL.put h i .gone) r := by show goneL (if (h.objs i).free then EL.put h i .gone else h) r = _; rw [if_pos fr]
      obtain ⟨I2, hh2, g2, e2⟩ := ih hh1 fun j hj => by
        obtain ⟨lj, q⟩ := hS j (List.mem_cons_of_mem _ hj)
        refine ⟨lj, ?_⟩
        by_cases z : j = i
        · rw [z]; exact .inr e1
        · rcases q with q | q
          · refine .inl ?_
            show (if j = i then AO.gone else h.objs j).free = true
            rw [if_neg z]; exact q
          · refine .inr ?_
            cases w : I (ad j) with
            | none =>
              rw [w] at q
              exact absurd q.symm (hh.tr j lj)
            | some u => rw [g1.ii _ _ w, ← q, w]
      rw [eg]
      refine ⟨I2, hh2, g1.trans g2, fun j hj => ?_⟩
      rcases List.mem_cons.mp hj with z | z
      · rw [z]
        cases w : I1 (ad i) with
        | none => rw [w] at e1; exact absurd e1.symm (hh.tr i l)
        | some u => rw [g2.ii _ _ w, ← e1, w]
      · exact e2 j z
    · have eg : goneL h (i :: r) = goneL h r := by show goneL (if (h.objs i).free then EL.put h i .gone else h) r = _; rw [if_neg fr]
      have hi2 : I (ad i) = H (ad i) := hi.resolve_left fr
      obtain ⟨I2, hh2, g2, e2⟩ := ih hh fun j hj => hS j (List.mem_cons_of_mem _ hj)
      rw [eg]
      refine ⟨I2, hh2, g2, fun j hj => ?_⟩
      rcases List.mem_cons.mp hj with z | z
      · rw [z]
        cases w : I (ad i) with
        | none => rw [w] at hi2; exact absurd hi2.symm (hh.tr i l)
        | some u => rw [g2.ii _ _ w, ← hi2, w]
      · exact e2 j z
theorem rch_free (hh : HH K I H h ad) : ∀ (n : Nat) (x : AV) (d : Da) (v : V), frzV n h x = some d → AVr K I h.next ad v x → ∀ i ∈ rch n h x, i < h.next ∧ (h.objs i).free = true
  | n, .d x, d, v, e, r, i, hi => by rw [rch_d] at hi; cases hi
  | 0, .o j, d, v, e, r, i, hi => by cases e
  | n + 1, .o j, d, v, e, r, i, hi => by
    obtain ⟨l, ev⟩ := r
    have ob := hh.ob j l
    rw [frzV_o] at e
    have ih := rch_free hh n
    have lst : ∀ {xs : List V} {vs : List AV} {ds : List Da}, Paired (AVr K I h.next ad) xs vs → optL (vs.map (frzV n h)) = some ds → i ∈ vs.flatMap (rch n h) → i < h.next ∧ (h.objs i).free = true := by
      intro xs vs ds p
      induction p generalizing ds with
      | nil => intro _ q; cases q
      | @cons w y ws ys a t ih2 =>
        intro q2 q
        have e' : o2 (frzV n h y) (optL (ys.map (frzV n h))) = some ds := q2
        cases g1 : frzV n h y with
        | none => rw [g1] at e'; cases e'
        | some d1 =>
          cases g2 : optL (ys.map (frzV n h)) with
          | none => rw [g1, g2] at e'; cases e'
          | some ds1 =>
            rw [List.flatMap_cons] at q
            rcases List.mem_append.mp q with z | z
            · exact ih y d1 w g1 a i z
            · exact ih2 g2 z
    have kvl : ∀ {κ : Type} {xs : List (κ × V)} {vs : List (κ × AV)} {ds : List (κ × Da)}, Paired (KVr κ K I h.next ad) xs vs → optL (vs.map fun p => (frzV n h p.2).map fun d => (p.1, d)) = some ds → i ∈ vs.flatMap (fun p => rch n h p.2) → i < h.next ∧ (h.objs i).free = true := by
      intro κ xs vs ds p
      induction p generalizing ds with
      | nil => intro _ q; cases q
      | @cons w y ws ys a t ih2 =>
        intro q2 q
        have e' : o2 ((frzV n h y.2).map fun d => (y.1, d)) (optL (ys.map fun p => (frzV n h p.2).map fun d => (p.1, d))) = some ds := q2
        cases g1 : frzV n h y.2 with
        | none => rw [g1] at e'; cases e'
        | some d1 =>
          cases g2 : optL (ys.map fun p => (frzV n h p.2).map fun d => (p.1, d)) with
          | none => rw [g1, g2] at e'; cases e'
          | some ds1 =>
            rw [List.flatMap_cons] at q
            rcases List.mem_append.mp q with z | z
            · exact ih y.2 d1 w.2 g1 a.2 i z
            · exact ih2 g2 z
    have hi' : i ∈ j :: (match h.objs j with | .ml vs => vs.flatMap (rch n h) | .tu vs => vs.flatMap (rch n h) | .md kvs => kvs.flatMap fun p => rch n h p.2 | .mt kvs => kvs.flatMap fun p => rch n h p.2 | .ins _ j fs => (if (h.objs j).isOwn then [j] else []) ++ fs.flatMap fun p => rch n h p.2 | _ => []) := hi
    cases q : h.objs j with
    | ml vs =>
      rw [q] at e ob hi'
      obtain ⟨xs, hx, p⟩ := ob
      rcases List.mem_cons.mp hi' with z | z
      · rw [z, q]; exact ⟨l, rfl⟩
      · have e1 : (optL (vs.map (frzV n h))).map Da.lst = some d := e
        cases q2 : optL (vs.map (frzV n h)) with
        | none => rw [q2] at e1; cases e1
        | some ds => exact lst p q2 z
    | tu vs =>
      rw [q] at e ob hi'
      obtain ⟨xs, hx, p⟩ := ob
      rcases List.mem_cons.mp hi' with z | z
      · rw [z, q]; exact ⟨l, rfl⟩
      · have e1 : (optL (vs.map (frzV n h))).map Da.tup = some d := e
        cases q2 : optL (vs.map (frzV n h)) with
        | none => rw [q2] at e1; cases e1
        | some ds => exact lst p q2 z
    | md kvs =>
      rw [q] at e ob hi'
      obtain ⟨xs, hx, p⟩ := ob
      rcases List.mem_cons.mp hi' with z | z
      · rw [z, q]; exact ⟨l, rfl⟩
      · have e1 : (optL (kvs.map fun p => (frzV n h p.2).map fun d => (p.1, d))).map Da.dk = some d := e
        cases q2 : optL (kvs.map fun p => (frzV n h p.2).map fun d => (p.1, d)) with
        | none => rw [q2] at e1; cases e1
        | some ds => exact kvl p q2 z
    | mt kvs =>
      rw [q] at e ob hi'
      obtain ⟨xs, hx, p⟩ := ob
      rcases List.mem_cons.mp hi' with z | z
      · rw [z, q]; exact ⟨l, rfl⟩
      · have e1 : (optL (kvs.map fun p => (frzV n h p.2).map fun d => (p.1, d))).map Da.dt = some d := e
        cases q2 : optL (kvs.map fun p => (frzV n h p.2).map fun d => (p.1, d)) with
        | none => rw [q2] at e1; cases e1
        | some ds => exact kvl p q2 z
    | ins C k fs =>
      rw [q] at e ob hi'
      obtain ⟨lk, xs, hx, p⟩ := ob
      rcases List.mem_cons.mp hi' with z | z
      · rw [z, q]; exact ⟨l, rfl⟩
      · rcases List.mem_append.mp z with z | z
        · by_cases ow : (h.objs k).isOwn = true
          · rw [if_pos ow] at z
            have : i = k := by simpa using z
            rw [this]
            refine ⟨lk, ?_⟩
            cases w : h.objs k <;> rw [w] at ow <;> first | rfl | cases ow
          · rw [if_neg ow] at z; cases z
        · have e1 : (optL (fs.map fun p => (frzV n h p.2).map fun d => (p.1, d))).map (Da.obj C) = some d := e
          cases q2 : optL (fs.map fun p => (frzV n h p.2).map fun d => (p.1, d)) with
          | none => rw [q2] at e1; cases e1
          | some ds => exact kvl p q2 z
    | gone => rw [q] at e; cases e
    | own _ => rw [q] at e; cases e
    | lk _ => rw [q] at e; cases e
theorem freeze_ok (hh : HH K I H h ad) {x : AV} {d : Da} {h' : AHp} {v : V} (e : frzX h x = some (d, h')) (r : AVr K I h.next ad v x) : ∃ I', HH K I' H h' ad ∧ Goes I H h ad I' H h' ad ∧ Rep K I' v d := by
  unfold frzX at e
  cases q : worth h x with
  | none => rw [q] at e; cases e
  | some d0 =>
    rw [q] at e
    simp only [Option.map_some, Option.some.injEq, Prod.mk.injEq] at e
    obtain ⟨e1, e2⟩ := e
    subst e1 e2
    obtain ⟨I', hh', g, eq⟩ := hh.freezeL (S := rch 9 h x) fun i hi => let ⟨a, b⟩ := rch_free hh 9 x d0 v q r i hi; ⟨a, .inl b⟩
    exact ⟨I', hh', g, frz_rep2 hh g.ii 9 x d0 v q eq r⟩
/-- a value is frozen as it is given back -/
def frzR (x : AV) (h : AHp) : Rs AV := match frzX h x with
  | some (d, h') => .ok (.d d) h'
  | none => .bad
@[simp] theorem frzR_d (x : Da) (h : AHp) : frzR (.d x) h = .ok (.d x) h := rfl
theorem frzR_pst {x : AV} {v : V} {QQ : VK} {exk : Exk} (hh : HH K I H h ad) (r : AVr K I h.next ad v x) (p : Pst K (frzR x h) I H h ad (fun z I' H' h' ad' => ∀ u, AVr K I' h'.next ad' u z → QQ u H') exk) : QQ v H := by
  unfold frzR at p
  cases e : frzX h x with
  | none => rw [e] at p; exact p.elim
  | some q =>
    obtain ⟨d, h'⟩ := q
    rw [e] at p
    obtain ⟨I', hh', g, rr⟩ := freeze_ok hh e r
    exact p I' H ad g hh' v rr
def evZ (e : EvX) : EvX := fun env h => (e env h).bind fun v h1 => frzR v h1
/-- e's value, frozen -/
theorem sx_z (he : SX K W te e) : SX K W te (evZ e) := fun I H h ad σ env hh sl QQ p =>
  he I H h ad σ env hh sl _ <| Pst.imp (Pst.bind p) (fun v I1 H1 h1 ad1 g1 hh1 p1 w rw => frzR_pst hh1 rw p1) fun _ _ _ z => z
/-- a name's value is frozen ahead of a statement -/
def evFrz (i : Nat) (s : EvS) : EvS := fun env h => match env[i]? with
  | some (some x) => (match frzX h x with
    | some (d, h') => s (env.set i (some (.d d))) h'
    | none => .bad)
  | _ => .bad
theorem ss_frz {i : Nat} (hs : SS K W t s) : SS K W t (evFrz i s) := fun I H h ad σ env hh sl D p => by
  unfold evFrz at p
  cases e : env[i]? with
  | none => rw [e] at p; exact p.elim
  | some o =>
    cases o with
    | none => rw [e] at p; exact p.elim
    | some x =>
      rw [e] at p
      obtain ⟨o', ho, v, ev, rv⟩ := paired_get sl e
      subst ev
      simp only at p
      cases e2 : frzX h x with
      | none => rw [e2] at p; exact p.elim
      | some q =>
        obtain ⟨d, h'⟩ := q
        rw [e2] at p
        obtain ⟨I', hh', g, rr⟩ := freeze_ok hh e2 rv
        have s2 : SLr K I' h'.next ad σ (env.set i (some (.d d))) := by
          have z := paired_set (F := SVr K I' h'.next ad) (a := some v) (b := some (.d d)) ⟨v, rfl, rr⟩ i (sl.goes g)
          rw [DL.set_get ho] at z
          exact z
        exact hs I' H h' ad σ _ hh' s2 D (PstS.on p g)
end
end EL
/-! Defs and their calls; objects made; exceptions raised and caught; the end. -/
namespace EL
open PySem L2
open PyProof.Rows (envOfC)
open DL (Da Rep RepL RepF RepK RepD RepT Ex RmG FnG CalG MetG MakG XG)
abbrev EvF := List AV → AHp → Rs AV
/-- the promise of a def: what its function says -/
def spE (K : PySem.W.Frag) (n : Nat) (f : EvF) : Sp := fun vs H Q E => vs.length = n ∧ ∃ I h ad xs, HH K I H h ad ∧ Paired (AVr K I h.next ad) vs xs ∧ Pst K (f xs h) I H h ad (fun v I' H' h' ad' => ∀ w, AVr K I' h'.next ad' w v → Q w H') (fun C dx H' => E (.ref C) (some dx) H')
/-- a def's function from its body's -/
def evDef (slots : Nat) (b : EvS) : EvF := fun xs h => match b (xs.map some ++ List.replicate (slots - xs.length) none) h with
  | .nx _ h' => .ok (.d .non) h'
  | .rt v h' => .ok v h'
  | .ex C fs _ h' => .ex C fs h'
  | _ => .bad
section
variable {P : Program} {w : World} {K : PySem.W.Frag} {mg : Str → Option Value} {base : Heap} {x qual : Str} {st : Stmt} {f : Addr} {fd : FuncData} {N ps : List Str} {k n : Nat}
theorem sl_start {I : Hp} {m : Nat} {ad : Nat → Addr} : ∀ {vs : List V} {xs : List AV}, Paired (AVr K I m ad) vs xs → Paired (SVr K I m ad) (vs.map some) (xs.map some)
  | _, _, .nil => .nil
  | _, _, .cons a b => .cons ⟨_, rfl, a⟩ (sl_start b)
theorem sl_nones {I : Hp} {m : Nat} {ad : Nat → Addr} : ∀ n : Nat, Paired (SVr K I m ad) (List.replicate n none) (List.replicate n none)
  | 0 => .nil
  | n + 1 => .cons trivial (sl_nones n)
theorem fn_E {b : EvS} {m : Nat} (F : Fun K x qual st f fd) (S : FnScope N ps (defScope st)) (hn : ps.length = n) (hm : N.length = m)
    (body : ∀ (cdv : Value) (A : Around) (outer : List PySem.Env) (s : Shared) (H : Hp) (E : XK), RmG k (A.deeper (envOfC qual (defScope st) s.heap.objs.size f cdv)) →
      ∃ t, PSs (cxOf (L2.CX P w) P w K mg base N qual (defScope st) f cdv A outer s H E) (defBody st) t ∧ SS K (fun cls d _ H => E cls d H) t b) :
    FnG P w K mg base (L2.CX P w) (k + 1) f fd ps (spE K n (evDef m b)) := by
  refine DL.fng_of F S (fun vs H Q E h => h.1.trans hn.symm) fun cdv A outer s H vs Q E hr h => ?_
  obtain ⟨hl, I, h, ad, xs, hh, r, p⟩ := h
  obtain ⟨t, ht, hb⟩ := body cdv A outer s H E hr
  refine ⟨t, ht, hb I H h ad _ (xs.map some ++ List.replicate (m - xs.length) none) hh ?_ _ ?_⟩
  · show Paired _ (vs.map some ++ List.replicate (N.length - vs.length) none) _
    rw [hm, plen r]
    exact paired_app (sl_start r) (sl_nones _)
  · unfold evDef at p
    cases q : b (xs.map some ++ List.replicate (m - xs.length) none) h with
    | nx env' h' => rw [q] at p; exact fun I' H' ad' σ' g hh' _ => p I' H' ad' g hh' .non Rep.non
    | rt v h' => rw [q] at p; exact fun I' H' ad' u g hh' ru => p I' H' ad' g hh' u ru
    | ex C fs env' h' => rw [q] at p; exact fun I' H' ad' σ' g hh' _ dx ys a b => p I' H' ad' g hh' dx ys a b
    | bk _ _ => rw [q] at p; exact p.elim
    | ct _ _ => rw [q] at p; exact p.elim
    | bad => rw [q] at p; exact p.elim
end
/-! ### calls -/
theorem takesN {X : Cx} : Takes X WN := fun u s' ⟨_, _, _, _, _, _, _, _, _, _, _, _, _, _, _, _, w⟩ => w.elim
section
variable {X : Cx} {k j : Nat} {f C : Addr} {fd : FuncData} {ps : List Str} {sp : Sp} {W : WX} {x m : Str} {p pos apos : Pos} {e o : Expr} {es : List Expr} {ta : TE} {t : TA}
theorem pe_mgS0 {pl : Sem Bool} (c : MetG X.prog X.w X.K X.mg X.base (L2.CX X.prog X.w) k C m sp) (hr : RmG j X.A) (hk : k ≤ j) (tk : Takes X W) (he : PE X o ta)
    (ht : eval (.Call (.Attribute o m apos) [] [] pos) X.env = (do let ov ← eval o X.env; standAt apos.atName; let (f, first) ← holding [ov] (getMethod ov m pl); callWith pos f first (backTo pos (starEach [] X.env)) (backToKw pos (keywordEach [] X.env))) := by rfl) :
    PE X (.Call (.Attribute o m apos) [] [] pos) (DL.tMethS C m sp W ta tNil) := by
  obtain ⟨f, fd, ps, cl, me, F, b⟩ := c.ex
  refine ⟨fun pins s σ H Q I h => PySem.W.methodCall_KW (pl := pl) (thn (he.run pins s σ H _ I h) ?_) ht⟩
  rintro u s1 ⟨y, H1, I1, ry, a, dx, fs, ey, ea, l, q⟩
  subst ey
  cases (show u = Value.ref a from ry)
  refine getmeth_ok I1 ea cl me l (PySem.W.callWith_K0 (first := [.ref a]) I1.kIn me.kp (DL.goGS (us := [.ref a]) (vs := [.ref a]) F (hr.mono hk) b tk I1 (.cons rfl .nil) ?_))
  exact q
end
section
variable {K : PySem.W.Frag} {W : WX} {I H I' H' I1 H1 : Hp} {h h' h1 : AHp} {ad ad' ad1 : Nat → Addr} {σ : St} {env : Env} {te ta tb : TE} {e ev : EvX} {er : EvA} {tr : TA} {t : TS} {s : EvS} {n : Nat} {f : EvF}
def evCall (n : Nat) (f : EvF) (er : EvA) : EvX := fun env h => (er env h).bind fun xs h1 => if xs.length = n then f xs h1 else .bad
theorem sx_call (hr : SA K W tr er) : SX K W (DL.tCallR (spE K n f) W tr) (evCall n f er) := fun I H h ad σ env hh sl QQ p =>
  hr I H h ad σ env hh sl _ <| Pst.imp (Pst.bind p) (fun xs I1 H1 h1 ad1 g1 hh1 p1 vs rv => by
    by_cases z : xs.length = n
    · rw [if_pos z] at p1
      exact ⟨(plen rv).trans z, I1, h1, ad1, xs, hh1, rv, p1⟩
    · rw [if_neg z] at p1; exact p1.elim) fun _ _ _ z => z
/-- o.m(..) -/
def evMeth (C : Addr) (m : Str) (n : Nat) (f : EvF) (eo : EvX) (er : EvA) : EvX := fun env h => (eo env h).bind fun x h1 => match objA h1 C x with
  | some fs => (match fs.lookup m with
    | none => (er env h1).bind fun xs h2 => if xs.length = n then f (x :: xs) h2 else .bad
    | some _ => .bad)
  | none => .bad
theorem sx_meth {C : Addr} {m : Str} (he : SX K W te e) (hr : SA K W tr er) : SX K W (DL.tMethS C m (spE K (n + 1) f) W te tr) (evMeth C m n f e er) := fun I H h ad σ env hh sl QQ p =>
  he I H h ad σ env hh sl _ <| Pst.imp (Pst.bind p) (fun x I1 H1 h1 ad1 g1 hh1 p1 v rv => by
    cases eo : objA h1 C x with
    | none => rw [eo] at p1; exact p1.elim
    | some fs =>
      rw [eo] at p1
      simp only at p1
      cases el : fs.lookup m with
      | some _ => rw [el] at p1; exact p1.elim
      | none =>
        rw [el] at p1
        obtain ⟨a, dx, xs, ea, ha, hp⟩ := objA_ok hh1 eo rv
        refine ⟨a, dx, xs, ea, ha, (pf_lookup (f := m) hp).2 el, hr I1 H1 h1 ad1 σ env hh1 (sl.goes g1) _ <| Pst.imp (Pst.bind p1) (fun ys I2 H2 h2 ad2 g2 hh2 p2 vs rvs => ?_) fun _ _ _ z => z⟩
        by_cases z : ys.length = n
        · rw [if_pos z] at p2
          exact ⟨by rw [List.length_cons, plen rvs, z], I2, h2, ad2, x :: ys, hh2, .cons (rv.goes g2) rvs, p2⟩
        · rw [if_neg z] at p2; exact p2.elim) fun _ _ _ z => z
/-- two new objects at once: an instance and its dict -/
def alloc2 (h : AHp) (C : Addr) : AHp := ⟨h.next + 2, fun j => if j = h.next then .ins C (h.next + 1) [] else if j = h.next + 1 then .own h.next else h.objs j, h.lk⟩
def ext2 (ad : Nat → Addr) (n : Nat) (x dx : Addr) : Nat → Addr := fun j => if j = n then x else if j = n + 1 then dx else ad j
theorem HH.alloc2 (hh : HH K I H h ad) {C x dx : Addr} (hx : H x = none) (hd : H dx = none) (ne : dx ≠ x) :
    HH K I (upd (upd H dx (.own x)) x (.ins C dx [])) (EL.alloc2 h C) (ext2 ad h.next x dx) ∧ Goes I H h ad I (upd (upd H dx (.own x)) x (.ins C dx [])) (EL.alloc2 h C) (ext2 ad h.next x dx) := by
  have hIx : I x = none := hh.up.none hx
  have hId : I dx = none := hh.up.none hd
  have nx : ∀ i, i < h.next → ad i ≠ x := fun i l z => hh.tr i l (by rw [z]; exact hx)
  have nd : ∀ i, i < h.next → ad i ≠ dx := fun i l z => hh.tr i l (by rw [z]; exact hd)
  have e0 : ext2 ad h.next x dx h.next = x := if_pos rfl
  have e1 : ext2 ad h.next x dx (h.next + 1) = dx := by show (if h.next + 1 = h.next then x else if h.next + 1 = h.next + 1 then dx else _) = dx; rw [if_neg (by omega), if_pos rfl]
  have el : ∀ i, i < h.next → ext2 ad h.next x dx i = ad i := fun i l => by show (if i = h.next then x else if i = h.next + 1 then dx else ad i) = ad i; rw [if_neg (by omega), if_neg (by omega)]
  have o0 : (EL.alloc2 h C).objs h.next = .ins C (h.next + 1) [] := if_pos rfl
  have o1 : (EL.alloc2 h C).objs (h.next + 1) = .own h.next := by show (if h.next + 1 = h.next then AO.ins C (h.next + 1) [] else if h.next + 1 = h.next + 1 then AO.own h.next else _) = _; rw [if_neg (by omega), if_pos rfl]
  have ol : ∀ i, i ≠ h.next → i ≠ h.next + 1 → (EL.alloc2 h C).objs i = h.objs i := fun i a b => by show (if i = h.next then AO.ins C (h.next + 1) [] else if i = h.next + 1 then AO.own h.next else h.objs i) = _; rw [if_neg a, if_neg b]
  have hu : ∀ a, a ≠ x → a ≠ dx → upd (upd H dx (.own x)) x (.ins C dx []) a = H a := fun a p q => by rw [upd_ne p, upd_ne q]
  have hux : upd (upd H dx (.own x)) x (.ins C dx []) x = some (.ins C dx []) := upd_same
  have hud : upd (upd H dx (.own x)) x (.ins C dx []) dx = some (.own x) := by rw [upd_ne ne, upd_same]
  have split : ∀ i, i < h.next + 2 → i < h.next ∨ i = h.next ∨ i = h.next + 1 := fun i l => by omega
  refine ⟨⟨fun a w e => ?_, fun j lj => ?_, fun i j li lj e => ?_, fun j lj => ?_, fun j lj => ?_, fun j lj q => ?_, fun z a w e => ?_⟩, ⟨DL.Ex.refl I, fun a w e _ => ?_, fun _ _ e _ => e, fun a e => ?_, fun a ⟨j, lj, ea, f⟩ => ?_, Nat.le_add_right _ _, el, fun i l l' => ?_⟩⟩
  · rw [hu a (fun z => by rw [z, hIx] at e; cases e) (fun z => by rw [z, hId] at e; cases e)]
    exact hh.up a w e
  · have lj' : h.next + 2 ≤ j := lj
    rw [ol j (by omega) (by omega)]
    exact hh.wf j (by omega)
  · have li' : i < h.next + 2 := li
    have lj' : j < h.next + 2 := lj
    rcases split i li' with a | a | a <;> rcases split j lj' with b | b | b
    · rw [el i a, el j b] at e; exact hh.inj i j a b e
    · rw [el i a, b, e0] at e; exact absurd e (nx i a)
    · rw [el i a, b, e1] at e; exact absurd e (nd i a)
    · rw [a, e0, el j b] at e; exact absurd e.symm (nx j b)
    · rw [a, b]
    · rw [a, b, e0, e1] at e; exact absurd e.symm ne
    · rw [a, e1, el j b] at e; exact absurd e.symm (nd j b)
    · rw [a, b, e0, e1] at e; exact absurd e ne
    · rw [a, b]
  · have lj' : j < h.next + 2 := lj
    rcases split j lj' with b | b | b
    · rw [el j b, hu _ (nx j b) (nd j b)]; exact hh.tr j b
    · rw [b, e0, hux]; simp
    · rw [b, e1, hud]; simp
  · have lj' : j < h.next + 2 := lj
    rcases split j lj' with b | b | b
    · rw [el j b, ol j (by omega) (by omega)]
      exact (hh.ob j b).mono (DL.Ex.refl I) (Nat.le_add_right _ _) el (hu _ (nx j b) (nd j b))
    · rw [b, e0, o0]
      exact ⟨(by show h.next + 1 < h.next + 2; omega), [], by rw [e1, hux], .nil⟩
    · rw [b, e1, o1]
      exact ⟨(by show h.next < h.next + 2; omega), by rw [e0, hud]⟩
  · have lj' : j < h.next + 2 := lj
    rcases split j lj' with b | b | b
    · rw [el j b]
      rw [ol j (by omega) (by omega)] at q
      exact hh.out j b q
    · rw [b, e0]; exact hIx
    · rw [b, e1]; exact hId
  · rw [hu a (fun z => by rw [z, hIx] at e; cases e) (fun z => by rw [z, hId] at e; cases e)]
    exact hh.exa z a w e
  · rw [hu a (fun z => by rw [z, hx] at e; cases e) (fun z => by rw [z, hd] at e; cases e)]
    exact e
  · rw [hu a (fun z => e (by rw [z]; exact hx)) (fun z => e (by rw [z]; exact hd))]
    exact e
  · have lj' : j < h.next + 2 := lj
    rcases split j lj' with b | b | b
    · rw [el j b] at ea
      rw [ol j (by omega) (by omega)] at f
      exact .inl ⟨j, b, ea, f⟩
    · rw [b, e0] at ea; rw [← ea]; exact .inr hx
    · rw [b, e1] at ea; rw [← ea]; exact .inr hd
  · have l2 : i < h.next + 2 := l'
    rcases split i l2 with b | b | b
    · omega
    · rw [b, e0]; exact hx
    · rw [b, e1]; exact hd
/-- C(..) -/
def evMake (C : Addr) (n : Nat) (f : EvF) (er : EvA) : EvX := fun env h => (er env h).bind fun xs h1 => if xs.length = n then (f (.o h1.next :: xs) (alloc2 h1 C)).bind fun v h2 => (match v with
  | .d .non => .ok (.o h1.next) h2
  | _ => .bad) else .bad
theorem sx_make {C : Addr} (hr : SA K W tr er) : SX K W (DL.tMakeS C (spE K (n + 1) f) W tr) (evMake C n f er) := fun I H h ad σ env hh sl QQ p =>
  hr I H h ad σ env hh sl _ <| Pst.imp (Pst.bind p) (fun xs I1 H1 h1 ad1 g1 hh1 p1 vs rv => by
    intro x dx hx hd ne
    by_cases z : xs.length = n
    · rw [if_pos z] at p1
      obtain ⟨hh2, g2⟩ := hh1.alloc2 (C := C) hx hd ne
      have p3 := Pst.on p1 g2
      have ex : ext2 ad1 h1.next x dx h1.next = x := if_pos rfl
      refine ⟨by rw [List.length_cons, plen rv, z], I1, EL.alloc2 h1 C, _, .o h1.next :: xs, hh2, .cons ⟨(by show h1.next < h1.next + 2; omega), by rw [ex]⟩ (pmono (fun _ _ q => q.goes g2) rv), ?_⟩
      refine Pst.imp (Pst.bind p3) (fun v I3 H3 h3 ad3 g3 hh3 p4 w rw => ?_) fun _ _ _ z => z
      split at p4
      · cases (show Rep K I3 w .non from rw)
        have lt : h1.next < (EL.alloc2 h1 C).next := by show h1.next < h1.next + 2; omega
        refine ⟨rfl, p4.now hh3 (.ref x) ⟨Nat.lt_of_lt_of_le lt g3.le, ?_⟩⟩
        rw [g3.pre _ lt, ex]
      · exact p4.elim
    · rw [if_neg z] at p1; exact p1.elim) fun _ _ _ z => z
/-! ### self.f = e -/
def putFA (f : Str) (v : AV) : List (Str × AV) → List (Str × AV)
  | [] => [(f, v)]
  | (g, x) :: r => if g = f then (g, v) :: r else (g, x) :: putFA f v r
theorem pputF {m : Nat} {f : Str} {v : V} {x : AV} (rv : AVr K I m ad v x) : ∀ {xs : List (Str × V)} {fs : List (Str × AV)}, Paired (KVr Str K I m ad) xs fs → Paired (KVr Str K I m ad) (putF f v xs) (putFA f x fs)
  | _, _, .nil => .cons ⟨rfl, rv⟩ .nil
  | _, _, .cons (a := (g, u)) (b := (g', y)) a b => by
    obtain ⟨e, r⟩ := a
    have e' : g = g' := e
    subst e'
    show Paired _ (if g = f then (g, v) :: _ else (g, u) :: putF f v _) (if g = f then (g, x) :: _ else (g, y) :: putFA f x _)
    by_cases z : g = f
    · rw [if_pos z, if_pos z]; exact .cons ⟨rfl, rv⟩ b
    · rw [if_neg z, if_neg z]; exact .cons ⟨rfl, r⟩ (pputF rv b)
def evSetF (C : Addr) (eo e : EvX) (f : Str) : EvS := fun env h => (e env h).so env fun v h1 => (eo env h1).so env fun x h2 => match x with
  | .o i => (match h2.objs i with
    | .ins D j fs => if D = C ∧ fs.length < 1000 then .nx env (put h2 i (.ins D j (putFA f v fs))) else .bad
    | _ => .bad)
  | _ => .bad
theorem ss_setF {C : Addr} {f : Str} {eo : EvX} (cl : Cls K C) (na : NoAttr K C f) (ho : SX K W ta eo) (he : SX K W te e) : SS K W (sFld K ta te f) (evSetF C eo e f) := fun I H h ad σ env hh sl D p =>
  he I H h ad σ env hh sl _ <| Pst.imp (PstS.so sl p) (fun v I1 H1 h1 ad1 g1 hh1 p1 w rw =>
    ho I1 H1 h1 ad1 σ env hh1 (sl.goes g1) _ <| Pst.imp (PstS.so (sl.goes g1) p1) (fun x I2 H2 h2 ad2 g2 hh2 p2 u ru => by
      cases x with
      | d _ => exact p2.elim
      | o i =>
        obtain ⟨l, eu⟩ := ru
        subst eu
        have ob := hh2.ob i l
        simp only at p2
        cases q : h2.objs i with
        | ins D2 j fs =>
          rw [q] at p2 ob
          obtain ⟨lj, xs, hx, hp⟩ := ob
          simp only at p2
          by_cases z : D2 = C ∧ fs.length < 1000
          · rw [if_pos z] at p2
            obtain ⟨z1, z2⟩ := z
            subst z1
            refine ⟨_, D2, _, xs, rfl, hx, cl, na, by rw [plen hp]; exact z2, ?_⟩
            obtain ⟨a1, b1⟩ := hh2.put (u := .ins D2 (ad2 j) (putF f w xs)) (o := .ins D2 j (putFA f v fs)) l (by rw [q]; rfl) ⟨lj, _, upd_same, pputF (rw.goes g2) hp⟩ rfl
            exact p2 _ _ _ σ b1 a1 (((sl.goes g1).goes g2).goes b1)
          · rw [if_neg z] at p2; exact p2.elim
        | _ => rw [q] at p2; exact p2.elim) fun _ _ _ z => z) fun _ _ _ z => z
/-! ### raise -/
/-- the promise of an exception's __init__: flat values, kept as they are under its names -/
def cXn (names : List Str) : List Da → (List (Str × Da) → Prop) → Prop := fun ds R => ds.length = names.length ∧ (∀ d ∈ ds, ∃ v, flD d = some v) ∧ R (names.zip ds)
def flatOk (ds : List Da) : Bool := ds.all fun d => (flD d).isSome
def evRaise (C : Addr) (names : List Str) (er : EvA) : EvS := fun env h => (er env h).so env fun xs h1 => match allD xs with
  | some ds => if ds.length = names.length ∧ flatOk ds = true then .ex C (names.zip ds) env h1 else .bad
  | none => .bad
theorem pick_len {α : Type} : ∀ l : List α, DL.pick (List.range l.length) l = l
  | [] => rfl
  | a :: r => by
    have ih := pick_len r
    unfold DL.pick at ih ⊢
    rw [List.length_cons, List.range_succ_eq_map, List.filterMap_cons]
    simp only [List.getElem?_cons_zero, List.filterMap_map]
    congr 1
theorem pick_all {α : Type} {l : List α} {n : Nat} (h : l.length = n) : DL.pick (List.range n) l = l := by
  subst h
  exact pick_len l
theorem ss_raise {C : Addr} {names : List Str} {m : Nat} (hm : names.length = m) (hm2 : m ≤ 100) (hr : SA K W tr er) : SS K W (DL.tRaise C m (List.range m) (DL.spX K m C (cXn names)) tr W) (evRaise C names er) := fun I H h ad σ env hh sl D p =>
  hr I H h ad σ env hh sl _ <| Pst.imp (PstS.so sl p) (fun xs I1 H1 h1 ad1 g1 hh1 p1 vs rv => by
    cases e : allD xs with
    | none => rw [e] at p1; exact p1.elim
    | some ds =>
      rw [e] at p1
      have := allD_is e
      subst this
      simp only at p1
      by_cases z : ds.length = names.length ∧ flatOk ds = true
      · rw [if_pos z] at p1
        obtain ⟨z1, z2⟩ := z
        have rr := paired_repl rv
        have lv : vs.length = m := (DL.repl_len rr).trans (z1.trans hm)
        have fl : ∀ d ∈ ds, ∃ v, flD d = some v := fun d hd => by
          have := List.all_eq_true.mp z2 d hd
          exact Option.isSome_iff_exists.mp this
        have nodL : ∀ {l : List Da}, (∀ d ∈ l, ∃ v, flD d = some v) → noDL l = true := by
          intro l
          induction l with
          | nil => intro _; rfl
          | cons a r ih =>
            intro hl
            obtain ⟨v, hv⟩ := hl a List.mem_cons_self
            exact Bool.and_eq_true_iff.mpr ⟨flD_noD hv, ih fun d hd => hl d (List.mem_cons_of_mem _ hd)⟩
        have ep : DL.pick (List.range m) (vs ++ []) = vs := by rw [List.append_nil]; exact pick_all lv
        refine ⟨lv, by rw [ep, lv]; omega, fun a ha => ?_⟩
        rw [ep]
        have hIa : I1 a = none := hh1.up.none ha
        have e0 : Ex (nod I1) (upd H1 a (exo a C none)) := fun b o hb => by
          have z := hh1.up.nod b o hb
          rw [upd_ne (ne_of_none z ha)]; exact z
        have nIa : nod I1 a = none := by unfold nod; rw [hIa]
        refine ⟨by rw [List.length_cons, lv], nod I1, a, _, ds, _, rfl, e0, nIa, upd_same, repl_nod rr (nodL fl), ⟨z1, fl, rfl⟩, fun I2 H2 dx ys fs st2 e2 h1' h2 hne hIx hHx rf hp => ⟨rfl, dx, ys, h1', h2, ?_, ?_⟩⟩
        · rw [upd_ne hne] at hHx
          exact hHx
        · have hdx : H1 dx = none := by
            rw [upd_ne hne] at hHx
            exact hHx
          have h2a : I2 a = none := st2.own a (by rw [upd_same]; simp) nIa
          have kp : ∀ b o, H1 b = some o → upd (L2.del H2 a) dx (.xd ys) b = some o := fun b o hb => by
            have nb : b ≠ a := ne_of_none hb ha
            rw [upd_ne (ne_of_none hb hdx), L2.del_ne nb]
            exact st2.keep b o (by rw [upd_ne nb]; exact hb) (by simpa using nb)
          have st3 : DL.Step [] (nod I1) H1 (upd I2 dx (.xd ys)) (upd (L2.del H2 a) dx (.xd ys)) := ⟨st2.ii.trans (DL.Ex.new hIx), fun b o hb _ => kp b o hb, fun b hb hn => by
            have nb : b ≠ dx := fun z => hb (by rw [z]; exact hdx)
            rw [upd_ne nb]
            refine st2.own b ?_ hn
            by_cases z : b = a
            · rw [z, upd_same]; simp
            · rw [upd_ne z]; exact hb, fun b hb => by
            cases q : H1 b with
            | none => exact absurd q hb
            | some o => rw [kp b o q]; simp⟩
          have e3 : Ex (upd I2 dx (.xd ys)) (upd (L2.del H2 a) dx (.xd ys)) := fun b o hb => by
            by_cases z : b = dx
            · rw [z, upd_same] at hb ⊢
              exact hb
            · rw [upd_ne z] at hb ⊢
              have nb : b ≠ a := ne_of_none hb h2a
              rw [L2.del_ne nb]
              exact e2 b o hb
          obtain ⟨hh5, g5, ee⟩ := mrg_ok hh1 st3 e3
          have hfs : fs = names.zip ds := hp.symm
          subst hfs
          exact p1 _ _ ad1 σ g5 hh5 ((sl.goes g1).goes g5) dx ys (ee _ _ upd_same) (RepF.mono ((DL.Ex.new hIx).trans ee) rf)
      · rw [if_neg z] at p1; exact p1.elim) fun _ _ _ z => z
end
end EL
/-! try; calls that are kept from raising; own ==, len, str, in; isinstance of own classes; the end. -/
namespace EL
open PySem L2
open PyProof.Rows (envOfC)
open DL (Da Rep RepL RepF RepK RepD RepT Ex RmG FnG CalG MetG MakG XG)
/-! ### try -/
structure EvH where
  yes : List Addr
  no : List Addr
  slot : Nat
  suite : Addr → List (Str × Da) → EvS
def unslot (i : Nat) : So → So
  | .nx e h => .nx (e.set i none) h
  | .bk e h => .bk (e.set i none) h
  | .ct e h => .ct (e.set i none) h
  | .rt v h => .rt v h
  | _ => .bad
def evHs : List EvH → Addr → List (Str × Da) → EvS
  | [], C, fs, env, h => .ex C fs env h
  | x :: r, C, fs, env, h => if C ∈ x.yes then (if x.slot < env.length then unslot x.slot (x.suite C fs (env.set x.slot none) h) else .bad) else if C ∈ x.no then evHs r C fs env h else .bad
def evTry (b : EvS) (hs : List EvH) : EvS := fun env h => match b env h with
  | .ex C fs env1 h1 => evHs hs C fs env1 h1
  | .nx e h => .nx e h | .rt v h => .rt v h | .bk e h => .bk e h | .ct e h => .ct e h | .bad => .bad
/-- a suite's statements, the caught exception in slot i, its fields' dict at dx -/
def SSf (K : PySem.W.Frag) (a dx : Addr) (fs : List (Str × Da)) (i : Nat) (t : TS) (ev : EvS) : Prop :=
  ∀ I H h ad σ env xs, HH K I H h ad → SLr K I h.next ad σ env → σ[i]? = some (some (.ref a)) → I dx = some (.xd xs) → RepF K I xs fs → ∀ D : Ends, PstS K (ev env h) I H h ad D WN → t D σ H
def SXf (K : PySem.W.Frag) (a dx : Addr) (fs : List (Str × Da)) (i : Nat) (te : TE) (ev : EvX) : Prop :=
  ∀ I H h ad σ env xs, HH K I H h ad → SLr K I h.next ad σ env → σ[i]? = some (some (.ref a)) → I dx = some (.xd xs) → RepF K I xs fs → ∀ QQ : VK, Pst K (ev env h) I H h ad (fun v I' H' h' ad' => ∀ w, AVr K I' h'.next ad' w v → QQ w H') (fun _ _ _ => False) → te σ H QQ
def SAf (K : PySem.W.Frag) (a dx : Addr) (fs : List (Str × Da)) (i : Nat) (ta : TA) (ev : EvA) : Prop :=
  ∀ I H h ad σ env xs, HH K I H h ad → SLr K I h.next ad σ env → σ[i]? = some (some (.ref a)) → I dx = some (.xd xs) → RepF K I xs fs → ∀ QQ : List V → Hp → Prop, Pst K (ev env h) I H h ad (fun vs I' H' h' ad' => ∀ ws, Paired (AVr K I' h'.next ad') ws vs → QQ ws H') (fun _ _ _ => False) → ta σ H QQ
inductive HsE (K : PySem.W.Frag) : List DL.Cl3 → List EvH → Prop
  | nil : HsE K [] []
  | cons {c : Value} {ts : Addr → Value → Option Addr → TS} {l : List DL.Cl3} {x : EvH} {hs : List EvH} : (∀ C ∈ x.yes, PySem.W.exmOne K (.ref C) c = some true) → (∀ C ∈ x.no, PySem.W.exmOne K (.ref C) c = some false) →
      (∀ C ∈ x.yes, ∀ a dx fs, SSf K a dx fs x.slot (ts a (.ref C) (some dx)) (x.suite C fs)) → HsE K l hs → HsE K ((c, x.slot, ts) :: l) (x :: hs)
section
variable {K : PySem.W.Frag} {W Wo : WX} {I H I' H' I1 H1 : Hp} {h h' h1 : AHp} {ad ad' ad1 : Nat → Addr} {σ : St} {env : Env} {te ta tb : TE} {e ev : EvX} {er : EvA} {tr : TA} {t : TS} {s : EvS} {n : Nat} {f : EvF} {D : Ends}
theorem unslot_pst {i : Nat} {r : So} (p : PstS K (unslot i r) I H h ad D Wo) : PstS K r I H h ad (DL.endsA D i) WN := by
  cases r with
  | nx e h' => exact fun I' H' ad' σ' g hh sl => p I' H' ad' _ g hh (paired_set (F := SVr K I' h'.next ad') (a := none) (b := none) trivial i sl)
  | bk e h' => exact fun I' H' ad' σ' g hh sl => p I' H' ad' _ g hh (paired_set (F := SVr K I' h'.next ad') (a := none) (b := none) trivial i sl)
  | ct e h' => exact fun I' H' ad' σ' g hh sl => p I' H' ad' _ g hh (paired_set (F := SVr K I' h'.next ad') (a := none) (b := none) trivial i sl)
  | rt v h' => exact p
  | ex C fs e h' => exact p.elim
  | bad => exact p
theorem wish_E {l : List DL.Cl3} {hs : List EvH} (hl : HsE K l hs) {C dx : Addr} {fs : List (Str × Da)} {xs : List (Str × V)} (hh : HH K I H h ad) (sl : SLr K I h.next ad σ env) (hx : I dx = some (.xd xs)) (rf : RepF K I xs fs)
    (p : PstS K (evHs hs C fs env h) I H h ad D Wo) : DL.wishA K Wo D l (.ref C) (some dx) σ H := by
  induction hl with
  | nil => exact p I H ad σ Goes.refl hh sl dx xs hx rf
  | @cons c ts l x hs hy hn su r ih =>
    have p' : PstS K (if C ∈ x.yes then (if x.slot < env.length then unslot x.slot (x.suite C fs (env.set x.slot none) h) else .bad) else if C ∈ x.no then evHs hs C fs env h else .bad) I H h ad D Wo := p
    by_cases z : C ∈ x.yes
    · rw [if_pos z] at p'
      refine ⟨true, hy C z, (fun _ a ha => ?_), (fun q => nomatch q)⟩
      by_cases lt : x.slot < env.length
      · rw [if_pos lt] at p'
        refine su C z a dx fs I H h ad _ _ xs hh (paired_set (F := SVr K I h.next ad) (a := some (.ref a)) (b := none) trivial x.slot sl) ?_ hx rf _ (unslot_pst p')
        rw [List.getElem?_set_self (by rw [plen sl]; exact lt)]
      · rw [if_neg lt] at p'; exact p'.elim
    · rw [if_neg z] at p'
      by_cases y : C ∈ x.no
      · rw [if_pos y] at p'
        exact ⟨false, hn C y, (fun q => nomatch q), fun _ => ih p'⟩
      · rw [if_neg y] at p'; exact p'.elim
theorem ss_try {l : List DL.Cl3} {hs : List EvH} {tb : WX → TS} (hb : ∀ W, SS K W (tb W) s) (hl : HsE K l hs) : SS K Wo (DL.tTryA K Wo l tb) (evTry s hs) := fun I H h ad σ env hh sl D p => by
  refine hb _ I H h ad σ env hh sl D ?_
  unfold evTry at p
  cases q : s env h with
  | nx e h' => rw [q] at p; exact p
  | rt v h' => rw [q] at p; exact p
  | bk e h' => rw [q] at p; exact p
  | ct e h' => rw [q] at p; exact p
  | bad => rw [q] at p; exact p
  | ex C fs env1 h1 =>
    rw [q] at p
    exact fun I' H' ad' σ' g hh' sl' dx xs hx rf => wish_E hl hh' sl' hx rf (PstS.on p g)
section
variable {a dx : Addr} {fs : List (Str × Da)} {i : Nat}
theorem ssf_ret (he : SXf K a dx fs i te e) : SSf K a dx fs i (tRet te) (evRet e) := fun I H h ad σ env xs hh sl hi hx rf D p =>
  he I H h ad σ env xs hh sl hi hx rf _ <| Pst.imp (PstS.so sl p) (fun v I1 H1 h1 ad1 g1 hh1 p1 w rw => p1 I1 H1 ad1 w Goes.refl hh1 rw) fun _ _ _ z => z
theorem sxf_lift (he : SX K WN te e) : SXf K a dx fs i te e := fun I H h ad σ env xs hh sl hi hx rf QQ p => he I H h ad σ env hh sl QQ p
theorem saf_nil : SAf K a dx fs i tNil evNil := fun I H h ad σ env xs hh sl hi hx rf QQ p => p.now hh [] .nil
theorem saf_cons (ha : SXf K a dx fs i te e) (hr : SAf K a dx fs i tr er) : SAf K a dx fs i (tCons te tr) (evCons e er) := fun I H h ad σ env xs hh sl hi hx rf QQ p =>
  ha I H h ad σ env xs hh sl hi hx rf _ <| Pst.imp (Pst.bind p) (fun x I1 H1 h1 ad1 g1 hh1 p1 v rv =>
    hr I1 H1 h1 ad1 σ env xs hh1 (sl.goes g1) hi (g1.ii _ _ hx) (RepF.mono g1.ii rf) _ <| Pst.imp (Pst.bind p1) (fun ys I2 H2 h2 ad2 g2 hh2 p2 ws rs =>
      p2.now hh2 (v :: ws) (.cons (rv.goes g2) rs)) fun _ _ _ z => z) fun _ _ _ z => z
theorem sxf_tup (hr : SAf K a dx fs i tr er) : SXf K a dx fs i (tTup tr) (evTup er) := fun I H h ad σ env xs hh sl hi hx rf QQ p =>
  hr I H h ad σ env xs hh sl hi hx rf _ <| Pst.imp (Pst.bind p) (fun vs I1 H1 h1 ad1 g1 hh1 p1 ws rs => by
    obtain ⟨l, p2⟩ := lim_pst p1
    exact ⟨sz_le (by rw [plen rs]; exact l), fun b hb => mkT_pst hh1 rs hb p2⟩) fun _ _ _ z => z
def evXf (fs : List (Str × Da)) (f : Str) : EvX := fun _ h => ofO ((fs.lookup f).map .d) h
theorem sxf_xf {C : Addr} {f : Str} : SXf K a dx fs i (tXf a (.ref C) (some dx) C f (tVar i)) (evXf fs f) := fun I H h ad σ env xs hh sl hi hx rf QQ p => by
  obtain ⟨y, ey, q⟩ := ofO_now hh p
  cases e : fs.lookup f with
  | none => rw [e] at ey; cases ey
  | some d =>
    rw [e] at ey
    cases ey
    obtain ⟨v, hv, rv⟩ := DL.repF_lookup rf e
    exact ⟨.ref a, hi, rfl, rfl, dx, xs, v, rfl, hh.up.plain hx rfl, hv, q v rv⟩
end
/-! ### kept from raising -/
def sq (sp : Sp) : Sp := fun vs H Q _ => sp vs H Q E0
theorem cx_quiet {P : Program} {w : World} {outer : List PySem.Env} {H : Hp} {s s' : Shared} {u : Value} (c : L2.CX P w outer H s E0 u s') : False := by
  obtain ⟨a, B, H', cls, d, e, x1, x2, x3, x4, x5, x6, x7⟩ := c
  exact x7
theorem FnG.quiet {P : Program} {w : World} {mg : Str → Option Value} {base : Heap} {k : Nat} {f : Addr} {fd : FuncData} {ps : List Str} {sp : Sp} (F : FnG P w K mg base (L2.CX P w) k f fd ps sp) : FnG P w K mg base CX0 k f fd ps (sq sp) where
  len := fun vs H Q E h => F.len vs H Q E0 h
  go := fun A outer s H args us vs Q E hr e0 hb r h => codeAny_mono (F.go A outer s H args us vs Q E0 hr e0 hb r h) fun res s' z => by
    cases res with
    | error er => exact (cx_quiet z).elim
    | ok fl =>
      cases fl with
      | ret u => exact z
      | next => exact z
      | brk => exact z
      | cont => exact z
theorem MetG.quiet {P : Program} {w : World} {mg : Str → Option Value} {base : Heap} {k : Nat} {C : Addr} {m : Str} {sp : Sp} (c : MetG P w K mg base (L2.CX P w) k C m sp) : MetG P w K mg base CX0 k C m (sq sp) := by
  obtain ⟨f, fd, ps, cl, me, F, b⟩ := c.ex
  exact ⟨f, fd, ps, cl, me, FnG.quiet F, b⟩
/-- called with values -/
theorem use_E {vs : List V} {xs : List AV} {Q : VK} (hl : xs.length = n) (hh : HH K I H h ad) (r : Paired (AVr K I h.next ad) vs xs) (p : Pst K (f xs h) I H h ad (fun v I' H' h' ad' => ∀ w, AVr K I' h'.next ad' w v → Q w H') (fun _ _ _ => False)) : sq (spE K n f) vs H Q E0 :=
  ⟨(plen r).trans hl, I, h, ad, xs, hh, r, Pst.imp p (fun _ _ _ _ _ _ _ z => z) fun _ _ _ z => z.elim⟩
/-! ### own classes: which they are, as isinstance and == see them -/
structure Seen (K : PySem.W.Frag) (C : Addr) : Prop where
  ty : ∀ {H : Hp} {a dx : Addr} {fs : List (Str × V)}, H a = some (.ins C dx fs) → TyX K H (.ref a) (.ref C)
theorem seen_of {C : Addr} (cl : Cls K C) (ha : PySem.W.findIn K (.ref C) "__class__" = some (some (.builtin "object.__class__"))) (hn : PySem.W.specialIn K (.builtin "object.__class__") "__get__" = some (some (.builtin "getset_descriptor.__get__")))
    (htk : PySem.W.takesIn K (.builtin "object.__class__") = some true) (hm : PySem.W.mroIn K C (.type "object") = some true) : Seen K C := ⟨fun ho => .base (.ins ho cl ha hn htk hm)⟩
def clsA (h : AHp) : AV → Option Addr
  | .d (.obj C _) => some C
  | .o i => match h.objs i with
    | .ins C _ _ => some C
    | _ => none
  | _ => none
theorem clsA_ok (hh : HH K I H h ad) {v : V} {x : AV} {C : Addr} (e : clsA h x = some C) (r : AVr K I h.next ad v x) : ∃ a dx xs, v = .ref a ∧ H a = some (.ins C dx xs) := by
  have eo : ∃ fs, objA h C x = some fs := by
    cases x with
    | o i =>
      have e' : (match h.objs i with | .ins D _ _ => some D | _ => none) = some C := e
      show ∃ fs, (match h.objs i with | .ins D _ fs => if D = C then some fs else none | _ => none) = some fs
      cases q : h.objs i with
      | ins D j gs => rw [q] at e'; cases e'; exact ⟨gs, if_pos rfl⟩
      | _ => rw [q] at e'; cases e'
    | d x =>
      cases x with
      | obj D ds => cases e; exact ⟨_, if_pos rfl⟩
      | _ => cases e
  obtain ⟨fs, eo⟩ := eo
  obtain ⟨a, dx, xs, ea, ha, _⟩ := objA_ok hh eo r
  exact ⟨a, dx, xs, ea, ha⟩
def fISA (A : Addr) (tbl : List (Addr × Bool)) (xs : List AV) (h : AHp) : Rs AV := match xs with
  | [x, .d (.cls B)] => if B = A then (match clsA h x with
    | some C => (match tbl.lookup C with
      | some b => bV b h
      | none => .bad)
    | none => (match tyA h x with
      | some n => if n ∈ (["NoneType", "bool", "int", "str", "tuple", "list", "dict"] : List String) then bV false h else .bad
      | none => .bad)) else .bad
  | _ => .bad
structure IsaT (K : PySem.W.Frag) (A : Addr) (tbl : List (Addr × Bool)) : Prop where
  own : ∀ C b, tbl.lookup C = some b → PySem.W.kitOne K (.ref C) (.ref A) = some b ∧ Seen K C
  bas : ∀ n ∈ (["NoneType", "bool", "int", "str", "tuple", "list", "dict"] : List String), PySem.W.kitOne K (.type n) (.ref A) = some false
theorem sISA {A : Addr} {tbl : List (Addr × Bool)} (T : IsaT K A tbl) : SRC K (rIsi K) (fISA A tbl) := fun I H h ad hh vs xs rv QQ p => by
  unfold fISA at p
  split at p
  · rename_i x B
    obtain ⟨v, w, rfl, rx, rw'⟩ := pair2 rv
    by_cases z : B = A
    · rw [if_pos z] at p
      subst z
      cases (show Rep K I w (.cls B) from rw')
      cases e : clsA h x with
      | some C =>
        rw [e] at p
        simp only at p
        cases e2 : tbl.lookup C with
        | none => rw [e2] at p; exact p.elim
        | some b =>
          rw [e2] at p
          obtain ⟨k, s⟩ := T.own C b e2
          obtain ⟨a, dx, ys, ea, ha⟩ := clsA_ok hh e rx
          subst ea
          exact ⟨.ref a, .ref B, .ref C, .ref B, b, rfl, .own B, s.ty ha, k, p.now hh _ (Rep.bl _)⟩
      | none =>
        rw [e] at p
        simp only at p
        cases e2 : tyA h x with
        | none => rw [e2] at p; exact p.elim
        | some m =>
          rw [e2] at p
          simp only at p
          split at p
          · rename_i hm
            exact ⟨v, .ref B, .type m, .ref B, false, rfl, .own B, tyA_ok hh e2 rx, T.bas m hm, p.now hh _ (Rep.bl _)⟩
          · exact p.elim
    · rw [if_neg z] at p; exact p.elim
  · exact p.elim
/-- o == x, o != x by C's own __eq__ -/
def fEQO (C : Addr) (tn : List String) (tc : List Addr) (f : EvF) (neg : Bool) (x y : AV) (h : AHp) : Rs AV := match objA h C x with
  | some _ => (match clsA h y with
    | some D => if D ∈ tc then (f [x, y] h).bind fun v h1 => (asB v h1).bind fun b h2 => bV (neg ^^ b) h2 else .bad
    | none => (match tyA h y with
      | some m => if m ∈ tn then (f [x, y] h).bind fun v h1 => (asB v h1).bind fun b h2 => bV (neg ^^ b) h2 else .bad
      | none => .bad))
  | none => .bad
structure EqT (K : PySem.W.Frag) (C : Addr) (tn : List String) (tc : List Addr) : Prop where
  bas : ∀ m ∈ tn, PySem.W.notFirst K C (.type m) = true
  own : ∀ D ∈ tc, PySem.W.notFirst K C (.ref D) = true ∧ Seen K D
theorem sEQO {C : Addr} {tn : List String} {tc : List Addr} {neg : Bool} (T : EqT K C tn tc) : SR2 K (DL.rEqO K C (sq (spE K 2 f)) neg) (fEQO C tn tc f neg) := fun I H h ad hh v w x y rv rw QQ p => by
  unfold fEQO at p
  cases eo : objA h C x with
  | none => rw [eo] at p; exact p.elim
  | some fs =>
    rw [eo] at p
    simp only at p
    obtain ⟨a, dx, xs, ea, ha, _⟩ := objA_ok hh eo rv
    subst ea
    have fin : ∀ tb, TyX K H w tb → PySem.W.notFirst K C tb = true → Pst K ((f [x, y] h).bind fun v h1 => (asB v h1).bind fun b h2 => bV (neg ^^ b) h2) I H h ad (fun z I' H' h' ad' => ∀ u, AVr K I' h'.next ad' u z → QQ u H') (fun _ _ _ => False) → DL.rEqO K C (sq (spE K 2 f)) neg (.ref a) w H QQ := fun tb ty nf q => by
      refine ⟨a, dx, xs, tb, rfl, ha, ty, nf, use_E rfl hh (.cons rv (.cons rw .nil)) <| Pst.imp (Pst.bind q) (fun v1 I1 H1 h1 ad1 g1 hh1 p1 u ru => ?_) fun _ _ _ z => z⟩
      obtain ⟨b, e, p2⟩ := asB_ok hh1 (Pst.bind p1)
      subst e
      cases (show Rep K I1 u (.bl b) from ru)
      refine ⟨b, rfl, ?_⟩
      have z := p2.now hh1 (.bl (neg ^^ b)) (Rep.bl _)
      cases neg with
      | false => simpa using z
      | true => simpa using z
    cases e : clsA h y with
    | some D =>
      rw [e] at p
      simp only at p
      split at p
      · rename_i hD
        obtain ⟨nf, s⟩ := T.own D hD
        obtain ⟨b, dy, ys, eb, hb⟩ := clsA_ok hh e rw
        subst eb
        exact fin _ (s.ty hb) nf p
      · exact p.elim
    | none =>
      rw [e] at p
      simp only at p
      cases e2 : tyA h y with
      | none => rw [e2] at p; exact p.elim
      | some m =>
        rw [e2] at p
        simp only at p
        split at p
        · rename_i hm
          exact fin _ (tyA_ok hh e2 rw) (T.bas m hm) p
        · exact p.elim
/-- len(o), str(o) -/
def fLENO (C : Addr) (f : EvF) (xs : List AV) (h : AHp) : Rs AV := match xs with
  | [x] => (match objA h C x with
    | some _ => (f [x] h).bind fun v h1 => (match v with
      | .d (.int i) => if 0 ≤ i ∧ i ≤ 1000000 then .ok (.d (.int i)) h1 else .bad
      | _ => .bad)
    | none => .bad)
  | _ => .bad
def fSTRO (C : Addr) (f : EvF) (xs : List AV) (h : AHp) : Rs AV := match xs with
  | [x] => (match objA h C x with
    | some _ => (f [x] h).bind fun v h1 => (match v with
      | .d (.str z) => .ok (.d (.str z)) h1
      | _ => .bad)
    | none => .bad)
  | _ => .bad
theorem sSTRO {C : Addr} : SRC K (DL.rStrO C (sq (spE K 1 f))) (fSTRO C f) := fun I H h ad hh vs xs rv QQ p => by
  unfold fSTRO at p
  split at p
  · rename_i x
    obtain ⟨v, rfl, r⟩ := pair1 rv
    cases eo : objA h C x with
    | none => rw [eo] at p; exact p.elim
    | some fs =>
      rw [eo] at p
      simp only at p
      obtain ⟨a, dx, xs, ea, ha, _⟩ := objA_ok hh eo r
      subst ea
      refine ⟨a, dx, xs, rfl, ha, use_E rfl hh (.cons r .nil) <| Pst.imp (Pst.bind p) (fun v1 I1 H1 h1 ad1 g1 hh1 p1 u ru => ?_) fun _ _ _ z => z⟩
      split at p1
      · cases (show Rep K I1 u (.str _) from ru)
        exact ⟨_, rfl, p1.now hh1 _ (Rep.str _)⟩
      · exact p1.elim
  · exact p.elim
/-! ### the end -/
theorem law_E {P : Program} {w : World} {mg : Str → Option Value} {base : Heap} {k : Nat} {fa : Addr} {fd : FuncData} {x : Str} (F : FnG P w K mg base (L2.CX P w) k fa fd [x] (spE K 1 f))
    (hf : ∀ ns : List Int, ∃ h', f [.d (.scr ns)] ⟨0, fun _ => .gone, false⟩ = .ok (.d (.bl true)) h') : FnG P w K mg base CX0 k fa fd [x] (DL.spA K 1 DL.cScr) where
  len := fun vs H Q E h => h.1
  go := fun A outer s H args us vs Q E hr e0 hb r h => by
    obtain ⟨hl, I, ds, R, ei, rr, ⟨ns, rfl, hR⟩, q⟩ := h
    obtain ⟨h', e⟩ := hf ns
    refine (FnG.quiet F).go A outer s H args us vs Q E hr e0 hb r ?_
    have hh : HH K I H ⟨0, fun _ => .gone, false⟩ (fun _ => 0) := ⟨fun a u z => .inl (ei a u z), fun _ _ => rfl, fun i _ l => absurd l (Nat.not_lt_zero _), fun i l => absurd l (Nat.not_lt_zero _), fun i l => absurd l (Nat.not_lt_zero _), fun i l => absurd l (Nat.not_lt_zero _), fun _ => ei⟩
    refine ⟨hl, I, _, _, [.d (.scr ns)], hh, repl_paired rr, ?_⟩
    rw [e]
    intro I' H' ad' g hh' u ru
    have no : ∀ a, ¬ Own ⟨0, fun _ => .gone, false⟩ (fun _ => 0) a := fun a ⟨i, l, _⟩ => Nat.not_lt_zero _ l
    have kp : ∀ a o, H a = some o → H' a = some o := fun a o z => g.keep a o z (no a)
    cases (show Rep K I' u (.bl true) from ru)
    exact q (.bl true) I H' (.bl true) ⟨DL.Ex.refl I, fun a o z _ => kp a o z, fun a z y => y, g.alive⟩ (fun a o z => kp a o (ei a o z)) (Rep.bl true) hR
end
end EL
/-! Between the two layers: a def's promise from data to data, used in a function; a function's promise, as one from data to data. -/
namespace EL
open PySem L2
open PyProof.Rows (envOfC)
open DL (Da Rep RepL RepF RepK RepD RepT Ex RmG FnG CalG MetG MakG XG)
section
variable {K : PySem.W.Frag} {W Wo : WX} {I H I' H' I1 H1 : Hp} {h h' h1 : AHp} {ad ad' ad1 : Nat → Addr} {σ : St} {env : Env} {te ta tb : TE} {e ev : EvX} {er : EvA} {tr : TA} {t : TS} {s : EvS} {n : Nat} {f : EvF} {D : Ends}
/-- x(..), where x's promise is from data to data and its answer is flat -/
def evA (n : Nat) (g : List Da → Option Da) (er : EvA) : EvX := fun env h => (er env h).bind fun xs h1 => if xs.length = n ∧ h1.lk = false then qC g xs h1 else .bad
theorem sx_callA {c : DL.CA} {g : List Da → Option Da} (hg : ∀ ds z, g ds = some z → DL.flat z = true ∧ c ds (fun r => r = z)) (hr : SA K W tr er) : SX K W (tCall (DL.spA K n c) [] E0 tr) (evA n g er) := fun I H h ad σ env hh sl QQ p =>
  hr I H h ad σ env hh sl _ <| Pst.imp (Pst.bind p) (fun xs I1 H1 h1 ad1 g1 hh1 p1 vs rv => by
    by_cases z : xs.length = n ∧ h1.lk = false
    · rw [if_pos z] at p1
      unfold qC at p1
      cases e : optL (xs.map (worth h1)) with
      | none => rw [e] at p1; exact p1.elim
      | some ds =>
        rw [e] at p1
        simp only at p1
        cases e2 : g ds with
        | none => rw [e2] at p1; exact p1.elim
        | some z2 =>
          rw [e2] at p1
          obtain ⟨fl, q⟩ := hg ds z2 e2
          have rr : RepL K (pkO I1 H1 h1 ad1) vs ds := repl_of_paired (opt_paired (α := V) (n := 9) (fun x d v e r => worth_rep hh1 e r) rv e)
          have eH : Ex (pkO I1 H1 h1 ad1) H1 := fun a u ea => by
            unfold pkO at ea
            split at ea
            · exact ea
            · exact hh1.exa z.2 a u ea
          refine ⟨by rw [List.append_nil]; exact (plen rv).trans z.1, pkO I1 H1 h1 ad1, ds, _, eH, by rw [List.append_nil]; exact rr, q, fun v I2 H2 d st e3 rv2 hd => ?_⟩
          subst hd
          obtain ⟨hh2, g2⟩ := hh1.more (H' := H2) fun a o ea => st.keep a o ea (List.not_mem_nil)
          exact p1 I1 H2 ad1 g2 hh2 v (rv2.flat fl)
    · rw [if_neg z] at p1; exact p1.elim) fun _ _ _ z => z
theorem A_of_E {c : DL.CA} {P : Program} {w : World} {mg : Str → Option Value} {base : Heap} {k : Nat} {fa : Addr} {fd : FuncData} {ps : List Str} (F : FnG P w K mg base (L2.CX P w) k fa fd ps (spE K n f))
    (hf : ∀ ds R, ds.length = n → c ds R → ∃ d h', f (ds.map .d) ⟨0, fun _ => .gone, false⟩ = .ok (.d d) h' ∧ h'.lk = false ∧ R d) : FnG P w K mg base CX0 k fa fd ps (DL.spA K n c) where
  len := fun vs H Q E h => by
    obtain ⟨hl, I, ds, R, ei, rr, hc, q⟩ := h
    have hh : HH K I H ⟨0, fun _ => .gone, false⟩ (fun _ => 0) := ⟨fun a u z => .inl (ei a u z), fun _ _ => rfl, fun i _ l => absurd l (Nat.not_lt_zero _), fun i l => absurd l (Nat.not_lt_zero _), fun i l => absurd l (Nat.not_lt_zero _), fun i l => absurd l (Nat.not_lt_zero _), fun _ => ei⟩
    obtain ⟨d, h', e, elk, hR⟩ := hf ds R ((DL.repl_len rr).symm.trans hl) hc
    exact F.len vs H (fun _ _ => True) E0 ⟨hl, I, _, _, ds.map .d, hh, repl_paired rr, by rw [e]; exact fun _ _ _ _ _ _ _ => trivial⟩
  go := fun A outer s H args us vs Q E hr e0 hb r h => by
    obtain ⟨hl, I, ds, R, ei, rr, hc, q⟩ := h
    obtain ⟨d, h', e, elk, hR⟩ := hf ds R ((DL.repl_len rr).symm.trans hl) hc
    refine (FnG.quiet F).go A outer s H args us vs Q E hr e0 hb r ?_
    have hh : HH K I H ⟨0, fun _ => .gone, false⟩ (fun _ => 0) := ⟨fun a u z => .inl (ei a u z), fun _ _ => rfl, fun i _ l => absurd l (Nat.not_lt_zero _), fun i l => absurd l (Nat.not_lt_zero _), fun i l => absurd l (Nat.not_lt_zero _), fun i l => absurd l (Nat.not_lt_zero _), fun _ => ei⟩
    refine ⟨hl, I, _, _, ds.map .d, hh, repl_paired rr, ?_⟩
    rw [e]
    intro I' H' ad' g hh' u ru
    have no : ∀ a, ¬ Own ⟨0, fun _ => .gone, false⟩ (fun _ => 0) a := fun a ⟨i, l, _⟩ => Nat.not_lt_zero _ l
    exact q u I' H' d ⟨g.ii, fun a o z _ => g.keep a o z (no a), fun a z y => g.new a z y (no a), g.alive⟩ (hh'.exa elk) ru hR
end
end EL
/-! The soundness of a def's function, by a tactic; small lemmas. -/
namespace EL
open PySem L2
open PyProof.Rows (envOfC)
open DL (Da Rep RepL RepF RepK RepD RepT Ex RmG FnG CalG MetG MakG XG)
section
variable {K : PySem.W.Frag} {W Wo : WX} {I H I' H' I1 H1 : Hp} {h h' h1 : AHp} {ad ad' ad1 : Nat → Addr} {σ : St} {env : Env} {te ta tb : TE} {e ev : EvX} {er : EvA} {tr : TA} {t : TS} {s : EvS} {n : Nat} {f : EvF} {D : Ends} {g : TG} {tt : TT} {tg : EvG} {c : EvT}
def fNEG (x : AV) (h : AHp) : Rs AV := match x with
  | .d (.int i) => .ok (.d (.int (-i))) h
  | _ => .bad
theorem sNEG : SR1 K (rU fun i => .int (-i)) fNEG := fun I H h ad hh v x rv QQ p => by
  unfold fNEG at p
  split at p
  · cases (show Rep K I v (.int _) from rv)
    exact ⟨_, rfl, p.now hh _ (Rep.int _)⟩
  · exact p.elim
def evLcM (mk : List AV → AHp → Rs AV) (evi : EvA) (vs : List Nat) (tg : EvG) (c : EvT) (e : EvX) : EvX := fun env h => (evi env h).bind fun items h1 => noex (evLcV vs tg c e mk env items h1)
theorem sx_lcML {wi : TI} {evi : EvA} {vs : List Nat} (hi : SIt K W wi evi) (tgi : DL.TgIn g vs) (hg : SG K WN g tg) (hc : ST K WN tt c) (he : SX K WN te e) : SX K W (tLc wi g tt te vs) (evLcM mkL evi vs tg c e) := sx_lcM mkOk_L hi tgi hg hc he
theorem sx_lcMO {wi : TI} {evi : EvA} {vs : List Nat} (hi : SIt K W wi evi) (tgi : DL.TgIn g vs) (hg : SG K WN g tg) (hc : ST K WN tt c) (he : SX K WN te e) : SX K W (tLc wi g tt te vs) (evLcM mkO evi vs tg c e) := sx_lcM mkOk_O hi tgi hg hc he
end
@[simp] theorem goneL_lk (h : AHp) : ∀ l : List Nat, (goneL h l).lk = h.lk := by
  intro l
  induction l generalizing h with
  | nil => rfl
  | cons i r ih =>
    show (goneL (if (h.objs i).free then put h i .gone else h) r).lk = _
    rw [ih]
    split <;> rfl
def strsD : List Da → Option (List Str)
  | [] => some []
  | .str z :: r => (strsD r).map (z :: ·)
  | _ => none
@[simp] theorem strsD_txts (l : List Str) : strsD (DL.txts l) = some l := by
  induction l with
  | nil => rfl
  | cons a r ih => show (strsD (DL.txts r)).map (a :: ·) = _; rw [ih]; rfl
theorem strsD_is : ∀ {ds : List Da} {l : List Str}, strsD ds = some l → ds = DL.txts l
  | [], l, h => by cases h; rfl
  | d :: r, l, h => by
    cases d with
    | str z =>
      have h' : (strsD r).map (z :: ·) = some l := h
      cases e : strsD r with
      | none => rw [e] at h'; cases h'
      | some q => rw [e] at h'; cases h'; rw [strsD_is e]; rfl
    | _ => cases h
end EL
namespace DL
open PySem L2
open PyProof.Rows (envOfC)
theorem powB_ok {i j : Int} {a : Nat} (h : i.natAbs < 2 ^ a) (hj : (a : Int) * j ≤ 2 ^ 27 := by decide) (h0 : 0 ≤ j := by decide) : (Builtin.Int.intBits i : Int) * j ≤ 2 ^ 27 := by
  have hb : Builtin.Int.intBits i ≤ a := by
    unfold Builtin.Int.intBits
    split
    · omega
    · rename_i hz
      have hi : i.natAbs ≠ 0 := by
        intro z
        apply hz
        simp only [Int.natAbs_eq_zero] at z
        simp [z]
      have := (Nat.log2_lt hi).mpr h
      omega
  exact Int.le_trans (Int.mul_le_mul_of_nonneg_right (by omega) h0) hj
theorem RmG.u65 {k : Nat} {A : Around} (h : RmG k A) : A.units + 65 < cLine := by
  have := h.r.un
  omega
/-- a side condition -/
local macro_rules | `(tactic| walk_at "side") => `(tactic| first | rfl | assumption | omega | decide | (simp only [Str.length]; omega))
/-- one step of a reading -/
local macro_rules | `(tactic| walk_at "dl1") => `(tactic| with_reducible first
  | refine rs_seq ?_
  | refine rs_set ?_
  | refine rs_ret ?_
  | refine rs_retN ?_
  | refine rs_next ?_
  | refine rs_if ?_
  | refine rs_par ?_
  | refine rs_par3 ?_
  | refine rd_int ?_
  | refine rd_str ?_
  | refine rd_bl ?_
  | refine rd_non ?_
  | refine rd_ty ?_
  | refine rd_cls ?_
  | refine rd_op ?_
  | refine rd_cb ?_
  | refine rd_if ?_
  | refine rd_neg ?_
  | refine rd_chain ?_
  | refine rd_andV ?_
  | refine rd_orV ?_
  | refine rd_notV ?_
  | refine ra_cons ?_
  | refine ra_nil ?_
  | refine rt_test ?_
  | refine rt_yes ?_
  | refine rt_b ?_
  | refine rt_and ?_
  | refine rt_or ?_
  | refine rt_not ?_
  | refine rg_name ?_
  | refine rgs_nil ?_
  | refine rgs_cons ?_
  | refine call_a ?_
  | refine call_p ?_
  | refine call_n ?_
  | refine tup_d ?_
  | refine mk_x rfl (Nat.le_of_ble_eq_true rfl) ?_
  | refine rd_mk0 ?_
  | refine meth_a ?_
  | refine make_a ?_
  | refine rd_join ?_
  | refine rd_split ?_
  | refine add_i ?_
  | refine sub_i ?_
  | refine mod_i (by walk_at "side") ?_
  | refine lt_i ?_
  | refine le_i ?_
  | refine gt_i ?_
  | refine ge_i ?_
  | refine eq_i ?_
  | refine ne_i ?_
  | refine eq_s ?_
  | refine ne_s ?_
  | refine eq_sn ?_
  | refine eq_ns ?_
  | refine eq_nn ?_
  | refine ne_sn ?_
  | refine ne_ns ?_
  | refine ne_nn ?_
  | refine eq_b ?_
  | refine ne_b ?_
  | refine is_n ?_
  | refine not_n ?_
  | refine in_dct ?_
  | refine nin_dct ?_
  | refine int_i ?_
  | refine abs_i ?_
  | refine max_i ?_
  | refine min_i ?_
  | refine len_t ?_
  | refine len_d ?_
  | refine len_scr ?_
  | refine len_l (IsL.dat _) ?_
  | refine str_s ?_)
/-- names, by their slots -/
local macro_rules | `(tactic| walk_at "dlv") => `(tactic| first
  | refine rd_varD (i := _) rfl ?_
  | refine rd_varO (i := _) rfl ?_)
/-- at the entry: the slots written out -/
local macro_rules | `(tactic| walk_at "dl0") => `(tactic| (dsimp only [cxOf, Cx.nox, Cx.wish]; simp only [startD, dats, List.map_cons, List.map_nil, List.cons_append, List.nil_append, List.length_cons, List.length_nil, Nat.reduceAdd, Nat.reduceSub, List.replicate_succ, List.replicate_zero, List.replicate]))
/-- what a rule asks besides, where it is plain -/
local macro_rules | `(tactic| walk_at "dlx") => `(tactic| first
  | refine ⟨(fun (hz : false = true) => nomatch hz), fun _ => ?_⟩
  | refine ⟨fun _ => ?_, fun (hz : true = false) => nomatch hz⟩
  | refine ⟨Nat.le_of_ble_eq_true rfl, ?_⟩
  | (with_reducible refine ⟨_, rfl, ?_⟩)
  | refine ⟨_, rfl, rfl, ?_⟩
  | refine ⟨_, rfl, Nat.le_of_ble_eq_true rfl, ?_⟩
  | (with_reducible refine ⟨_, _, rfl, ?_⟩)
  | (with_reducible refine ⟨_, _, _, rfl, ?_⟩)
  | refine ⟨_, _, _, 0, _, _, rfl, rfl, rfl, rfl, ?_⟩
  | refine ⟨_, _, _, 1, _, _, rfl, rfl, rfl, rfl, ?_⟩
  | refine ⟨_, _, _, 2, _, _, rfl, rfl, rfl, rfl, ?_⟩
  | refine ⟨_, _, _, 3, _, _, rfl, rfl, rfl, rfl, ?_⟩)
/-- as far as it goes by itself -/
local macro_rules | `(tactic| walk_at "dl") => `(tactic| (repeat (first | walk_at "dl1" | walk_at "dlv" | walk_at "dlx"); try dsimp only [wipeD, List.set_cons_zero, List.set_cons_succ]))
local macro_rules | `(tactic| walk_at "dlk") => `(tactic| (repeat (first | walk_at "dl1" | walk_at "dlv" | (with_reducible refine lst_d ?_) | (with_reducible refine rd_fldx ?_) | (refine add_l (IsL.dat _) (IsL.dat _) (Nat.le_of_ble_eq_true rfl) ?_) | (refine ⟨_, _, _, rfl, by assumption, by assumption, rfl, ?_⟩) | (refine ⟨rfl, rfl, _, rfl, by assumption, ?_⟩) | (refine ⟨rfl, rfl, _, _, rfl, by assumption, by assumption, ?_⟩) | (refine ⟨rfl, rfl, _, _, _, rfl, by assumption, by assumption, by assumption, ?_⟩) | (refine ⟨_, rfl, rfl, rfl, _, rfl, by assumption, ?_⟩) | (refine ⟨_, rfl, rfl, rfl, _, _, rfl, by assumption, by assumption, ?_⟩) | (refine ⟨_, rfl, rfl, rfl, _, _, _, rfl, by assumption, by assumption, by assumption, ?_⟩) | (refine ⟨(rfl : List.length _ = _), ?_⟩) | walk_at "dlx"); try dsimp only [wipeD, List.set_cons_zero, List.set_cons_succ]))
def topR (i : Nat) : Stmt := PySem.Challenge.pw_owedrebuilds_k03_schemas_refused.main.body.getD i (.Pass ⟨0, 0, 0, 0⟩)
abbrev v_LETTERS : V := .str "abcdefghijklmnopqrstuvwxyz"
abbrev v__MOST_TABLES : V := .int 5
abbrev v__MOST_COLUMNS : V := .int 6
abbrev l__RULES : List Str := ["refuse", "clear", "cascade"]
abbrev l__BARRED : List Str := ["key", "self", "table"]
/-- a word of the document: 1 to 8 small letters -/
def isLet (c : Nat) : Bool := decide (c ∈ ("abcdefghijklmnopqrstuvwxyz" : Str).cps.toList)
def isWord (z : Str) : Bool := decide (1 ≤ z.length) && decide (z.length ≤ 8) && z.cps.toList.all isLet
def cWord : CA := fun ds R => ∃ z : Str, ds = [.str z] ∧ z.length ≤ 1000000 ∧ R (.bl (isWord z))
abbrev st_is_word : Stmt := topR 3
abbrev N_is_word : List Str := ["thing", "letter"]
theorem sc_is_word : FnScope N_is_word ["thing"] (defScope st_is_word) := ⟨rfl, rfl, rfl, by decide +kernel, rfl, by decide +kernel, by decide +kernel⟩
abbrev sp_is_word (K : PySem.W.Frag) : Sp := spA K 1 cWord
theorem ok_is_word {P : Program} {w : World} {K : PySem.W.Frag} {mg : Str → Option Value} {base : Heap} (d : DefAt K mg "is_word" st_is_word ["thing"]) (k_LETTERS : ∃ u, mg "LETTERS" = some u ∧ RelV v_LETTERS u) (n_all : mg "all" = none) (n_isinstance : mg "isinstance" = none) (n_len : mg "len" = none) (n_str : mg "str" = none)  : CalG P w K mg base CX0 1 "is_word" (sp_is_word K) := by
  refine DefAt.cal d fun {f fd} F => fn_A (n := 1) F sc_is_word rfl fun cdv A outer s H E hr => ?_
  have hu := hr.r.units
  have hv := hr.u65
  refine ⟨_, (pss_cons (ps_if (PW.pt (pw_or (pt_not (pt_val (pe_callB cISI rfl n_isinstance (by decide +kernel) (pa_cons (pv 0) (pa_cons (pe_bltn (v := V.ty "str") (u := Value.type "str") rfl n_str (by decide +kernel) rfl) pa_nil))))) (pw_or1 (pt_not (pt_chain opLE opLE pe_int (pe_callB cLEN rfl n_len (by decide +kernel) (pa_cons (pv 0) pa_nil)) pe_int))))) (pss_one (ps_ret pe_bl)) pss_nil)
      (pss_one (ps_ret (pe_callB (cALL rfl) rfl n_all (by decide +kernel) (pa_cons (pe_lc (own := [("letter", 1)]) (g := gName 1) (tt := tYes) (te := tOp (rIN K) (tVar 1) (tC v_LETTERS)) rfl sc_is_word.nd (pi_str (pv 0)) (blkOk_by (N := N_is_word) (sc := defScope st_is_word) (by decide +kernel)) (fun _ _ _ _ _ => (pg_name (i := 1) sc_is_word.nd rfl (Or.inl rfl))) (fun _ _ _ _ _ => pts_nil) (fun _ _ _ _ _ => (pe_cmpR (opIN hv) (pv 1) (pe_gcv (v := v_LETTERS) rfl k_LETTERS) (by rfl)))) pa_nil))))), ?_⟩
  rintro ds R hl ⟨z, rfl, hz, hR⟩
  walk_at "dl0"
  walk_at "dl"
  refine isi_ty (n := "str") (b := true) rfl (by decide +kernel) ?_
  walk_at "dl"
  refine len_s hz ?_
  walk_at "dl"
  have fin : isWord z = true → RS K (tRet (tC (V.bl true))) [SK.dat (Da.str z), SK.any] [] { nx := fun _ _ => R Da.non, rt := fun r _ => ∃ d, r = SK.dat d ∧ R d } := fun h => rs_ret (rd_bl ⟨_, rfl, h ▸ hR⟩)
  refine ⟨fun h1 => ?_, fun h1 => ?_⟩
  · walk_at "dl"
    refine ⟨fun h2 => ?_, fun h2 => ?_⟩
    · walk_at "dl"
      have e : isWord z = false := by
        have h3 : ¬ z.length ≤ 8 := by
          have : ¬ ((z.length : Int) ≤ 8) := by simpa using h2
          omega
        simp [isWord, h3]
      rw [e] at hR
      exact hR
    · walk_at "dl"
      refine lc_s (tgIn_name (by decide)) ?_
      walk_at "dl"
      have l1 : 1 ≤ z.length := by
        have : (1 : Int) ≤ z.length := by simpa using h1
        omega
      have l8 : z.length ≤ 8 := by
        have : (z.length : Int) ≤ 8 := by simpa using h2
        omega
      have ls : z.cps.toList.length = z.length := by simp [Str.length]
      refine ⟨fun i acc μ' => μ' = [] ∧ acc = bls ((z.cps.toList.take i).map isLet), ⟨rfl, rfl⟩, ?_, ?_⟩
      · rintro i c acc μ' hc ⟨rfl, rfl⟩
        refine rg_name ?_
        walk_at "dl"
        refine in_sgn ?_
        have hc' : z.cps.toList[i]? = some c := by simpa using hc
        have hi : i < z.cps.toList.length := (List.getElem?_eq_some_iff.mp hc').1
        refine ⟨_, rfl, ?_, rfl, ?_⟩
        · simp only [bls, List.length_map, List.length_take]; omega
        · rw [List.take_add_one, hc']
          simp [bls, isLet]
      · rintro acc μ' ⟨rfl, rfl⟩
        walk_at "dl"
        refine all_b rfl ?_
        refine ⟨_, rfl, ?_⟩
        have e : (((z.cps.toList.take z.cps.size).map isLet).all id) = isWord z := by
          have t : z.cps.toList.take z.cps.size = z.cps.toList := by
            rw [List.take_of_length_le]; simp
          rw [t, List.all_map]
          simp [isWord, l1, l8]
        rw [e]; exact hR
  · have e : isWord z = false := by
      have h3 : ¬ 1 ≤ z.length := by
        have : ¬ ((1 : Int) ≤ z.length) := by simpa using h1
        omega
      simp [isWord, h3]
    rw [e] at hR
    walk_at "dl"
    exact hR
theorem atI_some {α : Type} {xs : List α} {i : Int} (h0 : 0 ≤ i) (h1 : i < xs.length) : ∃ x, atI xs i = some x ∧ x ∈ xs := by
  have hj : ixN xs.length i = some i.toNat := by
    unfold ixN
    simp only [h0, if_true]
    first
      | (rw [if_pos (by omega)])
      | (split <;> first | rfl | omega)
  unfold atI
  rw [hj]
  have hl : i.toNat < xs.length := by omega
  exact ⟨xs[i.toNat], by simp [hl], List.getElem_mem hl⟩

/-- a line of words that opens a table -/
def isTab : List Str → Bool
  | [a, b] => decide (a = "table") && isWord b
  | _ => false
def small (l : List Str) : Prop := l.length ≤ 1000000 ∧ ∀ x ∈ l, x.length ≤ 1000000
def cTab : CA := fun ds R => ∃ l : List Str, ds = [.lst (txts l)] ∧ small l ∧ R (.bl (isTab l))
theorem isTab_len {l : List Str} (h : l.length ≠ 2) : isTab l = false := by
  match l, h with
  | [], _ => rfl
  | [_], _ => rfl
  | [_, _], h => exact absurd rfl h
  | _ :: _ :: _ :: _, _ => rfl
abbrev st__is_table : Stmt := topR 18
abbrev N__is_table : List Str := ["words"]
theorem sc__is_table : FnScope N__is_table ["words"] (defScope st__is_table) := ⟨rfl, rfl, rfl, by decide +kernel, rfl, by decide +kernel, by decide +kernel⟩
abbrev sp__is_table (K : PySem.W.Frag) : Sp := spA K 1 cTab
theorem ok__is_table {P : Program} {w : World} {K : PySem.W.Frag} {mg : Str → Option Value} {base : Heap} (d : DefAt K mg "_is_table" st__is_table ["words"]) (n_len : mg "len" = none) (c_is_word : CalG P w K mg base CX0 1 "is_word" (sp_is_word K)) : CalG P w K mg base CX0 2 "_is_table" (sp__is_table K) := by
  refine DefAt.cal d fun {f fd} F => fn_A (n := 1) F sc__is_table rfl fun cdv A outer s H E hr => ?_
  have hu := hr.r.units
  have hv := hr.u65
  refine ⟨_, (pss_one (ps_ret (pe_and (pe_cmpR (opEQ hu) (pe_callB cLEN rfl n_len (by decide +kernel) (pa_cons (pv 0) pa_nil)) pe_int (nomark _)) (pe_and (pe_cmpR (opEQ hu) (pe_ix (ixANY hu) (pv 0) pe_int (fun _ _ => rfl)) pe_str (nomark _)) (pe_one (pe_cg c_is_word hr (by decide) pass0 rfl (pa_cons (pe_ix (ixANY hu) (pv 0) pe_int (fun _ _ => rfl)) pa_nil))))))), ?_⟩
  rintro ds R hl ⟨l, rfl, hs, hR⟩
  walk_at "dl0"
  walk_at "dl"
  refine ⟨fun h1 => ?_, fun h1 => ?_⟩
  · have h2 : l.length = 2 := by
      have : ((txts l).length : Int) = 2 := by simpa using h1
      simp only [txts, List.length_map] at this
      omega
    match l, h2 with
    | [a, b], _ =>
      have hb : b.length ≤ 1000000 := hs.2 b (by simp)
      walk_at "dl"
      refine ix_l (IsL.dat _) (d := .str a) rfl ?_
      walk_at "dl"
      refine ⟨fun h3 => ?_, fun h3 => ?_⟩
      · walk_at "dl"
        refine ix_l (IsL.dat _) (d := .str b) rfl ?_
        walk_at "dl"
        refine ⟨rfl, b, rfl, hb, _, rfl, ?_⟩
        have e : isTab [a, b] = isWord b := by show (decide (a = "table") && isWord b) = isWord b; rw [h3, Bool.true_and]
        rw [e] at hR
        exact hR
      · have e : isTab [a, b] = false := by show (decide (a = "table") && isWord b) = false; rw [h3, Bool.false_and]
        rw [e] at hR
        exact ⟨_, rfl, hR⟩
  · have h2 : l.length ≠ 2 := fun z => by
      simp [txts, z] at h1
    rw [isTab_len h2] at hR
    exact ⟨_, rfl, hR⟩

/-- room for one more column -/
def cRoom : CA := fun ds R => ∃ (c : List (Str × Da)) (z : Str), ds = [.dct c, .str z] ∧ R (.bl (!(c.lookup z).isSome && decide (c.length < 6)))
/-- what a line of words says of a column -/
def meanOf : List Str → Da
  | [w, _, t, r] => if w = "link" then .tup [.str w, .str t, .str r] else .non
  | [w, _] => .tup [.str w, .non, .non]
  | _ => .non
def cMean : CA := fun ds R => ∃ l : List Str, ds = [.lst (txts l)] ∧ ((∃ b t r : Str, l = [("link" : Str), b, t, r]) ∨ ∃ a b : Str, l = [a, b] ∧ a ≠ "link") ∧ R (meanOf l)
abbrev st__has_room : Stmt := topR 20
abbrev N__has_room : List Str := ["columns", "name"]
theorem sc__has_room : FnScope N__has_room ["columns", "name"] (defScope st__has_room) := ⟨rfl, rfl, rfl, by decide +kernel, rfl, by decide +kernel, by decide +kernel⟩
abbrev sp__has_room (K : PySem.W.Frag) : Sp := spA K 2 cRoom
theorem ok__has_room {P : Program} {w : World} {K : PySem.W.Frag} {mg : Str → Option Value} {base : Heap} (d : DefAt K mg "_has_room" st__has_room ["columns", "name"]) (k__MOST_COLUMNS : ∃ u, mg "_MOST_COLUMNS" = some u ∧ RelV v__MOST_COLUMNS u) (n_len : mg "len" = none)  : CalG P w K mg base CX0 1 "_has_room" (sp__has_room K) := by
  refine DefAt.cal d fun {f fd} F => fn_A (n := 2) F sc__has_room rfl fun cdv A outer s H E hr => ?_
  have hu := hr.r.units
  have hv := hr.u65
  refine ⟨_, (pss_one (ps_ret (pe_and (pe_cmpR (opNIN hv) (pv 1) (pv 0) (by rfl)) (pe_one (pe_cmpR opLT (pe_callB cLEN rfl n_len (by decide +kernel) (pa_cons (pv 0) pa_nil)) (pe_gcv (v := v__MOST_COLUMNS) rfl k__MOST_COLUMNS) (nomark _)))))), ?_⟩
  rintro ds R hl ⟨c, z, rfl, hR⟩
  walk_at "dl0"
  walk_at "dl"
  refine ⟨fun h => ?_, fun h => ?_⟩
  · walk_at "dl"
    have e : (!(c.lookup z).isSome && decide (c.length < 6)) = decide ((c.length : Int) < 6) := by
      rw [h, Bool.true_and, Bool.eq_iff_iff]
      simp only [decide_eq_true_eq]
      omega
    rw [e] at hR
    exact hR
  · rw [h, Bool.false_and] at hR
    exact ⟨_, rfl, hR⟩
abbrev st__meaning_of : Stmt := topR 21
abbrev N__meaning_of : List Str := ["words"]
theorem sc__meaning_of : FnScope N__meaning_of ["words"] (defScope st__meaning_of) := ⟨rfl, rfl, rfl, by decide +kernel, rfl, by decide +kernel, by decide +kernel⟩
abbrev sp__meaning_of (K : PySem.W.Frag) : Sp := spA K 1 cMean
theorem ok__meaning_of {P : Program} {w : World} {K : PySem.W.Frag} {mg : Str → Option Value} {base : Heap} (d : DefAt K mg "_meaning_of" st__meaning_of ["words"])  : CalG P w K mg base CX0 1 "_meaning_of" (sp__meaning_of K) := by
  refine DefAt.cal d fun {f fd} F => fn_A (n := 1) F sc__meaning_of rfl fun cdv A outer s H E hr => ?_
  have hu := hr.r.units
  have hv := hr.u65
  refine ⟨_, (pss_cons (ps_if (pt_cmpR (opEQ hu) (pe_ix (ixANY hu) (pv 0) pe_int (fun _ _ => rfl)) pe_str (nomark _)) (pss_one (ps_ret (pe_tup (pa_cons pe_str (pa_cons (pe_ix (ixANY hu) (pv 0) pe_int (fun _ _ => rfl)) (pa_cons (pe_ix (ixANY hu) (pv 0) pe_int (fun _ _ => rfl)) pa_nil)))))) pss_nil)
      (pss_one (ps_ret (pe_tup (pa_cons (pe_ix (ixANY hu) (pv 0) pe_int (fun _ _ => rfl)) (pa_cons pe_non (pa_cons pe_non pa_nil))))))), ?_⟩
  rintro ds R hl ⟨l, rfl, hl2, hR⟩
  rcases hl2 with ⟨b, t, r, rfl⟩ | ⟨a, b, rfl, hne⟩
  · walk_at "dl0"
    walk_at "dl"
    refine ix_l (IsL.dat _) (d := .str "link") rfl ?_
    walk_at "dl"
    refine ix_l (IsL.dat _) (d := .str t) rfl ?_
    walk_at "dl"
    refine ix_l (IsL.dat _) (d := .str r) rfl ?_
    walk_at "dl"
    exact hR
  · walk_at "dl0"
    walk_at "dl"
    refine ix_l (IsL.dat _) (d := .str a) rfl ?_
    walk_at "dl"
    refine ⟨fun h => absurd (by simpa using h) hne, fun _ => ?_⟩
    walk_at "dl"
    refine ix_l (IsL.dat _) (d := .str a) rfl ?_
    walk_at "dl"
    exact hR
theorem at_lit {α : Type} {xs : List α} {n : Nat} {i : Int} {x : α} (hi : i = (n : Int)) (h : xs[n]? = some x) : atI xs i = some x := by
  subst hi
  have hl : n < xs.length := (List.getElem?_eq_some_iff.mp h).1
  obtain ⟨y, hy, _⟩ := atI_some (xs := xs) (i := (n : Int)) (by omega) (by omega)
  have e : ixN xs.length (n : Int) = some n := by
    unfold ixN
    simp only [Int.natCast_nonneg, if_true, Int.toNat_natCast]
    first
      | (rw [if_pos (by omega)])
      | (split <;> first | rfl | omega)
      | simp [hl]
  unfold atI
  rw [e]
  exact h
/-- a line of words that tells a column -/
def colLink (names : List Str) : List Str → Bool
  | [t, u] => decide (t ∈ names) && decide (u ∈ ([("refuse" : Str), "clear", "cascade"] : List Str))
  | _ => false
def colPlain (w : Str) : List Str → Bool
  | [] => decide (w ∈ ([("value" : Str), "flag"] : List Str))
  | _ => false
def isCol (names : List Str) : List Str → Bool
  | w :: n :: r => isWord n && !decide (n ∈ ([("key" : Str), "self", "table"] : List Str)) && (if w = "link" then colLink names r else colPlain w r)
  | _ => false
def cCol : CA := fun ds R => ∃ l names : List Str, ds = [.lst (txts l), .lst (txts names)] ∧ small l ∧ R (.bl (isCol names l))
abbrev st__is_column : Stmt := topR 19
abbrev N__is_column : List Str := ["words", "names"]
theorem sc__is_column : FnScope N__is_column ["words", "names"] (defScope st__is_column) := ⟨rfl, rfl, rfl, by decide +kernel, rfl, by decide +kernel, by decide +kernel⟩
abbrev sp__is_column (K : PySem.W.Frag) : Sp := spA K 2 cCol
theorem ok__is_column {B__BARRED B__RULES : Addr} {P : Program} {w : World} {K : PySem.W.Frag} {mg : Str → Option Value} {base : Heap} (d : DefAt K mg "_is_column" st__is_column ["words", "names"]) (g__BARRED : mg "_BARRED" = some (.ref B__BARRED)) (t__BARRED : ∀ H : Hp, SqT K H B__BARRED (l__BARRED.map V.str)) (g__RULES : mg "_RULES" = some (.ref B__RULES)) (t__RULES : ∀ H : Hp, SqT K H B__RULES (l__RULES.map V.str)) (n_len : mg "len" = none) (c_is_word : CalG P w K mg base CX0 1 "is_word" (sp_is_word K)) : CalG P w K mg base CX0 2 "_is_column" (sp__is_column K) := by
  refine DefAt.cal d fun {f fd} F => fn_A (n := 2) F sc__is_column rfl fun cdv A outer s H E hr => ?_
  have hu := hr.r.units
  have hv := hr.u65
  refine ⟨_, (pss_cons (ps_if (PW.pt (pw_or (pt_cmpR opLT (pe_callB cLEN rfl n_len (by decide +kernel) (pa_cons (pv 0) pa_nil)) pe_int (nomark _)) (pw_or (pt_not (pt_val (pe_cg c_is_word hr (by decide) pass0 rfl (pa_cons (pe_ix (ixANY hu) (pv 0) pe_int (fun _ _ => rfl)) pa_nil)))) (pw_or1 (pt_cmpR (opIN hv) (pe_ix (ixANY hu) (pv 0) pe_int (fun _ _ => rfl)) (pe_ktup (a := B__BARRED) rfl g__BARRED ) (by rfl)))))) (pss_one (ps_ret pe_bl)) pss_nil)
      (pss_cons (ps_if (pt_cmpR (opEQ hu) (pe_ix (ixANY hu) (pv 0) pe_int (fun _ _ => rfl)) pe_str (nomark _)) (pss_one (ps_ret (pe_and (pe_cmpR (opEQ hu) (pe_callB cLEN rfl n_len (by decide +kernel) (pa_cons (pv 0) pa_nil)) pe_int (nomark _)) (pe_and (pe_cmpR (opIN hv) (pe_ix (ixANY hu) (pv 0) pe_int (fun _ _ => rfl)) (pv 1) (by rfl)) (pe_one (pe_cmpR (opIN hv) (pe_ix (ixANY hu) (pv 0) pe_int (fun _ _ => rfl)) (pe_ktup (a := B__RULES) rfl g__RULES ) (by rfl))))))) pss_nil)
      (pss_one (ps_ret (pe_and (pe_cmpR (opEQ hu) (pe_callB cLEN rfl n_len (by decide +kernel) (pa_cons (pv 0) pa_nil)) pe_int (nomark _)) (pe_one (pe_cmpR (opIN hv) (pe_ix (ixANY hu) (pv 0) pe_int (fun _ _ => rfl)) (pe_tup (pa_cons pe_str (pa_cons pe_str pa_nil))) (by rfl)))))))), ?_⟩
  rintro ds R hl ⟨l, names, rfl, hs, hR⟩
  walk_at "dl0"
  walk_at "dl"
  refine ⟨fun h1 => ?_, fun h1 => ?_⟩
  · have hl2 : l.length < 2 := by
      have : ((txts l).length : Int) < 2 := by simpa using h1
      simp only [txts, List.length_map] at this
      omega
    have e : isCol names l = false := by
      match l, hl2 with
      | [], _ => rfl
      | [_], _ => rfl
    rw [e] at hR
    walk_at "dl"
    exact hR
  · have hl2 : 2 ≤ l.length := by
      have : ¬ ((txts l).length : Int) < 2 := by simpa using h1
      simp only [txts, List.length_map] at this
      omega
    match l, hl2 with
    | w :: n :: r, _ =>
      have hn : n.length ≤ 1000000 := hs.2 n (by simp)
      walk_at "dl"
      refine ix_l (IsL.dat _) (d := .str n) (at_lit (n := 1) rfl rfl) ?_
      walk_at "dl"
      refine ⟨rfl, n, rfl, hn, _, rfl, ?_⟩
      refine ⟨fun h2 => ?_, fun h2 => ?_⟩
      · have e : isWord n = false := by simpa using h2
        have e2 : isCol names (w :: n :: r) = false := by
          show (isWord n && _ && _) = false
          rw [e, Bool.false_and, Bool.false_and]
        rw [e2] at hR
        walk_at "dl"
        exact hR
      · have e : isWord n = true := by simpa using h2
        walk_at "dl"
        refine ix_l (IsL.dat _) (d := .str n) (at_lit (n := 1) rfl rfl) ?_
        walk_at "dl"
        refine rd_ktup t__BARRED ?_
        refine in_tup rfl ?_
        refine ⟨_, rfl, ?_⟩
        refine ⟨fun h3 => ?_, fun h3 => ?_⟩
        · have e2 : isCol names (w :: n :: r) = false := by
            show (isWord n && !decide (n ∈ ([("key" : Str), "self", "table"] : List Str)) && _) = false
            rw [h3, Bool.not_true, Bool.and_false, Bool.false_and]
          rw [e2] at hR
          walk_at "dl"
          exact hR
        · have hh : isCol names (w :: n :: r) = (if w = "link" then colLink names r else colPlain w r) := by
            show (isWord n && !decide (n ∈ ([("key" : Str), "self", "table"] : List Str)) && _) = _
            rw [e, h3, Bool.not_false, Bool.true_and, Bool.true_and]
          rw [hh] at hR
          walk_at "dl"
          refine ix_l (IsL.dat _) (d := .str w) (at_lit (n := 0) rfl rfl) ?_
          walk_at "dl"
          refine ⟨fun h4 => ?_, fun h4 => ?_⟩
          · rw [if_pos (of_decide_eq_true h4)] at hR
            walk_at "dl"
            refine ⟨fun h5 => ?_, fun h5 => ?_⟩
            · have h6 : r.length = 2 := by
                have : ((txts (w :: n :: r)).length : Int) = 4 := by simpa using h5
                simp only [txts, List.length_map, List.length_cons] at this
                omega
              match r, h6 with
              | [t, u], _ =>
                walk_at "dl"
                refine ix_l (IsL.dat _) (d := .str t) (at_lit (n := 2) rfl rfl) ?_
                walk_at "dl"
                refine in_strs rfl (IsL.dat _) ?_
                refine ⟨_, rfl, fun h7 => ?_, fun h7 => ?_⟩
                · walk_at "dl"
                  refine ix_l (IsL.dat _) (d := .str u) (at_lit (n := 3) rfl rfl) ?_
                  walk_at "dl"
                  refine rd_ktup t__RULES ?_
                  refine in_tup rfl ?_
                  have e3 : (decide (t ∈ names) && decide (u ∈ ([("refuse" : Str), "clear", "cascade"] : List Str))) = decide (u ∈ ([("refuse" : Str), "clear", "cascade"] : List Str)) := by rw [h7, Bool.true_and]
                  have hR' : R (.bl (decide (t ∈ names) && decide (u ∈ ([("refuse" : Str), "clear", "cascade"] : List Str)))) := hR
                  rw [e3] at hR'
                  exact ⟨_, rfl, hR'⟩
                · have e3 : (decide (t ∈ names) && decide (u ∈ ([("refuse" : Str), "clear", "cascade"] : List Str))) = false := by rw [h7, Bool.false_and]
                  have hR' : R (.bl (decide (t ∈ names) && decide (u ∈ ([("refuse" : Str), "clear", "cascade"] : List Str)))) := hR
                  rw [e3] at hR'
                  exact ⟨_, rfl, hR'⟩
            · have h6 : r.length ≠ 2 := fun z => by
                simp [txts, z] at h5
              have e3 : colLink names r = false := by
                match r, h6 with
                | [], _ => rfl
                | [_], _ => rfl
                | [_, _], h => exact absurd rfl h
                | _ :: _ :: _ :: _, _ => rfl
              rw [e3] at hR
              exact ⟨_, rfl, hR⟩
          · rw [if_neg (of_decide_eq_false h4)] at hR
            walk_at "dl"
            refine ⟨fun h5 => ?_, fun h5 => ?_⟩
            · have h6 : r.length = 0 := by
                have : ((txts (w :: n :: r)).length : Int) = 2 := by simpa using h5
                simp only [txts, List.length_map, List.length_cons] at this
                omega
              match r, h6 with
              | [], _ =>
                walk_at "dl"
                refine ix_l (IsL.dat _) (d := .str w) (at_lit (n := 0) rfl rfl) ?_
                walk_at "dl"
                refine in_tup (l := ["value", "flag"]) rfl ?_
                exact ⟨_, rfl, hR⟩
            · have h6 : r ≠ [] := fun z => by
                subst z
                simp [txts] at h5
              have e3 : colPlain w r = false := by
                match r, h6 with
                | [], h => exact absurd rfl h
                | _ :: _, _ => rfl
              rw [e3] at hR
              exact ⟨_, rfl, hR⟩

theorem spl_bound (s : Nat) : ∀ (l acc : List Nat), (∀ p ∈ TL.spl [s] 0 acc l, p.length ≤ acc.length + l.length) ∧ (TL.spl [s] 0 acc l).length ≤ l.length + 1
  | [], acc => by
    rw [TL.spl_nil]
    exact ⟨fun p hp => by
      have : p = acc := by simpa using hp
      rw [this]; exact Nat.le_add_right _ _, Nat.le_refl _⟩
  | c :: r, acc => by
    cases h : TL.pre [s] (c :: r) with
    | true =>
      rw [TL.spl_hit h]
      obtain ⟨h1, h2⟩ := spl_bound s r []
      refine ⟨fun p hp => ?_, by simp only [List.length_cons] at *; exact Nat.succ_le_succ h2⟩
      rcases List.mem_cons.mp hp with z | z
      · rw [z]; exact Nat.le_add_right _ _
      · have := h1 p z
        simp only [List.length_nil, List.length_cons] at *
        omega
    | false =>
      rw [TL.spl_miss h]
      obtain ⟨h1, h2⟩ := spl_bound s r (acc ++ [c])
      refine ⟨fun p hp => ?_, by simp only [List.length_cons] at *; omega⟩
      have := h1 p hp
      simp only [List.length_append, List.length_cons, List.length_nil] at *
      omega
/-- the words of a line -/
abbrev wordsOf (z : Str) : List Str := Txt.split z " "
theorem words_spl (z : Str) : (wordsOf z).map TL.tl = TL.spl [32] 0 [] (TL.tl z) := TL.split_spl z " " (by decide) (TL.kind_ok (by decide +kernel))
theorem words_small {z : Str} (h : z.length ≤ 900000) : small (wordsOf z) := by
  obtain ⟨h1, h2⟩ := spl_bound 32 (TL.tl z) []
  rw [← words_spl] at h1 h2
  have hz : (TL.tl z).length = z.length := by simp [TL.tl, Str.length]
  rw [hz] at h1 h2
  rw [List.length_map] at h2
  refine ⟨by omega, fun x hx => ?_⟩
  have := h1 (TL.tl x) (List.mem_map.mpr ⟨x, hx, rfl⟩)
  have hx2 : (TL.tl x).length = x.length := by simp [TL.tl, Str.length]
  simp only [List.length_nil] at this
  omega
/-- the tables that the lines name -/
def nameOf (ws : List Str) : List Str := if isTab ws then (match ws with | [_, n] => [n] | _ => []) else []
def wrote (lines : List Str) : List Str := (lines.map wordsOf).flatMap nameOf
def fine (l : List Str) : Prop := l.length ≤ 90000 ∧ ∀ x ∈ l, x.length ≤ 900000
/-- a line, cut into its words -/
def lineD (z : Str) : Da := .lst (txts (wordsOf z))
theorem txts_get {l : List Str} {i : Nat} {e : Da} (h : (txts l)[i]? = some e) : ∃ z, l[i]? = some z ∧ e = .str z := by
  unfold txts at h
  rw [List.getElem?_map] at h
  cases q : l[i]? with
  | none => rw [q] at h; cases h
  | some z => rw [q] at h; exact ⟨z, rfl, (Option.some.inj h).symm⟩
theorem lines_get {l : List Str} {i : Nat} {e : Da} (h : (l.map lineD)[i]? = some e) : ∃ z, l[i]? = some z ∧ e = lineD z := by
  rw [List.getElem?_map] at h
  cases q : l[i]? with
  | none => rw [q] at h; cases h
  | some z => rw [q] at h; exact ⟨z, rfl, (Option.some.inj h).symm⟩
def cWrote : CA := fun ds R => ∃ l : List Str, ds = [.lst (txts l)] ∧ fine l ∧ R (.lst (txts (wrote l)))
theorem isTab_two {ws : List Str} (h : isTab ws = true) : ∃ a n, ws = [a, n] := by
  match ws, h with
  | [a, n], _ => exact ⟨a, n, rfl⟩
  | [], h => cases h
  | [_], h => cases h
  | _ :: _ :: _ :: _, h => cases h
abbrev st__written_tables : Stmt := topR 17
abbrev N__written_tables : List Str := ["lines", "written", "line", "words"]
theorem sc__written_tables : FnScope N__written_tables ["lines"] (defScope st__written_tables) := ⟨rfl, rfl, rfl, by decide +kernel, rfl, by decide +kernel, by decide +kernel⟩
abbrev sp__written_tables (K : PySem.W.Frag) : Sp := spA K 1 cWrote
theorem ok__written_tables {P : Program} {w : World} {K : PySem.W.Frag} {mg : Str → Option Value} {base : Heap} (d : DefAt K mg "_written_tables" st__written_tables ["lines"]) (c__is_table : CalG P w K mg base CX0 2 "_is_table" (sp__is_table K)) : CalG P w K mg base CX0 3 "_written_tables" (sp__written_tables K) := by
  refine DefAt.cal d fun {f fd} F => fn_A (n := 1) F sc__written_tables rfl fun cdv A outer s H E hr => ?_
  have hu := hr.r.units
  have hv := hr.u65
  refine ⟨_, (pss_cons (ps_setLc (i := 1) (own := [("line", 2)]) (g := gName 2) (tt := tYes) (te := tM1 rSplit (tVar 2) (tC (.str " "))) rfl sc__written_tables.nd rfl rfl (sw_true rfl rfl rfl (by decide +kernel)) (pi_list (pv 0)) (blkOk_by (N := N__written_tables) (sc := defScope st__written_tables) (by decide +kernel)) (fun _ _ _ _ _ => (pg_name (i := 2) sc__written_tables.nd rfl (Or.inl rfl))) (fun _ _ _ _ _ => pts_nil) (fun _ _ _ _ _ => (pe_split (pv 2) pe_str)))
      (pss_one (ps_ret (pe_lc (own := [("words", 3)]) (g := gName 3) (tt := tB (tCall (sp__is_table K) [] E0 (tCons (tVar 3) (tNil)))) (te := tOp (rIX K) (tVar 3) (tC (.int 1))) rfl sc__written_tables.nd (pi_list (pv 1)) (blkOk_by (N := N__written_tables) (sc := defScope st__written_tables) (by decide +kernel)) (fun _ _ _ _ _ => (pg_name (i := 3) sc__written_tables.nd rfl (Or.inl rfl))) (fun _ _ _ _ _ => (pts_one (pt_val (pe_cg c__is_table hr (by decide) pass0 rfl (pa_cons (pv 3) pa_nil))))) (fun _ _ _ _ _ => (pe_ix (ixANY hu) (pv 3) pe_int (fun _ _ => rfl))))))), ?_⟩
  rintro ds R hl ⟨l, rfl, hf, hR⟩
  walk_at "dl0"
  walk_at "dl"
  refine lc_o (tgIn_name (by decide)) ?_
  walk_at "dl"
  refine ⟨txts l, IsL.dat _, fun i acc => acc = (l.take i).map lineD, rfl, ?_, ?_⟩
  · rintro i e acc he rfl
    obtain ⟨z, hz, rfl⟩ := txts_get he
    have hzl : z.length ≤ 900000 := hf.2 z (List.mem_of_getElem? hz)
    have hi : i < l.length := (List.getElem?_eq_some_iff.mp hz).1
    have h90 := hf.1
    refine rg_name ?_
    walk_at "dl"
    refine ⟨by decide +kernel, by omega, _, rfl, by rw [List.length_map, List.length_take]; omega, rfl, ?_⟩
    rw [List.take_add_one, hz]
    simp [lineD]
  · rintro acc rfl
    rw [show (l.take (txts l).length) = l from by rw [txts, List.length_map, List.take_length]]
    walk_at "dl"
    refine lc_o (tgIn_name (by decide)) ?_
    walk_at "dl"
    refine ⟨l.map lineD, IsL.dat _, fun i acc => acc = txts (((l.take i).map wordsOf).flatMap nameOf) ∧ acc.length ≤ i, ⟨rfl, Nat.le_refl _⟩, ?_, ?_⟩
    · rintro i e acc he ⟨rfl, hla⟩
      obtain ⟨z, hz, rfl⟩ := lines_get he
      have hzl : z.length ≤ 900000 := hf.2 z (List.mem_of_getElem? hz)
      have hi : i < l.length := (List.getElem?_eq_some_iff.mp hz).1
      have h90 := hf.1
      refine rg_name ?_
      walk_at "dl"
      refine ⟨rfl, wordsOf z, rfl, words_small hzl, _, rfl, fun hb => ?_, fun hb => ?_⟩
      · obtain ⟨a, n, hw⟩ := isTab_two hb
        walk_at "dl"
        refine ix_l (IsL.dat (txts (wordsOf z))) (d := .str n) (at_lit (n := 1) rfl (by rw [hw]; rfl)) ?_
        have e1 : txts (((l.take (i + 1)).map wordsOf).flatMap nameOf) = txts (((l.take i).map wordsOf).flatMap nameOf) ++ [.str n] := by
          have hn : nameOf (wordsOf z) = [n] := by unfold nameOf; rw [if_pos hb, hw]
          rw [List.take_add_one, hz]
          simp [txts, hn]
        exact ⟨_, rfl, by omega, rfl, e1.symm, by simp only [List.length_append, List.length_cons, List.length_nil]; omega⟩
      · have e1 : txts (((l.take (i + 1)).map wordsOf).flatMap nameOf) = txts (((l.take i).map wordsOf).flatMap nameOf) := by
          have hn : nameOf (wordsOf z) = [] := by unfold nameOf; rw [if_neg (by rw [hb]; decide)]
          rw [List.take_add_one, hz]
          simp [txts, hn]
        exact ⟨rfl, e1.symm, Nat.le_succ_of_le hla⟩
    · rintro acc ⟨rfl, hla⟩
      rw [show (l.take (l.map lineD).length) = l from by rw [List.length_map, List.take_length]]
      exact ⟨_, rfl, hR⟩

def abc26 : Str := "abcdefghijklmnopqrstuvwxyz"
theorem abc26_len : abc26.cps.toList.length = 26 := by decide +kernel
def letter (n : Int) : Str := ⟨#[(abc26.cps.toList[(n % 26).toNat]?).getD 97]⟩
/-- the word of a number, letter by letter -/
def lettersF : Nat → Int → Str → Str
  | 0, _, acc => acc
  | k + 1, n, acc => lettersF k (n / 26) (acc ++ letter n)
def cLetters : CA := fun ds R => ∃ (n : Int) (k : Nat), ds = [.int n, .int k] ∧ 0 ≤ n ∧ n < 2 ^ 200 ∧ k ≤ 8 ∧ R (.str (lettersF k n ""))
abbrev st__law_letters : Stmt := topR 26
abbrev N__law_letters : List Str := ["_law_number", "_law_size", "_law_word_here", "_law_k"]
theorem sc__law_letters : FnScope N__law_letters ["_law_number", "_law_size"] (defScope st__law_letters) := ⟨rfl, rfl, rfl, by decide +kernel, rfl, by decide +kernel, by decide +kernel⟩
abbrev sp__law_letters (K : PySem.W.Frag) : Sp := spA K 2 cLetters
theorem ok__law_letters {P : Program} {w : World} {K : PySem.W.Frag} {mg : Str → Option Value} {base : Heap} (d : DefAt K mg "_law_letters" st__law_letters ["_law_number", "_law_size"]) (n_int : mg "int" = none) (n_range : mg "range" = none)  : CalG P w K mg base CX0 1 "_law_letters" (sp__law_letters K) := by
  refine DefAt.cal d fun {f fd} F => fn_A (n := 2) F sc__law_letters rfl fun cdv A outer s H E hr => ?_
  have hu := hr.r.units
  have hv := hr.u65
  refine ⟨_, (pss_cons (ps_set (i := 2) sc__law_letters.nd rfl (Or.inl rfl) pe_str)
      (pss_cons (ps_for PassesOwn.never rfl (pi_range1 rfl n_range (pa_cons (pv 1) pa_nil)) (pg_name (i := 3) sc__law_letters.nd rfl (Or.inl rfl)) (pss_cons (ps_set (i := 2) sc__law_letters.nd rfl (Or.inl rfl) (pe_op opADD (pv 2) (pe_ix (ixANY hu) pe_str (pe_op opMOD (pe_callTy cINT rfl n_int (by decide +kernel) (pa_cons (pv 0) pa_nil)) pe_int) (fun _ _ => rfl))))
      (pss_one (ps_set (i := 0) sc__law_letters.nd rfl (Or.inl rfl) (pe_op opFDV (pv 0) pe_int)))))
      (pss_one (ps_ret (pv 2))))), ?_⟩
  rintro ds R hl ⟨n, k, rfl, h0, h1, hk, hR⟩
  walk_at "dl0"
  walk_at "dl"
  refine rs_forR ?_
  walk_at "dl"
  refine ⟨by omega, fun i δ' μ' => μ' = [] ∧ ∃ (n' : Int) (z : Str) (x : SK), δ' = [.dat (.int n'), .dat (.int k), .dat (.str z), x] ∧ 0 ≤ n' ∧ n' < 2 ^ 200 ∧ z.length = i ∧ lettersF (k - i) n' z = lettersF k n "", ⟨rfl, n, _, _, rfl, h0, h1, rfl, rfl⟩, ?_, ?_⟩
  · rintro i δ' μ' hi ⟨rfl, n', z, x, rfl, p0, p1, hz, he⟩
    refine rg_name ?_
    walk_at "dl"
    have m0 : 0 ≤ n' % 26 := Int.emod_nonneg _ (by decide)
    have m1 : n' % 26 < 26 := Int.emod_lt_of_pos _ (by decide)
    obtain ⟨cp, hcp, -⟩ := atI_some (xs := abc26.cps.toList) m0 (by rw [abc26_len]; exact m1)
    have hlet : letter n' = ⟨#[cp]⟩ := by
      have e : atI abc26.cps.toList (n' % 26) = abc26.cps.toList[(n' % 26).toNat]? := by
        have : (n' % 26) = ((n' % 26).toNat : Int) := (Int.toNat_of_nonneg m0).symm
        cases q : abc26.cps.toList[(n' % 26).toNat]? with
        | none =>
          rw [List.getElem?_eq_none_iff] at q
          have := abc26_len
          omega
        | some y => exact at_lit this q
      rw [e] at hcp
      unfold letter
      rw [hcp]; rfl
    refine ix_s (by decide) hcp ?_
    refine add_s (by rw [hz]; show i + 1 ≤ 1000000; omega) ?_
    walk_at "dl"
    refine fdv_i (wide_div (b := 20) (by decide) (by decide) (by decide) (by decide)) ?_
    refine ⟨rfl, n' / 26, z ++ ⟨#[cp]⟩, _, rfl, Int.ediv_nonneg p0 (by decide), by omega, ?_, ?_⟩
    · rw [strLen_append, hz]; rfl
    · rw [← he]
      have e : k - i = (k - (i + 1)) + 1 := by omega
      rw [e]
      show _ = lettersF (k - (i + 1)) (n' / 26) (z ++ letter n')
      rw [hlet]
  · rintro δ' μ' ⟨rfl, n', z, x, rfl, p0, p1, hz, he⟩
    walk_at "dl"
    rw [Nat.sub_self] at he
    have e : z = lettersF k n "" := he
    rw [e]
    exact hR

theorem str_nil_app (a : Str) : ("" : Str) ++ a = a := Str.empty_append a
theorem str_app_nil (a : Str) : a ++ ("" : Str) = a := Str.append_empty a
theorem str_app_assoc (a b c : Str) : a ++ b ++ c = a ++ (b ++ c) := Str.append_assoc a b c
theorem abc26_nd : abc26.cps.toList.Nodup := by decide +kernel
theorem letter_get {n : Int} (h : 0 ≤ n) : ∃ c, abc26.cps.toList[(n % 26).toNat]? = some c ∧ letter n = ⟨#[c]⟩ ∧ isLet c = true := by
  have m0 : 0 ≤ n % 26 := Int.emod_nonneg _ (by decide)
  have m1 : n % 26 < 26 := Int.emod_lt_of_pos _ (by decide)
  have hl : (n % 26).toNat < abc26.cps.toList.length := by rw [abc26_len]; omega
  refine ⟨abc26.cps.toList[(n % 26).toNat], by simp [hl], ?_, ?_⟩
  · unfold letter
    rw [List.getElem?_eq_getElem hl]; rfl
  · exact decide_eq_true (List.getElem_mem hl)
theorem letters_acc : ∀ (k : Nat) (n : Int) (acc : Str), lettersF k n acc = acc ++ lettersF k n ""
  | 0, n, acc => by
    show acc = acc ++ ("" : Str)
    exact (str_app_nil acc).symm
  | k + 1, n, acc => by
    show lettersF k (n / 26) (acc ++ letter n) = acc ++ lettersF k (n / 26) (("" : Str) ++ letter n)
    rw [letters_acc k (n / 26) (acc ++ letter n), letters_acc k (n / 26) (("" : Str) ++ letter n), str_nil_app, str_app_assoc]
theorem letters_ok : ∀ (k : Nat) (n : Int), 0 ≤ n → (lettersF k n "").length = k ∧ (lettersF k n "").cps.toList.all isLet = true
  | 0, n, _ => ⟨rfl, rfl⟩
  | k + 1, n, h => by
    obtain ⟨c, hc, hl, hi⟩ := letter_get h
    obtain ⟨h1, h2⟩ := letters_ok k (n / 26) (Int.ediv_nonneg h (by decide))
    have e : lettersF (k + 1) n "" = letter n ++ lettersF k (n / 26) "" := by
      show lettersF k (n / 26) (("" : Str) ++ letter n) = _
      rw [letters_acc, str_nil_app]
    rw [e, hl]
    refine ⟨by rw [strLen_append, h1]; show 1 + k = k + 1; omega, ?_⟩
    show ((#[c] ++ (lettersF k (n / 26) "").cps).toList).all isLet = true
    simp [hi] at *
    exact h2
theorem letters_ne {k : Nat} {n m : Int} (hn : 0 ≤ n) (hm : 0 ≤ m) (h : n % 26 ≠ m % 26) : lettersF (k + 1) n "" ≠ lettersF (k + 1) m "" := fun z => by
  obtain ⟨c, hc, hl, _⟩ := letter_get hn
  obtain ⟨d, hd, hl2, _⟩ := letter_get hm
  have e1 : lettersF (k + 1) n "" = letter n ++ lettersF k (n / 26) "" := by
    show lettersF k (n / 26) (("" : Str) ++ letter n) = _
    rw [letters_acc, str_nil_app]
  have e2 : lettersF (k + 1) m "" = letter m ++ lettersF k (m / 26) "" := by
    show lettersF k (m / 26) (("" : Str) ++ letter m) = _
    rw [letters_acc, str_nil_app]
  rw [e1, e2, hl, hl2] at z
  have z2 : (#[c] ++ (lettersF k (n / 26) "").cps).toList = (#[d] ++ (lettersF k (m / 26) "").cps).toList := congrArg (fun s : Str => s.cps.toList) z
  have z3 : c = d := by
    simp at z2
    exact z2.1
  subst z3
  have hi : (n % 26).toNat = (m % 26).toNat := (List.getElem?_inj (List.getElem?_eq_some_iff.mp hc).1 abc26_nd).mp (hc.trans hd.symm)
  have a0 := Int.emod_nonneg n (by decide : (26 : Int) ≠ 0)
  have b0 := Int.emod_nonneg m (by decide : (26 : Int) ≠ 0)
  omega
/-- more different things than places: one lies outside -/
theorem outside {α : Type} [DecidableEq α] : ∀ {xs ys : List α}, xs.Nodup → ys.length < xs.length → ∃ x ∈ xs, x ∉ ys
  | [], ys, _, h => absurd h (by simp)
  | x :: xs, ys, nd, h => by
    by_cases hx : x ∈ ys
    · have nd' := List.nodup_cons.mp nd
      have hlen : (ys.erase x).length = ys.length - 1 := List.length_erase_of_mem hx
      have hpos : 0 < ys.length := List.length_pos_of_mem hx
      obtain ⟨y, hy, hny⟩ := outside (xs := xs) (ys := ys.erase x) nd'.2 (by rw [hlen]; simp only [List.length_cons] at h; omega)
      refine ⟨y, List.mem_cons_of_mem _ hy, fun z => hny ?_⟩
      have hne : y ≠ x := fun e => nd'.1 (e ▸ hy)
      exact (List.mem_erase_of_ne hne).mpr z
    · exact ⟨x, List.mem_cons_self, hx⟩

/-- a draw: some number below many -/
def cDraw : CP := fun ds c R => ∃ m : Int, ds = [.int m] ∧ 1 ≤ m ∧ m < 2 ^ 200 ∧ c < 2 ^ 60 ∧ ∀ n : Int, 0 ≤ n → n < m → R (.int n) (c + 1)
abbrev st__law_draw : Stmt := topR 24
abbrev N__law_draw : List Str := ["_law_pool_here", "_law_many", "_law_digit", "_law_step", "_law_mixed"]
theorem sc__law_draw : FnScope N__law_draw ["_law_pool_here", "_law_many"] (defScope st__law_draw) := ⟨rfl, rfl, rfl, by decide +kernel, rfl, by decide +kernel, by decide +kernel⟩
abbrev sp__law_draw (K : PySem.W.Frag) : Sp := spP K 1 cDraw
theorem ok__law_draw {P : Program} {w : World} {K : PySem.W.Frag} {mg : Str → Option Value} {base : Heap} (d : DefAt K mg "_law_draw" st__law_draw ["_law_pool_here", "_law_many"]) (n_int : mg "int" = none)  : CalG P w K mg base CX0 1 "_law_draw" (sp__law_draw K) := by
  refine DefAt.cal d fun {f fd} F => fn_P (n := 1) F sc__law_draw rfl fun cdv A outer s H E hr => ?_
  have hu := hr.r.units
  have hv := hr.u65
  refine ⟨_, (pss_cons (ps_if (pt_cmpR opGT (pe_ix (ixANY hu) (pv 0) pe_int (fun _ _ => rfl)) pe_int (nomark _)) (pss_cons (ps_set (i := 2) sc__law_draw.nd rfl (Or.inl rfl) (pe_op opMOD (pe_callTy cINT rfl n_int (by decide +kernel) (pa_cons (pe_ix (ixANY hu) (pv 0) pe_int (fun _ _ => rfl)) pa_nil)) (pv 1)))
      (pss_cons (ps_asg (pe_op opFDV (pe_ix (ixANY hu) (pv 0) pe_int (fun _ _ => rfl)) (pv 1)) (pg_sub (pv 0) pe_int set_list))
      (pss_one (ps_ret (pv 2))))) pss_nil)
      (pss_cons (ps_asg (pe_op opADD (pe_ix (ixANY hu) (pv 0) pe_int (fun _ _ => rfl)) pe_int) (pg_sub (pv 0) pe_int set_list))
      (pss_cons (ps_set (i := 3) sc__law_draw.nd rfl (Or.inl rfl) (pe_op opADD (pe_ix (ixANY hu) (pv 0) pe_int (fun _ _ => rfl)) (pe_op opMUL pe_int (pe_ix (ixANY hu) (pv 0) pe_int (fun _ _ => rfl)))))
      (pss_cons (ps_set (i := 4) sc__law_draw.nd rfl (Or.inl rfl) (pe_op opMOD (pe_callTy cINT rfl n_int (by decide +kernel) (pa_cons (pe_op opADD (pe_op opPOW (pv 3) pe_int) (pe_ix (ixANY hu) (pv 0) pe_int (fun _ _ => rfl))) pa_nil)) pe_int))
      (pss_cons (ps_set (i := 4) sc__law_draw.nd rfl (Or.inl rfl) (pe_op opMOD (pe_callTy cINT rfl n_int (by decide +kernel) (pa_cons (pe_op opPOW (pe_op opADD (pv 4) (pe_op opMUL pe_int (pe_ix (ixANY hu) (pv 0) pe_int (fun _ _ => rfl)))) pe_int) pa_nil)) pe_int))
      (pss_one (ps_ret (pe_op opMOD (pe_callTy cINT rfl n_int (by decide +kernel) (pa_cons (pe_op opFDV (pv 4) pe_int) pa_nil)) (pv 1))))))))), ?_⟩
  rintro p ds c R hl ⟨m, rfl, h1, h2, hc, hR⟩
  walk_at "dl0"
  walk_at "dl"
  refine ix_p0 (i := 0) rfl fun d0 hd0 => ?_
  walk_at "dl"
  refine ⟨fun hb => ?_, fun hb => ?_⟩
  · walk_at "dl"
    refine ix_p0 (i := 0) rfl fun d1 hd1 => ?_
    walk_at "dl"
    refine rs_p0 (c + 1) (a := p) (j := 0) (c := c) (fl := false) ?_
    walk_at "dl"
    refine ix_p0 (i := 0) rfl fun d2 hd2 => ?_
    walk_at "dl"
    refine fdv_i (wide_div (b := 200) (by omega) (by omega) (by decide) (by decide)) ?_
    refine ⟨_, rfl, Int.ediv_nonneg hd2 (by omega), by omega, rfl, rfl, ?_⟩
    walk_at "dl"
    exact ⟨_, 0, c + 1, c + 1, rfl, rfl, Nat.le_refl _, hR _ (Int.emod_nonneg _ (by omega)) (Int.emod_lt_of_pos _ (by omega))⟩
  · walk_at "dl"
    refine rs_p2 (c + 1) (a := p) (j := 0) (c := c) (fl := false) ?_
    walk_at "dl"
    refine ix_p2 (i := 0) rfl fun k0 hk0 hk1 => ?_
    walk_at "dl"
    refine ⟨by omega, by omega, rfl, rfl, ?_⟩
    walk_at "dl"
    refine ix_p1 (i := 0) rfl fun m1 hm1 hm2 => ?_
    walk_at "dl"
    refine ix_p2 (i := 0) rfl fun k1 hk2 hk3 => ?_
    refine mul_i (mulx_ok (a := 40) (b := 70) (by decide) (by omega) (by decide)) ?_
    walk_at "dl"
    have b1 : (m1 + 982451653 * k1).natAbs < 2 ^ 100 := by omega
    refine pow_i ⟨by decide, powB_ok b1 (by decide)⟩ ?_
    walk_at "dl"
    refine ix_p2 (i := 0) rfl fun k2 hk4 hk5 => ?_
    walk_at "dl"
    refine ix_p2 (i := 0) rfl fun k3 hk6 hk7 => ?_
    refine mul_i (mulx_ok (a := 40) (b := 70) (by decide) (by omega) (by decide)) ?_
    walk_at "dl"
    generalize hz : (((m1 + 982451653 * k1) ^ Int.toNat 3 + k2) % 162259276829213363391578010288127 : Int) = z
    have z0 : 0 ≤ z := by rw [← hz]; exact Int.emod_nonneg _ (by decide)
    have z1 : z < 162259276829213363391578010288127 := by rw [← hz]; exact Int.emod_lt_of_pos _ (by decide)
    have b2 : (z + 32452867 * k3).natAbs < 2 ^ 110 := by omega
    refine pow_i ⟨by decide, powB_ok b2 (by decide)⟩ ?_
    walk_at "dl"
    refine fdv_i (wide_div (b := 20) (by decide) (by decide) (by decide) (by decide)) ?_
    walk_at "dl"
    exact ⟨_, 0, c + 1, c + 1, rfl, rfl, Nat.le_refl _, hR _ (Int.emod_nonneg _ (by omega)) (Int.emod_lt_of_pos _ (by omega))⟩

/-- a new word, none of those that are taken -/
def newWord (taken : List Str) (z : Str) : Prop := isWord z = true ∧ z ∉ taken ∧ z ∉ ([("key" : Str), "self", "table"] : List Str)
def cNewWord : CP := fun ds c R => ∃ taken : List Str, ds = [.lst (txts taken)] ∧ taken.length ≤ 20 ∧ c < 2 ^ 50 ∧ ∀ z, newWord taken z → R (.str z) (c + 2)
theorem nodup_words {k : Nat} {n : Int} (h : 0 ≤ n) : ∀ m : Nat, m ≤ 26 → ((List.range m).map fun t : Nat => lettersF (k + 1) (n + t) "").Nodup := fun m hm => by
  unfold List.Nodup
  rw [List.pairwise_map]
  refine List.Pairwise.imp_of_mem (fun {a b} ha hb hlt => ?_) List.pairwise_lt_range
  have ha' := List.mem_range.mp ha
  have hb' := List.mem_range.mp hb
  exact letters_ne (by omega) (by omega) (by omega)
abbrev st__law_word : Stmt := topR 27
abbrev N__law_word : List Str := ["_law_pool_here", "_law_taken", "_law_size", "_law_number", "_law_word_here", "_law_turn"]
theorem sc__law_word : FnScope N__law_word ["_law_pool_here", "_law_taken"] (defScope st__law_word) := ⟨rfl, rfl, rfl, by decide +kernel, rfl, by decide +kernel, by decide +kernel⟩
abbrev sp__law_word (K : PySem.W.Frag) : Sp := spP K 1 cNewWord
theorem ok__law_word {P : Program} {w : World} {K : PySem.W.Frag} {mg : Str → Option Value} {base : Heap} (d : DefAt K mg "_law_word" st__law_word ["_law_pool_here", "_law_taken"]) (n_len : mg "len" = none) (n_range : mg "range" = none) (c__law_draw : CalG P w K mg base CX0 1 "_law_draw" (sp__law_draw K)) (c__law_letters : CalG P w K mg base CX0 1 "_law_letters" (sp__law_letters K)) : CalG P w K mg base CX0 2 "_law_word" (sp__law_word K) := by
  refine DefAt.cal d fun {f fd} F => fn_P (n := 1) F sc__law_word rfl fun cdv A outer s H E hr => ?_
  have hu := hr.r.units
  have hv := hr.u65
  refine ⟨_, (pss_cons (ps_par3 (i := 2) (j := 3) (l := 4) rfl sc__law_word.nd rfl rfl rfl (by decide) (by decide) (by decide) rfl rfl rfl (pa_cons (pe_op opADD pe_int (pe_cg c__law_draw hr (by decide) pass0 rfl (pa_cons (pv 0) (pa_cons pe_int pa_nil)))) (pa_cons (pe_cg c__law_draw hr (by decide) pass0 rfl (pa_cons (pv 0) (pa_cons (pe_op opPOW pe_int pe_int) pa_nil))) (pa_cons pe_str pa_nil))) (by rfl))
      (pss_cons (ps_for PassesOwn.never rfl (pi_range1 rfl n_range (pa_cons (pe_op opADD (pe_callB cLEN rfl n_len (by decide +kernel) (pa_cons (pv 1) pa_nil)) pe_int) pa_nil)) (pg_name (i := 5) sc__law_word.nd rfl (Or.inl rfl)) (pss_cons (ps_set (i := 4) sc__law_word.nd rfl (Or.inl rfl) (pe_cg c__law_letters hr (by decide) pass0 rfl (pa_cons (pe_op opADD (pv 3) (pv 5)) (pa_cons (pv 2) pa_nil))))
      (pss_one (ps_if (PW.pt (pw_and (pt_cmpR (opNIN hv) (pv 4) (pv 1) (by rfl)) (pw_and1 (pt_cmpR (opNIN hv) (pv 4) (pe_lst (pa_cons pe_str (pa_cons pe_str (pa_cons pe_str pa_nil)))) (by rfl))))) (pss_one (ps_ret (pv 4))) pss_nil))))
      (pss_one (ps_ret (pv 4))))), ?_⟩
  rintro p ds c R hl ⟨taken, rfl, ht, hc, hR⟩
  walk_at "dl0"
  walk_at "dl"
  refine ⟨_, rfl, by decide, by decide, by omega, fun s0 s1 s2 => ?_⟩
  obtain ⟨k, rfl⟩ := Int.eq_ofNat_of_zero_le s1
  walk_at "dl"
  refine pow_i ⟨by decide, powB_ok (a := 6) (by decide) (by decide)⟩ ?_
  walk_at "dl"
  refine ⟨_, rfl, by decide, by decide, by omega, fun n n0 n1 => ?_⟩
  have n2 : n < 2 ^ 100 := by
    have e : (26 ^ (8 : Int).toNat : Int) = 208827064576 := by decide
    rw [e] at n1
    omega
  walk_at "dl"
  refine rs_forR ?_
  walk_at "dl"
  have tl : (txts taken).length = taken.length := by simp [txts]
  refine ⟨by omega, fun i δ' μ' => μ' = [(p, MK.pool (c + 1 + 1), false)] ∧ (∃ x y, δ' = [.own p, .dat (.lst (txts taken)), .dat (.int (1 + k)), .dat (.int n), x, y]) ∧ ∀ t < i, lettersF (k + 1) (n + t) "" ∈ taken ++ l__BARRED, ⟨rfl, ⟨_, _, rfl⟩, fun t ht => absurd ht (Nat.not_lt_zero t)⟩, ?_, ?_⟩
  · rintro i δ' μ' hi ⟨rfl, ⟨x, y, rfl⟩, hall⟩
    refine rg_name ?_
    walk_at "dl"
    refine ⟨rfl, n + i, k + 1, by rw [show ((k + 1 : Nat) : Int) = 1 + (k : Int) from by omega], by omega, by omega, by omega, ?_⟩
    walk_at "dl"
    have hstep : lettersF (k + 1) (n + (i : Int)) "" ∈ taken ++ l__BARRED → ∀ t < i + 1, lettersF (k + 1) (n + (t : Int)) "" ∈ taken ++ l__BARRED := fun hin t ht2 => by
      by_cases e : t = i
      · rw [e]; exact hin
      · exact hall t (by omega)
    obtain ⟨g1, g2⟩ := letters_ok (k + 1) (n + i) (by omega)
    generalize hz : lettersF (k + 1) (n + (i : Int)) "" = z at hstep g1 g2 ⊢
    refine nin_strs rfl (IsL.dat _) ?_
    refine ⟨_, rfl, fun h1 => ?_, fun h1 => ?_⟩
    · walk_at "dl"
      refine lst_d ?_
      walk_at "dl"
      refine nin_strs (l := l__BARRED) rfl (IsL.dat _) ?_
      refine ⟨_, rfl, fun h2 => ?_, fun h2 => ?_⟩
      · walk_at "dl"
        refine ⟨_, 0, _, _, rfl, rfl, Nat.le_refl _, hR z ⟨?_, by simpa using h1, by simpa using h2⟩⟩
        show (decide (1 ≤ z.length) && decide (z.length ≤ 8) && z.cps.toList.all isLet) = true
        rw [g1, g2]
        simp
        omega
      · walk_at "dl"
        exact ⟨rfl, ⟨_, _, rfl⟩, hstep (List.mem_append_right _ (by
          cases q : decide (z ∈ l__BARRED) with
          | true => exact of_decide_eq_true q
          | false => rw [q] at h2; cases h2))⟩
    · walk_at "dl"
      exact ⟨rfl, ⟨_, _, rfl⟩, hstep (List.mem_append_left _ (by simpa using h1))⟩
  · rintro δ' μ' ⟨rfl, ⟨x, y, rfl⟩, hall⟩
    exfalso
    obtain ⟨z, hz, hzn⟩ := outside (xs := (List.range (taken.length + 4)).map fun t : Nat => lettersF (k + 1) (n + t) "") (ys := taken ++ l__BARRED) (nodup_words n0 _ (by omega)) (by simp only [List.length_append, List.length_map, List.length_range]; show taken.length + 3 < taken.length + 4; omega)
    obtain ⟨t, ht2, rfl⟩ := List.mem_map.mp hz
    exact hzn (hall t (by rw [tl]; exact List.mem_range.mp ht2))

/-! ### the shape of a text: the tables so far, the last one first -/
abbrev Shp := List (Str × List (Str × Da))
def stepSh (names : List Str) (s : Shp) (ws : List Str) : Option Shp :=
  if isTab ws then
    match ws with
    | [_, n] => if n ∈ s.map (·.1) ∨ s.length = 5 then none else some ((n, []) :: s)
    | _ => none
  else
    match s, ws with
    | (t, c) :: r, _ :: n :: _ => if isCol names ws && (!(c.lookup n).isSome && decide (c.length < 6)) then some ((t, c ++ [(n, meanOf ws)]) :: r) else none
    | _, _ => none
def runSh (names : List Str) : List Str → Shp → Option Shp
  | [], s => some s
  | z :: r, s => match stepSh names s (wordsOf z) with
    | some s' => runSh names r s'
    | none => none
def shD (s : Shp) : List (Str × Da) := s.reverse.map fun x => (x.1, .dct x.2)
def cShape : CA := fun ds R => ∃ (l : List Str) (s : Shp), ds = [.lst (txts l)] ∧ fine l ∧ runSh (wrote l) l [] = some s ∧ R (.dct (shD s))
theorem runSh_cons {names : List Str} {z : Str} {r : List Str} {s f : Shp} (h : runSh names (z :: r) s = some f) : ∃ s', stepSh names s (wordsOf z) = some s' ∧ runSh names r s' = some f := by
  unfold runSh at h
  cases q : stepSh names s (wordsOf z) with
  | none => rw [q] at h; cases h
  | some s' => rw [q] at h; exact ⟨s', rfl, h⟩
abbrev Inn := List (Str × Addr × List (Str × Da))
def innS (L : Inn) : Shp := L.map fun x => (x.1, x.2.2)
def innR (L : Inn) : List (Str × Addr) := L.reverse.map fun x => (x.1, x.2.1)
def innM (L : Inn) (p : Addr) : Mu := L.map (fun x => (x.2.1, MK.md x.2.2, true)) ++ [(p, MK.mo (innR L), true)]
theorem innM_last (L : Inn) (p : Addr) : (innM L p)[L.length]? = some (p, MK.mo (innR L), true) := by
  unfold innM
  rw [List.getElem?_append_right (by simp)]
  simp
theorem innR_len (L : Inn) : (innR L).length = L.length := by simp [innR]
theorem lookup_mem {α : Type} (z : Str) : ∀ l : List (Str × α), (l.lookup z).isSome = decide (z ∈ l.map (·.1))
  | [] => rfl
  | (g, b) :: t => by
    by_cases h : z = g
    · subst h
      simp [List.lookup]
    · have h2 : (z == g) = false := by simpa using h
      simp only [List.lookup, h2]
      rw [lookup_mem z t]
      simp [h]
theorem innR_is (L : Inn) (z : Str) : ((innR L).lookup z).isSome = decide (z ∈ (innS L).map (·.1)) := by
  rw [lookup_mem]
  refine decide_eq_decide.mpr ?_
  simp [innR, innS]
theorem innR_none {L : Inn} {z : Str} (h : z ∉ (innS L).map (·.1)) : (innR L).lookup z = none := by
  have e := innR_is L z
  rw [decide_eq_false h] at e
  cases q : (innR L).lookup z with
  | none => rfl
  | some b => rw [q] at e; cases e
theorem lookup_snoc {α : Type} {z : Str} {b : α} : ∀ {l : List (Str × α)}, l.lookup z = none → (l ++ [(z, b)]).lookup z = some b
  | [], _ => by simp [List.lookup]
  | (g, c) :: t, h => by
    by_cases q : (z == g) = true
    · simp only [List.lookup, q] at h; cases h
    · simp only [Bool.not_eq_true] at q
      simp only [List.lookup, q, List.cons_append] at h ⊢
      exact lookup_snoc h
theorem innR_head {L : Inn} {t : Str} {b : Addr} {c : List (Str × Da)} (h : t ∉ (innS L).map (·.1)) : (innR ((t, b, c) :: L)).lookup t = some b := by
  have e : innR ((t, b, c) :: L) = innR L ++ [(t, b)] := by simp [innR]
  rw [e]
  exact lookup_snoc (innR_none h)
theorem frz_inn {μ : Mu} : ∀ {l : Inn}, (∀ x ∈ l, ∃ j : Nat, μ[j]? = some (x.2.1, MK.md x.2.2, true)) → FrzOk μ (l.map fun x => (x.1, x.2.1)) (l.map fun x => (x.1, .dct x.2.2))
  | [], _ => .nil
  | x :: r, h => by
    obtain ⟨j, hj⟩ := h x List.mem_cons_self
    exact .cons hj (frz_inn fun y hy => h y (List.mem_cons_of_mem _ hy))
theorem frz_all (L : Inn) (p : Addr) : FrzOk (innM L p) (innR L) (shD (innS L)) := by
  have e : shD (innS L) = L.reverse.map fun x => (x.1, Da.dct x.2.2) := by simp [shD, innS, List.map_reverse]
  rw [e]
  refine frz_inn fun x hx => ?_
  obtain ⟨j, hj⟩ := List.getElem?_of_mem (List.mem_reverse.mp hx)
  refine ⟨j, ?_⟩
  have hl : j < L.length := (List.getElem?_eq_some_iff.mp hj).1
  unfold innM
  rw [List.getElem?_append_left (by simpa using hl), List.getElem?_map, hj]
  rfl
theorem innM_push {L : Inn} {p b : Addr} {n : Str} : ((b, MK.md [], true) :: innM L p).set (L.length + 1) (p, MK.mo (innR L ++ [(n, b)]), true) = innM ((n, b, []) :: L) p := by
  unfold innM innR
  rw [List.set_cons_succ, List.set_append_right _ _ (by simp)]
  simp
theorem innM_put {L : Inn} {p b : Addr} {t : Str} {c c' : List (Str × Da)} : (innM ((t, b, c) :: L) p).set 0 (b, MK.md c', true) = innM ((t, b, c') :: L) p := by
  unfold innM innR
  simp
theorem putD_new {ds : List (Str × Da)} {z : Str} {d : Da} (h : (ds.lookup z).isSome = false) : putD ds z d = ds ++ [(z, d)] := by
  unfold putD
  rw [if_neg (by rw [h]; decide)]
theorem isCol_two {names ws : List Str} (h : isCol names ws = true) : ∃ w n r, ws = w :: n :: r := by
  match ws, h with
  | w :: n :: r, _ => exact ⟨w, n, r, rfl⟩
  | [], h => cases h
  | [_], h => cases h
theorem isCol_mean {names ws : List Str} (h : isCol names ws = true) : (∃ b t r : Str, ws = [("link" : Str), b, t, r]) ∨ ∃ a b : Str, ws = [a, b] ∧ a ≠ "link" := by
  obtain ⟨w, n, r, rfl⟩ := isCol_two h
  have h' : (isWord n && !decide (n ∈ ([("key" : Str), "self", "table"] : List Str)) && (if w = "link" then colLink names r else colPlain w r)) = true := h
  have h2 := (Bool.and_eq_true_iff.mp h').2
  by_cases q : w = "link"
  · rw [if_pos q] at h2
    match r, h2 with
    | [t, u], _ => exact .inl ⟨n, t, u, by rw [q]⟩
    | [], h2 => cases h2
    | [_], h2 => cases h2
    | _ :: _ :: _ :: _, h2 => cases h2
  · rw [if_neg q] at h2
    match r, h2 with
    | [], _ => exact .inr ⟨w, n, rfl, q⟩
    | _ :: _, h2 => cases h2
abbrev st__shape_of : Stmt := topR 16
abbrev N__shape_of : List Str := ["lines", "names", "shape", "last", "at", "line", "words"]
theorem sc__shape_of : FnScope N__shape_of ["lines"] (defScope st__shape_of) := ⟨rfl, rfl, rfl, by decide +kernel, rfl, by decide +kernel, by decide +kernel⟩
abbrev sp__shape_of (K : PySem.W.Frag) : Sp := spA K 1 cShape
theorem ok__shape_of {P : Program} {w : World} {K : PySem.W.Frag} {mg : Str → Option Value} {base : Heap} (d : DefAt K mg "_shape_of" st__shape_of ["lines"]) (k__MOST_TABLES : ∃ u, mg "_MOST_TABLES" = some u ∧ RelV v__MOST_TABLES u) (n_enumerate : mg "enumerate" = none) (n_len : mg "len" = none) (c__has_room : CalG P w K mg base CX0 1 "_has_room" (sp__has_room K)) (c__is_column : CalG P w K mg base CX0 2 "_is_column" (sp__is_column K)) (c__is_table : CalG P w K mg base CX0 2 "_is_table" (sp__is_table K)) (c__meaning_of : CalG P w K mg base CX0 1 "_meaning_of" (sp__meaning_of K)) (c__written_tables : CalG P w K mg base CX0 3 "_written_tables" (sp__written_tables K)) : CalG P w K mg base CX0 4 "_shape_of" (sp__shape_of K) := by
  refine DefAt.cal d fun {f fd} F => fn_A (n := 1) F sc__shape_of rfl fun cdv A outer s H E hr => ?_
  have hu := hr.r.units
  have hv := hr.u65
  refine ⟨_, (pss_cons (ps_set (i := 1) sc__shape_of.nd rfl (Or.inl rfl) (pe_cg c__written_tables hr (by decide) pass0 rfl (pa_cons (pv 0) pa_nil)))
      (pss_cons (ps_set (i := 2) sc__shape_of.nd rfl (Or.inl rfl) pe_dnewK)
      (pss_cons (ps_set (i := 3) sc__shape_of.nd rfl (Or.inl rfl) pe_non)
      (pss_cons (ps_for PassesOwn.never rfl (pi_enum rfl n_enumerate (pa_cons (pv 0) pa_nil)) (pg_tup rfl (pgs_cons (pg_name (i := 4) sc__shape_of.nd rfl (Or.inl rfl)) (pgs_cons (pg_name (i := 5) sc__shape_of.nd rfl (Or.inl rfl)) pgs_nil))) (pss_cons (ps_set (i := 6) sc__shape_of.nd rfl (Or.inl rfl) (pe_split (pv 5) pe_str))
      (pss_one (ps_if (pt_val (pe_cg c__is_table hr (by decide) pass0 rfl (pa_cons (pv 6) pa_nil))) (pss_cons (ps_if (PW.pt (pw_or (pt_cmpR (opIN hv) (pe_ix (ixANY hu) (pv 6) pe_int (fun _ _ => rfl)) (pv 2) (by rfl)) (pw_or1 (pt_cmpR (opEQ hu) (pe_callB cLEN rfl n_len (by decide +kernel) (pa_cons (pv 2) pa_nil)) (pe_gcv (v := v__MOST_TABLES) rfl k__MOST_TABLES) (nomark _))))) (pss_one ps_never) pss_nil)
      (pss_cons (ps_set (i := 3) sc__shape_of.nd rfl (Or.inl rfl) (pe_ix (ixANY hu) (pv 6) pe_int (fun _ _ => rfl)))
      (pss_one (ps_asg pe_dnewK (pg_sub (pv 2) (pv 3) (set_dict (Nat.lt_of_le_of_lt (Nat.add_le_add_left (by decide) _) hu))))))) (pss_one (ps_if (PW.pt (pw_and (pt_cmpR opNON (pv 3) pe_non (nomark _)) (pw_and (pt_val (pe_cg c__is_column hr (by decide) pass0 rfl (pa_cons (pv 6) (pa_cons (pv 1) pa_nil)))) (pw_and1 (pt_val (pe_cg c__has_room hr (by decide) pass0 rfl (pa_cons (pe_ix (ixANY hu) (pv 2) (pv 3) (fun _ _ => rfl)) (pa_cons (pe_ix (ixANY hu) (pv 6) pe_int (fun _ _ => rfl)) pa_nil)))))))) (pss_one (ps_asg (pe_cg c__meaning_of hr (by decide) pass0 rfl (pa_cons (pv 6) pa_nil)) (pg_sub (pe_ix (ixANY hu) (pv 2) (pv 3) (fun _ _ => rfl)) (pe_ix (ixANY hu) (pv 6) pe_int (fun _ _ => rfl)) (set_dict (Nat.lt_of_le_of_lt (Nat.add_le_add_left (by decide) _) hu))))) (pss_one ps_never)))))))
      (pss_one (ps_ret (pv 2))))))), ?_⟩
  rintro ds R hl ⟨l, fin, rfl, hf, hrun, hR⟩
  walk_at "dl0"
  walk_at "dl"
  refine ⟨rfl, l, rfl, hf, ?_⟩
  walk_at "dl"
  refine dct_om fun p => ?_
  walk_at "dl"
  refine rs_forE ?_
  walk_at "dl"
  refine ⟨fun i δ' μ' => ∃ (L : Inn) (x4 x5 x6 : SK) (last : Da), δ' = [.dat (.lst (txts l)), .dat (.lst (txts (wrote l))), .own p, .dat last, x4, x5, x6] ∧ μ' = innM L p ∧ L.length ≤ 5 ∧ ((innS L).map (·.1)).Nodup ∧ (∀ x ∈ L, x.2.2.length ≤ 6) ∧
    (match L with | [] => last = .non | x :: _ => last = .str x.1) ∧ runSh (wrote l) (l.drop i) (innS L) = some fin, ⟨[], _, _, _, _, rfl, rfl, Nat.zero_le _, List.nodup_nil, (fun _ h => nomatch h), rfl, hrun⟩, ?_, ?_⟩
  · rintro i d δ' μ' hd ⟨L, x4, x5, x6, last, rfl, rfl, hL, hnd, hc6, hlast, hrest⟩
    obtain ⟨z, hz, rfl⟩ := txts_get hd
    have hi : i < l.length := (List.getElem?_eq_some_iff.mp hz).1
    have hzl : z.length ≤ 900000 := hf.2 z (List.mem_of_getElem? hz)
    have hdrop : l.drop i = z :: l.drop (i + 1) := by
      rw [List.drop_eq_getElem_cons hi]
      congr 1
      exact (List.getElem?_eq_some_iff.mp hz).2
    rw [hdrop] at hrest
    obtain ⟨s', hs', hrest'⟩ := runSh_cons hrest
    have hsm := words_small hzl
    refine rg_tup rfl ?_
    refine rgs_cons (rg_name ?_)
    refine rgs_cons (rg_name ?_)
    refine rgs_nil ?_
    walk_at "dl"
    refine ⟨by decide +kernel, by omega, ?_⟩
    walk_at "dl"
    have hlen : (innR L).length = L.length := innR_len L
    obtain ⟨ws, hws⟩ : ∃ ws, wordsOf z = ws := ⟨_, rfl⟩
    rw [hws] at hs' hsm
    rw [show Txt.split z " " = ws from hws]
    refine ⟨rfl, ws, rfl, hsm, _, rfl, fun ht => ?_, fun ht => ?_⟩
    · obtain ⟨a, n, rfl⟩ := isTab_two ht
      have hs2 : (if n ∈ (innS L).map (·.1) ∨ (innS L).length = 5 then none else some ((n, []) :: innS L)) = some s' := by
        unfold stepSh at hs'
        rw [if_pos ht] at hs'
        exact hs'
      by_cases hbad : n ∈ (innS L).map (·.1) ∨ (innS L).length = 5
      · rw [if_pos hbad] at hs2; cases hs2
      rw [if_neg hbad] at hs2
      have hn1 : n ∉ (innS L).map (·.1) := fun q => hbad (.inl q)
      have hn2 : L.length ≠ 5 := fun q => hbad (.inr (by simpa [innS] using q))
      walk_at "dl"
      refine ix_l (IsL.dat _) (d := .str n) (at_lit (n := 1) rfl rfl) ?_
      walk_at "dl"
      refine in_mo (innM_last L p) ?_
      rw [innR_none hn1]
      refine ⟨_, rfl, (fun h => nomatch h), fun _ => ?_⟩
      walk_at "dl"
      refine len_mo (innM_last L p) ?_
      walk_at "dl"
      refine ⟨fun h5 => ?_, fun h5 => ?_⟩
      · have : ((innR L).length : Int) = 5 := of_decide_eq_true h5
        omega
      · walk_at "dl"
        refine ix_l (IsL.dat _) (d := .str n) (at_lit (n := 1) rfl rfl) ?_
        walk_at "dl"
        refine rs_mo ?_
        refine dct_o fun b => ?_
        refine ⟨b, rfl, ?_⟩
        walk_at "dl"
        refine ⟨p, n, L.length + 1, innR L, true, rfl, rfl, ?_, by omega, innR_none hn1, ?_⟩
        · rw [List.getElem?_cons_succ]; exact innM_last L p
        · refine ⟨(n, b, []) :: L, _, _, _, _, rfl, innM_push, by simp only [List.length_cons]; omega, ?_, ?_, rfl, ?_⟩
          · exact List.nodup_cons.mpr ⟨hn1, hnd⟩
          · intro x hx
            rcases List.mem_cons.mp hx with q | q
            · rw [q]; exact Nat.zero_le _
            · exact hc6 x q
          · cases hs2
            exact hrest'
    · have hs2 := hs'
      unfold stepSh at hs2
      rw [if_neg (by rw [ht]; decide)] at hs2
      match L, hlast, hs2, hL, hnd, hc6, hlen with
      | [], _, hs2, _, _, _, _ => cases hs2
      | (t, b, c) :: L', hlast, hs2, hL, hnd, hc6, hlen =>
        subst hlast
        match ws, hws, hsm, ht, hs2 with
        | [], _, _, _, hs2 => cases hs2
        | [_], _, _, _, hs2 => cases hs2
        | w :: n :: r, hws, hsm, ht, hs2 =>
          have hs3 : (if (isCol (wrote l) (w :: n :: r) && (!(c.lookup n).isSome && decide (c.length < 6))) = true then some ((t, c ++ [(n, meanOf (w :: n :: r))]) :: innS L') else none) = some s' := hs2
          by_cases hg : (isCol (wrote l) (w :: n :: r) && (!(c.lookup n).isSome && decide (c.length < 6))) = true
          case neg => rw [if_neg hg] at hs3; cases hs3
          rw [if_pos hg] at hs3
          obtain ⟨hg1, hg2⟩ := Bool.and_eq_true_iff.mp hg
          have hg3 := (Bool.and_eq_true_iff.mp hg2)
          have hlk : (c.lookup n).isSome = false := by simpa using hg3.1
          have hcl : c.length < 6 := of_decide_eq_true hg3.2
          have ht1 : t ∉ (innS L').map (·.1) := (List.nodup_cons.mp hnd).1
          walk_at "dl"
          refine ⟨rfl, w :: n :: r, wrote l, rfl, hsm, ?_⟩
          rw [hg1]
          refine ⟨_, rfl, fun _ => ?_, (fun h => nomatch h)⟩
          refine rt_b (rd_callM ?_)
          walk_at "dl"
          refine ix_mo (innM_last ((t, b, c) :: L') p) (innR_head ht1) ?_
          walk_at "dl"
          refine ix_l (IsL.dat _) (d := .str n) (at_lit (n := 1) rfl rfl) ?_
          walk_at "dl"
          refine ⟨_, .own (i := 0) (kvs := c) rfl (.dat .nil), rfl, c, n, rfl, rfl, _, rfl, ?_⟩
          rw [hg2]
          refine ⟨fun _ => ?_, (fun h => nomatch h)⟩
          refine rs_md ?_
          walk_at "dl"
          refine ⟨rfl, w :: n :: r, rfl, isCol_mean hg1, ?_⟩
          refine ⟨_, rfl, ?_⟩
          walk_at "dl"
          refine ix_mo (innM_last ((t, b, c) :: L') p) (innR_head ht1) ?_
          walk_at "dl"
          refine ix_l (IsL.dat _) (d := .str n) (at_lit (n := 1) rfl rfl) ?_
          refine ⟨b, n, 0, c, true, rfl, rfl, rfl, by omega, ?_⟩
          rw [putD_new hlk, innM_put]
          refine ⟨(t, b, c ++ [(n, meanOf (w :: n :: r))]) :: L', _, _, _, _, rfl, rfl, hL, hnd, ?_, rfl, ?_⟩
          · intro x hx
            rcases List.mem_cons.mp hx with q | q
            · rw [q]; simp only [List.length_append, List.length_cons, List.length_nil]; omega
            · exact hc6 x (List.mem_cons_of_mem _ q)
          · cases hs3
            exact hrest'
  · rintro δ' μ' ⟨L, x4, x5, x6, last, rfl, rfl, hL, hnd, hc6, hlast, hrest⟩
    have e : runSh (wrote l) (l.drop (txts l).length) (innS L) = some (innS L) := by
      rw [List.drop_eq_nil_of_le (by simp [txts])]; rfl
    rw [e] at hrest
    have e2 : innS L = fin := Option.some.inj hrest
    subst e2
    refine rs_retM ?_
    walk_at "dl"
    exact ⟨p, L.length, innR L, _, rfl, innM_last L p, frz_all L p, _, rfl, hR⟩

/-- a schema of a text -/
abbrev schF (text : Str) (sh : List (Str × Da)) : List (Str × Da) := [("_text", .str text), ("_shape", .dct sh), ("tables", .tup (txts (sh.map (·.1))))]
abbrev linesOf (text : Str) : List Str := Txt.split text "\n"
def cInit : List Da → (List (Str × Da) → Prop) → Prop := fun ds R => ∃ (text : Str) (s : Shp), ds = [.str text] ∧ text.length ≤ 900000 ∧ fine (linesOf text) ∧ runSh (wrote (linesOf text)) (linesOf text) [] = some s ∧ R (schF text (shD s))
abbrev st_Schema___init__ : Stmt := inClass (topR 15) 0
abbrev N_Schema___init__ : List Str := ["self", "text"]
theorem sc_Schema___init__ : FnScope N_Schema___init__ ["self", "text"] (defScope st_Schema___init__) := ⟨rfl, rfl, rfl, by decide +kernel, rfl, by decide +kernel, by decide +kernel⟩
abbrev sp_Schema___init__ (K : PySem.W.Frag) (C : Addr) : Sp := spI K 1 C (cInit)
theorem ok_Schema___init__ {A_Schema : Addr} {P : Program} {w : World} {K : PySem.W.Frag} {mg : Str → Option Value} {base : Heap} (d : InitAt K mg "Schema" A_Schema "Schema.__init__" st_Schema___init__ ["self", "text"]) (cl : Cls K A_Schema) (na__text : NoAttr K A_Schema "_text") (na__shape : NoAttr K A_Schema "_shape") (na_tables : NoAttr K A_Schema "tables") (n_isinstance : mg "isinstance" = none) (n_str : mg "str" = none) (n_tuple : mg "tuple" = none) (c__shape_of : CalG P w K mg base CX0 4 "_shape_of" (sp__shape_of K)) : MakG P w K mg base CX0 5 "Schema" A_Schema (sp_Schema___init__ K A_Schema) := by
  refine InitAt.mak d fun {f fd} F => fn_I (n := 1) F sc_Schema___init__ rfl fun cdv A outer s H E hr => ?_
  have hu := hr.r.units
  have hv := hr.u65
  refine ⟨_, (pss_cons (ps_if (pt_not (pt_val (pe_callB cISI rfl n_isinstance (by decide +kernel) (pa_cons (pv 1) (pa_cons (pe_bltn (v := V.ty "str") (u := Value.type "str") rfl n_str (by decide +kernel) rfl) pa_nil))))) (pss_one ps_never) pss_nil)
      (pss_cons (ps_fld (pv 0) (pv 1) rfl)
      (pss_cons (ps_fld (pv 0) (pe_cg c__shape_of hr (by decide) pass0 rfl (pa_cons (pe_split (pv 1) pe_str) pa_nil)) rfl)
      (pss_one (ps_fld (pv 0) (pe_callTy (cTUPd rfl) rfl n_tuple (by decide +kernel) (pa_cons (pe_fld (pv 0) rfl) pa_nil)) rfl))))), ?_⟩
  rintro p dx ds R hl ⟨text, s, rfl, ht, hf, hrun, hR⟩
  walk_at "dl0"
  walk_at "dl"
  refine isi_ty (n := "str") (b := true) rfl (by decide +kernel) ?_
  walk_at "dl"
  refine rs_fldI (i := 0) (j := 0) (dx := dx) (fs := []) (fl := false) rfl cl na__text ?_
  walk_at "dl"
  refine ⟨rfl, by decide, ?_⟩
  walk_at "dl"
  refine rs_fldI (i := 0) (j := 0) (dx := dx) (fs := [("_text", .str text)]) (fl := false) rfl cl na__shape ?_
  walk_at "dl"
  refine ⟨by decide +kernel, by omega, ?_⟩
  walk_at "dl"
  refine ⟨rfl, linesOf text, s, rfl, hf, hrun, ?_⟩
  refine ⟨_, rfl, rfl, (by simp only [List.length_cons, List.length_nil]; omega), ?_⟩
  walk_at "dl"
  refine rs_fldI (i := 0) (j := 0) (dx := dx) (fs := [("_text", .str text), ("_shape", .dct (shD s))]) (fl := false) rfl cl na_tables ?_
  walk_at "dl"
  refine rd_fldI (i := 0) (j := 0) rfl cl na__shape rfl rfl ?_
  walk_at "dl"
  refine tup_kd ?_
  refine ⟨_, rfl, rfl, (by simp only [List.length_cons, List.length_nil]; omega), ?_⟩
  exact ⟨_, 0, rfl, hR⟩

/-! ### what is asked of a schema -/
abbrev Col := Str × Str × Option (Str × Str)
abbrev Tb := List (Str × List Col)
def tgD : Option (Str × Str) → Da
  | none => .non
  | some (t, _) => .str t
def ruD : Option (Str × Str) → Da
  | none => .non
  | some (_, r) => .str r
def meanC (c : Col) : Da := .tup [.str c.2.1, tgD c.2.2, ruD c.2.2]
def colsD (cs : List Col) : List (Str × Da) := cs.map fun c => (c.1, meanC c)
def shT (tb : Tb) : List (Str × Da) := tb.map fun x => (x.1, .dct (colsD x.2))
def okT (tb : Tb) : Prop := (tb.map (·.1)).Nodup ∧ (∀ x ∈ tb, (x.2.map (·.1)).Nodup) ∧ tb.length ≤ 100 ∧ ∀ x ∈ tb, x.2.length ≤ 100
theorem lookup_nodup {α : Type} {z : Str} {b : α} : ∀ {l : List (Str × α)}, (l.map (·.1)).Nodup → (z, b) ∈ l → l.lookup z = some b
  | (g, c) :: t, nd, h => by
    have nd' := List.nodup_cons.mp nd
    rcases List.mem_cons.mp h with q | q
    · cases q
      simp [List.lookup]
    · have hne : (z == g) = false := by
        refine beq_eq_false_iff_ne.mpr fun e => nd'.1 ?_
        rw [← e]
        exact List.mem_map.mpr ⟨(z, b), q, rfl⟩
      simp only [List.lookup, hne]
      exact lookup_nodup nd'.2 q
theorem look_tab {tb : Tb} {n : Str} {cs : List Col} (h : okT tb) (m : (n, cs) ∈ tb) : (shT tb).lookup n = some (.dct (colsD cs)) :=
  lookup_nodup (by simpa [shT, List.map_map, Function.comp_def] using h.1) (List.mem_map.mpr ⟨(n, cs), m, rfl⟩)
theorem look_col {tb : Tb} {n : Str} {cs : List Col} {c : Col} (h : okT tb) (m : (n, cs) ∈ tb) (mc : c ∈ cs) : (colsD cs).lookup c.1 = some (meanC c) :=
  lookup_nodup (by simpa [colsD, List.map_map, Function.comp_def] using h.2.1 _ m) (List.mem_map.mpr ⟨c, mc, rfl⟩)
def cColumns (C : Addr) : CA := fun ds R => ∃ text tb n cs, ds = [.obj C (schF text (shT tb)), .str n] ∧ okT tb ∧ (n, cs) ∈ tb ∧ R (.tup (txts (cs.map (·.1))))
def cAsked (g : Col → Da) (C : Addr) : CA := fun ds R => ∃ (text : Str) (tb : Tb) (n : Str) (cs : List Col) (c : Col), ds = [.obj C (schF text (shT tb)), .str n, .str c.1] ∧ okT tb ∧ (n, cs) ∈ tb ∧ c ∈ cs ∧ R (g c)
abbrev st_Schema_columns : Stmt := inClass (topR 15) 1
abbrev N_Schema_columns : List Str := ["self", "table"]
theorem sc_Schema_columns : FnScope N_Schema_columns ["self", "table"] (defScope st_Schema_columns) := ⟨rfl, rfl, rfl, by decide +kernel, rfl, by decide +kernel, by decide +kernel⟩
abbrev sp_Schema_columns (K : PySem.W.Frag) (C : Addr) : Sp := spA K 2 (cColumns C)
theorem ok_Schema_columns {A_Schema : Addr} {P : Program} {w : World} {K : PySem.W.Frag} {mg : Str → Option Value} {base : Heap} (d : MethAt K A_Schema "columns" "Schema.columns" st_Schema_columns ["self", "table"]) (cl : Cls K A_Schema) (na__text : NoAttr K A_Schema "_text") (na__shape : NoAttr K A_Schema "_shape") (na_tables : NoAttr K A_Schema "tables") (n_tuple : mg "tuple" = none)  : MetG P w K mg base CX0 1 A_Schema "columns" (sp_Schema_columns K A_Schema) := by
  refine MethAt.met cl d fun {f fd} F => fn_A (n := 2) F sc_Schema_columns rfl fun cdv A outer s H E hr => ?_
  have hu := hr.r.units
  have hv := hr.u65
  refine ⟨_, (pss_cons (ps_if (pt_cmpR (opNIN hv) (pv 1) (pe_fld (pv 0) rfl) (by rfl)) (pss_one ps_never) pss_nil)
      (pss_one (ps_ret (pe_callTy (cTUPd rfl) rfl n_tuple (by decide +kernel) (pa_cons (pe_ix (ixANY hu) (pe_fld (pv 0) rfl) (pv 1) (fun _ _ => rfl)) pa_nil))))), ?_⟩
  rintro ds R hl ⟨text, tb, n, cs, rfl, hk, hm, hR⟩
  walk_at "dl0"
  walk_at "dl"
  have hlk := look_tab hk hm
  refine rd_fld ?_
  walk_at "dl"
  refine ⟨_, _, _, rfl, cl, na__shape, rfl, ?_⟩
  walk_at "dl"
  rw [hlk]
  refine ⟨(fun h => nomatch h), fun _ => ?_⟩
  walk_at "dl"
  refine rd_fld ?_
  walk_at "dl"
  refine ⟨_, _, _, rfl, cl, na__shape, rfl, ?_⟩
  walk_at "dl"
  refine ix_dct hlk ?_
  walk_at "dl"
  refine tup_kd ?_
  refine ⟨_, rfl, ?_⟩
  have e : (colsD cs).map (·.1) = cs.map (·.1) := by simp [colsD, List.map_map, Function.comp_def]
  rw [e]
  exact hR
abbrev st_Schema__meaning : Stmt := inClass (topR 15) 6
abbrev N_Schema__meaning : List Str := ["self", "table", "column"]
theorem sc_Schema__meaning : FnScope N_Schema__meaning ["self", "table", "column"] (defScope st_Schema__meaning) := ⟨rfl, rfl, rfl, by decide +kernel, rfl, by decide +kernel, by decide +kernel⟩
abbrev sp_Schema__meaning (K : PySem.W.Frag) (C : Addr) : Sp := spA K 3 (cAsked meanC C)
theorem ok_Schema__meaning {A_Schema : Addr} {P : Program} {w : World} {K : PySem.W.Frag} {mg : Str → Option Value} {base : Heap} (d : MethAt K A_Schema "_meaning" "Schema._meaning" st_Schema__meaning ["self", "table", "column"]) (cl : Cls K A_Schema) (na__text : NoAttr K A_Schema "_text") (na__shape : NoAttr K A_Schema "_shape") (na_tables : NoAttr K A_Schema "tables")   : MetG P w K mg base CX0 1 A_Schema "_meaning" (sp_Schema__meaning K A_Schema) := by
  refine MethAt.met cl d fun {f fd} F => fn_A (n := 3) F sc_Schema__meaning rfl fun cdv A outer s H E hr => ?_
  have hu := hr.r.units
  have hv := hr.u65
  refine ⟨_, (pss_cons (ps_if (pt_cmpR (opNIN hv) (pv 1) (pe_fld (pv 0) rfl) (by rfl)) (pss_one ps_never) pss_nil)
      (pss_cons (ps_if (pt_cmpR (opNIN hv) (pv 2) (pe_ix (ixANY hu) (pe_fld (pv 0) rfl) (pv 1) (fun _ _ => rfl)) (by rfl)) (pss_one ps_never) pss_nil)
      (pss_one (ps_ret (pe_ix (ixANY hu) (pe_ix (ixANY hu) (pe_fld (pv 0) rfl) (pv 1) (fun _ _ => rfl)) (pv 2) (fun _ _ => rfl)))))), ?_⟩
  rintro ds R hl ⟨text, tb, n, cs, c, rfl, hk, hm, hc, hR⟩
  walk_at "dl0"
  walk_at "dl"
  have hlk := look_tab hk hm
  have hlc := look_col hk hm hc
  refine rd_fld ?_
  walk_at "dl"
  refine ⟨_, _, _, rfl, cl, na__shape, rfl, ?_⟩
  walk_at "dl"
  rw [hlk]
  refine ⟨(fun h => nomatch h), fun _ => ?_⟩
  walk_at "dl"
  refine rd_fld ?_
  walk_at "dl"
  refine ⟨_, _, _, rfl, cl, na__shape, rfl, ?_⟩
  walk_at "dl"
  refine ix_dct hlk ?_
  walk_at "dl"
  rw [hlc]
  refine ⟨(fun h => nomatch h), fun _ => ?_⟩
  walk_at "dl"
  refine rd_fld ?_
  walk_at "dl"
  refine ⟨_, _, _, rfl, cl, na__shape, rfl, ?_⟩
  walk_at "dl"
  refine ix_dct hlk ?_
  walk_at "dl"
  refine ix_dct hlc ?_
  exact ⟨_, rfl, hR⟩
abbrev st_Schema_kind : Stmt := inClass (topR 15) 2
abbrev N_Schema_kind : List Str := ["self", "table", "column"]
theorem sc_Schema_kind : FnScope N_Schema_kind ["self", "table", "column"] (defScope st_Schema_kind) := ⟨rfl, rfl, rfl, by decide +kernel, rfl, by decide +kernel, by decide +kernel⟩
abbrev sp_Schema_kind (K : PySem.W.Frag) (C : Addr) : Sp := spA K 3 (cAsked (fun c => .str c.2.1) C)
theorem ok_Schema_kind {A_Schema : Addr} {P : Program} {w : World} {K : PySem.W.Frag} {mg : Str → Option Value} {base : Heap} (d : MethAt K A_Schema "kind" "Schema.kind" st_Schema_kind ["self", "table", "column"]) (cl : Cls K A_Schema) (na__text : NoAttr K A_Schema "_text") (na__shape : NoAttr K A_Schema "_shape") (na_tables : NoAttr K A_Schema "tables")  (c__meaning : MetG P w K mg base CX0 1 A_Schema "_meaning" (sp_Schema__meaning K A_Schema)) : MetG P w K mg base CX0 2 A_Schema "kind" (sp_Schema_kind K A_Schema) := by
  refine MethAt.met cl d fun {f fd} F => fn_A (n := 3) F sc_Schema_kind rfl fun cdv A outer s H E hr => ?_
  have hu := hr.r.units
  have hv := hr.u65
  refine ⟨_, (pss_one (ps_ret (pe_ix (ixANY hu) (pe_mg c__meaning hr (by decide) pass0 (pv 0) (pa_cons (pv 1) (pa_cons (pv 2) pa_nil))) pe_int (fun _ _ => rfl)))), ?_⟩
  rintro ds R hl ⟨text, tb, n, cs, c, rfl, hk, hm, hc, hR⟩
  walk_at "dl0"
  walk_at "dl"
  refine ⟨rfl, ?_⟩
  walk_at "dl"
  refine ⟨rfl, text, tb, n, cs, c, rfl, hk, hm, hc, ?_⟩
  walk_at "dl"
  refine ix_t (at_lit (n := 0) rfl rfl) ?_
  exact ⟨_, rfl, hR⟩
abbrev st_Schema_target : Stmt := inClass (topR 15) 3
abbrev N_Schema_target : List Str := ["self", "table", "column"]
theorem sc_Schema_target : FnScope N_Schema_target ["self", "table", "column"] (defScope st_Schema_target) := ⟨rfl, rfl, rfl, by decide +kernel, rfl, by decide +kernel, by decide +kernel⟩
abbrev sp_Schema_target (K : PySem.W.Frag) (C : Addr) : Sp := spA K 3 (cAsked (fun c => tgD c.2.2) C)
theorem ok_Schema_target {A_Schema : Addr} {P : Program} {w : World} {K : PySem.W.Frag} {mg : Str → Option Value} {base : Heap} (d : MethAt K A_Schema "target" "Schema.target" st_Schema_target ["self", "table", "column"]) (cl : Cls K A_Schema) (na__text : NoAttr K A_Schema "_text") (na__shape : NoAttr K A_Schema "_shape") (na_tables : NoAttr K A_Schema "tables")  (c__meaning : MetG P w K mg base CX0 1 A_Schema "_meaning" (sp_Schema__meaning K A_Schema)) : MetG P w K mg base CX0 2 A_Schema "target" (sp_Schema_target K A_Schema) := by
  refine MethAt.met cl d fun {f fd} F => fn_A (n := 3) F sc_Schema_target rfl fun cdv A outer s H E hr => ?_
  have hu := hr.r.units
  have hv := hr.u65
  refine ⟨_, (pss_one (ps_ret (pe_ix (ixANY hu) (pe_mg c__meaning hr (by decide) pass0 (pv 0) (pa_cons (pv 1) (pa_cons (pv 2) pa_nil))) pe_int (fun _ _ => rfl)))), ?_⟩
  rintro ds R hl ⟨text, tb, n, cs, c, rfl, hk, hm, hc, hR⟩
  walk_at "dl0"
  walk_at "dl"
  refine ⟨rfl, ?_⟩
  walk_at "dl"
  refine ⟨rfl, text, tb, n, cs, c, rfl, hk, hm, hc, ?_⟩
  walk_at "dl"
  refine ix_t (at_lit (n := 1) rfl rfl) ?_
  exact ⟨_, rfl, hR⟩
abbrev st_Schema_rule : Stmt := inClass (topR 15) 4
abbrev N_Schema_rule : List Str := ["self", "table", "column"]
theorem sc_Schema_rule : FnScope N_Schema_rule ["self", "table", "column"] (defScope st_Schema_rule) := ⟨rfl, rfl, rfl, by decide +kernel, rfl, by decide +kernel, by decide +kernel⟩
abbrev sp_Schema_rule (K : PySem.W.Frag) (C : Addr) : Sp := spA K 3 (cAsked (fun c => ruD c.2.2) C)
theorem ok_Schema_rule {A_Schema : Addr} {P : Program} {w : World} {K : PySem.W.Frag} {mg : Str → Option Value} {base : Heap} (d : MethAt K A_Schema "rule" "Schema.rule" st_Schema_rule ["self", "table", "column"]) (cl : Cls K A_Schema) (na__text : NoAttr K A_Schema "_text") (na__shape : NoAttr K A_Schema "_shape") (na_tables : NoAttr K A_Schema "tables")  (c__meaning : MetG P w K mg base CX0 1 A_Schema "_meaning" (sp_Schema__meaning K A_Schema)) : MetG P w K mg base CX0 2 A_Schema "rule" (sp_Schema_rule K A_Schema) := by
  refine MethAt.met cl d fun {f fd} F => fn_A (n := 3) F sc_Schema_rule rfl fun cdv A outer s H E hr => ?_
  have hu := hr.r.units
  have hv := hr.u65
  refine ⟨_, (pss_one (ps_ret (pe_ix (ixANY hu) (pe_mg c__meaning hr (by decide) pass0 (pv 0) (pa_cons (pv 1) (pa_cons (pv 2) pa_nil))) pe_int (fun _ _ => rfl)))), ?_⟩
  rintro ds R hl ⟨text, tb, n, cs, c, rfl, hk, hm, hc, hR⟩
  walk_at "dl0"
  walk_at "dl"
  refine ⟨rfl, ?_⟩
  walk_at "dl"
  refine ⟨rfl, text, tb, n, cs, c, rfl, hk, hm, hc, ?_⟩
  walk_at "dl"
  refine ix_t (at_lit (n := 2) rfl rfl) ?_
  exact ⟨_, rfl, hR⟩
theorem take_snoc {α : Type} {l : List α} {i : Nat} {x : α} (h : l[i]? = some x) : l.take (i + 1) = l.take i ++ [x] := by
  rw [List.take_add_one, h]; rfl

/-! ### the law's own drawing -/
abbrev l_KINDS : List Str := ["link", "value", "flag", "link"]
def goodCol (names : List Str) (c : Col) : Prop := isWord c.1 = true ∧ c.1 ∉ ([("key" : Str), "self", "table"] : List Str) ∧
  ((c.2.1 = "link" ∧ ∃ t r, c.2.2 = some (t, r) ∧ t ∈ names ∧ r ∈ ([("refuse" : Str), "clear", "cascade"] : List Str)) ∨ ((c.2.1 = "value" ∨ c.2.1 = "flag") ∧ c.2.2 = none))
def colT (c : Col) : Da := .tup [.str c.1, .str c.2.1, tgD c.2.2, ruD c.2.2]
def tabT (x : Str × List Col) : Da := .tup [.str x.1, .lst (x.2.map colT)]
def lstT (tb : Tb) : Da := .lst (tb.map tabT)
structure goodX (names : List Str) (m : Nat) (x : Str × List Col) : Prop where
  w : isWord x.1 = true
  nd : (x.2.map (·.1)).Nodup
  len : x.2.length ≤ m
  cs : ∀ c ∈ x.2, goodCol names c
structure goodT (k m : Nat) (tb : Tb) : Prop where
  nd : (tb.map (·.1)).Nodup
  one : 1 ≤ tb.length
  most : tb.length ≤ k
  xs : ∀ x ∈ tb, goodX (tb.map (·.1)) m x
def cOf : CP := fun ds c R => ∃ xs : List Da, ds = [.lst xs] ∧ xs ≠ [] ∧ xs.length ≤ 100000 ∧ c < 2 ^ 60 ∧ ∀ x ∈ xs, R x (c + 1)
def cTables : CP := fun ds c R => ∃ k m : Nat, ds = [.int k, .int m] ∧ 1 ≤ k ∧ k ≤ 5 ∧ m ≤ 6 ∧ c < 2 ^ 40 ∧ ∀ tb c', goodT k m tb → c' ≤ c + 1000 → R (lstT tb) c'
abbrev st__law_of : Stmt := topR 25
abbrev N__law_of : List Str := ["_law_pool_here", "_law_some"]
theorem sc__law_of : FnScope N__law_of ["_law_pool_here", "_law_some"] (defScope st__law_of) := ⟨rfl, rfl, rfl, by decide +kernel, rfl, by decide +kernel, by decide +kernel⟩
abbrev sp__law_of (K : PySem.W.Frag) : Sp := spP K 1 cOf
theorem ok__law_of {P : Program} {w : World} {K : PySem.W.Frag} {mg : Str → Option Value} {base : Heap} (d : DefAt K mg "_law_of" st__law_of ["_law_pool_here", "_law_some"]) (n_len : mg "len" = none) (c__law_draw : CalG P w K mg base CX0 1 "_law_draw" (sp__law_draw K)) : CalG P w K mg base CX0 2 "_law_of" (sp__law_of K) := by
  refine DefAt.cal d fun {f fd} F => fn_P (n := 1) F sc__law_of rfl fun cdv A outer s H E hr => ?_
  have hu := hr.r.units
  have hv := hr.u65
  refine ⟨_, (pss_one (ps_ret (pe_ix (ixANY hu) (pv 1) (pe_cg c__law_draw hr (by decide) pass0 rfl (pa_cons (pv 0) (pa_cons (pe_callB cLEN rfl n_len (by decide +kernel) (pa_cons (pv 1) pa_nil)) pa_nil))) (fun _ _ => rfl)))), ?_⟩
  rintro p ds c R hl ⟨xs, rfl, hne, hx, hc, hR⟩
  walk_at "dl0"
  walk_at "dl"
  refine ⟨_, rfl, ?_, ?_, by omega, fun n n0 n1 => ?_⟩
  · have : 0 < xs.length := List.length_pos_iff.mpr hne
    omega
  · omega
  · obtain ⟨x, hx1, hx2⟩ := atI_some (xs := xs) n0 n1
    walk_at "dl"
    refine ix_l (IsL.dat _) hx1 ?_
    exact ⟨_, 0, _, _, rfl, rfl, Nat.le_refl _, hR x hx2⟩
abbrev st__law_tables : Stmt := topR 28
abbrev N__law_tables : List Str := ["_law_pool_here", "_law_most", "_law_widest", "_law_names", "_law_k", "_law_tables_here", "_law_name", "_law_columns_here", "_law_kind", "_law_target", "_law_rule", "_law_column"]
theorem sc__law_tables : FnScope N__law_tables ["_law_pool_here", "_law_most", "_law_widest"] (defScope st__law_tables) := ⟨rfl, rfl, rfl, by decide +kernel, rfl, by decide +kernel, by decide +kernel⟩
abbrev sp__law_tables (K : PySem.W.Frag) : Sp := spP K 2 cTables
theorem ok__law_tables {P : Program} {w : World} {K : PySem.W.Frag} {mg : Str → Option Value} {base : Heap} (d : DefAt K mg "_law_tables" st__law_tables ["_law_pool_here", "_law_most", "_law_widest"]) (n_range : mg "range" = none) (c__law_draw : CalG P w K mg base CX0 1 "_law_draw" (sp__law_draw K)) (c__law_of : CalG P w K mg base CX0 2 "_law_of" (sp__law_of K)) (c__law_word : CalG P w K mg base CX0 2 "_law_word" (sp__law_word K)) : CalG P w K mg base CX0 4 "_law_tables" (sp__law_tables K) := by
  refine DefAt.cal d fun {f fd} F => fn_P (n := 2) F sc__law_tables rfl fun cdv A outer s H E hr => ?_
  have hu := hr.r.units
  have hv := hr.u65
  refine ⟨_, (pss_cons (ps_set (i := 3) sc__law_tables.nd rfl (Or.inl rfl) (pe_lst pa_nil))
      (pss_cons (ps_for PassesOwn.never rfl (pi_range1 rfl n_range (pa_cons (pe_op opADD pe_int (pe_cg c__law_draw hr (by decide) pass0 rfl (pa_cons (pv 0) (pa_cons (pv 1) pa_nil)))) pa_nil)) (pg_name (i := 4) sc__law_tables.nd rfl (Or.inl rfl)) (pss_one (ps_expr (pe_bm PySem.F.plainAttrs_list PySem.F.slot_list_append PySem.F.type_list_append mt_append (pv 3) (pa_cons (pe_cg c__law_word hr (by decide) pass0 rfl (pa_cons (pv 0) (pa_cons (pv 3) pa_nil))) pa_nil)))))
      (pss_cons (ps_set (i := 5) sc__law_tables.nd rfl (Or.inl rfl) (pe_lst pa_nil))
      (pss_cons (ps_for PassesOwn.never rfl (pi_list (pv 3)) (pg_name (i := 6) sc__law_tables.nd rfl (Or.inl rfl)) (pss_cons (ps_set (i := 7) sc__law_tables.nd rfl (Or.inl rfl) (pe_lst pa_nil))
      (pss_cons (ps_for PassesOwn.never rfl (pi_range1 rfl n_range (pa_cons (pe_cg c__law_draw hr (by decide) pass0 rfl (pa_cons (pv 0) (pa_cons (pe_op opADD (pv 2) pe_int) pa_nil))) pa_nil)) (pg_name (i := 4) sc__law_tables.nd rfl (Or.inl rfl)) (pss_cons (ps_set (i := 8) sc__law_tables.nd rfl (Or.inl rfl) (pe_cg c__law_of hr (by decide) pass0 rfl (pa_cons (pv 0) (pa_cons (pe_lst (pa_cons pe_str (pa_cons pe_str (pa_cons pe_str (pa_cons pe_str pa_nil))))) pa_nil))))
      (pss_cons (ps_set (i := 9) sc__law_tables.nd rfl (Or.inl rfl) (pe_ifExp (pt_cmpR (opEQ hu) (pv 8) pe_str (nomark _)) (pe_cg c__law_of hr (by decide) pass0 rfl (pa_cons (pv 0) (pa_cons (pv 3) pa_nil))) pe_non))
      (pss_cons (ps_set (i := 10) sc__law_tables.nd rfl (Or.inl rfl) (pe_ifExp (pt_cmpR (opEQ hu) (pv 8) pe_str (nomark _)) (pe_cg c__law_of hr (by decide) pass0 rfl (pa_cons (pv 0) (pa_cons (pe_lst (pa_cons pe_str (pa_cons pe_str (pa_cons pe_str pa_nil)))) pa_nil))) pe_non))
      (pss_one (ps_expr (pe_bm PySem.F.plainAttrs_list PySem.F.slot_list_append PySem.F.type_list_append mt_append (pv 7) (pa_cons (pe_tup (pa_cons (pe_cg c__law_word hr (by decide) pass0 rfl (pa_cons (pv 0) (pa_cons (pe_lc (own := [("_law_column", 11)]) (g := gName 11) (tt := tYes) (te := tOp (rIX K) (tVar 11) (tC (.int 0))) rfl sc__law_tables.nd (pi_list (pv 7)) (blkOk_by (N := N__law_tables) (sc := defScope st__law_tables) (by decide +kernel)) (fun _ _ _ _ _ => (pg_name (i := 11) sc__law_tables.nd rfl (Or.inl rfl))) (fun _ _ _ _ _ => pts_nil) (fun _ _ _ _ _ => (pe_ix (ixANY hu) (pv 11) pe_int (fun _ _ => rfl)))) pa_nil))) (pa_cons (pv 8) (pa_cons (pv 9) (pa_cons (pv 10) pa_nil))))) pa_nil))))))))
      (pss_one (ps_expr (pe_bm PySem.F.plainAttrs_list PySem.F.slot_list_append PySem.F.type_list_append mt_append (pv 5) (pa_cons (pe_tup (pa_cons (pv 6) (pa_cons (pv 7) pa_nil))) pa_nil)))))))
      (pss_one (ps_ret (pv 5))))))), ?_⟩
  rintro p ds c R hl ⟨k, m, rfl, hk1, hk5, hm, hc, hR⟩
  walk_at "dl0"
  walk_at "dl"
  refine lst_o fun ln => ?_
  walk_at "dl"
  refine rs_forR ?_
  walk_at "dl"
  refine ⟨_, rfl, by omega, by omega, by omega, fun n n0 n1 => ?_⟩
  obtain ⟨q, rfl⟩ := Int.eq_ofNat_of_zero_le n0
  walk_at "dl"
  refine ⟨by omega, fun i δ' μ' => ∃ (ns : List Str) (c1 : Nat) (x4 : SK), δ' = [.own p, .dat (.int k), .dat (.int m), .own ln, x4, .any, .any, .any, .any, .any, .any, .any] ∧ μ' = [(ln, MK.ml (txts ns), true), (p, MK.pool c1, false)] ∧ ns.length = i ∧ ns.Nodup ∧ (∀ z ∈ ns, isWord z = true) ∧ c1 ≤ c + 1 + 2 * i, ⟨[], _, _, rfl, rfl, rfl, List.nodup_nil, (fun _ h => nomatch h), Nat.le_refl _⟩, ?_, ?_⟩
  · rintro i δ' μ' hi ⟨ns, c1, x4, rfl, rfl, hni, hnd, hw, hc1⟩
    refine rg_name ?_
    refine rs_app (i := 3) rfl ⟨0, _, _, rfl⟩ (rd_callPB ?_)
    walk_at "dl"
    refine ⟨p, _, _, 1, c1, false, rfl, .own (i := 0) rfl .nil, rfl, rfl, ns, rfl, by omega, by omega, fun z hz => ?_⟩
    refine ⟨rfl, .str z, 0, txts ns, true, rfl, rfl, by simp only [txts, List.length_map]; omega, ns ++ [z], _, _, rfl, ?_, ?_, ?_, ?_, Nat.le_trans (Nat.add_le_add_right hc1 2) (by omega)⟩
    · simp [txts]
    · rw [List.length_append, hni]; rfl
    · rw [List.nodup_append]
      refine ⟨hnd, by simp, ?_⟩
      intro a ha b hb
      have : b = z := by simpa using hb
      rw [this]
      intro e
      exact hz.2.1 (e ▸ ha)
    · intro y hy
      rcases List.mem_append.mp hy with u | u
      · exact hw y u
      · have : y = z := by simpa using u
        rw [this]; exact hz.1
  · rintro δ' μ' ⟨ns, c1, x4, rfl, rfl, hni, hnd, hw, hc1⟩
    refine rs_freeze (i := 0) (j := 3) ?_ rfl rfl
    walk_at "dl"
    refine lst_o fun lt => ?_
    walk_at "dl"
    refine rs_forL ?_
    walk_at "dl"
    refine ⟨fun i δ' μ' => ∃ (tb : Tb) (c2 : Nat) (x4 x6 x7 x8 x9 x10 x11 : SK), δ' = [.own p, .dat (.int k), .dat (.int m), .dat (.lst (txts ns)), x4, .own lt, x6, x7, x8, x9, x10, x11] ∧ μ' = [(lt, MK.ml (tb.map tabT), true), (p, MK.pool c2, false)] ∧ tb.map (·.1) = ns.take i ∧ (∀ x ∈ tb, goodX ns m x) ∧ c2 ≤ c + 20 + 40 * i, ⟨[], c1, _, _, _, _, _, _, _, rfl, rfl, rfl, (fun _ h => nomatch h), by omega⟩, ?_, ?_⟩
    · rintro i d δ' μ' hd ⟨tb, c2, x4, x6, x7, x8, x9, x10, x11, rfl, rfl, hns, hgood, hc2⟩
      obtain ⟨nm, hnm, rfl⟩ := txts_get hd
      have hi : i < ns.length := (List.getElem?_eq_some_iff.mp hnm).1
      have htl : tb.length = i := by
        have : (tb.map (·.1)).length = i := by rw [hns, List.length_take]; omega
        simpa using this
      refine rg_name ?_
      walk_at "dl"
      refine lst_o fun lc => ?_
      walk_at "dl"
      refine rs_forR ?_
      walk_at "dl"
      refine ⟨_, rfl, by omega, by omega, by omega, fun n n0 n1 => ?_⟩
      obtain ⟨w, rfl⟩ := Int.eq_ofNat_of_zero_le n0
      walk_at "dl"
      refine ⟨by omega, fun j δ' μ' => ∃ (cs : List Col) (c3 : Nat) (x4 x8 x9 x10 x11 : SK), δ' = [.own p, .dat (.int k), .dat (.int m), .dat (.lst (txts ns)), x4, .own lt, .dat (.str nm), .own lc, x8, x9, x10, x11] ∧ μ' = [(lc, MK.ml (cs.map colT), true), (lt, MK.ml (tb.map tabT), true), (p, MK.pool c3, false)] ∧ cs.length = j ∧ (cs.map (·.1)).Nodup ∧ (∀ x ∈ cs, goodCol ns x) ∧ c3 ≤ c2 + 1 + 5 * j, ⟨[], _, _, _, _, _, _, rfl, rfl, rfl, List.nodup_nil, (fun _ h => nomatch h), Nat.le_refl _⟩, ?_, ?_⟩
      · rintro j δ' μ' hj ⟨cs, c3, x4, x8, x9, x10, x11, rfl, rfl, hcl, hcn, hcg, hc3⟩
        refine rg_name ?_
        walk_at "dl"
        refine lst_d ?_
        walk_at "dl"
        refine ⟨_, rfl, by simp, by decide, by omega, fun kd hkd => ?_⟩
        have hkd2 : ∃ z : Str, kd = .str z ∧ (z = "link" ∨ z = "value" ∨ z = "flag") := by
          rcases List.mem_cons.mp hkd with u | u
          · exact ⟨_, u, .inl rfl⟩
          rcases List.mem_cons.mp u with u | u
          · exact ⟨_, u, .inr (.inl rfl)⟩
          rcases List.mem_cons.mp u with u | u
          · exact ⟨_, u, .inr (.inr rfl)⟩
          rcases List.mem_cons.mp u with u | u
          · exact ⟨_, u, .inl rfl⟩
          · cases u
        obtain ⟨z, rfl, hz⟩ := hkd2
        have hfin : ∀ (E : DE) (lk : Option (Str × Str)) (c4 : Nat) (x4 : SK), c4 ≤ c3 + 3 → (∀ nn : Str, newWord (cs.map (·.1)) nn → E.nx [.own p, .dat (.int k), .dat (.int m), .dat (.lst (txts ns)), x4, .own lt, .dat (.str nm), .own lc, .dat (.str z), .dat (tgD lk), .dat (ruD lk), x11]
              [(lc, MK.ml (cs.map colT ++ [.tup [.str nn, .str z, tgD lk, ruD lk]]), true), (lt, MK.ml (tb.map tabT), true), (p, MK.pool (c4 + 2), false)]) →
            RS K (tDrop (tBM K "list" rAppend (tVar 7) (tCons (tTup (tCons (tCall (sp__law_word K) [] E0 (tCons (tVar 0) (tCons (tLc (iList K (tVar 7)) (gName 11) tYes (tOp (rIX K) (tVar 11) (tC (V.int 0))) [11]) tNil))) (tCons (tVar 8) (tCons (tVar 9) (tCons (tVar 10) tNil))))) tNil)))
              [.own p, .dat (.int k), .dat (.int m), .dat (.lst (txts ns)), x4, .own lt, .dat (.str nm), .own lc, .dat (.str z), .dat (tgD lk), .dat (ruD lk), x11]
              [(lc, MK.ml (cs.map colT), true), (lt, MK.ml (tb.map tabT), true), (p, MK.pool c4, false)] E := fun E lk c4 x4 h4 hE => by
          refine rs_app (i := 7) rfl ⟨0, _, _, rfl⟩ ?_
          walk_at "dl"
          refine lc_o (tgIn_name (by decide)) ?_
          walk_at "dl"
          refine ⟨cs.map colT, .own (i := 0) rfl, fun i acc => acc = txts ((cs.take i).map (·.1)), rfl, ?_, ?_⟩
          · rintro i e acc he rfl
            obtain ⟨x, hx, rfl⟩ : ∃ x, cs[i]? = some x ∧ e = colT x := by
              rw [List.getElem?_map] at he
              cases q : cs[i]? with
              | none => rw [q] at he; cases he
              | some x => rw [q] at he; exact ⟨x, rfl, (Option.some.inj he).symm⟩
            have hi2 : i < cs.length := (List.getElem?_eq_some_iff.mp hx).1
            refine rg_name ?_
            walk_at "dl"
            refine ix_t (d := .str x.1) (at_lit (n := 0) rfl rfl) ?_
            refine ⟨_, rfl, by simp only [txts, List.length_map, List.length_take]; omega, rfl, ?_⟩
            rw [take_snoc hx]
            simp [txts]
          · rintro acc rfl
            rw [show (cs.take (cs.map colT).length) = cs from by rw [List.length_map, List.take_length]]
            walk_at "dl"
            refine ⟨_, rfl, by rw [List.length_map]; omega, by omega, fun nn hnn => ?_⟩
            walk_at "dl"
            exact ⟨_, 0, _, true, rfl, rfl, by rw [List.length_map]; omega, hE nn hnn⟩
        by_cases hq : z = "link"
        · subst hq
          walk_at "dl"
          refine ⟨_, rfl, ?_, by simp only [txts, List.length_map]; omega, by omega, fun tg htg => ?_⟩
          · intro e
            have : (txts ns).length = 0 := by rw [e]; rfl
            simp only [txts, List.length_map] at this
            omega
          obtain ⟨t, ht, rfl⟩ := List.mem_map.mp htg
          walk_at "dl"
          refine lst_d ?_
          walk_at "dl"
          refine ⟨_, rfl, by simp, by decide, by omega, fun rd hrd => ?_⟩
          obtain ⟨r, hr2, rfl⟩ : ∃ r, r ∈ ([("refuse" : Str), "clear", "cascade"] : List Str) ∧ rd = .str r := by
            rcases List.mem_cons.mp hrd with u | u
            · exact ⟨_, by simp, u⟩
            rcases List.mem_cons.mp u with u | u
            · exact ⟨_, by simp, u⟩
            rcases List.mem_cons.mp u with u | u
            · exact ⟨_, by simp, u⟩
            · cases u
          walk_at "dl"
          refine hfin _ (some (t, r)) (c3 + 1 + 1 + 1) _ (by omega) fun nn hnn => ?_
          refine ⟨cs ++ [(nn, ("link" : Str), some (t, r))], c3 + 1 + 1 + 1 + 2, _, _, _, _, _, rfl, by simp [colT, tgD, ruD], by simp [hcl], ?_, ?_, by omega⟩
          · rw [List.map_append, List.nodup_append]
            refine ⟨hcn, by simp, ?_⟩
            intro a ha b hb e
            have : b = nn := by simpa using hb
            exact hnn.2.1 (this ▸ e ▸ ha)
          · intro x hx
            rcases List.mem_append.mp hx with u | u
            · exact hcg x u
            · have : x = (nn, ("link" : Str), some (t, r)) := by simpa using u
              rw [this]
              exact ⟨hnn.1, hnn.2.2, .inl ⟨rfl, t, r, rfl, ht, hr2⟩⟩
        · have hq2 : decide (z = ("link" : Str)) = false := decide_eq_false hq
          have hz2 : z = "value" ∨ z = "flag" := hz.resolve_left hq
          walk_at "dl"
          refine ⟨fun h => absurd (hq2.symm.trans h) (by decide), fun _ => ?_⟩
          walk_at "dl"
          refine ⟨fun h => absurd (hq2.symm.trans h) (by decide), fun _ => ?_⟩
          walk_at "dl"
          refine hfin _ none (c3 + 1) _ (by omega) fun nn hnn => ?_
          refine ⟨cs ++ [(nn, z, none)], c3 + 1 + 2, _, _, _, _, _, rfl, by simp [colT, tgD, ruD], by simp [hcl], ?_, ?_, by omega⟩
          · rw [List.map_append, List.nodup_append]
            refine ⟨hcn, by simp, ?_⟩
            intro a ha b hb e
            have : b = nn := by simpa using hb
            exact hnn.2.1 (this ▸ e ▸ ha)
          · intro x hx
            rcases List.mem_append.mp hx with u | u
            · exact hcg x u
            · have : x = (nn, z, none) := by simpa using u
              rw [this]
              exact ⟨hnn.1, hnn.2.2, .inr ⟨hz2, rfl⟩⟩
      · rintro δ' μ' ⟨cs, c3, x4, x8, x9, x10, x11, rfl, rfl, hcl, hcn, hcg, hc3⟩
        refine rs_freeze (i := 0) (j := 7) ?_ rfl rfl
        refine rs_app (i := 5) rfl ⟨0, _, _, rfl⟩ ?_
        walk_at "dl"
        refine ⟨_, 0, _, true, rfl, rfl, by simp only [List.length_map]; omega, tb ++ [(nm, cs)], c3, _, _, _, _, _, _, _, rfl, ?_, ?_, ?_, ?_⟩
        · simp [tabT]
        · rw [List.map_append, hns, take_snoc hnm]; rfl
        · intro x hx
          rcases List.mem_append.mp hx with u | u
          · exact hgood x u
          · have : x = (nm, cs) := by simpa using u
            rw [this]
            exact ⟨hw nm (List.mem_of_getElem? hnm), hcn, (by show cs.length ≤ m; omega), hcg⟩
        · omega
    · rintro δ' μ' ⟨tb, c2, x4, x6, x7, x8, x9, x10, x11, rfl, rfl, hns, hgood, hc2⟩
      have htl : (txts ns).length = ns.length := by simp [txts]
      rw [htl, List.take_length] at hns
      rw [htl] at hc2
      have hlen : tb.length = ns.length := by rw [← hns]; simp
      refine rs_retF ?_
      walk_at "dl"
      refine ⟨lt, 0, _, rfl, rfl, _, 0, c2, c2, rfl, rfl, Nat.le_refl _, hR tb c2 ⟨by rw [hns]; exact hnd, by omega, by omega, fun x hx => by rw [hns]; exact hgood x hx⟩ (by omega)⟩

/-! ### the law's own lines, pairs and links -/
theorem isWord_len {z : Str} (h : isWord z = true) : 1 ≤ z.length ∧ z.length ≤ 8 := by
  unfold isWord at h
  obtain ⟨h1, _⟩ := Bool.and_eq_true_iff.mp h
  obtain ⟨h2, h3⟩ := Bool.and_eq_true_iff.mp h1
  exact ⟨of_decide_eq_true h2, of_decide_eq_true h3⟩
def lineC (c : Col) : Str := ((c.2.1 ++ (" " : Str)) ++ c.1) ++ (match c.2.2 with | some (t, r) => (((" " : Str) ++ t) ++ (" " : Str)) ++ r | none => (("" : Str)))
def lineX (x : Str × List Col) : List Str := ((("table " : Str)) ++ x.1) :: x.2.map lineC
def linesT (tb : Tb) : List Str := tb.flatMap lineX
def pairsX (x : Str × List Col) : List Da := x.2.map fun c => .tup [.str x.1, .str c.1]
def pairsT (tb : Tb) : List Da := tb.flatMap pairsX
abbrev good6 (tb : Tb) : Prop := goodT 5 6 tb
theorem linesX_len {x : Str × List Col} : (lineX x).length = x.2.length + 1 := by simp [lineX]
theorem linesT_len {tb : Tb} (h : ∀ x ∈ tb, x.2.length ≤ 6) : (linesT tb).length ≤ 7 * tb.length := by
  induction tb with
  | nil => exact Nat.le_refl _
  | cons x r ih =>
    have h1 := ih fun y hy => h y (List.mem_cons_of_mem _ hy)
    have h2 := h x List.mem_cons_self
    have e : linesT (x :: r) = lineX x ++ linesT r := by simp [linesT]
    rw [e, List.length_append, linesX_len, List.length_cons]
    omega
theorem pairsT_len {tb : Tb} (h : ∀ x ∈ tb, x.2.length ≤ 6) : (pairsT tb).length ≤ 6 * tb.length := by
  induction tb with
  | nil => exact Nat.le_refl _
  | cons x r ih =>
    have h1 := ih fun y hy => h y (List.mem_cons_of_mem _ hy)
    have h2 := h x List.mem_cons_self
    have e : pairsT (x :: r) = pairsX x ++ pairsT r := by simp [pairsT]
    rw [e, List.length_append, List.length_cons]
    simp only [pairsX, List.length_map]
    omega
theorem goodCol_len {names : List Str} {c : Col} (h : goodCol names c) (hw : ∀ z ∈ names, isWord z = true) : c.1.length ≤ 8 ∧ c.2.1.length ≤ 5 ∧ ((c.2.1 = "link" ∧ ∃ t r, c.2.2 = some (t, r) ∧ t.length ≤ 8 ∧ r.length ≤ 7) ∨ (c.2.1 ≠ "link" ∧ c.2.2 = none)) := by
  obtain ⟨h1, h2, h3⟩ := h
  refine ⟨(isWord_len h1).2, ?_, ?_⟩
  · rcases h3 with ⟨e, _⟩ | ⟨e | e, _⟩ <;> rw [e] <;> decide
  · rcases h3 with ⟨e, t, r, h4, h5, h6⟩ | ⟨e, h4⟩
    · refine .inl ⟨e, t, r, h4, (isWord_len (hw t h5)).2, ?_⟩
      rcases List.mem_cons.mp h6 with u | u
      · rw [u]; decide
      rcases List.mem_cons.mp u with u | u
      · rw [u]; decide
      rcases List.mem_cons.mp u with u | u
      · rw [u]; decide
      · cases u
    · refine .inr ⟨?_, h4⟩
      rcases e with e | e <;> rw [e] <;> decide
theorem good_words {k m : Nat} {tb : Tb} (h : goodT k m tb) : ∀ z ∈ tb.map (·.1), isWord z = true := fun z hz => by
  obtain ⟨x, hx, rfl⟩ := List.mem_map.mp hz
  exact (h.xs x hx).w
def cLines : CA := fun ds R => ∃ tb, ds = [lstT tb] ∧ good6 tb ∧ R (.lst (txts (linesT tb)))
def cPairs : CA := fun ds R => ∃ tb, ds = [lstT tb] ∧ good6 tb ∧ R (.lst (pairsT tb))
theorem tabs_get {tb : Tb} {i : Nat} {e : Da} (h : (tb.map tabT)[i]? = some e) : ∃ x, tb[i]? = some x ∧ e = tabT x := by
  rw [List.getElem?_map] at h
  cases q : tb[i]? with
  | none => rw [q] at h; cases h
  | some x => rw [q] at h; exact ⟨x, rfl, (Option.some.inj h).symm⟩
theorem cols_get {cs : List Col} {i : Nat} {e : Da} (h : (cs.map colT)[i]? = some e) : ∃ x, cs[i]? = some x ∧ e = colT x := by
  rw [List.getElem?_map] at h
  cases q : cs[i]? with
  | none => rw [q] at h; cases h
  | some x => rw [q] at h; exact ⟨x, rfl, (Option.some.inj h).symm⟩
abbrev st__law_lines : Stmt := topR 29
abbrev N__law_lines : List Str := ["_law_tables_here", "_law_lines_here", "_law_name", "_law_columns_here", "_law_column", "_law_kind", "_law_target", "_law_rule"]
theorem sc__law_lines : FnScope N__law_lines ["_law_tables_here"] (defScope st__law_lines) := ⟨rfl, rfl, rfl, by decide +kernel, rfl, by decide +kernel, by decide +kernel⟩
abbrev sp__law_lines (K : PySem.W.Frag) : Sp := spA K 1 cLines
theorem ok__law_lines {P : Program} {w : World} {K : PySem.W.Frag} {mg : Str → Option Value} {base : Heap} (d : DefAt K mg "_law_lines" st__law_lines ["_law_tables_here"])  : CalG P w K mg base CX0 1 "_law_lines" (sp__law_lines K) := by
  refine DefAt.cal d fun {f fd} F => fn_A (n := 1) F sc__law_lines rfl fun cdv A outer s H E hr => ?_
  have hu := hr.r.units
  have hv := hr.u65
  refine ⟨_, (pss_cons (ps_set (i := 1) sc__law_lines.nd rfl (Or.inl rfl) (pe_lst pa_nil))
      (pss_cons (ps_for PassesOwn.never rfl (pi_list (pv 0)) (pg_tup rfl (pgs_cons (pg_name (i := 2) sc__law_lines.nd rfl (Or.inl rfl)) (pgs_cons (pg_name (i := 3) sc__law_lines.nd rfl (Or.inl rfl)) pgs_nil))) (pss_cons (ps_expr (pe_bm PySem.F.plainAttrs_list PySem.F.slot_list_append PySem.F.type_list_append mt_append (pv 1) (pa_cons (pe_op opADD pe_str (pv 2)) pa_nil)))
      (pss_one (ps_for PassesOwn.never rfl (pi_list (pv 3)) (pg_tup rfl (pgs_cons (pg_name (i := 4) sc__law_lines.nd rfl (Or.inl rfl)) (pgs_cons (pg_name (i := 5) sc__law_lines.nd rfl (Or.inl rfl)) (pgs_cons (pg_name (i := 6) sc__law_lines.nd rfl (Or.inl rfl)) (pgs_cons (pg_name (i := 7) sc__law_lines.nd rfl (Or.inl rfl)) pgs_nil))))) (pss_one (ps_expr (pe_bm PySem.F.plainAttrs_list PySem.F.slot_list_append PySem.F.type_list_append mt_append (pv 1) (pa_cons (pe_op opADD (pe_op opADD (pe_op opADD (pv 5) pe_str) (pv 4)) (pe_ifExp (pt_cmpR (opEQ hu) (pv 5) pe_str (nomark _)) (pe_op opADD (pe_op opADD (pe_op opADD pe_str (pv 6)) pe_str) (pv 7)) pe_str)) pa_nil))))))))
      (pss_one (ps_ret (pv 1))))), ?_⟩
  rintro ds R hl ⟨tb, rfl, hg, hR⟩
  walk_at "dl0"
  walk_at "dl"
  refine lst_o fun ll => ?_
  walk_at "dl"
  refine rs_forL ?_
  walk_at "dl"
  have hw := good_words hg
  refine ⟨fun i δ' μ' => ∃ x2 x3 x4 x5 x6 x7 : SK, δ' = [.dat (lstT tb), .own ll, x2, x3, x4, x5, x6, x7] ∧ μ' = [(ll, MK.ml (txts (linesT (tb.take i))), true)], ⟨_, _, _, _, _, _, rfl, rfl⟩, ?_, ?_⟩
  · rintro i d δ' μ' hd ⟨x2, x3, x4, x5, x6, x7, rfl, rfl⟩
    obtain ⟨x, hx, rfl⟩ := tabs_get hd
    obtain ⟨n, cs⟩ := x
    have hi : i < tb.length := (List.getElem?_eq_some_iff.mp hx).1
    have hgx := hg.xs _ (List.mem_of_getElem? hx)
    have hnl := isWord_len hgx.w
    have h5 := hg.most
    have hlen := linesT_len (tb := tb.take i) fun y hy => (hg.xs y (List.mem_of_mem_take hy)).len
    have hlt : (tb.take i).length ≤ i := by rw [List.length_take]; omega
    refine rg_tup rfl ?_
    refine rgs_cons (rg_name ?_)
    refine rgs_cons (rg_name ?_)
    refine rgs_nil ?_
    walk_at "dl"
    refine rs_app (i := 1) rfl ⟨0, _, _, rfl⟩ ?_
    walk_at "dl"
    refine add_s (by show 6 + n.length ≤ 1000000; have := hnl.2; simp only at this; omega) ?_
    refine ⟨_, 0, _, true, rfl, rfl, by simp only [txts, List.length_map]; omega, ?_⟩
    have hcs6 : cs.length ≤ 6 := hgx.len
    refine rs_forL ?_
    walk_at "dl"
    refine ⟨fun j δ' μ' => ∃ x4 x5 x6 x7 : SK, δ' = [.dat (lstT tb), .own ll, .dat (.str n), .dat (.lst (cs.map colT)), x4, x5, x6, x7] ∧ μ' = [(ll, MK.ml (txts (linesT (tb.take i) ++ (("table " : Str) ++ n) :: (cs.take j).map lineC)), true)], ⟨_, _, _, _, rfl, by simp [txts]⟩, ?_, ?_⟩
    · rintro j e δ' μ' he ⟨x4, x5, x6, x7, rfl, rfl⟩
      obtain ⟨c, hc, rfl⟩ := cols_get he
      obtain ⟨cn, ck, cl⟩ := c
      have hj : j < cs.length := (List.getElem?_eq_some_iff.mp hc).1
      have hgc := goodCol_len (hgx.cs _ (List.mem_of_getElem? hc)) hw
      obtain ⟨g1, g2, g3⟩ := hgc
      simp only at g1 g2 g3
      refine rg_tup rfl ?_
      refine rgs_cons (rg_name ?_)
      refine rgs_cons (rg_name ?_)
      refine rgs_cons (rg_name ?_)
      refine rgs_cons (rg_name ?_)
      refine rgs_nil ?_
      refine rs_app (i := 1) rfl ⟨0, _, _, rfl⟩ ?_
      walk_at "dl"
      refine add_s (by show ck.length + 1 ≤ 1000000; omega) ?_
      walk_at "dl"
      refine add_s (by rw [strLen_append]; show ck.length + 1 + cn.length ≤ 1000000; omega) ?_
      walk_at "dl"
      have hfin : txts (linesT (tb.take i) ++ (("table " : Str) ++ n) :: (cs.take (j + 1)).map lineC) = txts (linesT (tb.take i) ++ (("table " : Str) ++ n) :: (cs.take j).map lineC) ++ [.str (lineC (cn, ck, cl))] := by
        rw [take_snoc hc]
        simp [txts]
      have hln : (txts (linesT (tb.take i) ++ (("table " : Str) ++ n) :: (cs.take j).map lineC)).length < 100000 := by
        simp only [txts, List.length_map, List.length_append, List.length_cons, List.length_take]
        omega
      rcases g3 with ⟨e, t, r, e2, l1, l2⟩ | ⟨e, e2⟩
      · subst e
        subst e2
        walk_at "dl"
        refine add_s (by show 1 + t.length ≤ 1000000; omega) ?_
        walk_at "dl"
        refine add_s (by rw [strLen_append]; show 1 + t.length + 1 ≤ 1000000; omega) ?_
        walk_at "dl"
        refine add_s (by rw [strLen_append, strLen_append]; show 1 + t.length + 1 + r.length ≤ 1000000; omega) ?_
        walk_at "dl"
        refine add_s (by rw [strLen_append, strLen_append, strLen_append, strLen_append, strLen_append]; show 4 + 1 + cn.length + (1 + t.length + 1 + r.length) ≤ 1000000; omega) ?_
        refine ⟨_, 0, _, true, rfl, rfl, hln, _, _, _, _, rfl, ?_⟩
        rw [hfin]
        rfl
      · subst e2
        have hq : decide (ck = ("link" : Str)) = false := decide_eq_false e
        walk_at "dl"
        refine ⟨fun h => absurd (hq.symm.trans h) (by decide), fun _ => ?_⟩
        walk_at "dl"
        refine add_s (by rw [strLen_append, strLen_append]; show ck.length + 1 + cn.length + 0 ≤ 1000000; omega) ?_
        refine ⟨_, 0, _, true, rfl, rfl, hln, _, _, _, _, rfl, ?_⟩
        rw [hfin]
        rfl
    · rintro δ' μ' ⟨x4, x5, x6, x7, rfl, rfl⟩
      refine ⟨_, _, _, _, _, _, rfl, ?_⟩
      rw [take_snoc hx]
      simp [linesT, lineX, txts]
  · rintro δ' μ' ⟨x2, x3, x4, x5, x6, x7, rfl, rfl⟩
    rw [show (tb.take (tb.map tabT).length) = tb from by rw [List.length_map, List.take_length]]
    refine rs_retF ?_
    walk_at "dl"
    exact ⟨ll, 0, _, rfl, rfl, _, rfl, hR⟩

/-! ### the error -/
def cCopI : CA := fun ds R => ∃ z : Int, ds = [.int z] ∧ R (.int z)
abbrev st_copiedI : Stmt := topR 4
abbrev N_copiedI : List Str := ["thing", "part", "name"]
theorem sc_copiedI : FnScope N_copiedI ["thing"] (defScope st_copiedI) := ⟨rfl, rfl, rfl, by decide +kernel, rfl, by decide +kernel, by decide +kernel⟩
abbrev sp_copiedI (K : PySem.W.Frag) : Sp := spA K 1 cCopI
theorem ok_copiedI {P : Program} {w : World} {K : PySem.W.Frag} {mg : Str → Option Value} {base : Heap} (d : DefAt K mg "copied" st_copiedI ["thing"]) (n_dict : mg "dict" = none) (n_isinstance : mg "isinstance" = none) (n_list : mg "list" = none) (n_tuple : mg "tuple" = none)  : CalG P w K mg base CX0 2 "copied" (sp_copiedI K) := by
  refine DefAt.cal d fun {f fd} F => fn_A (n := 1) F sc_copiedI rfl fun cdv A outer s H E hr => ?_
  have hu := hr.r.units
  have hv := hr.u65
  refine ⟨_, (pss_cons (ps_if (pt_val (pe_callB cISI rfl n_isinstance (by decide +kernel) (pa_cons (pv 0) (pa_cons (pe_bltn (v := V.ty "list") (u := Value.type "list") rfl n_list (by decide +kernel) rfl) pa_nil)))) pss_never pss_nil)
      (pss_cons (ps_if (pt_val (pe_callB cISI rfl n_isinstance (by decide +kernel) (pa_cons (pv 0) (pa_cons (pe_bltn (v := V.ty "tuple") (u := Value.type "tuple") rfl n_tuple (by decide +kernel) rfl) pa_nil)))) pss_never pss_nil)
      (pss_cons (ps_if (pt_val (pe_callB cISI rfl n_isinstance (by decide +kernel) (pa_cons (pv 0) (pa_cons (pe_bltn (v := V.ty "dict") (u := Value.type "dict") rfl n_dict (by decide +kernel) rfl) pa_nil)))) pss_never pss_nil)
      (pss_one (ps_ret (pv 0)))))), ?_⟩
  rintro ds R hl ⟨z, rfl, hR⟩
  walk_at "dl0"
  walk_at "dl"
  refine isi_ty (n := "int") (b := false) rfl (by decide +kernel) ?_
  walk_at "dl"
  refine isi_ty (n := "int") (b := false) rfl (by decide +kernel) ?_
  walk_at "dl"
  refine isi_ty (n := "int") (b := false) rfl (by decide +kernel) ?_
  walk_at "dl"
  exact hR
abbrev st_BadSchema___init__ : Stmt := inClass (topR 7) 0
abbrev N_BadSchema___init__ : List Str := ["self", "at"]
theorem sc_BadSchema___init__ : FnScope N_BadSchema___init__ ["self", "at"] (defScope st_BadSchema___init__) := ⟨rfl, rfl, rfl, by decide +kernel, rfl, by decide +kernel, by decide +kernel⟩
abbrev sp_BadSchema___init__ (K : PySem.W.Frag) (C : Addr) : Sp := spX K 1 C (fun ds R => ∃ a : Int, ds = [.int a] ∧ R [("at", .int a)])
theorem ok_BadSchema___init__ {C : Addr} {P : Program} {w : World} {K : PySem.W.Frag} {mg : Str → Option Value} {base : Heap} (d : XAt K mg "BadSchema" C "BadSchema.__init__" st_BadSchema___init__) (ox : OexC K C) (na_at : PySem.W.findIn K (.ref C) "at" = some none) (c_copied : CalG P w K mg base CX0 2 "copied" (sp_copiedI K)) : XG P w K mg base 3 "BadSchema" "BadSchema.__init__" st_BadSchema___init__ C ["self", "at"] (sp_BadSchema___init__ K C) := by
  refine XAt.xg d fun {f fd} F => fn_X (n := 1) F sc_BadSchema___init__ rfl fun cdv A outer s H E hr => ?_
  have hu := hr.r.units
  have hv := hr.u65
  refine ⟨_, (pss_one (ps_ost (pv 0) (pe_cg c_copied hr (by decide) pass0 rfl (pa_cons (pv 1) pa_nil)))), ?_⟩
  rintro p ds R hl ⟨a, rfl, hR⟩
  walk_at "dl0"
  refine rs_ost1 (a := p) (C := C) ?_
  walk_at "dl"
  refine ⟨rfl, _, rfl, _, rfl, rfl, rfl, ox, na_at, ?_⟩
  intro dx
  exact ⟨dx, _, rfl, hR⟩
theorem kbr_BadSchema : KBxs "BadSchema.__init__" st_BadSchema___init__ ["self", "at"] 1 [] [0] := fun kV doc pm an cdv ct u us ws h1 h2 => by
  match u, us, ws, h1, h2 with
  | _, [_], [], _, _ => rfl

/-! ### _shape_of where it raises -/
def runR (names : List Str) : Nat → List Str → Shp → Nat ⊕ Shp
  | _, [], s => .inr s
  | i, z :: r, s => match stepSh names s (wordsOf z) with
    | some s' => runR names (i + 1) r s'
    | none => .inl i
def cShapeR (N : Addr) : CY := fun ds R P => ∃ l : List Str, ds = [.lst (txts l)] ∧ fine l ∧ (∀ i : Nat, runR (wrote l) 0 l [] = .inl i → P N [("at", .int i)]) ∧ ∀ s, runR (wrote l) 0 l [] = .inr s → R (.dct (shD s))
abbrev st__shape_of_R : Stmt := topR 16
abbrev N__shape_of_R : List Str := ["lines", "names", "shape", "last", "at", "line", "words"]
theorem sc__shape_of_R : FnScope N__shape_of_R ["lines"] (defScope st__shape_of_R) := ⟨rfl, rfl, rfl, by decide +kernel, rfl, by decide +kernel, by decide +kernel⟩
abbrev sp__shape_of_R (K : PySem.W.Frag) (A_BadSchema : Addr) : Sp := spR K 1 (cShapeR A_BadSchema)
theorem ok__shape_of_R {A_BadSchema : Addr} {P : Program} {w : World} {K : PySem.W.Frag} {mg : Str → Option Value} {base : Heap} (d : DefAt K mg "_shape_of" st__shape_of_R ["lines"]) (k__MOST_TABLES : ∃ u, mg "_MOST_TABLES" = some u ∧ RelV v__MOST_TABLES u) (n_enumerate : mg "enumerate" = none) (n_len : mg "len" = none) (c__has_room : CalG P w K mg base CX0 1 "_has_room" (sp__has_room K)) (c__is_column : CalG P w K mg base CX0 2 "_is_column" (sp__is_column K)) (c__is_table : CalG P w K mg base CX0 2 "_is_table" (sp__is_table K)) (c__meaning_of : CalG P w K mg base CX0 1 "_meaning_of" (sp__meaning_of K)) (c__written_tables : CalG P w K mg base CX0 3 "_written_tables" (sp__written_tables K)) (x_BadSchema : XG P w K mg base 3 "BadSchema" "BadSchema.__init__" st_BadSchema___init__ A_BadSchema ["self", "at"] (sp_BadSchema___init__ K A_BadSchema)) : CalG P w K mg base (L2.CX P w) 5 "_shape_of" (sp__shape_of_R K A_BadSchema) := by
  refine DefAt.cal d fun {f fd} F => fn_R (n := 1) F sc__shape_of_R rfl fun cdv A outer s H E hr => ?_
  have hu := hr.r.units
  have hv := hr.u65
  refine ⟨_, (pss_cons (ps_set (i := 1) sc__shape_of_R.nd rfl (Or.inl rfl) (pe_cg c__written_tables hr (by decide) pass0 rfl (pa_cons (pv 0) pa_nil)))
      (pss_cons (ps_set (i := 2) sc__shape_of_R.nd rfl (Or.inl rfl) pe_dnewK)
      (pss_cons (ps_set (i := 3) sc__shape_of_R.nd rfl (Or.inl rfl) pe_non)
      (pss_cons (ps_for (passes_of rfl) rfl (pi_enum rfl n_enumerate (pa_cons (pv 0) pa_nil)) (pg_tup rfl (pgs_cons (pg_name (i := 4) sc__shape_of_R.nd rfl (Or.inl rfl)) (pgs_cons (pg_name (i := 5) sc__shape_of_R.nd rfl (Or.inl rfl)) pgs_nil))) (pss_cons (ps_set (i := 6) sc__shape_of_R.nd rfl (Or.inl rfl) (pe_split (pv 5) pe_str))
      (pss_one (ps_if (pt_val (pe_cg c__is_table hr (by decide) pass0 rfl (pa_cons (pv 6) pa_nil))) (pss_cons (ps_if (PW.pt (pw_or (pt_cmpR (opIN hv) (pe_ix (ixANY hu) (pv 6) pe_int (fun _ _ => rfl)) (pv 2) (by rfl)) (pw_or1 (pt_cmpR (opEQ hu) (pe_callB cLEN rfl n_len (by decide +kernel) (pa_cons (pv 2) pa_nil)) (pe_gcv (v := v__MOST_TABLES) rfl k__MOST_TABLES) (nomark _))))) (pss_one (ps_raiseX rfl (takes_of rfl rfl rfl rfl) x_BadSchema hr (by decide) kbr_BadSchema rfl (pa_cons (pv 4) pa_nil))) pss_nil)
      (pss_cons (ps_set (i := 3) sc__shape_of_R.nd rfl (Or.inl rfl) (pe_ix (ixANY hu) (pv 6) pe_int (fun _ _ => rfl)))
      (pss_one (ps_asg pe_dnewK (pg_sub (pv 2) (pv 3) (set_dict (Nat.lt_of_le_of_lt (Nat.add_le_add_left (by decide) _) hu))))))) (pss_one (ps_if (PW.pt (pw_and (pt_cmpR opNON (pv 3) pe_non (nomark _)) (pw_and (pt_val (pe_cg c__is_column hr (by decide) pass0 rfl (pa_cons (pv 6) (pa_cons (pv 1) pa_nil)))) (pw_and1 (pt_val (pe_cg c__has_room hr (by decide) pass0 rfl (pa_cons (pe_ix (ixANY hu) (pv 2) (pv 3) (fun _ _ => rfl)) (pa_cons (pe_ix (ixANY hu) (pv 6) pe_int (fun _ _ => rfl)) pa_nil)))))))) (pss_one (ps_asg (pe_cg c__meaning_of hr (by decide) pass0 rfl (pa_cons (pv 6) pa_nil)) (pg_sub (pe_ix (ixANY hu) (pv 2) (pv 3) (fun _ _ => rfl)) (pe_ix (ixANY hu) (pv 6) pe_int (fun _ _ => rfl)) (set_dict (Nat.lt_of_le_of_lt (Nat.add_le_add_left (by decide) _) hu))))) (pss_one (ps_raiseX rfl (takes_of rfl rfl rfl rfl) x_BadSchema hr (by decide) kbr_BadSchema rfl (pa_cons (pv 4) pa_nil)))))))))
      (pss_one (ps_ret (pv 2))))))), ?_⟩
  rintro ds R P hl ⟨l, rfl, hf, hP, hR⟩
  walk_at "dl0"
  refine ry_seq (ry_lift ?_)
  walk_at "dl"
  refine ⟨rfl, l, rfl, hf, ?_⟩
  refine ry_seq (ry_lift ?_)
  walk_at "dl"
  refine dct_om fun p => ?_
  refine ry_seq (ry_lift ?_)
  walk_at "dl"
  refine ry_seq (ry_forE ?_)
  walk_at "dl"
  refine ⟨fun i δ' μ' => ∃ (L : Inn) (x4 x5 x6 : SK) (last : Da), δ' = [.dat (.lst (txts l)), .dat (.lst (txts (wrote l))), .own p, .dat last, x4, x5, x6] ∧ μ' = innM L p ∧ L.length ≤ 5 ∧ ((innS L).map (·.1)).Nodup ∧ (∀ x ∈ L, x.2.2.length ≤ 6) ∧
    (match L with | [] => last = .non | x :: _ => last = .str x.1) ∧ runR (wrote l) i (l.drop i) (innS L) = runR (wrote l) 0 l [], ⟨[], _, _, _, _, rfl, rfl, Nat.zero_le _, List.nodup_nil, (fun _ h => nomatch h), rfl, rfl⟩, ?_, ?_⟩
  · rintro i d δ' μ' hd ⟨L, x4, x5, x6, last, rfl, rfl, hL, hnd, hc6, hlast, hrest⟩
    obtain ⟨z, hz, rfl⟩ := txts_get hd
    have hi : i < l.length := (List.getElem?_eq_some_iff.mp hz).1
    have hzl : z.length ≤ 900000 := hf.2 z (List.mem_of_getElem? hz)
    have hdrop : l.drop i = z :: l.drop (i + 1) := by
      rw [List.drop_eq_getElem_cons hi]
      congr 1
      exact (List.getElem?_eq_some_iff.mp hz).2
    rw [hdrop] at hrest
    have hsm := words_small hzl
    obtain ⟨ws, hws⟩ : ∃ ws, wordsOf z = ws := ⟨_, rfl⟩
    have hstop : stepSh (wrote l) (innS L) ws = none → P A_BadSchema [("at", .int (i : Nat))] := fun hs => hP i (by
      rw [← hrest]
      simp only [runR, hws, hs])
    have hgo : ∀ s', stepSh (wrote l) (innS L) ws = some s' → runR (wrote l) (i + 1) (l.drop (i + 1)) s' = runR (wrote l) 0 l [] := fun s' hs => by
      rw [← hrest]
      simp only [runR, hws, hs]
    refine rg_tup rfl ?_
    refine rgs_cons (rg_name ?_)
    refine rgs_cons (rg_name ?_)
    refine rgs_nil ?_
    refine ry_seq (ry_lift ?_)
    walk_at "dl"
    refine ⟨by decide +kernel, by omega, ?_⟩
    refine ry_if ?_
    walk_at "dl"
    have hlen : (innR L).length = L.length := innR_len L
    rw [hws] at hsm
    rw [show Txt.split z " " = ws from hws]
    refine ⟨rfl, ws, rfl, hsm, _, rfl, fun ht => ?_, fun ht => ?_⟩
    · obtain ⟨a, n, rfl⟩ := isTab_two ht
      have hs2 : stepSh (wrote l) (innS L) [a, n] = if n ∈ (innS L).map (·.1) ∨ (innS L).length = 5 then none else some ((n, []) :: innS L) := by
        unfold stepSh
        rw [if_pos ht]
      refine ry_seq (ry_if ?_)
      walk_at "dl"
      refine ix_l (IsL.dat _) (d := .str n) (at_lit (n := 1) rfl rfl) ?_
      walk_at "dl"
      refine in_mo (innM_last L p) ?_
      rw [innR_is]
      refine ⟨_, rfl, fun h => ?_, fun h => ?_⟩
      · refine ⟨fun _ => ?_, (fun h => nomatch h)⟩
        have hx := hstop (by rw [hs2, if_pos (.inl (of_decide_eq_true h))])
        refine ry_raise ?_
        walk_at "dl"
        exact ⟨rfl, rfl, by decide, _, rfl, hx⟩
      have hn1 : n ∉ (innS L).map (·.1) := of_decide_eq_false h
      walk_at "dl"
      refine len_mo (innM_last L p) ?_
      walk_at "dl"
      refine ⟨fun h5 => ?_, fun h5 => ?_⟩
      · have h55 : ((innR L).length : Int) = 5 := of_decide_eq_true h5
        have hx := hstop (by rw [hs2, if_pos (.inr (by simp [innS]; omega))])
        refine ry_raise ?_
        walk_at "dl"
        exact ⟨rfl, rfl, by decide, _, rfl, hx⟩
      · have h55 : ¬ ((innR L).length : Int) = 5 := of_decide_eq_false h5
        have hrest' := hgo _ (by rw [hs2, if_neg (by rintro (q | q); exact hn1 q; simp [innS] at q; omega)])
        refine ry_lift ?_
        walk_at "dl"
        refine ry_lift ?_
        walk_at "dl"
        refine ix_l (IsL.dat _) (d := .str n) (at_lit (n := 1) rfl rfl) ?_
        walk_at "dl"
        refine rs_mo ?_
        refine dct_o fun b => ?_
        refine ⟨b, rfl, ?_⟩
        walk_at "dl"
        refine ⟨p, n, L.length + 1, innR L, true, rfl, rfl, ?_, by omega, innR_none hn1, ?_⟩
        · rw [List.getElem?_cons_succ]; exact innM_last L p
        · refine ⟨(n, b, []) :: L, _, _, _, _, rfl, innM_push, by simp only [List.length_cons]; omega, ?_, ?_, rfl, ?_⟩
          · exact List.nodup_cons.mpr ⟨hn1, hnd⟩
          · intro x hx
            rcases List.mem_cons.mp hx with q | q
            · rw [q]; exact Nat.zero_le _
            · exact hc6 x q
          · exact hrest'
    · refine ry_if ?_
      match L, hlast, hL, hnd, hc6, hlen, hstop, hgo with
      | [], hlast, _, _, _, _, hstop, _ =>
        subst hlast
        have hx := hstop (by unfold stepSh; rw [if_neg (by rw [ht]; decide)]; cases ws <;> rfl)
        walk_at "dl"
        refine ry_raise ?_
        walk_at "dl"
        exact ⟨rfl, rfl, by decide, _, rfl, hx⟩
      | (t, b, c) :: L', hlast, hL, hnd, hc6, hlen, hstop, hgo =>
        subst hlast
        walk_at "dl"
        refine ⟨rfl, ws, wrote l, rfl, hsm, ?_⟩
        cases hcol : isCol (wrote l) ws with
        | false =>
          have hx := hstop (by
            unfold stepSh
            rw [if_neg (by rw [ht]; decide)]
            match ws, hcol with
            | [], _ => rfl
            | [_], _ => rfl
            | w :: n :: r, hcol => simp [innS, hcol])
          refine ⟨_, rfl, (fun h => nomatch h), fun _ => ?_⟩
          refine ⟨(fun h => nomatch h), fun _ => ?_⟩
          refine ry_raise ?_
          walk_at "dl"
          exact ⟨rfl, rfl, by decide, _, rfl, hx⟩
        | true =>
          obtain ⟨w, n, r, rfl⟩ := isCol_two hcol
          have hs2 : stepSh (wrote l) (innS ((t, b, c) :: L')) (w :: n :: r) = if (!(c.lookup n).isSome && decide (c.length < 6)) = true then some ((t, c ++ [(n, meanOf (w :: n :: r))]) :: innS L') else none := by
            unfold stepSh
            rw [if_neg (by rw [ht]; decide)]
            show (if (isCol (wrote l) (w :: n :: r) && (!(c.lookup n).isSome && decide (c.length < 6))) = true then some ((t, c ++ [(n, meanOf (w :: n :: r))]) :: innS L') else none) = _
            rw [hcol, Bool.true_and]
          have ht1 : t ∉ (innS L').map (·.1) := (List.nodup_cons.mp hnd).1
          refine ⟨_, rfl, fun _ => ?_, (fun h => nomatch h)⟩
          refine rt_b (rd_callM ?_)
          walk_at "dl"
          refine ix_mo (innM_last ((t, b, c) :: L') p) (innR_head ht1) ?_
          walk_at "dl"
          refine ix_l (IsL.dat _) (d := .str n) (at_lit (n := 1) rfl rfl) ?_
          walk_at "dl"
          refine ⟨_, .own (i := 0) (kvs := c) rfl (.dat .nil), rfl, c, n, rfl, rfl, _, rfl, ?_⟩
          refine ⟨fun hg2 => ?_, fun hg2 => ?_⟩
          · have hrest' := hgo _ (by rw [hs2, if_pos hg2])
            have hg3 := Bool.and_eq_true_iff.mp hg2
            have hlk : (c.lookup n).isSome = false := by simpa using hg3.1
            have hcl : c.length < 6 := of_decide_eq_true hg3.2
            refine ry_lift ?_
            refine rs_md ?_
            walk_at "dl"
            refine ⟨rfl, w :: n :: r, rfl, isCol_mean hcol, ?_⟩
            refine ⟨_, rfl, ?_⟩
            walk_at "dl"
            refine ix_mo (innM_last ((t, b, c) :: L') p) (innR_head ht1) ?_
            walk_at "dl"
            refine ix_l (IsL.dat _) (d := .str n) (at_lit (n := 1) rfl rfl) ?_
            refine ⟨b, n, 0, c, true, rfl, rfl, rfl, by omega, ?_⟩
            rw [putD_new hlk, innM_put]
            refine ⟨(t, b, c ++ [(n, meanOf (w :: n :: r))]) :: L', _, _, _, _, rfl, rfl, hL, hnd, ?_, rfl, hrest'⟩
            intro x hx
            rcases List.mem_cons.mp hx with q | q
            · rw [q]; simp only [List.length_append, List.length_cons, List.length_nil]; omega
            · exact hc6 x (List.mem_cons_of_mem _ q)
          · have hx := hstop (by rw [hs2, if_neg (by rw [hg2]; decide)])
            refine ry_raise ?_
            walk_at "dl"
            exact ⟨rfl, rfl, by decide, _, rfl, hx⟩
  · rintro δ' μ' ⟨L, x4, x5, x6, last, rfl, rfl, hL, hnd, hc6, hlast, hrest⟩
    have e : l.drop (txts l).length = [] := List.drop_eq_nil_of_le (by simp [txts])
    rw [e] at hrest
    have hx := hR _ hrest.symm
    refine ry_lift ?_
    refine rs_retM ?_
    walk_at "dl"
    exact ⟨p, L.length, innR L, _, rfl, innM_last L p, frz_all L p, _, rfl, hx⟩

/-! ### Schema.__init__ where it raises -/
def cInitR (N : Addr) : CIX := fun ds R P => (∃ (d : Da) (n : String), ds = [d] ∧ tyN d = some n ∧ kitB n "str" = some false ∧ P N [("at", .int (-1))]) ∨
  ∃ text : Str, ds = [.str text] ∧ text.length ≤ 900000 ∧ fine (linesOf text) ∧ (∀ i : Nat, runR (wrote (linesOf text)) 0 (linesOf text) [] = .inl i → P N [("at", .int i)]) ∧ ∀ s, runR (wrote (linesOf text)) 0 (linesOf text) [] = .inr s → R (schF text (shD s))
abbrev st_Schema___init___R : Stmt := inClass (topR 15) 0
abbrev N_Schema___init___R : List Str := ["self", "text"]
theorem sc_Schema___init___R : FnScope N_Schema___init___R ["self", "text"] (defScope st_Schema___init___R) := ⟨rfl, rfl, rfl, by decide +kernel, rfl, by decide +kernel, by decide +kernel⟩
abbrev sp_Schema___init___R (K : PySem.W.Frag) (A_BadSchema C : Addr) : Sp := spIR K 1 C (cInitR A_BadSchema)
theorem ok_Schema___init___R {A_BadSchema A_Schema : Addr} {P : Program} {w : World} {K : PySem.W.Frag} {mg : Str → Option Value} {base : Heap} (d : InitAt K mg "Schema" A_Schema "Schema.__init__" st_Schema___init___R ["self", "text"]) (cl : Cls K A_Schema) (na__text : NoAttr K A_Schema "_text") (na__shape : NoAttr K A_Schema "_shape") (na_tables : NoAttr K A_Schema "tables") (n_isinstance : mg "isinstance" = none) (n_str : mg "str" = none) (n_tuple : mg "tuple" = none) (c__shape_of : CalG P w K mg base (L2.CX P w) 5 "_shape_of" (sp__shape_of_R K A_BadSchema)) (x_BadSchema : XG P w K mg base 3 "BadSchema" "BadSchema.__init__" st_BadSchema___init__ A_BadSchema ["self", "at"] (sp_BadSchema___init__ K A_BadSchema)) : MakG P w K mg base (L2.CX P w) 6 "Schema" A_Schema (sp_Schema___init___R K A_BadSchema A_Schema) := by
  refine InitAt.mak d fun {f fd} F => fn_IR (n := 1) F sc_Schema___init___R rfl fun cdv A outer s H E hr => ?_
  have hu := hr.r.units
  have hv := hr.u65
  refine ⟨_, (pss_cons (ps_if (pt_not (pt_val (pe_callB cISI rfl n_isinstance (by decide +kernel) (pa_cons (pv 1) (pa_cons (pe_bltn (v := V.ty "str") (u := Value.type "str") rfl n_str (by decide +kernel) rfl) pa_nil))))) (pss_one (ps_raiseX rfl (takes_of rfl rfl rfl rfl) x_BadSchema hr (by decide) kbr_BadSchema rfl (pa_cons (pe_un un_neg pe_int) pa_nil))) pss_nil)
      (pss_cons (ps_fld (pv 0) (pv 1) rfl)
      (pss_cons (ps_fld (pv 0) (pe_cgS c__shape_of hr (by decide) (takes_of rfl rfl rfl rfl) rfl (pa_cons (pe_split (pv 1) pe_str) pa_nil)) rfl)
      (pss_one (ps_fld (pv 0) (pe_callTy (cTUPd rfl) rfl n_tuple (by decide +kernel) (pa_cons (pe_fld (pv 0) rfl) pa_nil)) rfl))))), ?_⟩
  rintro p dx ds R P hl h
  rcases h with ⟨d, n, rfl, hd, hn, hP⟩ | ⟨text, rfl, ht, hf, hP, hR⟩
  · walk_at "dl0"
    refine ry_seq (ry_if ?_)
    walk_at "dl"
    refine isi_ty hd hn ?_
    walk_at "dl"
    refine ry_raise ?_
    walk_at "dl"
    exact ⟨rfl, rfl, by decide, _, rfl, hP⟩
  walk_at "dl0"
  refine ry_seq (ry_if ?_)
  walk_at "dl"
  refine isi_ty (n := "str") (b := true) rfl (by decide +kernel) ?_
  walk_at "dl"
  refine ry_lift (rs_next ?_)
  refine ry_seq (ry_lift ?_)
  refine rs_fldI (i := 0) (j := 0) (dx := dx) (fs := []) (fl := false) rfl cl na__text ?_
  walk_at "dl"
  refine ⟨rfl, by decide, ?_⟩
  refine ry_seq (ry_fldI (i := 0) (j := 0) (dx := dx) (fs := [("_text", .str text)]) (fl := false) rfl cl na__shape (rdx_call ?_))
  walk_at "dl"
  refine ⟨by decide +kernel, by omega, ?_⟩
  walk_at "dl"
  refine ⟨rfl, linesOf text, rfl, hf, hP, fun s hs => ?_⟩
  refine ⟨_, rfl, rfl, (by simp only [List.length_cons, List.length_nil]; omega), ?_⟩
  refine ry_lift ?_
  refine rs_fldI (i := 0) (j := 0) (dx := dx) (fs := [("_text", .str text), ("_shape", .dct (shD s))]) (fl := false) rfl cl na_tables ?_
  walk_at "dl"
  refine rd_fldI (i := 0) (j := 0) rfl cl na__shape rfl rfl ?_
  walk_at "dl"
  refine tup_kd ?_
  refine ⟨_, rfl, rfl, (by simp only [List.length_cons, List.length_nil]; omega), ?_⟩
  exact ⟨_, 0, rfl, hR s hs⟩

/-! ### the law's own reading of lines -/
abbrev st__law_is_word : Stmt := topR 31
abbrev N__law_is_word : List Str := ["_law_text", "_law_sign"]
theorem sc__law_is_word : FnScope N__law_is_word ["_law_text"] (defScope st__law_is_word) := ⟨rfl, rfl, rfl, by decide +kernel, rfl, by decide +kernel, by decide +kernel⟩
abbrev sp__law_is_word (K : PySem.W.Frag) : Sp := spA K 1 cWord
theorem ok__law_is_word {P : Program} {w : World} {K : PySem.W.Frag} {mg : Str → Option Value} {base : Heap} (d : DefAt K mg "_law_is_word" st__law_is_word ["_law_text"]) (n_all : mg "all" = none) (n_len : mg "len" = none)  : CalG P w K mg base CX0 1 "_law_is_word" (sp__law_is_word K) := by
  refine DefAt.cal d fun {f fd} F => fn_A (n := 1) F sc__law_is_word rfl fun cdv A outer s H E hr => ?_
  have hu := hr.r.units
  have hv := hr.u65
  refine ⟨_, (pss_one (ps_ret (pe_and (pe_chain opLE opLE pe_int (pe_callB cLEN rfl n_len (by decide +kernel) (pa_cons (pv 0) pa_nil)) pe_int) (pe_one (pe_callB (cALL rfl) rfl n_all (by decide +kernel) (pa_cons (pe_lc (own := [("_law_sign", 1)]) (g := gName 1) (tt := tYes) (te := tOp (rIN K) (tVar 1) (tC (.str "abcdefghijklmnopqrstuvwxyz"))) rfl sc__law_is_word.nd (pi_str (pv 0)) (blkOk_by (N := N__law_is_word) (sc := defScope st__law_is_word) (by decide +kernel)) (fun _ _ _ _ _ => (pg_name (i := 1) sc__law_is_word.nd rfl (Or.inl rfl))) (fun _ _ _ _ _ => pts_nil) (fun _ _ _ _ _ => (pe_cmpR (opIN hv) (pv 1) pe_str (by rfl)))) pa_nil)))))), ?_⟩
  rintro ds R hl ⟨z, rfl, hz, hR⟩
  walk_at "dl0"
  walk_at "dl"
  refine len_s hz ?_
  walk_at "dl"
  have hno : isWord z = false → ∃ d, SK.dat (Da.bl false) = SK.dat d ∧ R d := fun e => ⟨_, rfl, e ▸ hR⟩
  refine ⟨fun h1 => ?_, fun h1 => ?_⟩
  · have l1 : 1 ≤ z.length := by
      have : (1 : Int) ≤ z.length := by simpa using h1
      omega
    walk_at "dl"
    refine ⟨fun h2 => ?_, fun h2 => ?_⟩
    · have l8 : z.length ≤ 8 := by
        have : (z.length : Int) ≤ 8 := by simpa using h2
        omega
      walk_at "dl"
      refine lc_s (tgIn_name (by decide)) ?_
      walk_at "dl"
      have ls : z.cps.toList.length = z.length := by simp [Str.length]
      refine ⟨fun i acc μ' => μ' = [] ∧ acc = bls ((z.cps.toList.take i).map isLet), ⟨rfl, rfl⟩, ?_, ?_⟩
      · rintro i c acc μ' hc ⟨rfl, rfl⟩
        refine rg_name ?_
        walk_at "dl"
        refine in_sgn ?_
        have hc' : z.cps.toList[i]? = some c := by simpa using hc
        have hi : i < z.cps.toList.length := (List.getElem?_eq_some_iff.mp hc').1
        refine ⟨_, rfl, ?_, rfl, ?_⟩
        · simp only [bls, List.length_map, List.length_take]; omega
        · rw [List.take_add_one, hc']
          simp [bls, isLet]
      · rintro acc μ' ⟨rfl, rfl⟩
        walk_at "dl"
        refine all_b rfl ?_
        refine ⟨_, rfl, ?_⟩
        have e : (((z.cps.toList.take z.cps.size).map isLet).all id) = isWord z := by
          have t : z.cps.toList.take z.cps.size = z.cps.toList := by
            rw [List.take_of_length_le]; simp
          rw [t, List.all_map]
          simp [isWord, l1, l8]
        rw [e]; exact hR
    · refine hno ?_
      have h3 : ¬ z.length ≤ 8 := by
        have : ¬ ((z.length : Int) ≤ 8) := by simpa using h2
        omega
      simp [isWord, h3]
  · refine ⟨_, rfl, (fun h => nomatch h), fun _ => hno ?_⟩
    have h3 : ¬ 1 ≤ z.length := by
      have : ¬ ((1 : Int) ≤ z.length) := by simpa using h1
      omega
    simp [isWord, h3]

def isColT (names taken : List Str) (ws : List Str) : Bool := isCol names ws && (!decide ((ws.getD 1 "") ∈ taken) && !decide (taken.length = 6))
def cColT : CA := fun ds R => ∃ l names taken : List Str, ds = [.lst (txts l), .lst (txts names), .lst (txts taken)] ∧ small l ∧ taken.length ≤ 1000 ∧ R (.bl (isColT names taken l))
abbrev st__law_is_column : Stmt := topR 32
abbrev N__law_is_column : List Str := ["_law_words", "_law_known", "_law_taken"]
theorem sc__law_is_column : FnScope N__law_is_column ["_law_words", "_law_known", "_law_taken"] (defScope st__law_is_column) := ⟨rfl, rfl, rfl, by decide +kernel, rfl, by decide +kernel, by decide +kernel⟩
abbrev sp__law_is_column (K : PySem.W.Frag) : Sp := spA K 3 cColT
theorem ok__law_is_column {P : Program} {w : World} {K : PySem.W.Frag} {mg : Str → Option Value} {base : Heap} (d : DefAt K mg "_law_is_column" st__law_is_column ["_law_words", "_law_known", "_law_taken"]) (n_len : mg "len" = none) (c__law_is_word : CalG P w K mg base CX0 1 "_law_is_word" (sp__law_is_word K)) : CalG P w K mg base CX0 2 "_law_is_column" (sp__law_is_column K) := by
  refine DefAt.cal d fun {f fd} F => fn_A (n := 3) F sc__law_is_column rfl fun cdv A outer s H E hr => ?_
  have hu := hr.r.units
  have hv := hr.u65
  refine ⟨_, (pss_cons (ps_if (PW.pt (pw_or (pt_cmpR opLT (pe_callB cLEN rfl n_len (by decide +kernel) (pa_cons (pv 0) pa_nil)) pe_int (nomark _)) (pw_or (pt_not (pt_val (pe_cg c__law_is_word hr (by decide) pass0 rfl (pa_cons (pe_ix (ixANY hu) (pv 0) pe_int (fun _ _ => rfl)) pa_nil)))) (pw_or (pt_cmpR (opIN hv) (pe_ix (ixANY hu) (pv 0) pe_int (fun _ _ => rfl)) (pe_lst (pa_cons pe_str (pa_cons pe_str (pa_cons pe_str pa_nil)))) (by rfl)) (pw_or1 (pt_cmpR (opIN hv) (pe_ix (ixANY hu) (pv 0) pe_int (fun _ _ => rfl)) (pv 2) (by rfl))))))) (pss_one (ps_ret pe_bl)) pss_nil)
      (pss_cons (ps_if (pt_cmpR (opEQ hu) (pe_callB cLEN rfl n_len (by decide +kernel) (pa_cons (pv 2) pa_nil)) pe_int (nomark _)) (pss_one (ps_ret pe_bl)) pss_nil)
      (pss_cons (ps_if (pt_cmpR (opEQ hu) (pe_ix (ixANY hu) (pv 0) pe_int (fun _ _ => rfl)) pe_str (nomark _)) (pss_one (ps_ret (pe_and (pe_cmpR (opEQ hu) (pe_callB cLEN rfl n_len (by decide +kernel) (pa_cons (pv 0) pa_nil)) pe_int (nomark _)) (pe_and (pe_cmpR (opIN hv) (pe_ix (ixANY hu) (pv 0) pe_int (fun _ _ => rfl)) (pv 1) (by rfl)) (pe_one (pe_cmpR (opIN hv) (pe_ix (ixANY hu) (pv 0) pe_int (fun _ _ => rfl)) (pe_lst (pa_cons pe_str (pa_cons pe_str (pa_cons pe_str pa_nil)))) (by rfl))))))) pss_nil)
      (pss_one (ps_ret (pe_and (pe_cmpR (opEQ hu) (pe_callB cLEN rfl n_len (by decide +kernel) (pa_cons (pv 0) pa_nil)) pe_int (nomark _)) (pe_one (pe_cmpR (opIN hv) (pe_ix (ixANY hu) (pv 0) pe_int (fun _ _ => rfl)) (pe_lst (pa_cons pe_str (pa_cons pe_str pa_nil))) (by rfl))))))))), ?_⟩
  rintro ds R hl ⟨l, names, taken, rfl, hs, htk, hR⟩
  walk_at "dl0"
  walk_at "dl"
  refine ⟨fun h1 => ?_, fun h1 => ?_⟩
  · have hl2 : l.length < 2 := by
      have : ((txts l).length : Int) < 2 := by simpa using h1
      simp only [txts, List.length_map] at this
      omega
    have e : isColT names taken l = false := by
      match l, hl2 with
      | [], _ => rfl
      | [_], _ => rfl
    rw [e] at hR
    walk_at "dl"
    exact hR
  · have hl2 : 2 ≤ l.length := by
      have : ¬ ((txts l).length : Int) < 2 := by simpa using h1
      simp only [txts, List.length_map] at this
      omega
    match l, hl2 with
    | w :: n :: r, _ =>
      have hn : n.length ≤ 1000000 := hs.2 n (by simp)
      have hno : isCol names (w :: n :: r) = false → isColT names taken (w :: n :: r) = false := fun e => by unfold isColT; rw [e]; rfl
      walk_at "dl"
      refine ix_l (IsL.dat _) (d := .str n) (at_lit (n := 1) rfl rfl) ?_
      walk_at "dl"
      refine ⟨rfl, n, rfl, hn, _, rfl, ?_⟩
      refine ⟨fun h2 => ?_, fun h2 => ?_⟩
      · have e : isWord n = false := by simpa using h2
        have e2 : isCol names (w :: n :: r) = false := by
          show (isWord n && _ && _) = false
          rw [e, Bool.false_and, Bool.false_and]
        rw [hno e2] at hR
        walk_at "dl"
        exact hR
      · have e : isWord n = true := by simpa using h2
        walk_at "dl"
        refine ix_l (IsL.dat _) (d := .str n) (at_lit (n := 1) rfl rfl) ?_
        walk_at "dl"
        refine lst_d ?_
        walk_at "dl"
        refine in_strs (l := ["key", "self", "table"]) rfl (IsL.dat _) ?_
        refine ⟨_, rfl, fun h3 => ?_, fun h3 => ?_⟩
        · have e2 : isCol names (w :: n :: r) = false := by
            show (isWord n && !decide (n ∈ ([("key" : Str), "self", "table"] : List Str)) && _) = false
            rw [h3, Bool.not_true, Bool.and_false, Bool.false_and]
          rw [hno e2] at hR
          walk_at "dl"
          exact hR
        · walk_at "dl"
          refine ix_l (IsL.dat _) (d := .str n) (at_lit (n := 1) rfl rfl) ?_
          walk_at "dl"
          refine in_strs rfl (IsL.dat _) ?_
          refine ⟨_, rfl, ?_⟩
          have hu2 : isColT names taken (w :: n :: r) = (isCol names (w :: n :: r) && (!decide (n ∈ taken) && !decide (taken.length = 6))) := rfl
          refine ⟨fun h8 => ?_, fun h8 => ?_⟩
          · rw [hu2, h8, Bool.not_true, Bool.false_and, Bool.and_false] at hR
            walk_at "dl"
            exact hR
          walk_at "dl"
          refine ⟨fun h9 => ?_, fun h9 => ?_⟩
          · have h10 : taken.length = 6 := by
              have : ((txts taken).length : Int) = 6 := by simpa using h9
              simp only [txts, List.length_map] at this
              omega
            rw [hu2, decide_eq_true h10, Bool.not_true, Bool.and_false, Bool.and_false] at hR
            walk_at "dl"
            exact hR
          have h10 : taken.length ≠ 6 := fun z => by
            simp [txts, z] at h9
          have hh : isColT names taken (w :: n :: r) = (if w = "link" then colLink names r else colPlain w r) := by
            rw [hu2, h8, decide_eq_false h10, Bool.not_false, Bool.and_true, Bool.and_true]
            show (isWord n && !decide (n ∈ ([("key" : Str), "self", "table"] : List Str)) && _) = _
            rw [e, h3, Bool.not_false, Bool.true_and, Bool.true_and]
          rw [hh] at hR
          walk_at "dl"
          refine ix_l (IsL.dat _) (d := .str w) (at_lit (n := 0) rfl rfl) ?_
          walk_at "dl"
          refine ⟨fun h4 => ?_, fun h4 => ?_⟩
          · rw [if_pos (of_decide_eq_true h4)] at hR
            walk_at "dl"
            refine ⟨fun h5 => ?_, fun h5 => ?_⟩
            · have h6 : r.length = 2 := by
                have : ((txts (w :: n :: r)).length : Int) = 4 := by simpa using h5
                simp only [txts, List.length_map, List.length_cons] at this
                omega
              match r, h6 with
              | [t, u], _ =>
                walk_at "dl"
                refine ix_l (IsL.dat _) (d := .str t) (at_lit (n := 2) rfl rfl) ?_
                walk_at "dl"
                refine in_strs rfl (IsL.dat _) ?_
                refine ⟨_, rfl, fun h7 => ?_, fun h7 => ?_⟩
                · walk_at "dl"
                  refine ix_l (IsL.dat _) (d := .str u) (at_lit (n := 3) rfl rfl) ?_
                  walk_at "dl"
                  refine lst_d ?_
                  walk_at "dl"
                  refine in_strs (l := ["refuse", "clear", "cascade"]) rfl (IsL.dat _) ?_
                  have e3 : (decide (t ∈ names) && decide (u ∈ ([("refuse" : Str), "clear", "cascade"] : List Str))) = decide (u ∈ ([("refuse" : Str), "clear", "cascade"] : List Str)) := by rw [h7, Bool.true_and]
                  have hR' : R (.bl (decide (t ∈ names) && decide (u ∈ ([("refuse" : Str), "clear", "cascade"] : List Str)))) := hR
                  rw [e3] at hR'
                  exact ⟨_, rfl, hR'⟩
                · have e3 : (decide (t ∈ names) && decide (u ∈ ([("refuse" : Str), "clear", "cascade"] : List Str))) = false := by rw [h7, Bool.false_and]
                  have hR' : R (.bl (decide (t ∈ names) && decide (u ∈ ([("refuse" : Str), "clear", "cascade"] : List Str)))) := hR
                  rw [e3] at hR'
                  exact ⟨_, rfl, hR'⟩
            · have h6 : r.length ≠ 2 := fun z => by
                simp [txts, z] at h5
              have e3 : colLink names r = false := by
                match r, h6 with
                | [], _ => rfl
                | [_], _ => rfl
                | [_, _], h => exact absurd rfl h
                | _ :: _ :: _ :: _, _ => rfl
              rw [e3] at hR
              exact ⟨_, rfl, hR⟩
          · rw [if_neg (of_decide_eq_false h4)] at hR
            walk_at "dl"
            refine ⟨fun h5 => ?_, fun h5 => ?_⟩
            · have h6 : r.length = 0 := by
                have : ((txts (w :: n :: r)).length : Int) = 2 := by simpa using h5
                simp only [txts, List.length_map, List.length_cons] at this
                omega
              match r, h6 with
              | [], _ =>
                walk_at "dl"
                refine ix_l (IsL.dat _) (d := .str w) (at_lit (n := 0) rfl rfl) ?_
                walk_at "dl"
                refine lst_d ?_
                walk_at "dl"
                refine in_strs (l := ["value", "flag"]) rfl (IsL.dat _) ?_
                exact ⟨_, rfl, hR⟩
            · have h6 : r ≠ [] := fun z => by
                subst z
                simp [txts] at h5
              have e3 : colPlain w r = false := by
                match r, h6 with
                | [], h => exact absurd rfl h
                | _ :: _, _ => rfl
              rw [e3] at hR
              exact ⟨_, rfl, hR⟩
end DL
namespace EL
open PySem L2
open PyProof.Rows (envOfC)
open DL
/-- a def's function is sound: by its shape -/
local macro_rules | `(tactic| walk_at "el1") => `(tactic| (with_reducible first
  | exact sx_var | exact sx_int | exact sx_str | exact sx_bl | exact sx_non | exact sx_ty | exact sx_cls
  | exact sa_nil | exact ss_next | exact ss_break | exact ss_cont | exact ss_retN | exact st_yes | exact sg_name | exact sgs_nil
  | refine sa_cons ?_ ?_ | refine sx_tup ?_ | refine sx_lst ?_ | refine sx_lstO ?_
  | refine sx_op sEQ ?_ ?_ | refine sx_op sNE ?_ ?_ | refine sx_op sLT ?_ ?_ | refine sx_op sLE ?_ ?_ | refine sx_op sGT ?_ ?_ | refine sx_op sGE ?_ ?_
  | refine sx_op sINp ?_ ?_ | refine sx_op sNINp ?_ ?_ | refine sx_op sIX ?_ ?_ | refine sx_op sIS ?_ ?_ | refine sx_op sNON ?_ ?_
  | refine sx_op sADD ?_ ?_ | refine sx_op sSUB ?_ ?_ | refine sx_op sMUL ?_ ?_ | refine sx_op sMOD ?_ ?_ | refine sx_op sFDV ?_ ?_ | refine sx_op sPOW ?_ ?_
  | refine sx_un sNEG ?_
  | refine sx_cb sLEN ?_ | refine sx_cb sINT ?_ | refine sx_cb sABS ?_ | refine sx_cb sMAX ?_ | refine sx_cb sMIN ?_ | refine sx_cb sSTR ?_ | refine sx_cb sALL ?_ | refine sx_cb sANY ?_ | refine sx_cb sTUP ?_ | refine sx_cb sISI0 ?_
  | refine sx_bml sAPP ?_ ?_ | refine sx_m1 sSPLIT ?_ ?_ | refine sx_m1 sJOIN ?_ ?_ | refine sx_m0 sUPPER ?_
  | refine sx_andV ?_ ?_ | refine sx_orV ?_ ?_ | refine sx_notV ?_ | refine sx_if ?_ ?_ ?_ | refine sx_chain ?_ ?_ ?_ ?_ ?_
  | refine st_and ?_ ?_ | refine st_or ?_ ?_ | refine st_not ?_ | refine st_test ?_ | refine st_b ?_
  | refine sx_lcML ?_ ?_ ?_ ?_ ?_ | refine sx_lcMO ?_ ?_ ?_ ?_ ?_
  | refine si_list ?_ | refine si_tup ?_ | refine si_rng1 ?_ | refine si_rng2 ?_ | refine si_enum ?_ | refine si_zip ?_ | refine si_str ?_
  | refine sg_tup ?_ | refine sgs_cons ?_ ?_
  | refine ss_seq ?_ ?_ | refine ss_if ?_ ?_ ?_ | refine ss_for ?_ ?_ ?_ | refine ss_par ?_ | refine ss_asg ?_ ?_ | refine ss_drop ?_ | refine ss_ret ?_
  | refine sx_z ?_
  | exact DL.tgIn_name (by decide) | refine DL.tgIn_tup ?_
  | refine sx_call ?_))
local macro_rules | `(tactic| walk_at "elg") => `(tactic| first | walk_at "el1" | refine sg_tup ?_ | refine sx_lcML ?_ ?_ ?_ ?_ ?_ | refine sx_lcMO ?_ ?_ ?_ ?_ ?_)
/-- at the entry -/
local macro_rules | `(tactic| walk_at "el0") => `(tactic| (dsimp only [cxOf, Cx.nox, Cx.wish, List.map_cons, List.map_nil]))
local macro_rules | `(tactic| walk_at "el") => `(tactic| repeat walk_at "elg")

def gWord : List Da → Option Da
  | [.str z] => if z.length ≤ 1000000 then some (.bl (isWord z)) else none
  | _ => none
theorem hg_word : ∀ ds z, gWord ds = some z → DL.flat z = true ∧ cWord ds (fun r => r = z) := fun ds z e => by
  unfold gWord at e
  split at e
  · split at e
    · cases e
      exact ⟨rfl, _, rfl, by assumption, rfl⟩
    · cases e
  · cases e
def gColT : List Da → Option Da
  | [.lst a, .lst b, .lst c] => (match strsD a, strsD b, strsD c with
    | some l, some names, some taken => if (l.length ≤ 1000000 ∧ ∀ x ∈ l, x.length ≤ 1000000) ∧ taken.length ≤ 1000 then some (.bl (isColT names taken l)) else none
    | _, _, _ => none)
  | _ => none
theorem hg_colT : ∀ ds z, gColT ds = some z → DL.flat z = true ∧ cColT ds (fun r => r = z) := fun ds z e => by
  unfold gColT at e
  split at e
  · split at e
    · rename_i a b c l names taken e1 e2 e3
      split at e
      · rename_i hz
        cases e
        refine ⟨rfl, l, names, taken, ?_, hz.1, hz.2, rfl⟩
        rw [strsD_is e1, strsD_is e2, strsD_is e3]
      · cases e
    · cases e
  · cases e
abbrev st__law_reading : Stmt := topR 33
abbrev N__law_reading : List Str := ["_law_lines_here", "_law_split", "_law_line", "_law_known", "_law_words", "_law_names", "_law_columns_here", "_law_at", "_law_last"]
theorem sc__law_reading : FnScope N__law_reading ["_law_lines_here"] (defScope st__law_reading) := ⟨rfl, rfl, rfl, by decide +kernel, rfl, by decide +kernel, by decide +kernel⟩
def bd__law_reading : EvS := (evSeq (evAsg (evLcM mkL (evIt datL (evVar 0)) [2] (tgN 2) evYes (evM1 (gS1 gSPLIT) (evVar 2) (evC (.str " ")))) (tgN 1))
    (evSeq (evAsg (evLcM mkL (evIt datL (evVar 1)) [4] (tgN 4) (evAnd (evTst (evOp fEQ (evCB fLEN (evCons (evVar 4) evNil)) (evC (.int 2)))) (evAnd (evTst (evOp fEQ (evOp fIX (evVar 4) (evC (.int 0))) (evC (.str "table")))) (evTst (evA 1 gWord (evCons (evOp fIX (evVar 4) (evC (.int 1))) evNil))))) (evOp fIX (evVar 4) (evC (.int 1)))) (tgN 3))
    (evSeq (evPar 5 6 (evCons (evLstO evNil) (evCons (evLstO evNil) evNil)))
    (evSeq (evFor (evItA asE (evCons (evVar 1) evNil)) (tgTup 2 (tgCons (tgN 7) (tgCons (tgN 4) tgNil))) (evIfS (evTst (evOp fEQ (evOp fIX (evVar 4) (evC (.int 0))) (evC (.str "table")))) (evSeq (evIfS (evOr (evTst (evOp fNE (evCB fLEN (evCons (evVar 4) evNil)) (evC (.int 2)))) (evOr (evNot (evTst (evA 1 gWord (evCons (evOp fIX (evVar 4) (evC (.int 1))) evNil)))) (evOr (evTst (evOp (fIN false) (evOp fIX (evVar 4) (evC (.int 1))) (evVar 5))) (evTst (evOp fEQ (evCB fLEN (evCons (evVar 5) evNil)) (evC (.int 5))))))) (evRet (evZ (evTup (evCons (evVar 7) (evCons (evVar 5) (evCons (evVar 6) evNil)))))) evNext)
    (evSeq (evDrop (evBML fAPP (evVar 5) (evCons (evOp fIX (evVar 4) (evC (.int 1))) evNil)))
    (evDrop (evBML fAPP (evVar 6) (evCons (evLstO evNil) evNil))))) (evSeq (evIfS (evOr (evTst (evOp fEQ (evVar 5) (evLst evNil))) (evNot (evTst (evA 3 gColT (evCons (evVar 4) (evCons (evVar 3) (evCons (evOp fIX (evVar 6) (evUn fNEG (evC (.int 1)))) evNil))))))) (evRet (evZ (evTup (evCons (evVar 7) (evCons (evVar 5) (evCons (evVar 6) evNil)))))) evNext)
    (evSeq (evAsg (evOp fIX (evVar 6) (evUn fNEG (evC (.int 1)))) (tgN 8))
    (evDrop (evBML fAPP (evVar 8) (evCons (evOp fIX (evVar 4) (evC (.int 1))) evNil)))))))
    (evRet (evZ (evTup (evCons (evUn fNEG (evC (.int 1))) (evCons (evVar 5) (evCons (evVar 6) evNil))))))))))
def ev__law_reading : EvF := evDef 9 bd__law_reading
theorem okE__law_reading {P : Program} {w : World} {K : PySem.W.Frag} {mg : Str → Option Value} {base : Heap} (n_enumerate : mg "enumerate" = none) (n_len : mg "len" = none) (c__law_is_column : CalG P w K mg base CX0 2 "_law_is_column" (sp__law_is_column K)) (c__law_is_word : CalG P w K mg base CX0 1 "_law_is_word" (sp__law_is_word K)) {f : Addr} {fd : FuncData} (F : Fun K "_law_reading" "_law_reading" st__law_reading f fd) : FnG P w K mg base (L2.CX P w) 3 f fd ["_law_lines_here"] (spE K 1 ev__law_reading) := by
  refine fn_E (n := 1) (m := 9) F sc__law_reading rfl rfl fun cdv A outer s H E hr => ?_
  have hu := hr.r.units
  have hv := hr.u65
  refine ⟨_, (pss_cons (ps_setLc (i := 1) (own := [("_law_line", 2)]) (g := gName 2) (tt := tYes) (te := tM1 rSplit (tVar 2) (tC (.str " "))) rfl sc__law_reading.nd rfl rfl (sw_true rfl rfl rfl (by decide +kernel)) (pi_list (pv 0)) (blkOk_by (N := N__law_reading) (sc := defScope st__law_reading) (by decide +kernel)) (fun _ _ _ _ _ => (pg_name (i := 2) sc__law_reading.nd rfl (Or.inl rfl))) (fun _ _ _ _ _ => pts_nil) (fun _ _ _ _ _ => (pe_split (pv 2) pe_str)))
      (pss_cons (ps_setLc (i := 3) (own := [("_law_words", 4)]) (g := gName 4) (tt := tAnd (tTest (tOp (rEQ K) (tCB (rLEN K) (tCons (tVar 4) (tNil))) (tC (.int 2)))) (tAnd (tTest (tOp (rEQ K) (tOp (rIX K) (tVar 4) (tC (.int 0))) (tC (.str "table")))) (tB (tCall (sp__law_is_word K) [] E0 (tCons (tOp (rIX K) (tVar 4) (tC (.int 1))) (tNil)))))) (te := tOp (rIX K) (tVar 4) (tC (.int 1))) rfl sc__law_reading.nd rfl rfl (sw_true rfl rfl rfl (by decide +kernel)) (pi_list (pv 1)) (blkOk_by (N := N__law_reading) (sc := defScope st__law_reading) (by decide +kernel)) (fun _ _ _ _ _ => (pg_name (i := 4) sc__law_reading.nd rfl (Or.inl rfl))) (fun _ _ _ _ _ => (pts_one (PW.pt (pw_and (pt_cmpR (opEQ hu) (pe_callB cLEN rfl n_len (by decide +kernel) (pa_cons (pv 4) pa_nil)) pe_int (nomark _)) (pw_and (pt_cmpR (opEQ hu) (pe_ix (ixANY hu) (pv 4) pe_int (fun _ _ => rfl)) pe_str (nomark _)) (pw_and1 (pt_val (pe_cg c__law_is_word hr (by decide) pass0 rfl (pa_cons (pe_ix (ixANY hu) (pv 4) pe_int (fun _ _ => rfl)) pa_nil))))))))) (fun _ _ _ _ _ => (pe_ix (ixANY hu) (pv 4) pe_int (fun _ _ => rfl))))
      (pss_cons (ps_par (i := 5) (j := 6) rfl sc__law_reading.nd rfl rfl (by decide) rfl rfl (pa_cons (pe_lst pa_nil) (pa_cons (pe_lst pa_nil) pa_nil)) (by rfl))
      (pss_cons (ps_for (passes_of rfl) rfl (pi_enum rfl n_enumerate (pa_cons (pv 1) pa_nil)) (pg_tup rfl (pgs_cons (pg_name (i := 7) sc__law_reading.nd rfl (Or.inl rfl)) (pgs_cons (pg_name (i := 4) sc__law_reading.nd rfl (Or.inl rfl)) pgs_nil))) (pss_one (ps_if (pt_cmpR (opEQ hu) (pe_ix (ixANY hu) (pv 4) pe_int (fun _ _ => rfl)) pe_str (nomark _)) (pss_cons (ps_if (PW.pt (pw_or (pt_cmpR (opNE hu) (pe_callB cLEN rfl n_len (by decide +kernel) (pa_cons (pv 4) pa_nil)) pe_int (nomark _)) (pw_or (pt_not (pt_val (pe_cg c__law_is_word hr (by decide) pass0 rfl (pa_cons (pe_ix (ixANY hu) (pv 4) pe_int (fun _ _ => rfl)) pa_nil)))) (pw_or (pt_cmpR (opIN hv) (pe_ix (ixANY hu) (pv 4) pe_int (fun _ _ => rfl)) (pv 5) (by rfl)) (pw_or1 (pt_cmpR (opEQ hu) (pe_callB cLEN rfl n_len (by decide +kernel) (pa_cons (pv 5) pa_nil)) pe_int (nomark _))))))) (pss_one (ps_ret (pe_tup (pa_cons (pv 7) (pa_cons (pv 5) (pa_cons (pv 6) pa_nil)))))) pss_nil)
      (pss_cons (ps_expr (pe_bm PySem.F.plainAttrs_list PySem.F.slot_list_append PySem.F.type_list_append mt_append (pv 5) (pa_cons (pe_ix (ixANY hu) (pv 4) pe_int (fun _ _ => rfl)) pa_nil)))
      (pss_one (ps_expr (pe_bm PySem.F.plainAttrs_list PySem.F.slot_list_append PySem.F.type_list_append mt_append (pv 6) (pa_cons (pe_lst pa_nil) pa_nil)))))) (pss_cons (ps_if (PW.pt (pw_or (pt_cmpR (opEQ hu) (pv 5) (pe_lst pa_nil) (nomark _)) (pw_or1 (pt_not (pt_val (pe_cg c__law_is_column hr (by decide) pass0 rfl (pa_cons (pv 4) (pa_cons (pv 3) (pa_cons (pe_ix (ixANY hu) (pv 6) (pe_un un_neg pe_int) (fun _ _ => rfl)) pa_nil))))))))) (pss_one (ps_ret (pe_tup (pa_cons (pv 7) (pa_cons (pv 5) (pa_cons (pv 6) pa_nil)))))) pss_nil)
      (pss_cons (ps_set (i := 8) sc__law_reading.nd rfl (Or.inl rfl) (pe_ix (ixANY hu) (pv 6) (pe_un un_neg pe_int) (fun _ _ => rfl)))
      (pss_one (ps_expr (pe_bm PySem.F.plainAttrs_list PySem.F.slot_list_append PySem.F.type_list_append mt_append (pv 8) (pa_cons (pe_ix (ixANY hu) (pv 4) pe_int (fun _ _ => rfl)) pa_nil)))))))))
      (pss_one (ps_ret (pe_tup (pa_cons (pe_un un_neg pe_int) (pa_cons (pv 5) (pa_cons (pv 6) pa_nil)))))))))), ?_⟩
  unfold bd__law_reading
  walk_at "el0"
  repeat (first | walk_at "elg" | (refine sx_callA hg_word ?_) | (refine sx_callA hg_colT ?_))
end EL
namespace EL
open PySem L2
open PyProof.Rows (envOfC)
open DL
/-! ### the law's reading: what its function answers -/
local macro_rules | `(tactic| walk_at "evs") => `(tactic| simp only [evSeq, evAsg, evPar, evFor, evIfS, evRet, evDrop, evBML, evNext, evTup, evLst, evLstO, evZ, evLcM, evIt, evItA, evM1, evAnd, evOr, evNot, evTst, evOp, evUn, evCB, evA, evCons, evNil, evVar, evC, evYes, tgN, noex, asB, asE, ofO, bind_ok, so_ok, thn_nx, thn_rt, fNEG, gS1, wipeE,
  List.getElem?_cons_succ, List.getElem?_cons_zero, List.set_cons_succ, List.set_cons_zero, if_true, if_false, Bool.false_eq_true, Bool.not_true, Bool.not_false, reduceIte, datL_d])
def lns (l : List Str) : Da := .lst (l.map lineD)
theorem split_L {x0 x1 x2 x3 x4 x5 x6 x7 x8 : Option AV} {h : AHp} : ∀ {l : List Str}, (∀ x ∈ l, x.length ≤ 900000) →
    evLcL (tgN 2) evYes (evM1 (gS1 gSPLIT) (evVar 2) (evC (Da.str " "))) [x0, x1, x2, x3, x4, x5, x6, x7, x8] ((txts l).map AV.d) h = .ok ((l.map lineD).map AV.d) h
  | [], _ => rfl
  | z :: r, hl => by
    have hz : z.length ≤ 900000 := hl z (by simp)
    have hs : gSPLIT z " " = some (lineD z) := by
      unfold gSPLIT lineD DL.wordsOf
      rw [if_pos ⟨rfl, hz⟩]
    have ih := @split_L x0 x1 x2 x3 x4 x5 x6 x7 x8 h r (fun x hx => hl x (by simp [hx]))
    show evLcL (tgN 2) evYes _ _ (.d (.str z) :: (txts r).map AV.d) h = _
    rw [evLcL]
    walk_at "evs"
    rw [hs]
    simp only [Option.map_some, bind_ok]
    rw [ih]
    rfl
abbrev cT2 : EvT := evAnd (evTst (evOp fEQ (evCB fLEN (evCons (evVar 4) evNil)) (evC (.int 2)))) (evAnd (evTst (evOp fEQ (evOp fIX (evVar 4) (evC (.int 0))) (evC (.str "table")))) (evTst (evA 1 gWord (evCons (evOp fIX (evVar 4) (evC (.int 1))) evNil))))
theorem at_w {ws : List Str} {n : Nat} {z : Str} (h : ws[n]? = some z) (i : Int) (hi : i = n) (hh : AHp) : fIX (.d (.lst (txts ws))) (.d (.int i)) hh = .ok (.d (.str z)) hh := by
  rw [fIX_l, at_lit (n := n) (x := AV.d (.str z)) hi (by simp [txts, h])]
  rfl
theorem eq_s (a b : Str) (h : AHp) : fEQ (.d (.str a)) (.d (.str b)) h = .ok (.d (.bl (decide (a = b)))) h := by simp [fEQ]
theorem eq_i (a b : Int) (h : AHp) : fEQ (.d (.int a)) (.d (.int b)) h = .ok (.d (.bl (decide (a = b)))) h := by simp [fEQ]
theorem ne_i (a b : Int) (h : AHp) : fNE (.d (.int a)) (.d (.int b)) h = .ok (.d (.bl (!decide (a = b)))) h := by simp [fNE]
theorem len_w (ws : List Str) (h : AHp) : fLEN [.d (.lst (txts ws))] h = .ok (.d (.int ws.length)) h := by rw [fLEN_l]; simp [txts]
theorem lenw {ws : List Str} {n : Nat} : decide ((ws.length : Int) = n) = decide (ws.length = n) := by
  rw [decide_eq_decide]; omega
theorem word_A (z : Str) (hz : z.length ≤ 1000000) (h : AHp) : qC gWord [.d (.str z)] h = .ok (.d (.bl (isWord z))) h := by
  rw [qC1]; simp only [gWord]; rw [if_pos hz]
theorem cond2 {x0 x1 x2 x3 x5 x6 x7 x8 : Option AV} {h : AHp} {ws : List Str} (hlk : h.lk = false) (hw : ∀ x ∈ ws, x.length ≤ 1000000) : cT2 [x0, x1, x2, x3, some (.d (.lst (txts ws))), x5, x6, x7, x8] h = .ok (isTab ws) h := by
  unfold cT2
  walk_at "evs"
  rw [len_w]
  walk_at "evs"
  rw [eq_i]
  walk_at "evs"
  by_cases h2 : ws.length = 2
  · match ws, h2 with
    | [a, b], _ =>
      simp only [List.length_cons, List.length_nil]
      rw [at_w (ws := [a, b]) (n := 0) (z := a) rfl 0 rfl]
      walk_at "evs"
      rw [eq_s]
      walk_at "evs"
      by_cases ha : a = "table"
      · rw [at_w (ws := [a, b]) (n := 1) (z := b) rfl 1 rfl]
        simp only [ha, decide_true, isTab, Bool.true_and]
        walk_at "evs"
        simp only [List.length_cons, List.length_nil, hlk, and_self, if_true]
        rw [word_A b (hw b (by simp))]
        simp [asB]
      · simp [ha, isTab]
  · have : decide ((ws.length : Int) = 2) = false := by simp; omega
    rw [this, isTab_len h2]
    simp
theorem known_L {x0 x1 x2 x3 x4 x5 x6 x7 x8 : Option AV} {h : AHp} (hlk : h.lk = false) : ∀ {l : List Str}, (∀ x ∈ l, x.length ≤ 900000) →
    evLcL (tgN 4) cT2 (evOp fIX (evVar 4) (evC (.int 1))) [x0, x1, x2, x3, x4, x5, x6, x7, x8] ((l.map lineD).map AV.d) h = .ok ((txts (wrote l)).map AV.d) h
  | [], _ => rfl
  | z :: r, hl => by
    have hz : z.length ≤ 900000 := hl z (by simp)
    have hw : ∀ x ∈ DL.wordsOf z, x.length ≤ 1000000 := fun x hx => by
      exact (words_small hz).2 x hx
    have ih := @known_L x0 x1 x2 x3 x4 x5 x6 x7 x8 h hlk r (fun x hx => hl x (by simp [hx]))
    show evLcL (tgN 4) cT2 _ _ (.d (.lst (txts (DL.wordsOf z))) :: (r.map lineD).map AV.d) h = _
    rw [evLcL]
    simp only [tgN, noex, bind_ok, List.set_cons_succ, List.set_cons_zero]
    rw [cond2 hlk hw]
    simp only [noex, bind_ok]
    have e : wrote (z :: r) = nameOf (DL.wordsOf z) ++ wrote r := rfl
    rw [e]
    by_cases ht : isTab (DL.wordsOf z) = true
    · rw [if_pos ht]
      obtain ⟨a, b, eb⟩ : ∃ a b, DL.wordsOf z = [a, b] := by
        match DL.wordsOf z, ht with
        | [a, b], _ => exact ⟨a, b, rfl⟩
      have en : nameOf (DL.wordsOf z) = [b] := by unfold nameOf; rw [if_pos ht, eb]
      rw [en, eb]
      walk_at "evs"
      rw [at_w (ws := [a, b]) (n := 1) (z := b) rfl 1 rfl]
      simp only [noex, bind_ok]
      rw [ih]
      rfl
    · rw [if_neg ht]
      have en : nameOf (DL.wordsOf z) = [] := by unfold nameOf; rw [if_neg ht]
      rw [en, ih]
      rfl
end EL
namespace DL
open PySem L2
open PyProof.Rows (envOfC)
/-! ### data of a small depth -/
def scalD : Da → Bool
  | .non => true
  | .bl _ => true
  | .int _ => true
  | .str z => PyData.strOk z
  | _ => false
def lowD : Nat → Da → Bool
  | 0, d => scalD d
  | n + 1, .tup ds => ds.all (lowD n)
  | n + 1, .lst ds => ds.all (lowD n)
  | _ + 1, d => scalD d
theorem scal_shp {d : Da} (h : scalD d = true) : plain d = true ∧ (py d).depth = 0 := by
  cases d with
  | non => exact ⟨rfl, rfl⟩
  | bl _ => exact ⟨rfl, rfl⟩
  | int _ => exact ⟨rfl, rfl⟩
  | str _ => exact ⟨h, rfl⟩
  | _ => cases h
theorem all_plain {n : Nat} : ∀ {ds : List Da}, (∀ d ∈ ds, plain d = true ∧ (py d).depth ≤ n) → plainL ds = true ∧ PyData.depthAll (pyL ds) ≤ n
  | [], _ => ⟨rfl, Nat.zero_le _⟩
  | d :: r, h => by
    obtain ⟨h1, h2⟩ := h d List.mem_cons_self
    obtain ⟨h3, h4⟩ := all_plain (ds := r) fun e he => h e (List.mem_cons_of_mem _ he)
    refine ⟨?_, ?_⟩
    · show (plain d && plainL r) = true
      rw [h1, h3]; rfl
    · show max (py d).depth (PyData.depthAll (pyL r)) ≤ n
      exact Nat.max_le.mpr ⟨h2, h4⟩
theorem low_shp : ∀ (n : Nat) {d : Da}, lowD n d = true → plain d = true ∧ (py d).depth ≤ n
  | 0, d, h => by
    obtain ⟨h1, h2⟩ := scal_shp (d := d) h
    exact ⟨h1, Nat.le_of_eq h2⟩
  | n + 1, d, h => by
    cases d with
    | tup ds =>
      have h' : ds.all (lowD n) = true := h
      obtain ⟨h1, h2⟩ := all_plain (n := n) (ds := ds) fun e he => low_shp n (List.all_eq_true.mp h' e he)
      exact ⟨h1, Nat.succ_le_succ h2⟩
    | lst ds =>
      have h' : ds.all (lowD n) = true := h
      obtain ⟨h1, h2⟩ := all_plain (n := n) (ds := ds) fun e he => low_shp n (List.all_eq_true.mp h' e he)
      exact ⟨h1, Nat.succ_le_succ h2⟩
    | non => exact ⟨rfl, Nat.zero_le _⟩
    | bl _ => exact ⟨rfl, Nat.zero_le _⟩
    | int _ => exact ⟨rfl, Nat.zero_le _⟩
    | str _ => exact ⟨h, Nat.zero_le _⟩
    | _ => cases h
theorem low_ok {n : Nat} {d : Da} (h : lowD n d = true) (hn : n ≤ 64 := by decide) : shp d = true := by
  obtain ⟨h1, h2⟩ := low_shp n h
  unfold shp
  rw [h1, Bool.true_and]
  exact decide_eq_true (Nat.le_trans h2 hn)
theorem abc26_ok : ∀ c ∈ ("abcdefghijklmnopqrstuvwxyz" : Str).cps.toList, c < 0x110000 := by decide +kernel
theorem word_ok {z : Str} (h : isWord z = true) : PyData.strOk z = true := by
  have h2 := (Bool.and_eq_true_iff.mp h).2
  unfold PyData.strOk
  rw [Array.all_eq_true_iff_forall_mem]
  intro c hc
  have h3 := List.all_eq_true.mp h2 c (Array.mem_toList_iff.mpr hc)
  exact decide_eq_true (abc26_ok c (of_decide_eq_true h3))
theorem txts_low {l : List Str} (h : ∀ z ∈ l, PyData.strOk z = true) : (txts l).all (lowD 0) = true := by
  refine List.all_eq_true.mpr fun d hd => ?_
  obtain ⟨z, hz, rfl⟩ := List.mem_map.mp hd
  exact h z hz
theorem txts_shp {l : List Str} (h : ∀ z ∈ l, isWord z = true) : shp (.lst (txts l)) = true ∧ shp (.tup (txts l)) = true := by
  have a := txts_low (l := l) fun z hz => word_ok (h z hz)
  exact ⟨low_ok (n := 1) a, low_ok (n := 1) a⟩
end DL
namespace EL
open PySem L2
open PyProof.Rows (envOfC)
open DL
abbrev Tw := List (Str × List Str)
def stepT (known : List Str) (T : Tw) (ws : List Str) : Option Tw :=
  if ws[0]? = some ("table" : Str) then (match ws with
    | [_, n] => if isWord n = true ∧ n ∉ T.map (·.1) ∧ T.length ≠ 5 then some ((n, []) :: T) else none
    | _ => none)
  else match T with
    | (t, c) :: r => if isColT known c ws = true then some ((t, c ++ [ws.getD 1 ""]) :: r) else none
    | [] => none
def rdT (known : List Str) : Nat → List (List Str) → Tw → Int × Tw
  | _, [], T => (-1, T)
  | i, ws :: r, T => match stepT known T ws with
    | some T' => rdT known (i + 1) r T'
    | none => (i, T)
def namesT (T : Tw) : List Str := (T.map (·.1)).reverse
def colsT (T : Tw) : List Da := (T.map fun x => Da.lst (txts x.2)).reverse
def rdD (p : Int × Tw) : Da := .tup [.int p.1, .lst (txts (namesT p.2)), .lst (colsT p.2)]
structure okTw (T : Tw) : Prop where
  n5 : T.length ≤ 5
  w1 : ∀ x ∈ T, isWord x.1 = true
  c6 : ∀ x ∈ T, x.2.length ≤ 6
  cw : ∀ x ∈ T, ∀ z ∈ x.2, isWord z = true
/-- how the lists lie -/
structure HR (h : AHp) (a b : Nat) (T : Tw) (ids : List Nat) : Prop where
  ha : h.objs a = .ml ((txts (namesT T)).map .d)
  hb : h.objs b = .ml (ids.reverse.map .o)
  hc : Paired (fun j x => h.objs j = .ml ((txts x.2).map .d)) ids T
  ab : a ≠ b
  la : a < h.next
  lb : b < h.next
  lc : ∀ j ∈ ids, j < h.next ∧ j ≠ a ∧ j ≠ b
  nd : ids.Nodup
  lk : h.lk = false
theorem frz_ml {h : AHp} {j n : Nat} {ds : List Da} (e : h.objs j = .ml (ds.map .d)) : frzV (n + 1) h (.o j) = some (.lst ds) := by
  rw [frzV_o, e]
  simp only
  rw [optL_ds]
  rfl
theorem frz_ids {h : AHp} {n : Nat} : ∀ {ids : List Nat} {T : Tw}, Paired (fun j x => h.objs j = .ml ((txts x.2).map .d)) ids T → optL ((ids.map AV.o).map (frzV (n + 1) h)) = some (T.map fun x => Da.lst (txts x.2))
  | _, _, .nil => rfl
  | _, _, .cons a b => by
    rw [List.map_cons, List.map_cons, frz_ml a, optL_cons, frz_ids b]
    rfl
theorem in_o {h : AHp} {j : Nat} {l : List Str} (e : h.objs j = .ml ((txts l).map .d)) (z : Str) : fIN false (.d (.str z)) (.o j) h = .ok (.d (.bl (decide (z ∈ l)))) h := by
  have e1 : dctK h (.o j) = none := by simp only [dctK, e]
  unfold fIN
  rw [e1]
  have e2 : worth h (.o j) = some (.lst (txts l)) := frz_ml e
  simp only [q2, e2, frzV_d, gIN, flD_s, flAll_strs, inV_strs, Bool.false_xor]
theorem eq_o {h : AHp} {j : Nat} {l : List Str} (e : h.objs j = .ml ((txts l).map .d)) (hw : ∀ z ∈ l, isWord z = true) : fEQ (.o j) (.d (.lst [])) h = .ok (.d (.bl (decide (l = [])))) h := by
  have e2 : worth h (.o j) = some (.lst (txts l)) := frz_ml e
  show q2 _ _ _ _ = _
  unfold q2
  rw [e2]
  simp only [frzV_d]
  rw [gEQ_deep (.inl rfl) (txts_shp hw).1 (by decide +kernel)]
  cases l with
  | nil => rfl
  | cons x r => rfl
theorem hc_mono {h h' : AHp} : ∀ {ids : List Nat} {T : Tw}, (∀ j ∈ ids, h'.objs j = h.objs j) → Paired (fun j x => h.objs j = .ml ((txts x.2).map .d)) ids T → Paired (fun j x => h'.objs j = .ml ((txts x.2).map .d)) ids T
  | _, _, _, .nil => .nil
  | _, _, e, .cons a b => .cons (by rw [e _ (by simp)]; exact a) (hc_mono (fun j hj => e j (by simp [hj])) b)
/-- what is returned -/
theorem ret_T {h : AHp} {a b : Nat} {T : Tw} {ids : List Nat} (r : HR h a b T ids) {env : Env} {e7 : EvX} {i : Int} (h7 : e7 env h = .ok (.d (.int i)) h) (h5 : env[5]? = some (some (.o a))) (h6 : env[6]? = some (some (.o b))) :
    ∃ h', evRet (evZ (evTup (evCons e7 (evCons (evVar 5) (evCons (evVar 6) evNil))))) env h = .rt (.d (rdD (i, T))) h' ∧ h'.lk = false := by
  have e5 : evVar 5 env h = .ok (.o a) h := by unfold evVar; rw [h5]
  have e6 : evVar 6 env h = .ok (.o b) h := by unfold evVar; rw [h6]
  have el : (evTup (evCons e7 (evCons (evVar 5) (evCons (evVar 6) evNil)))) env h = .ok (.o h.next) (alloc h (.tu [.d (.int i), .o a, .o b])) := by
    unfold evTup evCons evNil
    simp only [h7, e5, e6, bind_ok]
    rfl
  have ne : ∀ {j}, j < h.next → (alloc h (.tu [.d (.int i), .o a, .o b])).objs j = h.objs j := fun l => alloc_ne h _ (Nat.ne_of_lt l)
  have w : worth (alloc h (.tu [.d (.int i), .o a, .o b])) (.o h.next) = some (rdD (i, T)) := by
    show frzV (8 + 1) _ _ = _
    rw [frzV_o, alloc_objs]
    simp only [List.map_cons, List.map_nil, frzV_d]
    have w1 : frzV (7 + 1) (alloc h (.tu [.d (.int i), .o a, .o b])) (.o a) = some (.lst (txts (namesT T))) := frz_ml (by rw [ne r.la]; exact r.ha)
    have w2 : frzV (7 + 1) (alloc h (.tu [.d (.int i), .o a, .o b])) (.o b) = some (.lst (colsT T)) := by
      rw [frzV_o, ne r.lb, r.hb]
      simp only
      have p := hc_mono (h' := alloc h (.tu [.d (.int i), .o a, .o b])) (fun j hj => ne (r.lc j hj).1) r.hc
      have p2 := frz_ids (n := 6) (paired_rev p)
      rw [p2]
      unfold colsT
      rw [List.map_reverse]
      rfl
    have e8 : (8 : Nat) = 7 + 1 := rfl
    rw [e8, w1, w2]
    rfl
  refine ⟨goneL (alloc h (.tu [.d (.int i), .o a, .o b])) (rch 9 (alloc h (.tu [.d (.int i), .o a, .o b])) (.o h.next)), ?_, by rw [goneL_lk]; exact r.lk⟩
  unfold evRet evZ
  rw [el]
  simp only [bind_ok]
  unfold frzR frzX
  rw [w]
  rfl
end EL
namespace EL
open PySem L2
open PyProof.Rows (envOfC)
open DL
local macro_rules | `(tactic| walk_at "evs") => `(tactic| simp only [evSeq, evAsg, evPar, evFor, evIfS, evRet, evDrop, evBML, evNext, evTup, evLst, evLstO, evZ, evLcM, evIt, evItA, evM1, evAnd, evOr, evNot, evTst, evOp, evUn, evCB, evA, evCons, evNil, evVar, evC, evYes, tgN, noex, asB, asE, ofO, bind_ok, so_ok, thn_nx, thn_rt, fNEG, gS1, wipeE,
  List.getElem?_cons_succ, List.getElem?_cons_zero, List.set_cons_succ, List.set_cons_zero, if_true, if_false, Bool.false_eq_true, Bool.not_true, Bool.not_false, reduceIte, datL_d])
abbrev w1e : EvX := evOp fIX (evVar 4) (evC (.int 1))
abbrev w0e : EvX := evOp fIX (evVar 4) (evC (.int 0))
abbrev retE : EvS := evRet (evZ (evTup (evCons (evVar 7) (evCons (evVar 5) (evCons (evVar 6) evNil)))))
abbrev lastE : EvX := evOp fIX (evVar 6) (evUn fNEG (evC (.int 1)))
abbrev condA : EvT := evOr (evTst (evOp fNE (evCB fLEN (evCons (evVar 4) evNil)) (evC (.int 2)))) (evOr (evNot (evTst (evA 1 gWord (evCons w1e evNil)))) (evOr (evTst (evOp (fIN false) w1e (evVar 5))) (evTst (evOp fEQ (evCB fLEN (evCons (evVar 5) evNil)) (evC (.int 5))))))
abbrev condB : EvT := evOr (evTst (evOp fEQ (evVar 5) (evLst evNil))) (evNot (evTst (evA 3 gColT (evCons (evVar 4) (evCons (evVar 3) (evCons lastE evNil))))))
abbrev appA : EvS := evSeq (evDrop (evBML fAPP (evVar 5) (evCons w1e evNil))) (evDrop (evBML fAPP (evVar 6) (evCons (evLstO evNil) evNil)))
abbrev appB : EvS := evSeq (evAsg lastE (tgN 8)) (evDrop (evBML fAPP (evVar 8) (evCons w1e evNil)))
abbrev bodyE : EvS := evIfS (evTst (evOp fEQ w0e (evC (.str "table")))) (evSeq (evIfS condA retE evNext) appA) (evSeq (evIfS condB retE evNext) appB)
theorem bd_is : bd__law_reading = evSeq (evAsg (evLcM mkL (evIt datL (evVar 0)) [2] (tgN 2) evYes (evM1 (gS1 gSPLIT) (evVar 2) (evC (.str " ")))) (tgN 1))
    (evSeq (evAsg (evLcM mkL (evIt datL (evVar 1)) [4] (tgN 4) cT2 w1e) (tgN 3))
    (evSeq (evPar 5 6 (evCons (evLstO evNil) (evCons (evLstO evNil) evNil)))
    (evSeq (evFor (evItA asE (evCons (evVar 1) evNil)) (tgTup 2 (tgCons (tgN 7) (tgCons (tgN 4) tgNil))) bodyE)
      (evRet (evZ (evTup (evCons (evUn fNEG (evC (.int 1))) (evCons (evVar 5) (evCons (evVar 6) evNil)))))))))  := rfl
section
variable {x0 x1 x2 x8 : Option AV} {known : List Str} {ws : List Str} {a b : Nat} {i : Int} {h : AHp} {T : Tw} {ids : List Nat}
abbrev envE (x0 x1 x2 x8 : Option AV) (known ws : List Str) (a b : Nat) (i : Int) : Env := [x0, x1, x2, some (.d (.lst (txts known))), some (.d (.lst (txts ws))), some (.o a), some (.o b), some (.d (.int i)), x8]
theorem w0_ok {z : Str} {r : List Str} : w0e (envE x0 x1 x2 x8 known (z :: r) a b i) h = .ok (.d (.str z)) h := by
  unfold w0e
  walk_at "evs"
  rw [at_w (ws := z :: r) (n := 0) (z := z) rfl 0 rfl]
theorem w1_ok {z n : Str} {r : List Str} {y8 : Option AV} : w1e (envE x0 x1 x2 y8 known (z :: n :: r) a b i) h = .ok (.d (.str n)) h := by
  unfold w1e
  walk_at "evs"
  rw [at_w (ws := z :: n :: r) (n := 1) (z := n) rfl 1 rfl]
theorem v5 : evVar 5 (envE x0 x1 x2 x8 known ws a b i) h = .ok (.o a) h := rfl
theorem v6 : evVar 6 (envE x0 x1 x2 x8 known ws a b i) h = .ok (.o b) h := rfl
theorem v4 : evVar 4 (envE x0 x1 x2 x8 known ws a b i) h = .ok (.d (.lst (txts ws))) h := rfl
theorem v3 : evVar 3 (envE x0 x1 x2 x8 known ws a b i) h = .ok (.d (.lst (txts known))) h := rfl
theorem namesT_len : (namesT T).length = T.length := by simp [namesT]
def tabA (T : Tw) : List Str → Bool
  | [_, n] => isWord n && (!decide (n ∈ T.map (·.1)) && !decide (T.length = 5))
  | _ => false
theorem tabA_len {ws : List Str} (h : ws.length ≠ 2) : tabA T ws = false := by
  match ws, h with
  | [], _ => rfl
  | [_], _ => rfl
  | [_, _], h => exact absurd rfl h
  | _ :: _ :: _ :: _, _ => rfl
theorem op_ok {f : AV → AV → AHp → Rs AV} {ea eb : EvX} {env : Env} {h h1 h2 h3 : AHp} {x y z : AV} (e1 : ea env h = .ok x h1) (e2 : eb env h1 = .ok y h2) (e3 : f x y h2 = .ok z h3) : evOp f ea eb env h = .ok z h3 := by
  unfold evOp; simp only [e1, e2, e3, bind_ok, noex]
theorem tst_ok {e : EvX} {env : Env} {h h1 : AHp} {b : Bool} (e1 : e env h = .ok (.d (.bl b)) h1) : evTst e env h = .ok b h1 := by
  unfold evTst; simp only [e1, bind_ok, asB]
theorem or_t {t u : EvT} {env : Env} {h h1 : AHp} (e1 : t env h = .ok true h1) : evOr t u env h = .ok true h1 := by
  unfold evOr; simp only [e1, bind_ok, if_true]
theorem or_f {t u : EvT} {env : Env} {h h1 : AHp} (e1 : t env h = .ok false h1) : evOr t u env h = u env h1 := by
  unfold evOr; simp [e1]
theorem not_ok {t : EvT} {env : Env} {h h1 : AHp} {b : Bool} (e1 : t env h = .ok b h1) : evNot t env h = .ok (!b) h1 := by
  unfold evNot; simp only [e1, bind_ok]
theorem cb1 {f : List AV → AHp → Rs AV} {e : EvX} {env : Env} {h h1 h2 : AHp} {x z : AV} (e1 : e env h = .ok x h1) (e2 : f [x] h1 = .ok z h2) : evCB f (evCons e evNil) env h = .ok z h2 := by
  unfold evCB evCons evNil; simp only [e1, e2, bind_ok, noex]
theorem c_ok {d : Da} {env : Env} {h : AHp} : evC d env h = .ok (.d d) h := rfl
theorem condA_ok (r : HR h a b T ids) (hs : small ws) : condA (envE x0 x1 x2 x8 known ws a b i) h = .ok (!tabA T ws) h := by
  have l4 : evTst (evOp fNE (evCB fLEN (evCons (evVar 4) evNil)) (evC (.int 2))) (envE x0 x1 x2 x8 known ws a b i) h = .ok (!decide ((ws.length : Int) = 2)) h := tst_ok (op_ok (cb1 v4 (len_w ws h)) c_ok (ne_i _ _ _))
  by_cases h2 : ws.length = 2
  · match ws, h2 with
    | [z, n], _ =>
      have w1 := @w1_ok x0 x1 x2 known a b i h z n [] x8
      have hn : n.length ≤ 1000000 := hs.2 n (by simp)
      have lw : evTst (evA 1 gWord (evCons w1e evNil)) (envE x0 x1 x2 x8 known [z, n] a b i) h = .ok (isWord n) h := by
        refine tst_ok ?_
        unfold evA evCons evNil
        simp only [w1, bind_ok, List.length_cons, List.length_nil, r.lk, and_self, if_true, word_A n hn]
      have li : evTst (evOp (fIN false) w1e (evVar 5)) (envE x0 x1 x2 x8 known [z, n] a b i) h = .ok (decide (n ∈ namesT T)) h := tst_ok (op_ok w1 v5 (in_o r.ha n))
      have l5 : evTst (evOp fEQ (evCB fLEN (evCons (evVar 5) evNil)) (evC (.int 5))) (envE x0 x1 x2 x8 known [z, n] a b i) h = .ok (decide ((T.length : Int) = 5)) h := tst_ok (op_ok (cb1 v5 (by rw [fLEN_ol r.ha]; simp only [List.length_map, txts, namesT_len])) c_ok (eq_i _ _ _))
      have em : decide (n ∈ namesT T) = decide (n ∈ T.map (·.1)) := by rw [decide_eq_decide]; unfold namesT; rw [List.mem_reverse]
      have e5 : decide ((T.length : Int) = 5) = decide (T.length = 5) := by rw [decide_eq_decide]; omega
      rw [em] at li
      rw [e5] at l5
      unfold condA
      rw [or_f l4]
      show _ = Rs.ok (!(isWord n && (!decide (n ∈ T.map (·.1)) && !decide (T.length = 5)))) h
      cases e1 : isWord n with
      | false => rw [e1] at lw; exact or_t (not_ok lw)
      | true =>
        rw [e1] at lw
        rw [or_f (not_ok lw)]
        cases e2 : decide (n ∈ T.map (·.1)) with
        | true => rw [e2] at li; exact or_t li
        | false =>
          rw [e2] at li
          rw [or_f li, l5]
          simp
  · rw [tabA_len h2]
    have e2 : (!decide ((ws.length : Int) = 2)) = true := by simp; omega
    rw [e2] at l4
    exact or_t l4
theorem last_ok (r : HR h a b T ids) {j : Nat} {q : List Nat} (e : ids = j :: q) : lastE (envE x0 x1 x2 x8 known ws a b i) h = .ok (.o j) h := by
  refine op_ok v6 (y := .d (.int (-1))) (h2 := h) rfl ?_
  rw [fIX_ol r.hb, e]
  have hl : ((j :: q).reverse.map AV.o) = (q.reverse.map AV.o) ++ [.o j] := by simp
  rw [hl]
  have : atI ((q.reverse.map AV.o) ++ [.o j]) (-1) = some (.o j) := by
    have e1 : ixN ((q.reverse.map AV.o) ++ [AV.o j]).length (-1) = some q.length := by
      unfold ixN
      rw [if_neg (by omega), if_pos (by simp only [List.length_append, List.length_map, List.length_reverse, List.length_cons, List.length_nil]; omega)]
      congr 1
      simp only [List.length_append, List.length_map, List.length_reverse, List.length_cons, List.length_nil]
      omega
    unfold atI
    rw [e1]
    show ((q.reverse.map AV.o) ++ [AV.o j])[q.length]? = _
    rw [List.getElem?_append_right (by simp)]
    simp
  rw [this]
  rfl
theorem condB_nil (r : HR h a b [] ids) : condB (envE x0 x1 x2 x8 known ws a b i) h = .ok true h := by
  refine or_t (tst_ok (op_ok v5 (y := .d (.lst [])) (h2 := h) rfl ?_))
  rw [eq_o r.ha (fun z hz => nomatch hz)]
  rfl
theorem namesT_ok (ok : okTw T) : ∀ z ∈ namesT T, isWord z = true := fun z hz => by
  obtain ⟨x, hx, rfl⟩ := List.mem_map.mp (List.mem_reverse.mp hz)
  exact ok.w1 x hx
theorem condB_ok {t : Str} {c : List Str} {T' : Tw} (r : HR h a b ((t, c) :: T') ids) (ok : okTw ((t, c) :: T')) (hs : small ws) : condB (envE x0 x1 x2 x8 known ws a b i) h = .ok (!isColT known c ws) h := by
  have hc := r.hc
  obtain ⟨j, q, e⟩ : ∃ j q, ids = j :: q := by cases hc; exact ⟨_, _, rfl⟩
  have la := last_ok (x0 := x0) (x1 := x1) (x2 := x2) (x8 := x8) (known := known) (ws := ws) (i := i) r e
  have hj : h.objs j = .ml ((txts c).map .d) := by rw [e] at hc; cases hc; assumption
  have l1 : evTst (evOp fEQ (evVar 5) (evLst evNil)) (envE x0 x1 x2 x8 known ws a b i) h = .ok false h := by
    refine tst_ok (op_ok v5 (y := .d (.lst [])) (h2 := h) rfl ?_)
    rw [eq_o r.ha (namesT_ok ok)]
    have : namesT ((t, c) :: T') ≠ [] := by simp [namesT]
    rw [decide_eq_false this]
  unfold condB
  rw [or_f l1]
  refine not_ok (tst_ok ?_)
  have c6 : c.length ≤ 1000 := Nat.le_trans (ok.c6 (t, c) (by simp)) (by decide)
  unfold evA evCons evNil
  simp only [v4, v3, la, bind_ok, List.length_cons, List.length_nil, r.lk, and_self, if_true]
  unfold qC
  have e2 : worth h (.o j) = some (.lst (txts c)) := frz_ml hj
  simp only [List.map_cons, List.map_nil, frzV_d, e2, optL_cons, optL_nil, Option.map_some, gColT, strsD_txts]
  rw [if_pos ⟨hs, c6⟩]
theorem drop_ok {e : EvX} {env : Env} {h h1 : AHp} {x : AV} (e1 : e env h = .ok x h1) : evDrop e env h = .nx env h1 := by
  unfold evDrop; simp only [e1, so_ok]
theorem bml_ok {o e : EvX} {env : Env} {h h1 : AHp} {j : Nat} {vs : List AV} {y : AV} (e1 : o env h = .ok (.o j) h) (hj : h.objs j = .ml vs) (e2 : e env h = .ok y h1) (hj1 : h1.objs j = .ml vs) (hl : vs.length < 100000) : evBML fAPP o (evCons e evNil) env h = .ok (.d .non) (put h1 j (.ml (vs ++ [y]))) := by
  unfold evBML evCons evNil
  have es : seqL h (.o j) = some vs := by simp only [seqL, hj]
  simp only [e1, e2, bind_ok, es, fAPP_o hj1 hl, noex]
theorem namesT_cons {n : Str} {c : List Str} : namesT ((n, c) :: T) = namesT T ++ [n] := by simp [namesT]
theorem appA_ok (r : HR h a b T ids) (ok : okTw T) {z n : Str} {q : List Str} (hT : T.length < 5) (hn : isWord n = true) :
    ∃ h' ids', appA (envE x0 x1 x2 x8 known (z :: n :: q) a b i) h = .nx (envE x0 x1 x2 x8 known (z :: n :: q) a b i) h' ∧ HR h' a b ((n, []) :: T) ids' ∧ okTw ((n, []) :: T) := by
  have w1 := @w1_ok x0 x1 x2 known a b i h z n q x8
  have lp := plen r.hc
  have b1 := bml_ok (v5 (x0 := x0) (x1 := x1) (x2 := x2) (x8 := x8) (known := known) (ws := z :: n :: q) (a := a) (b := b) (i := i) (h := h)) r.ha w1 r.ha (by simp only [List.length_map, txts, namesT_len]; omega)
  have d1 := drop_ok b1
  have eb : ∀ u, (put h a u).objs b = .ml (ids.reverse.map .o) := fun u => by rw [put_ne h _ (Ne.symm r.ab)]; exact r.hb
  have l2 : (evLstO evNil) (envE x0 x1 x2 x8 known (z :: n :: q) a b i) (put h a (.ml ((txts (namesT T)).map .d ++ [.d (.str n)]))) = .ok (.o h.next) (alloc (put h a (.ml ((txts (namesT T)).map .d ++ [.d (.str n)]))) (.ml [])) := rfl
  have b2 := bml_ok (v6 (x0 := x0) (x1 := x1) (x2 := x2) (x8 := x8) (known := known) (ws := z :: n :: q) (a := a) (b := b) (i := i)) (eb _) l2 (by rw [alloc_ne _ _ (by rw [put_next]; exact Nat.ne_of_lt r.lb)]; exact eb _) (by simp only [List.length_map, List.length_reverse]; omega)
  have d2 := drop_ok b2
  have eA : appA (envE x0 x1 x2 x8 known (z :: n :: q) a b i) h = .nx (envE x0 x1 x2 x8 known (z :: n :: q) a b i) (put (alloc (put h a (.ml ((txts (namesT T)).map .d ++ [.d (.str n)]))) (.ml [])) b (.ml (ids.reverse.map AV.o ++ [.o h.next]))) := by
    unfold appA evSeq
    rw [d1]
    simp only [thn_nx]
    exact d2
  refine ⟨_, h.next :: ids, eA, ⟨?_, ?_, ?_, r.ab, ?_, ?_, ?_, ?_, r.lk⟩, ⟨?_, ?_, ?_, ?_⟩⟩
  · rw [put_ne _ _ r.ab, alloc_ne _ _ (by rw [put_next]; exact Nat.ne_of_lt r.la), put_objs, namesT_cons]
    simp [txts]
  · rw [put_objs]
    simp
  · refine .cons ?_ (hc_mono (fun j hj => ?_) r.hc)
    · rw [put_ne _ _ (Nat.ne_of_gt r.lb)]
      exact alloc_objs _ _
    · obtain ⟨l1, l2, l3⟩ := r.lc j hj
      rw [put_ne _ _ l3, alloc_ne _ _ (by rw [put_next]; exact Nat.ne_of_lt l1), put_ne _ _ l2]
  · exact Nat.lt_succ_of_lt r.la
  · exact Nat.lt_succ_of_lt r.lb
  · intro j hj
    rcases List.mem_cons.mp hj with e | e
    · subst e
      exact ⟨Nat.lt_succ_self _, Nat.ne_of_gt r.la, Nat.ne_of_gt r.lb⟩
    · obtain ⟨l1, l2, l3⟩ := r.lc j e
      exact ⟨Nat.lt_succ_of_lt l1, l2, l3⟩
  · refine List.nodup_cons.mpr ⟨fun hj => Nat.lt_irrefl _ (r.lc _ hj).1, r.nd⟩
  · simp only [List.length_cons]; omega
  · intro x hx
    rcases List.mem_cons.mp hx with e | e
    · subst e; exact hn
    · exact ok.w1 x e
  · intro x hx
    rcases List.mem_cons.mp hx with e | e
    · subst e; exact Nat.zero_le _
    · exact ok.c6 x e
  · intro x hx
    rcases List.mem_cons.mp hx with e | e
    · subst e; exact fun z hz => nomatch hz
    · exact ok.cw x e
theorem appB_ok {t : Str} {c : List Str} {T' : Tw} (r : HR h a b ((t, c) :: T') ids) (ok : okTw ((t, c) :: T')) {z n : Str} {q : List Str} (hl : c.length < 6) (hn : isWord n = true) :
    ∃ h' y8, appB (envE x0 x1 x2 x8 known (z :: n :: q) a b i) h = .nx (envE x0 x1 x2 y8 known (z :: n :: q) a b i) h' ∧ HR h' a b ((t, c ++ [n]) :: T') ids ∧ okTw ((t, c ++ [n]) :: T') := by
  have hc := r.hc
  obtain ⟨j, q2, e⟩ : ∃ j q, ids = j :: q := by cases hc; exact ⟨_, _, rfl⟩
  subst e
  have la := last_ok (x0 := x0) (x1 := x1) (x2 := x2) (x8 := x8) (known := known) (ws := z :: n :: q) (i := i) r rfl
  have hj : h.objs j = .ml ((txts c).map .d) := by cases hc; assumption
  have ht : Paired (fun j x => h.objs j = .ml ((txts x.2).map .d)) q2 T' := by cases hc; assumption
  have w1 := @w1_ok x0 x1 x2 known a b i h z n q (some (.o j))
  have b1 := bml_ok (o := evVar 8) (env := envE x0 x1 x2 (some (.o j)) known (z :: n :: q) a b i) (h := h) rfl hj w1 hj (by simp only [List.length_map, txts]; omega)
  have d1 := drop_ok b1
  obtain ⟨l1, l2, l3⟩ := r.lc j (by simp)
  have eB : appB (envE x0 x1 x2 x8 known (z :: n :: q) a b i) h = .nx (envE x0 x1 x2 (some (.o j)) known (z :: n :: q) a b i) (put h j (.ml ((txts c).map .d ++ [.d (.str n)]))) := by
    unfold appB evSeq evAsg
    rw [la]
    simp only [so_ok, tgN, thn_nx]
    exact d1
  refine ⟨_, some (.o j), eB, ⟨?_, ?_, ?_, r.ab, r.la, r.lb, r.lc, r.nd, r.lk⟩, ⟨?_, ?_, ?_, ?_⟩⟩
  · rw [put_ne _ _ (Ne.symm l2)]
    have : namesT ((t, c ++ [n]) :: T') = namesT ((t, c) :: T') := by simp [namesT]
    rw [this]
    exact r.ha
  · rw [put_ne _ _ (Ne.symm l3)]; exact r.hb
  · refine .cons ?_ (hc_mono (fun k hk => ?_) ht)
    · rw [put_objs]; simp [txts]
    · have : k ≠ j := fun z => (List.nodup_cons.mp r.nd).1 (by rw [← z]; exact hk)
      rw [put_ne _ _ this]
  · exact ok.n5
  · intro x hx
    rcases List.mem_cons.mp hx with e | e
    · subst e; exact ok.w1 (t, c) (by simp)
    · exact ok.w1 x (by simp [e])
  · intro x hx
    rcases List.mem_cons.mp hx with e | e
    · subst e; simp only [List.length_append, List.length_cons, List.length_nil]; omega
    · exact ok.c6 x (by simp [e])
  · intro x hx
    rcases List.mem_cons.mp hx with e | e
    · subst e
      intro y hy
      rcases List.mem_append.mp hy with e | e
      · exact ok.cw (t, c) (by simp) y e
      · rw [List.mem_singleton.mp e]; exact hn
    · exact ok.cw x (by simp [e])
end
end EL
namespace EL
open PySem L2
open PyProof.Rows (envOfC)
open DL
section
variable {x0 x1 x2 x8 : Option AV} {known : List Str} {ws : List Str} {a b : Nat} {i : Int} {h : AHp} {T : Tw} {ids : List Nat}
theorem ifS_t {c : EvT} {s u : EvS} {env : Env} {h h1 : AHp} (e : c env h = .ok true h1) : evIfS c s u env h = s env h1 := by unfold evIfS; rw [e]; rfl
theorem ifS_f {c : EvT} {s u : EvS} {env : Env} {h h1 : AHp} (e : c env h = .ok false h1) : evIfS c s u env h = u env h1 := by unfold evIfS; rw [e]; rfl
theorem stepT_tab (h0 : ws[0]? = some ("table" : Str)) : stepT known T ws = if tabA T ws = true then some ((ws.getD 1 "", []) :: T) else none := by
  unfold stepT
  rw [if_pos h0]
  by_cases h2 : ws.length = 2
  · match ws, h2 with
    | [z, n], _ =>
      simp only [tabA, Bool.and_eq_true, Bool.not_eq_true', decide_eq_false_iff_not]
      rfl
  · rw [tabA_len h2, if_neg (by simp)]
    match ws, h2 with
    | [], _ => rfl
    | [_], _ => rfl
    | [_, _], h => exact absurd rfl h
    | _ :: _ :: _ :: _, _ => rfl
theorem stepT_nil (h0 : ¬ ws[0]? = some ("table" : Str)) : stepT known [] ws = none := by unfold stepT; rw [if_neg h0]
theorem stepT_col {t : Str} {c : List Str} {r : Tw} (h0 : ¬ ws[0]? = some ("table" : Str)) : stepT known ((t, c) :: r) ws = if isColT known c ws = true then some ((t, c ++ [ws.getD 1 ""]) :: r) else none := by unfold stepT; rw [if_neg h0]
theorem tabA_is (h : tabA T ws = true) : ∃ z n, ws = [z, n] ∧ isWord n = true ∧ T.length ≠ 5 := by
  match ws, h with
  | [z, n], h =>
    have h' : (isWord n && (!decide (n ∈ T.map (·.1)) && !decide (T.length = 5))) = true := h
    simp only [Bool.and_eq_true, Bool.not_eq_true', decide_eq_false_iff_not] at h'
    exact ⟨z, n, rfl, h'.1, h'.2.2⟩
theorem isColT_is {known c : List Str} (h : isColT known c ws = true) : ∃ z n q, ws = z :: n :: q ∧ isWord n = true ∧ c.length ≠ 6 ∧ n ∉ c ∧ isCol known ws = true := by
  unfold isColT at h
  simp only [Bool.and_eq_true, Bool.not_eq_true', decide_eq_false_iff_not] at h
  obtain ⟨h1, h2, h3⟩ := h
  match ws, h1 with
  | z :: n :: q, h1 =>
    refine ⟨z, n, q, rfl, ?_, h3, h2, h1⟩
    have h1' : (isWord n && !decide (n ∈ ([("key" : Str), "self", "table"] : List Str)) && (if z = "link" then colLink known q else colPlain z q)) = true := h1
    simp only [Bool.and_eq_true] at h1'
    exact h1'.1.1
theorem body_ok (r : HR h a b T ids) (ok : okTw T) (hs : small ws) (hne : ws ≠ []) :
    (stepT known T ws = none ∧ ∃ h', bodyE (envE x0 x1 x2 x8 known ws a b i) h = .rt (.d (rdD (i, T))) h' ∧ h'.lk = false) ∨
    ∃ T' h' y8 ids', stepT known T ws = some T' ∧ bodyE (envE x0 x1 x2 x8 known ws a b i) h = .nx (envE x0 x1 x2 y8 known ws a b i) h' ∧ HR h' a b T' ids' ∧ okTw T' := by
  obtain ⟨z, q, e⟩ : ∃ z q, ws = z :: q := by
    match ws, hne with
    | z :: q, _ => exact ⟨z, q, rfl⟩
  have ret := ret_T (i := i) r (env := envE x0 x1 x2 x8 known ws a b i) (e7 := evVar 7) rfl rfl rfl
  have t0 : evTst (evOp fEQ w0e (evC (.str "table"))) (envE x0 x1 x2 x8 known ws a b i) h = .ok (decide (z = "table")) h := by
    rw [e]
    exact tst_ok (op_ok w0_ok c_ok (eq_s _ _ _))
  unfold bodyE
  by_cases hz : z = "table"
  · have h0 : ws[0]? = some ("table" : Str) := by rw [e, hz]; rfl
    rw [decide_eq_true hz] at t0
    rw [ifS_t t0, stepT_tab h0]
    have cA := condA_ok (x0 := x0) (x1 := x1) (x2 := x2) (x8 := x8) (known := known) (i := i) r hs
    cases ht : tabA T ws with
    | false =>
      rw [ht] at cA
      obtain ⟨h', e1, e2⟩ := ret
      refine .inl ⟨rfl, h', ?_, e2⟩
      unfold evSeq
      rw [ifS_t cA]
      have e1' : retE (envE x0 x1 x2 x8 known ws a b i) h = _ := e1
      rw [e1']
      rfl
    | true =>
      rw [ht] at cA
      obtain ⟨z', n, ew, hn, h5⟩ := tabA_is ht
      have n5 := ok.n5
      rw [ew] at cA ⊢
      obtain ⟨h', ids', e1, r1, o1⟩ := appA_ok (x0 := x0) (x1 := x1) (x2 := x2) (x8 := x8) (known := known) (i := i) (z := z') (q := []) r ok (by omega) hn
      refine .inr ⟨(n, []) :: T, h', x8, ids', rfl, ?_, r1, o1⟩
      show (evIfS condA retE evNext (envE x0 x1 x2 x8 known [z', n] a b i) h).thn appA = _
      rw [ifS_f cA]
      exact e1
  · have h0 : ¬ ws[0]? = some ("table" : Str) := by rw [e]; simpa using hz
    rw [decide_eq_false hz] at t0
    rw [ifS_f t0]
    cases T with
    | nil =>
      rw [stepT_nil h0]
      have cB := condB_nil (x0 := x0) (x1 := x1) (x2 := x2) (x8 := x8) (known := known) (ws := ws) (i := i) r
      obtain ⟨h', e1, e2⟩ := ret
      refine .inl ⟨rfl, h', ?_, e2⟩
      unfold evSeq
      rw [ifS_t cB]
      have e1' : retE (envE x0 x1 x2 x8 known ws a b i) h = _ := e1
      rw [e1']
      rfl
    | cons x T' =>
      obtain ⟨t, c⟩ := x
      have cB := condB_ok (x0 := x0) (x1 := x1) (x2 := x2) (x8 := x8) (known := known) (i := i) r ok hs
      rw [stepT_col h0]
      cases hc : isColT known c ws with
      | false =>
        rw [hc] at cB
        obtain ⟨h', e1, e2⟩ := ret
        refine .inl ⟨rfl, h', ?_, e2⟩
        unfold evSeq
        rw [ifS_t cB]
        have e1' : retE (envE x0 x1 x2 x8 known ws a b i) h = _ := e1
        rw [e1']
        rfl
      | true =>
        rw [hc] at cB
        obtain ⟨z', n, q', ew, hn, h6, _, _⟩ := isColT_is hc
        have c6 := ok.c6 (t, c) (by simp)
        rw [ew] at cB ⊢
        obtain ⟨h', y8, e1, r1, o1⟩ := appB_ok (x0 := x0) (x1 := x1) (x2 := x2) (x8 := x8) (known := known) (i := i) (z := z') (n := n) (q := q') r ok (by have : c.length ≤ 6 := c6; omega) hn
        refine .inr ⟨(t, c ++ [n]) :: T', h', y8, ids, rfl, ?_, r1, o1⟩
        show (evIfS condB retE evNext (envE x0 x1 x2 x8 known (z' :: n :: q') a b i) h).thn appB = _
        rw [ifS_f cB]
        exact e1
/-- what the loop walks -/
def its : Nat → List (List Str) → List AV
  | _, [] => []
  | i, ws :: r => pairD (.int (i : Nat)) (.lst (txts ws)) :: its (i + 1) r
theorem its_is : ∀ (L : List (List Str)) (k : Nat), its k L = (List.range L.length).map fun i => pairD (.int ((k + i : Nat))) ((L.map fun ws => Da.lst (txts ws)).getD i .non)
  | [], k => rfl
  | ws :: r, k => by
    rw [List.length_cons, List.range_succ_eq_map, List.map_cons, List.map_map]
    show pairD _ _ :: its (k + 1) r = _
    rw [its_is r (k + 1)]
    congr 1
    apply List.map_congr_left
    intro j _
    show pairD (.int ((k + 1 + j : Nat))) _ = pairD (.int ((k + (j + 1) : Nat))) _
    have : k + 1 + j = k + (j + 1) := by omega
    rw [this]
    rfl
abbrev tgE : EvG := tgTup 2 (tgCons (tgN 7) (tgCons (tgN 4) tgNil))
theorem tg_ok {y4 y7 : Option AV} {k : Nat} : tgE (pairD (.int (k : Nat)) (.lst (txts ws))) [x0, x1, x2, some (.d (.lst (txts known))), y4, some (.o a), some (.o b), y7, x8] h = .ok (envE x0 x1 x2 x8 known ws a b (k : Nat)) h := rfl
theorem loop_ok : ∀ (L : List (List Str)), (∀ ws ∈ L, small ws ∧ ws ≠ []) → ∀ (k : Nat) (T : Tw) (ids : List Nat) (h : AHp) (y4 y7 y8 : Option AV), HR h a b T ids → okTw T →
    (0 ≤ (rdT known k L T).1 ∧ ∃ h', evLoop tgE bodyE (its k L) [x0, x1, x2, some (.d (.lst (txts known))), y4, some (.o a), some (.o b), y7, y8] h = .rt (.d (rdD (rdT known k L T))) h' ∧ h'.lk = false) ∨
    ((rdT known k L T).1 = -1 ∧ ∃ z4 z7 z8 h' ids', evLoop tgE bodyE (its k L) [x0, x1, x2, some (.d (.lst (txts known))), y4, some (.o a), some (.o b), y7, y8] h = .nx [x0, x1, x2, some (.d (.lst (txts known))), z4, some (.o a), some (.o b), z7, z8] h' ∧ HR h' a b (rdT known k L T).2 ids' ∧ okTw (rdT known k L T).2)
  | [], _, k, T, ids, h, y4, y7, y8, r, ok => .inr ⟨rfl, y4, y7, y8, h, ids, rfl, r, ok⟩
  | ws :: L, hL, k, T, ids, h, y4, y7, y8, r, ok => by
    obtain ⟨hs, hne⟩ := hL ws (by simp)
    have hgo : evLoop tgE bodyE (its k (ws :: L)) [x0, x1, x2, some (.d (.lst (txts known))), y4, some (.o a), some (.o b), y7, y8] h = match bodyE (envE x0 x1 x2 y8 known ws a b (k : Nat)) h with
      | .nx env2 h2 => evLoop tgE bodyE (its (k + 1) L) env2 h2
      | .ct env2 h2 => evLoop tgE bodyE (its (k + 1) L) env2 h2
      | .bk env2 h2 => .nx env2 h2
      | .rt v h2 => .rt v h2
      | .ex C fs env2 h2 => .ex C fs env2 h2
      | .bad => .bad := by
      show evLoop tgE bodyE (pairD _ _ :: its (k + 1) L) _ h = _
      rw [evLoop, tg_ok]
      rfl
    rw [hgo]
    rcases body_ok (x0 := x0) (x1 := x1) (x2 := x2) (x8 := y8) (known := known) (i := (k : Nat)) r ok hs hne with ⟨e, h', e1, e2⟩ | ⟨T', h', z8, ids', e, e1, r1, o1⟩
    · have er : rdT known k (ws :: L) T = (((k : Nat) : Int), T) := by show (match stepT known T ws with | some T' => rdT known (k + 1) L T' | none => ((k : Int), T)) = _; rw [e]
      rw [er, e1]
      exact .inl ⟨Int.natCast_nonneg k, h', rfl, e2⟩
    · have er : rdT known k (ws :: L) T = rdT known (k + 1) L T' := by show (match stepT known T ws with | some T' => rdT known (k + 1) L T' | none => ((k : Int), T)) = _; rw [e]
      rw [er, e1]
      exact loop_ok L (fun ws hw => hL ws (by simp [hw])) (k + 1) T' ids' h' _ _ _ r1 o1
end
theorem spl_ne (s : Nat) : ∀ (l acc : List Nat), TL.spl [s] 0 acc l ≠ []
  | [], acc => by rw [TL.spl_nil]; simp
  | c :: r, acc => by
    cases h : TL.pre [s] (c :: r) with
    | true => rw [TL.spl_hit h]; simp
    | false => rw [TL.spl_miss h]; exact spl_ne s r _
theorem wordsOf_ne (z : Str) : DL.wordsOf z ≠ [] := fun e => by
  have := words_spl z
  rw [e] at this
  exact spl_ne 32 _ _ this.symm
theorem reading_ok {l : List Str} (hf : fine l) : ∃ h', ev__law_reading [.d (.lst (txts l))] ⟨0, fun _ => .gone, false⟩ = .ok (.d (rdD (rdT (wrote l) 0 (l.map DL.wordsOf) []))) h' ∧ h'.lk = false := by
  have hl : ∀ x ∈ l, x.length ≤ 900000 := hf.2
  let h0 : AHp := ⟨0, fun _ => .gone, false⟩
  have s1 : evAsg (evLcM mkL (evIt datL (evVar 0)) [2] (tgN 2) evYes (evM1 (gS1 gSPLIT) (evVar 2) (evC (.str " ")))) (tgN 1) [some (.d (.lst (txts l))), none, none, none, none, none, none, none, none] h0 = .nx [some (.d (.lst (txts l))), some (.d (.lst (l.map lineD))), none, none, none, none, none, none, none] h0 := by
    unfold evAsg evLcM evIt
    have e1 : evVar 0 [some (AV.d (.lst (txts l))), none, none, none, none, none, none, none, none] h0 = .ok (.d (.lst (txts l))) h0 := rfl
    simp only [e1, bind_ok, datL_d, ofO_s]
    unfold evLcV
    have hn : ((txts l).map AV.d).length ≤ 100000 := by simp only [txts, List.length_map]; exact Nat.le_trans hf.1 (by decide)
    rw [if_pos hn]
    simp only [wipeE, List.set_cons_succ, List.set_cons_zero]
    rw [split_L hl]
    simp only [bind_ok, mkL_d, noex, so_ok, tgN, List.set_cons_succ, List.set_cons_zero]
  have s2 : evAsg (evLcM mkL (evIt datL (evVar 1)) [4] (tgN 4) cT2 w1e) (tgN 3) [some (.d (.lst (txts l))), some (.d (.lst (l.map lineD))), none, none, none, none, none, none, none] h0 = .nx [some (.d (.lst (txts l))), some (.d (.lst (l.map lineD))), none, some (.d (.lst (txts (wrote l)))), none, none, none, none, none] h0 := by
    unfold evAsg evLcM evIt
    have e1 : evVar 1 [some (AV.d (.lst (txts l))), some (.d (.lst (l.map lineD))), none, none, none, none, none, none, none] h0 = .ok (.d (.lst (l.map lineD))) h0 := rfl
    simp only [e1, bind_ok, datL_d, ofO_s]
    unfold evLcV
    have hn : ((l.map lineD).map AV.d).length ≤ 100000 := by simp only [List.length_map]; exact Nat.le_trans hf.1 (by decide)
    rw [if_pos hn]
    simp only [wipeE, List.set_cons_succ, List.set_cons_zero]
    have := known_L (x0 := some (AV.d (.lst (txts l)))) (x1 := some (.d (.lst (l.map lineD)))) (x2 := none) (x3 := none) (x4 := none) (x5 := none) (x6 := none) (x7 := none) (x8 := none) (h := h0) rfl hl
    unfold w1e
    rw [this]
    simp only [bind_ok, mkL_d, noex, so_ok, tgN, List.set_cons_succ, List.set_cons_zero]
  have s3 : evPar 5 6 (evCons (evLstO evNil) (evCons (evLstO evNil) evNil)) [some (.d (.lst (txts l))), some (.d (.lst (l.map lineD))), none, some (.d (.lst (txts (wrote l)))), none, none, none, none, none] h0 = .nx [some (.d (.lst (txts l))), some (.d (.lst (l.map lineD))), none, some (.d (.lst (txts (wrote l)))), none, some (.o 0), some (.o 1), none, none] (alloc (alloc h0 (.ml [])) (.ml [])) := rfl
  have hr : HR (alloc (alloc h0 (.ml [])) (.ml [])) 0 1 [] [] := ⟨rfl, rfl, .nil, by decide, by decide, by decide, (fun j hj => nomatch hj), List.nodup_nil, rfl⟩
  have ok : okTw [] := ⟨by decide, (fun x hx => nomatch hx), (fun x hx => nomatch hx), (fun x hx => nomatch hx)⟩
  have hi : (evItA asE (evCons (evVar 1) evNil)) [some (.d (.lst (txts l))), some (.d (.lst (l.map lineD))), none, some (.d (.lst (txts (wrote l)))), none, some (.o 0), some (.o 1), none, none] (alloc (alloc h0 (.ml [])) (.ml [])) = .ok (its 0 (l.map DL.wordsOf)) (alloc (alloc h0 (.ml [])) (.ml [])) := by
    rw [its_is]
    unfold evItA evCons evNil
    have e1 : evVar 1 [some (AV.d (.lst (txts l))), some (.d (.lst (l.map lineD))), none, some (.d (.lst (txts (wrote l)))), none, some (.o 0), some (.o 1), none, none] (alloc (alloc h0 (.ml [])) (.ml [])) = .ok (.d (.lst (l.map lineD))) (alloc (alloc h0 (.ml [])) (.ml [])) := rfl
    simp only [e1, bind_ok, asE, ofO_s, List.length_map, List.map_map, Nat.zero_add]
    rfl
  have s4 := loop_ok (x0 := some (AV.d (.lst (txts l)))) (x1 := some (.d (.lst (l.map lineD)))) (x2 := none) (known := wrote l) (l.map DL.wordsOf) (fun ws hw => by
    obtain ⟨z, hz, rfl⟩ := List.mem_map.mp hw
    exact ⟨words_small (hl z hz), wordsOf_ne z⟩) 0 [] [] (alloc (alloc h0 (.ml [])) (.ml [])) none none none hr ok
  have hb : bd__law_reading [some (.d (.lst (txts l))), none, none, none, none, none, none, none, none] h0 = (evLoop tgE bodyE (its 0 (l.map DL.wordsOf)) [some (.d (.lst (txts l))), some (.d (.lst (l.map lineD))), none, some (.d (.lst (txts (wrote l)))), none, some (.o 0), some (.o 1), none, none] (alloc (alloc h0 (.ml [])) (.ml []))).thn (evRet (evZ (evTup (evCons (evUn fNEG (evC (.int 1))) (evCons (evVar 5) (evCons (evVar 6) evNil)))))) := by
    rw [bd_is]
    rw [evSeq, s1]
    simp only [thn_nx]
    rw [evSeq, s2]
    simp only [thn_nx]
    rw [evSeq, s3]
    simp only [thn_nx]
    rw [evSeq, evFor, hi]
    rfl
  have he : ev__law_reading [.d (.lst (txts l))] h0 = match bd__law_reading [some (.d (.lst (txts l))), none, none, none, none, none, none, none, none] h0 with
    | .nx _ h' => .ok (.d .non) h'
    | .rt v h' => .ok v h'
    | .ex C fs _ h' => .ex C fs h'
    | _ => .bad := rfl
  show ∃ h', ev__law_reading [.d (.lst (txts l))] h0 = _ ∧ _
  rw [he, hb]
  rcases s4 with ⟨_, h', e1, e2⟩ | ⟨en, z4, z7, z8, h', ids', e1, r1, o1⟩
  · rw [e1]
    exact ⟨h', rfl, e2⟩
  · rw [e1]
    obtain ⟨h2, e2, e3⟩ := ret_T (i := -1) r1 (env := [some (.d (.lst (txts l))), some (.d (.lst (l.map lineD))), none, some (.d (.lst (txts (wrote l)))), z4, some (.o 0), some (.o 1), z7, z8]) (e7 := evUn fNEG (evC (.int 1))) rfl rfl rfl
    simp only [thn_nx]
    rw [e2]
    refine ⟨h2, ?_, e3⟩
    have : rdT (wrote l) 0 (l.map DL.wordsOf) [] = (-1, (rdT (wrote l) 0 (l.map DL.wordsOf) []).2) := by rw [← en]
    rw [this]
end EL
namespace DL
open PySem L2
open PyProof.Rows (envOfC)
/-- a side condition -/
local macro_rules | `(tactic| walk_at "side") => `(tactic| first | rfl | assumption | omega | decide | (simp only [Str.length]; omega))
/-- one step of a reading -/
local macro_rules | `(tactic| walk_at "dl1") => `(tactic| with_reducible first
  | refine rs_seq ?_
  | refine rs_set ?_
  | refine rs_ret ?_
  | refine rs_retN ?_
  | refine rs_next ?_
  | refine rs_if ?_
  | refine rs_par ?_
  | refine rs_par3 ?_
  | refine rd_int ?_
  | refine rd_str ?_
  | refine rd_bl ?_
  | refine rd_non ?_
  | refine rd_ty ?_
  | refine rd_cls ?_
  | refine rd_op ?_
  | refine rd_cb ?_
  | refine rd_if ?_
  | refine rd_neg ?_
  | refine rd_chain ?_
  | refine rd_andV ?_
  | refine rd_orV ?_
  | refine rd_notV ?_
  | refine ra_cons ?_
  | refine ra_nil ?_
  | refine rt_test ?_
  | refine rt_yes ?_
  | refine rt_b ?_
  | refine rt_and ?_
  | refine rt_or ?_
  | refine rt_not ?_
  | refine rg_name ?_
  | refine rgs_nil ?_
  | refine rgs_cons ?_
  | refine call_a ?_
  | refine call_p ?_
  | refine call_n ?_
  | refine tup_d ?_
  | refine mk_x rfl (Nat.le_of_ble_eq_true rfl) ?_
  | refine rd_mk0 ?_
  | refine meth_a ?_
  | refine make_a ?_
  | refine rd_join ?_
  | refine rd_split ?_
  | refine add_i ?_
  | refine sub_i ?_
  | refine mod_i (by walk_at "side") ?_
  | refine lt_i ?_
  | refine le_i ?_
  | refine gt_i ?_
  | refine ge_i ?_
  | refine eq_i ?_
  | refine ne_i ?_
  | refine eq_s ?_
  | refine ne_s ?_
  | refine eq_sn ?_
  | refine eq_ns ?_
  | refine eq_nn ?_
  | refine ne_sn ?_
  | refine ne_ns ?_
  | refine ne_nn ?_
  | refine eq_b ?_
  | refine ne_b ?_
  | refine is_n ?_
  | refine not_n ?_
  | refine in_dct ?_
  | refine nin_dct ?_
  | refine int_i ?_
  | refine abs_i ?_
  | refine max_i ?_
  | refine min_i ?_
  | refine len_t ?_
  | refine len_d ?_
  | refine len_scr ?_
  | refine len_l (IsL.dat _) ?_
  | refine str_s ?_)
/-- names, by their slots -/
local macro_rules | `(tactic| walk_at "dlv") => `(tactic| first
  | refine rd_varD (i := _) rfl ?_
  | refine rd_varO (i := _) rfl ?_)
/-- at the entry: the slots written out -/
local macro_rules | `(tactic| walk_at "dl0") => `(tactic| (dsimp only [cxOf, Cx.nox, Cx.wish]; simp only [startD, dats, List.map_cons, List.map_nil, List.cons_append, List.nil_append, List.length_cons, List.length_nil, Nat.reduceAdd, Nat.reduceSub, List.replicate_succ, List.replicate_zero, List.replicate]))
/-- what a rule asks besides, where it is plain -/
local macro_rules | `(tactic| walk_at "dlx") => `(tactic| first
  | refine ⟨(fun (hz : false = true) => nomatch hz), fun _ => ?_⟩
  | refine ⟨fun _ => ?_, fun (hz : true = false) => nomatch hz⟩
  | refine ⟨Nat.le_of_ble_eq_true rfl, ?_⟩
  | (with_reducible refine ⟨_, rfl, ?_⟩)
  | refine ⟨_, rfl, rfl, ?_⟩
  | refine ⟨_, rfl, Nat.le_of_ble_eq_true rfl, ?_⟩
  | (with_reducible refine ⟨_, _, rfl, ?_⟩)
  | (with_reducible refine ⟨_, _, _, rfl, ?_⟩)
  | refine ⟨_, _, _, 0, _, _, rfl, rfl, rfl, rfl, ?_⟩
  | refine ⟨_, _, _, 1, _, _, rfl, rfl, rfl, rfl, ?_⟩
  | refine ⟨_, _, _, 2, _, _, rfl, rfl, rfl, rfl, ?_⟩
  | refine ⟨_, _, _, 3, _, _, rfl, rfl, rfl, rfl, ?_⟩)
/-- as far as it goes by itself -/
local macro_rules | `(tactic| walk_at "dl") => `(tactic| (repeat (first | walk_at "dl1" | walk_at "dlv" | walk_at "dlx"); try dsimp only [wipeD, List.set_cons_zero, List.set_cons_succ]))
local macro_rules | `(tactic| walk_at "dlk") => `(tactic| (repeat (first | walk_at "dl1" | walk_at "dlv" | (with_reducible refine lst_d ?_) | (with_reducible refine rd_fldx ?_) | (refine add_l (IsL.dat _) (IsL.dat _) (Nat.le_of_ble_eq_true rfl) ?_) | (refine ⟨_, _, _, rfl, by assumption, by assumption, rfl, ?_⟩) | (refine ⟨rfl, rfl, _, rfl, by assumption, ?_⟩) | (refine ⟨rfl, rfl, _, _, rfl, by assumption, by assumption, ?_⟩) | (refine ⟨rfl, rfl, _, _, _, rfl, by assumption, by assumption, by assumption, ?_⟩) | (refine ⟨_, rfl, rfl, rfl, _, rfl, by assumption, ?_⟩) | (refine ⟨_, rfl, rfl, rfl, _, _, rfl, by assumption, by assumption, ?_⟩) | (refine ⟨_, rfl, rfl, rfl, _, _, _, rfl, by assumption, by assumption, by assumption, ?_⟩) | (refine ⟨(rfl : List.length _ = _), ?_⟩) | walk_at "dlx"); try dsimp only [wipeD, List.set_cons_zero, List.set_cons_succ]))

/-! ### texts and lines -/
theorem tl_app (a b : Str) : TL.tl (a ++ b) = TL.tl a ++ TL.tl b := by
  show (a.cps ++ b.cps).toList = _
  simp [TL.tl]
theorem tl_inj {a b : Str} (h : TL.tl a = TL.tl b) : a = b := by
  cases a with | mk x => cases b with | mk y =>
  have : x = y := by
    have h2 : x.toList = y.toList := h
    exact Array.toList_inj.mp h2
  rw [this]
theorem let_no {c : Nat} (h : isLet c = true) : c ≠ 32 ∧ c ≠ 10 := by
  have h2 : c ∈ ("abcdefghijklmnopqrstuvwxyz" : Str).cps.toList := of_decide_eq_true h
  exact (by decide +kernel : ∀ c ∈ ("abcdefghijklmnopqrstuvwxyz" : Str).cps.toList, c ≠ 32 ∧ c ≠ 10) c h2
theorem word_no {z : Str} (h : isWord z = true) : 32 ∉ TL.tl z ∧ 10 ∉ TL.tl z := by
  have h2 := (Bool.and_eq_true_iff.mp h).2
  have h3 := List.all_eq_true.mp h2
  exact ⟨fun q => (let_no (h3 32 q)).1 rfl, fun q => (let_no (h3 10 q)).2 rfl⟩
theorem words_join {parts : List Str} (hne : parts ≠ []) (h : ∀ p ∈ parts, 32 ∉ TL.tl p) : wordsOf (Txt.join ((" " : Str)) parts) = parts :=
  TL.split_join (y := " ") (s := 32) (S := []) rfl (by decide +kernel) hne h
theorem lines_join {parts : List Str} (hne : parts ≠ []) (h : ∀ p ∈ parts, 10 ∉ TL.tl p) : linesOf (Txt.join (("\n" : Str)) parts) = parts :=
  TL.split_join (y := "\n") (s := 10) (S := []) rfl (by decide +kernel) hne h
theorem join2 (a b : Str) : (a ++ (" " : Str)) ++ b = Txt.join ((" " : Str)) [a, b] := by
  refine tl_inj ?_
  rw [TL.join_eq, TL.tl_join, tl_app, tl_app]
  show (TL.tl a ++ [32]) ++ TL.tl b = TL.tl a ++ ([32] ++ TL.tl b)
  simp
theorem join4 (a b c d : Str) : ((a ++ (" " : Str)) ++ b) ++ ((((" " : Str) ++ c) ++ (" " : Str)) ++ d) = Txt.join ((" " : Str)) [a, b, c, d] := by
  refine tl_inj ?_
  rw [TL.join_eq, TL.tl_join]
  simp only [tl_app]
  show ((TL.tl a ++ [32]) ++ TL.tl b) ++ (([32] ++ TL.tl c) ++ [32] ++ TL.tl d) = TL.tl a ++ ([32] ++ (TL.tl b ++ ([32] ++ (TL.tl c ++ ([32] ++ TL.tl d)))))
  simp
def wordsC (c : Col) : List Str := c.2.1 :: c.1 :: (match c.2.2 with | some (t, r) => [t, r] | none => [])
theorem goodCol_words {names : List Str} {c : Col} (h : goodCol names c) (hw : ∀ z ∈ names, isWord z = true) : (∀ p ∈ wordsC c, 32 ∉ TL.tl p ∧ 10 ∉ TL.tl p) := by
  obtain ⟨h1, h2, h3⟩ := h
  intro p hp
  unfold wordsC at hp
  rcases List.mem_cons.mp hp with u | hp
  · rcases h3 with ⟨e, _⟩ | ⟨e | e, _⟩ <;> rw [u, e] <;> decide +kernel
  rcases List.mem_cons.mp hp with u | hp
  · rw [u]; exact word_no h1
  rcases h3 with ⟨e, t, r, h4, h5, h6⟩ | ⟨e, h4⟩
  · rw [h4] at hp
    rcases List.mem_cons.mp hp with u | hp
    · rw [u]; exact word_no (hw t h5)
    rcases List.mem_cons.mp hp with u | hp
    · rw [u]
      rcases List.mem_cons.mp h6 with v | v
      · rw [v]; decide +kernel
      rcases List.mem_cons.mp v with v | v
      · rw [v]; decide +kernel
      rcases List.mem_cons.mp v with v | v
      · rw [v]; decide +kernel
      · cases v
    · cases hp
  · rw [h4] at hp; cases hp
theorem lineC_join (c : Col) : lineC c = Txt.join ((" " : Str)) (wordsC c) := by
  obtain ⟨n, k, l⟩ := c
  cases l with
  | none =>
    show ((k ++ (" " : Str)) ++ n) ++ ("" : Str) = _
    rw [str_app_nil]
    exact join2 k n
  | some tr =>
    obtain ⟨t, r⟩ := tr
    exact join4 k n t r
theorem lineX_small {k m : Nat} {tb : Tb} (h : goodT k m tb) {z : Str} (hz : z ∈ linesT tb) : z.length ≤ 40 := by
  obtain ⟨x, hx, hz⟩ := List.mem_flatMap.mp hz
  have hw := good_words h
  have g := h.xs x hx
  rcases List.mem_cons.mp hz with u | u
  · rw [u, strLen_append]
    have := (isWord_len g.w).2
    show 6 + x.1.length ≤ 40
    omega
  · obtain ⟨c, hc, rfl⟩ := List.mem_map.mp u
    obtain ⟨g1, g2, g3⟩ := goodCol_len (g.cs c hc) hw
    unfold lineC
    rw [strLen_append, strLen_append, strLen_append]
    rcases g3 with ⟨e, t, r, e2, l1, l2⟩ | ⟨e, e2⟩
    · rw [e2]
      simp only
      rw [strLen_append, strLen_append, strLen_append]
      show c.2.1.length + 1 + c.1.length + (1 + t.length + 1 + r.length) ≤ 40
      omega
    · rw [e2]
      show c.2.1.length + 1 + c.1.length + 0 ≤ 40
      omega
theorem sum_small {b : Nat} : ∀ {l : List Str}, (∀ z ∈ l, z.length ≤ b) → (l.map (·.length)).sum ≤ b * l.length
  | [], _ => Nat.zero_le _
  | z :: r, h => by
    have h1 := sum_small (l := r) fun y hy => h y (List.mem_cons_of_mem _ hy)
    have h2 := h z List.mem_cons_self
    simp only [List.map_cons, List.sum_cons, List.length_cons]
    rw [Nat.mul_add]
    omega
theorem linesT_no {k m : Nat} {tb : Tb} (h : goodT k m tb) : ∀ p ∈ linesT tb, 10 ∉ TL.tl p := fun p hp => by
  have hw := good_words h
  obtain ⟨x, hx, hz⟩ := List.mem_flatMap.mp hp
  have g := h.xs x hx
  rcases List.mem_cons.mp hz with u | u
  · rw [u, tl_app]
    intro q
    rcases List.mem_append.mp q with v | v
    · exact absurd v (by decide +kernel)
    · exact (word_no g.w).2 v
  · obtain ⟨c, hc, rfl⟩ := List.mem_map.mp u
    rw [lineC_join, TL.join_eq, TL.tl_join]
    have hwd := goodCol_words (g.cs c hc) hw
    have key : ∀ {ps : List (List Nat)}, (∀ p ∈ ps, 10 ∉ p) → 10 ∉ TL.joinL [32] ps := by
      intro ps
      induction ps with
      | nil => intro _ q; cases q
      | cons p r ih =>
        intro hp q
        cases r with
        | nil => exact hp p List.mem_cons_self q
        | cons p2 r2 =>
          have q' : 10 ∈ p ++ ([32] ++ TL.joinL [32] (p2 :: r2)) := q
          rcases List.mem_append.mp q' with v | v
          · exact hp p List.mem_cons_self v
          rcases List.mem_append.mp v with v | v
          · simp at v
          · exact ih (fun y hy => hp y (List.mem_cons_of_mem _ hy)) v
    exact key fun p hp => by
      obtain ⟨z, hz, rfl⟩ := List.mem_map.mp hp
      exact (hwd z hz).2
theorem linesT_ne {k m : Nat} {tb : Tb} (h : goodT k m tb) : linesT tb ≠ [] := fun e => by
  have h1 := h.one
  match tb, h1, e with
  | x :: r, _, e => simp [linesT, lineX] at e
/-- lines: some, without line feeds, W in all -/
def wide (l : List Str) : Nat := (l.map (·.length)).sum + l.length
structure nice (W : Nat) (l : List Str) : Prop where
  ne : l ≠ []
  no : ∀ p ∈ l, 10 ∉ TL.tl p
  wd : wide l ≤ W
theorem joinL_len (ps : List Str) : (TL.joinL [10] (ps.map TL.tl)).length ≤ wide ps := by
  induction ps with
  | nil => exact Nat.zero_le _
  | cons p r ih =>
    have ep : (TL.tl p).length = p.length := by simp [TL.tl, Str.length]
    cases r with
    | nil =>
      show (TL.tl p).length ≤ _
      unfold wide
      simp only [List.map_cons, List.map_nil, List.sum_cons, List.sum_nil, List.length_cons, List.length_nil]
      omega
    | cons p2 r2 =>
      show (TL.tl p ++ ([10] ++ TL.joinL [10] ((p2 :: r2).map TL.tl))).length ≤ _
      unfold wide at ih ⊢
      simp only [List.length_append, List.map_cons, List.sum_cons, List.length_cons, List.length_nil] at ih ⊢
      omega
theorem join_len (ps : List Str) : (Txt.join (("\n" : Str)) ps).length ≤ wide ps := by
  have e : (Txt.join (("\n" : Str)) ps).length = (TL.tl (Txt.join (("\n" : Str)) ps)).length := by simp [TL.tl, Str.length]
  rw [e, show Txt.join (("\n" : Str)) ps = Str.join ((("\n" : Str))) ps from TL.join_eq _ _, TL.tl_join]
  exact joinL_len ps
theorem wide_mem {l : List Str} {z : Str} (h : z ∈ l) : z.length + 1 ≤ wide l := by
  unfold wide
  induction l with
  | nil => cases h
  | cons a r ih =>
    simp only [List.map_cons, List.sum_cons, List.length_cons]
    rcases List.mem_cons.mp h with e | e
    · subst e; omega
    · have := ih e; omega
theorem wide_app (a b : List Str) : wide (a ++ b) = wide a + wide b := by
  unfold wide
  rw [List.map_append, List.sum_append, List.length_append]
  omega
theorem wide_cons (a : Str) (b : List Str) : wide (a :: b) = a.length + 1 + wide b := by
  unfold wide
  simp only [List.map_cons, List.sum_cons, List.length_cons]
  omega
theorem wide_nil : wide [] = 0 := rfl
theorem wide_take (l : List Str) (n : Nat) : wide (l.take n) + wide (l.drop n) = wide l := by
  rw [← wide_app, List.take_append_drop]
theorem nice.len {W : Nat} {l : List Str} (h : nice W l) : l.length ≤ W := Nat.le_trans (by unfold wide; omega) h.wd
theorem nice.fine {W : Nat} {l : List Str} (h : nice W l) (hW : W ≤ 90000) : fine l := ⟨Nat.le_trans h.len hW, fun x hx => by have := wide_mem hx; have := h.wd; omega⟩
theorem nice.lines {W : Nat} {l : List Str} (h : nice W l) : linesOf (Txt.join (("\n" : Str)) l) = l := lines_join h.ne h.no
theorem spl_no (s : Nat) : ∀ (l acc : List Nat), s ∉ acc → ∀ p ∈ TL.spl [s] 0 acc l, s ∉ p
  | [], acc, h => by
    rw [TL.spl_nil]
    intro p hp
    have : p = acc := by simpa using hp
    rw [this]; exact h
  | c :: r, acc, h => by
    cases e : TL.pre [s] (c :: r) with
    | true =>
      rw [TL.spl_hit e]
      intro p hp
      rcases List.mem_cons.mp hp with z | z
      · rw [z]; exact h
      · exact spl_no s r [] (by simp) p z
    | false =>
      rw [TL.spl_miss e]
      have hc : s ≠ c := fun z => by
        subst z
        simp [TL.pre] at e
      exact spl_no s r (acc ++ [c]) (by simp [h, hc])
theorem spl_wide (s : Nat) : ∀ (l acc : List Nat), ((TL.spl [s] 0 acc l).map (·.length)).sum + (TL.spl [s] 0 acc l).length ≤ acc.length + l.length + 1
  | [], acc => by
    rw [TL.spl_nil]
    simp
  | c :: r, acc => by
    cases e : TL.pre [s] (c :: r) with
    | true =>
      rw [TL.spl_hit e]
      have := spl_wide s r []
      simp only [List.map_cons, List.sum_cons, List.length_cons, List.length_nil, Nat.zero_add, Nat.sub_self] at *
      omega
    | false =>
      rw [TL.spl_miss e]
      have := spl_wide s r (acc ++ [c])
      simp only [List.length_append, List.length_cons, List.length_nil] at *
      omega
theorem spl_ne (s : Nat) : ∀ (l acc : List Nat), TL.spl [s] 0 acc l ≠ []
  | [], acc => by rw [TL.spl_nil]; simp
  | c :: r, acc => by
    cases h : TL.pre [s] (c :: r) with
    | true => rw [TL.spl_hit h]; simp
    | false => rw [TL.spl_miss h]; exact spl_ne s r _
theorem lines_spl (z : Str) : (linesOf z).map TL.tl = TL.spl [10] 0 [] (TL.tl z) := TL.split_spl z "\n" (by decide) (TL.kind_ok (by decide +kernel))
theorem tl_len (z : Str) : (TL.tl z).length = z.length := by simp [TL.tl, Str.length]
theorem map_tl_len (l : List Str) : ((l.map TL.tl).map (·.length)) = l.map (·.length) := by
  rw [List.map_map]
  apply List.map_congr_left
  intro z _
  exact tl_len z
theorem lines_nice (z : Str) : nice (z.length + 1) (linesOf z) := by
  have hs := lines_spl z
  refine ⟨fun e => ?_, fun p hp => ?_, ?_⟩
  · rw [e] at hs
    exact spl_ne 10 _ _ hs.symm
  · exact spl_no 10 (TL.tl z) [] (by simp) (TL.tl p) (by rw [← hs]; exact List.mem_map_of_mem hp)
  · have h := spl_wide 10 (TL.tl z) []
    rw [← hs, map_tl_len, List.length_map, tl_len] at h
    unfold wide
    simp only [List.length_nil] at h
    omega
theorem linesT_nice {k m : Nat} {tb : Tb} (h : goodT k m tb) (hk : k ≤ 5) (hm : m ≤ 6) : nice 1500 (linesT tb) := by
  refine ⟨linesT_ne h, linesT_no h, ?_⟩
  have hsm := sum_small (b := 40) (l := linesT tb) fun z hz => lineX_small h hz
  have hll := linesT_len (tb := tb) fun x hx => Nat.le_trans (h.xs x hx).len hm
  have h5 := h.most
  unfold wide
  omega

/-! ### words put into lines -/
def okW (z : Str) : Prop := z.length ≤ 30 ∧ 10 ∉ TL.tl z
theorem okW_word {z : Str} (h : isWord z = true) : okW z := ⟨Nat.le_trans (isWord_len h).2 (by decide), (word_no h).2⟩
theorem okW_app {a b : Str} (ha : 10 ∉ TL.tl a) (hb : 10 ∉ TL.tl b) (hl : a.length + b.length ≤ 30) : okW (a ++ b) := by
  refine ⟨by rw [strLen_append]; exact hl, ?_⟩
  rw [tl_app]
  intro q
  rcases List.mem_append.mp q with u | u
  · exact ha u
  · exact hb u
theorem abc_low : ∀ c ∈ ("abcdefghijklmnopqrstuvwxyz" : Str).cps.toList, c < 128 ∧ PyProof.Rows.up1 c ≠ 10 := by decide +kernel
theorem upper_ok {z : Str} (h : isWord z = true) : okW (Txt.upper z) := by
  have h2 := (Bool.and_eq_true_iff.mp h).2
  have h3 := List.all_eq_true.mp h2
  have hz : z = SX.S z.cps.toList := by
    cases z with | mk a => simp [SX.S]
  have hall : z.cps.toList.all (· < 128) = true := List.all_eq_true.mpr fun c hc => decide_eq_true (abc_low c (of_decide_eq_true (h3 c hc))).1
  have e : Txt.upper z = SX.S (z.cps.toList.map PyProof.Rows.up1) := by
    rw [hz]
    have := SX.upper_S hall
    simpa [SX.S] using this
  rw [e]
  constructor
  · have : (SX.S (z.cps.toList.map PyProof.Rows.up1)).length = z.length := by simp [SX.S, Str.length]
    rw [this]
    exact Nat.le_trans (isWord_len h).2 (by decide)
  · intro hc
    have hc' : 10 ∈ z.cps.toList.map PyProof.Rows.up1 := by simpa [SX.S, TL.tl] using hc
    obtain ⟨d, hd, e⟩ := List.mem_map.mp hc'
    exact (abc_low d (of_decide_eq_true (h3 d hd))).2 e
def cOdd : CP := fun ds c R => ∃ ws : List Str, ds = [.lst (txts ws)] ∧ ws.length ≤ 90000 ∧ c < 2 ^ 45 ∧ ∀ z c', (z ∈ ws ∨ okW z) → c' ≤ c + 5 → R (.str z) c'
theorem ok_lit : okW "" ∧ okW "key" ∧ okW "self" ∧ okW "table" ∧ okW "value" ∧ okW "flag" ∧ okW "link" ∧ okW "refuse" ∧ okW "clear" ∧ okW "cascade" ∧ okW "restrict" ∧ okW "_" := by
  unfold okW
  decide +kernel
abbrev st__law_odd_word : Stmt := topR 34
abbrev N__law_odd_word : List Str := ["_law_pool_here", "_law_words", "_law_drawn", "_law_some"]
theorem sc__law_odd_word : FnScope N__law_odd_word ["_law_pool_here", "_law_words"] (defScope st__law_odd_word) := ⟨rfl, rfl, rfl, by decide +kernel, rfl, by decide +kernel, by decide +kernel⟩
abbrev sp__law_odd_word (K : PySem.W.Frag) : Sp := spP K 1 cOdd
theorem ok__law_odd_word {P : Program} {w : World} {K : PySem.W.Frag} {mg : Str → Option Value} {base : Heap} (d : DefAt K mg "_law_odd_word" st__law_odd_word ["_law_pool_here", "_law_words"]) (c__law_of : CalG P w K mg base CX0 2 "_law_of" (sp__law_of K)) (c__law_word : CalG P w K mg base CX0 2 "_law_word" (sp__law_word K)) : CalG P w K mg base CX0 3 "_law_odd_word" (sp__law_odd_word K) := by
  refine DefAt.cal d fun {f fd} F => fn_P (n := 1) F sc__law_odd_word rfl fun cdv A outer s H E hr => ?_
  have hu := hr.r.units
  have hv := hr.u65
  refine ⟨_, (pss_cons (ps_set (i := 2) sc__law_odd_word.nd rfl (Or.inl rfl) (pe_cg c__law_word hr (by decide) pass0 rfl (pa_cons (pv 0) (pa_cons (pe_lst pa_nil) pa_nil))))
      (pss_cons (ps_set (i := 3) sc__law_odd_word.nd rfl (Or.inl rfl) (pe_lst (pa_cons pe_str (pa_cons (pv 2) (pa_cons (pv 2) (pa_cons (pe_upper (pv 2)) (pa_cons (pe_op opADD (pv 2) pe_str) (pa_cons (pe_op opADD (pv 2) pe_str) (pa_cons pe_str (pa_cons pe_str (pa_cons pe_str (pa_cons pe_str (pa_cons pe_str pa_nil)))))))))))))
      (pss_one (ps_ret (pe_cg c__law_of hr (by decide) pass0 rfl (pa_cons (pv 0) (pa_cons (pe_op opADD (pe_op opADD (pv 3) (pe_lst (pa_cons pe_str (pa_cons pe_str (pa_cons pe_str (pa_cons pe_str (pa_cons pe_str (pa_cons pe_str pa_nil)))))))) (pv 1)) pa_nil))))))), ?_⟩
  rintro p ds c R hl ⟨ws, rfl, hws, hc, hR⟩
  walk_at "dl0"
  walk_at "dl"
  refine lst_d ?_
  walk_at "dl"
  refine ⟨[], rfl, by decide, by omega, fun w hw => ?_⟩
  have hwl := isWord_len hw.1
  walk_at "dl"
  refine lst_d ?_
  walk_at "dl"
  refine rd_upper ?_
  walk_at "dl"
  refine ⟨by omega, ?_⟩
  walk_at "dl"
  refine add_s (by show w.length + 1 ≤ 1000000; omega) ?_
  walk_at "dl"
  refine add_s (by show w.length + 8 ≤ 1000000; omega) ?_
  walk_at "dl"
  refine lst_d ?_
  walk_at "dl"
  refine add_l (IsL.dat _) (IsL.dat _) (Nat.le_of_ble_eq_true rfl) ?_
  walk_at "dl"
  refine add_l (IsL.dat _) (IsL.dat _) (by simp only [txts, List.length_append, List.length_map, List.length_cons, List.length_nil]; omega) ?_
  walk_at "dl"
  refine ⟨_, rfl, by simp, by simp only [txts, List.length_append, List.length_map, List.length_cons, List.length_nil]; omega, by omega, fun x hx => ?_⟩
  have key : ∃ y, x = .str y ∧ (y ∈ ws ∨ okW y) := by
    obtain ⟨k0, k1, k2, k3, k4, k5, k6, k7, k8, k9, k10, k11⟩ := ok_lit
    have kw := okW_word hw.1
    have hno := (word_no hw.1).2
    have a1 : okW (w ++ ("1" : Str)) := okW_app hno (by decide +kernel) (by show w.length + 1 ≤ 30; omega)
    have a2 : okW (w ++ ("abcdefgh" : Str)) := okW_app hno (by decide +kernel) (by show w.length + 8 ≤ 30; omega)
    have au := upper_ok hw.1
    rcases List.mem_append.mp hx with hx | hx
    · simp only [List.cons_append, List.nil_append, List.mem_cons, List.not_mem_nil, or_false] at hx
      rcases hx with u | u | u | u | u | u | u | u | u | u | u | u | u | u | u | u | u
      all_goals (subst u; exact ⟨_, rfl, .inr (by assumption)⟩)
    · obtain ⟨y, hy, rfl⟩ := List.mem_map.mp hx
      exact ⟨y, rfl, .inl hy⟩
  obtain ⟨y, rfl, hy⟩ := key
  exact ⟨_, 0, _, _, rfl, rfl, Nat.le_refl _, hR y _ hy (by omega)⟩

/-! ### a line changed -/
theorem joinLS_len (s : Nat) (ps : List Str) : (TL.joinL [s] (ps.map TL.tl)).length ≤ wide ps := by
  induction ps with
  | nil => exact Nat.zero_le _
  | cons p r ih =>
    have ep : (TL.tl p).length = p.length := by simp [TL.tl, Str.length]
    cases r with
    | nil =>
      show (TL.tl p).length ≤ _
      unfold wide
      simp only [List.map_cons, List.map_nil, List.sum_cons, List.sum_nil, List.length_cons, List.length_nil]
      omega
    | cons p2 r2 =>
      show (TL.tl p ++ ([s] ++ TL.joinL [s] ((p2 :: r2).map TL.tl))).length ≤ _
      unfold wide at ih ⊢
      simp only [List.length_append, List.map_cons, List.sum_cons, List.length_cons, List.length_nil] at ih ⊢
      omega
theorem joinLS_no : ∀ {ps : List (List Nat)}, (∀ p ∈ ps, 10 ∉ p) → 10 ∉ TL.joinL [32] ps := by
  intro ps
  induction ps with
  | nil => intro _ q; cases q
  | cons p r ih =>
    intro hp q
    cases r with
    | nil => exact hp p List.mem_cons_self q
    | cons p2 r2 =>
      have q' : 10 ∈ p ++ ([32] ++ TL.joinL [32] (p2 :: r2)) := q
      rcases List.mem_append.mp q' with v | v
      · exact hp p List.mem_cons_self v
      rcases List.mem_append.mp v with v | v
      · simp at v
      · exact ih (fun y hy => hp y (List.mem_cons_of_mem _ hy)) v
/-- a line of n signs at most -/
def lin (n : Nat) (z : Str) : Prop := z.length ≤ n ∧ 10 ∉ TL.tl z
theorem join_lin {ps : List Str} {n : Nat} (h : wide ps ≤ n) (hn : ∀ p ∈ ps, 10 ∉ TL.tl p) : lin n (Txt.join ((" " : Str)) ps) := by
  have e : (Txt.join ((" " : Str)) ps).length = (TL.tl (Txt.join ((" " : Str)) ps)).length := by simp [TL.tl, Str.length]
  have e2 : TL.tl (Txt.join ((" " : Str)) ps) = TL.joinL [32] (ps.map TL.tl) := by
    rw [TL.join_eq, TL.tl_join]
    rfl
  refine ⟨?_, ?_⟩
  · rw [e, e2]; exact Nat.le_trans (joinLS_len 32 ps) h
  · rw [e2]
    exact joinLS_no fun p hp => by
      obtain ⟨z, hz, rfl⟩ := List.mem_map.mp hp
      exact hn z hz
theorem spl_sub (s : Nat) : ∀ (l acc : List Nat), ∀ p ∈ TL.spl [s] 0 acc l, ∀ c ∈ p, c ∈ acc ∨ c ∈ l
  | [], acc => by
    rw [TL.spl_nil]
    intro p hp c hc
    have : p = acc := by simpa using hp
    rw [this] at hc; exact .inl hc
  | a :: r, acc => by
    cases e : TL.pre [s] (a :: r) with
    | true =>
      rw [TL.spl_hit e]
      intro p hp c hc
      rcases List.mem_cons.mp hp with z | z
      · rw [z] at hc; exact .inl hc
      · rcases spl_sub s r [] p z c hc with u | u
        · cases u
        · exact .inr (List.mem_cons_of_mem _ u)
    | false =>
      rw [TL.spl_miss e]
      intro p hp c hc
      rcases spl_sub s r (acc ++ [a]) p hp c hc with u | u
      · rcases List.mem_append.mp u with u | u
        · exact .inl u
        · exact .inr (by rw [List.mem_singleton.mp u]; exact List.mem_cons_self)
      · exact .inr (List.mem_cons_of_mem _ u)
theorem words_wide {n : Nat} {z : Str} (h : lin n z) : wide (wordsOf z) ≤ n + 1 ∧ (∀ p ∈ wordsOf z, 10 ∉ TL.tl p) ∧ wordsOf z ≠ [] := by
  have hs := words_spl z
  refine ⟨?_, fun p hp => ?_, fun e => ?_⟩
  · have h2 := spl_wide 32 (TL.tl z) []
    rw [← hs, map_tl_len, List.length_map, tl_len] at h2
    have := h.1
    unfold wide
    simp only [List.length_nil] at h2
    omega
  · intro q
    rcases spl_sub 32 (TL.tl z) [] (TL.tl p) (by rw [← hs]; exact List.mem_map_of_mem hp) 10 q with u | u
    · cases u
    · exact h.2 u
  · rw [e] at hs
    exact spl_ne 32 _ _ hs.symm
theorem cutA {ws : List Str} {k : Nat} : cutD (txts ws) none (some (k : Int)) = txts (ws.take k) := by
  have e : HT.sIx (txts ws).length (txts ws).length (some (k : Int)) = min k ws.length := by
    show (if (k : Int) < 0 then ((k : Int) + ((txts ws).length : Nat)).toNat else min (k : Int).toNat (txts ws).length) = _
    rw [if_neg (by omega)]
    simp [txts]
  unfold cutD
  rw [e]
  simp only [HT.sIx, List.drop_zero, Nat.sub_zero]
  unfold txts
  rw [← List.map_take, List.take_eq_take_min, Nat.min_assoc, Nat.min_self, ← List.take_eq_take_min]
theorem cutB {ws : List Str} {k : Nat} : cutD (txts ws) (some (k : Int)) none = txts (ws.drop k) := by
  have e : HT.sIx (txts ws).length 0 (some (k : Int)) = min k ws.length := by
    show (if (k : Int) < 0 then ((k : Int) + ((txts ws).length : Nat)).toNat else min (k : Int).toNat (txts ws).length) = _
    rw [if_neg (by omega)]
    simp [txts]
  unfold cutD
  rw [e]
  simp only [HT.sIx]
  unfold txts
  rw [← List.map_drop, List.take_of_length_le (by simp)]
  congr 1
  by_cases h : k ≤ ws.length
  · rw [Nat.min_eq_left h]
  · rw [Nat.min_eq_right (by omega), List.drop_of_length_le (Nat.le_refl _), List.drop_of_length_le (by omega)]
theorem cutB1 {ws : List Str} {k : Nat} : cutD (txts ws) (some ((k : Int) + 1)) none = txts (ws.drop (k + 1)) := cutB (k := k + 1)
theorem wide_drop1 (l : List Str) (n : Nat) : wide (l.take n) + wide (l.drop (n + 1)) ≤ wide l := by
  have h1 := wide_take l n
  have h2 := wide_take (l.drop n) 1
  rw [List.drop_drop] at h2
  omega
theorem wide_one (z : Str) : wide [z] = z.length + 1 := by unfold wide; simp
theorem txts_app (a b : List Str) : txts a ++ txts b = txts (a ++ b) := by simp [txts]
theorem txts_one (a : Str) : [Da.str a] = txts [a] := rfl
theorem sum_wide (l : List Str) : (l.map (·.length)).sum + l.length * 1 = wide l := by unfold wide; omega
theorem mid_ok {n k f : Nat} {z : Str} {mid : List Str} (hz : lin n z) (hn : n ≤ 80000) (hf : f = k ∨ f = k + 1) (hm : wide mid ≤ n + 31) (hmn : ∀ p ∈ mid, 10 ∉ TL.tl p) :
    (((wordsOf z).take k ++ mid ++ (wordsOf z).drop f).map (·.length)).sum + ((wordsOf z).take k ++ mid ++ (wordsOf z).drop f).length * (" " : Str).length ≤ 1000000 ∧ lin (2 * n + 40) (Txt.join (" " : Str) ((wordsOf z).take k ++ mid ++ (wordsOf z).drop f)) := by
  obtain ⟨hw1, hw2, _⟩ := words_wide hz
  have hw : wide ((wordsOf z).take k ++ mid ++ (wordsOf z).drop f) ≤ 2 * n + 32 := by
    rw [wide_app, wide_app]
    have h1 := wide_take (wordsOf z) k
    have h2 := wide_drop1 (wordsOf z) k
    rcases hf with e | e <;> rw [e] <;> omega
  refine ⟨?_, join_lin (by omega) fun p hp => ?_⟩
  · show _ + _ * 1 ≤ _
    rw [sum_wide]
    omega
  · rcases List.mem_append.mp hp with u | u
    · rcases List.mem_append.mp u with u | u
      · exact hw2 p (List.mem_of_mem_take u)
      · exact hmn p u
    · exact hw2 p (List.mem_of_mem_drop u)
def cLineCh : CP := fun ds c R => ∃ (n : Nat) (z : Str), ds = [.str z] ∧ lin n z ∧ n ≤ 80000 ∧ c < 2 ^ 40 ∧ ∀ z' c', lin (2 * n + 40) z' → c' ≤ c + 10 → R (.str z') c'
local macro_rules | `(tactic| walk_at "slA") => `(tactic| (refine rd_slL (tl := tNoPart) (ds := []) ?_; walk_at "dl"; refine ⟨_, IsL.dat _, (fun _ h => nomatch h), ro_no (ro_at ?_)⟩; walk_at "dl"))
local macro_rules | `(tactic| walk_at "slB") => `(tactic| (refine rd_slL (th := tNoPart) (ds := []) ?_; walk_at "dl"; refine ⟨_, IsL.dat _, (fun _ h => nomatch h), ro_at ?_⟩; walk_at "dl"; refine ro_no ?_; walk_at "dl"))
abbrev st__law_line_changed : Stmt := topR 35
abbrev N__law_line_changed : List Str := ["_law_pool_here", "_law_line", "_law_words", "_law_choice", "_law_at"]
theorem sc__law_line_changed : FnScope N__law_line_changed ["_law_pool_here", "_law_line"] (defScope st__law_line_changed) := ⟨rfl, rfl, rfl, by decide +kernel, rfl, by decide +kernel, by decide +kernel⟩
abbrev sp__law_line_changed (K : PySem.W.Frag) : Sp := spP K 1 cLineCh
theorem ok__law_line_changed {P : Program} {w : World} {K : PySem.W.Frag} {mg : Str → Option Value} {base : Heap} (d : DefAt K mg "_law_line_changed" st__law_line_changed ["_law_pool_here", "_law_line"]) (n_len : mg "len" = none) (c__law_draw : CalG P w K mg base CX0 1 "_law_draw" (sp__law_draw K)) (c__law_odd_word : CalG P w K mg base CX0 3 "_law_odd_word" (sp__law_odd_word K)) : CalG P w K mg base CX0 4 "_law_line_changed" (sp__law_line_changed K) := by
  refine DefAt.cal d fun {f fd} F => fn_P (n := 1) F sc__law_line_changed rfl fun cdv A outer s H E hr => ?_
  have hu := hr.r.units
  have hv := hr.u65
  refine ⟨_, (pss_cons (ps_par (i := 2) (j := 3) rfl sc__law_line_changed.nd rfl rfl (by decide) rfl rfl (pa_cons (pe_split (pv 1) pe_str) (pa_cons (pe_cg c__law_draw hr (by decide) pass0 rfl (pa_cons (pv 0) (pa_cons pe_int pa_nil))) pa_nil)) (by rfl))
      (pss_cons (ps_set (i := 4) sc__law_line_changed.nd rfl (Or.inl rfl) (pe_cg c__law_draw hr (by decide) pass0 rfl (pa_cons (pv 0) (pa_cons (pe_callB cLEN rfl n_len (by decide +kernel) (pa_cons (pv 2) pa_nil)) pa_nil))))
      (pss_cons (ps_if (pt_cmpR (opEQ hu) (pv 3) pe_int (nomark _)) (pss_one (ps_ret (pe_join pe_str (pe_op opADD (pe_op opADD (pe_slice slANY (pv 2) po_none (po_some (pv 4))) (pe_lst (pa_cons pe_str pa_nil))) (pe_slice slANY (pv 2) (po_some (pv 4)) po_none))))) pss_nil)
      (pss_cons (ps_if (pt_cmpR (opEQ hu) (pv 3) pe_int (nomark _)) (pss_one (ps_ret (pe_op opADD (pv 1) pe_str))) pss_nil)
      (pss_cons (ps_if (pt_cmpR (opEQ hu) (pv 3) pe_int (nomark _)) (pss_one (ps_ret (pe_join pe_str (pe_op opADD (pe_slice slANY (pv 2) po_none (po_some (pv 4))) (pe_slice slANY (pv 2) (po_some (pe_op opADD (pv 4) pe_int)) po_none))))) pss_nil)
      (pss_cons (ps_if (pt_cmpR (opEQ hu) (pv 3) pe_int (nomark _)) (pss_one (ps_ret (pe_join pe_str (pe_op opADD (pe_op opADD (pe_slice slANY (pv 2) po_none (po_some (pv 4))) (pe_lst (pa_cons (pe_cg c__law_odd_word hr (by decide) pass0 rfl (pa_cons (pv 0) (pa_cons (pv 2) pa_nil))) pa_nil))) (pe_slice slANY (pv 2) (po_some (pv 4)) po_none))))) pss_nil)
      (pss_one (ps_ret (pe_join pe_str (pe_op opADD (pe_op opADD (pe_slice slANY (pv 2) po_none (po_some (pv 4))) (pe_lst (pa_cons (pe_cg c__law_odd_word hr (by decide) pass0 rfl (pa_cons (pv 0) (pa_cons (pv 2) pa_nil))) pa_nil))) (pe_slice slANY (pv 2) (po_some (pe_op opADD (pv 4) pe_int)) po_none))))))))))), ?_⟩
  rintro p ds c R hl ⟨n, z, rfl, hz, hn, hc, hR⟩
  obtain ⟨hw1, hw2, hw3⟩ := words_wide hz
  have hzl := hz.1
  have hwl : (wordsOf z).length ≤ n + 1 := Nat.le_trans (by unfold wide; omega) hw1
  have hwp : 1 ≤ (wordsOf z).length := by
    match wordsOf z, hw3 with
    | _ :: _, _ => simp
  walk_at "dl0"
  refine rs_seq (rs_par ?_)
  walk_at "dl"
  refine ⟨rfl, by omega, ?_⟩
  walk_at "dl"
  refine ⟨7, rfl, by decide, by decide, by omega, fun r hr0 hr1 => ?_⟩
  walk_at "dl"
  refine ⟨((wordsOf z).length : Int), ?_, by omega, ?_, by omega, fun k hk0 hk1 => ?_⟩
  · simp [txts]
  · have : ((wordsOf z).length : Int) ≤ 80001 := by omega
    exact Int.lt_of_le_of_lt this (by decide)
  obtain ⟨k, rfl⟩ := Int.eq_ofNat_of_zero_le hk0
  have klt : k < (wordsOf z).length := by omega
  have hwl2 : (Txt.split z (" " : Str)).length ≤ n + 1 := hwl
  walk_at "dl"
  refine ⟨fun _ => ?_, fun _ => ?_⟩
  · walk_at "dl"
    walk_at "slA"
    rw [cutA]
    refine lst_d ?_
    walk_at "dl"
    rw [txts_one]
    refine add_l (IsL.dat _) (IsL.dat _) (by simp only [txts, List.length_map, List.length_take, List.length_cons, List.length_nil]; omega) ?_
    walk_at "slB"
    rw [cutB]
    refine add_l (IsL.dat _) (IsL.dat _) (by simp only [txts, List.length_append, List.length_map, List.length_take, List.length_drop, List.length_cons, List.length_nil]; omega) ?_
    rw [txts_app, txts_app]
    obtain ⟨f1, f2⟩ := mid_ok (mid := [""]) hz hn (f := k) (.inl rfl) (by rw [wide_one]; show 0 + 1 ≤ _; omega) (fun p hp => by rw [List.mem_singleton.mp hp]; decide +kernel)
    exact ⟨_, _, rfl, IsL.dat _, f1, _, 0, _, _, rfl, rfl, Nat.le_refl _, hR _ _ f2 (by omega)⟩
  walk_at "dl"
  refine ⟨fun _ => ?_, fun _ => ?_⟩
  · walk_at "dl"
    refine add_s (by show z.length + 1 ≤ 1000000; omega) ?_
    refine ⟨_, 0, _, _, rfl, rfl, Nat.le_refl _, hR _ _ ⟨by rw [strLen_append]; show z.length + 1 ≤ _; omega, ?_⟩ (by omega)⟩
    rw [tl_app]
    intro q
    rcases List.mem_append.mp q with u | u
    · exact hz.2 u
    · exact absurd u (by decide +kernel)
  walk_at "dl"
  refine ⟨fun _ => ?_, fun _ => ?_⟩
  · walk_at "dl"
    walk_at "slA"
    rw [cutA]
    walk_at "slB"
    rw [cutB1]
    refine add_l (IsL.dat _) (IsL.dat _) (by simp only [txts, List.length_append, List.length_map, List.length_take, List.length_drop, List.length_cons, List.length_nil]; omega) ?_
    rw [txts_app]
    have f0 := mid_ok (mid := []) hz hn (f := k + 1) (.inr rfl) (Nat.zero_le _) (fun p hp => nomatch hp)
    rw [List.append_nil] at f0
    obtain ⟨f1, f2⟩ := f0
    exact ⟨_, _, rfl, IsL.dat _, f1, _, 0, _, _, rfl, rfl, Nat.le_refl _, hR _ _ f2 (by omega)⟩
  have odd : ∀ y : Str, (y ∈ wordsOf z ∨ okW y) → wide [y] ≤ n + 31 ∧ ∀ p ∈ [y], 10 ∉ TL.tl p := fun y hy => by
    rw [wide_one]
    rcases hy with hy | hy
    · have := wide_mem hy
      exact ⟨by omega, fun p hp => by rw [List.mem_singleton.mp hp]; exact hw2 y hy⟩
    · have := hy.1
      exact ⟨by omega, fun p hp => by rw [List.mem_singleton.mp hp]; exact hy.2⟩
  walk_at "dl"
  refine ⟨fun _ => ?_, fun _ => ?_⟩
  · walk_at "dl"
    walk_at "slA"
    rw [cutA]
    refine lst_d ?_
    walk_at "dl"
    refine ⟨wordsOf z, rfl, by omega, by omega, fun y c' hy hc' => ?_⟩
    walk_at "dl"
    rw [txts_one]
    refine add_l (IsL.dat _) (IsL.dat _) (by simp only [txts, List.length_map, List.length_take, List.length_cons, List.length_nil]; omega) ?_
    walk_at "slB"
    rw [cutB]
    refine add_l (IsL.dat _) (IsL.dat _) (by simp only [txts, List.length_append, List.length_map, List.length_take, List.length_drop, List.length_cons, List.length_nil]; omega) ?_
    rw [txts_app, txts_app]
    obtain ⟨o1, o2⟩ := odd y hy
    obtain ⟨f1, f2⟩ := mid_ok (mid := [y]) hz hn (f := k) (.inl rfl) o1 o2
    exact ⟨_, _, rfl, IsL.dat _, f1, _, 0, _, _, rfl, rfl, Nat.le_refl _, hR _ _ f2 (by omega)⟩
  walk_at "dl"
  walk_at "slA"
  rw [cutA]
  refine lst_d ?_
  walk_at "dl"
  refine ⟨wordsOf z, rfl, by omega, by omega, fun y c' hy hc' => ?_⟩
  walk_at "dl"
  rw [txts_one]
  refine add_l (IsL.dat _) (IsL.dat _) (by simp only [txts, List.length_map, List.length_take, List.length_cons, List.length_nil]; omega) ?_
  walk_at "slB"
  rw [cutB1]
  refine add_l (IsL.dat _) (IsL.dat _) (by simp only [txts, List.length_append, List.length_map, List.length_take, List.length_drop, List.length_cons, List.length_nil]; omega) ?_
  rw [txts_app, txts_app]
  obtain ⟨o1, o2⟩ := odd y hy
  obtain ⟨f1, f2⟩ := mid_ok (mid := [y]) hz hn (f := k + 1) (.inr rfl) o1 o2
  exact ⟨_, _, rfl, IsL.dat _, f1, _, 0, _, _, rfl, rfl, Nat.le_refl _, hR _ _ f2 (by omega)⟩

/-! ### lines changed -/
def okL (z : Str) : Prop := z.length ≤ 14 ∧ 10 ∉ TL.tl z
theorem okL_app {a b : Str} (ha : 10 ∉ TL.tl a) (hl : a.length ≤ 6) (hb : 10 ∉ TL.tl b) (hl2 : b.length ≤ 8) : okL (a ++ b) := by
  refine ⟨by rw [strLen_append]; omega, ?_⟩
  rw [tl_app]
  intro q
  rcases List.mem_append.mp q with u | u
  · exact ha u
  · exact hb u
theorem okL_wide : ∀ {l : List Str}, (∀ x ∈ l, okL x) → wide l ≤ 15 * l.length ∧ ∀ x ∈ l, 10 ∉ TL.tl x
  | [], _ => ⟨Nat.le_refl _, fun _ h => nomatch h⟩
  | z :: r, h => by
    obtain ⟨h1, h2⟩ := okL_wide (l := r) fun x hx => h x (List.mem_cons_of_mem _ hx)
    have hz := h z List.mem_cons_self
    refine ⟨?_, fun x hx => (h x hx).2⟩
    rw [wide_cons, List.length_cons]
    have := hz.1
    omega
def cMore : CP := fun ds c R => ∃ l : List Str, ds = [.lst (txts l)] ∧ c < 2 ^ 40 ∧ ∀ l' c', wide l' ≤ 150 → (∀ x ∈ l', 10 ∉ TL.tl x) → c' ≤ c + 30 → R (.lst (txts l')) c'
abbrev st__law_more : Stmt := topR 36
abbrev N__law_more : List Str := ["_law_pool_here", "_law_lines_here", "_law_k"]
theorem sc__law_more : FnScope N__law_more ["_law_pool_here", "_law_lines_here"] (defScope st__law_more) := ⟨rfl, rfl, rfl, by decide +kernel, rfl, by decide +kernel, by decide +kernel⟩
abbrev sp__law_more (K : PySem.W.Frag) : Sp := spP K 1 cMore
theorem ok__law_more {P : Program} {w : World} {K : PySem.W.Frag} {mg : Str → Option Value} {base : Heap} (d : DefAt K mg "_law_more" st__law_more ["_law_pool_here", "_law_lines_here"]) (n_range : mg "range" = none) (c__law_draw : CalG P w K mg base CX0 1 "_law_draw" (sp__law_draw K)) (c__law_word : CalG P w K mg base CX0 2 "_law_word" (sp__law_word K)) : CalG P w K mg base CX0 3 "_law_more" (sp__law_more K) := by
  refine DefAt.cal d fun {f fd} F => fn_P (n := 1) F sc__law_more rfl fun cdv A outer s H E hr => ?_
  have hu := hr.r.units
  have hv := hr.u65
  refine ⟨_, (pss_cons (ps_if (pt_cmpR (opEQ hu) (pe_cg c__law_draw hr (by decide) pass0 rfl (pa_cons (pv 0) (pa_cons pe_int pa_nil))) pe_int (nomark _)) (pss_one (ps_ret (pe_lc (own := [("_law_k", 2)]) (g := gName 2) (tt := tYes) (te := tOp (rADD K) (tC (.str "flag ")) (tCall (sp__law_word K) [] E0 (tCons (tVar 0) (tCons (tLst (tNil)) (tNil))))) rfl sc__law_more.nd (pi_range1 rfl n_range (pa_cons (pe_op opADD pe_int (pe_cg c__law_draw hr (by decide) pass0 rfl (pa_cons (pv 0) (pa_cons pe_int pa_nil)))) pa_nil)) (blkOk_by (N := N__law_more) (sc := defScope st__law_more) (by decide +kernel)) (fun _ _ _ _ _ => (pg_name (i := 2) sc__law_more.nd rfl (Or.inl rfl))) (fun _ _ _ _ _ => pts_nil) (fun _ _ _ _ _ => (pe_op opADD pe_str (pe_cg c__law_word hr (by decide) pass0 rfl (pa_cons (pv 0) (pa_cons (pe_lst pa_nil) pa_nil)))))))) pss_nil)
      (pss_one (ps_ret (pe_lc (own := [("_law_k", 2)]) (g := gName 2) (tt := tYes) (te := tOp (rADD K) (tC (.str "table ")) (tCall (sp__law_word K) [] E0 (tCons (tVar 0) (tCons (tLst (tNil)) (tNil))))) rfl sc__law_more.nd (pi_range1 rfl n_range (pa_cons (pe_op opADD pe_int (pe_cg c__law_draw hr (by decide) pass0 rfl (pa_cons (pv 0) (pa_cons pe_int pa_nil)))) pa_nil)) (blkOk_by (N := N__law_more) (sc := defScope st__law_more) (by decide +kernel)) (fun _ _ _ _ _ => (pg_name (i := 2) sc__law_more.nd rfl (Or.inl rfl))) (fun _ _ _ _ _ => pts_nil) (fun _ _ _ _ _ => (pe_op opADD pe_str (pe_cg c__law_word hr (by decide) pass0 rfl (pa_cons (pv 0) (pa_cons (pe_lst pa_nil) pa_nil))))))))), ?_⟩
  rintro p ds c R hl ⟨l0, rfl, hc, hR⟩
  walk_at "dl0"
  walk_at "dl"
  refine ⟨2, rfl, by decide, by decide, by omega, fun b hb0 hb1 => ?_⟩
  walk_at "dl"
  refine ⟨fun _ => ?_, fun _ => ?_⟩
  · walk_at "dl"
    refine rd_lcR (tgIn_name (by decide)) ?_
    walk_at "dl"
    refine ⟨7, rfl, by decide, by decide, by omega, fun r hr0 hr1 => ?_⟩
    walk_at "dl"
    refine ⟨(1 + r).toNat, by rw [Int.toNat_of_nonneg (by omega)], by omega, fun i acc μ' => ∃ l, acc = txts l ∧ l.length = i ∧ (∀ x ∈ l, okL x) ∧ ∃ c', μ' = [(p, MK.pool c', false)] ∧ c' ≤ c + 2 + 2 * i, ⟨[], rfl, rfl, (fun _ h => nomatch h), _, rfl, by omega⟩, ?_, ?_⟩
    · rintro i acc μ' hi ⟨l, rfl, hll, hs, c', rfl, hc'⟩
      refine rg_name ?_
      walk_at "dl"
      refine lst_d ?_
      walk_at "dl"
      refine ⟨[], rfl, by decide, by omega, fun w hw => ?_⟩
      have hwl := isWord_len hw.1
      refine add_s (by show 5 + w.length ≤ 1000000; omega) ?_
      refine ⟨_, rfl, by simp only [txts, List.length_map]; omega, l ++ [("flag " : Str) ++ w], by simp [txts], by simp [hll], fun x hx => ?_, _, rfl, by omega⟩
      rcases List.mem_append.mp hx with h | h
      · exact hs x h
      · have : x = ("flag " : Str) ++ w := by simpa using h
        rw [this]
        exact okL_app (by decide +kernel) (by decide) (word_no hw.1).2 hwl.2
    · rintro acc μ' ⟨l, rfl, hll, hs, c', rfl, hc'⟩
      obtain ⟨w1, w2⟩ := okL_wide hs
      exact ⟨_, 0, _, _, rfl, rfl, Nat.le_refl _, hR l _ (by omega) w2 (by omega)⟩
  · walk_at "dl"
    refine rd_lcR (tgIn_name (by decide)) ?_
    walk_at "dl"
    refine ⟨5, rfl, by decide, by decide, by omega, fun r hr0 hr1 => ?_⟩
    walk_at "dl"
    refine ⟨(1 + r).toNat, by rw [Int.toNat_of_nonneg (by omega)], by omega, fun i acc μ' => ∃ l, acc = txts l ∧ l.length = i ∧ (∀ x ∈ l, okL x) ∧ ∃ c', μ' = [(p, MK.pool c', false)] ∧ c' ≤ c + 2 + 2 * i, ⟨[], rfl, rfl, (fun _ h => nomatch h), _, rfl, by omega⟩, ?_, ?_⟩
    · rintro i acc μ' hi ⟨l, rfl, hll, hs, c', rfl, hc'⟩
      refine rg_name ?_
      walk_at "dl"
      refine lst_d ?_
      walk_at "dl"
      refine ⟨[], rfl, by decide, by omega, fun w hw => ?_⟩
      have hwl := isWord_len hw.1
      refine add_s (by show 6 + w.length ≤ 1000000; omega) ?_
      refine ⟨_, rfl, by simp only [txts, List.length_map]; omega, l ++ [("table " : Str) ++ w], by simp [txts], by simp [hll], fun x hx => ?_, _, rfl, by omega⟩
      rcases List.mem_append.mp hx with h | h
      · exact hs x h
      · have : x = ("table " : Str) ++ w := by simpa using h
        rw [this]
        exact okL_app (by decide +kernel) (by decide) (word_no hw.1).2 hwl.2
    · rintro acc μ' ⟨l, rfl, hll, hs, c', rfl, hc'⟩
      obtain ⟨w1, w2⟩ := okL_wide hs
      exact ⟨_, 0, _, _, rfl, rfl, Nat.le_refl _, hR l _ (by omega) w2 (by omega)⟩

def cChanged : CP := fun ds c R => ∃ (W : Nat) (l : List Str), ds = [.lst (txts l)] ∧ nice W l ∧ W ≤ 30000 ∧ c < 2 ^ 38 ∧ ∀ l' c', (∀ x ∈ l', 10 ∉ TL.tl x) → wide l' ≤ 3 * W + 200 → c' ≤ c + 50 → R (.lst (txts l')) c'
theorem get_txts {l : List Str} {k : Nat} (h : k < l.length) : ∃ z, l[k]? = some z ∧ z ∈ l ∧ (txts l)[k]? = some (.str z) := by
  refine ⟨l[k], List.getElem?_eq_getElem h, List.getElem_mem h, ?_⟩
  unfold txts
  rw [List.getElem?_map, List.getElem?_eq_getElem h]
  rfl
local macro_rules | `(tactic| walk_at "slA") => `(tactic| (refine rd_slL (tl := tNoPart) (ds := []) ?_; walk_at "dl"; refine ⟨_, IsL.dat _, (fun _ h => nomatch h), ro_no (ro_at ?_)⟩; walk_at "dl"))
local macro_rules | `(tactic| walk_at "slB") => `(tactic| (refine rd_slL (th := tNoPart) (ds := []) ?_; walk_at "dl"; refine ⟨_, IsL.dat _, (fun _ h => nomatch h), ro_at ?_⟩; walk_at "dl"; refine ro_no ?_; walk_at "dl"))
local macro_rules | `(tactic| walk_at "adL") => `(tactic| refine add_l (IsL.dat _) (IsL.dat _) (by simp only [txts, List.length_append, List.length_map, List.length_take, List.length_drop, List.length_cons, List.length_nil]; omega) ?_)
abbrev st__law_changed : Stmt := topR 37
abbrev N__law_changed : List Str := ["_law_pool_here", "_law_lines_here", "_law_at", "_law_to", "_law_choice", "_law_rest"]
theorem sc__law_changed : FnScope N__law_changed ["_law_pool_here", "_law_lines_here"] (defScope st__law_changed) := ⟨rfl, rfl, rfl, by decide +kernel, rfl, by decide +kernel, by decide +kernel⟩
abbrev sp__law_changed (K : PySem.W.Frag) : Sp := spP K 1 cChanged
theorem ok__law_changed {P : Program} {w : World} {K : PySem.W.Frag} {mg : Str → Option Value} {base : Heap} (d : DefAt K mg "_law_changed" st__law_changed ["_law_pool_here", "_law_lines_here"]) (n_len : mg "len" = none) (c__law_draw : CalG P w K mg base CX0 1 "_law_draw" (sp__law_draw K)) (c__law_line_changed : CalG P w K mg base CX0 4 "_law_line_changed" (sp__law_line_changed K)) (c__law_more : CalG P w K mg base CX0 3 "_law_more" (sp__law_more K)) : CalG P w K mg base CX0 5 "_law_changed" (sp__law_changed K) := by
  refine DefAt.cal d fun {f fd} F => fn_P (n := 1) F sc__law_changed rfl fun cdv A outer s H E hr => ?_
  have hu := hr.r.units
  have hv := hr.u65
  refine ⟨_, (pss_cons (ps_par3 (i := 2) (j := 3) (l := 4) rfl sc__law_changed.nd rfl rfl rfl (by decide) (by decide) (by decide) rfl rfl rfl (pa_cons (pe_cg c__law_draw hr (by decide) pass0 rfl (pa_cons (pv 0) (pa_cons (pe_callB cLEN rfl n_len (by decide +kernel) (pa_cons (pv 1) pa_nil)) pa_nil))) (pa_cons (pe_cg c__law_draw hr (by decide) pass0 rfl (pa_cons (pv 0) (pa_cons (pe_callB cLEN rfl n_len (by decide +kernel) (pa_cons (pv 1) pa_nil)) pa_nil))) (pa_cons (pe_cg c__law_draw hr (by decide) pass0 rfl (pa_cons (pv 0) (pa_cons pe_int pa_nil))) pa_nil))) (by rfl))
      (pss_cons (ps_if (pt_cmpR (opEQ hu) (pv 4) pe_int (nomark _)) (pss_one (ps_ret (pe_op opADD (pe_slice slANY (pv 1) po_none (po_some (pv 2))) (pe_slice slANY (pv 1) (po_some (pe_op opADD (pv 2) pe_int)) po_none)))) pss_nil)
      (pss_cons (ps_if (pt_cmpR (opEQ hu) (pv 4) pe_int (nomark _)) (pss_one (ps_ret (pe_op opADD (pe_op opADD (pe_slice slANY (pv 1) po_none (po_some (pv 2))) (pe_lst (pa_cons pe_str pa_nil))) (pe_slice slANY (pv 1) (po_some (pv 2)) po_none)))) pss_nil)
      (pss_cons (ps_if (pt_cmpR (opEQ hu) (pv 4) pe_int (nomark _)) (pss_one (ps_ret (pe_op opADD (pe_op opADD (pe_slice slANY (pv 1) po_none (po_some (pv 3))) (pe_lst (pa_cons (pe_ix (ixANY hu) (pv 1) (pv 2) (fun _ _ => rfl)) pa_nil))) (pe_slice slANY (pv 1) (po_some (pv 3)) po_none)))) pss_nil)
      (pss_cons (ps_if (pt_cmpR (opEQ hu) (pv 4) pe_int (nomark _)) (pss_cons (ps_set (i := 5) sc__law_changed.nd rfl (Or.inl rfl) (pe_op opADD (pe_slice slANY (pv 1) po_none (po_some (pv 2))) (pe_slice slANY (pv 1) (po_some (pe_op opADD (pv 2) pe_int)) po_none)))
      (pss_one (ps_ret (pe_op opADD (pe_op opADD (pe_slice slANY (pv 5) po_none (po_some (pv 3))) (pe_lst (pa_cons (pe_ix (ixANY hu) (pv 1) (pv 2) (fun _ _ => rfl)) pa_nil))) (pe_slice slANY (pv 5) (po_some (pv 3)) po_none))))) pss_nil)
      (pss_cons (ps_if (pt_cmpR (opEQ hu) (pv 4) pe_int (nomark _)) (pss_one (ps_ret (pe_op opADD (pe_op opADD (pe_slice slANY (pv 1) po_none (po_some (pv 2))) (pe_cg c__law_more hr (by decide) pass0 rfl (pa_cons (pv 0) (pa_cons (pv 1) pa_nil)))) (pe_slice slANY (pv 1) (po_some (pv 2)) po_none)))) pss_nil)
      (pss_one (ps_ret (pe_op opADD (pe_op opADD (pe_slice slANY (pv 1) po_none (po_some (pv 2))) (pe_lst (pa_cons (pe_cg c__law_line_changed hr (by decide) pass0 rfl (pa_cons (pv 0) (pa_cons (pe_ix (ixANY hu) (pv 1) (pv 2) (fun _ _ => rfl)) pa_nil))) pa_nil))) (pe_slice slANY (pv 1) (po_some (pe_op opADD (pv 2) pe_int)) po_none)))))))))), ?_⟩
  rintro p ds c R hl ⟨W, l, rfl, hn, hW, hc, hR⟩
  have hln := hn.len
  have hwd := hn.wd
  have hno := hn.no
  have hlp : 1 ≤ l.length := by
    match l, hn.ne with
    | _ :: _, _ => simp
  have hm : ∃ n : Int, ((txts l).length : Int) = n ∧ n = (l.length : Int) := ⟨_, rfl, by simp [txts]⟩
  have hl2 : ((l.length : Nat) : Int) < 2 ^ 200 := by
    have : ((l.length : Nat) : Int) ≤ 30000 := by omega
    exact Int.lt_of_le_of_lt this (by decide)
  have ltx : (txts l).length = l.length := by simp [txts]
  walk_at "dl0"
  walk_at "dl"
  refine ⟨((txts l).length : Int), rfl, by omega, by rw [ltx]; exact hl2, by omega, fun k hk0 hk1 => ?_⟩
  rw [ltx] at hk1
  obtain ⟨k, rfl⟩ := Int.eq_ofNat_of_zero_le hk0
  walk_at "dl"
  refine ⟨((txts l).length : Int), rfl, by omega, by rw [ltx]; exact hl2, by omega, fun t ht0 ht1 => ?_⟩
  rw [ltx] at ht1
  obtain ⟨t, rfl⟩ := Int.eq_ofNat_of_zero_le ht0
  walk_at "dl"
  refine ⟨8, rfl, by decide, by decide, by omega, fun r hr0 hr1 => ?_⟩
  have klt : k < l.length := by omega
  have tlt : t < l.length := by omega
  have htk := wide_take l k
  have htk1 := wide_drop1 l k
  have htt := wide_take l t
  obtain ⟨z, hz, hzm, hzt⟩ := get_txts klt
  have hzw := wide_mem hzm
  walk_at "dl"
  refine ⟨fun _ => ?_, fun _ => ?_⟩
  · walk_at "dl"
    walk_at "slA"
    rw [cutA]
    walk_at "slB"
    rw [cutB1]
    walk_at "adL"
    rw [txts_app]
    refine ⟨_, 0, _, _, rfl, rfl, Nat.le_refl _, hR _ _ (fun x hx => ?_) (by rw [wide_app]; omega) (by omega)⟩
    rcases List.mem_append.mp hx with u | u
    · exact hno x (List.mem_of_mem_take u)
    · exact hno x (List.mem_of_mem_drop u)
  walk_at "dl"
  refine ⟨fun _ => ?_, fun _ => ?_⟩
  · walk_at "dl"
    walk_at "slA"
    rw [cutA]
    refine lst_d ?_
    walk_at "dl"
    rw [txts_one]
    walk_at "adL"
    walk_at "slB"
    rw [cutB]
    walk_at "adL"
    rw [txts_app, txts_app]
    have w1 : wide [("" : Str)] = 1 := rfl
    refine ⟨_, 0, _, _, rfl, rfl, Nat.le_refl _, hR _ _ (fun x hx => ?_) (by rw [wide_app, wide_app, w1]; omega) (by omega)⟩
    rcases List.mem_append.mp hx with u | u
    · rcases List.mem_append.mp u with u | u
      · exact hno x (List.mem_of_mem_take u)
      · rw [List.mem_singleton.mp u]; decide +kernel
    · exact hno x (List.mem_of_mem_drop u)
  walk_at "dl"
  refine ⟨fun _ => ?_, fun _ => ?_⟩
  · walk_at "dl"
    walk_at "slA"
    rw [cutA]
    refine lst_d ?_
    walk_at "dl"
    refine ix_l (IsL.dat _) (d := .str z) (at_lit (n := k) rfl hzt) ?_
    walk_at "dl"
    rw [txts_one]
    walk_at "adL"
    walk_at "slB"
    rw [cutB]
    walk_at "adL"
    rw [txts_app, txts_app]
    refine ⟨_, 0, _, _, rfl, rfl, Nat.le_refl _, hR _ _ (fun x hx => ?_) (by rw [wide_app, wide_app, wide_one]; omega) (by omega)⟩
    rcases List.mem_append.mp hx with u | u
    · rcases List.mem_append.mp u with u | u
      · exact hno x (List.mem_of_mem_take u)
      · rw [List.mem_singleton.mp u]; exact hno z hzm
    · exact hno x (List.mem_of_mem_drop u)
  walk_at "dl"
  refine ⟨fun _ => ?_, fun _ => ?_⟩
  · walk_at "dl"
    walk_at "slA"
    rw [cutA]
    walk_at "slB"
    rw [cutB1]
    walk_at "adL"
    rw [txts_app]
    have hrest : ∀ x ∈ l.take k ++ l.drop (k + 1), 10 ∉ TL.tl x := fun x hx => by
      rcases List.mem_append.mp hx with u | u
      · exact hno x (List.mem_of_mem_take u)
      · exact hno x (List.mem_of_mem_drop u)
    have hrl : (l.take k ++ l.drop (k + 1)).length ≤ W := by
      simp only [List.length_append, List.length_take, List.length_drop]; omega
    have hrw : wide (l.take k ++ l.drop (k + 1)) ≤ W := by rw [wide_app]; omega
    generalize l.take k ++ l.drop (k + 1) = rest at hrest hrl hrw
    have hrt := wide_take rest t
    walk_at "dl"
    walk_at "slA"
    rw [cutA]
    refine lst_d ?_
    walk_at "dl"
    refine ix_l (IsL.dat _) (d := .str z) (at_lit (n := k) rfl hzt) ?_
    walk_at "dl"
    rw [txts_one]
    walk_at "adL"
    walk_at "slB"
    rw [cutB]
    walk_at "adL"
    rw [txts_app, txts_app]
    refine ⟨_, 0, _, _, rfl, rfl, Nat.le_refl _, hR _ _ (fun x hx => ?_) (by rw [wide_app, wide_app, wide_one]; omega) (by omega)⟩
    rcases List.mem_append.mp hx with u | u
    · rcases List.mem_append.mp u with u | u
      · exact hrest x (List.mem_of_mem_take u)
      · rw [List.mem_singleton.mp u]; exact hno z hzm
    · exact hrest x (List.mem_of_mem_drop u)
  walk_at "dl"
  refine ⟨fun _ => ?_, fun _ => ?_⟩
  · walk_at "dl"
    walk_at "slA"
    rw [cutA]
    refine ⟨l, rfl, by omega, fun l' c' h1 h2 h3 => ?_⟩
    have hl' : l'.length ≤ 150 := Nat.le_trans (by unfold wide; omega) h1
    walk_at "dl"
    walk_at "adL"
    walk_at "slB"
    rw [cutB]
    walk_at "adL"
    rw [txts_app, txts_app]
    refine ⟨_, 0, _, _, rfl, rfl, Nat.le_refl _, hR _ _ (fun x hx => ?_) (by rw [wide_app, wide_app]; omega) (by omega)⟩
    rcases List.mem_append.mp hx with u | u
    · rcases List.mem_append.mp u with u | u
      · exact hno x (List.mem_of_mem_take u)
      · exact h2 x u
    · exact hno x (List.mem_of_mem_drop u)
  walk_at "dl"
  walk_at "slA"
  rw [cutA]
  refine lst_d ?_
  walk_at "dl"
  refine ix_l (IsL.dat _) (d := .str z) (at_lit (n := k) rfl hzt) ?_
  walk_at "dl"
  refine ⟨W, z, rfl, ⟨by omega, hno z hzm⟩, by omega, by omega, fun z' c' hz' hc' => ?_⟩
  walk_at "dl"
  rw [txts_one]
  walk_at "adL"
  walk_at "slB"
  rw [cutB1]
  walk_at "adL"
  rw [txts_app, txts_app]
  have hz1 := hz'.1
  refine ⟨_, 0, _, _, rfl, rfl, Nat.le_refl _, hR _ _ (fun x hx => ?_) (by rw [wide_app, wide_app, wide_one]; omega) (by omega)⟩
  rcases List.mem_append.mp hx with u | u
  · rcases List.mem_append.mp u with u | u
    · exact hno x (List.mem_of_mem_take u)
    · rw [List.mem_singleton.mp u]; exact hz'.2
  · exact hno x (List.mem_of_mem_drop u)

/-! ### columns of any shape -/
def cColumnsG (C : Addr) : CA := fun ds R => ∃ (text : Str) (sh : List (Str × Da)) (n : Str) (cs : List (Str × Da)), ds = [.obj C (schF text sh), .str n] ∧ sh.lookup n = some (.dct cs) ∧ R (.tup (txts (cs.map (·.1))))
abbrev st_Schema_columnsG : Stmt := inClass (topR 15) 1
abbrev N_Schema_columnsG : List Str := ["self", "table"]
theorem sc_Schema_columnsG : FnScope N_Schema_columnsG ["self", "table"] (defScope st_Schema_columnsG) := ⟨rfl, rfl, rfl, by decide +kernel, rfl, by decide +kernel, by decide +kernel⟩
abbrev sp_Schema_columnsG (K : PySem.W.Frag) (C : Addr) : Sp := spA K 2 (cColumnsG C)
theorem ok_Schema_columnsG {A_Schema : Addr} {P : Program} {w : World} {K : PySem.W.Frag} {mg : Str → Option Value} {base : Heap} (d : MethAt K A_Schema "columns" "Schema.columns" st_Schema_columnsG ["self", "table"]) (cl : Cls K A_Schema) (na__text : NoAttr K A_Schema "_text") (na__shape : NoAttr K A_Schema "_shape") (na_tables : NoAttr K A_Schema "tables") (n_tuple : mg "tuple" = none)  : MetG P w K mg base CX0 1 A_Schema "columns" (sp_Schema_columnsG K A_Schema) := by
  refine MethAt.met cl d fun {f fd} F => fn_A (n := 2) F sc_Schema_columnsG rfl fun cdv A outer s H E hr => ?_
  have hu := hr.r.units
  have hv := hr.u65
  refine ⟨_, (pss_cons (ps_if (pt_cmpR (opNIN hv) (pv 1) (pe_fld (pv 0) rfl) (by rfl)) (pss_one ps_never) pss_nil)
      (pss_one (ps_ret (pe_callTy (cTUPd rfl) rfl n_tuple (by decide +kernel) (pa_cons (pe_ix (ixANY hu) (pe_fld (pv 0) rfl) (pv 1) (fun _ _ => rfl)) pa_nil))))), ?_⟩
  rintro ds R hl ⟨text, sh, n, cs, rfl, hlk, hR⟩
  walk_at "dl0"
  walk_at "dl"
  refine rd_fld ?_
  walk_at "dl"
  refine ⟨_, _, _, rfl, cl, na__shape, rfl, ?_⟩
  walk_at "dl"
  rw [hlk]
  refine ⟨(fun h => nomatch h), fun _ => ?_⟩
  walk_at "dl"
  refine rd_fld ?_
  walk_at "dl"
  refine ⟨_, _, _, rfl, cl, na__shape, rfl, ?_⟩
  walk_at "dl"
  refine ix_dct hlk ?_
  walk_at "dl"
  refine tup_kd ?_
  refine ⟨_, rfl, ?_⟩
  exact hR

/-! ### what comes of a text -/
def outR (i : Int) : Da := .tup [.str ("refused" : Str), .int i]
def cOutcome (C : Addr) : CA := fun ds R => (∃ (d : Da) (n : String), ds = [d] ∧ tyN d = some n ∧ kitB n "str" = some false ∧ R (outR (-1))) ∨
  ∃ text : Str, ds = [.str text] ∧ text.length ≤ 900000 ∧ fine (linesOf text) ∧ (∀ i : Nat, runR (wrote (linesOf text)) 0 (linesOf text) [] = .inl i → R (outR i)) ∧ ∀ s, runR (wrote (linesOf text)) 0 (linesOf text) [] = .inr s → R (.tup [.str ("made" : Str), .obj C (schF text (shD s))])
abbrev st__law_outcome : Stmt := topR 38
abbrev N__law_outcome : List Str := ["_law_text", "_law_made", "e"]
theorem sc__law_outcome : FnScope N__law_outcome ["_law_text"] (defScope st__law_outcome) := ⟨rfl, rfl, rfl, by decide +kernel, rfl, by decide +kernel, by decide +kernel⟩
abbrev sp__law_outcome (K : PySem.W.Frag) (A_Schema : Addr) : Sp := spA K 1 (cOutcome A_Schema)
theorem ok__law_outcome {A_BadSchema A_Schema : Addr} {P : Program} {w : World} {K : PySem.W.Frag} {mg : Str → Option Value} {base : Heap} (d : DefAt K mg "_law_outcome" st__law_outcome ["_law_text"]) (c_Schema : MakG P w K mg base (L2.CX P w) 6 "Schema" A_Schema (sp_Schema___init___R K A_BadSchema A_Schema)) (e_BadSchema : mg "BadSchema" = some (.ref A_BadSchema)) (f_BadSchema : XfC K A_BadSchema) (fn_BadSchema_at : PySem.W.findIn K (.ref A_BadSchema) "at" = some none) (m_BadSchema : PySem.W.exmOne K (.ref A_BadSchema) (.ref A_BadSchema) = some true) : CalG P w K mg base CX0 8 "_law_outcome" (sp__law_outcome K A_Schema) := by
  refine DefAt.cal d fun {f fd} F => fn_A (n := 1) F sc__law_outcome rfl fun cdv A outer s H E hr => ?_
  have hu := hr.r.units
  have hv := hr.u65
  refine ⟨_, (pss_cons (ps_tryA sc__law_outcome.nd rfl rfl takes0 (fun W pn xe tkW _ => (pss_one (ps_set (i := 1) sc__law_outcome.nd rfl (Or.inl rfl) (pe_mkgS c_Schema hr (by decide) tkW rfl (pa_cons (pv 0) pa_nil)))))
      (HdsA.cons (i := 2) rfl rfl ⟨rfl, by decide, .inl e_BadSchema⟩ (fun a oe cls dd pn hz hf => (pss_one (ps_ret (pe_tup (pa_cons pe_str (pa_cons (pe_xf f_BadSchema fn_BadSchema_at hz hf (pv 2)) pa_nil))))))
      HdsA.nil))
      (pss_one (ps_ret (pe_tup (pa_cons pe_str (pa_cons (pv 1) pa_nil)))))), ?_⟩
  rintro ds R hl h
  rcases h with ⟨d, n, rfl, hd, hn, hR⟩ | ⟨text, rfl, ht, hf, hP, hR⟩
  · walk_at "dl0"
    refine rs_seq (rs_try fun W => ?_)
    refine ry_set (rdx_make ?_)
    walk_at "dl"
    refine ⟨rfl, .inl ⟨d, n, rfl, hd, hn, ?_⟩⟩
    refine .hit m_BadSchema fun a dx => ?_
    refine rsf_ret (rdf_tup (raf_cons (rdf_lift (rd_str ?_))))
    refine raf_cons (rdf_xf (i := 2) rfl rfl ?_)
    refine raf_nil ?_
    exact ⟨_, rfl, Nat.le_of_ble_eq_true rfl, _, rfl, hR⟩
  · walk_at "dl0"
    refine rs_seq (rs_try fun W => ?_)
    refine ry_set (rdx_make ?_)
    walk_at "dl"
    refine ⟨rfl, .inr ⟨text, rfl, ht, hf, fun i hi => ?_, fun s hs => ?_⟩⟩
    · refine .hit m_BadSchema fun a dx => ?_
      refine rsf_ret (rdf_tup (raf_cons (rdf_lift (rd_str ?_))))
      refine raf_cons (rdf_xf (i := 2) rfl rfl ?_)
      refine raf_nil ?_
      exact ⟨_, rfl, Nat.le_of_ble_eq_true rfl, _, rfl, hP i hi⟩
    · walk_at "dl"
      exact hR s hs
end DL
namespace EL
open PySem L2
open PyProof.Rows (envOfC)
open DL

def cReading : CA := fun ds R => ∃ l : List Str, ds = [.lst (txts l)] ∧ fine l ∧ R (rdD (rdT (wrote l) 0 (l.map DL.wordsOf) []))
abbrev sp__law_reading (K : PySem.W.Frag) : Sp := spA K 1 cReading
theorem ok__law_reading {P : Program} {w : World} {K : PySem.W.Frag} {mg : Str → Option Value} {base : Heap} (d : DefAt K mg "_law_reading" st__law_reading ["_law_lines_here"]) (n_enumerate : mg "enumerate" = none) (n_len : mg "len" = none) (c__law_is_column : CalG P w K mg base CX0 2 "_law_is_column" (sp__law_is_column K)) (c__law_is_word : CalG P w K mg base CX0 1 "_law_is_word" (sp__law_is_word K)) : CalG P w K mg base CX0 3 "_law_reading" (sp__law_reading K) :=
  DefAt.cal d fun {f fd} F => A_of_E (okE__law_reading n_enumerate n_len c__law_is_column c__law_is_word F) fun ds R hl ⟨l, e, hf, hR⟩ => by
    subst e
    obtain ⟨h', e, lk⟩ := reading_ok hf
    exact ⟨_, h', e, lk, hR⟩

def toT (s : Shp) : Tw := s.map fun x => (x.1, x.2.map (·.1))
theorem look_some {n : Str} : ∀ c : List (Str × Da), (c.lookup n).isSome = decide (n ∈ c.map (·.1))
  | [] => rfl
  | (k, d) :: r => by
    rw [List.lookup_cons]
    by_cases h : n = k
    · subst h
      simp
    · have h2 : (n == k) = false := by simpa using h
      rw [h2]
      simp only [List.map_cons, List.mem_cons, h, false_or]
      exact look_some r
theorem isCol_tab {known : List Str} {ws : List Str} (h : ws[0]? = some ("table" : Str)) : isCol known ws = false := by
  match ws, h with
  | [_], _ => rfl
  | a :: n :: r, h =>
    have ha : a = "table" := by simpa using h
    subst ha
    show (_ && (if ("table" : Str) = "link" then colLink known r else colPlain ("table" : Str) r)) = false
    rw [if_neg (by decide +kernel)]
    cases r with
    | nil => rw [show colPlain ("table" : Str) [] = false from by decide +kernel, Bool.and_false]
    | cons x y => rw [show colPlain ("table" : Str) (x :: y) = false from rfl, Bool.and_false]
theorem stepSh_nil {known ws : List Str} (ht : isTab ws = false) : stepSh known [] ws = none := by
  unfold stepSh
  rw [if_neg (by rw [ht]; decide)]
theorem stepSh_short {known ws : List Str} {s : Shp} (h : ws.length < 2) : stepSh known s ws = none := by
  have ht : isTab ws = false := isTab_len (by omega)
  unfold stepSh
  rw [if_neg (by rw [ht]; decide)]
  rcases ws with _ | ⟨a, _ | ⟨n, q⟩⟩
  · cases s <;> rfl
  · cases s <;> rfl
  · simp only [List.length_cons] at h; omega
theorem stepSh_two {known : List Str} {t a n : Str} {q : List Str} {c : List (Str × Da)} {r : Shp} (ht : isTab (a :: n :: q) = false) : stepSh known ((t, c) :: r) (a :: n :: q) = if (isCol known (a :: n :: q) && (!(c.lookup n).isSome && decide (c.length < 6))) = true then some ((t, c ++ [(n, meanOf (a :: n :: q))]) :: r) else none := by
  unfold stepSh
  rw [if_neg (by rw [ht]; decide)]
theorem step_rel {known ws : List Str} {s : Shp} (h6 : ∀ x ∈ s, x.2.length ≤ 6) : stepT known (toT s) ws = (stepSh known s ws).map toT ∧ ∀ s', stepSh known s ws = some s' → ∀ x ∈ s', x.2.length ≤ 6 := by
  have hf : (toT s).map (·.1) = s.map (·.1) := by simp [toT]
  have hl : (toT s).length = s.length := by simp [toT]
  cases ht : isTab ws with
  | true =>
    obtain ⟨a, n, e⟩ := isTab_two ht
    subst e
    have ht' : (decide (a = "table") && isWord n) = true := ht
    simp only [Bool.and_eq_true, decide_eq_true_eq] at ht'
    obtain ⟨ha, hn⟩ := ht'
    have hs : stepSh known s [a, n] = if n ∈ s.map (·.1) ∨ s.length = 5 then none else some ((n, []) :: s) := by
      unfold stepSh
      rw [if_pos ht]
    rw [hs, stepT_tab (by rw [ha]; rfl)]
    have hA : tabA (toT s) [a, n] = true ↔ ¬ (n ∈ s.map (·.1) ∨ s.length = 5) := by
      show (isWord n && (!decide (n ∈ (toT s).map (·.1)) && !decide ((toT s).length = 5))) = true ↔ _
      rw [hf, hl, hn]
      simp
    by_cases hb : n ∈ s.map (·.1) ∨ s.length = 5
    · rw [if_pos hb, if_neg (fun q => (hA.mp q) hb)]
      exact ⟨rfl, fun s' e => nomatch e⟩
    · rw [if_neg hb, if_pos (hA.mpr hb)]
      refine ⟨rfl, fun s' e x hx => ?_⟩
      cases e
      rcases List.mem_cons.mp hx with e | e
      · subst e; exact Nat.zero_le _
      · exact h6 x e
  | false =>
    by_cases h0 : ws[0]? = some ("table" : Str)
    · have hc := isCol_tab (known := known) h0
      have hA : tabA (toT s) ws ≠ true := fun q => by
        obtain ⟨z, n, e, hn, _⟩ := tabA_is q
        subst e
        have hz : z = "table" := by simpa using h0
        have : isTab [z, n] = true := by
          show (decide (z = "table") && isWord n) = true
          rw [hz, hn]; decide +kernel
        rw [this] at ht
        cases ht
      rw [stepT_tab h0, if_neg hA]
      rcases s with _ | ⟨⟨t, c⟩, r⟩
      · rw [stepSh_nil ht]
        exact ⟨rfl, fun s' e => nomatch e⟩
      rcases ws with _ | ⟨a, _ | ⟨n, q⟩⟩
      · rw [stepSh_short (by decide)]
        exact ⟨rfl, fun s' e => nomatch e⟩
      · rw [stepSh_short (by simp)]
        exact ⟨rfl, fun s' e => nomatch e⟩
      · rw [stepSh_two ht, hc, Bool.false_and, if_neg (by decide)]
        exact ⟨rfl, fun s' e => nomatch e⟩
    · rcases s with _ | ⟨⟨t, c⟩, r⟩
      · have : stepT known (toT []) ws = none := stepT_nil h0
        rw [this, stepSh_nil ht]
        exact ⟨rfl, fun s' e => nomatch e⟩
      have hst : stepT known (toT ((t, c) :: r)) ws = if isColT known (c.map (·.1)) ws = true then some ((t, c.map (·.1) ++ [ws.getD 1 ""]) :: toT r) else none := stepT_col h0
      rw [hst]
      rcases ws with _ | ⟨a, _ | ⟨n, q⟩⟩
      · rw [stepSh_short (by decide)]
        exact ⟨rfl, fun s' e => nomatch e⟩
      · rw [stepSh_short (by simp)]
        exact ⟨rfl, fun s' e => nomatch e⟩
      have c6 : c.length ≤ 6 := h6 (t, c) (by simp)
      have hc : isColT known (c.map (·.1)) (a :: n :: q) = (isCol known (a :: n :: q) && (!(c.lookup n).isSome && decide (c.length < 6))) := by
        show (isCol known (a :: n :: q) && (!decide (n ∈ c.map (·.1)) && !decide ((c.map (·.1)).length = 6))) = _
        rw [look_some, List.length_map]
        by_cases h : c.length = 6
        · rw [decide_eq_true h, (decide_eq_false (by omega) : decide (c.length < 6) = false)]; rfl
        · rw [decide_eq_false h, (decide_eq_true (by omega) : decide (c.length < 6) = true)]; rfl
      rw [hc, stepSh_two ht]
      by_cases hb : (isCol known (a :: n :: q) && (!(c.lookup n).isSome && decide (c.length < 6))) = true
      · rw [if_pos hb, if_pos hb]
        refine ⟨?_, fun s' e x hx => ?_⟩
        · simp [toT]
        · cases e
          simp only [Bool.and_eq_true, decide_eq_true_eq] at hb
          rcases List.mem_cons.mp hx with e | e
          · subst e
            simp only [List.length_append, List.length_cons, List.length_nil]
            omega
          · exact h6 x (by simp [e])
      · rw [if_neg hb, if_neg hb]
        exact ⟨rfl, fun s' e => nomatch e⟩
theorem run_rel {known : List Str} : ∀ (l : List Str) (k : Nat) (s : Shp), (∀ x ∈ s, x.2.length ≤ 6) → match runR known k l s with
    | .inl i => (rdT known k (l.map DL.wordsOf) (toT s)).1 = (i : Int)
    | .inr s' => rdT known k (l.map DL.wordsOf) (toT s) = (-1, toT s')
  | [], k, s, _ => rfl
  | z :: r, k, s, h6 => by
    obtain ⟨e1, e2⟩ := step_rel (known := known) (ws := DL.wordsOf z) h6
    have er : runR known k (z :: r) s = match stepSh known s (DL.wordsOf z) with
      | some s' => runR known (k + 1) r s'
      | none => .inl k := rfl
    have et : rdT known k ((z :: r).map DL.wordsOf) (toT s) = match stepT known (toT s) (DL.wordsOf z) with
      | some T' => rdT known (k + 1) (r.map DL.wordsOf) T'
      | none => ((k : Int), toT s) := rfl
    rw [er, et, e1]
    cases q : stepSh known s (DL.wordsOf z) with
    | none => rfl
    | some s' => exact run_rel r (k + 1) s' (e2 s' q)
structure okTn (T : Tw) : Prop where
  n5 : T.length ≤ 5
  w1 : ∀ x ∈ T, isWord x.1 = true
  cw : ∀ x ∈ T, ∀ z ∈ x.2, isWord z = true
  nd : (T.map (·.1)).Nodup
theorem stepT_ok {known ws : List Str} {T T' : Tw} (ok : okTn T) (h : stepT known T ws = some T') : okTn T' := by
  by_cases h0 : ws[0]? = some ("table" : Str)
  · rw [stepT_tab h0] at h
    by_cases hA : tabA T ws = true
    · rw [if_pos hA] at h
      obtain ⟨z, n, e, hn, h5⟩ := tabA_is hA
      subst e
      have hA' : (isWord n && (!decide (n ∈ T.map (·.1)) && !decide (T.length = 5))) = true := hA
      simp only [Bool.and_eq_true, Bool.not_eq_true', decide_eq_false_iff_not] at hA'
      cases h
      have n5 := ok.n5
      refine ⟨by simp only [List.length_cons]; omega, fun x hx => ?_, fun x hx => ?_, ?_⟩
      · rcases List.mem_cons.mp hx with e | e
        · subst e; exact hn
        · exact ok.w1 x e
      · rcases List.mem_cons.mp hx with e | e
        · subst e; exact fun z hz => nomatch hz
        · exact ok.cw x e
      · exact List.nodup_cons.mpr ⟨hA'.2.1, ok.nd⟩
    · rw [if_neg hA] at h; cases h
  · cases T with
    | nil => rw [stepT_nil h0] at h; cases h
    | cons x T2 =>
      obtain ⟨t, c⟩ := x
      rw [stepT_col h0] at h
      by_cases hc : isColT known c ws = true
      · rw [if_pos hc] at h
        obtain ⟨z, n, q, e, hn, _⟩ := isColT_is hc
        subst e
        cases h
        refine ⟨ok.n5, fun x hx => ?_, fun x hx => ?_, ok.nd⟩
        · rcases List.mem_cons.mp hx with e | e
          · subst e; exact ok.w1 (t, c) (by simp)
          · exact ok.w1 x (by simp [e])
        · rcases List.mem_cons.mp hx with e | e
          · subst e
            intro y hy
            rcases List.mem_append.mp hy with e | e
            · exact ok.cw (t, c) (by simp) y e
            · rw [List.mem_singleton.mp e]; exact hn
          · exact ok.cw x (by simp [e])
      · rw [if_neg hc] at h; cases h
theorem rdT_ok {known : List Str} : ∀ (L : List (List Str)) (k : Nat) (T : Tw), okTn T → okTn (rdT known k L T).2
  | [], _, _, ok => ok
  | ws :: r, k, T, ok => by
    have et : rdT known k (ws :: r) T = match stepT known T ws with
      | some T' => rdT known (k + 1) r T'
      | none => ((k : Int), T) := rfl
    rw [et]
    cases q : stepT known T ws with
    | none => exact ok
    | some T' => exact rdT_ok r (k + 1) T' (stepT_ok ok q)
/-- both read the same -/
theorem read_same (l : List Str) : okTn (rdT (wrote l) 0 (l.map DL.wordsOf) []).2 ∧ match runR (wrote l) 0 l [] with
    | .inl i => (rdT (wrote l) 0 (l.map DL.wordsOf) []).1 = (i : Int)
    | .inr s => rdT (wrote l) 0 (l.map DL.wordsOf) [] = (-1, toT s) :=
  ⟨rdT_ok _ _ _ ⟨by decide, (fun x hx => nomatch hx), (fun x hx => nomatch hx), List.nodup_nil⟩, run_rel l 0 [] (fun x hx => nomatch hx)⟩
end EL
namespace DL
open PySem L2
open PyProof.Rows (envOfC)
/-- a side condition -/
local macro_rules | `(tactic| walk_at "side") => `(tactic| first | rfl | assumption | omega | decide | (simp only [Str.length]; omega))
/-- one step of a reading -/
local macro_rules | `(tactic| walk_at "dl1") => `(tactic| with_reducible first
  | refine rs_seq ?_
  | refine rs_set ?_
  | refine rs_ret ?_
  | refine rs_retN ?_
  | refine rs_next ?_
  | refine rs_if ?_
  | refine rs_par ?_
  | refine rs_par3 ?_
  | refine rd_int ?_
  | refine rd_str ?_
  | refine rd_bl ?_
  | refine rd_non ?_
  | refine rd_ty ?_
  | refine rd_cls ?_
  | refine rd_op ?_
  | refine rd_cb ?_
  | refine rd_if ?_
  | refine rd_neg ?_
  | refine rd_chain ?_
  | refine rd_andV ?_
  | refine rd_orV ?_
  | refine rd_notV ?_
  | refine ra_cons ?_
  | refine ra_nil ?_
  | refine rt_test ?_
  | refine rt_yes ?_
  | refine rt_b ?_
  | refine rt_and ?_
  | refine rt_or ?_
  | refine rt_not ?_
  | refine rg_name ?_
  | refine rgs_nil ?_
  | refine rgs_cons ?_
  | refine call_a ?_
  | refine call_p ?_
  | refine call_n ?_
  | refine tup_d ?_
  | refine mk_x rfl (Nat.le_of_ble_eq_true rfl) ?_
  | refine rd_mk0 ?_
  | refine meth_a ?_
  | refine make_a ?_
  | refine rd_join ?_
  | refine rd_split ?_
  | refine add_i ?_
  | refine sub_i ?_
  | refine mod_i (by walk_at "side") ?_
  | refine lt_i ?_
  | refine le_i ?_
  | refine gt_i ?_
  | refine ge_i ?_
  | refine eq_i ?_
  | refine ne_i ?_
  | refine eq_s ?_
  | refine ne_s ?_
  | refine eq_sn ?_
  | refine eq_ns ?_
  | refine eq_nn ?_
  | refine ne_sn ?_
  | refine ne_ns ?_
  | refine ne_nn ?_
  | refine eq_b ?_
  | refine ne_b ?_
  | refine is_n ?_
  | refine not_n ?_
  | refine in_dct ?_
  | refine nin_dct ?_
  | refine int_i ?_
  | refine abs_i ?_
  | refine max_i ?_
  | refine min_i ?_
  | refine len_t ?_
  | refine len_d ?_
  | refine len_scr ?_
  | refine len_l (IsL.dat _) ?_
  | refine str_s ?_)
/-- names, by their slots -/
local macro_rules | `(tactic| walk_at "dlv") => `(tactic| first
  | refine rd_varD (i := _) rfl ?_
  | refine rd_varO (i := _) rfl ?_)
/-- at the entry: the slots written out -/
local macro_rules | `(tactic| walk_at "dl0") => `(tactic| (dsimp only [cxOf, Cx.nox, Cx.wish]; simp only [startD, dats, List.map_cons, List.map_nil, List.cons_append, List.nil_append, List.length_cons, List.length_nil, Nat.reduceAdd, Nat.reduceSub, List.replicate_succ, List.replicate_zero, List.replicate]))
/-- what a rule asks besides, where it is plain -/
local macro_rules | `(tactic| walk_at "dlx") => `(tactic| first
  | refine ⟨(fun (hz : false = true) => nomatch hz), fun _ => ?_⟩
  | refine ⟨fun _ => ?_, fun (hz : true = false) => nomatch hz⟩
  | refine ⟨Nat.le_of_ble_eq_true rfl, ?_⟩
  | (with_reducible refine ⟨_, rfl, ?_⟩)
  | refine ⟨_, rfl, rfl, ?_⟩
  | refine ⟨_, rfl, Nat.le_of_ble_eq_true rfl, ?_⟩
  | (with_reducible refine ⟨_, _, rfl, ?_⟩)
  | (with_reducible refine ⟨_, _, _, rfl, ?_⟩)
  | refine ⟨_, _, _, 0, _, _, rfl, rfl, rfl, rfl, ?_⟩
  | refine ⟨_, _, _, 1, _, _, rfl, rfl, rfl, rfl, ?_⟩
  | refine ⟨_, _, _, 2, _, _, rfl, rfl, rfl, rfl, ?_⟩
  | refine ⟨_, _, _, 3, _, _, rfl, rfl, rfl, rfl, ?_⟩)
/-- as far as it goes by itself -/
local macro_rules | `(tactic| walk_at "dl") => `(tactic| (repeat (first | walk_at "dl1" | walk_at "dlv" | walk_at "dlx"); try dsimp only [wipeD, List.set_cons_zero, List.set_cons_succ]))
local macro_rules | `(tactic| walk_at "dlk") => `(tactic| (repeat (first | walk_at "dl1" | walk_at "dlv" | (with_reducible refine lst_d ?_) | (with_reducible refine rd_fldx ?_) | (refine add_l (IsL.dat _) (IsL.dat _) (Nat.le_of_ble_eq_true rfl) ?_) | (refine ⟨_, _, _, rfl, by assumption, by assumption, rfl, ?_⟩) | (refine ⟨rfl, rfl, _, rfl, by assumption, ?_⟩) | (refine ⟨rfl, rfl, _, _, rfl, by assumption, by assumption, ?_⟩) | (refine ⟨rfl, rfl, _, _, _, rfl, by assumption, by assumption, by assumption, ?_⟩) | (refine ⟨_, rfl, rfl, rfl, _, rfl, by assumption, ?_⟩) | (refine ⟨_, rfl, rfl, rfl, _, _, rfl, by assumption, by assumption, ?_⟩) | (refine ⟨_, rfl, rfl, rfl, _, _, _, rfl, by assumption, by assumption, by assumption, ?_⟩) | (refine ⟨(rfl : List.length _ = _), ?_⟩) | walk_at "dlx"); try dsimp only [wipeD, List.set_cons_zero, List.set_cons_succ]))

def cPool : List Da → Prop := fun ds => ∃ (ns : List Int) (i : Int), ds = [.scr ns, .int i] ∧ 0 ≤ i ∧ i ≤ 100
abbrev st__law_pool : Stmt := topR 23
abbrev N__law_pool : List Str := ["_law_script", "_law_at", "_law_cell", "_law_digits"]
theorem sc__law_pool : FnScope N__law_pool ["_law_script", "_law_at"] (defScope st__law_pool) := ⟨rfl, rfl, rfl, by decide +kernel, rfl, by decide +kernel, by decide +kernel⟩
abbrev sp__law_pool (K : PySem.W.Frag) : Sp := spN K 2 cPool
theorem ok__law_pool {P : Program} {w : World} {K : PySem.W.Frag} {mg : Str → Option Value} {base : Heap} (d : DefAt K mg "_law_pool" st__law_pool ["_law_script", "_law_at"]) (n_abs : mg "abs" = none) (n_int : mg "int" = none) (n_len : mg "len" = none)  : CalG P w K mg base CX0 1 "_law_pool" (sp__law_pool K) := by
  refine DefAt.cal d fun {f fd} F => fn_N (n := 2) F sc__law_pool rfl fun cdv A outer s H E hr => ?_
  have hu := hr.r.units
  have hv := hr.u65
  refine ⟨_, (pss_cons (ps_set (i := 2) sc__law_pool.nd rfl (Or.inl rfl) (pe_ifExp (pt_cmpR opLT (pv 1) (pe_callB cLEN rfl n_len (by decide +kernel) (pa_cons (pv 0) pa_nil)) (nomark _)) (pe_ix (ixANY hu) (pv 0) (pv 1) (fun _ _ => rfl)) pe_int))
      (pss_cons (ps_set (i := 3) sc__law_pool.nd rfl (Or.inl rfl) (pe_ifExp (pt_cmpR opGE (pe_callB cABS rfl n_abs (by decide +kernel) (pa_cons (pv 2) pa_nil)) (pe_op opPOW pe_int pe_int) (nomark _)) (pe_callB cABS rfl n_abs (by decide +kernel) (pa_cons (pv 2) pa_nil)) pe_int))
      (pss_one (ps_ret (pe_lst (pa_cons (pv 3) (pa_cons (pe_op opADD (pe_op opADD (pe_op opMUL (pe_op opMOD (pe_callTy cINT rfl n_int (by decide +kernel) (pa_cons (pv 2) pa_nil)) pe_int) pe_int) (pe_op opMUL pe_int (pv 1))) pe_int) (pa_cons pe_int pa_nil)))))))), ?_⟩
  rintro ds hl ⟨ns, i, rfl, h0, h1⟩
  walk_at "dl0"
  walk_at "dl"
  refine ⟨fun hb => ?_, fun hb => ?_⟩
  · have hb' : i < (ns.length : Int) := by simpa using hb
    walk_at "dl"
    obtain ⟨n, hn, -⟩ := atI_some h0 hb'
    refine ix_scr hn ?_
    clear hn
    walk_at "dl"
    refine pow_i ⟨by decide, powB_ok (a := 4) (by decide) (by decide)⟩ ?_
    walk_at "dl"
    refine ⟨fun hc => ?_, fun hc => ?_⟩
    all_goals (
      walk_at "dl"
      refine lst_p ?_
      walk_at "dl"
      generalize hz : (n : Int) % 618970019642690137449562111 = z
      have z0 : 0 ≤ z := by rw [← hz]; exact Int.emod_nonneg _ (by decide)
      have z1 : z < 618970019642690137449562111 := by rw [← hz]; exact Int.emod_lt_of_pos _ (by decide)
      refine mul_i (mulx_ok (a := 100) (b := 10) (by omega) (by decide) (by decide)) ?_
      walk_at "dl"
      refine mul_i (mulx_ok (a := 20) (b := 20) (by decide) (by omega) (by decide)) ?_
      walk_at "dl"
      refine ⟨?_, by omega, by omega, fun a => ⟨a, 0, rfl, rfl⟩⟩
      first
        | decide
        | (split <;> omega))
  · walk_at "dl"
    refine pow_i ⟨by decide, powB_ok (a := 4) (by decide) (by decide)⟩ ?_
    walk_at "dl"
    refine lst_p ?_
    walk_at "dl"
    generalize hz : (0 : Int) % 618970019642690137449562111 = z
    have z0 : 0 ≤ z := by rw [← hz]; exact Int.emod_nonneg _ (by decide)
    have z1 : z < 618970019642690137449562111 := by rw [← hz]; exact Int.emod_lt_of_pos _ (by decide)
    refine mul_i (mulx_ok (a := 100) (b := 10) (by omega) (by decide) (by decide)) ?_
    walk_at "dl"
    refine mul_i (mulx_ok (a := 20) (b := 20) (by decide) (by omega) (by decide)) ?_
    walk_at "dl"
    refine ⟨by decide, by omega, by omega, fun a => ⟨a, 0, rfl, rfl⟩⟩

theorem turns {m : Int} (h : 0 ≤ m) : ∃ q : Nat, (if (if m < 8 then m else 8) > 1 then (if m < 8 then m else 8) else 1) = (q : Int) ∧ q ≤ 8 := by
  refine ⟨(if (if m < 8 then m else 8) > 1 then (if m < 8 then m else 8) else 1).toNat, ?_, ?_⟩
  · split <;> split <;> omega
  · split <;> split <;> omega

/-- how wide lines may be after some turns -/
def wB : Nat → Nat
  | 0 => 1500
  | i + 1 => 3 * wB i + 201
theorem wB_le : ∀ {i : Nat}, i ≤ 3 → wB i ≤ 45000 ∧ (i ≤ 2 → wB i ≤ 30000)
  | 0, _ => by decide
  | 1, _ => by decide
  | 2, _ => by decide
  | 3, _ => by decide
theorem turn_nice {W : Nat} {l' : List Str} (h1 : ∀ x ∈ l', 10 ∉ TL.tl x) (h2 : wide l' ≤ 3 * W + 200) : nice (3 * W + 201) (Txt.split (Txt.join ((("\n" : Str))) l') ("\n" : Str)) := by
  have h := lines_nice (Txt.join ((("\n" : Str))) l')
  have hl := join_len l'
  exact ⟨h.ne, h.no, Nat.le_trans h.wd (by omega)⟩
section
variable {K : PySem.W.Frag} {δ : List SK} {μ : Mu} {Q : SK → Mu → Prop}
theorem tup_kl {ds : List Da} (q : Q (.dat (.tup ds)) μ) : RC K (rTUPd K) [.dat (.lst ds)] δ μ Q := rc_or1 (tup_l (IsL.dat _) (fun _ => nofun) q)
end
def dueT (T : EL.Tw) : List Da := T.reverse.map fun x => .tup (txts x.2)
theorem cols_eq (T : EL.Tw) : EL.colsT T = T.reverse.map fun x => Da.lst (txts x.2) := by unfold EL.colsT; rw [List.map_reverse]
theorem names_eq (T : EL.Tw) : EL.namesT T = T.reverse.map (·.1) := by unfold EL.namesT; rw [List.map_reverse]
theorem cols_at {T : EL.Tw} {k : Nat} {d : Da} (h : (EL.colsT T)[k]? = some d) : ∃ x : Str × List Str, T.reverse[k]? = some x ∧ d = .lst (txts x.2) ∧ (dueT T)[k]? = some (.tup (txts x.2)) := by
  rw [cols_eq, List.getElem?_map] at h
  cases e : T.reverse[k]? with
  | none => rw [e] at h; cases h
  | some x =>
    rw [e] at h
    cases h
    exact ⟨x, rfl, rfl, by unfold dueT; rw [List.getElem?_map, e]; rfl⟩
theorem due_len (T : EL.Tw) : (dueT T).length = T.length := by simp [dueT]
theorem due_lt {T : EL.Tw} {k : Nat} {d : Da} (h : (dueT T)[k]? = some d) : k < T.length := by
  have := (List.getElem?_eq_some_iff.mp h).1
  rw [due_len] at this
  exact this
theorem due_all {T : EL.Tw} : (dueT T).take (EL.colsT T).length = dueT T := by
  rw [List.take_of_length_le]
  rw [cols_eq]
  simp [dueT]
theorem due_all2 {T : EL.Tw} : (dueT T).take (txts (EL.namesT T)).length = dueT T := by
  rw [List.take_of_length_le]
  rw [names_eq]
  simp [dueT, txts]
theorem due_shp {T : EL.Tw} (ok : EL.okTn T) : shp (.lst (dueT T)) = true := by
  refine low_ok (n := 2) (List.all_eq_true.mpr fun d hd => ?_)
  obtain ⟨x, hx, rfl⟩ := List.mem_map.mp hd
  exact txts_low fun z hz => word_ok (ok.cw x (List.mem_reverse.mp hx) z hz)
theorem namesT_shp {T : EL.Tw} (ok : EL.okTn T) : shp (.tup (txts (EL.namesT T))) = true := (txts_shp fun z hz => by
  rw [names_eq] at hz
  obtain ⟨x, hx, rfl⟩ := List.mem_map.mp hz
  exact ok.w1 x (List.mem_reverse.mp hx)).2
theorem sh_names {s : Shp} : (shD s).map (·.1) = EL.namesT (EL.toT s) := by
  rw [names_eq]
  simp [shD, EL.toT, List.map_reverse]
theorem names_at {s : Shp} (ok : EL.okTn (EL.toT s)) {k : Nat} {d : Da} (h : (txts (EL.namesT (EL.toT s)))[k]? = some d) : ∃ (n : Str) (cs : List (Str × Da)), d = .str n ∧ (shD s).lookup n = some (.dct cs) ∧ (dueT (EL.toT s))[k]? = some (.tup (txts (cs.map (·.1)))) := by
  have e1 : txts (EL.namesT (EL.toT s)) = s.reverse.map fun x => Da.str x.1 := by
    rw [names_eq]
    simp [txts, EL.toT, List.map_reverse]
  rw [e1, List.getElem?_map] at h
  cases e : s.reverse[k]? with
  | none => rw [e] at h; cases h
  | some x =>
    rw [e] at h
    cases h
    refine ⟨x.1, x.2, rfl, ?_, ?_⟩
    · refine lookup_nodup ?_ ?_
      · rw [sh_names]
        unfold EL.namesT
        exact (List.reverse_perm _).nodup_iff.mpr ok.nd
      · unfold shD
        exact List.mem_map.mpr ⟨x, List.mem_of_getElem? e, rfl⟩
    · have e2 : dueT (EL.toT s) = s.reverse.map fun x => Da.tup (txts (x.2.map (·.1))) := by
        simp [dueT, EL.toT, List.map_reverse]
      rw [e2, List.getElem?_map, e]
      rfl
theorem thing_ok {x : Da} {as bs cs : List Da} (h : x ∈ [Da.non, .int 0, .int 1, .bl true, .lst as, .tup bs, .tup cs, .lst []]) : ∃ n, tyN x = some n ∧ kitB n "str" = some false := by
  simp only [List.mem_cons, List.not_mem_nil, or_false] at h
  rcases h with u | u | u | u | u | u | u | u <;> subst u
  · exact ⟨"NoneType", rfl, by decide +kernel⟩
  · exact ⟨"int", rfl, by decide +kernel⟩
  · exact ⟨"int", rfl, by decide +kernel⟩
  · exact ⟨"bool", rfl, by decide +kernel⟩
  · exact ⟨"list", rfl, by decide +kernel⟩
  · exact ⟨"tuple", rfl, by decide +kernel⟩
  · exact ⟨"tuple", rfl, by decide +kernel⟩
  · exact ⟨"list", rfl, by decide +kernel⟩
theorem lookup_nd {α : Type} {z : Str} {b : α} : ∀ {l : List (Str × α)}, (l.map (·.1)).Nodup → (z, b) ∈ l → l.lookup z = some b := lookup_nodup
abbrev st_law : Stmt := topR 39
abbrev N_law : List Str := ["_law_script", "_law_at", "_law_pool_here", "_law_lines_here", "_law_turn", "_law_wrong", "_law_names", "_law_columns_here", "_law_told", "_law_what", "_law_due", "_law_row", "_law_name", "_law_thing"]
theorem sc_law : FnScope N_law ["_law_script"] (defScope st_law) := ⟨rfl, rfl, rfl, by decide +kernel, rfl, by decide +kernel, by decide +kernel⟩
abbrev sp_law (K : PySem.W.Frag) (A_Schema : Addr) : Sp := spA K 1 cScr
theorem ok_law {A_Schema : Addr} {P : Program} {w : World} {K : PySem.W.Frag} {mg : Str → Option Value} {base : Heap} {f : Addr} {fd : FuncData} (F : Fun K "law" "law" st_law f fd) (n_bool : mg "bool" = none) (n_int : mg "int" = none) (n_isinstance : mg "isinstance" = none) (n_len : mg "len" = none) (n_max : mg "max" = none) (n_min : mg "min" = none) (n_range : mg "range" = none) (n_tuple : mg "tuple" = none) (c__law_changed : CalG P w K mg base CX0 5 "_law_changed" (sp__law_changed K)) (c__law_draw : CalG P w K mg base CX0 1 "_law_draw" (sp__law_draw K)) (c__law_lines : CalG P w K mg base CX0 1 "_law_lines" (sp__law_lines K)) (c__law_of : CalG P w K mg base CX0 2 "_law_of" (sp__law_of K)) (c__law_outcome : CalG P w K mg base CX0 8 "_law_outcome" (sp__law_outcome K A_Schema)) (c__law_pool : CalG P w K mg base CX0 1 "_law_pool" (sp__law_pool K)) (c__law_reading : CalG P w K mg base CX0 3 "_law_reading" (EL.sp__law_reading K)) (c__law_tables : CalG P w K mg base CX0 4 "_law_tables" (sp__law_tables K)) (c_columns : MetG P w K mg base CX0 1 A_Schema "columns" (sp_Schema_columnsG K A_Schema)) (cl : Cls K A_Schema) (na_tables : NoAttr K A_Schema "tables") : FnG P w K mg base CX0 9 f fd ["_law_script"] (sp_law K A_Schema) := by
  refine fn_A (n := 1) F sc_law rfl fun cdv A outer s H E hr => ?_
  have hu := hr.r.units
  have hv := hr.u65
  refine ⟨_, (pss_cons (ps_for PassesOwn.never rfl (pi_range1 rfl n_range (pa_cons (pe_callB (cMAX rfl) rfl n_max (by decide +kernel) (pa_cons pe_int (pa_cons (pe_callB (cMIN rfl) rfl n_min (by decide +kernel) (pa_cons pe_int (pa_cons (pe_callB cLEN rfl n_len (by decide +kernel) (pa_cons (pv 0) pa_nil)) pa_nil))) pa_nil))) pa_nil)) (pg_name (i := 1) sc_law.nd rfl (Or.inl rfl)) (pss_cons (ps_set (i := 2) sc_law.nd rfl (Or.inl rfl) (pe_cg c__law_pool hr (by decide) pass0 rfl (pa_cons (pv 0) (pa_cons (pv 1) pa_nil))))
      (pss_cons (ps_set (i := 3) sc_law.nd rfl (Or.inl rfl) (pe_cg c__law_lines hr (by decide) pass0 rfl (pa_cons (pe_cg c__law_tables hr (by decide) pass0 rfl (pa_cons (pv 2) (pa_cons pe_int (pa_cons pe_int pa_nil)))) pa_nil)))
      (pss_cons (ps_for PassesOwn.never rfl (pi_range1 rfl n_range (pa_cons (pe_cg c__law_draw hr (by decide) pass0 rfl (pa_cons (pv 2) (pa_cons pe_int pa_nil))) pa_nil)) (pg_name (i := 4) sc_law.nd rfl (Or.inl rfl)) (pss_one (ps_set (i := 3) sc_law.nd rfl (Or.inl rfl) (pe_split (pe_join pe_str (pe_cg c__law_changed hr (by decide) pass0 rfl (pa_cons (pv 2) (pa_cons (pv 3) pa_nil)))) pe_str))))
      (pss_cons (ps_asg (pe_cg c__law_reading hr (by decide) pass0 rfl (pa_cons (pv 3) pa_nil)) (pg_tup rfl (pgs_cons (pg_name (i := 5) sc_law.nd rfl (Or.inl rfl)) (pgs_cons (pg_name (i := 6) sc_law.nd rfl (Or.inl rfl)) (pgs_cons (pg_name (i := 7) sc_law.nd rfl (Or.inl rfl)) pgs_nil)))))
      (pss_cons (ps_asg (pe_cg c__law_outcome hr (by decide) pass0 rfl (pa_cons (pe_join pe_str (pv 3)) pa_nil)) (pg_tup rfl (pgs_cons (pg_name (i := 8) sc_law.nd rfl (Or.inl rfl)) (pgs_cons (pg_name (i := 9) sc_law.nd rfl (Or.inr rfl)) pgs_nil))))
      (pss_cons (ps_if (pt_cmpR (opNE hu) (pv 8) (pe_ifExp (pt_cmpR (opEQ hu) (pv 5) (pe_un un_neg pe_int) (nomark _)) pe_str pe_str) (nomark _)) (pss_one (ps_ret pe_bl)) pss_nil)
      (pss_cons (ps_if (PW.pt (pw_and (pt_cmpR (opNE hu) (pv 5) (pe_un un_neg pe_int) (nomark _)) (pw_and1 (PW.pt (pw_or (pt_cmpR (opNE hu) (pv 9) (pv 5) (nomark _)) (pw_or (pt_not (pt_val (pe_callB cISI rfl n_isinstance (by decide +kernel) (pa_cons (pv 9) (pa_cons (pe_bltn (v := V.ty "int") (u := Value.type "int") rfl n_int (by decide +kernel) rfl) pa_nil))))) (pw_or1 (pt_val (pe_callB cISI rfl n_isinstance (by decide +kernel) (pa_cons (pv 9) (pa_cons (pe_bltn (v := V.ty "bool") (u := Value.type "bool") rfl n_bool (by decide +kernel) rfl) pa_nil))))))))))) (pss_one (ps_ret pe_bl)) pss_nil)
      (pss_cons (ps_if (PW.pt (pw_and (pt_cmpR (opEQ hu) (pv 5) (pe_un un_neg pe_int) (nomark _)) (pw_and1 (pt_cmpR (opNE hu) (pe_fld (pv 9) rfl) (pe_callTy (cTUPd rfl) rfl n_tuple (by decide +kernel) (pa_cons (pv 6) pa_nil)) (nomark _))))) (pss_one (ps_ret pe_bl)) pss_nil)
      (pss_cons (ps_setLc (i := 10) (own := [("_law_row", 11)]) (g := gName 11) (tt := tYes) (te := tCB (rTUPd K) (tCons (tVar 11) (tNil))) rfl sc_law.nd rfl rfl (sw_true rfl rfl rfl (by decide +kernel)) (pi_list (pv 7)) (blkOk_by (N := N_law) (sc := defScope st_law) (by decide +kernel)) (fun _ _ _ _ _ => (pg_name (i := 11) sc_law.nd rfl (Or.inl rfl))) (fun _ _ _ _ _ => pts_nil) (fun _ _ _ _ _ => (pe_callTy (cTUPd rfl) rfl n_tuple (by decide +kernel) (pa_cons (pv 11) pa_nil))))
      (pss_cons (ps_if (PW.pt (pw_and (pt_cmpR (opEQ hu) (pv 5) (pe_un un_neg pe_int) (nomark _)) (pw_and1 (pt_cmpR (opNE hu) (pe_lc (own := [("_law_name", 12)]) (g := gName 12) (tt := tYes) (te := tMeth A_Schema "columns" (sp_Schema_columnsG K A_Schema) [] E0 (tVar 9) (tCons (tVar 12) (tNil))) rfl sc_law.nd (pi_list (pv 6)) (blkOk_by (N := N_law) (sc := defScope st_law) (by decide +kernel)) (fun _ _ _ _ _ => (pg_name (i := 12) sc_law.nd rfl (Or.inl rfl))) (fun _ _ _ _ _ => pts_nil) (fun _ _ _ _ _ => (pe_mg c_columns hr (by decide) pass0 (pv 9) (pa_cons (pv 12) pa_nil)))) (pv 10) (nomark _))))) (pss_one (ps_ret pe_bl)) pss_nil)
      (pss_cons (ps_set (i := 13) sc_law.nd rfl (Or.inl rfl) (pe_cg c__law_of hr (by decide) pass0 rfl (pa_cons (pv 2) (pa_cons (pe_lst (pa_cons pe_non (pa_cons pe_int (pa_cons pe_int (pa_cons pe_bl (pa_cons (pv 3) (pa_cons (pe_callTy (cTUPd rfl) rfl n_tuple (by decide +kernel) (pa_cons (pv 3) pa_nil)) (pa_cons (pe_tup (pa_cons (pe_join pe_str (pv 3)) pa_nil)) (pa_cons (pe_lst pa_nil) pa_nil))))))))) pa_nil))))
      (pss_one (ps_if (pt_cmpR (opNE hu) (pe_cg c__law_outcome hr (by decide) pass0 rfl (pa_cons (pv 13) pa_nil)) (pe_tup (pa_cons pe_str (pa_cons (pe_un un_neg pe_int) pa_nil))) (nomark _)) (pss_one (ps_ret pe_bl)) pss_nil))))))))))))))
      (pss_one (ps_ret pe_bl))), ?_⟩
  rintro ds R hl ⟨ns, rfl, hR⟩
  walk_at "dl0"
  walk_at "dl"
  refine rs_forR ?_
  walk_at "dl"
  obtain ⟨q, hq, hq8⟩ := turns (m := (ns.length : Int)) (by omega)
  rw [hq]
  refine ⟨q, rfl, by omega, fun i δ' μ' => ∃ x1 x2 x3 x4 x5 x6 x7 x8 x9 x10 x11 x12 x13 : SK, δ' = [.dat (.scr ns), x1, x2, x3, x4, x5, x6, x7, x8, x9, x10, x11, x12, x13], ⟨_, _, _, _, _, _, _, _, _, _, _, _, _, rfl⟩, ?_, ?_⟩
  · rintro i δ' μ' hi ⟨x1, x2, x3, x4, x5, x6, x7, x8, x9, x10, x11, x12, x13, rfl⟩
    refine rg_name ?_
    walk_at "dl"
    refine ⟨rfl, ⟨ns, (i : Int), rfl, by omega, by omega⟩, fun pl => ?_⟩
    walk_at "dl"
    refine ⟨5, 6, rfl, by decide, by decide, by decide, by decide, fun tb c1 hg hc1 => ?_⟩
    walk_at "dl"
    refine ⟨rfl, tb, rfl, hg, ?_⟩
    have hn0 := linesT_nice hg (by decide) (by decide)
    walk_at "dl"
    refine rs_forR ?_
    walk_at "dl"
    refine ⟨4, rfl, by decide, by decide, by omega, fun tn tn0 tn1 => ?_⟩
    obtain ⟨tn, rfl⟩ := Int.eq_ofNat_of_zero_le tn0
    have htn : tn ≤ 3 := by omega
    walk_at "dl"
    refine ⟨by omega, fun j δ' M => ∃ (l : List Str) (x4 : SK) (c' : Nat), δ' = [.dat (.scr ns), .dat (.int i), .own pl, .dat (.lst (txts l)), x4, x5, x6, x7, x8, x9, x10, x11, x12, x13] ∧ nice (wB j) l ∧ M = (pl, MK.pool c', true) :: μ' ∧ c' ≤ 2000 + 100 * j, ⟨linesT tb, _, _, rfl, hn0, rfl, by omega⟩, ?_, ?_⟩
    · rintro j δ' M hj ⟨l, y4, c', rfl, hnl, rfl, hc'⟩
      have hw := (wB_le (i := j) (by omega)).2 (by omega)
      refine rg_name ?_
      walk_at "dl"
      refine ⟨wB j, l, rfl, hnl, hw, by omega, fun l' c2 h1 h2 h3 => ?_⟩
      walk_at "dl"
      refine ⟨l', _, rfl, IsL.dat _, by show _ + _ * 1 ≤ _; rw [sum_wide]; omega, ?_⟩
      walk_at "dl"
      refine ⟨rfl, by have := join_len l'; omega, ?_⟩
      exact ⟨_, _, _, rfl, turn_nice h1 h2, rfl, by omega⟩
    rintro δ' M ⟨l, y4, c', rfl, hnl, rfl, hc'⟩
    have hw := (wB_le htn).1
    generalize wB tn = W at hnl hw
    have hfine := hnl.fine (by omega)
    have hlines := hnl.lines
    have hjl := join_len l
    have hwd := hnl.wd
    have hln := hnl.len
    obtain ⟨okn, same⟩ := EL.read_same l
    walk_at "dl"
    refine rs_asg ?_
    walk_at "dl"
    refine ⟨rfl, l, rfl, hfine, ?_⟩
    refine rg_tup rfl ?_
    refine rgs_cons (rg_name ?_)
    refine rgs_cons (rg_name ?_)
    refine rgs_cons (rg_name ?_)
    refine rgs_nil ?_
    walk_at "dl"
    refine rs_asg ?_
    walk_at "dl"
    refine ⟨l, _, rfl, IsL.dat _, by show _ + _ * 1 ≤ _; rw [sum_wide]; omega, ?_⟩
    walk_at "dl"
    have hcommon : ∀ (W9 : Nat) (d : Da) (n : String), True := fun _ _ _ => trivial
    refine ⟨rfl, .inr ⟨_, rfl, by omega, by rw [hlines]; exact hfine, fun e he => ?_, fun s hs => ?_⟩⟩
    · rw [hlines] at he
      rw [he] at same
      have hw5 : (EL.rdT (wrote l) 0 (l.map wordsOf) []).1 = (e : Int) := same
      rw [hw5]
      refine rg_tup rfl ?_
      refine rgs_cons (rg_name ?_)
      refine rgs_cons (rg_name ?_)
      refine rgs_nil ?_
      walk_at "dl"
      refine ⟨fun h => absurd h (by simp), fun _ => ?_⟩
      walk_at "dl"
      refine isi_ty (n := "int") (b := true) rfl (by decide +kernel) ?_
      walk_at "dl"
      refine isi_ty (n := "int") (b := false) rfl (by decide +kernel) ?_
      walk_at "dl"
      refine lc_o (tgIn_name (by decide)) ?_
      walk_at "dl"
      refine ⟨EL.colsT (EL.rdT (wrote l) 0 (l.map wordsOf) []).2, IsL.dat _, fun k acc => acc = (dueT (EL.rdT (wrote l) 0 (l.map wordsOf) []).2).take k, rfl, ?_, ?_⟩
      · rintro k d acc hd rfl
        obtain ⟨x, hx, rfl, hdu⟩ := cols_at hd
        have hk : k < (EL.rdT (wrote l) 0 (l.map wordsOf) []).2.length := due_lt hdu
        refine rg_name ?_
        walk_at "dl"
        refine tup_kl ?_
        refine ⟨_, rfl, by have := okn.n5; simp only [List.length_take, dueT, List.length_map, List.length_reverse]; omega, rfl, ?_⟩
        rw [take_snoc hdu]
      rintro acc rfl
      rw [due_all]
      walk_at "dl"
      refine lst_d ?_
      walk_at "dl"
      refine tup_kl ?_
      walk_at "dl"
      refine ⟨l, _, rfl, IsL.dat _, by show _ + _ * 1 ≤ _; rw [sum_wide]; omega, ?_⟩
      walk_at "dl"
      refine lst_d ?_
      walk_at "dl"
      refine ⟨_, rfl, by simp, by simp, by omega, fun x hx => ?_⟩
      obtain ⟨n, hx1, hx2⟩ := thing_ok hx
      walk_at "dl"
      refine ⟨rfl, .inl ⟨x, n, rfl, hx1, hx2, ?_⟩⟩
      walk_at "dl"
      refine ne_dd (d := outR (-1)) (by decide +kernel) ?_
      walk_at "dl"
      exact ⟨_, _, _, _, _, _, _, _, _, _, _, _, _, rfl⟩
    · rw [hlines] at hs
      have hw5 : EL.rdT (wrote l) 0 (l.map wordsOf) [] = (-1, EL.toT s) := by rw [hs] at same; exact same
      rw [hw5] at okn ⊢
      replace okn : EL.okTn (EL.toT s) := okn
      refine rg_tup rfl ?_
      refine rgs_cons (rg_name ?_)
      refine rgs_cons (rg_name ?_)
      refine rgs_nil ?_
      walk_at "dl"
      refine rd_fld ?_
      walk_at "dl"
      refine ⟨_, _, _, rfl, cl, na_tables, rfl, ?_⟩
      walk_at "dl"
      refine tup_kl ?_
      rw [sh_names]
      refine ne_dd (d := .tup (txts (EL.namesT (EL.toT s)))) (namesT_shp okn) ?_
      walk_at "dl"
      refine lc_o (tgIn_name (by decide)) ?_
      walk_at "dl"
      refine ⟨EL.colsT (EL.toT s), IsL.dat _, fun k acc => acc = (dueT (EL.toT s)).take k, rfl, ?_, ?_⟩
      · rintro k d acc hd rfl
        obtain ⟨x, hx, rfl, hdu⟩ := cols_at hd
        have hk : k < (EL.toT s).length := due_lt hdu
        refine rg_name ?_
        walk_at "dl"
        refine tup_kl ?_
        refine ⟨_, rfl, by have := okn.n5; simp only [List.length_take, dueT, List.length_map, List.length_reverse]; omega, rfl, ?_⟩
        rw [take_snoc hdu]
      rintro acc rfl
      rw [due_all]
      walk_at "dl"
      refine lc_o (tgIn_name (by decide)) ?_
      walk_at "dl"
      refine ⟨txts (EL.namesT (EL.toT s)), IsL.dat _, fun k acc => acc = (dueT (EL.toT s)).take k, rfl, ?_, ?_⟩
      · rintro k d acc hd rfl
        obtain ⟨n, cs, rfl, hlk, hdu⟩ := names_at okn hd
        have hk : k < (EL.toT s).length := due_lt hdu
        refine rg_name ?_
        walk_at "dl"
        refine ⟨rfl, ?_⟩
        walk_at "dl"
        refine ⟨rfl, _, shD s, n, cs, rfl, hlk, ?_⟩
        refine ⟨_, rfl, by have := okn.n5; simp only [List.length_take, dueT, List.length_map, List.length_reverse]; omega, rfl, ?_⟩
        rw [take_snoc hdu]
      rintro acc rfl
      rw [due_all2]
      walk_at "dl"
      refine ne_dd (d := .lst (dueT (EL.toT s))) (due_shp okn) ?_
      walk_at "dl"
      refine lst_d ?_
      walk_at "dl"
      refine tup_kl ?_
      walk_at "dl"
      refine ⟨l, _, rfl, IsL.dat _, by show _ + _ * 1 ≤ _; rw [sum_wide]; omega, ?_⟩
      walk_at "dl"
      refine lst_d ?_
      walk_at "dl"
      refine ⟨_, rfl, by simp, by simp, by omega, fun x hx => ?_⟩
      obtain ⟨n, hx1, hx2⟩ := thing_ok hx
      walk_at "dl"
      refine ⟨rfl, .inl ⟨x, n, rfl, hx1, hx2, ?_⟩⟩
      walk_at "dl"
      refine ne_dd (d := outR (-1)) (by decide +kernel) ?_
      walk_at "dl"
      exact ⟨_, _, _, _, _, _, _, _, _, _, _, _, _, rfl⟩
  · rintro δ' M ⟨y1, y2, y3, y4, y5, y6, y7, y8, y9, y10, y11, y12, y13, rfl⟩
    walk_at "dl"
    exact hR
end DL
open PySem PySem.W PyProof.Rows
set_option maxRecDepth 100000 in
set_option maxHeartbeats 0 in
theorem PySem.Challenge.cw_owedrebuilds_k03_schemas_refused_holds : PySem.Challenge.rw_owedrebuilds_k03_schemas_refused.Holds := by
  w_on; o_law; k_head; (case hw => w_witness2)
  k_fill
  refine DL.walk_g (n := 63) (k := 9) (x := "_law_script") (l := PySem.Challenge.rw_owedrebuilds_k03_schemas_refused) rfl (by decide) rfl ⟨⟨rfl, by decide, by decide⟩, rfl⟩ (fun w h Y => PySem.W.kIn_of Y) ?F
  case F =>
    intro w mg fa h KX G hmg
    have hng := DL.mk_sp KX (by k_is)
    have htk := DL.mk_tk KX (by k_is)
    have cl := DL.mk_cls (C := 190) KX (by k_is) (by k_is) (by first | k_is | kernel_rfl) (by first | k_is | kernel_rfl) (by k_is)
    have na__text : L2.NoAttr _ 190 "_text" := DL.mk_na (C := 190) (x := "_text") KX (by k_is)
    have na__shape : L2.NoAttr _ 190 "_shape" := DL.mk_na (C := 190) (x := "_shape") KX (by k_is)
    have na_tables : L2.NoAttr _ 190 "tables" := DL.mk_na (C := 190) (x := "tables") KX (by k_is)
    have xc_BadSchema := DL.mk_xcls (O := 41) (C := 61) KX (by k_is) (by k_is) (by k_is) (by k_is) (by k_is) (by k_is) hng htk
    have a_BadSchema := DL.mk_xat (x := "BadSchema") (qual := "BadSchema.__init__") (st := DL.st_BadSchema___init__) KX G xc_BadSchema (by k_is) (by k_is) (by k_is) (by k_is) (by k_is) (by k_is)
    have fn_BadSchema_at := DL.mk_na (C := 61) (x := "at") KX (by k_is)
    have e_BadSchema := DL.mk_some (x := "BadSchema") (C := 61) KX G (by k_is)
    have f_BadSchema := DL.mk_xf (C := 61) KX (by first | k_is | kernel_rfl) (by first | k_is | kernel_rfl) (by first | k_is | kernel_rfl) (by first | k_is | kernel_rfl)
    have m_BadSchema := DL.mk_exm (a := .ref 61) (b := .ref 61) (r := true) KX (by first | k_is | kernel_rfl)
    have d_is_word := DL.mk_def (x := "is_word") (st := DL.st_is_word) (ps := ["thing"]) KX G (by k_is) (by k_is) (by k_is) (by k_is) (fun _ _ _ _ _ _ us hl => match us, hl with | [_], _ => rfl)
    have k_LETTERS : ∃ u, mg "LETTERS" = some u ∧ L2.RelV DL.v_LETTERS u := DL.mk_str KX G (by k_is)
    have n_all := DL.mk_none (x := "all") KX G (by k_is)
    have n_isinstance := DL.mk_none (x := "isinstance") KX G (by k_is)
    have n_len := DL.mk_none (x := "len") KX G (by k_is)
    have n_str := DL.mk_none (x := "str") KX G (by k_is)
    have d__is_table := DL.mk_def (x := "_is_table") (st := DL.st__is_table) (ps := ["words"]) KX G (by k_is) (by k_is) (by k_is) (by k_is) (fun _ _ _ _ _ _ us hl => match us, hl with | [_], _ => rfl)
    have d__has_room := DL.mk_def (x := "_has_room") (st := DL.st__has_room) (ps := ["columns", "name"]) KX G (by k_is) (by k_is) (by k_is) (by k_is) (fun _ _ _ _ _ _ us hl => match us, hl with | [_, _], _ => rfl)
    have k__MOST_COLUMNS : ∃ u, mg "_MOST_COLUMNS" = some u ∧ L2.RelV DL.v__MOST_COLUMNS u := DL.mk_int KX G (by k_is)
    have d__meaning_of := DL.mk_def (x := "_meaning_of") (st := DL.st__meaning_of) (ps := ["words"]) KX G (by k_is) (by k_is) (by k_is) (by k_is) (fun _ _ _ _ _ _ us hl => match us, hl with | [_], _ => rfl)
    have d__is_column := DL.mk_def (x := "_is_column") (st := DL.st__is_column) (ps := ["words", "names"]) KX G (by k_is) (by k_is) (by k_is) (by k_is) (fun _ _ _ _ _ _ us hl => match us, hl with | [_, _], _ => rfl)
    have g__BARRED := DL.mk_some (x := "_BARRED") (C := 103) KX G (by k_is)
    have t__BARRED : ∀ H : L2.Hp, L2.SqT _ H 103 (DL.l__BARRED.map L2.V.str) := DL.mk_ktup KX (by k_is) (by decide) (by exact .cons ⟨_, rfl⟩ (.cons ⟨_, rfl⟩ (.cons ⟨_, rfl⟩ (.nil))))
    have g__RULES := DL.mk_some (x := "_RULES") (C := 102) KX G (by k_is)
    have t__RULES : ∀ H : L2.Hp, L2.SqT _ H 102 (DL.l__RULES.map L2.V.str) := DL.mk_ktup KX (by k_is) (by decide) (by exact .cons ⟨_, rfl⟩ (.cons ⟨_, rfl⟩ (.cons ⟨_, rfl⟩ (.nil))))
    have d__written_tables := DL.mk_def (x := "_written_tables") (st := DL.st__written_tables) (ps := ["lines"]) KX G (by k_is) (by k_is) (by k_is) (by k_is) (fun _ _ _ _ _ _ us hl => match us, hl with | [_], _ => rfl)
    have d__law_letters := DL.mk_def (x := "_law_letters") (st := DL.st__law_letters) (ps := ["_law_number", "_law_size"]) KX G (by k_is) (by k_is) (by k_is) (by k_is) (fun _ _ _ _ _ _ us hl => match us, hl with | [_, _], _ => rfl)
    have n_int := DL.mk_none (x := "int") KX G (by k_is)
    have n_range := DL.mk_none (x := "range") KX G (by k_is)
    have d__law_draw := DL.mk_def (x := "_law_draw") (st := DL.st__law_draw) (ps := ["_law_pool_here", "_law_many"]) KX G (by k_is) (by k_is) (by k_is) (by k_is) (fun _ _ _ _ _ _ us hl => match us, hl with | [_, _], _ => rfl)
    have d__law_word := DL.mk_def (x := "_law_word") (st := DL.st__law_word) (ps := ["_law_pool_here", "_law_taken"]) KX G (by k_is) (by k_is) (by k_is) (by k_is) (fun _ _ _ _ _ _ us hl => match us, hl with | [_, _], _ => rfl)
    have d__law_of := DL.mk_def (x := "_law_of") (st := DL.st__law_of) (ps := ["_law_pool_here", "_law_some"]) KX G (by k_is) (by k_is) (by k_is) (by k_is) (fun _ _ _ _ _ _ us hl => match us, hl with | [_, _], _ => rfl)
    have d__law_tables := DL.mk_def (x := "_law_tables") (st := DL.st__law_tables) (ps := ["_law_pool_here", "_law_most", "_law_widest"]) KX G (by k_is) (by k_is) (by k_is) (by k_is) (fun _ _ _ _ _ _ us hl => match us, hl with | [_, _, _], _ => rfl)
    have d__law_lines := DL.mk_def (x := "_law_lines") (st := DL.st__law_lines) (ps := ["_law_tables_here"]) KX G (by k_is) (by k_is) (by k_is) (by k_is) (fun _ _ _ _ _ _ us hl => match us, hl with | [_], _ => rfl)
    have d_copiedI := DL.mk_def (x := "copied") (st := DL.st_copiedI) (ps := ["thing"]) KX G (by k_is) (by k_is) (by k_is) (by k_is) (fun _ _ _ _ _ _ us hl => match us, hl with | [_], _ => rfl)
    have n_dict := DL.mk_none (x := "dict") KX G (by k_is)
    have n_list := DL.mk_none (x := "list") KX G (by k_is)
    have n_tuple := DL.mk_none (x := "tuple") KX G (by k_is)
    have d__shape_of_R := DL.mk_def (x := "_shape_of") (st := DL.st__shape_of_R) (ps := ["lines"]) KX G (by k_is) (by k_is) (by k_is) (by k_is) (fun _ _ _ _ _ _ us hl => match us, hl with | [_], _ => rfl)
    have k__MOST_TABLES : ∃ u, mg "_MOST_TABLES" = some u ∧ L2.RelV DL.v__MOST_TABLES u := DL.mk_int KX G (by k_is)
    have n_enumerate := DL.mk_none (x := "enumerate") KX G (by k_is)
    have d_Schema___init___R := DL.mk_init (C := 190) (x := "Schema") (qual := "Schema.__init__") (st := DL.st_Schema___init___R) (ps := ["self", "text"]) KX G (by first | k_is | kernel_rfl) (by k_is) (by k_is) (by k_is) (by k_is) (by k_is) (by k_is) (by k_is) (fun _ _ _ _ _ _ us hl => match us, hl with | [_, _], _ => rfl)
    have d__law_is_word := DL.mk_def (x := "_law_is_word") (st := DL.st__law_is_word) (ps := ["_law_text"]) KX G (by k_is) (by k_is) (by k_is) (by k_is) (fun _ _ _ _ _ _ us hl => match us, hl with | [_], _ => rfl)
    have d__law_is_column := DL.mk_def (x := "_law_is_column") (st := DL.st__law_is_column) (ps := ["_law_words", "_law_known", "_law_taken"]) KX G (by k_is) (by k_is) (by k_is) (by k_is) (fun _ _ _ _ _ _ us hl => match us, hl with | [_, _, _], _ => rfl)
    have d__law_odd_word := DL.mk_def (x := "_law_odd_word") (st := DL.st__law_odd_word) (ps := ["_law_pool_here", "_law_words"]) KX G (by k_is) (by k_is) (by k_is) (by k_is) (fun _ _ _ _ _ _ us hl => match us, hl with | [_, _], _ => rfl)
    have d__law_line_changed := DL.mk_def (x := "_law_line_changed") (st := DL.st__law_line_changed) (ps := ["_law_pool_here", "_law_line"]) KX G (by k_is) (by k_is) (by k_is) (by k_is) (fun _ _ _ _ _ _ us hl => match us, hl with | [_, _], _ => rfl)
    have d__law_more := DL.mk_def (x := "_law_more") (st := DL.st__law_more) (ps := ["_law_pool_here", "_law_lines_here"]) KX G (by k_is) (by k_is) (by k_is) (by k_is) (fun _ _ _ _ _ _ us hl => match us, hl with | [_, _], _ => rfl)
    have d__law_changed := DL.mk_def (x := "_law_changed") (st := DL.st__law_changed) (ps := ["_law_pool_here", "_law_lines_here"]) KX G (by k_is) (by k_is) (by k_is) (by k_is) (fun _ _ _ _ _ _ us hl => match us, hl with | [_, _], _ => rfl)
    have d_Schema_columnsG := DL.mk_meth (C := 190) (m := "columns") (qual := "Schema.columns") (st := DL.st_Schema_columnsG) (ps := ["self", "table"]) KX (by k_is) (by k_is) (by k_is) (by k_is) (by k_is) (fun _ _ _ _ _ _ us hl => match us, hl with | [_, _], _ => rfl)
    have d__law_outcome := DL.mk_def (x := "_law_outcome") (st := DL.st__law_outcome) (ps := ["_law_text"]) KX G (by k_is) (by k_is) (by k_is) (by k_is) (fun _ _ _ _ _ _ us hl => match us, hl with | [_], _ => rfl)
    have d__law_reading := DL.mk_def (x := "_law_reading") (st := EL.st__law_reading) (ps := ["_law_lines_here"]) KX G (by k_is) (by k_is) (by k_is) (by k_is) (fun _ _ _ _ _ _ us hl => match us, hl with | [_], _ => rfl)
    have d__law_pool := DL.mk_def (x := "_law_pool") (st := DL.st__law_pool) (ps := ["_law_script", "_law_at"]) KX G (by k_is) (by k_is) (by k_is) (by k_is) (fun _ _ _ _ _ _ us hl => match us, hl with | [_, _], _ => rfl)
    have n_abs := DL.mk_none (x := "abs") KX G (by k_is)
    have n_bool := DL.mk_none (x := "bool") KX G (by k_is)
    have n_max := DL.mk_none (x := "max") KX G (by k_is)
    have n_min := DL.mk_none (x := "min") KX G (by k_is)
    have F_law := DL.mk_law (x := "law") (st := DL.st_law) KX G hmg (by k_is) (by k_is) (by k_is) (by k_is)
    refine DL.mk_fin F_law (fun s v => .of_eq rfl) fun base kb gb => ?_
    have c_is_word := DL.ok_is_word (P := PySem.Challenge.rw_owedrebuilds_k03_schemas_refused.prog) (w := w) (mg := mg) (base := base) (d := d_is_word) (k_LETTERS := k_LETTERS) (n_all := n_all) (n_isinstance := n_isinstance) (n_len := n_len) (n_str := n_str)
    have c__is_table := DL.ok__is_table (P := PySem.Challenge.rw_owedrebuilds_k03_schemas_refused.prog) (w := w) (mg := mg) (base := base) (d := d__is_table) (n_len := n_len) (c_is_word := c_is_word)
    have c__has_room := DL.ok__has_room (P := PySem.Challenge.rw_owedrebuilds_k03_schemas_refused.prog) (w := w) (mg := mg) (base := base) (d := d__has_room) (k__MOST_COLUMNS := k__MOST_COLUMNS) (n_len := n_len)
    have c__meaning_of := DL.ok__meaning_of (P := PySem.Challenge.rw_owedrebuilds_k03_schemas_refused.prog) (w := w) (mg := mg) (base := base) (d := d__meaning_of)
    have c__is_column := DL.ok__is_column (P := PySem.Challenge.rw_owedrebuilds_k03_schemas_refused.prog) (w := w) (mg := mg) (base := base) (d := d__is_column) (g__BARRED := g__BARRED) (t__BARRED := t__BARRED) (g__RULES := g__RULES) (t__RULES := t__RULES) (n_len := n_len) (c_is_word := c_is_word)
    have c__written_tables := DL.ok__written_tables (P := PySem.Challenge.rw_owedrebuilds_k03_schemas_refused.prog) (w := w) (mg := mg) (base := base) (d := d__written_tables) (c__is_table := c__is_table)
    have c__law_letters := DL.ok__law_letters (P := PySem.Challenge.rw_owedrebuilds_k03_schemas_refused.prog) (w := w) (mg := mg) (base := base) (d := d__law_letters) (n_int := n_int) (n_range := n_range)
    have c__law_draw := DL.ok__law_draw (P := PySem.Challenge.rw_owedrebuilds_k03_schemas_refused.prog) (w := w) (mg := mg) (base := base) (d := d__law_draw) (n_int := n_int)
    have c__law_word := DL.ok__law_word (P := PySem.Challenge.rw_owedrebuilds_k03_schemas_refused.prog) (w := w) (mg := mg) (base := base) (d := d__law_word) (n_len := n_len) (n_range := n_range) (c__law_draw := c__law_draw) (c__law_letters := c__law_letters)
    have c__law_of := DL.ok__law_of (P := PySem.Challenge.rw_owedrebuilds_k03_schemas_refused.prog) (w := w) (mg := mg) (base := base) (d := d__law_of) (n_len := n_len) (c__law_draw := c__law_draw)
    have c__law_tables := DL.ok__law_tables (P := PySem.Challenge.rw_owedrebuilds_k03_schemas_refused.prog) (w := w) (mg := mg) (base := base) (d := d__law_tables) (n_range := n_range) (c__law_draw := c__law_draw) (c__law_of := c__law_of) (c__law_word := c__law_word)
    have c__law_lines := DL.ok__law_lines (P := PySem.Challenge.rw_owedrebuilds_k03_schemas_refused.prog) (w := w) (mg := mg) (base := base) (d := d__law_lines)
    have c_copied := DL.ok_copiedI (P := PySem.Challenge.rw_owedrebuilds_k03_schemas_refused.prog) (w := w) (mg := mg) (base := base) (d := d_copiedI) (n_dict := n_dict) (n_isinstance := n_isinstance) (n_list := n_list) (n_tuple := n_tuple)
    have x_BadSchema := DL.ok_BadSchema___init__ (C := 61) (P := PySem.Challenge.rw_owedrebuilds_k03_schemas_refused.prog) (w := w) (mg := mg) (base := base) (d := a_BadSchema) (ox := xc_BadSchema.ox) (na_at := fn_BadSchema_at) (c_copied := c_copied)
    have c__shape_of := DL.ok__shape_of_R (A_BadSchema := 61) (P := PySem.Challenge.rw_owedrebuilds_k03_schemas_refused.prog) (w := w) (mg := mg) (base := base) (d := d__shape_of_R) (k__MOST_TABLES := k__MOST_TABLES) (n_enumerate := n_enumerate) (n_len := n_len) (c__has_room := c__has_room) (c__is_column := c__is_column) (c__is_table := c__is_table) (c__meaning_of := c__meaning_of) (c__written_tables := c__written_tables) (x_BadSchema := x_BadSchema)
    have c_Schema := DL.ok_Schema___init___R (A_Schema := 190) (A_BadSchema := 61) (P := PySem.Challenge.rw_owedrebuilds_k03_schemas_refused.prog) (w := w) (mg := mg) (base := base) (d := d_Schema___init___R) (cl := cl) (na__text := na__text) (na__shape := na__shape) (na_tables := na_tables) (n_isinstance := n_isinstance) (n_str := n_str) (n_tuple := n_tuple) (c__shape_of := c__shape_of) (x_BadSchema := x_BadSchema)
    have c__law_is_word := DL.ok__law_is_word (P := PySem.Challenge.rw_owedrebuilds_k03_schemas_refused.prog) (w := w) (mg := mg) (base := base) (d := d__law_is_word) (n_all := n_all) (n_len := n_len)
    have c__law_is_column := DL.ok__law_is_column (P := PySem.Challenge.rw_owedrebuilds_k03_schemas_refused.prog) (w := w) (mg := mg) (base := base) (d := d__law_is_column) (n_len := n_len) (c__law_is_word := c__law_is_word)
    have c__law_odd_word := DL.ok__law_odd_word (P := PySem.Challenge.rw_owedrebuilds_k03_schemas_refused.prog) (w := w) (mg := mg) (base := base) (d := d__law_odd_word) (c__law_of := c__law_of) (c__law_word := c__law_word)
    have c__law_line_changed := DL.ok__law_line_changed (P := PySem.Challenge.rw_owedrebuilds_k03_schemas_refused.prog) (w := w) (mg := mg) (base := base) (d := d__law_line_changed) (n_len := n_len) (c__law_draw := c__law_draw) (c__law_odd_word := c__law_odd_word)
    have c__law_more := DL.ok__law_more (P := PySem.Challenge.rw_owedrebuilds_k03_schemas_refused.prog) (w := w) (mg := mg) (base := base) (d := d__law_more) (n_range := n_range) (c__law_draw := c__law_draw) (c__law_word := c__law_word)
    have c__law_changed := DL.ok__law_changed (P := PySem.Challenge.rw_owedrebuilds_k03_schemas_refused.prog) (w := w) (mg := mg) (base := base) (d := d__law_changed) (n_len := n_len) (c__law_draw := c__law_draw) (c__law_line_changed := c__law_line_changed) (c__law_more := c__law_more)
    have c_columns := DL.ok_Schema_columnsG (A_Schema := 190) (P := PySem.Challenge.rw_owedrebuilds_k03_schemas_refused.prog) (w := w) (mg := mg) (base := base) (d := d_Schema_columnsG) (cl := cl) (na__text := na__text) (na__shape := na__shape) (na_tables := na_tables) (n_tuple := n_tuple)
    have c__law_outcome := DL.ok__law_outcome (A_Schema := 190) (A_BadSchema := 61) (P := PySem.Challenge.rw_owedrebuilds_k03_schemas_refused.prog) (w := w) (mg := mg) (base := base) (d := d__law_outcome) (c_Schema := c_Schema) (e_BadSchema := e_BadSchema) (f_BadSchema := f_BadSchema) (fn_BadSchema_at := fn_BadSchema_at) (m_BadSchema := m_BadSchema)
    have c__law_reading := EL.ok__law_reading (P := PySem.Challenge.rw_owedrebuilds_k03_schemas_refused.prog) (w := w) (mg := mg) (base := base) (d := d__law_reading) (n_enumerate := n_enumerate) (n_len := n_len) (c__law_is_column := c__law_is_column) (c__law_is_word := c__law_is_word)
    have c__law_pool := DL.ok__law_pool (P := PySem.Challenge.rw_owedrebuilds_k03_schemas_refused.prog) (w := w) (mg := mg) (base := base) (d := d__law_pool) (n_abs := n_abs) (n_int := n_int) (n_len := n_len)
    exact DL.ok_law (A_Schema := 190) (P := PySem.Challenge.rw_owedrebuilds_k03_schemas_refused.prog) (w := w) (mg := mg) (base := base) (F := F_law) (n_bool := n_bool) (n_int := n_int) (n_isinstance := n_isinstance) (n_len := n_len) (n_max := n_max) (n_min := n_min) (n_range := n_range) (n_tuple := n_tuple) (c__law_changed := c__law_changed) (c__law_draw := c__law_draw) (c__law_lines := c__law_lines) (c__law_of := c__law_of) (c__law_outcome := c__law_outcome) (c__law_pool := c__law_pool) (c__law_reading := c__law_reading) (c__law_tables := c__law_tables) (c_columns := c_columns) (cl := cl) (na_tables := na_tables)

import PyProof.Rows.All
import Wide.All
import OpenK.AllK
import Wide.FinOn
import HandS.ForMost
import HandS.TupAny
import HandS.TupMul
import HandS.Wide
import HandS.WideBits
import HandS.IsInst
import HandS.Conv
import HandS.Style
import HandS.Defaults
import HandS.Zip
import KE.GoesMore
import KE.GoesEnum
import HandS.SortInts
import HandS.Star
import HandS.HeadHook4
import HandS.Flow
import HandS.SetFor
import HandS.RevTup
import HandS.More
import PyProof.AutoSeq1
import HandS.List
import KE.KStateDown
import HandS.Head0
import HandS.Head1
import HandS.Head2
import HandS.HeadEnd
import HandS.HeadHook1
import HandS.HeadHook2
import HandS.HeadHook3
import PySem.Challenge.RW_formstead_k80_devices_by_an_own_look
set_option Elab.async false
set_option maxRecDepth 100000
set_option maxHeartbeats 4000000
set_option linter.all false
namespace Py
open PySem PySem.Spec PyProof.Rows L2

/-! ### values without addresses -/
inductive PV where
  | non | bl (b : Bool) | int (i : Int) | str (x : Str)
  | tup (xs : List PV) | lst (xs : List PV) | frl (xs : List PV) | dic (ks : List Key) (vs : List PV) | ref (n : Nat)
  deriving Inhabited

inductive R (α : Type) where
  | ok (a : α) (S : List PV)
  | er (c : Str) (x : PV) (S : List PV)
  | no

def R.bind {α β : Type} (r : R α) (f : α → List PV → R β) : R β := match r with
  | .ok a S => f a S
  | .er c x S => .er c x S
  | .no => .no
@[simp] theorem R.bind_ok {α β : Type} (a : α) (S : List PV) (f : α → List PV → R β) : (R.ok a S).bind f = f a S := rfl
@[simp] theorem R.bind_no {α β : Type} (f : α → List PV → R β) : (R.no : R α).bind f = .no := rfl
@[simp] theorem R.bind_er {α β : Type} (c : Str) (x : PV) (S : List PV) (f : α → List PV → R β) : (R.er c x S : R α).bind f = .er c x S := rfl

abbrev Env := List (Option PV)
abbrev Sto := List PV
abbrev Ev := Env → Sto → R PV
abbrev Et := Env → Sto → R Bool
abbrev Ea := Env → Sto → R (List PV)

/-! ### how they lie -/
/-- the addresses of the store's objects; further ones that no value may name -/
structure Mem where
  st : List Addr
  rs : List Addr
instance : Membership Addr Mem := ⟨fun m a => a ∈ m.st ∨ a ∈ m.rs⟩
theorem Mem.mem {m : Mem} {a : Addr} : a ∈ m ↔ a ∈ m.st ∨ a ∈ m.rs := Iff.rfl
def Mem.grow (m : Mem) (ν : List Addr) : Mem := ⟨m.st ++ ν, m.rs⟩
theorem Mem.nst {m : Mem} {a : Addr} (h : a ∉ m) : a ∉ m.st := fun q => h (.inl q)
section
variable (K : PySem.W.Frag)
def KT (a : Addr) (xs : List V) : Prop := ∃ (o : Obj) (its : Array Value) (n : Nat), K.lookup a = some o ∧ o.cls = .type "tuple" ∧ o.data = .seq its n ∧ its.size ≤ sizeLine ∧ Vals xs its.toList
def KL (a : Addr) (xs : List V) : Prop := ∃ (o : Obj) (its : Array Value) (n : Nat), K.lookup a = some o ∧ o.cls = .type "list" ∧ o.dict = none ∧ o.data = .seq its n ∧ its.size ≤ sizeLine ∧ Vals xs its.toList
def TupAt (H : Hp) (μ : Mem) (a : Addr) (xs : List V) : Prop := (Rd H a (.tup xs) ∧ a ∉ μ) ∨ KT K a xs
def FrlAt (H : Hp) (μ : Mem) (a : Addr) (xs : List V) : Prop := ((∃ o, H a = some (.frz o (.lst xs))) ∧ a ∉ μ) ∨ KL K a xs
end
theorem TupAt.sq {K H μ a xs} (h : TupAt K H μ a xs) : SqT K H a xs := h.elim (fun z => .inl z.1) .inr
theorem FrlAt.sq {K H μ a xs} (h : FrlAt K H μ a xs) : SqL K H a xs := h.elim (fun z => .inl (.inr z.1)) .inr

mutual
inductive RepP (K : PySem.W.Frag) (H : Hp) (μ : Mem) : V → PV → Prop
  | non : RepP K H μ .non .non
  | bl (b : Bool) : RepP K H μ (.bl b) (.bl b)
  | int (i : Int) : RepP K H μ (.int i) (.int i)
  | str (x : Str) : RepP K H μ (.str x) (.str x)
  | tup {a : Addr} {vs : List V} {ps : List PV} : TupAt K H μ a vs → RepPs K H μ vs ps → RepP K H μ (.ref a) (.tup ps)
  | lst {a : Addr} {vs : List V} {ps : List PV} : H a = some (.lst vs) → a ∉ μ → RepPs K H μ vs ps → RepP K H μ (.ref a) (.lst ps)
  | frl {a : Addr} {vs : List V} {ps : List PV} : FrlAt K H μ a vs → RepPs K H μ vs ps → RepP K H μ (.ref a) (.frl ps)
  | dic {a : Addr} {kvs : List (Key × V)} {ps : List PV} : H a = some (.dK kvs) → a ∉ μ → RepPs K H μ (kvs.map (·.2)) ps → RepP K H μ (.ref a) (.dic (kvs.map (·.1)) ps)
inductive RepPs (K : PySem.W.Frag) (H : Hp) (μ : Mem) : List V → List PV → Prop
  | nil : RepPs K H μ [] []
  | cons {v : V} {vs : List V} {p : PV} {ps : List PV} : RepP K H μ v p → RepPs K H μ vs ps → RepPs K H μ (v :: vs) (p :: ps)
end

/-- a value: pure, or an object of the store -/
def Rep (K : PySem.W.Frag) (H : Hp) (μ : Mem) (v : V) (p : PV) : Prop := RepP K H μ v p ∨ ∃ n a, p = .ref n ∧ μ.st[n]? = some a ∧ v = .ref a
def ObjR (K : PySem.W.Frag) (H : Hp) (μ : Mem) (a : Addr) : PV → Prop
  | .lst ps => ∃ vs, H a = some (.lst vs) ∧ RepPs K H μ vs ps
  | .dic ks ps => ∃ kvs, H a = some (.dK kvs) ∧ kvs.map (·.1) = ks ∧ RepPs K H μ (kvs.map (·.2)) ps
  | _ => False
structure Rel (K : PySem.W.Frag) (H : Hp) (μ : Mem) (S : List PV) : Prop where
  len : μ.st.length = S.length
  nd : μ.st.Nodup
  obj : ∀ (n : Nat) (a : Addr) (o : PV), μ.st[n]? = some a → S[n]? = some o → ObjR K H μ a o
  res : ∀ a, a ∈ μ.rs → H a ≠ none
def ORep (K : PySem.W.Frag) (H : Hp) (μ : Mem) : Option V → Option PV → Prop
  | none, none => True
  | some v, some p => Rep K H μ v p
  | _, _ => False
abbrev ERel (K : PySem.W.Frag) (H : Hp) (μ : Mem) : List (Option V) → Env → Prop := Paired (ORep K H μ)
abbrev Reps (K : PySem.W.Frag) (H : Hp) (μ : Mem) : List V → List PV → Prop := Paired (Rep K H μ)

/-! ### steps -/
structure Step (H : Hp) (μ : Mem) (H' : Hp) (μ' : Mem) : Prop where
  ext : ∀ a o, H a = some o → a ∉ μ.st → H' a = some o
  dom : ∀ a, H' a = none → H a = none
  gro : ∃ ν, μ' = μ.grow ν ∧ ∀ a ∈ ν, H a = none
theorem Step.refl (H : Hp) (μ : Mem) : Step H μ H μ := ⟨fun _ _ h _ => h, fun _ h => h, [], by simp [Mem.grow], by simp⟩
theorem Step.out {H μ H' μ'} (s : Step H μ H' μ') {a : Addr} {o : HO} (h : H a = some o) (n : a ∉ μ) : a ∉ μ' := by
  obtain ⟨ν, e, f⟩ := s.gro
  subst e
  intro q
  rcases q with q | q
  · rcases List.mem_append.mp q with q | q
    · exact n (.inl q)
    · rw [f a q] at h; cases h
  · exact n (.inr q)
theorem Step.outS {H μ H' μ'} (s : Step H μ H' μ') {a : Addr} {o : HO} (h : H a = some o) (n : a ∉ μ.st) : a ∉ μ'.st := by
  obtain ⟨ν, e, f⟩ := s.gro
  subst e
  intro q
  rcases List.mem_append.mp q with q | q
  · exact n q
  · rw [f a q] at h; cases h
theorem Step.trans {H μ H1 μ1 H2 μ2} (s : Step H μ H1 μ1) (t : Step H1 μ1 H2 μ2) : Step H μ H2 μ2 := by
  refine ⟨fun a o h n => t.ext a o (s.ext a o h n) (s.outS h n), fun a h => s.dom a (t.dom a h), ?_⟩
  obtain ⟨ν, e, f⟩ := s.gro
  obtain ⟨ν2, e2, f2⟩ := t.gro
  refine ⟨ν ++ ν2, by rw [e2, e, Mem.grow, Mem.grow, Mem.grow, List.append_assoc], fun a q => ?_⟩
  rcases List.mem_append.mp q with q | q
  · exact f a q
  · exact s.dom a (f2 a q)
theorem Step.get {H μ H' μ'} (s : Step H μ H' μ') {n : Nat} {a : Addr} (h : μ.st[n]? = some a) : μ'.st[n]? = some a := by
  obtain ⟨ν, e, _⟩ := s.gro
  subst e
  show (μ.st ++ ν)[n]? = some a
  rw [List.getElem?_append_left (List.getElem?_eq_some_iff.mp h).1]; exact h
theorem Step.tupAt {K H μ H' μ' a xs} (s : Step H μ H' μ') (h : TupAt K H μ a xs) : TupAt K H' μ' a xs := by
  rcases h with ⟨r, n⟩ | h
  · rcases r with r | ⟨o, r⟩
    · exact .inl ⟨.inl (s.ext _ _ r (Mem.nst n)), s.out r n⟩
    · exact .inl ⟨.inr ⟨o, s.ext _ _ r (Mem.nst n)⟩, s.out r n⟩
  · exact .inr h
theorem Step.frlAt {K H μ H' μ' a xs} (s : Step H μ H' μ') (h : FrlAt K H μ a xs) : FrlAt K H' μ' a xs := by
  rcases h with ⟨⟨o, r⟩, n⟩ | h
  · exact .inl ⟨⟨o, s.ext _ _ r (Mem.nst n)⟩, s.out r n⟩
  · exact .inr h
section
variable {K : PySem.W.Frag} {H H' : Hp} {μ μ' : Mem}
mutual
theorem RepP.step (s : Step H μ H' μ') : ∀ {p : PV} {v : V}, RepP K H μ v p → RepP K H' μ' v p
  | .non, _, h => by cases h; exact .non
  | .bl b, _, h => by cases h; exact .bl b
  | .int b, _, h => by cases h; exact .int b
  | .str b, _, h => by cases h; exact .str b
  | .tup ps, _, h => by
    cases h with
    | tup h1 h2 => exact .tup (s.tupAt h1) (RepPs.step s h2)
  | .lst ps, _, h => by
    cases h with
    | lst h1 n h2 => exact .lst (s.ext _ _ h1 (Mem.nst n)) (s.out h1 n) (RepPs.step s h2)
  | .frl ps, _, h => by
    cases h with
    | frl h1 h2 => exact .frl (s.frlAt h1) (RepPs.step s h2)
  | .dic ks ps, _, h => by
    cases h with
    | dic h1 n h2 => exact .dic (s.ext _ _ h1 (Mem.nst n)) (s.out h1 n) (RepPs.step s h2)
  | .ref n, _, h => by cases h
theorem RepPs.step (s : Step H μ H' μ') : ∀ {ps : List PV} {vs : List V}, RepPs K H μ vs ps → RepPs K H' μ' vs ps
  | [], _, h => by cases h; exact .nil
  | p :: ps, _, h => by
    cases h with
    | cons h1 h2 => exact .cons (RepP.step s h1) (RepPs.step s h2)
end
theorem Rep.step (s : Step H μ H' μ') {v p} (h : Rep K H μ v p) : Rep K H' μ' v p := by
  rcases h with h | ⟨n, a, e, g, e2⟩
  · exact .inl (h.step s)
  · exact .inr ⟨n, a, e, s.get g, e2⟩
theorem ORep.step (s : Step H μ H' μ') {v p} (h : ORep K H μ v p) : ORep K H' μ' v p := by
  cases v <;> cases p <;> first | trivial | exact h.elim | exact Rep.step s h
theorem ERel.step (s : Step H μ H' μ') {σ ρ} (h : ERel K H μ σ ρ) : ERel K H' μ' σ ρ := Paired.mono (fun _ _ q => ORep.step s q) h
theorem Reps.step (s : Step H μ H' μ') {vs ps} (h : Reps K H μ vs ps) : Reps K H' μ' vs ps := Paired.mono (fun _ _ q => Rep.step s q) h

theorem RepPs.length : ∀ {ps : List PV} {vs : List V}, RepPs K H μ vs ps → vs.length = ps.length
  | [], _, h => by cases h; rfl
  | p :: ps, _, h => by
    cases h with
    | cons h1 h2 => simp [RepPs.length h2]
theorem RepPs.get : ∀ {ps : List PV} {vs : List V} {i : Nat} {p : PV}, RepPs K H μ vs ps → ps[i]? = some p → ∃ v, vs[i]? = some v ∧ RepP K H μ v p
  | [], _, _, _, _, e => by simp at e
  | q :: ps, _, 0, p, h, e => by
    cases h with
    | cons h1 h2 => simp at e; subst e; exact ⟨_, rfl, h1⟩
  | q :: ps, _, i + 1, p, h, e => by
    cases h with
    | cons h1 h2 =>
      obtain ⟨v, g, r⟩ := RepPs.get (i := i) h2 (by simpa using e)
      exact ⟨v, by simpa using g, r⟩
theorem RepPs.append : ∀ {ps qs : List PV} {vs ws : List V}, RepPs K H μ vs ps → RepPs K H μ ws qs → RepPs K H μ (vs ++ ws) (ps ++ qs)
  | [], _, _, _, h, h' => by cases h; exact h'
  | p :: ps, _, _, _, h, h' => by
    cases h with
    | cons h1 h2 => exact .cons h1 (RepPs.append h2 h')
theorem RepPs.take : ∀ {ps : List PV} {vs : List V} (n : Nat), RepPs K H μ vs ps → RepPs K H μ (vs.take n) (ps.take n)
  | [], _, n, h => by cases h; simp; exact .nil
  | p :: ps, _, 0, h => by simp; exact .nil
  | p :: ps, _, n + 1, h => by
    cases h with
    | cons h1 h2 => exact .cons h1 (RepPs.take n h2)
theorem RepPs.drop : ∀ {ps : List PV} {vs : List V} (n : Nat), RepPs K H μ vs ps → RepPs K H μ (vs.drop n) (ps.drop n)
  | [], _, n, h => by cases h; simp; exact .nil
  | p :: ps, _, 0, h => h
  | p :: ps, _, n + 1, h => by
    cases h with
    | cons h1 h2 => exact RepPs.drop n h2
theorem RepPs.set : ∀ {ps : List PV} {vs : List V} (i : Nat) {v p}, RepPs K H μ vs ps → RepP K H μ v p → RepPs K H μ (vs.set i v) (ps.set i p)
  | [], _, i, _, _, h, _ => by cases h; exact .nil
  | q :: ps, _, 0, _, _, h, r => by
    cases h with
    | cons h1 h2 => exact .cons r h2
  | q :: ps, _, i + 1, _, _, h, r => by
    cases h with
    | cons h1 h2 => exact .cons h1 (RepPs.set i h2 r)
theorem RepPs.reverse : ∀ {ps : List PV} {vs : List V}, RepPs K H μ vs ps → RepPs K H μ vs.reverse ps.reverse
  | [], _, h => by cases h; exact .nil
  | p :: ps, _, h => by
    cases h with
    | cons h1 h2 =>
      rw [List.reverse_cons, List.reverse_cons]
      exact (RepPs.reverse h2).append (.cons h1 .nil)
theorem RepPs.ints : ∀ {ns : List Int} {vs : List V}, RepPs K H μ vs (ns.map PV.int) → vs = ns.map V.int
  | [], _, h => by cases h; rfl
  | n :: ns, _, h => by
    cases h with
    | cons h1 h2 => cases h1; rw [RepPs.ints h2]; rfl
theorem RepPs.bls : ∀ {ns : List Bool} {vs : List V}, RepPs K H μ vs (ns.map PV.bl) → vs = ns.map V.bl
  | [], _, h => by cases h; rfl
  | n :: ns, _, h => by
    cases h with
    | cons h1 h2 => cases h1; rw [RepPs.bls h2]; rfl
theorem RepPs.of_ints (ns : List Int) : RepPs K H μ (ns.map V.int) (ns.map PV.int) := by
  induction ns with
  | nil => exact .nil
  | cons n ns ih => exact .cons (.int n) ih
theorem RepPs.strs : ∀ {ns : List Str} {vs : List V}, RepPs K H μ vs (ns.map PV.str) → vs = ns.map V.str
  | [], _, h => by cases h; rfl
  | n :: ns, _, h => by
    cases h with
    | cons h1 h2 => cases h1; rw [RepPs.strs h2]; rfl
end
/-- a value that is no object of the store -/
def PV.isRef : PV → Bool
  | .ref _ => true
  | _ => false
theorem Rep.pure {K H μ v p} (h : Rep K H μ v p) (n : p.isRef = false) : RepP K H μ v p := by
  rcases h with h | ⟨n', a, e, _⟩
  · exact h
  · subst e; cases n
theorem Reps.pure {K H μ} : ∀ {ps : List PV} {vs : List V}, Reps K H μ vs ps → ps.all (fun p => !p.isRef) = true → RepPs K H μ vs ps
  | [], _, h, _ => by cases h; exact .nil
  | p :: ps, _, h, n => by
    cases h with
    | cons h1 h2 =>
      simp only [List.all_cons, Bool.and_eq_true, Bool.not_eq_true'] at n
      exact .cons (h1.pure n.1) (Reps.pure h2 n.2)

/-! ### what is asked of an end -/
def FitsG {α : Type} (K : PySem.W.Frag) (H : Hp) (μ : Mem) (r : R α) (k : α → List PV → Hp → Mem → Prop) : Prop := match r with
  | .ok a S' => ∀ H' μ', Step H μ H' μ' → Rel K H' μ' S' → k a S' H' μ'
  | _ => False
section
variable {α β : Type} {K : PySem.W.Frag} {H : Hp} {μ : Mem}
theorem FitsG.imp {r : R α} {k k' : α → List PV → Hp → Mem → Prop} (h : FitsG K H μ r k) (f : ∀ a S' H' μ', Step H μ H' μ' → Rel K H' μ' S' → k a S' H' μ' → k' a S' H' μ') : FitsG K H μ r k' := by
  cases r with
  | ok a S => exact fun H' μ' s t => f a S H' μ' s t (h H' μ' s t)
  | er => exact h
  | no => exact h
theorem FitsG.bind {r : R α} {f : α → List PV → R β} {k : β → List PV → Hp → Mem → Prop} (h : FitsG K H μ (r.bind f) k) : FitsG K H μ r (fun a S' H' μ' => FitsG K H' μ' (f a S') k) := by
  cases r with
  | ok a S =>
    intro H' μ' s t
    have h : FitsG K H μ (f a S) k := h
    revert h
    generalize f a S = r2
    intro h
    cases r2 with
    | ok b S2 => exact fun H2 μ2 s2 t2 => h H2 μ2 (s.trans s2) t2
    | er => exact h
    | no => exact h
  | er => exact h
  | no => exact h
theorem FitsG.here {a : α} {S : List PV} {k : α → List PV → Hp → Mem → Prop} (h : FitsG K H μ (.ok a S) k) (t : Rel K H μ S) : k a S H μ := h H μ (Step.refl _ _) t
end
abbrev VKont (K : PySem.W.Frag) (Q : VK) : PV → List PV → Hp → Mem → Prop := fun p _ H' μ' => ∀ v, Rep K H' μ' v p → Q v H'
abbrev AKont (K : PySem.W.Frag) (Q : List V → Hp → Prop) : List PV → List PV → Hp → Mem → Prop := fun ps _ H' μ' => ∀ vs, Reps K H' μ' vs ps → Q vs H'
abbrev BKont (Q : Bool → Hp → Prop) : Bool → List PV → Hp → Mem → Prop := fun b _ H' _ => Q b H'

/-! ### judgements -/
def tEv (K : PySem.W.Frag) (f : Ev) : TE := fun σ H Q => ∃ μ ρ S, ERel K H μ σ ρ ∧ Rel K H μ S ∧ FitsG K H μ (f ρ S) (VKont K Q)
def tEt (K : PySem.W.Frag) (f : Et) : TT := fun σ H Q => ∃ μ ρ S, ERel K H μ σ ρ ∧ Rel K H μ S ∧ FitsG K H μ (f ρ S) (BKont Q)
def tEa (K : PySem.W.Frag) (f : Ea) : TA := fun σ H Q => ∃ μ ρ S, ERel K H μ σ ρ ∧ Rel K H μ S ∧ FitsG K H μ (f ρ S) (AKont K Q)
def EE (X : Cx) (e : Expr) (f : Ev) : Prop := PE X e (tEv X.K f)
def ET (X : Cx) (e : Expr) (f : Et) : Prop := PT X e (tEt X.K f)
def EW (X : Cx) (e : Expr) (f : Et) : Prop := PW X e (tEt X.K f)
def EA (X : Cx) (es : List Expr) (f : Ea) : Prop := PA X es (tEa X.K f)
theorem pe_mono {X : Cx} {e : Expr} {t t' : TE} (h : PE X e t) (f : ∀ σ H Q, t' σ H Q → t σ H Q) : PE X e t' := ⟨fun pins s σ H Q I q => h.run pins s σ H Q I (f σ H Q q)⟩
theorem pt_mono {X : Cx} {e : Expr} {t t' : TT} (h : PT X e t) (f : ∀ σ H Q, t' σ H Q → t σ H Q) : PT X e t' := ⟨fun pins s σ H Q I q => h.run pins s σ H Q I (f σ H Q q)⟩
theorem pw_mono {X : Cx} {e : Expr} {t t' : TT} (h : PW X e t) (f : ∀ σ H Q, t' σ H Q → t σ H Q) : PW X e t' := ⟨fun whole pins s σ H Q I q => h.run whole pins s σ H Q I (f σ H Q q)⟩
theorem pa_mono {X : Cx} {es : List Expr} {t t' : TA} (h : PA X es t) (f : ∀ σ H Q, t' σ H Q → t σ H Q) : PA X es t' := ⟨fun pos pins s σ H Q I q => h.run pos pins s σ H Q I (f σ H Q q)⟩
theorem ps_mono {X : Cx} {e : Stmt} {t t' : TS} (h : PS X e t) (f : ∀ D σ H, t' D σ H → t D σ H) : PS X e t' := ⟨fun pins s σ H D I q => h.run pins s σ H D I (f D σ H q)⟩
theorem pss_mono {X : Cx} {e : List Stmt} {t t' : TS} (h : PSs X e t) (f : ∀ D σ H, t' D σ H → t D σ H) : PSs X e t' := ⟨fun pins s σ H D I q => h.run pins s σ H D I (f D σ H q)⟩

/-- two expressions in a row, then what is asked of their values -/
theorem two {K : PySem.W.Frag} {fa fb : Ev} {g : PV → PV → Sto → R PV} {σ : L2.St} {H : Hp} {Q : VK} {r : V → V → Hp → VK → Prop}
    (h : tEv K (fun ρ S => (fa ρ S).bind fun x S1 => (fb ρ S1).bind fun y S2 => g x y S2) σ H Q)
    (hr : ∀ H2 μ2 S2 v w p q, Rep K H2 μ2 v p → Rep K H2 μ2 w q → Rel K H2 μ2 S2 → FitsG K H2 μ2 (g p q S2) (VKont K Q) → r v w H2 Q) :
    tEv K fa σ H fun x H1 => tEv K fb σ H1 fun y H2 => r x y H2 Q := by
  obtain ⟨μ, ρ, S, hE, hR, hF⟩ := h
  refine ⟨μ, ρ, S, hE, hR, hF.bind.imp fun p S1 H1 μ1 s1 t1 h1 v rv => ?_⟩
  refine ⟨μ1, ρ, S1, hE.step s1, t1, (FitsG.bind h1).imp fun q S2 H2 μ2 s2 t2 h2 w rw' => ?_⟩
  exact hr H2 μ2 S2 v w p q (rv.step s2) rw' t2 h2
theorem one {K : PySem.W.Frag} {fa : Ev} {g : PV → Sto → R PV} {σ : L2.St} {H : Hp} {Q : VK} {r : V → Hp → VK → Prop}
    (h : tEv K (fun ρ S => (fa ρ S).bind fun x S1 => g x S1) σ H Q)
    (hr : ∀ H2 μ2 S2 v p, Rep K H2 μ2 v p → Rel K H2 μ2 S2 → FitsG K H2 μ2 (g p S2) (VKont K Q) → r v H2 Q) :
    tEv K fa σ H fun x H1 => r x H1 Q := by
  obtain ⟨μ, ρ, S, hE, hR, hF⟩ := h
  exact ⟨μ, ρ, S, hE, hR, hF.bind.imp fun p S1 H1 μ1 s1 t1 h1 v rv => hr H1 μ1 S1 v p rv t1 h1⟩

/-! ### names, constants -/
def eVar (i : Nat) : Ev := fun ρ S => match ρ[i]? with
  | some (some p) => .ok p S
  | _ => .no
def eC (p : PV) : Ev := fun _ S => .ok p S
theorem ERel.get {K H μ} : ∀ {ρ : Env} {σ : List (Option V)} {i : Nat} {p : PV}, ERel K H μ σ ρ → ρ[i]? = some (some p) → ∃ v, σ[i]? = some (some v) ∧ Rep K H μ v p
  | [], _, _, _, _, e => by simp at e
  | q :: ρ, _, 0, p, h, e => by
    cases h with
    | cons h1 h2 =>
      simp at e; subst e
      rename_i x _
      cases x with
      | none => exact h1.elim
      | some v => exact ⟨v, rfl, h1⟩
  | q :: ρ, _, i + 1, p, h, e => by
    cases h with
    | cons h1 h2 =>
      obtain ⟨v, g, r⟩ := ERel.get (i := i) h2 (by simpa using e)
      exact ⟨v, by simpa using g, r⟩
theorem ERel.set {K H μ} {v : Option V} {p : Option PV} : ∀ {ρ : Env} {σ : List (Option V)} (i : Nat), ERel K H μ σ ρ → ORep K H μ v p → ERel K H μ (σ.set i v) (ρ.set i p)
  | [], _, _, h, _ => by cases h; exact .nil
  | q :: ρ, _, 0, h, r => by
    cases h with
    | cons h1 h2 => exact .cons r h2
  | q :: ρ, _, i + 1, h, r => by
    cases h with
    | cons h1 h2 => exact .cons h1 (ERel.set i h2 r)
section
variable {X : Cx} {pos : Pos}
theorem ee_var (i : Nat) {x : Str} (h : PE X (.Name x pos) (tVar i)) : EE X (.Name x pos) (eVar i) := pe_mono h fun σ H Q ⟨μ, ρ, S, hE, hR, hF⟩ => by
  unfold eVar at hF
  split at hF
  · rename_i p e
    obtain ⟨v, g, r⟩ := hE.get e
    exact ⟨v, g, FitsG.here hF hR v r⟩
  · exact hF.elim
theorem ee_c {e : Expr} {v : V} {p : PV} (h : PE X e (tC v)) (r : ∀ H, RepP X.K H ⟨[], []⟩ v p) (r2 : ∀ H μ, RepP X.K H μ v p) : EE X e (eC p) := pe_mono h fun σ H Q ⟨μ, ρ, S, hE, hR, hF⟩ => FitsG.here hF hR v (.inl (r2 H μ))
theorem ee_int {i j} : EE X (.Constant (.int i) j pos) (eC (.int i)) := ee_c pe_int (fun _ => .int i) fun _ _ => .int i
theorem ee_bl {i j} : EE X (.Constant (.bool i) j pos) (eC (.bl i)) := ee_c pe_bl (fun _ => .bl i) fun _ _ => .bl i
theorem ee_str {i j} : EE X (.Constant (.str i) j pos) (eC (.str i)) := ee_c pe_str (fun _ => .str i) fun _ _ => .str i
theorem ee_non {j} : EE X (.Constant .none j pos) (eC .non) := ee_c pe_non (fun _ => .non) fun _ _ => .non

/-! ### operators -/
def eOp (g : PV → PV → Sto → R PV) (a b : Ev) : Ev := fun ρ S => (a ρ S).bind fun x S1 => (b ρ S1).bind fun y S2 => g x y S2
def eUn (g : PV → Sto → R PV) (a : Ev) : Ev := fun ρ S => (a ρ S).bind fun x S1 => g x S1
def L2R (K : PySem.W.Frag) (r : R2) (g : PV → PV → Sto → R PV) : Prop := ∀ Q H μ S v w p q, Rep K H μ v p → Rep K H μ w q → Rel K H μ S → FitsG K H μ (g p q S) (VKont K Q) → r v w H Q
def L1R (K : PySem.W.Frag) (r : V → Hp → VK → Prop) (g : PV → Sto → R PV) : Prop := ∀ Q H μ S v p, Rep K H μ v p → Rel K H μ S → FitsG K H μ (g p S) (VKont K Q) → r v H Q
variable {a b : Expr} {fa fb : Ev} {g : PV → PV → Sto → R PV} {r : R2}
theorem ee_op {op : Operator} (ho : OpR X (binaryOp op) r) (hr : L2R X.K r g) (ha : EE X a fa) (hb : EE X b fb) : EE X (.BinOp a op b pos) (eOp g fa fb) :=
  pe_mono (pe_op ho ha hb) fun σ H Q h => two h fun H2 μ2 S2 v w p q rv rw' t h2 => hr Q H2 μ2 S2 v w p q rv rw' t h2
theorem ee_un {op : UnaryOp} {r : V → Hp → VK → Prop} {g : PV → Sto → R PV} (ho : UnR X (unaryOp op) r) (hr : L1R X.K r g) (ha : EE X a fa) : EE X (.UnaryOp op a pos) (eUn g fa) :=
  pe_mono (pe_un ho ha) fun σ H Q h => one h fun H2 μ2 S2 v p rv t h2 => hr Q H2 μ2 S2 v p rv t h2
theorem ee_cmp {op : CmpOp} (ho : OpR X (compareOp op) r) (hr : L2R X.K r g) (ha : EE X a fa) (hb : EE X b fb) (hm : behindInMarks op b = false) : EE X (.Compare a [op] [b] pos) (eOp g fa fb) :=
  pe_mono (pe_cmpR ho ha hb hm) fun σ H Q h => two h fun H2 μ2 S2 v w p q rv rw' t h2 => hr Q H2 μ2 S2 v w p q rv rw' t h2

/-! ### tests -/
def toB (p : PV) (S : Sto) : R Bool := match p with
  | .bl b => .ok b S
  | _ => .no
def tV (a : Ev) : Et := fun ρ S => (a ρ S).bind toB
def tNotE (a : Et) : Et := fun ρ S => (a ρ S).bind fun b S1 => .ok (!b) S1
def tAndE (a b : Et) : Et := fun ρ S => (a ρ S).bind fun c S1 => if c = true then b ρ S1 else .ok false S1
def tOrE (a b : Et) : Et := fun ρ S => (a ρ S).bind fun c S1 => if c = true then .ok true S1 else b ρ S1
theorem toB_of {K H μ} {p : PV} {S : Sto} {k : Bool → List PV → Hp → Mem → Prop} (h : FitsG K H μ (toB p S) k) : ∃ b, p = .bl b ∧ FitsG K H μ (.ok b S) k := by
  unfold toB at h
  split at h
  · exact ⟨_, rfl, h⟩
  · exact h.elim
theorem rep_bl {K H μ v b} (h : Rep K H μ v (.bl b)) : v = .bl b := by
  rcases h with h | ⟨_, _, e, _⟩
  · cases h; rfl
  · cases e
theorem rep_int {K H μ v b} (h : Rep K H μ v (.int b)) : v = .int b := by
  rcases h with h | ⟨_, _, e, _⟩
  · cases h; rfl
  · cases e
theorem rep_str {K H μ v b} (h : Rep K H μ v (.str b)) : v = .str b := by
  rcases h with h | ⟨_, _, e, _⟩
  · cases h; rfl
  · cases e
theorem rep_non {K H μ v} (h : Rep K H μ v .non) : v = .non := by
  rcases h with h | ⟨_, _, e, _⟩
  · cases h; rfl
  · cases e
theorem tv_tB {K fa σ H Q} (h : tEt K (tV fa) σ H Q) : tB (tEv K fa) σ H Q := by
  obtain ⟨μ, ρ, S, hE, hR, hF⟩ := h
  refine ⟨μ, ρ, S, hE, hR, (FitsG.bind hF).imp fun p S1 H1 μ1 s1 t1 h1 v rv => ?_⟩
  obtain ⟨b, rfl, h2⟩ := toB_of h1
  exact ⟨b, rep_bl rv, FitsG.here h2 t1⟩
theorem et_val {e : Expr} (h : EE X e fa) (he : ∀ whole, isTrue e X.env whole = (do let v ← whole; standAt e.pos; holding [v] (truthy v)) := by intro _; rfl) : ET X e (tV fa) :=
  pt_mono (pt_val h he) fun σ H Q h => tv_tB h
theorem et_cmp {op : CmpOp} (ho : OpR X (compareOp op) r) (hr : L2R X.K r g) (ha : EE X a fa) (hb : EE X b fb) (hm : behindInMarks op b = false) : ET X (.Compare a [op] [b] pos) (tV (eOp g fa fb)) :=
  pt_mono (pt_cmpR ho ha hb hm) fun σ H Q h => by
    have h' := tv_tB h
    have h2 : tEv X.K (eOp g fa fb) σ H (fun x H' => ∃ k, x = .bl k ∧ Q k H') := h'
    exact two h2 fun H2 μ2 S2 v w p q rv rw' t h2 => hr _ H2 μ2 S2 v w p q rv rw' t h2
variable {ta tb : Et}
theorem et_not (h : ET X a ta) : ET X (.UnaryOp .Not a pos) (tNotE ta) := pt_mono (pt_not h) fun σ H Q ⟨μ, ρ, S, hE, hR, hF⟩ =>
  ⟨μ, ρ, S, hE, hR, (FitsG.bind hF).imp fun b S1 H1 μ1 s1 t1 h1 => FitsG.here h1 t1⟩
theorem ew_and1 (h : ET X a ta) : EW X (.BoolOp .And [a] pos) ta := pw_mono (pw_and1 h) fun _ _ _ h => h
theorem ew_or1 (h : ET X a ta) : EW X (.BoolOp .Or [a] pos) ta := pw_mono (pw_or1 h) fun _ _ _ h => h
theorem ew_and {rest : List Expr} (h : ET X a ta) (h2 : EW X (.BoolOp .And (b :: rest) pos) tb) : EW X (.BoolOp .And (a :: b :: rest) pos) (tAndE ta tb) := pw_mono (pw_and h h2) fun σ H Q ⟨μ, ρ, S, hE, hR, hF⟩ =>
  ⟨μ, ρ, S, hE, hR, (FitsG.bind hF).imp fun c S1 H1 μ1 s1 t1 h1 => by
    show if c = true then _ else _
    split
    · rename_i hc
      subst hc
      exact ⟨μ1, ρ, S1, hE.step s1, t1, h1⟩
    · rename_i hc
      have : c = false := by cases c <;> simp_all
      subst this
      exact FitsG.here h1 t1⟩
theorem ew_or {rest : List Expr} (h : ET X a ta) (h2 : EW X (.BoolOp .Or (b :: rest) pos) tb) : EW X (.BoolOp .Or (a :: b :: rest) pos) (tOrE ta tb) := pw_mono (pw_or h h2) fun σ H Q ⟨μ, ρ, S, hE, hR, hF⟩ =>
  ⟨μ, ρ, S, hE, hR, (FitsG.bind hF).imp fun c S1 H1 μ1 s1 t1 h1 => by
    show if c = true then _ else _
    split
    · rename_i hc
      subst hc
      exact FitsG.here h1 t1
    · rename_i hc
      have : c = false := by cases c <;> simp_all
      subst this
      exact ⟨μ1, ρ, S1, hE.step s1, t1, h1⟩⟩
theorem et_w {e : Expr} (h : EW X e ta) : ET X e ta := PW.pt h
end
end Py
set_option Elab.async false
set_option maxRecDepth 100000
set_option maxHeartbeats 4000000
set_option linter.all false
namespace Py
open PySem PySem.Spec PyProof.Rows L2

section
variable {K : PySem.W.Frag} {H H' : Hp} {μ μ' : Mem}
/-- what is needed of a change, for values to stay -/
def Keep (H : Hp) (μ : Mem) (H' : Hp) (μ' : Mem) : Prop := ∀ a o, H a = some o → a ∉ μ → H' a = some o ∧ a ∉ μ'
theorem Keep.tupAt {a xs} (s : Keep H μ H' μ') (h : TupAt K H μ a xs) : TupAt K H' μ' a xs := by
  rcases h with ⟨r, n⟩ | h
  · rcases r with r | ⟨o, r⟩
    · exact .inl ⟨.inl (s _ _ r n).1, (s _ _ r n).2⟩
    · exact .inl ⟨.inr ⟨o, (s _ _ r n).1⟩, (s _ _ r n).2⟩
  · exact .inr h
theorem Keep.frlAt {a xs} (s : Keep H μ H' μ') (h : FrlAt K H μ a xs) : FrlAt K H' μ' a xs := by
  rcases h with ⟨⟨o, r⟩, n⟩ | h
  · exact .inl ⟨⟨o, (s _ _ r n).1⟩, (s _ _ r n).2⟩
  · exact .inr h
mutual
theorem RepP.keep (s : Keep H μ H' μ') : ∀ {p : PV} {v : V}, RepP K H μ v p → RepP K H' μ' v p
  | .non, _, h => by cases h; exact .non
  | .bl b, _, h => by cases h; exact .bl b
  | .int b, _, h => by cases h; exact .int b
  | .str b, _, h => by cases h; exact .str b
  | .tup ps, _, h => by
    cases h with
    | tup h1 h2 => exact .tup (s.tupAt h1) (RepPs.keep s h2)
  | .lst ps, _, h => by
    cases h with
    | lst h1 n h2 => exact .lst (s _ _ h1 n).1 (s _ _ h1 n).2 (RepPs.keep s h2)
  | .frl ps, _, h => by
    cases h with
    | frl h1 h2 => exact .frl (s.frlAt h1) (RepPs.keep s h2)
  | .dic ks ps, _, h => by
    cases h with
    | dic h1 n h2 => exact .dic (s _ _ h1 n).1 (s _ _ h1 n).2 (RepPs.keep s h2)
  | .ref n, _, h => by cases h
theorem RepPs.keep (s : Keep H μ H' μ') : ∀ {ps : List PV} {vs : List V}, RepPs K H μ vs ps → RepPs K H' μ' vs ps
  | [], _, h => by cases h; exact .nil
  | p :: ps, _, h => by
    cases h with
    | cons h1 h2 => exact .cons (RepP.keep s h1) (RepPs.keep s h2)
end
theorem Rep.keep {v p} (s : Keep H μ H' μ') (e : μ'.st = μ.st) (h : Rep K H μ v p) : Rep K H' μ' v p := by
  rcases h with h | ⟨n, a, h1, h2, h3⟩
  · exact .inl (h.keep s)
  · exact .inr ⟨n, a, h1, by rw [e]; exact h2, h3⟩
theorem ORep.keep {v p} (s : Keep H μ H' μ') (e : μ'.st = μ.st) (h : ORep K H μ v p) : ORep K H' μ' v p := by
  cases v <;> cases p <;> first | trivial | exact h.elim | exact Rep.keep s e h
theorem ERel.keep {σ : List (Option V)} {ρ : Env} (s : Keep H μ H' μ') (e : μ'.st = μ.st) (h : ERel K H μ σ ρ) : ERel K H' μ' σ ρ := Paired.mono (fun _ _ q => ORep.keep s e q) h
theorem Rel.keep {S : List PV} (s : Keep H μ H' μ') (e : μ'.st = μ.st) (t : Rel K H μ S) (h : ∀ a ∈ μ.st, H' a = H a) (hr : ∀ a ∈ μ'.rs, H' a ≠ none) : Rel K H' μ' S := by
  refine ⟨by rw [e]; exact t.len, by rw [e]; exact t.nd, fun n a o e1 e2 => ?_, hr⟩
  rw [e] at e1
  have ob := t.obj n a o e1 e2
  have ha := h a (List.mem_of_getElem? e1)
  revert ob
  cases o <;> intro ob <;> first | exact ob.elim | skip
  · obtain ⟨vs, g, r⟩ := ob; exact ⟨vs, ha.trans g, r.keep s⟩
  · obtain ⟨kvs, g, g2, r⟩ := ob; exact ⟨kvs, ha.trans g, g2, r.keep s⟩
end
theorem Step.keep {H μ H' μ'} (s : Step H μ H' μ') : Keep H μ H' μ' := fun a o h n => ⟨s.ext a o h (Mem.nst n), s.out h n⟩

/-! ### fewer forbidden addresses -/
section
variable {K : PySem.W.Frag} {H : Hp} {μ μ' : Mem}
mutual
theorem RepP.sub (s : ∀ a, a ∈ μ' → a ∈ μ) : ∀ {p : PV} {v : V}, RepP K H μ v p → RepP K H μ' v p
  | .non, _, h => by cases h; exact .non
  | .bl b, _, h => by cases h; exact .bl b
  | .int b, _, h => by cases h; exact .int b
  | .str b, _, h => by cases h; exact .str b
  | .tup ps, _, h => by
    cases h with
    | tup h1 h2 => exact .tup (h1.elim (fun z => .inl ⟨z.1, fun q => z.2 (s _ q)⟩) .inr) (RepPs.sub s h2)
  | .lst ps, _, h => by
    cases h with
    | lst h1 n h2 => exact .lst h1 (fun q => n (s _ q)) (RepPs.sub s h2)
  | .frl ps, _, h => by
    cases h with
    | frl h1 h2 => exact .frl (h1.elim (fun z => .inl ⟨z.1, fun q => z.2 (s _ q)⟩) .inr) (RepPs.sub s h2)
  | .dic ks ps, _, h => by
    cases h with
    | dic h1 n h2 => exact .dic h1 (fun q => n (s _ q)) (RepPs.sub s h2)
  | .ref n, _, h => by cases h
theorem RepPs.sub (s : ∀ a, a ∈ μ' → a ∈ μ) : ∀ {ps : List PV} {vs : List V}, RepPs K H μ vs ps → RepPs K H μ' vs ps
  | [], _, h => by cases h; exact .nil
  | p :: ps, _, h => by
    cases h with
    | cons h1 h2 => exact .cons (RepP.sub s h1) (RepPs.sub s h2)
end
theorem ObjR.sub (s : ∀ a, a ∈ μ' → a ∈ μ) {a : Addr} {o : PV} (h : ObjR K H μ a o) : ObjR K H μ' a o := by
  cases o <;> first | exact h.elim | skip
  · obtain ⟨vs, e, r⟩ := h; exact ⟨vs, e, r.sub s⟩
  · obtain ⟨kvs, e, e2, r⟩ := h; exact ⟨kvs, e, e2, r.sub s⟩
theorem ObjR.step {H' : Hp} {μ2 : Mem} (s : Step H μ H' μ2) {a : Addr} {o : PV} (h : ObjR K H μ a o) (e : H' a = H a) : ObjR K H' μ2 a o := by
  cases o <;> first | exact h.elim | skip
  · obtain ⟨vs, e1, r⟩ := h; exact ⟨vs, e.trans e1, r.step s⟩
  · obtain ⟨kvs, e1, e2, r⟩ := h; exact ⟨kvs, e.trans e1, e2, r.step s⟩
theorem Rel.tracked {S : List PV} (t : Rel K H μ S) {p : Addr} (q : p ∈ μ.st) : H p ≠ none := fun h => by
  obtain ⟨n, hn, e⟩ := List.mem_iff_getElem.mp q
  have hS : n < S.length := by rw [← t.len]; exact hn
  have o := t.obj n p S[n] (by rw [List.getElem?_eq_getElem hn, e]) (List.getElem?_eq_getElem hS)
  revert o
  cases S[n] <;> intro o <;> first | exact o.elim | skip
  · obtain ⟨vs, e1, _⟩ := o; rw [h] at e1; cases e1
  · obtain ⟨kvs, e1, _⟩ := o; rw [h] at e1; cases e1
theorem Rel.out {S : List PV} (t : Rel K H μ S) {p : Addr} (h : H p = none) : p ∉ μ := fun q => q.elim (fun q => t.tracked q h) fun q => t.res p q h
/-- a new object is laid -/
theorem Step.laid (H : Hp) (μ : Mem) {p : Addr} (h : H p = none) (o : HO) : Step H μ (upd H p o) μ :=
  ⟨fun a u e _ => by rw [upd_ne (ne_of_none e h)]; exact e, fun a e => by
    by_cases q : a = p
    · subst q; exact h
    · rw [upd_ne q] at e; exact e, [], by simp [Mem.grow], by simp⟩
theorem Rel.laid {S : List PV} (t : Rel K H μ S) {p : Addr} (h : H p = none) (o : HO) : Rel K (upd H p o) μ S :=
  ⟨t.len, t.nd, fun n a ob e1 e2 => (t.obj n a ob e1 e2).step (Step.laid H μ h o) (upd_ne fun z => (Mem.nst (t.out h)) (by rw [← z]; exact List.mem_of_getElem? e1)), fun a q z => t.res a q ((Step.laid H μ h o).dom a z)⟩
/-- .. and becomes an object of the store -/
theorem Rel.alloc {S : List PV} (t : Rel K H μ S) {p : Addr} (h : H p = none) {vs : List V} {ps : List PV} (r : RepPs K H μ vs ps) : Rel K (upd H p (.lst vs)) (μ.grow [p]) (S ++ [.lst ps]) := by
  have l := Step.laid H μ h (.lst vs)
  have s : Step H μ (upd H p (.lst vs)) (μ.grow [p]) := ⟨l.ext, l.dom, [p], rfl, fun a q => by rw [List.mem_singleton.mp q]; exact h⟩
  refine ⟨by simp [Mem.grow, t.len], ?_, fun n a ob e1 e2 => ?_, fun a q z => t.res a q (l.dom a z)⟩
  · exact List.nodup_append.mpr ⟨t.nd, by simp, fun a ha b hb => by
      rw [List.mem_singleton.mp hb]; intro z; rw [z] at ha; exact Mem.nst (t.out h) ha⟩
  · have e1 : (μ.st ++ [p])[n]? = some a := e1
    by_cases hn : n < μ.st.length
    · rw [List.getElem?_append_left hn] at e1
      rw [List.getElem?_append_left (by rw [← t.len]; exact hn)] at e2
      exact (t.obj n a ob e1 e2).step s (upd_ne fun z => Mem.nst (t.out h) (by rw [← z]; exact List.mem_of_getElem? e1))
    · have e : n = μ.st.length := by
        have := (List.getElem?_eq_some_iff.mp e1).1
        simp at this; omega
      subst e
      rw [List.getElem?_append_right (Nat.le_refl _)] at e1
      rw [List.getElem?_append_right (by rw [t.len]; exact Nat.le_refl _)] at e2
      simp [t.len] at e1 e2
      subst e1 e2
      exact ⟨vs, upd_same, r.step s⟩
theorem ObjR.repP {a : Addr} {o : PV} (h : ObjR K H μ a o) (n : a ∉ μ) : RepP K H μ (.ref a) o := by
  cases o <;> first | exact h.elim | skip
  · obtain ⟨vs, e, r⟩ := h; exact .lst e n r
  · obtain ⟨kvs, e, e2, r⟩ := h; subst e2; exact .dic e n r
theorem Rel.last {S : List PV} {p : Addr} {o : PV} (t : Rel K H (μ.grow [p]) (S ++ [o])) : Rel K H μ S ∧ p ∉ μ.st ∧ ObjR K H μ p o := by
  have sub : ∀ a, a ∈ μ → a ∈ μ.grow [p] := fun a h => h.elim (fun h => .inl (List.mem_append_left _ h)) .inr
  have len : μ.st.length = S.length := by have := t.len; simpa [Mem.grow] using this
  have nd := List.nodup_append.mp t.nd
  refine ⟨⟨len, nd.1, fun n a ob e1 e2 => ?_, t.res⟩, fun q => nd.2.2 p q p (List.mem_singleton.mpr rfl) rfl, ?_⟩
  · refine (t.obj n a ob ?_ ?_).sub sub
    · show (μ.st ++ [p])[n]? = some a
      rw [List.getElem?_append_left (List.getElem?_eq_some_iff.mp e1).1]; exact e1
    · rw [List.getElem?_append_left (List.getElem?_eq_some_iff.mp e2).1]; exact e2
  · exact (t.obj μ.st.length p o (by simp [Mem.grow]) (by simp [len])).sub sub
/-- an object of the store is changed -/
theorem Step.write (H : Hp) (μ : Mem) {p : Addr} (m : p ∈ μ.st) (o : HO) : Step H μ (upd H p o) μ :=
  ⟨fun a u e n => by rw [upd_ne fun z => n (by rw [z]; exact m)]; exact e, fun a e => by
    by_cases q : a = p
    · subst q; rw [upd_same] at e; cases e
    · rw [upd_ne q] at e; exact e, [], by simp [Mem.grow], by simp⟩
theorem Rel.write {S : List PV} (t : Rel K H μ S) {n : Nat} {p : Addr} (m : μ.st[n]? = some p) {o : HO} {ob : PV} (r : ObjR K (upd H p o) μ p ob) : Rel K (upd H p o) μ (S.set n ob) := by
  refine ⟨by simp [t.len], t.nd, fun k a u e1 e2 => ?_, fun a q z => t.res a q ((Step.write H μ (List.mem_of_getElem? m) o).dom a z)⟩
  by_cases hk : k = n
  · subst hk
    rw [m] at e1; cases e1
    have hlt : k < S.length := by rw [← t.len]; exact (List.getElem?_eq_some_iff.mp m).1
    rw [List.getElem?_set_self hlt] at e2
    cases e2
    exact r
  · rw [List.getElem?_set_ne (Ne.symm hk)] at e2
    refine (t.obj k a u e1 e2).step (Step.write H μ (List.mem_of_getElem? m) o) (upd_ne fun z => hk ?_)
    have h1 := List.getElem?_eq_some_iff.mp e1
    have h2 := List.getElem?_eq_some_iff.mp m
    exact (List.getElem_inj t.nd).mp (by rw [h1.2, h2.2, z])
end

/-! ### fresh lists -/
def FitsF (K : PySem.W.Frag) (H : Hp) (μ : Mem) (r : R PV) (Q : VK) : Prop := match r with
  | .ok o S' => ∀ H' μ' a, H a = none → a ∉ μ.rs → Step H μ H' μ' → Rel K H' (μ'.grow [a]) (S' ++ [o]) → Q (.ref a) H'
  | _ => False
def tEf (K : PySem.W.Frag) (f : Ev) : TE := fun σ H Q => ∃ μ ρ S, ERel K H μ σ ρ ∧ Rel K H μ S ∧ FitsF K H μ (f ρ S) Q
/-- an expression that makes a new list or dict -/
def EF (X : Cx) (e : Expr) (f : Ev) : Prop := PE X e (tEf X.K f)
/-- .. which is put into the store -/
def eNew (f : Ev) : Ev := fun ρ S => (f ρ S).bind fun o S1 => .ok (.ref S1.length) (S1 ++ [o])
theorem tEf_pure {K : PySem.W.Frag} {f : Ev} {σ : List (Option V)} {H : Hp} {Q : VK} (h : tEv K f σ H Q) : tEf K f σ H Q := by
  obtain ⟨μ, ρ, S, hE, hR, hF⟩ := h
  refine ⟨μ, ρ, S, hE, hR, ?_⟩
  revert hF
  cases f ρ S with
  | ok o S1 =>
    intro hF H' μ' a ha hrs st t
    obtain ⟨t1, n1, r1⟩ := t.last
    have n2 : a ∉ μ' := fun q => q.elim n1 fun q => by
      obtain ⟨ν, e, _⟩ := st.gro
      subst e
      exact hrs q
    exact (show FitsG K H μ (.ok o S1) (VKont K Q) from hF) H' μ' st t1 _ (.inl (r1.repP n2))
  | er => exact fun z => z
  | no => exact fun z => z
theorem tEf_new {K : PySem.W.Frag} {f : Ev} {σ : List (Option V)} {H : Hp} {Q : VK} (h : tEv K (eNew f) σ H Q) : tEf K f σ H Q := by
  obtain ⟨μ, ρ, S, hE, hR, hF⟩ := h
  refine ⟨μ, ρ, S, hE, hR, ?_⟩
  unfold eNew at hF
  revert hF
  cases f ρ S with
  | ok o S1 =>
    intro hF H' μ' a ha hrs st t
    have len : μ'.st.length = S1.length := by have := t.len; simpa [Mem.grow] using this
    have st2 : Step H μ H' (μ'.grow [a]) := by
      obtain ⟨ν, e, f⟩ := st.gro
      refine ⟨st.ext, st.dom, ν ++ [a], by rw [e, Mem.grow, Mem.grow, Mem.grow, List.append_assoc], fun b q => ?_⟩
      rcases List.mem_append.mp q with q | q
      · exact f b q
      · rw [List.mem_singleton.mp q]; exact ha
    exact (show FitsG K H μ (.ok (.ref S1.length) (S1 ++ [o])) (VKont K Q) from hF) H' (μ'.grow [a]) st2 t _ (.inr ⟨_, a, rfl, by rw [← len]; simp [Mem.grow], rfl⟩)
  | er => exact fun z => z
  | no => exact fun z => z
theorem ee_pure {X : Cx} {e : Expr} {f : Ev} (h : EF X e f) : EE X e f := pe_mono h fun σ H Q h => tEf_pure h
theorem ee_new {X : Cx} {e : Expr} {f : Ev} (h : EF X e f) : EE X e (eNew f) := pe_mono h fun σ H Q h => tEf_new h
theorem Step.nrs {H0 H : Hp} {μ0 μ : Mem} (st : Step H0 μ0 H μ) {p : Addr} (h : p ∉ μ.rs) : p ∉ μ0.rs := by
  obtain ⟨ν, e, _⟩ := st.gro
  subst e
  exact h
/-- a rule that lays a new list -/
theorem FitsF.lay {K : PySem.W.Frag} {H0 H : Hp} {μ0 μ : Mem} {ps : List PV} {S : List PV} {Q : VK} (h : FitsF K H0 μ0 (.ok (.lst ps) S) Q) (st : Step H0 μ0 H μ) (t : Rel K H μ S) {vs : List V} (r : RepPs K H μ vs ps) : ∀ p, H p = none → Q (.ref p) (upd H p (.lst vs)) := fun p hp =>
  h (upd H p (.lst vs)) μ p (st.dom p hp) (st.nrs fun q => t.res p q hp) (st.trans (Step.laid H μ hp _)) (t.alloc hp r)
theorem FitsF.bind {α : Type} {K : PySem.W.Frag} {H : Hp} {μ : Mem} {r : R α} {f : α → List PV → R PV} {Q : VK} (h : FitsF K H μ (r.bind f) Q) : FitsG K H μ r (fun a S' H' μ' => FitsF K H' μ' (f a S') Q) := by
  cases r with
  | ok a S =>
    intro H' μ' s t
    have h : FitsF K H μ (f a S) Q := h
    revert h
    generalize f a S = r2
    intro h
    cases r2 with
    | ok b S2 => exact fun H2 μ2 p hp hrs s2 t2 => h H2 μ2 p (s.dom p hp) (s.nrs hrs) (s.trans s2) t2
    | er => exact h
    | no => exact h
  | er => exact h
  | no => exact h

/-! ### argument lists -/
def aNil : Ea := fun _ S => .ok [] S
def aCons (a : Ev) (r : Ea) : Ea := fun ρ S => (a ρ S).bind fun x S1 => (r ρ S1).bind fun xs S2 => .ok (x :: xs) S2
theorem ea_nil {X : Cx} : EA X [] aNil := pa_mono pa_nil fun σ H Q ⟨μ, ρ, S, hE, hR, hF⟩ => FitsG.here hF hR [] .nil
theorem ea_cons {X : Cx} {e : Expr} {es : List Expr} {fa : Ev} {fr : Ea} (ha : EE X e fa) (hr : EA X es fr) (hs : starEach (e :: es) X.env = (false, eval e X.env) :: starEach es X.env := by rfl) : EA X (e :: es) (aCons fa fr) :=
  pa_mono (pa_cons ha hr hs) fun σ H Q ⟨μ, ρ, S, hE, hR, hF⟩ => ⟨μ, ρ, S, hE, hR, (FitsG.bind hF).imp fun p S1 H1 μ1 s1 t1 h1 v rv =>
    ⟨μ1, ρ, S1, hE.step s1, t1, (FitsG.bind h1).imp fun qs S2 H2 μ2 s2 t2 h2 ws rw' => FitsG.here h2 t2 (v :: ws) (.cons (rv.step s2) rw')⟩⟩

def allPure (ps : List PV) : Bool := ps.all fun p => !p.isRef
/-- what a list of values is put to -/
def eArgs (g : List PV → Sto → R PV) (a : Ea) : Ev := fun ρ S => (a ρ S).bind fun xs S1 => g xs S1
theorem args {K : PySem.W.Frag} {fa : Ea} {g : List PV → Sto → R PV} {σ : List (Option V)} {H : Hp} {Q : VK} {r : List V → Hp → VK → Prop}
    (h : tEv K (eArgs g fa) σ H Q) (hr : ∀ H2 μ2 S2 vs ps, Reps K H2 μ2 vs ps → Rel K H2 μ2 S2 → FitsG K H2 μ2 (g ps S2) (VKont K Q) → r vs H2 Q) :
    tEa K fa σ H fun xs H1 => r xs H1 Q := by
  obtain ⟨μ, ρ, S, hE, hR, hF⟩ := h
  exact ⟨μ, ρ, S, hE, hR, (FitsG.bind hF).imp fun ps S1 H1 μ1 s1 t1 h1 vs rv => hr H1 μ1 S1 vs ps rv t1 h1⟩
theorem argsF {K : PySem.W.Frag} {fa : Ea} {g : List PV → Sto → R PV} {σ : List (Option V)} {H : Hp} {Q : VK} {r : List V → Hp → VK → Prop}
    (h : tEf K (eArgs g fa) σ H Q) (hr : ∀ H2 μ2 S2 vs ps, Reps K H2 μ2 vs ps → Rel K H2 μ2 S2 → FitsF K H2 μ2 (g ps S2) Q → r vs H2 Q) :
    tEa K fa σ H fun xs H1 => r xs H1 Q := by
  obtain ⟨μ, ρ, S, hE, hR, hF⟩ := h
  exact ⟨μ, ρ, S, hE, hR, (FitsF.bind hF).imp fun ps S1 H1 μ1 s1 t1 h1 vs rv => hr H1 μ1 S1 vs ps rv t1 h1⟩

def gTupP (ps : List PV) (S : Sto) : R PV := if allPure ps ∧ ps.length ≤ sizeLine then .ok (.tup ps) S else .no
def gLstP (ps : List PV) (S : Sto) : R PV := if allPure ps ∧ ps.length ≤ sizeLine then .ok (.lst ps) S else .no
section
variable {X : Cx} {pos : Pos} {es : List Expr} {fa : Ea}
theorem ee_tup {x1} (h : EA X es fa) : EE X (.Tuple es x1 pos) (eArgs gTupP fa) := pe_mono (pe_tup h) fun σ H Q hw => by
  refine args (r := fun xs H1 Q => xs.length ≤ sizeLine ∧ ∀ p, H1 p = none → Q (.ref p) (upd H1 p (.tup xs))) hw fun H2 μ2 S2 vs ps rv t hF => ?_
  unfold gTupP at hF
  split at hF
  · rename_i hc
    have rp := rv.pure hc.1
    refine ⟨by rw [rp.length]; exact hc.2, fun p hp => ?_⟩
    have s := Step.laid H2 μ2 hp (.tup vs)
    exact hF _ μ2 s (t.laid hp _) _ (.inl (.tup (.inl ⟨.inl upd_same, t.out hp⟩) (rp.step s)))
  · exact hF.elim
theorem ef_lst (h : EA X es fa) : EF X (.List es pos) (eArgs gLstP fa) := pe_mono (pe_lst h) fun σ H Q hw => by
  refine argsF (r := fun xs H1 Q => xs.length ≤ sizeLine ∧ ∀ p, H1 p = none → Q (.ref p) (upd H1 p (.lst xs))) hw fun H2 μ2 S2 vs ps rv t hF => ?_
  unfold gLstP at hF
  split at hF
  · rename_i hc
    have rp := rv.pure hc.1
    exact ⟨by rw [rp.length]; exact hc.2, FitsF.lay hF (Step.refl _ _) t rp⟩
  · exact hF.elim
end

/-! ### values of operators -/
def getL (p : PV) (S : Sto) : Option (List PV) := match p with
  | .lst xs => some xs
  | .frl xs => some xs
  | .ref n => match S[n]? with
    | some (.lst xs) => some xs
    | _ => none
  | _ => none
theorem getL_of {K H μ S v p xs} (t : Rel K H μ S) (r : Rep K H μ v p) (e : getL p S = some xs) : ∃ a vs, v = .ref a ∧ SqL K H a vs ∧ RepPs K H μ vs xs := by
  unfold getL at e
  split at e
  · cases e
    rcases r with r | ⟨_, _, e, _⟩
    · cases r with
      | lst h1 n h2 => exact ⟨_, _, rfl, .inl (.inl h1), h2⟩
    · cases e
  · cases e
    rcases r with r | ⟨_, _, e, _⟩
    · cases r with
      | frl h1 h2 => exact ⟨_, _, rfl, h1.sq, h2⟩
    · cases e
  · rename_i n
    split at e
    · rename_i ys e2
      cases e
      rcases r with r | ⟨_, a, e3, e4, e5⟩
      · cases r
      · cases e3
        subst e5
        obtain ⟨vs, e6, r6⟩ := t.obj _ _ _ e4 e2
        exact ⟨a, vs, rfl, .inl (.inl e6), r6⟩
    · cases e
  · cases e
theorem Rep.tup_inv {K H μ v ps} (r : Rep K H μ v (.tup ps)) : ∃ a vs, v = .ref a ∧ TupAt K H μ a vs ∧ RepPs K H μ vs ps := by
  rcases r with r | ⟨_, _, e, _⟩
  · cases r with
    | tup h1 h2 => exact ⟨_, _, rfl, h1, h2⟩
  · cases e
theorem Rep.lst_inv {K H μ v ps} (r : Rep K H μ v (.lst ps)) : ∃ a vs, v = .ref a ∧ H a = some (.lst vs) ∧ RepPs K H μ vs ps := by
  rcases r with r | ⟨_, _, e, _⟩
  · cases r with
    | lst h1 n h2 => exact ⟨_, _, rfl, h1, h2⟩
  · cases e
/-- a tuple that is laid -/
theorem lay_tup {K H μ S ps vs} {k : PV → List PV → Hp → Mem → Prop} {Q : VK} (hk : ∀ p S H' μ', k p S H' μ' → ∀ v, Rep K H' μ' v p → Q v H') (hF : FitsG K H μ (.ok (.tup ps) S) k) (t : Rel K H μ S) (r : RepPs K H μ vs ps) : ∀ p, H p = none → Q (.ref p) (upd H p (.tup vs)) := fun p hp => by
  have s := Step.laid H μ hp (.tup vs)
  exact hk _ _ _ _ (hF _ μ s (t.laid hp _)) _ (.inl (.tup (.inl ⟨.inl upd_same, t.out hp⟩) (r.step s)))
/-- the answer is there already -/
theorem FitsG.val {K H μ S p v} {Q : VK} (hF : FitsG K H μ (.ok p S) (VKont K Q)) (t : Rel K H μ S) (r : Rep K H μ v p) : Q v H := FitsG.here hF t v r

def gAdd (p q : PV) (S : Sto) : R PV := match p, q with
  | .int i, .int j => .ok (.int (i + j)) S
  | .str a, .str b => if a.length + b.length ≤ sizeLine then .ok (.str (a ++ b)) S else .no
  | .tup xs, .tup ys => if xs.length + ys.length ≤ sizeLine then .ok (.tup (xs ++ ys)) S else .no
  | _, _ => .no
def gCat (p q : PV) (S : Sto) : R PV := match p, q with
  | .frl _, _ => .no
  | _, .frl _ => .no
  | p, q => match getL p S, getL q S with
    | some xs, some ys => if xs.length + ys.length ≤ sizeLine then .ok (.lst (xs ++ ys)) S else .no
    | _, _ => .no
def gSub (p q : PV) (S : Sto) : R PV := match p, q with
  | .int i, .int j => .ok (.int (i - j)) S
  | _, _ => .no
def gMul (p q : PV) (S : Sto) : R PV := match p, q with
  | .int i, .int j => if (-(2 ^ 64) < i ∧ i < 2 ^ 64) ∨ (-(2 ^ 64) < j ∧ j < 2 ^ 64) then .ok (.int (i * j)) S else .no
  | _, _ => .no
def gFdiv (p q : PV) (S : Sto) : R PV := match p, q with
  | .int i, .int j => if 0 < j ∧ j < 1073741824 then .ok (.int (i / j)) S else .no
  | _, _ => .no
def gMod (p q : PV) (S : Sto) : R PV := match p, q with
  | .int i, .int j => if 0 < j then .ok (.int (i % j)) S else .no
  | _, _ => .no
def gPow (p q : PV) (S : Sto) : R PV := match p, q with
  | .int i, .int j => if 0 ≤ j ∧ j ≤ 1000000 ∧ i.natAbs < 2 ^ 64 then .ok (.int (i ^ j.toNat)) S else .no
  | _, _ => .no
def gNeg (p : PV) (S : Sto) : R PV := match p with
  | .int i => .ok (.int (-i)) S
  | _ => .no
section
variable {X : Cx}
theorem op_addA : OpR X (binaryOp .Add) (fun x y H Q => (rI0 (fun i j => V.int (i + j)) x y H Q ∨ (∃ i j, x = .str i ∧ y = .str j ∧ i.length + j.length ≤ sizeLine ∧ Q (.str (i ++ j)) H)) ∨ rCatA X.K x y H Q) :=
  OpR.or (OpR.or op_add op_add_str) op_catA
theorem l_add {K : PySem.W.Frag} : L2R K (fun x y H Q => (rI0 (fun i j => V.int (i + j)) x y H Q ∨ (∃ i j, x = .str i ∧ y = .str j ∧ i.length + j.length ≤ sizeLine ∧ Q (.str (i ++ j)) H)) ∨ rCatA K x y H Q) gAdd := by
  intro Q H μ S v w p q rv rw' t hF
  unfold gAdd at hF
  split at hF
  · cases rep_int rv
    cases rep_int rw'
    exact .inl (.inl ⟨_, _, rfl, rfl, hF.val t (.inl (.int _))⟩)
  · split at hF
    · rename_i hc
      cases rep_str rv
      cases rep_str rw'
      exact .inl (.inr ⟨_, _, rfl, rfl, hc, hF.val t (.inl (.str _))⟩)
    · exact hF.elim
  · split at hF
    · rename_i xs ys hc
      obtain ⟨a, vs, rfl, h1, h2⟩ := rv.tup_inv
      obtain ⟨b, ws, rfl, g1, g2⟩ := rw'.tup_inv
      refine .inr ⟨a, b, vs, ws, rfl, rfl, h1.sq, g1.sq, by rw [h2.length, g2.length]; exact hc, fun e => ?_, fun e e2 => ?_, fun e e2 => ?_⟩
      · subst e
        have : xs = [] := List.eq_nil_of_length_eq_zero h2.length.symm
        subst this
        exact hF.val t rw'
      · subst e2
        have : ys = [] := List.eq_nil_of_length_eq_zero g2.length.symm
        subst this
        rw [List.append_nil] at hF
        exact hF.val t rv
      · exact lay_tup (fun p S H' μ' h => h) hF t (h2.append g2)
    · exact hF.elim
  · exact hF.elim
theorem l_sub {K : PySem.W.Frag} : L2R K (rI0 fun i j => .int (i - j)) gSub := by
  intro Q H μ S v w p q rv rw' t hF
  unfold gSub at hF
  split at hF
  · cases rep_int rv
    cases rep_int rw'
    exact ⟨_, _, rfl, rfl, hF.val t (.inl (.int _))⟩
  · exact hF.elim
theorem l_mul {K : PySem.W.Frag} : L2R K (rI CMul fun i j => .int (i * j)) gMul := by
  intro Q H μ S v w p q rv rw' t hF
  unfold gMul at hF
  split at hF
  · split at hF
    · rename_i hc
      cases rep_int rv
      cases rep_int rw'
      exact ⟨_, _, rfl, rfl, hc, hF.val t (.inl (.int _))⟩
    · exact hF.elim
  · exact hF.elim
theorem l_fdiv {K : PySem.W.Frag} : L2R K (rI CDivW fun i j => .int (i / j)) gFdiv := by
  intro Q H μ S v w p q rv rw' t hF
  unfold gFdiv at hF
  split at hF
  · split at hF
    · rename_i hc
      cases rep_int rv
      cases rep_int rw'
      exact ⟨_, _, rfl, rfl, wide_div (b := 30) hc.1 (by have := hc.2; omega) (by decide) (by decide), hF.val t (.inl (.int _))⟩
    · exact hF.elim
  · exact hF.elim
theorem l_mod {K : PySem.W.Frag} : L2R K (rI (fun _ j => 0 < j) fun i j => .int (i % j)) gMod := by
  intro Q H μ S v w p q rv rw' t hF
  unfold gMod at hF
  split at hF
  · split at hF
    · rename_i hc
      cases rep_int rv
      cases rep_int rw'
      exact ⟨_, _, rfl, rfl, hc, hF.val t (.inl (.int _))⟩
    · exact hF.elim
  · exact hF.elim
theorem l_pow {K : PySem.W.Frag} : L2R K (rI CPow fun i j => .int (i ^ j.toNat)) gPow := by
  intro Q H μ S v w p q rv rw' t hF
  unfold gPow at hF
  split at hF
  · split at hF
    · rename_i hc
      cases rep_int rv
      cases rep_int rw'
      exact ⟨_, _, rfl, rfl, hc, hF.val t (.inl (.int _))⟩
    · exact hF.elim
  · exact hF.elim
theorem l_neg {K : PySem.W.Frag} : L1R K (rU fun i => .int (-i)) gNeg := by
  intro Q H μ S v p rv t hF
  unfold gNeg at hF
  split at hF
  · cases rep_int rv
    exact ⟨_, rfl, hF.val t (.inl (.int _))⟩
  · exact hF.elim
theorem getL_trk {K H μ S v p xs} (t : Rel K H μ S) (r : Rep K H μ v p) (e : getL p S = some xs) (hn : ∀ ys, p ≠ .frl ys) : ∃ a vs, v = .ref a ∧ H a = some (.lst vs) ∧ RepPs K H μ vs xs := by
  unfold getL at e
  split at e
  · cases e
    exact r.lst_inv
  · exact absurd rfl (hn _)
  · split at e
    · rename_i ys e2
      cases e
      rcases r with r | ⟨_, a, e3, e4, e5⟩
      · cases r
      · cases e3
        subst e5
        obtain ⟨vs, e6, r6⟩ := t.obj _ _ _ e4 e2
        exact ⟨a, vs, rfl, e6, r6⟩
    · cases e
  · cases e
/-- xs + ys of lists: a new one -/
theorem ef_cat {a b : Expr} {fa fb : Ev} {pos : Pos} (ha : EE X a fa) (hb : EE X b fb) : EF X (.BinOp a .Add b pos) (eOp gCat fa fb) :=
  pe_mono (pe_op op_cat ha hb) fun σ H Q ⟨μ, ρ, S, hE, hR, hF⟩ => ⟨μ, ρ, S, hE, hR, (FitsF.bind hF).imp fun p S1 H1 μ1 s1 t1 h1 v rv =>
    ⟨μ1, ρ, S1, hE.step s1, t1, (FitsF.bind h1).imp fun q S2 H2 μ2 s2 t2 h2 w rw' => by
      unfold gCat at h2
      split at h2
      · exact h2.elim
      · exact h2.elim
      · rename_i n1 n2
        split at h2
        · rename_i xs ys e1 e2
          split at h2
          · rename_i hc
            obtain ⟨x, vs, rfl, g1, g2⟩ := getL_trk t2 (rv.step s2) e1 n1
            obtain ⟨y, ws, rfl, k1, k2⟩ := getL_trk t2 rw' e2 n2
            exact ⟨x, y, vs, ws, rfl, rfl, g1, k1, by rw [g2.length, k2.length]; exact hc, FitsF.lay h2 (Step.refl _ _) t2 (g2.append k2)⟩
          · exact h2.elim
        · exact h2.elim⟩⟩

/-! ### comparisons -/
def gLt (p q : PV) (S : Sto) : R PV := match p, q with
  | .int i, .int j => .ok (.bl (decide (i < j))) S
  | _, _ => .no
def gLe (p q : PV) (S : Sto) : R PV := match p, q with
  | .int i, .int j => .ok (.bl (decide (i ≤ j))) S
  | _, _ => .no
def gGt (p q : PV) (S : Sto) : R PV := match p, q with
  | .int i, .int j => .ok (.bl (decide (j < i))) S
  | _, _ => .no
def gGe (p q : PV) (S : Sto) : R PV := match p, q with
  | .int i, .int j => .ok (.bl (decide (j ≤ i))) S
  | _, _ => .no
def gIsN (p q : PV) (S : Sto) : R PV := match q, p with
  | .non, .non => .ok (.bl true) S
  | .non, _ => .ok (.bl false) S
  | _, _ => .no
def gNotN (p q : PV) (S : Sto) : R PV := match q, p with
  | .non, .non => .ok (.bl false) S
  | .non, _ => .ok (.bl true) S
  | _, _ => .no
end
end Py
set_option Elab.async false
set_option maxRecDepth 100000
set_option maxHeartbeats 4000000
set_option linter.all false
namespace Py
open PySem PySem.Spec PyProof.Rows L2

/-! ### data of values -/
mutual
def toD : PV → PyData
  | .non => .none
  | .bl b => .bool b
  | .int i => .int i
  | .str x => .str x
  | .tup xs => .tuple (toDs xs)
  | .lst xs => .list (toDs xs)
  | .frl xs => .list (toDs xs)
  | .dic _ _ => .dict []
  | .ref _ => .dict []
def toDs : List PV → List PyData
  | [] => []
  | x :: xs => toD x :: toDs xs
end
section
variable {K : PySem.W.Frag} {H : Hp} {μ : Mem}
mutual
theorem RepP.dp : ∀ {p : PV} {v : V}, RepP K H μ v p → (toD p).canLay0 = true → Dp K H v (toD p)
  | .non, _, h, _ => by cases h; exact .non
  | .bl b, _, h, _ => by cases h; exact .bl b
  | .int b, _, h, _ => by cases h; exact .int b
  | .str b, _, h, _ => by cases h; exact .str b
  | .tup ps, _, h, c => by
    cases h with
    | tup h1 h2 =>
      rw [toD] at c ⊢
      simp only [PyData.canLay0] at c
      exact .tup h1.sq (RepPs.dps h2 c)
  | .lst ps, _, h, c => by
    cases h with
    | lst h1 n h2 =>
      rw [toD] at c ⊢
      simp only [PyData.canLay0] at c
      exact .lst (.inl (.inl h1)) (RepPs.dps h2 c)
  | .frl ps, _, h, c => by
    cases h with
    | frl h1 h2 =>
      rw [toD] at c ⊢
      simp only [PyData.canLay0] at c
      exact .lst h1.sq (RepPs.dps h2 c)
  | .dic ks ps, _, h, c => by
    rw [toD] at c
    simp [PyData.canLay0] at c
  | .ref n, _, h, c => by cases h
theorem RepPs.dps : ∀ {ps : List PV} {vs : List V}, RepPs K H μ vs ps → PyData.canLayAll0 (toDs ps) = true → DpAll K H vs (toDs ps)
  | [], _, h, _ => by cases h; rw [toDs]; exact .nil
  | p :: ps, _, h, c => by
    cases h with
    | cons h1 h2 =>
      rw [toDs] at c ⊢
      simp only [PyData.canLayAll0, Bool.and_eq_true] at c
      exact .cons (RepP.dp h1 c.1) (RepPs.dps h2 c.2)
end
end
/-- == of two values -/
def gEq (p q : PV) (S : Sto) : R PV := match p, q with
  | .int i, .int j => .ok (.bl (decide (i = j))) S
  | .str i, .str j => .ok (.bl (decide (i = j))) S
  | .bl i, .bl j => .ok (.bl (decide (i = j))) S
  | .ref _, _ => .no
  | _, .ref _ => .no
  | p, q => if SeqAt.shaped (toD p) = true ∧ SeqAt.shaped (toD q) = true then .ok (.bl (PyData.eqv (toD p) (toD q))) S else .no
def gNe (p q : PV) (S : Sto) : R PV := match p, q with
  | .int i, .int j => .ok (.bl (!decide (i = j))) S
  | .str i, .str j => .ok (.bl (!decide (i = j))) S
  | .bl i, .bl j => .ok (.bl (!decide (i = j))) S
  | .ref _, _ => .no
  | _, .ref _ => .no
  | p, q => if SeqAt.shaped (toD p) = true ∧ SeqAt.shaped (toD q) = true then .ok (.bl (!PyData.eqv (toD p) (toD q))) S else .no
theorem noref {p : PV} (h : ∀ n, p = .ref n → False) : p.isRef = false := by
  cases p <;> first | rfl | exact (h _ rfl).elim
theorem Rep.dp {K H μ v p} (r : Rep K H μ v p) (n : ∀ n, p = .ref n → False) (c : SeqAt.shaped (toD p) = true) : Dp K H v (toD p) :=
  (r.pure (noref n)).dp (SeqAt.canLay_of_shaped c)
theorem l_eq {K : PySem.W.Frag} : L2R K (fun x y H Q => rEq x y H Q ∨ rEqD K x y H Q) gEq := by
  intro Q H μ S v w p q rv rw' t hF
  unfold gEq at hF
  split at hF
  · cases rep_int rv; cases rep_int rw'
    refine .inl ⟨rfl, ?_⟩
    have := hF.val t (.inl (.bl _))
    rw [show decide (V.int _ = V.int _) = _ from by rw [dec_int, Bool.beq_eq_decide_eq]]
    exact this
  · cases rep_str rv; cases rep_str rw'
    refine .inl ⟨rfl, ?_⟩
    have := hF.val t (.inl (.bl _))
    rw [show decide (V.str _ = V.str _) = _ from by rw [dec_str, Bool.beq_eq_decide_eq]]
    exact this
  · cases rep_bl rv; cases rep_bl rw'
    refine .inl ⟨rfl, ?_⟩
    have := hF.val t (.inl (.bl _))
    rw [show decide (V.bl _ = V.bl _) = _ from by rw [dec_bl, Bool.beq_eq_decide_eq]]
    exact this
  · exact hF.elim
  · exact hF.elim
  · rename_i n1 n2
    split at hF
    · rename_i hc
      exact .inr ⟨_, _, rv.dp (by assumption) hc.1, rw'.dp (by assumption) hc.2, hc.1, hc.2, hF.val t (.inl (.bl _))⟩
    · exact hF.elim
theorem l_ne {K : PySem.W.Frag} : L2R K (fun x y H Q => rNe x y H Q ∨ rNeD K x y H Q) gNe := by
  intro Q H μ S v w p q rv rw' t hF
  unfold gNe at hF
  split at hF
  · cases rep_int rv; cases rep_int rw'
    refine .inl ⟨rfl, ?_⟩
    have := hF.val t (.inl (.bl _))
    rw [show decide (V.int _ = V.int _) = _ from by rw [dec_int, Bool.beq_eq_decide_eq]]
    exact this
  · cases rep_str rv; cases rep_str rw'
    refine .inl ⟨rfl, ?_⟩
    have := hF.val t (.inl (.bl _))
    rw [show decide (V.str _ = V.str _) = _ from by rw [dec_str, Bool.beq_eq_decide_eq]]
    exact this
  · cases rep_bl rv; cases rep_bl rw'
    refine .inl ⟨rfl, ?_⟩
    have := hF.val t (.inl (.bl _))
    rw [show decide (V.bl _ = V.bl _) = _ from by rw [dec_bl, Bool.beq_eq_decide_eq]]
    exact this
  · exact hF.elim
  · exact hF.elim
  · rename_i n1 n2
    split at hF
    · rename_i hc
      exact .inr ⟨_, _, rv.dp (by assumption) hc.1, rw'.dp (by assumption) hc.2, hc.1, hc.2, hF.val t (.inl (.bl _))⟩
    · exact hF.elim
theorem op_eqA {X : Cx} (hu : X.A.units + 64 < cLine) : OpR X (compareOp .Eq) (fun x y H Q => rEq x y H Q ∨ rEqD X.K x y H Q) := OpR.or op_eq (op_eqD hu)
theorem op_neA {X : Cx} (hu : X.A.units + 64 < cLine) : OpR X (compareOp .NotEq) (fun x y H Q => rNe x y H Q ∨ rNeD X.K x y H Q) := OpR.or op_ne (op_neD hu)

section
variable {K : PySem.W.Frag}
theorem l_lt : L2R K (rI0 fun i j => .bl (decide (i < j))) gLt := by
  intro Q H μ S v w p q rv rw' t hF
  unfold gLt at hF
  split at hF
  · cases rep_int rv; cases rep_int rw'
    exact ⟨_, _, rfl, rfl, hF.val t (.inl (.bl _))⟩
  · exact hF.elim
theorem l_le : L2R K (rI0 fun i j => .bl (decide (i ≤ j))) gLe := by
  intro Q H μ S v w p q rv rw' t hF
  unfold gLe at hF
  split at hF
  · cases rep_int rv; cases rep_int rw'
    exact ⟨_, _, rfl, rfl, hF.val t (.inl (.bl _))⟩
  · exact hF.elim
theorem l_gt : L2R K (rI0 fun i j => .bl (decide (j < i))) gGt := by
  intro Q H μ S v w p q rv rw' t hF
  unfold gGt at hF
  split at hF
  · cases rep_int rv; cases rep_int rw'
    exact ⟨_, _, rfl, rfl, hF.val t (.inl (.bl _))⟩
  · exact hF.elim
theorem l_ge : L2R K (rI0 fun i j => .bl (decide (j ≤ i))) gGe := by
  intro Q H μ S v w p q rv rw' t hF
  unfold gGe at hF
  split at hF
  · cases rep_int rv; cases rep_int rw'
    exact ⟨_, _, rfl, rfl, hF.val t (.inl (.bl _))⟩
  · exact hF.elim
theorem rep_notnon {H μ v p} (r : Rep K H μ v p) (h : p = .non → False) : decide (v = V.non) = false := by
  refine decide_eq_false fun e => ?_
  subst e
  rcases r with r | ⟨_, _, _, _, e⟩
  · cases r; exact h rfl
  · cases e
theorem l_isN : L2R K (fun x y H Q => y = .non ∧ Q (.bl (decide (x = .non))) H) gIsN := by
  intro Q H μ S v w p q rv rw' t hF
  unfold gIsN at hF
  split at hF
  · cases rep_non rv; cases rep_non rw'
    exact ⟨rfl, hF.val t (.inl (.bl _))⟩
  · rename_i h
    cases rep_non rw'
    refine ⟨rfl, ?_⟩
    rw [rep_notnon rv h]
    exact hF.val t (.inl (.bl _))
  · exact hF.elim
theorem l_notN : L2R K (fun x y H Q => y = .non ∧ Q (.bl (!decide (x = .non))) H) gNotN := by
  intro Q H μ S v w p q rv rw' t hF
  unfold gNotN at hF
  split at hF
  · cases rep_non rv; cases rep_non rw'
    exact ⟨rfl, hF.val t (.inl (.bl _))⟩
  · rename_i h
    cases rep_non rw'
    refine ⟨rfl, ?_⟩
    rw [rep_notnon rv h]
    exact hF.val t (.inl (.bl _))
  · exact hF.elim
end

/-! ### in -/
def flatP : PV → Bool
  | .non => true
  | .bl _ => true
  | .int _ => true
  | .str _ => true
  | _ => false
def eqF : PV → PV → Bool
  | .non, .non => true
  | .bl a, .bl b => a == b
  | .bl a, .int b => (if a then 1 else 0) == b
  | .int a, .bl b => a == (if b then 1 else 0)
  | .int a, .int b => a == b
  | .str a, .str b => a == b
  | _, _ => false
def getQ (p : PV) (S : Sto) : Option (List PV) := match p with
  | .tup xs => some xs
  | p => getL p S
def gIn (neg : Bool) (p q : PV) (S : Sto) : R PV := match p, q with
  | .str a, .str b => if a.cps.size = 1 then .ok (.bl (if neg then !decide (a.cps.getD 0 0 ∈ b.cps.toList) else decide (a.cps.getD 0 0 ∈ b.cps.toList))) S else .no
  | p, q => match getQ q S with
    | some xs => if flatP p = true ∧ xs.all flatP = true then .ok (.bl (if neg then !xs.any (fun y => eqF y p) else xs.any (fun y => eqF y p))) S else .no
    | none => .no
section
variable {K : PySem.W.Frag} {H : Hp} {μ : Mem}
theorem Rep.flat {v p} (r : Rep K H μ v p) (f : flatP p = true) : flatV v = true ∧ (∀ w q, Rep K H μ w q → flatP q = true → eqV w v = eqF q p) := by
  cases p <;> first | (cases f; done) | skip
  · cases rep_non r
    refine ⟨rfl, fun w q rq fq => ?_⟩
    cases q <;> first | (cases fq; done) | (cases rep_non rq; rfl) | (cases rep_bl rq; rfl) | (cases rep_int rq; rfl) | (cases rep_str rq; rfl)
  · cases rep_bl r
    refine ⟨rfl, fun w q rq fq => ?_⟩
    cases q <;> first | (cases fq; done) | (cases rep_non rq; rfl) | (cases rep_bl rq; rfl) | (cases rep_int rq; rfl) | (cases rep_str rq; rfl)
  · cases rep_int r
    refine ⟨rfl, fun w q rq fq => ?_⟩
    cases q <;> first | (cases fq; done) | (cases rep_non rq; rfl) | (cases rep_bl rq; rfl) | (cases rep_int rq; rfl) | (cases rep_str rq; rfl)
  · cases rep_str r
    refine ⟨rfl, fun w q rq fq => ?_⟩
    cases q <;> first | (cases fq; done) | (cases rep_non rq; rfl) | (cases rep_bl rq; rfl) | (cases rep_int rq; rfl) | (cases rep_str rq; rfl)
theorem RepPs.flat {v p} (r : Rep K H μ v p) (f : flatP p = true) : ∀ {ps : List PV} {vs : List V}, RepPs K H μ vs ps → ps.all flatP = true → vs.all flatV = true ∧ inV v vs = ps.any (fun y => eqF y p)
  | [], _, h, _ => by cases h; exact ⟨rfl, rfl⟩
  | q :: ps, _, h, c => by
    cases h with
    | cons h1 h2 =>
      simp only [List.all_cons, Bool.and_eq_true] at c
      obtain ⟨a, b⟩ := RepPs.flat r f h2 c.2
      refine ⟨by simp only [List.all_cons, (Rep.flat (.inl h1) c.1).1, a, Bool.and_self], ?_⟩
      unfold inV at b ⊢
      rw [List.any_cons, List.any_cons, b, (r.flat f).2 _ _ (.inl h1) c.1]
end
theorem getQ_of {K H μ S v p xs} (t : Rel K H μ S) (r : Rep K H μ v p) (e : getQ p S = some xs) : ∃ a vs, v = .ref a ∧ (SqL K H a vs ∨ SqT K H a vs) ∧ RepPs K H μ vs xs := by
  unfold getQ at e
  split at e
  · cases e
    obtain ⟨a, vs, e, h1, h2⟩ := r.tup_inv
    exact ⟨a, vs, e, .inr h1.sq, h2⟩
  · obtain ⟨a, vs, e, h1, h2⟩ := getL_of t r e
    exact ⟨a, vs, e, .inl h1, h2⟩
theorem single {a : Str} (h : a.cps.size = 1) : a = ⟨#[a.cps.getD 0 0]⟩ := by
  cases a with
  | mk c =>
    congr 1
    apply Array.ext
    · simpa using h
    · intro i h1 h2
      have : i = 0 := by simp at h2; omega
      subst this
      simp [Array.getD, h1]
theorem op_inA {X : Cx} : OpR X (compareOp .In) (fun x y H Q => (∃ (c : Nat) (z : Str), x = .str ⟨#[c]⟩ ∧ y = .str z ∧ Q (.bl (decide (c ∈ z.cps.toList))) H) ∨ rIn X.K false x y H Q) := OpR.or op_in_sign op_in_seq
theorem op_ninA {X : Cx} : OpR X (compareOp .NotIn) (fun x y H Q => (∃ (c : Nat) (z : Str), x = .str ⟨#[c]⟩ ∧ y = .str z ∧ Q (.bl (!decide (c ∈ z.cps.toList))) H) ∨ rIn X.K true x y H Q) := OpR.or op_notIn_sign op_notIn_seq
theorem l_in {K : PySem.W.Frag} : L2R K (fun x y H Q => (∃ (c : Nat) (z : Str), x = .str ⟨#[c]⟩ ∧ y = .str z ∧ Q (.bl (decide (c ∈ z.cps.toList))) H) ∨ rIn K false x y H Q) (gIn false) := by
  intro Q H μ S v w p q rv rw' t hF
  unfold gIn at hF
  split at hF
  · split at hF
    · rename_i a b hc
      cases rep_str rv; cases rep_str rw'
      exact .inl ⟨a.cps.getD 0 0, b, by rw [← single hc], rfl, hF.val t (.inl (.bl _))⟩
    · exact hF.elim
  · split at hF
    · rename_i xs e
      split at hF
      · rename_i hc
        obtain ⟨a, vs, rfl, h1, h2⟩ := getQ_of t rw' e
        obtain ⟨f1, f2⟩ := RepPs.flat rv hc.1 h2 hc.2
        refine .inr ⟨a, vs, rfl, h1, (rv.flat hc.1).1, f1, ?_⟩
        rw [f2]
        exact hF.val t (.inl (.bl _))
      · exact hF.elim
    · exact hF.elim
theorem l_nin {K : PySem.W.Frag} : L2R K (fun x y H Q => (∃ (c : Nat) (z : Str), x = .str ⟨#[c]⟩ ∧ y = .str z ∧ Q (.bl (!decide (c ∈ z.cps.toList))) H) ∨ rIn K true x y H Q) (gIn true) := by
  intro Q H μ S v w p q rv rw' t hF
  unfold gIn at hF
  split at hF
  · split at hF
    · rename_i a b hc
      cases rep_str rv; cases rep_str rw'
      exact .inl ⟨a.cps.getD 0 0, b, by rw [← single hc], rfl, hF.val t (.inl (.bl _))⟩
    · exact hF.elim
  · split at hF
    · rename_i xs e
      split at hF
      · rename_i hc
        obtain ⟨a, vs, rfl, h1, h2⟩ := getQ_of t rw' e
        obtain ⟨f1, f2⟩ := RepPs.flat rv hc.1 h2 hc.2
        refine .inr ⟨a, vs, rfl, h1, (rv.flat hc.1).1, f1, ?_⟩
        rw [f2]
        exact hF.val t (.inl (.bl _))
      · exact hF.elim
    · exact hF.elim

/-! ### subscripts -/
def gIx (p q : PV) (S : Sto) : R PV := match p, q with
  | .str z, .int i => if z.length ≤ sizeLine then match atI z.cps.toList i with
    | some c => .ok (.str ⟨#[c]⟩) S
    | none => .no
    else .no
  | p, .int i => match getQ p S with
    | some xs => match atI xs i with
      | some x => .ok x S
      | none => .no
    | none => .no
  | _, _ => .no
theorem atI_rep {K H μ} {ps : List PV} {vs : List V} {i : Int} {p : PV} (r : RepPs K H μ vs ps) (e : atI ps i = some p) : ∃ v, atI vs i = some v ∧ RepP K H μ v p := by
  unfold atI at e ⊢
  rw [r.length]
  cases h : ixN ps.length i with
  | none => rw [h] at e; cases e
  | some j =>
    rw [h] at e
    exact r.get (i := j) e
theorem l_ix {K : PySem.W.Frag} : L2R K (rIx K) gIx := by
  intro Q H μ S v w p q rv rw' t hF
  unfold gIx at hF
  split at hF
  · split at hF
    · rename_i hc
      split at hF
      · rename_i c e
        cases rep_str rv; cases rep_int rw'
        exact .inr (.inr ⟨_, _, c, rfl, rfl, hc, e, hF.val t (.inl (.str _))⟩)
      · exact hF.elim
    · exact hF.elim
  · split at hF
    · rename_i xs e
      split at hF
      · rename_i x e2
        cases rep_int rw'
        obtain ⟨a, vs, rfl, h1, h2⟩ := getQ_of t rv e
        obtain ⟨u, e3, r3⟩ := atI_rep h2 e2
        have q := hF.val t (.inl r3)
        rcases h1 with h1 | h1
        · exact .inl ⟨a, vs, _, u, rfl, rfl, h1, e3, q⟩
        · exact .inr (.inl ⟨a, vs, _, u, rfl, rfl, h1, e3, q⟩)
      · exact hF.elim
    · exact hF.elim
  · exact hF.elim
theorem ee_ix {X : Cx} {a b : Expr} {fa fb : Ev} {pos : Pos} (ha : EE X a fa) (hb : EE X b fb) (hs : PlainIx b) : EE X (.Subscript a b pos) (eOp gIx fa fb) :=
  pe_mono (pe_ix ix_seq ha hb hs) fun σ H Q h => two h fun H2 μ2 S2 v w p q rv rw' t h2 => l_ix Q H2 μ2 S2 v w p q rv rw' t h2

/-! ### slices -/
abbrev Eo := Env → Sto → R (Option Int)
def oNone : Eo := fun _ S => .ok none S
def oSome (a : Ev) : Eo := fun ρ S => (a ρ S).bind fun p S1 => match p with
  | .int i => .ok (some i) S1
  | _ => .no
def tEo (K : PySem.W.Frag) (f : Eo) : L2.St → Hp → (Option Int → Hp → Prop) → Prop := fun σ H Q => ∃ μ ρ S, ERel K H μ σ ρ ∧ Rel K H μ S ∧ FitsG K H μ (f ρ S) (fun o _ H' _ => Q o H')
def EO (X : Cx) (e : Option Expr) (f : Eo) : Prop := PO X e (tEo X.K f)
end Py
set_option Elab.async false
set_option maxRecDepth 100000
set_option maxHeartbeats 4000000
set_option linter.all false
namespace Py
open PySem PySem.Spec PyProof.Rows L2

theorem po_mono {X : Cx} {e : Option Expr} {t t' : TO} (h : PO X e t) (f : ∀ σ H Q, t' σ H Q → t σ H Q) : PO X e t' := ⟨fun pins s σ H Q I q => h.run pins s σ H Q I (f σ H Q q)⟩
theorem eo_none {X : Cx} : EO X none oNone := po_mono po_none fun σ H Q ⟨μ, ρ, S, hE, hR, hF⟩ => FitsG.here hF hR
theorem eo_some {X : Cx} {e : Expr} {fa : Ev} (h : EE X e fa) : EO X (some e) (oSome fa) := po_mono (po_some h) fun σ H Q ⟨μ, ρ, S, hE, hR, hF⟩ =>
  ⟨μ, ρ, S, hE, hR, (FitsG.bind hF).imp fun p S1 H1 μ1 s1 t1 h1 v rv => by
    split at h1
    · rename_i i
      cases rep_int rv
      exact ⟨i, rfl, FitsG.here h1 t1⟩
    · exact h1.elim⟩
/-- the items of xs[lo:hi] -/
def cutP (xs : List PV) (lo hi : Option Int) : List PV := (xs.drop (HT.sIx xs.length 0 lo)).take (HT.sIx xs.length xs.length hi - HT.sIx xs.length 0 lo)
def gSl (p : PV) (lo hi : Option Int) (S : Sto) : R PV := match p with
  | .tup xs => .ok (.tup (cutP xs lo hi)) S
  | .str z => if z.length ≤ sizeLine then .ok (.str (cutS z lo hi)) S else .no
  | _ => .no
def gSlF (p : PV) (lo hi : Option Int) (S : Sto) : R PV := match getL p S with
  | some xs => .ok (.lst (cutP xs lo hi)) S
  | none => .no
def eSl (a : Ev) (l u : Eo) : Ev := fun ρ S => (a ρ S).bind fun p S1 => (l ρ S1).bind fun lo S2 => (u ρ S2).bind fun hi S3 => gSl p lo hi S3
def fSl (a : Ev) (l u : Eo) : Ev := fun ρ S => (a ρ S).bind fun p S1 => (l ρ S1).bind fun lo S2 => (u ρ S2).bind fun hi S3 => gSlF p lo hi S3
theorem RepPs.cut {K H μ ps vs} (r : RepPs K H μ vs ps) (lo hi : Option Int) : RepPs K H μ (cutV vs lo hi) (cutP ps lo hi) := by
  unfold cutV cutP
  rw [r.length]
  exact (r.drop _).take _
theorem cutP_all {xs : List PV} {lo hi : Option Int} (h : HT.sIx xs.length 0 lo = 0 ∧ HT.sIx xs.length xs.length hi = xs.length) : cutP xs lo hi = xs := by
  unfold cutP
  rw [h.1, h.2]
  simp
section
variable {X : Cx} {e : Expr} {lo hi : Option Expr} {fa : Ev} {fl fu : Eo} {pos p2 : Pos}
theorem ee_sl (ha : EE X e fa) (hl : EO X lo fl) (hu : EO X hi fu) : EE X (.Subscript e (.Slice lo hi none p2) pos) (eSl fa fl fu) :=
  pe_mono (pe_slice (SlR.or sl_tupA sl_str) ha hl hu) fun σ H Q ⟨μ, ρ, S, hE, hR, hF⟩ => ⟨μ, ρ, S, hE, hR, (FitsG.bind hF).imp fun p S1 H1 μ1 s1 t1 h1 v rv =>
    ⟨μ1, ρ, S1, hE.step s1, t1, (FitsG.bind h1).imp fun l S2 H2 μ2 s2 t2 h2 =>
      ⟨μ2, ρ, S2, (hE.step s1).step s2, t2, (FitsG.bind h2).imp fun u S3 H3 μ3 s3 t3 h3 => by
        have rv := (rv.step s2).step s3
        unfold gSl at h3
        split at h3
        · rename_i xs
          obtain ⟨a, vs, rfl, g1, g2⟩ := rv.tup_inv
          refine .inl ⟨a, vs, rfl, g1.sq, fun hw => ?_, fun hw => ?_⟩
          · rw [g2.length] at hw
            rw [cutP_all hw] at h3
            exact h3.val t3 rv
          · exact lay_tup (fun p S H' μ' h => h) h3 t3 (g2.cut l u)
        · split at h3
          · rename_i hc
            cases rep_str rv
            exact .inr ⟨_, rfl, hc, h3.val t3 (.inl (.str _))⟩
          · exact h3.elim
        · exact h3.elim⟩⟩⟩
theorem ef_sl (ha : EE X e fa) (hl : EO X lo fl) (hu : EO X hi fu) : EF X (.Subscript e (.Slice lo hi none p2) pos) (fSl fa fl fu) :=
  pe_mono (pe_slice sl_list ha hl hu) fun σ H Q ⟨μ, ρ, S, hE, hR, hF⟩ => ⟨μ, ρ, S, hE, hR, (FitsF.bind hF).imp fun p S1 H1 μ1 s1 t1 h1 v rv =>
    ⟨μ1, ρ, S1, hE.step s1, t1, (FitsF.bind h1).imp fun l S2 H2 μ2 s2 t2 h2 =>
      ⟨μ2, ρ, S2, (hE.step s1).step s2, t2, (FitsF.bind h2).imp fun u S3 H3 μ3 s3 t3 h3 => by
        have rv := (rv.step s2).step s3
        unfold gSlF at h3
        split at h3
        · rename_i xs e
          obtain ⟨a, vs, rfl, g1, g2⟩ := getL_of t3 rv e
          exact ⟨a, vs, rfl, g1, FitsF.lay h3 (Step.refl _ _) t3 (g2.cut l u)⟩
        · exact h3.elim⟩⟩⟩
def gRev (p : PV) (S : Sto) : R PV := match getL p S with
  | some xs => .ok (.lst xs.reverse) S
  | none => .no
theorem ef_rev {p1 p3 : Pos} {k : Nat} (ha : EE X e fa) (h : PE X (.Subscript e (.Slice none none (some (.UnaryOp .USub (.Constant (.int 1) k p1) p2)) p3) pos) (tRevL X.K (tEv X.K fa))) : EF X (.Subscript e (.Slice none none (some (.UnaryOp .USub (.Constant (.int 1) k p1) p2)) p3) pos) (eUn gRev fa) :=
  pe_mono h fun σ H Q ⟨μ, ρ, S, hE, hR, hF⟩ => ⟨μ, ρ, S, hE, hR, (FitsF.bind hF).imp fun p S1 H1 μ1 s1 t1 h1 v rv => by
    unfold gRev at h1
    split at h1
    · rename_i xs e
      obtain ⟨a, vs, rfl, g1, g2⟩ := getL_of t1 rv e
      exact ⟨a, vs, rfl, g1, FitsF.lay h1 (Step.refl _ _) t1 g2.reverse⟩
    · exact h1.elim⟩
end

/-! ### truth, and, or, if as values -/
def truP (p : PV) (S : Sto) : R Bool := match p with
  | .bl b => .ok b S
  | .non => .ok false S
  | .int i => .ok (i != 0) S
  | .str y => if y.length ≤ sizeLine then .ok ((y.length : Int) != 0) S else .no
  | p => match getQ p S with
    | some xs => .ok (!xs.isEmpty) S
    | none => .no
theorem RepPs.emp {K H μ vs ps} (r : RepPs K H μ vs ps) : vs.isEmpty = ps.isEmpty := by
  cases r <;> rfl
def tT (a : Ev) : Et := fun ρ S => (a ρ S).bind truP
def eAndV (a b : Ev) : Ev := fun ρ S => (a ρ S).bind fun p S1 => (toB p S1).bind fun c S2 => if c = true then b ρ S2 else .ok (.bl false) S2
def eOrV (a b : Ev) : Ev := fun ρ S => (a ρ S).bind fun p S1 => (toB p S1).bind fun c S2 => if c = true then .ok (.bl true) S2 else b ρ S2
def eNotV (a : Ev) : Ev := fun ρ S => (a ρ S).bind fun p S1 => (toB p S1).bind fun c S2 => .ok (.bl (!c)) S2
def eNotT (a : Ev) : Ev := fun ρ S => (a ρ S).bind fun p S1 => (truP p S1).bind fun c S2 => .ok (.bl (!c)) S2
def eIf (t : Et) (a b : Ev) : Ev := fun ρ S => (t ρ S).bind fun c S1 => if c = true then a ρ S1 else b ρ S1
theorem truP_of {K H μ S p v} {k : Bool → List PV → Hp → Mem → Prop} (t : Rel K H μ S) (r : Rep K H μ v p) (h : FitsG K H μ (truP p S) k) : ∃ b, TruV K v H b ∧ k b S H μ ∧ truP p S = .ok b S := by
  unfold truP at h ⊢
  split at h
  · cases rep_bl r; exact ⟨_, rfl, FitsG.here h t, rfl⟩
  · cases rep_non r; exact ⟨_, rfl, FitsG.here h t, rfl⟩
  · cases rep_int r; exact ⟨_, rfl, FitsG.here h t, rfl⟩
  · split at h
    · rename_i hc
      cases rep_str r; exact ⟨_, ⟨hc, rfl⟩, FitsG.here h t, by simp only [hc, if_true]⟩
    · exact h.elim
  · split at h
    · rename_i xs e
      obtain ⟨a, vs, rfl, g1, g2⟩ := getQ_of t r e
      refine ⟨!xs.isEmpty, ?_, FitsG.here h t, by simp only [e]⟩
      rw [← g2.emp]
      rcases g1 with g1 | g1
      · exact .inl ⟨vs, g1, rfl⟩
      · exact .inr (.inl ⟨vs, g1, rfl⟩)
    · exact h.elim
section
variable {X : Cx} {a b c : Expr} {fa fb : Ev} {ft : Et} {pos : Pos}
theorem et_truth (ha : EE X a fa) (he : ∀ whole, isTrue a X.env whole = (do let v ← whole; standAt a.pos; holding [v] (truthy v)) := by intro _; rfl) : ET X a (tT fa) :=
  pt_mono (pt_truth ha he) fun σ H Q ⟨μ, ρ, S, hE, hR, hF⟩ => ⟨μ, ρ, S, hE, hR, (FitsG.bind hF).imp fun p S1 H1 μ1 s1 t1 h1 v rv => by
    obtain ⟨b, h2, h3, _⟩ := truP_of t1 rv h1
    exact ⟨b, h2, h3⟩⟩
theorem ee_one {op} (h : EE X a fa) : EE X (.BoolOp op [a] pos) fa := pe_mono (pe_one h) fun _ _ _ h => h
theorem ee_and {rest : List Expr} (ha : EE X a fa) (hb : EE X (.BoolOp .And (b :: rest) pos) fb) : EE X (.BoolOp .And (a :: b :: rest) pos) (eAndV fa fb) :=
  pe_mono (pe_and ha hb) fun σ H Q ⟨μ, ρ, S, hE, hR, hF⟩ => ⟨μ, ρ, S, hE, hR, (FitsG.bind hF).imp fun p S1 H1 μ1 s1 t1 h1 v rv => by
    obtain ⟨d, rfl, h2⟩ := toB_of (FitsG.bind h1)
    have h3 := FitsG.here h2 t1
    refine ⟨d, rep_bl rv, ?_⟩
    cases d with
    | true => exact iteT ⟨μ1, ρ, S1, hE.step s1, t1, h3⟩
    | false => exact iteF (FitsG.val h3 t1 (.inl (.bl _)))⟩
theorem ee_or {rest : List Expr} (ha : EE X a fa) (hb : EE X (.BoolOp .Or (b :: rest) pos) fb) : EE X (.BoolOp .Or (a :: b :: rest) pos) (eOrV fa fb) :=
  pe_mono (pe_or ha hb) fun σ H Q ⟨μ, ρ, S, hE, hR, hF⟩ => ⟨μ, ρ, S, hE, hR, (FitsG.bind hF).imp fun p S1 H1 μ1 s1 t1 h1 v rv => by
    obtain ⟨d, rfl, h2⟩ := toB_of (FitsG.bind h1)
    have h3 := FitsG.here h2 t1
    refine ⟨d, rep_bl rv, ?_⟩
    cases d with
    | true => exact iteT (FitsG.val h3 t1 (.inl (.bl _)))
    | false => exact iteF ⟨μ1, ρ, S1, hE.step s1, t1, h3⟩⟩
theorem ee_not (ha : EE X a fa) : EE X (.UnaryOp .Not a pos) (eNotV fa) :=
  pe_mono (pe_not ha) fun σ H Q ⟨μ, ρ, S, hE, hR, hF⟩ => ⟨μ, ρ, S, hE, hR, (FitsG.bind hF).imp fun p S1 H1 μ1 s1 t1 h1 v rv => by
    obtain ⟨d, rfl, h2⟩ := toB_of (FitsG.bind h1)
    exact ⟨d, rep_bl rv, FitsG.val (FitsG.here h2 t1) t1 (.inl (.bl _))⟩⟩
theorem ee_if (hc : ET X c ft) (ha : EE X a fa) (hb : EE X b fb) : EE X (.IfExp c a b pos) (eIf ft fa fb) :=
  pe_mono (pe_ifExp hc ha hb) fun σ H Q ⟨μ, ρ, S, hE, hR, hF⟩ => ⟨μ, ρ, S, hE, hR, (FitsG.bind hF).imp fun d S1 H1 μ1 s1 t1 h1 => by
    show if d = true then _ else _
    cases d with
    | true => exact iteT ⟨μ1, ρ, S1, hE.step s1, t1, h1⟩
    | false => exact iteF ⟨μ1, ρ, S1, hE.step s1, t1, h1⟩⟩
/-- a op b op c -/
def eChain (g g' : PV → PV → Sto → R PV) (a b c : Ev) : Ev := fun ρ S => (a ρ S).bind fun x S1 => (b ρ S1).bind fun y S2 => (g x y S2).bind fun z S3 => (toB z S3).bind fun k S4 => if k = true then (c ρ S4).bind fun u S5 => g' y u S5 else .ok (.bl false) S4
variable {fc : Ev} {op op' : CmpOp} {r r' : R2} {g g' : PV → PV → Sto → R PV}
theorem FitsG.bind' {α β : Type} {K : PySem.W.Frag} {H : Hp} {μ : Mem} {r : R α} {f : α → List PV → R β} {k : β → List PV → Hp → Mem → Prop} (h : FitsG K H μ (r.bind f) k) : FitsG K H μ r (fun a S' H' μ' => FitsG K H' μ' (f a S') k) := FitsG.bind h
theorem ee_chain (ho : OpR X (compareOp op) r) (hr : L2R X.K r g) (ho' : OpR X (compareOp op') r') (hr' : L2R X.K r' g') (ha : EE X a fa) (hb : EE X b fb) (hc : EE X c fc)
    (hm : lastMarks [op, op'] [b, c] = false := by with_unfolding_all rfl)
    (hg : ∀ p q S z S', g p q S = .ok z S' → S' = S) : EE X (.Compare a [op, op'] [b, c] pos) (eChain g g' fa fb fc) :=
  pe_mono (pe_chain ho ho' ha hb hc hm) fun σ H Q ⟨μ, ρ, S, hE, hR, hF⟩ => ⟨μ, ρ, S, hE, hR, (FitsG.bind hF).imp fun p S1 H1 μ1 s1 t1 h1 v rv =>
    ⟨μ1, ρ, S1, hE.step s1, t1, (FitsG.bind h1).imp fun q S2 H2 μ2 s2 t2 h2 w rw' => by
      refine hr _ H2 μ2 S2 v w p q (rv.step s2) rw' t2 ((FitsG.bind h2).imp fun z S3 H3 μ3 s3 t3 h3 u ru => ?_)
      obtain ⟨k, rfl, h4⟩ := toB_of (FitsG.bind h3)
      have h5 := FitsG.here h4 t3
      refine ⟨k, rep_bl ru, ?_⟩
      cases k with
      | true => exact iteT ⟨μ3, ρ, S3, ((hE.step s1).step s2).step s3, t3, (FitsG.bind h5).imp fun y S4 H4 μ4 s4 t4 h6 w' rw2 => hr' _ H4 μ4 S4 w w' q y ((rw'.step s3).step s4) rw2 t4 h6⟩
      | false => exact iteF (FitsG.val h5 t3 (.inl (.bl _)))⟩⟩
end

/-! ### built-in functions by values -/
def LAR (K : PySem.W.Frag) (r : List V → Hp → VK → Prop) (g : List PV → Sto → R PV) : Prop := ∀ Q H μ S vs ps, Reps K H μ vs ps → Rel K H μ S → FitsG K H μ (g ps S) (VKont K Q) → r vs H Q
def LAF (K : PySem.W.Frag) (r : List V → Hp → VK → Prop) (g : List PV → Sto → R PV) : Prop := ∀ Q H μ S vs ps, Reps K H μ vs ps → Rel K H μ S → FitsF K H μ (g ps S) Q → r vs H Q
section
variable {X : Cx} {x : Str} {p pos : Pos} {e : Expr} {es : List Expr} {fa : Ea} {id T : String} {r : List V → Hp → VK → Prop} {g : List PV → Sto → R PV} {gf : List PV → Sto → R PV}
theorem ee_callB (hc : CallR X (.builtin id) r) (hr : LAR X.K r g) (hg : Gl X x) (hm : X.mg x = none) (hv : bootBuiltins x = some (.builtin id)) (ha : EA X (e :: es) fa) (hn : x ≠ "__name__" := by decide) (hdb : (x == ("__debug__" : Str)) = false := by decide)
    (he : starEach (e :: es) X.env = (false, eval e X.env) :: starEach es X.env := by rfl) (hpl : (backTo pos (starEach es X.env)).any (·.1) = false := by rfl) : EE X (.Call (.Name x p) (e :: es) [] pos) (eArgs g fa) :=
  pe_mono (pe_callB hc hg hm hv ha hn hdb he hpl) fun σ H Q h => args h fun H2 μ2 S2 vs ps rv t h2 => hr Q H2 μ2 S2 vs ps rv t h2
theorem ee_callTy (hc : CallR X (.type T) r) (hr : LAR X.K r g) (hg : Gl X x) (hm : X.mg x = none) (hv : bootBuiltins x = some (.type T)) (ha : EA X (e :: es) fa) (hn : x ≠ "__name__" := by decide) (hdb : (x == ("__debug__" : Str)) = false := by decide)
    (he : starEach (e :: es) X.env = (false, eval e X.env) :: starEach es X.env := by rfl) (hpl : (backTo pos (starEach es X.env)).any (·.1) = false := by rfl) : EE X (.Call (.Name x p) (e :: es) [] pos) (eArgs g fa) :=
  pe_mono (pe_callTy hc hg hm hv ha hn hdb he hpl) fun σ H Q h => args h fun H2 μ2 S2 vs ps rv t h2 => hr Q H2 μ2 S2 vs ps rv t h2
theorem ef_callB (hc : CallR X (.builtin id) r) (hr : LAF X.K r gf) (hg : Gl X x) (hm : X.mg x = none) (hv : bootBuiltins x = some (.builtin id)) (ha : EA X (e :: es) fa) (hn : x ≠ "__name__" := by decide) (hdb : (x == ("__debug__" : Str)) = false := by decide)
    (he : starEach (e :: es) X.env = (false, eval e X.env) :: starEach es X.env := by rfl) (hpl : (backTo pos (starEach es X.env)).any (·.1) = false := by rfl) : EF X (.Call (.Name x p) (e :: es) [] pos) (eArgs gf fa) :=
  pe_mono (pe_callB hc hg hm hv ha hn hdb he hpl) fun σ H Q h => argsF h fun H2 μ2 S2 vs ps rv t h2 => hr Q H2 μ2 S2 vs ps rv t h2
theorem ef_callTy (hc : CallR X (.type T) r) (hr : LAF X.K r gf) (hg : Gl X x) (hm : X.mg x = none) (hv : bootBuiltins x = some (.type T)) (ha : EA X (e :: es) fa) (hn : x ≠ "__name__" := by decide) (hdb : (x == ("__debug__" : Str)) = false := by decide)
    (he : starEach (e :: es) X.env = (false, eval e X.env) :: starEach es X.env := by rfl) (hpl : (backTo pos (starEach es X.env)).any (·.1) = false := by rfl) : EF X (.Call (.Name x p) (e :: es) [] pos) (eArgs gf fa) :=
  pe_mono (pe_callTy hc hg hm hv ha hn hdb he hpl) fun σ H Q h => argsF h fun H2 μ2 S2 vs ps rv t h2 => hr Q H2 μ2 S2 vs ps rv t h2
end
theorem Reps.one {K H μ vs p} (h : Reps K H μ vs [p]) : ∃ v, vs = [v] ∧ Rep K H μ v p := by
  cases h with
  | cons h1 h2 => cases h2; exact ⟨_, rfl, h1⟩
theorem Reps.two {K H μ vs p q} (h : Reps K H μ vs [p, q]) : ∃ v w, vs = [v, w] ∧ Rep K H μ v p ∧ Rep K H μ w q := by
  cases h with
  | cons h1 h2 =>
    obtain ⟨w, rfl, h3⟩ := Reps.one h2
    exact ⟨_, w, rfl, h1, h3⟩
def gLen (ps : List PV) (S : Sto) : R PV := match ps with
  | [.str z] => if z.length ≤ sizeLine then .ok (.int z.length) S else .no
  | [.dic ks _] => .ok (.int ks.length) S
  | [p] => match getQ p S with
    | some xs => .ok (.int xs.length) S
    | none => .no
  | _ => .no
theorem call_lenA {X : Cx} : CallR X (.builtin "len") (fun xs H Q => (∃ x n, xs = [x] ∧ LenV X.K x H n ∧ Q (.int n) H) ∨ (∃ a kvs, xs = [V.ref a] ∧ H a = some (.dK kvs) ∧ Q (.int kvs.length) H)) := CallR.or call_len call_lenD
theorem l_len {K : PySem.W.Frag} : LAR K (fun xs H Q => (∃ x n, xs = [x] ∧ LenV K x H n ∧ Q (.int n) H) ∨ (∃ a kvs, xs = [V.ref a] ∧ H a = some (.dK kvs) ∧ Q (.int kvs.length) H)) gLen := by
  intro Q H μ S vs ps rv t hF
  unfold gLen at hF
  split at hF
  · split at hF
    · rename_i hc
      obtain ⟨v, rfl, h1⟩ := rv.one
      cases rep_str h1
      exact .inl ⟨_, _, rfl, ⟨hc, rfl⟩, hF.val t (.inl (.int _))⟩
    · exact hF.elim
  · obtain ⟨v, rfl, h1⟩ := rv.one
    rcases h1 with h1 | ⟨_, _, e, _⟩
    · cases h1 with
      | dic h1 n h2 =>
        refine .inr ⟨_, _, rfl, h1, ?_⟩
        have := hF.val t (.inl (.int _))
        simpa using this
    · cases e
  · split at hF
    · rename_i xs e
      obtain ⟨v, rfl, h1⟩ := rv.one
      obtain ⟨a, vs, rfl, g1, g2⟩ := getQ_of t h1 e
      refine .inl ⟨_, vs.length, rfl, ?_, by rw [g2.length]; exact hF.val t (.inl (.int _))⟩
      rcases g1 with g1 | g1
      · exact .inl ⟨vs, g1, rfl⟩
      · exact .inr ⟨vs, g1, rfl⟩
    · exact hF.elim
  · exact hF.elim
def gInt (ps : List PV) (S : Sto) : R PV := match ps with
  | [.int i] => .ok (.int i) S
  | _ => .no
theorem l_int {K : PySem.W.Frag} : LAR K (fun xs H Q => (∃ i, xs = [.int i] ∧ Q (.int i) H) ∨ ∃ k, xs = [.bl k] ∧ Q (.int (if k then 1 else 0)) H) gInt := by
  intro Q H μ S vs ps rv t hF
  unfold gInt at hF
  split at hF
  · obtain ⟨v, rfl, h1⟩ := rv.one
    cases rep_int h1
    exact .inl ⟨_, rfl, hF.val t (.inl (.int _))⟩
  · exact hF.elim
def gAbs (ps : List PV) (S : Sto) : R PV := match ps with
  | [.int i] => .ok (.int (if i < 0 then -i else i)) S
  | _ => .no
theorem l_abs {K : PySem.W.Frag} : LAR K (fun xs H Q => ∃ i, xs = [.int i] ∧ Q (.int (if i < 0 then -i else i)) H) gAbs := by
  intro Q H μ S vs ps rv t hF
  unfold gAbs at hF
  split at hF
  · obtain ⟨v, rfl, h1⟩ := rv.one
    cases rep_int h1
    exact ⟨_, rfl, hF.val t (.inl (.int _))⟩
  · exact hF.elim
def gMax2 (ps : List PV) (S : Sto) : R PV := match ps with
  | [.int i, .int j] => .ok (.int (if j > i then j else i)) S
  | _ => .no
theorem l_max2 {K : PySem.W.Frag} : LAR K (fun xs H Q => ∃ i j, xs = [.int i, .int j] ∧ Q (.int (if j > i then j else i)) H) gMax2 := by
  intro Q H μ S vs ps rv t hF
  unfold gMax2 at hF
  split at hF
  · obtain ⟨v, w, rfl, h1, h2⟩ := rv.two
    cases rep_int h1; cases rep_int h2
    exact ⟨_, _, rfl, hF.val t (.inl (.int _))⟩
  · exact hF.elim
def gMin2 (ps : List PV) (S : Sto) : R PV := match ps with
  | [.int i, .int j] => .ok (.int (if j < i then j else i)) S
  | _ => .no
theorem l_min2 {K : PySem.W.Frag} : LAR K (fun xs H Q => ∃ i j, xs = [.int i, .int j] ∧ Q (.int (if j < i then j else i)) H) gMin2 := by
  intro Q H μ S vs ps rv t hF
  unfold gMin2 at hF
  split at hF
  · obtain ⟨v, w, rfl, h1, h2⟩ := rv.two
    cases rep_int h1; cases rep_int h2
    exact ⟨_, _, rfl, hF.val t (.inl (.int _))⟩
  · exact hF.elim
def gDivmod (ps : List PV) (S : Sto) : R PV := match ps with
  | [.int i, .int j] => if 0 < j ∧ j < 2 ^ 60 then .ok (.tup [.int (i / j), .int (i % j)]) S else .no
  | _ => .no
theorem divp_small {i j : Int} (h0 : 0 < j) (h1 : j < 2 ^ 60) : CDivP i j := by
  refine ⟨h0, ?_⟩
  have hn : j.natAbs < 2 ^ 60 := by omega
  have hl : j.natAbs.log2 < 60 := PySem.Flt.log2_lt_of (by decide) hn
  show (decide ((if j == 0 then 0 else j.natAbs.log2 / 30 + 1) > 300) && _) = false
  rw [decide_eq_false (by split <;> omega), Bool.false_and]
theorem l_divmod {K : PySem.W.Frag} : LAR K (fun xs H Q => ∃ i j, xs = [.int i, .int j] ∧ CDivP i j ∧ ∀ p, H p = none → Q (.ref p) (upd H p (.tup [.int (i / j), .int (i % j)]))) gDivmod := by
  intro Q H μ S vs ps rv t hF
  unfold gDivmod at hF
  split at hF
  · split at hF
    · rename_i hc
      obtain ⟨v, w, rfl, h1, h2⟩ := rv.two
      cases rep_int h1; cases rep_int h2
      exact ⟨_, _, rfl, divp_small hc.1 hc.2, lay_tup (fun p S H' μ' h => h) hF t (.cons (.int _) (.cons (.int _) .nil))⟩
    · exact hF.elim
  · exact hF.elim
/-- whole numbers of a list -/
def intsOf : List PV → Option (List Int)
  | [] => some []
  | .int i :: r => (intsOf r).map (i :: ·)
  | _ => none
def blsOf : List PV → Option (List Bool)
  | [] => some []
  | .bl i :: r => (blsOf r).map (i :: ·)
  | _ => none
theorem intsOf_eq : ∀ {ps : List PV} {ns : List Int}, intsOf ps = some ns → ps = ns.map PV.int
  | [], _, h => by cases h; rfl
  | .int i :: r, _, h => by
    rw [intsOf] at h
    cases e : intsOf r with
    | none => rw [e] at h; cases h
    | some ns => rw [e] at h; cases h; rw [intsOf_eq e]; rfl
  | .non :: r, _, h => by cases h
  | .bl _ :: r, _, h => by cases h
  | .str _ :: r, _, h => by cases h
  | .tup _ :: r, _, h => by cases h
  | .lst _ :: r, _, h => by cases h
  | .frl _ :: r, _, h => by cases h
  | .dic _ _ :: r, _, h => by cases h
  | .ref _ :: r, _, h => by cases h
theorem blsOf_eq : ∀ {ps : List PV} {ns : List Bool}, blsOf ps = some ns → ps = ns.map PV.bl
  | [], _, h => by cases h; rfl
  | .bl i :: r, _, h => by
    rw [blsOf] at h
    cases e : blsOf r with
    | none => rw [e] at h; cases h
    | some ns => rw [e] at h; cases h; rw [blsOf_eq e]; rfl
  | .non :: r, _, h => by cases h
  | .int _ :: r, _, h => by cases h
  | .str _ :: r, _, h => by cases h
  | .tup _ :: r, _, h => by cases h
  | .lst _ :: r, _, h => by cases h
  | .frl _ :: r, _, h => by cases h
  | .dic _ _ :: r, _, h => by cases h
  | .ref _ :: r, _, h => by cases h
@[simp] theorem intsOf_map (ns : List Int) : intsOf (ns.map PV.int) = some ns := by
  induction ns with
  | nil => rfl
  | cons n ns ih => simp [intsOf, ih]
@[simp] theorem blsOf_map (ns : List Bool) : blsOf (ns.map PV.bl) = some ns := by
  induction ns with
  | nil => rfl
  | cons n ns ih => simp [blsOf, ih]
def gSum (ps : List PV) (S : Sto) : R PV := match ps with
  | [p] => match (getL p S).bind intsOf with
    | some ns => .ok (.int ns.sum) S
    | none => .no
  | _ => .no
/-- sum takes tuples, too, by a list made of them: see gSumT -/
theorem getInts {K H μ S v p ns} (t : Rel K H μ S) (r : Rep K H μ v p) (e : (getL p S).bind intsOf = some ns) : ∃ a, v = .ref a ∧ SqL K H a (ns.map V.int) := by
  cases e1 : getL p S with
  | none => rw [e1] at e; cases e
  | some xs =>
    rw [e1] at e
    obtain ⟨a, vs, rfl, g1, g2⟩ := getL_of t r e1
    rw [intsOf_eq e] at g2
    rw [g2.ints] at g1
    exact ⟨a, rfl, g1⟩
theorem getBls {K H μ S v p ns} (t : Rel K H μ S) (r : Rep K H μ v p) (e : (getL p S).bind blsOf = some ns) : ∃ a, v = .ref a ∧ SqL K H a (ns.map V.bl) := by
  cases e1 : getL p S with
  | none => rw [e1] at e; cases e
  | some xs =>
    rw [e1] at e
    obtain ⟨a, vs, rfl, g1, g2⟩ := getL_of t r e1
    rw [blsOf_eq e] at g2
    rw [g2.bls] at g1
    exact ⟨a, rfl, g1⟩
theorem l_sum {K : PySem.W.Frag} : LAR K (rSum K) gSum := by
  intro Q H μ S vs ps rv t hF
  unfold gSum at hF
  split at hF
  · split at hF
    · rename_i ns e
      obtain ⟨v, rfl, h1⟩ := rv.one
      obtain ⟨a, rfl, g⟩ := getInts t h1 e
      exact ⟨a, ns, rfl, g, hF.val t (.inl (.int _))⟩
    · exact hF.elim
  · exact hF.elim
def gAll (ps : List PV) (S : Sto) : R PV := match ps with
  | [p] => match (getL p S).bind blsOf with
    | some ns => .ok (.bl (ns.all id)) S
    | none => .no
  | _ => .no
theorem l_all {K : PySem.W.Frag} : LAR K (rAll K) gAll := by
  intro Q H μ S vs ps rv t hF
  unfold gAll at hF
  split at hF
  · split at hF
    · rename_i ns e
      obtain ⟨v, rfl, h1⟩ := rv.one
      obtain ⟨a, rfl, g⟩ := getBls t h1 e
      exact ⟨a, ns, rfl, g, hF.val t (.inl (.bl _))⟩
    · exact hF.elim
  · exact hF.elim
def maxI : List Int → Int
  | [] => 0
  | [x] => x
  | x :: y :: r => max x (maxI (y :: r))
theorem maxI_spec : ∀ {ns : List Int} {m : Int}, m ∈ ns → (∀ y ∈ ns, y ≤ m) → maxI ns = m
  | [], _, h, _ => by cases h
  | [x], m, h, _ => by simp at h; simp [maxI, h]
  | x :: y :: r, m, h, g => by
    have gx := g x (by simp)
    rw [maxI]
    rcases List.mem_cons.mp h with rfl | h
    · have : maxI (y :: r) ≤ m := by
        have key : ∀ ns : List Int, ns ≠ [] → (∀ z ∈ ns, z ≤ m) → maxI ns ≤ m := by
          intro ns
          induction ns with
          | nil => intro h; exact absurd rfl h
          | cons a b ih =>
            intro _ hz
            cases b with
            | nil => simpa [maxI] using hz a (by simp)
            | cons c d =>
              rw [maxI]
              have h1 := hz a (by simp)
              have h2 := ih (by simp) fun z q => hz z (List.mem_cons_of_mem _ q)
              omega
        exact key _ (by simp) fun z q => g z (List.mem_cons_of_mem _ q)
      omega
    · have := maxI_spec h fun z q => g z (List.mem_cons_of_mem _ q)
      omega
def gMax1 (ps : List PV) (S : Sto) : R PV := match ps with
  | [p] => match (getL p S).bind intsOf with
    | some ns => if 0 < ns.length then .ok (.int (maxI ns)) S else .no
    | none => .no
  | _ => .no
theorem l_max1 {K : PySem.W.Frag} : LAR K (rMax K) gMax1 := by
  intro Q H μ S vs ps rv t hF
  unfold gMax1 at hF
  split at hF
  · split at hF
    · rename_i ns e
      split at hF
      · rename_i hc
        obtain ⟨v, rfl, h1⟩ := rv.one
        obtain ⟨a, rfl, g⟩ := getInts t h1 e
        refine ⟨a, ns, rfl, g, hc, fun m hm hy => ?_⟩
        rw [← maxI_spec hm hy]
        exact hF.val t (.inl (.int _))
      · exact hF.elim
    · exact hF.elim
  · exact hF.elim
end Py
set_option Elab.async false
set_option maxRecDepth 100000
set_option maxHeartbeats 4000000
set_option linter.all false
namespace Py
open PySem PySem.Spec PyProof.Rows L2

inductive Fl where
  | nx (ρ : Env) | rt (p : PV) | bk (ρ : Env) | ct (ρ : Env)
abbrev Es := Env → Sto → R Fl
def FinD (K : PySem.W.Frag) (D : Ends) : Fl → List PV → Hp → Mem → Prop := fun fl _ H' μ' => match fl with
  | .nx ρ => ∀ σ, ERel K H' μ' σ ρ → D.nx σ H'
  | .bk ρ => ∀ σ, ERel K H' μ' σ ρ → D.bk σ H'
  | .ct ρ => ∀ σ, ERel K H' μ' σ ρ → D.ct σ H'
  | .rt p => ∀ v, Rep K H' μ' v p → D.rt v H'
def tEs (K : PySem.W.Frag) (g : Es) : TS := fun D σ H => ∃ μ ρ S, ERel K H μ σ ρ ∧ Rel K H μ S ∧ FitsG K H μ (g ρ S) (FinD K D)
def ES (X : Cx) (st : Stmt) (g : Es) : Prop := PS X st (tEs X.K g)
def ESs (X : Cx) (st : List Stmt) (g : Es) : Prop := PSs X st (tEs X.K g)

def sNil : Es := fun ρ S => .ok (.nx ρ) S
def sSeq (a b : Es) : Es := fun ρ S => (a ρ S).bind fun fl S1 => match fl with
  | .nx ρ1 => b ρ1 S1
  | fl => .ok fl S1
section
variable {X : Cx} {st : Stmt} {rest : List Stmt} {ga gb : Es} {pos : Pos}
theorem es_nil : ESs X [] sNil := pss_mono pss_nil fun D σ H ⟨μ, ρ, S, hE, hR, hF⟩ => FitsG.here hF hR σ hE
theorem es_cons (ha : ES X st ga) (hb : ESs X rest gb) : ESs X (st :: rest) (sSeq ga gb) :=
  pss_mono (pss_cons ha hb) fun D σ H ⟨μ, ρ, S, hE, hR, hF⟩ => ⟨μ, ρ, S, hE, hR, (FitsG.bind hF).imp fun fl S1 H1 μ1 s1 t1 h1 => by
    cases fl with
    | nx ρ1 => exact fun σ1 e1 => ⟨μ1, ρ1, S1, e1, t1, h1⟩
    | rt p => exact FitsG.here h1 t1
    | bk ρ1 => exact FitsG.here h1 t1
    | ct ρ1 => exact FitsG.here h1 t1⟩
theorem es_one (ha : ES X st ga) : ESs X [st] ga := pss_mono (pss_one ha) fun _ _ _ h => h
def sPass : Es := fun ρ S => .ok (.nx ρ) S
def sBreak : Es := fun ρ S => .ok (.bk ρ) S
def sCont : Es := fun ρ S => .ok (.ct ρ) S
def sNever : Es := fun _ _ => .no
def sExpr (a : Ev) : Es := fun ρ S => (a ρ S).bind fun _ S1 => .ok (.nx ρ) S1
def sRet (a : Ev) : Es := fun ρ S => (a ρ S).bind fun p S1 => .ok (.rt p) S1
def sRetN : Es := fun _ S => .ok (.rt .non) S
def sIf (t : Et) (a b : Es) : Es := fun ρ S => (t ρ S).bind fun c S1 => if c = true then a ρ S1 else b ρ S1
theorem es_pass : ES X (.Pass pos) sPass := ps_mono ps_pass fun D σ H ⟨μ, ρ, S, hE, hR, hF⟩ => FitsG.here hF hR σ hE
theorem es_break : ES X (.Break pos) sBreak := ps_mono ps_break fun D σ H ⟨μ, ρ, S, hE, hR, hF⟩ => FitsG.here hF hR σ hE
theorem es_cont : ES X (.Continue pos) sCont := ps_mono ps_continue fun D σ H ⟨μ, ρ, S, hE, hR, hF⟩ => FitsG.here hF hR σ hE
theorem es_never : ES X st sNever := ps_mono ps_never fun D σ H ⟨μ, ρ, S, hE, hR, hF⟩ => hF
theorem ess_never {sts : List Stmt} : ESs X sts sNever := pss_mono pss_never fun D σ H ⟨μ, ρ, S, hE, hR, hF⟩ => hF
variable {e : Expr} {fa : Ev} {ft : Et}
theorem es_doc {x : Str} {j pos'} : ES X (.Expr (.Constant (.str x) j pos) pos') sPass := ps_mono ps_doc fun D σ H ⟨μ, ρ, S, hE, hR, hF⟩ => FitsG.here hF hR σ hE
theorem es_expr (he : EE X e fa) (hs : swapsWith e none pos.line X.env = pure false := by rfl) : ES X (.Expr e pos) (sExpr fa) :=
  ps_mono (ps_expr he hs) fun D σ H ⟨μ, ρ, S, hE, hR, hF⟩ => ⟨μ, ρ, S, hE, hR, (FitsG.bind hF).imp fun p S1 H1 μ1 s1 t1 h1 v rv => FitsG.here h1 t1 σ (hE.step s1)⟩
theorem es_ret (he : EE X e fa) : ES X (.Return (some e) pos) (sRet fa) :=
  ps_mono (ps_ret he) fun D σ H ⟨μ, ρ, S, hE, hR, hF⟩ => ⟨μ, ρ, S, hE, hR, (FitsG.bind hF).imp fun p S1 H1 μ1 s1 t1 h1 v rv => FitsG.here h1 t1 v rv⟩
theorem es_retN : ES X (.Return none pos) sRetN := ps_mono ps_retN fun D σ H ⟨μ, ρ, S, hE, hR, hF⟩ => FitsG.here hF hR _ (.inl .non)
theorem es_if {c : Expr} {a b : List Stmt} (hc : ET X c ft) (ha : ESs X a ga) (hb : ESs X b gb) : ES X (.If c a b pos) (sIf ft ga gb) :=
  ps_mono (ps_if hc ha hb) fun D σ H ⟨μ, ρ, S, hE, hR, hF⟩ => ⟨μ, ρ, S, hE, hR, (FitsG.bind hF).imp fun d S1 H1 μ1 s1 t1 h1 => by
    show if d = true then _ else _
    cases d with
    | true => exact iteT ⟨μ1, ρ, S1, hE.step s1, t1, h1⟩
    | false => exact iteF ⟨μ1, ρ, S1, hE.step s1, t1, h1⟩⟩

/-! ### targets -/
abbrev Eg := PV → Env → Sto → R Env
def tEg (K : PySem.W.Frag) (g : Eg) : TG := fun v σ H Q => ∃ p μ ρ S, Rep K H μ v p ∧ ERel K H μ σ ρ ∧ Rel K H μ S ∧ FitsG K H μ (g p ρ S) (fun ρ' _ H' μ' => ∀ σ', ERel K H' μ' σ' ρ' → Q σ' H')
def EG (X : Cx) (tg : Expr) (g : Eg) : Prop := PG X tg (tEg X.K g)
abbrev Egs := List PV → Env → Sto → R Env
def tEgs (K : PySem.W.Frag) (g : Egs) : TGs := fun vs σ H Q => ∃ ps μ ρ S, Reps K H μ vs ps ∧ ERel K H μ σ ρ ∧ Rel K H μ S ∧ FitsG K H μ (g ps ρ S) (fun ρ' _ H' μ' => ∀ σ', ERel K H' μ' σ' ρ' → Q σ' H')
def EGs (X : Cx) (tgs : List Expr) (g : Egs) : Prop := PGs X tgs (tEgs X.K g)
theorem pg_mono {e : Expr} {t t' : TG} (h : PG X e t) (f : ∀ v σ H Q, t' v σ H Q → t v σ H Q) : PG X e t' := ⟨fun pins s σ H v u Q I r q => h.run pins s σ H v u Q I r (f v σ H Q q)⟩
theorem pgs_mono {e : List Expr} {t t' : TGs} (h : PGs X e t) (f : ∀ v σ H Q, t' v σ H Q → t v σ H Q) : PGs X e t' := ⟨fun pins s σ H v u Q I r q => h.run pins s σ H v u Q I r (f v σ H Q q)⟩
def nName (i : Nat) : Eg := fun p ρ S => .ok (ρ.set i (some p)) S
theorem eg_name {i : Nat} {x : Str} (h : PG X (.Name x pos) (gName i)) : EG X (.Name x pos) (nName i) :=
  pg_mono h fun v σ H Q ⟨p, μ, ρ, S, rv, hE, hR, hF⟩ => FitsG.here hF hR _ (hE.set i (show ORep X.K H μ (some v) (some p) from rv))
def nNil : Egs := fun ps ρ S => match ps with
  | [] => .ok ρ S
  | _ => .no
def nCons (a : Eg) (r : Egs) : Egs := fun ps ρ S => match ps with
  | p :: ps => (a p ρ S).bind fun ρ1 S1 => r ps ρ1 S1
  | [] => .no
theorem egs_nil : EGs X [] nNil := pgs_mono pgs_nil fun vs σ H Q ⟨ps, μ, ρ, S, rv, hE, hR, hF⟩ => by
  unfold nNil at hF
  split at hF
  · cases rv
    exact ⟨rfl, FitsG.here hF hR σ hE⟩
  · exact hF.elim
theorem egs_cons {es : List Expr} {g1 : Eg} {g2 : Egs} (h1 : EG X e g1) (h2 : EGs X es g2) (hs : (assignEach (e :: es) X.env).map (·.2) = assign e X.env :: (assignEach es X.env).map (·.2) := by rfl) : EGs X (e :: es) (nCons g1 g2) :=
  pgs_mono (pgs_cons h1 h2 hs) fun vs σ H Q ⟨ps, μ, ρ, S, rv, hE, hR, hF⟩ => by
    unfold nCons at hF
    split at hF
    · rename_i p ps
      cases rv with
      | cons r1 r2 =>
        exact ⟨_, _, rfl, p, μ, ρ, S, r1, hE, hR, (FitsG.bind hF).imp fun ρ1 S1 H1 μ1 s1 t1 h1 σ1 e1 => ⟨ps, μ1, ρ1, S1, Reps.step s1 r2, e1, t1, h1⟩⟩
    · exact hF.elim
def nTup (n : Nat) (g : Egs) : Eg := fun p ρ S => match p with
  | .tup ps => if ps.length = n then g ps ρ S else .no
  | _ => .no
theorem RepPs.reps {K H μ} : ∀ {ps : List PV} {vs : List V}, RepPs K H μ vs ps → Reps K H μ vs ps
  | [], _, h => by cases h; exact .nil
  | p :: ps, _, h => by
    cases h with
    | cons h1 h2 => exact .cons (.inl h1) (RepPs.reps h2)
theorem eg_tup {es : List Expr} {k n : Nat} {g : Egs} (hc : X.calm = true) (h : EGs X es g) (hn : (assignEach es X.env).length = n := by rfl) (hst : (assignEach es X.env).findIdx? (·.1) = none := by rfl) : EG X (.Tuple es k pos) (nTup n g) :=
  pg_mono (pg_tup hc h hn hst) fun v σ H Q ⟨p, μ, ρ, S, rv, hE, hR, hF⟩ => by
    unfold nTup at hF
    split at hF
    · split at hF
      · rename_i ps hn
        obtain ⟨a, vs, rfl, g1, g2⟩ := rv.tup_inv
        exact ⟨a, vs, rfl, g1.sq, by rw [g2.length]; exact hn, ps, μ, ρ, S, g2.reps, hE, hR, hF⟩
      · exact hF.elim
    · exact hF.elim
/-- o[i] = v, a list of the store -/
def gSetL (o i v : PV) (S : Sto) : R PV := match o, i with
  | .ref n, .int k => match S[n]? with
    | some (.lst xs) => match ixN xs.length k with
      | some j => if v.isRef = false then .ok .non (S.set n (.lst (xs.set j v))) else .no
      | none => .no
    | _ => .no
  | _, _ => .no
def nSubL (o i : Ev) : Eg := fun p ρ S => (o ρ S).bind fun x S1 => (i ρ S1).bind fun y S2 => (gSetL x y p S2).bind fun _ S3 => .ok ρ S3
theorem write_lst {K H μ S n xs ys a} (t : Rel K H μ S) (m : μ.st[n]? = some a) (e : S[n]? = some (.lst xs)) : ∃ vs, H a = some (.lst vs) ∧ RepPs K H μ vs xs ∧ ∀ ws, (∀ H' μ', Step H μ H' μ' → RepPs K H' μ' ws ys) → Step H μ (upd H a (.lst ws)) μ ∧ Rel K (upd H a (.lst ws)) μ (S.set n (.lst ys)) := by
  obtain ⟨vs, e1, r1⟩ := t.obj _ _ _ m e
  refine ⟨vs, e1, r1, fun ws hw => ?_⟩
  have s := Step.write H μ (List.mem_of_getElem? m) (.lst ws)
  exact ⟨s, t.write m ⟨ws, upd_same, hw _ _ s⟩⟩
theorem eg_subL {o i : Expr} {fo fi : Ev} (ho : EE X o fo) (hi : EE X i fi) (h : PG X (.Subscript o i pos) (L2.gSub (tEv X.K fo) (tEv X.K fi) rSetL)) : EG X (.Subscript o i pos) (nSubL fo fi) :=
  pg_mono h fun v σ H Q ⟨p, μ, ρ, S, rv, hE, hR, hF⟩ => ⟨μ, ρ, S, hE, hR, (FitsG.bind hF).imp fun x S1 H1 μ1 s1 t1 h1 vo ro =>
    ⟨μ1, ρ, S1, hE.step s1, t1, (FitsG.bind h1).imp fun y S2 H2 μ2 s2 t2 h2 vi ri => by
      have h2 := FitsG.bind h2
      unfold gSetL at h2
      split at h2
      · rename_i n k
        split at h2
        · rename_i xs e
          split at h2
          · rename_i j ej
            split at h2
            · rename_i hp
              cases rep_int ri
              have ro := ro.step s2
              rcases ro with ro | ⟨n', a, e1, e2, e3⟩
              · cases ro
              cases e1
              subst e3
              obtain ⟨vs, g1, g2, g3⟩ := write_lst (ys := xs.set j p) t2 e2 e
              have rp := ((rv.step s1).step s2).pure hp
              obtain ⟨s3, t3⟩ := g3 (vs.set j v) fun H' μ' s => (g2.set j rp).step s
              refine ⟨a, vs, _, j, rfl, rfl, g1, by rw [g2.length]; exact ej, ?_⟩
              have h4 := h2 _ _ s3 t3
              exact FitsG.here h4 t3 σ (((hE.step s1).step s2).step s3)
            · exact h2.elim
          · exact h2.elim
        · exact h2.elim
      · exact h2.elim⟩⟩
/-- target = value -/
def sAsg (a : Ev) (g : Eg) : Es := fun ρ S => (a ρ S).bind fun p S1 => (g p ρ S1).bind fun ρ1 S2 => .ok (.nx ρ1) S2
theorem tEs_asg {K fa g D σ H} (h : tEs K (sAsg fa g) D σ H) : tAsg (tEv K fa) (tEg K g) D σ H := by
  obtain ⟨μ, ρ, S, hE, hR, hF⟩ := h
  exact ⟨μ, ρ, S, hE, hR, (FitsG.bind hF).imp fun p S1 H1 μ1 s1 t1 h1 v rv => ⟨p, μ1, ρ, S1, rv, hE.step s1, t1, (FitsG.bind h1).imp fun ρ1 S2 H2 μ2 s2 t2 h2 => FitsG.here h2 t2⟩⟩
theorem es_asg {tg : Expr} {g : Eg} (he : EE X e fa) (hg : EG X tg g) (hs : swapsWithSole [tg] e pos.line X.env = pure false := by rfl) (hw : swappedStores [tg] e X.env = pure none := by rfl)
    (h1 : (assignEach [tg] X.env).map (·.2) = [assign tg X.env] := by rfl) : ES X (.Assign [tg] e pos) (sAsg fa g) :=
  ps_mono (ps_asg he hg hs hw h1) fun D σ H h => tEs_asg h
def sSet (i : Nat) (a : Ev) : Es := sAsg a (nName i)
theorem tEs_set {K fa D σ H} {i : Nat} (h : tEs K (sSet i fa) D σ H) : tAsg (tEv K fa) (gName i) D σ H := by
  obtain ⟨μ, ρ, S, hE, hR, hF⟩ := h
  exact ⟨μ, ρ, S, hE, hR, (FitsG.bind hF).imp fun p S1 H1 μ1 s1 t1 h1 v rv => by
    have z : FitsG K H1 μ1 (.ok (.nx (ρ.set i (some p))) S1) (FinD K D) := h1
    exact FitsG.here z t1 _ ((hE.step s1).set i (show ORep K H1 μ1 (some v) (some p) from rv))⟩
theorem es_set {i : Nat} {x : Str} {pos' : Pos} (h : PS X (.Assign [.Name x pos'] e pos) (tAsg (tEv X.K fa) (gName i))) : ES X (.Assign [.Name x pos'] e pos) (sSet i fa) :=
  ps_mono h fun D σ H h => tEs_set h
/-- a, b = x, y -/
def sPar (i j : Nat) (a b : Ev) : Es := fun ρ S => (a ρ S).bind fun p S1 => (b ρ S1).bind fun q S2 => .ok (.nx ((ρ.set i (some p)).set j (some q))) S2
theorem es_par {i j : Nat} {st : Stmt} {a b : Expr} {fb : Ev} (ha : EE X a fa) (hb : EE X b fb) (h : PS X st (tPar i j (tCons (tEv X.K fa) (tCons (tEv X.K fb) tNil)))) : ES X st (sPar i j fa fb) :=
  ps_mono h fun D σ H ⟨μ, ρ, S, hE, hR, hF⟩ => ⟨μ, ρ, S, hE, hR, (FitsG.bind hF).imp fun p S1 H1 μ1 s1 t1 h1 v rv =>
    ⟨μ1, ρ, S1, hE.step s1, t1, (FitsG.bind h1).imp fun q S2 H2 μ2 s2 t2 h2 w rw' => ⟨v, w, rfl, FitsG.here h2 t2 _ ((((hE.step s1).step s2).set i (show ORep X.K H2 μ2 (some v) (some p) from rv.step s2)).set j (show ORep X.K H2 μ2 (some w) (some q) from rw'))⟩⟩⟩
/-- x += e of a whole number -/
def sAugI (i : Nat) (a : Ev) : Es := fun ρ S => match ρ[i]? with
  | some (some (.int k)) => (a ρ S).bind fun p S1 => match p with
    | .int m => .ok (.nx (ρ.set i (some (.int (k + m))))) S1
    | _ => .no
  | _ => .no
theorem es_augI {i : Nat} {st : Stmt} (h : PS X st (tAug i (tEv X.K fa) (ipI (· + ·)))) : ES X st (sAugI i fa) :=
  ps_mono h fun D σ H ⟨μ, ρ, S, hE, hR, hF⟩ => by
    unfold sAugI at hF
    split at hF
    · rename_i k e
      obtain ⟨v, g, r⟩ := hE.get e
      cases rep_int r
      refine ⟨_, g, μ, ρ, S, hE, hR, (FitsG.bind hF).imp fun p S1 H1 μ1 s1 t1 h1 w rw' => ?_⟩
      split at h1
      · cases rep_int rw'
        exact ⟨_, _, rfl, rfl, FitsG.here h1 t1 _ ((hE.step s1).set i (show ORep X.K H1 μ1 (some _) (some _) from .inl (.int _)))⟩
      · exact h1.elim
    · exact hF.elim

/-! ### while -/
def whileF (t : Et) (b : Es) : Nat → Es
  | 0 => fun _ _ => .no
  | n + 1 => fun ρ S => (t ρ S).bind fun c S1 => if c = true then (b ρ S1).bind fun fl S2 => match fl with
      | .nx ρ2 => whileF t b n ρ2 S2
      | .ct ρ2 => whileF t b n ρ2 S2
      | .bk ρ2 => .ok (.nx ρ2) S2
      | .rt p => .ok (.rt p) S2
    else .ok (.nx ρ) S1
theorem es_while {c : Expr} {body : List Stmt} (hp : PassesOwn (model X.prog X.w) X.A X.env X.xe) (hc : ET X c ft) (hb : ESs X body gb) (n : Nat) : ES X (.While c body [] pos) (whileF ft gb n) :=
  ps_mono (ps_while hp hc hb) fun D σ H h => by
    refine ⟨fun m σ H => tEs X.K (whileF ft gb m) D σ H, ⟨n, h⟩, fun m σ H hw => ?_⟩
    obtain ⟨μ, ρ, S, hE, hR, hF⟩ := hw
    cases m with
    | zero => exact hF.elim
    | succ m =>
      refine ⟨μ, ρ, S, hE, hR, (FitsG.bind hF).imp fun d S1 H1 μ1 s1 t1 h1 => ?_⟩
      show if d = true then _ else _
      cases d with
      | false => exact iteF (FitsG.here (show FitsG X.K H1 μ1 (.ok (.nx ρ) S1) (FinD X.K D) from h1) t1 σ (hE.step s1))
      | true =>
        refine iteT ⟨fun σ' H' => tEs X.K (whileF ft gb m) D σ' H', fun σ' H' z => ⟨m, Nat.lt_succ_self m, z⟩, μ1, ρ, S1, hE.step s1, t1, (FitsG.bind (show FitsG X.K H1 μ1 ((gb ρ S1).bind _) (FinD X.K D) from h1)).imp fun fl S2 H2 μ2 s2 t2 h2 => ?_⟩
        cases fl with
        | nx ρ2 => exact fun σ2 e2 => ⟨μ2, ρ2, S2, e2, t2, h2⟩
        | ct ρ2 => exact fun σ2 e2 => ⟨μ2, ρ2, S2, e2, t2, h2⟩
        | bk ρ2 => exact FitsG.here h2 t2
        | rt p => exact FitsG.here h2 t2

/-! ### what is walked -/
/-- how many turns, and the item of each (a new tuple, or one that stands) -/
abbrev Ei := Env → Sto → R (List PV)
structure Walk (K : PySem.W.Frag) (J : It) (H : Hp) (μ : Mem) (ps : List PV) : Prop where
  go : ∀ (i : Nat) (H' : Hp) (μ' : Mem), Keep H μ H' μ' → i < ps.length → J.go i H'
  yld : ∀ (i : Nat) (H' : Hp) (μ' : Mem) (S : List PV) (x : V) (H2 : Hp), Keep H μ H' μ' → Rel K H' μ' S → i < ps.length → J.yld i H' x H2 → ∃ p, ps[i]? = some p ∧ Step H' μ' H2 μ' ∧ Rel K H2 μ' S ∧ Rep K H2 μ' x p
  stop : ∀ (H' : Hp) (μ' : Mem), Keep H μ H' μ' → J.stop ps.length H'
def tEi (K : PySem.W.Frag) (f : Ei) : TI := fun σ H R => ∃ μ ρ S, ERel K H μ σ ρ ∧ Rel K H μ S ∧ FitsG K H μ (f ρ S) (fun ps _ H' μ' => ∀ J, Walk K J H' μ' ps → R J H')
def EI (X : Cx) (tg iter : Expr) (f : Ei) : Prop := PI X tg iter (tEi X.K f)
theorem pi_mono {tg iter : Expr} {t t' : TI} (h : PI X tg iter t) (f : ∀ σ H R, t' σ H R → t σ H R) : PI X tg iter t' := ⟨fun pins s σ H R I q => h.run pins s σ H R I (f σ H R q)⟩

def forF (g : Eg) (b : Es) : List PV → Es
  | [] => fun ρ S => .ok (.nx ρ) S
  | p :: ps => fun ρ S => (g p ρ S).bind fun ρ1 S1 => (b ρ1 S1).bind fun fl S2 => match fl with
      | .nx ρ2 => forF g b ps ρ2 S2
      | .ct ρ2 => forF g b ps ρ2 S2
      | .bk ρ2 => .ok (.nx ρ2) S2
      | .rt p => .ok (.rt p) S2
def sFor (it : Ei) (g : Eg) (b : Es) : Es := fun ρ S => (it ρ S).bind fun ps S1 => forF g b ps ρ S1
theorem es_for {tg iter : Expr} {body : List Stmt} {it : Ei} {g : Eg} (hp : PassesOwn (model X.prog X.w) X.A X.env X.xe) (hc : X.calm = true) (hi : EI X tg iter it) (hg : EG X tg g) (hb : ESs X body gb)
    (hs : ∀ x, foldedSetIterable iter X.env x = pure x := by intro _; rfl) : ES X (.For tg iter body [] pos) (sFor it g gb) :=
  ps_mono (ps_for hp hc hi hg hb hs) fun D σ H ⟨μ, ρ, S, hE, hR, hF⟩ => ⟨μ, ρ, S, hE, hR, (FitsG.bind hF).imp fun ps S1 H1 μ1 s1 t1 h1 J hJ => by
    refine ⟨fun i m σ' H' => m = ps.length - i ∧ i ≤ ps.length ∧ ∃ μ' ρ' S', Step H1 μ1 H' μ' ∧ ERel X.K H' μ' σ' ρ' ∧ Rel X.K H' μ' S' ∧ FitsG X.K H' μ' (forF g gb (ps.drop i) ρ' S') (FinD X.K D),
      ⟨ps.length, by simp, Nat.zero_le _, μ1, ρ, S1, Step.refl _ _, hE.step s1, t1, by simpa using h1⟩, ?_⟩
    rintro i m σ' H' ⟨rfl, hi, μ', ρ', S', st, e', t', h'⟩
    by_cases hlt : i < ps.length
    · refine .inr ⟨hJ.go i H' μ' st.keep hlt, fun σ2 H2 => i + 1 ≤ ps.length ∧ ∃ μ' ρ' S', Step H1 μ1 H2 μ' ∧ ERel X.K H2 μ' σ2 ρ' ∧ Rel X.K H2 μ' S' ∧ FitsG X.K H2 μ' (forF g gb (ps.drop (i + 1)) ρ' S') (FinD X.K D), fun σ2 H2 z => ⟨ps.length - (i + 1), by omega, rfl, z.1, z.2⟩, fun x H2 hy => ?_⟩
      obtain ⟨p, ep, s2, t2, rx⟩ := hJ.yld i H' μ' S' x H2 st.keep t' hlt hy
      have ed : ps.drop i = p :: ps.drop (i + 1) := by
        rw [List.drop_eq_getElem_cons hlt]
        rw [List.getElem?_eq_getElem hlt] at ep
        rw [Option.some.inj ep]
      rw [ed] at h'
      have h' : FitsG X.K H' μ' ((g p ρ' S').bind fun ρ1 S1 => (gb ρ1 S1).bind fun fl S2 => match fl with
        | .nx ρ2 => forF g gb (ps.drop (i + 1)) ρ2 S2
        | .ct ρ2 => forF g gb (ps.drop (i + 1)) ρ2 S2
        | .bk ρ2 => .ok (.nx ρ2) S2
        | .rt p => .ok (.rt p) S2) (FinD X.K D) := h'
      -- the target, then the body
      have h2 : FitsG X.K H2 μ' ((g p ρ' S').bind fun ρ1 S1 => (gb ρ1 S1).bind fun fl S2 => match fl with
        | .nx ρ2 => forF g gb (ps.drop (i + 1)) ρ2 S2
        | .ct ρ2 => forF g gb (ps.drop (i + 1)) ρ2 S2
        | .bk ρ2 => .ok (.nx ρ2) S2
        | .rt p => .ok (.rt p) S2) (FinD X.K D) := by
        revert h'
        generalize ((g p ρ' S').bind fun ρ1 S1 => (gb ρ1 S1).bind fun fl S2 => match fl with
          | .nx ρ2 => forF g gb (ps.drop (i + 1)) ρ2 S2
          | .ct ρ2 => forF g gb (ps.drop (i + 1)) ρ2 S2
          | .bk ρ2 => .ok (.nx ρ2) S2
          | .rt p => .ok (.rt p) S2) = r
        intro h'
        cases r with
        | ok a S => exact fun H3 μ3 s3 t3 => h' H3 μ3 (s2.trans s3) t3
        | er => exact h'
        | no => exact h'
      refine ⟨p, μ', ρ', S', rx, e'.step s2, t2, (FitsG.bind h2).imp fun ρ3 S3 H3 μ3 s3 t3 h3 σ3 e3 => ⟨μ3, ρ3, S3, e3, t3, (FitsG.bind h3).imp fun fl S4 H4 μ4 s4 t4 h4 => ?_⟩⟩
      cases fl with
      | nx ρ4 => exact fun σ4 e4 => ⟨hlt, μ4, ρ4, S4, ((st.trans s2).trans s3).trans s4, e4, t4, h4⟩
      | ct ρ4 => exact fun σ4 e4 => ⟨hlt, μ4, ρ4, S4, ((st.trans s2).trans s3).trans s4, e4, t4, h4⟩
      | bk ρ4 => exact FitsG.here h4 t4
      | rt p => exact FitsG.here h4 t4
    · have e : i = ps.length := by omega
      subst e
      refine .inl ⟨hJ.stop H' μ' st.keep, ?_⟩
      rw [List.drop_length] at h'
      exact FitsG.here (show FitsG X.K H' μ' (.ok (.nx ρ') S') (FinD X.K D) from h') t' σ' e'⟩
end
end Py
set_option Elab.async false
set_option maxRecDepth 100000
set_option maxHeartbeats 4000000
set_option linter.all false
namespace Py
open PySem PySem.Spec PyProof.Rows L2

section
variable {K : PySem.W.Frag} {H : Hp} {μ : Mem} {a : Addr} {vs : List V} {ps : List PV}
theorem walk_list (hs : ∀ H' μ', Keep H μ H' μ' → SqL K H' a vs) (r : RepPs K H μ vs ps) : Walk K (Itl K a) H μ ps where
  go := fun i H' μ' st hi => by
    have hv : i < vs.length := by rw [r.length]; exact hi
    exact ⟨vs, vs[i], hs H' μ' st, List.getElem?_eq_getElem hv⟩
  yld := fun i H' μ' S x H2 st t hi hy => by
    obtain ⟨e, hx⟩ := hy
    subst e
    have hx := hx vs (hs _ μ' st)
    obtain ⟨v, g, rv⟩ := (r.keep st).get (List.getElem?_eq_getElem hi)
    rw [hx] at g
    cases g
    exact ⟨ps[i], List.getElem?_eq_getElem hi, Step.refl _ _, t, .inl rv⟩
  stop := fun H' μ' st => ⟨vs, hs H' μ' st, by rw [r.length]; exact Nat.le_refl _⟩
theorem walk_tup (hs : ∀ H' μ', Keep H μ H' μ' → SqT K H' a vs) (r : RepPs K H μ vs ps) : Walk K (Itt K a) H μ ps where
  go := fun i H' μ' st hi => by
    have hv : i < vs.length := by rw [r.length]; exact hi
    exact ⟨vs, vs[i], hs H' μ' st, List.getElem?_eq_getElem hv⟩
  yld := fun i H' μ' S x H2 st t hi hy => by
    obtain ⟨e, hx⟩ := hy
    subst e
    have hx := hx vs (hs _ μ' st)
    obtain ⟨v, g, rv⟩ := (r.keep st).get (List.getElem?_eq_getElem hi)
    rw [hx] at g
    cases g
    exact ⟨ps[i], List.getElem?_eq_getElem hi, Step.refl _ _, t, .inl rv⟩
  stop := fun H' μ' st => ⟨vs, hs H' μ' st, by rw [r.length]; exact Nat.le_refl _⟩
def signs (z : Str) : List PV := z.cps.toList.map fun c => .str ⟨#[c]⟩
theorem walk_str (z : Str) : Walk K (Its z) H μ (signs z) where
  go := fun i H' μ' st hi => by
    show i < z.cps.size
    simpa [signs] using hi
  yld := fun i H' μ' S x H2 st t hi hy => by
    obtain ⟨e, c, hc, hx⟩ := hy
    subst e hx
    refine ⟨.str ⟨#[c]⟩, ?_, Step.refl _ _, t, .inl (.str _)⟩
    unfold signs
    rw [List.getElem?_map]
    rw [show z.cps.toList[i]? = some c by simpa using hc]
    rfl
  stop := fun H' μ' st => by
    show z.cps.size ≤ (signs z).length
    simp [signs]
def intsFrom (lo : Int) (n : Nat) : List PV := (List.range n).map fun i => .int (lo + (i : Nat))
theorem walk_range (lo : Int) (n : Nat) : Walk K (Itr lo n) H μ (intsFrom lo n) where
  go := fun i H' μ' st hi => by
    show i < n
    simpa [intsFrom] using hi
  yld := fun i H' μ' S x H2 st t hi hy => by
    obtain ⟨e, hx⟩ := hy
    subst e hx
    have hi' : i < n := by simpa [intsFrom] using hi
    refine ⟨.int (lo + (i : Nat)), ?_, Step.refl _ _, t, .inl (.int _)⟩
    unfold intsFrom
    rw [List.getElem?_map, List.getElem?_range hi']
    rfl
  stop := fun H' μ' st => by
    show n ≤ (intsFrom lo n).length
    simp [intsFrom]

/-- pairs of a walk's place and its item -/
def enumP : Nat → List PV → List PV
  | _, [] => []
  | n, p :: ps => .tup [.int (n : Nat), p] :: enumP (n + 1) ps
theorem enumP_length : ∀ (ps : List PV) (n : Nat), (enumP n ps).length = ps.length
  | [], _ => rfl
  | p :: ps, n => by simp [enumP, enumP_length ps]
theorem enumP_get : ∀ (ps : List PV) (n i : Nat) (p : PV), ps[i]? = some p → (enumP n ps)[i]? = some (.tup [.int ((n + i : Nat) : Int), p])
  | [], _, _, _, h => by simp at h
  | q :: ps, n, 0, p, h => by simp at h; subst h; simp [enumP]
  | q :: ps, n, i + 1, p, h => by
    rw [enumP, List.getElem?_cons_succ, enumP_get ps (n + 1) i p (by simpa using h)]
    congr 4
    omega
theorem Rel.fresh {S : List PV} (t : Rel K H μ S) {p : Addr} (hp : H p = none) {xs : List V} {qs : List PV} (r : RepPs K H μ xs qs) : Step H μ (upd H p (.tup xs)) μ ∧ Rel K (upd H p (.tup xs)) μ S ∧ Rep K (upd H p (.tup xs)) μ (.ref p) (.tup qs) := by
  have s := Step.laid H μ hp (.tup xs)
  exact ⟨s, t.laid hp _, .inl (.tup (.inl ⟨.inl upd_same, t.out hp⟩) (r.step s))⟩
theorem walk_enum (hs : ∀ H' μ', Keep H μ H' μ' → SqL K H' a vs) (r : RepPs K H μ vs ps) : Walk K (Ite K a) H μ (enumP 0 ps) where
  go := fun i H' μ' st hi => by
    rw [enumP_length] at hi
    have hv : i < vs.length := by rw [r.length]; exact hi
    exact ⟨vs, vs[i], hs H' μ' st, List.getElem?_eq_getElem hv⟩
  yld := fun i H' μ' S x H2 st t hi hy => by
    rw [enumP_length] at hi
    obtain ⟨T, y, rfl, hT, rfl, hx⟩ := hy
    have hx := hx vs (hs _ μ' st)
    obtain ⟨v, g, rv⟩ := (r.keep st).get (List.getElem?_eq_getElem hi)
    rw [hx] at g
    cases g
    obtain ⟨s2, t2, r2⟩ := t.fresh hT (xs := [.int (i : Nat), y]) (.cons (.int _) (.cons rv .nil))
    refine ⟨_, enumP_get ps 0 i ps[i] (List.getElem?_eq_getElem hi), s2, t2, ?_⟩
    rw [Nat.zero_add]
    exact r2
  stop := fun H' μ' st => ⟨vs, hs H' μ' st, by rw [enumP_length, r.length]; exact Nat.le_refl _⟩
/-- the tuple at a, each item in a new pair with its place -/
def IteT (K : PySem.W.Frag) (a : Addr) : It where
  go := fun i H => ∃ (xs : List V) (x : V), SqT K H a xs ∧ xs[i]? = some x
  yld := fun i H v H' => ∃ T x, v = .ref T ∧ H T = none ∧ H' = upd H T (.tup [.int (i : Nat), x]) ∧ ∀ xs, SqT K H a xs → xs[i]? = some x
  stop := fun i H => ∃ xs : List V, SqT K H a xs ∧ xs.length ≤ i
theorem walk_enumT (hs : ∀ H' μ', Keep H μ H' μ' → SqT K H' a vs) (r : RepPs K H μ vs ps) : Walk K (IteT K a) H μ (enumP 0 ps) where
  go := fun i H' μ' st hi => by
    rw [enumP_length] at hi
    have hv : i < vs.length := by rw [r.length]; exact hi
    exact ⟨vs, vs[i], hs H' μ' st, List.getElem?_eq_getElem hv⟩
  yld := fun i H' μ' S x H2 st t hi hy => by
    rw [enumP_length] at hi
    obtain ⟨T, y, rfl, hT, rfl, hx⟩ := hy
    have hx := hx vs (hs _ μ' st)
    obtain ⟨v, g, rv⟩ := (r.keep st).get (List.getElem?_eq_getElem hi)
    rw [hx] at g
    cases g
    obtain ⟨s2, t2, r2⟩ := t.fresh hT (xs := [.int (i : Nat), y]) (.cons (.int _) (.cons rv .nil))
    refine ⟨_, enumP_get ps 0 i ps[i] (List.getElem?_eq_getElem hi), s2, t2, ?_⟩
    rw [Nat.zero_add]
    exact r2
  stop := fun H' μ' st => ⟨vs, hs H' μ' st, by rw [enumP_length, r.length]; exact Nat.le_refl _⟩
def zipP : List PV → List PV → List PV
  | p :: ps, q :: qs => .tup [p, q] :: zipP ps qs
  | _, _ => []
theorem zipP_get : ∀ (ps qs : List PV) (i : Nat), i < (zipP ps qs).length → ∃ p q, ps[i]? = some p ∧ qs[i]? = some q ∧ (zipP ps qs)[i]? = some (.tup [p, q])
  | [], _, _, h => by simp [zipP] at h
  | _ :: _, [], _, h => by simp [zipP] at h
  | p :: ps, q :: qs, 0, h => ⟨p, q, rfl, rfl, rfl⟩
  | p :: ps, q :: qs, i + 1, h => by
    obtain ⟨x, y, h1, h2, h3⟩ := zipP_get ps qs i (by simpa [zipP] using h)
    exact ⟨x, y, by simpa using h1, by simpa using h2, by simpa [zipP] using h3⟩
theorem zipP_length : ∀ (ps qs : List PV), (zipP ps qs).length = min ps.length qs.length
  | [], _ => by simp [zipP]
  | _ :: _, [] => by simp [zipP]
  | p :: ps, q :: qs => by simp [zipP, zipP_length ps qs]
theorem walk_zipT {b : Addr} {ws : List V} {qs : List PV} (hs : ∀ H' μ', Keep H μ H' μ' → SqT K H' a vs) (hs2 : ∀ H' μ', Keep H μ H' μ' → SqT K H' b ws) (r : RepPs K H μ vs ps) (r2 : RepPs K H μ ws qs) : Walk K (RZ.ItzT K a b) H μ (zipP ps qs) where
  go := fun i H' μ' st hi => by
    rw [zipP_length] at hi
    have hv : i < vs.length := by rw [r.length]; omega
    have hw : i < ws.length := by rw [r2.length]; omega
    exact ⟨vs, ws, vs[i], ws[i], hs H' μ' st, hs2 H' μ' st, List.getElem?_eq_getElem hv, List.getElem?_eq_getElem hw⟩
  yld := fun i H' μ' S x H2 st t hi hy => by
    obtain ⟨p, q, hp, hq, hz⟩ := zipP_get ps qs i hi
    obtain ⟨T, y, z, rfl, hT, rfl, hx, hx2⟩ := hy
    have hx := hx vs (hs _ μ' st)
    have hx2 := hx2 ws (hs2 _ μ' st)
    obtain ⟨v, g, rv⟩ := (r.keep st).get hp
    obtain ⟨v2, g2, rv2⟩ := (r2.keep st).get hq
    rw [hx] at g
    rw [hx2] at g2
    cases g
    cases g2
    obtain ⟨s2, t2, r3⟩ := t.fresh hT (xs := [y, z]) (.cons rv (.cons rv2 .nil))
    exact ⟨_, hz, s2, t2, r3⟩
  stop := fun H' μ' st => ⟨vs, ws, hs H' μ' st, hs2 H' μ' st, by rw [zipP_length, r.length, r2.length]; omega⟩
end

/-! ### enumerate of a tuple -/
section
variable {prog : Program} {w : World} {A : Around} {E : Value → Shared → Prop} {s : Shared}
set_option maxHeartbeats 1000000 in
theorem meets_enumT {v : Value} {o : Obj} {H : Heap → Prop} (B : Begins v o H) :
    Meets (Builtin.«enumerate.__new__» ⟨[.type "enumerate", v], []⟩) (fun _ R s => H s.heap ∧
      R (.ok (.ret (.ref (s.heap.push o).objs.size))) { s with heap := (s.heap.push o).push { cls := .type "enumerate", data := .fields #[.none, .bool false, .ref s.heap.objs.size, rawInt 0, .none, .none] } }) :=
  .of_wp fun prog w A R s h => by
    obtain ⟨hp, g, d, tk, os⟩ := s
    obtain ⟨h1, h⟩ := h
    have hsub := sub_enumerate
    have q1 : ∀ {A' : Around} {E : Value → Shared → Prop} {Q : Value → Shared → Prop}, Q (.ref hp.objs.size) ⟨hp.push o, g, d, tk, os⟩ → wpAny (model prog w) A' (pyIter v) Q E ⟨hp, g, d, tk, os⟩ := fun q => B.iter prog w _ _ ⟨hp, g, d, tk, os⟩ _ h1 q
    wp_walk using q1
    refine wpAny_stack_any fun st => wpAny_pure ?_
    split
    · rename_i c _ _ _ _ _
      cases (c == Value.type "enumerate")
      · wp_walk using q1
        exact ⟨_, rfl, h⟩
      · wp_walk using q1
        exact ⟨_, rfl, h⟩
    · wp_walk using q1
      exact ⟨_, rfl, h⟩
theorem call_enumT {v : Value} {o : Obj} {H : Heap → Prop} {Q : Value → Shared → Prop} (B : Begins v o H) (h1 : H s.heap)
    (h : ∀ h', IsEnum h' (s.heap.objs.size + 1) s.heap.objs.size 0 .none → h'.get? s.heap.objs.size = some o → (∀ b o, s.heap.get? b = some o → h'.get? b = some o) → Q (.ref (s.heap.objs.size + 1)) { s with heap := h' }) :
    wpAny (model prog w) A (call (.type "enumerate") [v]) Q E s := by
  refine callType_new F.called_enumerate (by decide) (F.typeCall_enumerate_1 _) (F.newCall_enumerate_1 _) (fun obj => F.args_object_init_2 obj _) F.entry_enumerate_new (meets_enumT B) ⟨h1, ?_⟩
  have hz : (s.heap.push o).objs.size = s.heap.objs.size + 1 := Heap.size_push ..
  show _ ∧ _
  rw [hz]
  have he : IsEnum ((s.heap.push o).push { cls := .type "enumerate", data := .fields #[.none, .bool false, .ref s.heap.objs.size, rawInt 0, .none, .none] }) (s.heap.objs.size + 1) s.heap.objs.size 0 .none := by
    have := Heap.get?_push_size (s.heap.push o) (o := { cls := .type "enumerate", data := .fields #[.none, .bool false, .ref s.heap.objs.size, rawInt 0, .none, .none] }) rfl
    rw [hz] at this
    exact this
  exact ⟨⟨_, he, rfl⟩, h _ he (Heap.get?_push_of_some _ (Heap.get?_push_size _ B.free)) fun b o x => Heap.get?_push_of_some _ (Heap.get?_push_of_some _ x)⟩
end

section
variable {prog : Program} {w : World} {A : Around} {E : Value → Shared → Prop} {s : Shared}
theorem enum_endT {e it : Addr} {i : Int} {old : Value} {Q : Option Value → Shared → Prop} (he : IsEnum s.heap e it i old)
    (done : ∀ {Q : Value → Shared → Prop} {E : Value → Shared → Prop}, (∀ h' x, Heap.ExtBut it s.heap h' → (∃ o, h'.get? x = some o ∧ o.cls = .type "StopIteration") → E (.ref x) { s with heap := h' }) → wpAny (model prog w) A.in1 (Builtin.SmallTypes.nextOf (.ref it)) Q E s)
    (hQ : ∀ h', Heap.ExtBut it s.heap h' → Q none { s with heap := h' }) : wpAny (model prog w) A (pyNext (.ref e)) Q E s := by
  have hT : s.TypeIs (.ref e) "enumerate" := ⟨_, he, rfl⟩
  unfold pyNext
  refine wpAny_bind (wpAny_attempt (wpAny_callSpecial?_slot (name := Str.ofString "__next__") hT F.slot_enumerate_next (wpAny_call_entry F.slot_enumerate_next hT F.entry_enumerate_next ?_ (F.args_enumerate_next_1 _))))
  show wpAny _ _ (field (.ref e) 2 >>= _) _ _ _
  refine wpAny_bind (wpAny_field he rfl (x := .ref it) rfl ?_)
  refine wpAny_bind (done fun h' x he' hx' => ?_)
  obtain ⟨o, ho, hc⟩ := hx'
  refine wpAny_bind (wpAny_isInstance (T := "StopIteration") (b := true) ⟨o, ho, hc⟩ isSubtype_stop ?_)
  exact wpAny_pure (hQ _ he')
end
theorem turn_enumT {P : Program} {w : World} {K : PySem.W.Frag} {elts : List Expr} {kk : Nat} {tpos : Pos} (a e it : Addr) :
    Turn P w K (.Tuple elts kk tpos) (IteT K a) [e, it] e (fun i h => (∃ old, IsEnum h e it ((i : Nat) : Int) old) ∧ h.IsTupleIter it a i ∧ e ≠ it) where
  mem := by simp
  obj := fun i h st b hb => by
    obtain ⟨⟨old, he⟩, ⟨o, ho, _, hd⟩, _⟩ := st
    rcases (show b = e ∨ b = it by simpa using hb) with z | z
    · subst z; exact ⟨_, he, fun v q => nomatch q⟩
    · subst z; exact ⟨o, ho, fun v q => by rw [hd] at q; cases q⟩
  keep := fun i h h' st k => by
    obtain ⟨⟨old, he⟩, hi, hne⟩ := st
    exact ⟨⟨old, k e (by simp) _ he⟩, hi.at (fun o q => k it (by simp) o q), hne⟩
  item := by
    intro X hP hw hK hc i pins s σ H E I hf st hg
    subst hP hw hK
    obtain ⟨⟨old, he⟩, hit, hne⟩ := st
    obtain ⟨xs, x, hq, hx⟩ := hg
    obtain ⟨its, rv, pt, _⟩ := I.tuple hq
    obtain ⟨u, hu, ru⟩ := rv.get hx
    have el : e < s.heap.objs.size := Heap.lt_size he
    obtain ⟨oi, hoi, hci, hdi⟩ := id hit
    have il : it < s.heap.objs.size := Heap.lt_size hoi
    have hT : s.heap.IsTuple a its.toArray := pt
    obtain ⟨ot, hot, hct, nt, hdt⟩ := id hT
    have hai : a ≠ it := fun z => by
      rw [z, hoi] at hot
      cases hot
      rw [hci] at hct
      exact absurd hct (by decide)
    have hea : e ≠ a := fun z => by
      rw [← z, he] at hot
      cases hot
      injection hct with h1
      exact absurd h1 (by decide)
    have D := Draws.tuple (prog := X.prog) (w := X.w) (A := X.A.in1) (show X.A.in1.handled = none from I.ok.hd hc) it a hai its.toArray
    have hlt : i < its.toArray.size := by
      have := (List.getElem?_eq_some_iff.mp hu).1
      simpa using this
    refine wpAny_pyNext_enum_itemD D he ⟨hit, hT⟩ hlt hne (by simp [hne, hea]) fun y h' tk hy ho st' hT' hsz hk => ?_
    have ey : y = u := by
      have h1 : its[i]? = some y := by simpa using hy
      rw [hu] at h1
      exact (Option.some.inj h1).symm
    subst ey
    refine ⟨_, rfl, wpAny_letOwnedTupleGo_enum (s := { s with heap := h', toks := tk + 1 }) ho fun h'' he' sb => ?_⟩
    have hT2 : h''.get? s.heap.objs.size = some { cls := .type "tuple", data := .seq #[.int i tk, y] } := (sb.2 _ (Nat.ne_of_gt el)).trans hT'
    have new : ObjOk X.prog X.w (upd H s.heap.objs.size (.tup [.int (i : Nat), x])) h'' s.heap.objs.size (.tup [.int (i : Nat), x]) :=
      ⟨(by show 2 ≤ sizeLine; decide), [.int i tk, y], .cons ⟨_, rfl⟩ (.cons ru .nil), ⟨_, hT2, rfl, _, rfl⟩⟩
    have I1 : Inv X pins σ (upd H s.heap.objs.size (.tup [.int (i : Nat), x])) { s with heap := h'', toks := tk + 1 } := by
      refine I.turnedNew (ch := [e, it]) (fun b ob hb q => ?_) hf (Nat.le_refl _) new
      have hb1 : b ≠ e := fun z => hb (by simp [z])
      have hb2 : b ≠ it := fun z => hb (by simp [z])
      exact (sb.2 b hb1).trans (hk b ob hb1 hb2 q)
    refine ⟨.ref s.heap.objs.size, _, I1, rfl, ⟨_, x, rfl, I.hok.fresh (Nat.le_refl _), rfl, fun ys hy => ?_⟩, ⟨⟨y, ?_⟩, ?_, hne⟩, fun b hb => ?_⟩
    · rw [I.tuple_inj hy hq]
      exact hx
    · rw [show ((i + 1 : Nat) : Int) = (i : Int) + 1 by omega]
      exact he'
    · exact st'.1.at fun o q => (sb.2 it (Ne.symm hne)).trans q
    · have hb' : b < s.heap.objs.size := by
        rcases (show b = e ∨ b = it by simpa using hb) with z | z
        · subst z; exact el
        · subst z; exact il
      rw [upd_ne (Nat.ne_of_lt hb')]
      exact (hf b hb).1
  done := by
    intro X hP hw hK hc i pins s σ H E I hf st hg
    subst hP hw hK
    obtain ⟨⟨old, he⟩, hit, hne⟩ := st
    obtain ⟨xs, hq, hx⟩ := hg
    obtain ⟨its, rv, pt, _⟩ := I.tuple hq
    obtain ⟨f0, f1, f2, f3, f4, f5⟩ := hf it (by simp)
    have hl := rv.length
    obtain ⟨oi, hoi, hci, hdi⟩ := id hit
    have hT : s.heap.IsTuple a its.toArray := pt
    obtain ⟨ot, hot, hct, nt, hdt⟩ := id hT
    have hT' : X.A.in1.handled = none := I.ok.hd hc
    have hnone : its.toArray[i]? = none := by
      have : its[i]? = none := List.getElem?_eq_none_iff.mpr (by omega)
      simpa using this
    exact enum_endT (prog := X.prog) (w := X.w) he (fun hE => wpAny_nextOf_tuple_end (prog := X.prog) (w := X.w) (A := X.A.in1) hT' hit hT hnone hE) fun h' eb => ⟨rfl, I.turned (t' := s.toks) (fun b o hb q => eb b o hb q) f0 f1 f3 f4 f5⟩
  self := fun A i s Q E st h => by
    obtain ⟨⟨_, he⟩, _⟩ := st
    exact wpAny_pyIter_enum he h
end Py
set_option Elab.async false
set_option maxRecDepth 100000
set_option maxHeartbeats 4000000
set_option linter.all false
namespace Py
open PySem PySem.Spec PyProof.Rows L2

section
variable {X : Cx} {tg e e2 : Expr} {fa fb : Ev} {p pos tpos : Pos}
def iEnumT (K : PySem.W.Frag) (ta : TA) : TI := fun σ H R => ta σ H fun vs H1 => ∃ a xs, vs = [.ref a] ∧ SqT K H1 a xs ∧ R (IteT K a) H1
theorem pi_enumT {ta : TA} {elts : List Expr} {kk : Nat} (hg : Gl X "enumerate") (hm : X.mg "enumerate" = none) (ha : PA X [e] ta) (hs : starEach [e] X.env = [(false, eval e X.env)] := by rfl) :
    PI X (.Tuple elts kk tpos) (.Call (.Name "enumerate" p) [e] [] pos) (iEnumT X.K ta) := by
  refine ⟨fun pins s σ H R I h => ?_⟩
  refine Call_ (ld_blt I hg hm boot_enumerate (PyProof.Rows.callWith_type1 (thn (ha.run pos pins s σ H _ I h) fun us s1 ⟨vs, H1, I1, r1, q1⟩ => ?_) hs rfl))
  obtain ⟨a, xs, ex, hq, q⟩ := q1
  subst ex
  cases r1 with
  | cons r rr =>
    cases rr
    cases r
    obtain ⟨its, rv, pt, _⟩ := I1.tuple hq
    have hT : s1.heap.IsTuple a its.toArray := pt
    refine call_enumT (begins_tuple a its.toArray) hT fun h' he hit hk => wpAny_pyIter_enum he ?_
    have I2 : Inv X pins σ H1 { s1 with heap := h' } := I1.kept (t' := s1.toks) hk
    refine ⟨s1.heap.objs.size + 1, [s1.heap.objs.size + 1, s1.heap.objs.size], _, _, H1, rfl, I2, turn_enumT a (s1.heap.objs.size + 1) s1.heap.objs.size, ⟨⟨.none, he⟩, ⟨_, hit, rfl, rfl⟩, Nat.succ_ne_self _⟩, fun b hb => ?_, q⟩
    have hle : s1.heap.objs.size ≤ b := by
      rcases (show b = s1.heap.objs.size + 1 ∨ b = s1.heap.objs.size by simpa using hb) with z | z
      · rw [z]; exact Nat.le_succ _
      · rw [z]; exact Nat.le_refl _
    exact I1.fpOk hle (I1.hok.fresh hle)
theorem pi_or {iter : Expr} {t1 t2 : TI} (h1 : PI X tg iter t1) (h2 : PI X tg iter t2) : PI X tg iter (fun σ H R => t1 σ H R ∨ t2 σ H R) := ⟨fun pins s σ H R I q => q.elim (h1.run pins s σ H R I) (h2.run pins s σ H R I)⟩

/-- what a for walks of a value -/
def iterP (p : PV) (S : Sto) : R (List PV) := match p with
  | .tup xs => .ok xs S
  | .lst xs => .ok xs S
  | .frl xs => .ok xs S
  | .str z => .ok (signs z) S
  | _ => .no
def iSeq (a : Ev) : Ei := fun ρ S => (a ρ S).bind iterP
theorem ei_seq (ha : EE X e fa) : EI X tg e (iSeq fa) :=
  pi_mono (pi_or (pi_or (pi_list ha) (pi_tup ha)) (pi_str ha)) fun σ H R ⟨μ, ρ, S, hE, hR, hF⟩ => by
    have hF := FitsG.bind hF
    revert hF
    cases hr : fa ρ S with
    | er => exact fun z => z.elim
    | no => exact fun z => z.elim
    | ok q S1 =>
      intro hF
      have mk : ∀ {kk : VK}, (∀ H1 μ1, Step H μ H1 μ1 → Rel X.K H1 μ1 S1 → FitsG X.K H1 μ1 (iterP q S1) (fun ps _ H' μ' => ∀ J, Walk X.K J H' μ' ps → R J H') → ∀ v, Rep X.K H1 μ1 v q → kk v H1) → tEv X.K fa σ H kk :=
        fun {kk} hk => ⟨μ, ρ, S, hE, hR, by rw [hr]; exact fun H1 μ1 s1 t1 v rv => hk H1 μ1 s1 t1 (hF H1 μ1 s1 t1) v rv⟩
      cases q with
      | tup xs =>
        refine .inl (.inr (mk fun H1 μ1 s1 t1 h1 v rv => ?_))
        obtain ⟨a, vs, rfl, g1, g2⟩ := rv.tup_inv
        exact ⟨a, rfl, ⟨vs, g1.sq⟩, FitsG.here h1 t1 _ (walk_tup (fun H' μ' st => (Keep.tupAt st g1).sq) g2)⟩
      | lst xs =>
        refine .inl (.inl (mk fun H1 μ1 s1 t1 h1 v rv => ?_))
        rcases rv with rv | ⟨_, _, e, _⟩
        · cases rv with
          | lst h2 n h3 => exact ⟨_, rfl, ⟨_, .inl (.inl h2)⟩, FitsG.here h1 t1 _ (walk_list (fun H' μ' st => .inl (.inl (st _ _ h2 n).1)) h3)⟩
        · cases e
      | frl xs =>
        refine .inl (.inl (mk fun H1 μ1 s1 t1 h1 v rv => ?_))
        rcases rv with rv | ⟨_, _, e, _⟩
        · cases rv with
          | frl h2 h3 => exact ⟨_, rfl, ⟨_, h2.sq⟩, FitsG.here h1 t1 _ (walk_list (fun H' μ' st => (Keep.frlAt st h2).sq) h3)⟩
        · cases e
      | str z =>
        refine .inr (mk fun H1 μ1 s1 t1 h1 v rv => ?_)
        cases rep_str rv
        exact ⟨z, rfl, FitsG.here h1 t1 _ (walk_str z)⟩
      | non => exact .inl (.inl (mk fun H1 μ1 s1 t1 h1 v rv => h1.elim))
      | bl => exact .inl (.inl (mk fun H1 μ1 s1 t1 h1 v rv => h1.elim))
      | int => exact .inl (.inl (mk fun H1 μ1 s1 t1 h1 v rv => h1.elim))
      | dic => exact .inl (.inl (mk fun H1 μ1 s1 t1 h1 v rv => h1.elim))
      | ref => exact .inl (.inl (mk fun H1 μ1 s1 t1 h1 v rv => h1.elim))
/-- range(b), range(a, b) -/
def gRange (ps : List PV) (S : Sto) : R (List PV) := match ps with
  | [.int j] => if -(2 ^ 62) ≤ j ∧ j < 2 ^ 62 then .ok (intsFrom 0 j.toNat) S else .no
  | [.int i, .int j] => if -(2 ^ 62) ≤ i ∧ i < 2 ^ 62 ∧ -(2 ^ 62) ≤ j ∧ j < 2 ^ 62 then .ok (intsFrom i (j - i).toNat) S else .no
  | _ => .no
def iArgs (g : List PV → Sto → R (List PV)) (a : Ea) : Ei := fun ρ S => (a ρ S).bind g
variable {a b : Expr} {ea : Ea}
theorem ei_range1 (hg : Gl X "range") (hm : X.mg "range" = none) (ha : EA X [a] ea) (hn : ∀ ρ S ps S', ea ρ S = .ok ps S' → ps.length = 1) (hs : starEach [a] X.env = [(false, eval a X.env)] := by rfl) : EI X tg (.Call (.Name "range" p) [a] [] pos) (iArgs gRange ea) :=
  pi_mono (pi_range1 hg hm ha hs) fun σ H R ⟨μ, ρ, S, hE, hR, hF⟩ => by
    refine ⟨μ, ρ, S, hE, hR, ?_⟩
    have hl := hn ρ S
    revert hF hl
    unfold iArgs
    cases ea ρ S with
    | er => exact fun z _ => z.elim
    | no => exact fun z _ => z.elim
    | ok ps S1 =>
      intro hF hl H1 μ1 s1 t1 vs rv
      have h1 : FitsG X.K H1 μ1 (gRange ps S1) (fun ps _ H' μ' => ∀ J, Walk X.K J H' μ' ps → R J H') := hF.bind H1 μ1 s1 t1
      have hl := hl ps S1 rfl
      unfold gRange at h1
      split at h1
      · split at h1
        · rename_i hc
          obtain ⟨v, rfl, r1⟩ := rv.one
          cases rep_int r1
          exact ⟨_, rfl, hc.1, hc.2, FitsG.here h1 t1 _ (walk_range 0 _)⟩
        · exact h1.elim
      · simp at hl
      · exact h1.elim
theorem ei_range2 (hg : Gl X "range") (hm : X.mg "range" = none) (ha : EA X [a, b] ea) (hn : ∀ ρ S ps S', ea ρ S = .ok ps S' → ps.length = 2) (hs : starEach [a, b] X.env = [(false, eval a X.env), (false, eval b X.env)] := by rfl) (hs2 : starEach [b] X.env = [(false, eval b X.env)] := by rfl) : EI X tg (.Call (.Name "range" p) [a, b] [] pos) (iArgs gRange ea) :=
  pi_mono (pi_range2 hg hm ha hs hs2) fun σ H R ⟨μ, ρ, S, hE, hR, hF⟩ => by
    refine ⟨μ, ρ, S, hE, hR, ?_⟩
    have hl := hn ρ S
    revert hF hl
    unfold iArgs
    cases ea ρ S with
    | er => exact fun z _ => z.elim
    | no => exact fun z _ => z.elim
    | ok ps S1 =>
      intro hF hl H1 μ1 s1 t1 vs rv
      have h1 : FitsG X.K H1 μ1 (gRange ps S1) (fun ps _ H' μ' => ∀ J, Walk X.K J H' μ' ps → R J H') := hF.bind H1 μ1 s1 t1
      have hl := hl ps S1 rfl
      unfold gRange at h1
      split at h1
      · simp at hl
      · split at h1
        · rename_i hc
          obtain ⟨v, w, rfl, r1, r2⟩ := rv.two
          cases rep_int r1; cases rep_int r2
          exact ⟨_, _, rfl, hc, FitsG.here h1 t1 _ (walk_range _ _)⟩
        · exact h1.elim
      · exact h1.elim
def gEnum (ps : List PV) (S : Sto) : R (List PV) := match ps with
  | [.tup xs] => .ok (enumP 0 xs) S
  | [.lst xs] => .ok (enumP 0 xs) S
  | [.frl xs] => .ok (enumP 0 xs) S
  | _ => .no
theorem ei_enum {elts : List Expr} {kk : Nat} (hg : Gl X "enumerate") (hm : X.mg "enumerate" = none) (ha : EA X [a] ea) (hs : starEach [a] X.env = [(false, eval a X.env)] := by rfl) : EI X (.Tuple elts kk tpos) (.Call (.Name "enumerate" p) [a] [] pos) (iArgs gEnum ea) :=
  pi_mono (pi_or (pi_enum hg hm ha hs) (pi_enumT hg hm ha hs)) fun σ H R ⟨μ, ρ, S, hE, hR, hF⟩ => by
    have hF := FitsG.bind hF
    revert hF
    cases hr : ea ρ S with
    | er => exact fun z => z.elim
    | no => exact fun z => z.elim
    | ok ps S1 =>
      intro hF
      have mk : ∀ {kk : List V → Hp → Prop}, (∀ H1 μ1, Step H μ H1 μ1 → Rel X.K H1 μ1 S1 → FitsG X.K H1 μ1 (gEnum ps S1) (fun ps _ H' μ' => ∀ J, Walk X.K J H' μ' ps → R J H') → ∀ vs, Reps X.K H1 μ1 vs ps → kk vs H1) → tEa X.K ea σ H kk :=
        fun {kk} hk => ⟨μ, ρ, S, hE, hR, by rw [hr]; exact fun H1 μ1 s1 t1 v rv => hk H1 μ1 s1 t1 (hF H1 μ1 s1 t1) v rv⟩
      by_cases ht : ∃ xs, ps = [.tup xs]
      · obtain ⟨xs, rfl⟩ := ht
        refine .inr (mk fun H1 μ1 s1 t1 h1 vs rv => ?_)
        obtain ⟨v, rfl, r1⟩ := rv.one
        obtain ⟨a, ws, rfl, g1, g2⟩ := r1.tup_inv
        exact ⟨a, ws, rfl, g1.sq, FitsG.here h1 t1 _ (walk_enumT (fun H' μ' st => (Keep.tupAt st g1).sq) g2)⟩
      · refine .inl (mk fun H1 μ1 s1 t1 h1 vs rv => ?_)
        unfold gEnum at h1
        split at h1
        · exact absurd ⟨_, rfl⟩ ht
        · obtain ⟨v, rfl, r1⟩ := rv.one
          rcases r1 with r1 | ⟨_, _, e, _⟩
          · cases r1 with
            | lst h2 n h3 => exact ⟨_, _, rfl, .inl (.inl h2), FitsG.here h1 t1 _ (walk_enum (fun H' μ' st => .inl (.inl (st _ _ h2 n).1)) h3)⟩
          · cases e
        · obtain ⟨v, rfl, r1⟩ := rv.one
          rcases r1 with r1 | ⟨_, _, e, _⟩
          · cases r1 with
            | frl h2 h3 => exact ⟨_, _, rfl, h2.sq, FitsG.here h1 t1 _ (walk_enum (fun H' μ' st => (Keep.frlAt st h2).sq) h3)⟩
          · cases e
        · exact h1.elim
def gZip (ps : List PV) (S : Sto) : R (List PV) := match ps with
  | [.tup xs, .tup ys] => .ok (zipP xs ys) S
  | _ => .no
theorem ei_zip {elts : List Expr} {kk : Nat} (hg : Gl X "zip") (hm : X.mg "zip" = none) (ha : EA X [a, b] ea) (hs : starEach [a, b] X.env = (false, eval a X.env) :: starEach [b] X.env := by rfl) (hpl : (backTo pos (starEach [b] X.env)).any (·.1) = false := by rfl) : EI X (.Tuple elts kk tpos) (.Call (.Name "zip" p) [a, b] [] pos) (iArgs gZip ea) :=
  pi_mono (RZ.pi_zipA hg hm ha hs hpl) fun σ H R ⟨μ, ρ, S, hE, hR, hF⟩ => ⟨μ, ρ, S, hE, hR, (FitsG.bind hF).imp fun ps S1 H1 μ1 s1 t1 h1 vs rv => by
    unfold gZip at h1
    split at h1
    · obtain ⟨v, w, rfl, r1, r2⟩ := rv.two
      obtain ⟨a, ws, rfl, g1, g2⟩ := r1.tup_inv
      obtain ⟨b, zs, rfl, k1, k2⟩ := r2.tup_inv
      exact ⟨a, b, ws, zs, rfl, .inr ⟨g1.sq, k1.sq, FitsG.here h1 t1 _ (walk_zipT (fun H' μ' st => (Keep.tupAt st g1).sq) (fun H' μ' st => (Keep.tupAt st k1).sq) g2 k2)⟩⟩
    · exact h1.elim⟩
end

/-! ### comprehensions -/
def wipeP (ρ : Env) : List Nat → Env
  | [] => ρ
  | v :: vs => (wipeP ρ vs).set v none
theorem ERel.wipe {K H μ} {σ : List (Option V)} {ρ : Env} (h : ERel K H μ σ ρ) : ∀ vs : List Nat, ERel K H μ (L2.wipe σ vs) (wipeP ρ vs)
  | [] => h
  | v :: vs => by
    show ERel K H μ ((L2.wipe σ vs).set v none) ((wipeP ρ vs).set v none)
    exact (ERel.wipe h vs).set v (show ORep K H μ none none from trivial)
def compF (g : Eg) (t : Et) (f : Ev) (ρ : Env) : List PV → List PV → Sto → R PV
  | [], acc, S => .ok (.lst acc) S
  | p :: ps, acc, S => (g p ρ S).bind fun ρ1 S1 => (t ρ1 S1).bind fun c S2 => if c = true then (f ρ1 S2).bind fun y S3 => if y.isRef = false ∧ acc.length < sizeLine then compF g t f ρ ps (acc ++ [y]) S3 else .no
    else compF g t f ρ ps acc S2
def fComp (it : Ei) (g : Eg) (t : Et) (f : Ev) (vs : List Nat) : Ev := fun ρ S => (it ρ S).bind fun ps S1 => compF g t f (wipeP ρ vs) ps [] S1
def tYesE : Et := fun _ S => .ok true S
theorem wipe_comm {σ : L2.St} {i : Nat} {x : Option V} : ∀ {vs : List Nat}, i ∉ vs → wipe (σ.set i x) vs = (wipe σ vs).set i x
  | [], _ => rfl
  | v :: vs, h => by
    have h1 : i ≠ v := fun e => h (by simp [e])
    show (wipe (σ.set i x) vs).set v none = ((wipe σ vs).set v none).set i x
    rw [wipe_comm fun q => h (List.mem_cons_of_mem _ q), List.set_comm _ _ h1]
theorem wipe_set {σ : L2.St} {i : Nat} {x : Option V} : ∀ {vs : List Nat}, i ∈ vs → wipe (σ.set i x) vs = wipe σ vs
  | [], h => by cases h
  | v :: vs, h => by
    show (wipe (σ.set i x) vs).set v none = (wipe σ vs).set v none
    by_cases hv : i ∈ vs
    · rw [wipe_set hv]
    · have : i = v := by
        rcases List.mem_cons.mp h with h | h
        · exact h
        · exact absurd h hv
      subst this
      rw [wipe_comm hv, List.set_set]
theorem wipe_wipe {σ : L2.St} : ∀ {us vs : List Nat}, (∀ i ∈ us, i ∈ vs) → wipe (wipe σ us) vs = wipe σ vs
  | [], _, _ => rfl
  | u :: us, vs, h => by
    show wipe ((wipe σ us).set u none) vs = wipe σ vs
    rw [wipe_set (h u (by simp)), wipe_wipe fun i q => h i (List.mem_cons_of_mem _ q)]

def Mem.resv (m : Mem) (D : Addr) : Mem := ⟨m.st, D :: m.rs⟩
end Py
set_option Elab.async false
set_option maxRecDepth 100000
set_option maxHeartbeats 4000000
set_option linter.all false
namespace Py
open PySem PySem.Spec PyProof.Rows L2

section
variable {X : Cx}
/-- a target of a comprehension: it stores the item's parts into own slots -/
structure Tgt (K : PySem.W.Frag) (g : TG) (gP : Eg) (vs : List Nat) : Prop where
  ok : ∀ (v : V) (p : PV) (σ : L2.St) (ρ ρ' : Env) (S S' : Sto) (H : Hp) (μ : Mem) (Q : L2.St → Hp → Prop), Rep K H μ v p → ERel K H μ σ ρ → gP p ρ S = .ok ρ' S' → (∀ σ', ERel K H μ σ' ρ' → wipe σ' vs = wipe σ vs → S' = S → Q σ' H) → g v σ H Q
theorem tgt_name {K : PySem.W.Frag} {i : Nat} {vs : List Nat} (h : i ∈ vs) : Tgt K (gName i) (nName i) vs := ⟨fun v p σ ρ ρ' S S' H μ Q rv hE hg q => by
  unfold nName at hg
  cases hg
  exact q _ (hE.set i (show ORep K H μ (some v) (some p) from rv)) (wipe_set h) rfl⟩
/-- the names of a tuple's target -/
def gNs : List Nat → TGs
  | [] => gNil
  | i :: is => gCons (gName i) (gNs is)
def nNs : List Nat → Egs
  | [] => nNil
  | i :: is => nCons (nName i) (nNs is)
theorem tgts {K : PySem.W.Frag} {vs : List Nat} : ∀ {is : List Nat}, (∀ i ∈ is, i ∈ vs) → ∀ (us : List V) (ps : List PV) (σ : L2.St) (ρ ρ' : Env) (S S' : Sto) (H : Hp) (μ : Mem) (Q : L2.St → Hp → Prop), Reps K H μ us ps → ERel K H μ σ ρ → nNs is ps ρ S = .ok ρ' S' → (∀ σ', ERel K H μ σ' ρ' → wipe σ' vs = wipe σ vs → S' = S → Q σ' H) → gNs is us σ H Q
  | [], _, us, ps, σ, ρ, ρ', S, S', H, μ, Q, rv, hE, hg, q => by
    unfold nNs nNil at hg
    split at hg
    · cases rv
      cases hg
      exact ⟨rfl, q σ hE rfl rfl⟩
    · cases hg
  | i :: is, hm, us, ps, σ, ρ, ρ', S, S', H, μ, Q, rv, hE, hg, q => by
    unfold nNs nCons at hg
    split at hg
    · rename_i p qs
      cases rv with
      | cons r1 r2 =>
        rename_i u us
        refine ⟨u, us, rfl, ?_⟩
        have hg2 : nNs is qs (ρ.set i (some p)) S = .ok ρ' S' := hg
        exact tgts (fun j hj => hm j (List.mem_cons_of_mem _ hj)) us qs _ _ ρ' S S' H μ Q r2 (hE.set i (show ORep K H μ (some u) (some p) from r1)) hg2 fun σ' e w z => q σ' e (w.trans (wipe_set (hm i (by simp)))) z
    · cases hg
theorem tgt_tup {K : PySem.W.Frag} {n : Nat} {is vs : List Nat} (h : ∀ i ∈ is, i ∈ vs) : Tgt K (gTup K n (gNs is)) (nTup n (nNs is)) vs := ⟨fun v p σ ρ ρ' S S' H μ Q rv hE hg q => by
  unfold nTup at hg
  split at hg
  · split at hg
    · rename_i ps hn
      obtain ⟨a, us, rfl, g1, g2⟩ := rv.tup_inv
      exact ⟨a, us, rfl, g1.sq, by rw [g2.length]; exact hn, tgts h us ps σ ρ ρ' S S' H μ Q g2.reps hE hg q⟩
    · cases hg
  · cases hg⟩

theorem reserve {K : PySem.W.Frag} {H : Hp} {μ : Mem} {S : Sto} (t : Rel K H μ S) {D : Addr} (hD : H D = none) (o : HO) : Keep H μ (upd H D o) (μ.resv D) ∧ Rel K (upd H D o) (μ.resv D) S := by
  have k : Keep H μ (upd H D o) (μ.resv D) := fun a u e n => by
    have ne : a ≠ D := ne_of_none e hD
    refine ⟨by rw [upd_ne ne]; exact e, fun q => ?_⟩
    rcases q with q | q
    · exact n (.inl q)
    · rcases List.mem_cons.mp q with q | q
      · exact ne q
      · exact n (.inr q)
  refine ⟨k, t.keep k rfl (fun a ha => upd_ne fun z => t.tracked ha (by rw [z]; exact hD)) fun a ha => ?_⟩
  rcases List.mem_cons.mp ha with q | q
  · subst q; rw [upd_same]; exact fun z => nomatch z
  · intro z
    by_cases e : a = D
    · subst e; rw [upd_same] at z; cases z
    · rw [upd_ne e] at z; exact t.res a q z

/-- at a turn: the new list holds what is made so far -/
structure CompAt (K : PySem.W.Frag) (H1 : Hp) (μ1 : Mem) (σ : L2.St) (ρ : Env) (D : Addr) (H' : Hp) (S' : Sto) (qs : List PV) (μ' : Mem) (acc : List V) : Prop where
  at_ : H' D = some (.lst acc)
  reps : RepPs K H' (μ'.resv D) acc qs
  rel : Rel K H' (μ'.resv D) S'
  stp : Step H1 μ1 H' μ'
  env : ERel K H' (μ'.resv D) σ ρ
  out : D ∉ μ'.st
section
variable {K : PySem.W.Frag} {H1 : Hp} {μ1 : Mem} {σ : L2.St} {ρ : Env} {D : Addr} {H' : Hp} {S' : Sto} {qs : List PV} {μ' : Mem} {acc : List V}
theorem CompAt.more (c : CompAt K H1 μ1 σ ρ D H' S' qs μ' acc) {H4 : Hp} {μ4 : Mem} (s : Step H' (μ'.resv D) H4 μ4) {S4 : Sto} (t : Rel K H4 μ4 S4) : ∃ μ5 : Mem, μ4 = μ5.resv D ∧ CompAt K H1 μ1 σ ρ D H4 S4 qs μ5 acc := by
  obtain ⟨ν, e, f⟩ := s.gro
  have e2 : μ4 = (μ'.grow ν).resv D := e
  refine ⟨μ'.grow ν, e2, s.ext _ _ c.at_ c.out, by rw [← e2]; exact c.reps.step s, by rw [← e2]; exact t, ⟨fun a o h n => ?_, fun a h => c.stp.dom a (s.dom a h), ?_⟩, by rw [← e2]; exact c.env.step s, ?_⟩
  · exact s.ext a o (c.stp.ext a o h n) (c.stp.outS h n)
  · obtain ⟨ν1, e1, f1⟩ := c.stp.gro
    refine ⟨ν1 ++ ν, by rw [e1, Mem.grow, Mem.grow, Mem.grow, List.append_assoc], fun a q => ?_⟩
    rcases List.mem_append.mp q with q | q
    · exact f1 a q
    · exact c.stp.dom a (f a q)
  · intro q
    rcases List.mem_append.mp q with q | q
    · exact c.out q
    · have := f D q
      rw [c.at_] at this
      cases this
theorem CompAt.push (c : CompAt K H1 μ1 σ ρ D H' S' qs μ' acc) (hD : H1 D = none) {y : V} {p : PV} (r : RepP K H' (μ'.resv D) y p) : CompAt K H1 μ1 σ ρ D (upd H' D (.lst (acc ++ [y]))) S' (qs ++ [p]) μ' (acc ++ [y]) := by
  have ne : ∀ a, a ∉ μ'.resv D → a ≠ D := fun a n z => n (by subst z; exact .inr (List.mem_cons_self ..))
  have k : Keep H' (μ'.resv D) (upd H' D (.lst (acc ++ [y]))) (μ'.resv D) := fun a o h n => ⟨by rw [upd_ne (ne a n)]; exact h, n⟩
  refine ⟨upd_same, (c.reps.keep k).append (.cons (r.keep k) .nil), c.rel.keep k rfl (fun a ha => upd_ne fun z => c.out (by rw [← z]; exact ha)) fun a ha z => ?_, ⟨fun a o h n => ?_, fun a h => ?_, c.stp.gro⟩, c.env.keep k rfl, c.out⟩
  · by_cases e : a = D
    · subst e; rw [upd_same] at z; cases z
    · rw [upd_ne e] at z; exact c.rel.res a ha z
  · rw [upd_ne (ne_of_none h hD)]
    exact c.stp.ext a o h n
  · by_cases e : a = D
    · subst e; exact hD
    · rw [upd_ne e] at h; exact c.stp.dom a h
end

theorem FitsF.gone {K : PySem.W.Frag} {H : Hp} {μ : Mem} {α : Type} {r : R α} {f : α → List PV → R PV} {Q : VK} (h : FitsF K H μ (r.bind f) Q) : ∃ a S, r = .ok a S ∧ FitsF K H μ (f a S) Q := by
  cases r with
  | ok a S => exact ⟨a, S, rfl, h⟩
  | er => exact h.elim
  | no => exact h.elim
theorem FitsG.of_ok {K : PySem.W.Frag} {H : Hp} {μ : Mem} {α : Type} {r : R α} {a : α} {S : List PV} (e : r = .ok a S) {k : α → List PV → Hp → Mem → Prop} (h : ∀ H' μ', Step H μ H' μ' → Rel K H' μ' S → k a S H' μ') : FitsG K H μ r k := by
  subst e
  exact h

variable {elt tg iter : Expr} {ifs : List Expr} {scope : Scope} {own : List (Str × Nat)} {pos : Pos} {g : TG} {gP : Eg} {it : Ei} {ft : Et} {fe : Ev}
def EIfs (X : Cx) (ifs : List Expr) (f : Et) : Prop := PTs X ifs (tEt X.K f)
theorem ei_none {X : Cx} : EIfs X [] tYesE := ⟨fun pins s σ H Q I ⟨μ, ρ, S, hE, hR, hF⟩ => pts_nil.run pins s σ H Q I (FitsG.here hF hR)⟩
theorem ei_one {X : Cx} {c : Expr} {f : Et} (h : ET X c f) : EIfs X [c] f := pts_one h
theorem tLc_of (T : Tgt X.K g gP (own.map (·.2))) {σ : L2.St} {H : Hp} {Q : VK} (h : tEf X.K (fComp it gP ft fe (own.map (·.2))) σ H Q) : tLc (tEi X.K it) g (tEt X.K ft) (tEv X.K fe) (own.map (·.2)) σ H Q := by
  obtain ⟨μ, ρ, S, hE, hR, hF⟩ := h
  obtain ⟨ps, S1, eit, hF⟩ := FitsF.gone hF
  refine ⟨μ, ρ, S, hE, hR, FitsG.of_ok eit fun H1 μ1 s1 t1 J hJ D hD => ?_⟩
  have hF : FitsF X.K H1 μ1 (compF gP ft fe (wipeP ρ (own.map (·.2))) ps [] S1) Q := by
    have : FitsF X.K H μ (compF gP ft fe (wipeP ρ (own.map (·.2))) ps [] S1) Q := hF
    revert this
    generalize compF gP ft fe (wipeP ρ (own.map (·.2))) ps [] S1 = r
    intro h
    cases r with
    | ok b S2 =>
      intro H2 μ2 p hp hrs s2 t2
      refine h H2 μ2 p (s1.dom p hp) ?_ (s1.trans s2) t2
      obtain ⟨ν, e, _⟩ := s1.gro
      subst e
      exact hrs
    | er => exact h
    | no => exact h
  obtain ⟨k0, r0⟩ := reserve t1 hD (.lst [])
  have e0 : ERel X.K (upd H1 D (.lst [])) (μ1.resv D) (wipe σ (own.map (·.2))) (wipeP ρ (own.map (·.2))) := ((hE.step s1).wipe _).keep k0 rfl
  refine ⟨fun i m H' => m = ps.length - i ∧ i ≤ ps.length ∧ ∃ S' qs μ' acc, CompAt X.K H1 μ1 (wipe σ (own.map (·.2))) (wipeP ρ (own.map (·.2))) D H' S' qs μ' acc ∧ FitsF X.K H1 μ1 (compF gP ft fe (wipeP ρ (own.map (·.2))) (ps.drop i) qs S') Q,
    ⟨ps.length, by simp, Nat.zero_le _, S1, [], μ1, [], ⟨upd_same, .nil, r0, ⟨(Step.laid H1 μ1 hD _).ext, (Step.laid H1 μ1 hD _).dom, [], by simp [Mem.grow], by simp⟩, e0, Mem.nst (t1.out hD)⟩, by simpa using hF⟩, ?_⟩
  rintro i m H' ⟨rfl, hi, S', qs, μ', acc, c, h'⟩
  by_cases hlt : i < ps.length
  · refine .inr ⟨hJ.go i H' μ' c.stp.keep hlt, fun H2 => i + 1 ≤ ps.length ∧ ∃ S' qs μ' acc, CompAt X.K H1 μ1 (wipe σ (own.map (·.2))) (wipeP ρ (own.map (·.2))) D H2 S' qs μ' acc ∧ FitsF X.K H1 μ1 (compF gP ft fe (wipeP ρ (own.map (·.2))) (ps.drop (i + 1)) qs S') Q, fun H2 z => ⟨ps.length - (i + 1), by omega, rfl, z.1, z.2⟩, fun x H2 hy => ?_⟩
    have kp : Keep H1 μ1 H' (μ'.resv D) := fun a o h n => by
      obtain ⟨h1, h2⟩ := c.stp.keep a o h n
      refine ⟨h1, fun q => ?_⟩
      rcases q with q | q
      · exact h2 (.inl q)
      · rcases List.mem_cons.mp q with q | q
        · rw [q, hD] at h; cases h
        · exact h2 (.inr q)
    obtain ⟨p, ep, s2, t2, rx⟩ := hJ.yld i H' (μ'.resv D) S' x H2 kp c.rel hlt hy
    have ed : ps.drop i = p :: ps.drop (i + 1) := by
      rw [List.drop_eq_getElem_cons hlt]
      rw [List.getElem?_eq_getElem hlt] at ep
      rw [Option.some.inj ep]
    rw [ed] at h'
    obtain ⟨μ2, em, c2⟩ := c.more s2 t2
    have em2 : μ2.resv D = μ'.resv D := em.symm
    rw [compF] at h'
    obtain ⟨ρ1, Sa, eg, h'⟩ := FitsF.gone h'
    obtain ⟨b, Sb, et, h'⟩ := FitsF.gone h'
    refine T.ok x p _ _ ρ1 S' Sa H2 (μ2.resv D) _ (by rw [em2]; exact rx) c2.env eg fun σ1 e1 w1 eS => ?_
    subst eS
    refine ⟨w1.trans (wipe_wipe fun i q => q), μ2.resv D, ρ1, Sa, e1, c2.rel, FitsG.of_ok et fun H3 μ3 s3 t3 => ?_⟩
    obtain ⟨μ4, rfl, c3⟩ := c2.more s3 t3
    show if b = true then _ else _
    cases b with
    | false =>
      exact iteF ⟨hlt, Sb, qs, μ4, acc, c3, by simpa using h'⟩
    | true =>
      rw [if_pos rfl] at h'
      obtain ⟨y, Sc, ey, h'⟩ := FitsF.gone h'
      split at h'
      · rename_i hc
        refine iteT ⟨μ4.resv D, ρ1, Sb, e1.step s3, c3.rel, FitsG.of_ok ey fun H5 μ5 s5 t5 v rv => ?_⟩
        obtain ⟨μ6, rfl, c5⟩ := c3.more s5 t5
        exact ⟨acc, c5.at_, by rw [c5.reps.length]; exact hc.2, hlt, Sc, qs ++ [y], μ6, acc ++ [v], c5.push hD (rv.pure hc.1), h'⟩
      · exact h'.elim
  · have e : i = ps.length := by omega
    subst e
    rw [List.drop_length] at h'
    refine .inl ⟨hJ.stop H' μ' c.stp.keep, ?_⟩
    have h2 : FitsF X.K H1 μ1 (.ok (.lst qs) S') Q := h'
    refine h2 H' μ' D hD (fun q => t1.res D q hD) c.stp ?_
    have sub : ∀ a, a ∈ μ'.grow [D] → a ∈ μ'.resv D := fun a q => by
      rcases q with q | q
      · rcases List.mem_append.mp q with q | q
        · exact .inl q
        · rw [List.mem_singleton.mp q]; exact .inr (List.mem_cons_self ..)
      · exact .inr (List.mem_cons_of_mem _ q)
    refine ⟨by have := c.rel.len; simpa [Mem.grow, Mem.resv] using this, List.nodup_append.mpr ⟨c.rel.nd, by simp, fun a ha b hb => ?_⟩, fun n a ob e1 e2 => ?_, fun a q => c.rel.res a (List.mem_cons_of_mem _ q)⟩
    · rw [List.mem_singleton.mp hb]
      intro z
      exact c.out (by rw [← z]; exact ha)
    · have e1 : (μ'.st ++ [D])[n]? = some a := e1
      have len : μ'.st.length = S'.length := c.rel.len
      by_cases hn : n < μ'.st.length
      · rw [List.getElem?_append_left hn] at e1
        rw [List.getElem?_append_left (by rw [← len]; exact hn)] at e2
        exact (c.rel.obj n a ob e1 e2).sub sub
      · have e : n = μ'.st.length := by
          have := (List.getElem?_eq_some_iff.mp e1).1
          simp at this; omega
        subst e
        rw [List.getElem?_append_right (Nat.le_refl _)] at e1
        rw [List.getElem?_append_right (by rw [len]; exact Nat.le_refl _)] at e2
        simp [len] at e1 e2
        subst e1 e2
        exact ⟨acc, c.at_, c.reps.sub sub⟩
end
end Py
set_option Elab.async false
set_option maxRecDepth 100000
set_option maxHeartbeats 4000000
set_option linter.all false
namespace Py
open PySem PySem.Spec PyProof.Rows L2

/-! ### a comprehension, as a value; as a statement -/
section
variable {X : Cx} {elt tg iter : Expr} {ifs : List Expr} {scope : Scope} {own : List (Str × Nat)} {pos : Pos} {g : TG} {gP : Eg} {it : Ei} {ft : Et} {fe : Ev}
theorem ef_comp (hc : X.calm = true) (hN : X.N.Nodup) (ok : BlkOk X.N X.env.scope scope own) (T : Tgt X.K g gP (own.map (·.2))) (hi : EI X tg iter it)
    (hg : ∀ (s : Shared) (H : Hp) (C : Addr) (cl : List (Str × Addr)) (fp : List Addr), PG (X.blk s H scope (compEnvC scope cl C X.env) fp) tg g)
    (ht : ∀ (s : Shared) (H : Hp) (C : Addr) (cl : List (Str × Addr)) (fp : List Addr), EIfs (X.blk s H scope (compEnvC scope cl C X.env) fp) ifs ft)
    (he : ∀ (s : Shared) (H : Hp) (C : Addr) (cl : List (Str × Addr)) (fp : List Addr), EE (X.blk s H scope (compEnvC scope cl C X.env) fp) elt fe)
    (hs : ∀ x, foldedSetIterable iter X.env x = pure x := by intro _; rfl) : EF X (.ListComp elt [⟨tg, iter, ifs, 0⟩] scope pos) (fComp it gP ft fe (own.map (·.2))) :=
  pe_mono (pe_lc (tt := tEt X.K ft) (te := tEv X.K fe) hc hN hi ok hg ht he hs) fun σ H Q h => tLc_of T h
theorem tEs_setP {K : PySem.W.Frag} {f : Ev} {t : TE} {i : Nat} {D : Ends} {σ : L2.St} {H : Hp} (hf : ∀ σ H Q, tEf K f σ H Q → t σ H Q) (h : tEs K (sSet i f) D σ H) : tAsg t (gName i) D σ H :=
  hf σ H _ (tEf_pure (tEs_set h))
theorem tEs_setN {K : PySem.W.Frag} {f : Ev} {t : TE} {i : Nat} {D : Ends} {σ : L2.St} {H : Hp} (hf : ∀ σ H Q, tEf K f σ H Q → t σ H Q) (h : tEs K (sSet i (eNew f)) D σ H) : tAsg t (gName i) D σ H :=
  hf σ H _ (tEf_new (tEs_set h))
theorem es_comp {i : Nat} {st : Stmt} (T : Tgt X.K g gP (own.map (·.2))) (h : PS X st (tAsg (tLc (tEi X.K it) g (tEt X.K ft) (tEv X.K fe) (own.map (·.2))) (gName i))) : ES X st (sSet i (fComp it gP ft fe (own.map (·.2)))) :=
  ps_mono h fun D σ H h => tEs_setP (fun σ H Q z => tLc_of T z) h
theorem es_compN {i : Nat} {st : Stmt} (T : Tgt X.K g gP (own.map (·.2))) (h : PS X st (tAsg (tLc (tEi X.K it) g (tEt X.K ft) (tEv X.K fe) (own.map (·.2))) (gName i))) : ES X st (sSet i (eNew (fComp it gP ft fe (own.map (·.2))))) :=
  ps_mono h fun D σ H h => tEs_setN (fun σ H Q z => tLc_of T z) h
end

/-! ### calls of defs -/
abbrev Fn := List PV → Sto → R PV
def FitsC (K : PySem.W.Frag) (H : Hp) (μ : Mem) (r : R PV) (Q : VK) : Prop := match r with
  | .ok p S' => ∀ H', Step H μ H' μ → Rel K H' μ S' → ∀ v, Rep K H' μ v p → Q v H'
  | _ => False
def FitsN (K : PySem.W.Frag) (H : Hp) (μ : Mem) (r : R PV) (Q : VK) : Prop := match r with
  | .ok o S' => ∀ H' a, H a = none → a ∉ μ.rs → Step H μ H' μ → Rel K H' (μ.grow [a]) (S' ++ [o]) → Q (.ref a) H'
  | _ => False
/-- what a def promises: its value; a new list or dict -/
def spM (K : PySem.W.Frag) (m : Fn) : Sp := fun vs H Q _ => ∃ μ ps S, Reps K H μ vs ps ∧ Rel K H μ S ∧ FitsC K H μ (m ps S) Q
def spN (K : PySem.W.Frag) (m : Fn) : Sp := fun vs H Q _ => ∃ μ ps S, Reps K H μ vs ps ∧ Rel K H μ S ∧ FitsN K H μ (m ps S) Q
section
variable {X : Cx} {k : Nat} {f : Addr} {fd : FuncData} {ps : List Str} {m : Fn} {x : Str} {p pos : Pos} {e : Expr} {es : List Expr} {fa : Ea}
theorem ee_call (F : FnOk X.prog X.w X.K X.mg X.base CX0 k f fd ps (spM X.K m)) (hr : Room k X.A) (hg : Gl X x) (hm : X.mg x = some (.ref f)) (hk : PySem.W.keepIn X.K (.ref f) = true) (hb : Binds X.K fd ps [])
    (ha : EA X (e :: es) fa) (hdb : (x == ("__debug__" : Str)) = false := by decide) (he : starEach (e :: es) X.env = (false, eval e X.env) :: starEach es X.env := by rfl) (hpl : (backTo pos (starEach es X.env)).any (·.1) = false := by rfl) : EE X (.Call (.Name x p) (e :: es) [] pos) (eArgs m fa) :=
  pe_mono (pe_call F hr hg hm hk hb .nil pass0 ha hdb he hpl) fun σ H Q h => args (r := fun vs H1 Q => spM X.K m (vs ++ []) H1 Q E0) h fun H2 μ2 S2 vs ps rv t hF => by
    refine ⟨μ2, ps, S2, by rw [List.append_nil]; exact rv, t, ?_⟩
    revert hF
    cases m ps S2 with
    | ok q S3 => exact fun hF H' st t' v r => hF H' μ2 st t' v r
    | er => exact fun z => z
    | no => exact fun z => z
theorem ef_call (F : FnOk X.prog X.w X.K X.mg X.base CX0 k f fd ps (spN X.K m)) (hr : Room k X.A) (hg : Gl X x) (hm : X.mg x = some (.ref f)) (hk : PySem.W.keepIn X.K (.ref f) = true) (hb : Binds X.K fd ps [])
    (ha : EA X (e :: es) fa) (hdb : (x == ("__debug__" : Str)) = false := by decide) (he : starEach (e :: es) X.env = (false, eval e X.env) :: starEach es X.env := by rfl) (hpl : (backTo pos (starEach es X.env)).any (·.1) = false := by rfl) : EF X (.Call (.Name x p) (e :: es) [] pos) (eArgs m fa) :=
  pe_mono (pe_call F hr hg hm hk hb .nil pass0 ha hdb he hpl) fun σ H Q h => argsF (r := fun vs H1 Q => spN X.K m (vs ++ []) H1 Q E0) h fun H2 μ2 S2 vs ps rv t hF => by
    refine ⟨μ2, ps, S2, by rw [List.append_nil]; exact rv, t, ?_⟩
    revert hF
    cases m ps S2 with
    | ok q S3 => exact fun hF H' a h1 h2 st t' => hF H' μ2 a h1 h2 st t'
    | er => exact fun z => z
    | no => exact fun z => z
theorem ef_call0 (F : FnOk X.prog X.w X.K X.mg X.base CX0 k f fd ps (spN X.K m)) (hr : Room k X.A) (hg : Gl X x) (hm : X.mg x = some (.ref f)) (hk : PySem.W.keepIn X.K (.ref f) = true) (hb : Binds X.K fd ps [])
    (hdb : (x == ("__debug__" : Str)) = false := by decide) : EF X (.Call (.Name x p) [] [] pos) (fun _ S => m [] S) :=
  pe_mono (pe_call0 F hr hg hm hk hb .nil pass0 hdb) fun σ H Q ⟨μ, ρ, S, hE, hR, hF⟩ => by
    refine ⟨μ, [], S, .nil, hR, ?_⟩
    have hF : FitsF X.K H μ (m [] S) Q := hF
    revert hF
    cases m [] S with
    | ok q S3 => exact fun hF H' a h1 h2 st t' => hF H' μ a h1 h2 st t'
    | er => exact fun z => z
    | no => exact fun z => z
end

/-! ### a def's body -/
def finV (n : Nat) (p : PV) (S : Sto) : R PV := match p with
  | .ref m => if m < n then .ok (.ref m) (S.take n) else match S[m]? with
    | some o => .ok o (S.take n)
    | none => .no
  | p => .ok p (S.take n)
def finF (n : Nat) (fl : Fl) (S : Sto) : R PV := match fl with
  | .rt p => finV n p S
  | .nx _ => finV n .non S
  | _ => .no
/-- its end where a new object is promised -/
def finO (n : Nat) (fl : Fl) (S : Sto) : R PV := match fl with
  | .rt (.ref m) => if m < n then .no else match S[m]? with
    | some o => .ok o (S.take n)
    | none => .no
  | _ => .no
def startP (N : Nat) (ps : List PV) : Env := ps.map some ++ List.replicate (N - ps.length) none
def mkDef (n N : Nat) (g : Es) : Fn := fun ps S => if ps.length = n then (g (startP N ps) S).bind (finF S.length) else .no
def mkNew (n N : Nat) (g : Es) : Fn := fun ps S => if ps.length = n then (g (startP N ps) S).bind (finO S.length) else .no
theorem ERel.append {K : PySem.W.Frag} {H : Hp} {μ : Mem} {σ τ : List (Option V)} {ρ π : Env} (h : ERel K H μ σ ρ) (g : ERel K H μ τ π) : ERel K H μ (σ ++ τ) (ρ ++ π) := by
  induction h with
  | nil => exact g
  | cons h _ ih => exact .cons h ih
theorem Reps.somes {K : PySem.W.Frag} {H : Hp} {μ : Mem} {vs : List V} {ps : List PV} (r : Reps K H μ vs ps) : ERel K H μ (vs.map some) (ps.map some) := by
  induction r with
  | nil => exact .nil
  | cons h _ ih => exact .cons h ih
theorem ERel.nones {K : PySem.W.Frag} {H : Hp} {μ : Mem} : ∀ n : Nat, ERel K H μ (List.replicate n none) (List.replicate n none)
  | 0 => .nil
  | n + 1 => .cons (show ORep K H μ none none from trivial) (ERel.nones n)
theorem ERel.start {K : PySem.W.Frag} {H : Hp} {μ : Mem} {vs : List V} {ps : List PV} (r : Reps K H μ vs ps) (N : List Str) : ERel K H μ (L2.start N vs) (startP N.length ps) := by
  unfold L2.start startP
  rw [Paired.length r]
  exact r.somes.append (ERel.nones _)
section
variable {K : PySem.W.Frag} {H H' : Hp} {μ μ' : Mem} {S S1 : Sto}
theorem Mem.sub_grow (μ : Mem) (ν : List Addr) : ∀ a, a ∈ μ → a ∈ μ.grow ν := fun a q => q.elim (fun q => .inl (List.mem_append_left _ q)) .inr
theorem trunc (t : Rel K H μ S) (s : Step H μ H' μ') (t1 : Rel K H' μ' S1) : Step H μ H' μ ∧ Rel K H' μ (S1.take S.length) := by
  obtain ⟨ν, e, f⟩ := s.gro
  subst e
  have le : μ.st.length ≤ S1.length := by have := t1.len; simp [Mem.grow] at this; omega
  refine ⟨⟨s.ext, s.dom, [], by simp [Mem.grow], by simp⟩, ⟨by simp [← t.len]; omega, t.nd, fun n a o e1 e2 => ?_, t1.res⟩⟩
  have hn := (List.getElem?_eq_some_iff.mp e1).1
  refine (t1.obj n a o ?_ ?_).sub (μ.sub_grow ν)
  · show (μ.st ++ ν)[n]? = some a
    rw [List.getElem?_append_left hn]; exact e1
  · rw [← t.len, List.getElem?_take_of_lt hn] at e2; exact e2
theorem late (t : Rel K H μ S) (s : Step H μ H' μ') (t1 : Rel K H' μ' S1) {m : Nat} {o : PV} (hm : ¬ m < S.length) (e : S1[m]? = some o) {a : Addr} (ea : μ'.st[m]? = some a) : H a = none ∧ a ∉ μ ∧ ObjR K H' μ a o := by
  obtain ⟨ν, e0, f⟩ := s.gro
  subst e0
  have ea : (μ.st ++ ν)[m]? = some a := ea
  rw [List.getElem?_append_right (by rw [t.len]; omega)] at ea
  have hν := List.mem_of_getElem? ea
  have ha := f a hν
  refine ⟨ha, t.out ha, (t1.obj m a o ?_ e).sub (μ.sub_grow ν)⟩
  show (μ.st ++ ν)[m]? = some a
  rw [List.getElem?_append_right (by rw [t.len]; omega)]
  exact ea
theorem finV_ok {Q : VK} {p : PV} {v : V} (t : Rel K H μ S) (s : Step H μ H' μ') (t1 : Rel K H' μ' S1) (r : Rep K H' μ' v p) (h : FitsC K H μ (finV S.length p S1) Q) : Q v H' := by
  obtain ⟨s2, t2⟩ := trunc t s t1
  have sub : ∀ b, b ∈ μ → b ∈ μ' := fun b q => by
    obtain ⟨ν, e, f⟩ := s.gro
    subst e
    exact q.elim (fun q => .inl (List.mem_append_left _ q)) .inr
  rcases r with r | ⟨m, a, e1, e2, e3⟩
  · unfold finV at h
    split at h
    · cases r
    · exact (show FitsC K H μ (.ok _ _) Q from h) H' s2 t2 v (.inl (r.sub sub))
  · subst e1 e3
    unfold finV at h
    simp only at h
    split at h
    · rename_i hm
      refine (show FitsC K H μ (.ok _ _) Q from h) H' s2 t2 _ (.inr ⟨m, a, rfl, ?_, rfl⟩)
      obtain ⟨ν, e0, f⟩ := s.gro
      subst e0
      have e2 : (μ.st ++ ν)[m]? = some a := e2
      rw [List.getElem?_append_left (by rw [t.len]; exact hm)] at e2
      exact e2
    · rename_i hm
      split at h
      · rename_i o eo
        obtain ⟨_, n1, o1⟩ := late t s t1 hm eo e2
        exact (show FitsC K H μ (.ok _ _) Q from h) H' s2 t2 _ (.inl (o1.repP n1))
      · exact h.elim
theorem finO_ok {Q : VK} {fl : Fl} {v : V} {m : Nat} (t : Rel K H μ S) (s : Step H μ H' μ') (t1 : Rel K H' μ' S1) (r : Rep K H' μ' v (.ref m)) (h : FitsN K H μ (finO S.length (.rt (.ref m)) S1) Q) : Q v H' := by
  obtain ⟨s2, t2⟩ := trunc t s t1
  rcases r with r | ⟨m', a, e1, e2, e3⟩
  · cases r
  · cases e1
    subst e3
    unfold finO at h
    simp only at h
    split at h
    · exact h.elim
    · rename_i hm
      split at h
      · rename_i o eo
        obtain ⟨h0, n1, o1⟩ := late t s t1 hm eo e2
        have sub : ∀ b, b ∈ μ.grow [a] → b ∈ μ' := fun b q => by
          rcases q with q | q
          · rcases List.mem_append.mp q with q | q
            · obtain ⟨ν, e, f⟩ := s.gro
              subst e
              exact .inl (List.mem_append_left _ q)
            · rw [List.mem_singleton.mp q]
              exact .inl (List.mem_of_getElem? e2)
          · obtain ⟨ν, e, f⟩ := s.gro
            subst e
            exact .inr q
        refine (show FitsN K H μ (.ok o (S1.take S.length)) Q from h) H' a h0 (fun q => n1 (.inr q)) s2 ⟨?_, ?_, fun n b ob e1 e4 => ?_, fun b q => ?_⟩
        · simp [Mem.grow, t2.len]
        · exact List.nodup_append.mpr ⟨t.nd, by simp, fun b hb c hc => by
            rw [List.mem_singleton.mp hc]; intro z; rw [z] at hb; exact n1 (.inl hb)⟩
        · have e1 : (μ.st ++ [a])[n]? = some b := e1
          have l2 := t2.len
          obtain ⟨ν, e5, f⟩ := s.gro
          subst e5
          by_cases hn : n < μ.st.length
          · rw [List.getElem?_append_left hn] at e1
            rw [List.getElem?_append_left (by rw [← l2]; exact hn), ← t.len, List.getElem?_take_of_lt hn] at e4
            refine (t1.obj n b ob ?_ e4).sub sub
            show (μ.st ++ ν)[n]? = some b
            rw [List.getElem?_append_left hn]; exact e1
          · have en : n = μ.st.length := by
              have := (List.getElem?_eq_some_iff.mp e1).1
              simp at this; omega
            subst en
            rw [List.getElem?_append_right (Nat.le_refl _)] at e1
            rw [List.getElem?_append_right (by rw [← l2]; exact Nat.le_refl _)] at e4
            simp [← l2] at e1 e4
            subst e1 e4
            exact (t1.obj m a o e2 eo).sub sub
        · obtain ⟨ν, e5, f⟩ := s.gro
          subst e5
          exact t1.res b q
      · exact h.elim
end
section
variable {P : Program} {w : World} {K : PySem.W.Frag} {mg : Str → Option Value} {base : Heap} {x qual : Str} {params : Arguments} {body : List Stmt} {scope : Scope} {f : Addr} {fd : FuncData} {N pn : List Str} {k : Nat} {g : Es}
theorem fn_def (F : FunD K x qual params body scope [] [] f fd) (S : FnScope N pn scope)
    (hbody : ∀ (cdv : Value) (A : Around) (outer : List PySem.Env) (s : Shared) (H : Hp) (E : XK), Room k (A.deeper (envOfC qual scope s.heap.objs.size f cdv)) → ESs (cxOf CX0 P w K mg base N qual scope f cdv A outer s H E).nox body g) :
    FnOk P w K mg base CX0 (k + 1) f fd pn (spM K (mkDef pn.length N.length g)) := by
  refine F.ok S (fun vs H Q E ⟨μ, ps, S, rv, t, hF⟩ => ?_) (fun cdv A outer s H vs Q E hr ⟨μ, ps, S, rv, t, hF⟩ => ⟨_, (hbody cdv A outer s H E hr).nox, ?_⟩)
  · unfold mkDef at hF
    split at hF
    · rename_i h
      rw [Paired.length rv]; exact h
    · exact hF.elim
  · unfold mkDef at hF
    split at hF
    · refine ⟨μ, startP N.length ps, S, ERel.start rv N, t, ?_⟩
      revert hF
      cases g (startP N.length ps) S with
      | er => exact fun z => z
      | no => exact fun z => z
      | ok fl S1 =>
        intro hF H' μ' s1 t1
        have hF : FitsC K H μ (finF S.length fl S1) Q := hF
        cases fl with
        | rt p => exact fun v r => finV_ok t s1 t1 r hF
        | nx ρ => exact fun σ _ => finV_ok t s1 t1 (.inl .non) hF
        | bk ρ => exact hF.elim
        | ct ρ => exact hF.elim
    · exact hF.elim
theorem fn_new (F : FunD K x qual params body scope [] [] f fd) (S : FnScope N pn scope)
    (hbody : ∀ (cdv : Value) (A : Around) (outer : List PySem.Env) (s : Shared) (H : Hp) (E : XK), Room k (A.deeper (envOfC qual scope s.heap.objs.size f cdv)) → ESs (cxOf CX0 P w K mg base N qual scope f cdv A outer s H E).nox body g) :
    FnOk P w K mg base CX0 (k + 1) f fd pn (spN K (mkNew pn.length N.length g)) := by
  refine F.ok S (fun vs H Q E ⟨μ, ps, S, rv, t, hF⟩ => ?_) (fun cdv A outer s H vs Q E hr ⟨μ, ps, S, rv, t, hF⟩ => ⟨_, (hbody cdv A outer s H E hr).nox, ?_⟩)
  · unfold mkNew at hF
    split at hF
    · rename_i h
      rw [Paired.length rv]; exact h
    · exact hF.elim
  · unfold mkNew at hF
    split at hF
    · refine ⟨μ, startP N.length ps, S, ERel.start rv N, t, ?_⟩
      revert hF
      cases g (startP N.length ps) S with
      | er => exact fun z => z
      | no => exact fun z => z
      | ok fl S1 =>
        intro hF H' μ' s1 t1
        have hF : FitsN K H μ (finO S.length fl S1) Q := hF
        cases fl with
        | rt p =>
          cases p with
          | ref m => exact fun v r => finO_ok (fl := .nx []) t s1 t1 r hF
          | _ => exact hF.elim
        | nx ρ => exact hF.elim
        | bk ρ => exact hF.elim
        | ct ρ => exact hF.elim
    · exact hF.elim
end
end Py
set_option Elab.async false
set_option maxRecDepth 100000
set_option maxHeartbeats 4000000
set_option linter.all false
namespace Py
open PySem PySem.Spec PyProof.Rows L2

/-! ### methods of lists -/
def gApp (x y : PV) (S : Sto) : R PV := match x with
  | .ref n => match S[n]? with
    | some (.lst xs) => if y.isRef = false ∧ xs.length < sizeLine then .ok .non (S.set n (.lst (xs ++ [y]))) else .no
    | _ => .no
  | _ => .no
def gExt (x y : PV) (S : Sto) : R PV := match x, y with
  | .ref n, .lst ys => match S[n]? with
    | some (.lst xs) => if xs.length + ys.length ≤ sizeLine then .ok .non (S.set n (.lst (xs ++ ys))) else .no
    | _ => .no
  | _, _ => .no
def gPop (x : PV) (S : Sto) : R PV := match x with
  | .ref n => match S[n]? with
    | some (.lst xs) => match xs[xs.length - 1]? with
      | some y => .ok y (S.set n (.lst xs.dropLast))
      | none => .no
    | _ => .no
  | _ => .no
def gPopAt (x y : PV) (S : Sto) : R PV := match x, y with
  | .ref n, .int i => match S[n]? with
    | some (.lst xs) => if -(2 ^ 63) ≤ i ∧ i < 2 ^ 63 then match seqIndex? i xs.length with
      | some k => match xs[k]? with
        | some y => .ok y (S.set n (.lst (xs.eraseIdx k)))
        | none => .no
      | none => .no
      else .no
    | _ => .no
  | _, _ => .no
def isLst (p : PV) (S : Sto) : Bool := (getL p S).isSome
def eMeth0 (g : PV → Sto → R PV) (a : Ev) : Ev := fun ρ S => (a ρ S).bind fun x S1 => if isLst x S1 = true then g x S1 else .no
def eMeth1 (g : PV → PV → Sto → R PV) (a b : Ev) : Ev := fun ρ S => (a ρ S).bind fun x S1 => if isLst x S1 = true then (b ρ S1).bind fun y S2 => g x y S2 else .no
def LMR (K : PySem.W.Frag) (r : V → List V → Hp → VK → Prop) (g : PV → PV → Sto → R PV) : Prop := ∀ Q H μ S v w p q, Rep K H μ v p → Rep K H μ w q → Rel K H μ S → FitsG K H μ (g p q S) (VKont K Q) → r v [w] H Q
def LM0 (K : PySem.W.Frag) (r : V → List V → Hp → VK → Prop) (g : PV → Sto → R PV) : Prop := ∀ Q H μ S v p, Rep K H μ v p → Rel K H μ S → FitsG K H μ (g p S) (VKont K Q) → r v [] H Q
theorem isLst_ty {K H μ S v p} (t : Rel K H μ S) (r : Rep K H μ v p) (h : isLst p S = true) : tyV K "list" v H := by
  unfold isLst at h
  cases e : getL p S with
  | none => rw [e] at h; cases h
  | some xs =>
    obtain ⟨a, vs, rfl, g1, g2⟩ := getL_of t r e
    exact .inl ⟨rfl, vs, g1⟩
section
variable {X : Cx} {o e : Expr} {fo fe : Ev} {name : Str} {apos cpos : Pos} {id : String} {r : V → List V → Hp → VK → Prop}
theorem ee_meth1 {g : PV → PV → Sto → R PV} (hr : LMR X.K r g) (h : PE X (.Call (.Attribute o name apos) [e] [] cpos) (tBM X.K "list" r (tEv X.K fo) (tCons (tEv X.K fe) tNil))) : EE X (.Call (.Attribute o name apos) [e] [] cpos) (eMeth1 g fo fe) :=
  pe_mono h fun σ H Q ⟨μ, ρ, S, hE, hR, hF⟩ => ⟨μ, ρ, S, hE, hR, (FitsG.bind hF).imp fun x S1 H1 μ1 s1 t1 h1 v rv => by
    split at h1
    · rename_i hl
      exact ⟨isLst_ty t1 rv hl, μ1, ρ, S1, hE.step s1, t1, (FitsG.bind h1).imp fun y S2 H2 μ2 s2 t2 h2 w rw' => hr Q H2 μ2 S2 v w x y (rv.step s2) rw' t2 h2⟩
    · exact h1.elim⟩
theorem ee_meth0 {g : PV → Sto → R PV} (hr : LM0 X.K r g) (h : PE X (.Call (.Attribute o name apos) [] [] cpos) (tBM0 X.K "list" r (tEv X.K fo))) : EE X (.Call (.Attribute o name apos) [] [] cpos) (eMeth0 g fo) :=
  pe_mono h fun σ H Q ⟨μ, ρ, S, hE, hR, hF⟩ => ⟨μ, ρ, S, hE, hR, (FitsG.bind hF).imp fun x S1 H1 μ1 s1 t1 h1 v rv => by
    split at h1
    · rename_i hl
      exact ⟨isLst_ty t1 rv hl, hr Q H1 μ1 S1 v x rv t1 h1⟩
    · exact h1.elim⟩
end
section
variable {K : PySem.W.Frag}
theorem l_app : LMR K rAppend gApp := by
  intro Q H μ S v w p q rv rw' t hF
  unfold gApp at hF
  split at hF
  · split at hF
    · rename_i xs e
      split at hF
      · rename_i hc
        rcases rv with rv | ⟨m, a, e1, e2, e3⟩
        · cases rv
        cases e1
        subst e3
        obtain ⟨vs, g1, g2, g3⟩ := write_lst (ys := xs ++ [q]) t e2 e
        have rp := rw'.pure hc.1
        obtain ⟨s3, t3⟩ := g3 (vs ++ [w]) fun H' μ' s => (g2.append (.cons rp .nil)).step s
        exact ⟨a, vs, w, rfl, rfl, g1, by rw [g2.length]; exact hc.2, hF _ _ s3 t3 _ (.inl .non)⟩
      · exact hF.elim
    · exact hF.elim
  · exact hF.elim
theorem l_ext : LMR K rExtend gExt := by
  intro Q H μ S v w p q rv rw' t hF
  unfold gExt at hF
  split at hF
  · split at hF
    · rename_i xs e
      split at hF
      · rename_i hc
        rcases rv with rv | ⟨m, a, e1, e2, e3⟩
        · cases rv
        cases e1
        subst e3
        obtain ⟨b, ws, rfl, k1, k2⟩ := rw'.lst_inv
        obtain ⟨vs, g1, g2, g3⟩ := write_lst (ys := xs ++ _) t e2 e
        obtain ⟨s3, t3⟩ := g3 (vs ++ ws) fun H' μ' s => (g2.append k2).step s
        exact ⟨a, b, vs, ws, rfl, rfl, g1, k1, by rw [g2.length, k2.length]; exact hc, hF _ _ s3 t3 _ (.inl .non)⟩
      · exact hF.elim
    · exact hF.elim
  · exact hF.elim
theorem RepPs.dropLast {H : Hp} {μ : Mem} {ps : List PV} {vs : List V} (r : RepPs K H μ vs ps) : RepPs K H μ vs.dropLast ps.dropLast := by
  rw [List.dropLast_eq_take, List.dropLast_eq_take, r.length]
  exact r.take _
theorem RepPs.erase {H : Hp} {μ : Mem} {ps : List PV} {vs : List V} (r : RepPs K H μ vs ps) (k : Nat) : RepPs K H μ (vs.eraseIdx k) (ps.eraseIdx k) := by
  rw [List.eraseIdx_eq_take_drop_succ, List.eraseIdx_eq_take_drop_succ]
  exact (r.take _).append (r.drop _)
theorem l_pop : LM0 K rPop gPop := by
  intro Q H μ S v p rv t hF
  unfold gPop at hF
  split at hF
  · split at hF
    · rename_i xs e
      split at hF
      · rename_i y ey
        rcases rv with rv | ⟨m, a, e1, e2, e3⟩
        · cases rv
        cases e1
        subst e3
        obtain ⟨vs, g1, g2, g3⟩ := write_lst (ys := xs.dropLast) t e2 e
        obtain ⟨u, h1, h2⟩ := g2.get ey
        obtain ⟨s3, t3⟩ := g3 vs.dropLast fun H' μ' s => g2.dropLast.step s
        exact ⟨a, vs, u, rfl, rfl, g1, by rw [g2.length]; exact h1, hF _ _ s3 t3 _ (.inl (h2.step s3))⟩
      · exact hF.elim
    · exact hF.elim
  · exact hF.elim
theorem l_popAt : LMR K rPopAt gPopAt := by
  intro Q H μ S v w p q rv rw' t hF
  unfold gPopAt at hF
  split at hF
  · split at hF
    · rename_i xs e
      split at hF
      · rename_i hc
        split at hF
        · rename_i k ek
          split at hF
          · rename_i y ey
            rcases rv with rv | ⟨m, a, e1, e2, e3⟩
            · cases rv
            cases e1
            subst e3
            cases rep_int rw'
            obtain ⟨vs, g1, g2, g3⟩ := write_lst (ys := xs.eraseIdx k) t e2 e
            obtain ⟨u, h1, h2⟩ := g2.get ey
            obtain ⟨s3, t3⟩ := g3 (vs.eraseIdx k) fun H' μ' s => (g2.erase k).step s
            exact ⟨a, vs, _, k, u, rfl, rfl, g1, hc.1, hc.2, by rw [g2.length]; exact ek, h1, hF _ _ s3 t3 _ (.inl (h2.step s3))⟩
          · exact hF.elim
        · exact hF.elim
      · exact hF.elim
    · exact hF.elim
  · exact hF.elim

/-! ### tuple(x), list(x), list(range), sorted -/
def gTupOf (ps : List PV) (S : Sto) : R PV := match ps with
  | [.tup xs] => .ok (.tup xs) S
  | [p] => match getL p S with
    | some xs => .ok (.tup xs) S
    | none => .no
  | _ => .no
theorem l_tupOf : LAR K (fun xs H Q => ∃ p ys, xs = [V.ref p] ∧ ((SqL K H p ys ∧ ∀ l, H l = none → Q (.ref l) (upd H l (.tup ys))) ∨ (SqT K H p ys ∧ Q (.ref p) H))) gTupOf := by
  intro Q H μ S vs ps rv t hF
  unfold gTupOf at hF
  split at hF
  · obtain ⟨v, rfl, r1⟩ := rv.one
    obtain ⟨a, ws, rfl, g1, g2⟩ := r1.tup_inv
    exact ⟨a, ws, rfl, .inr ⟨g1.sq, hF.val t r1⟩⟩
  · split at hF
    · rename_i xs e
      obtain ⟨v, rfl, r1⟩ := rv.one
      obtain ⟨a, ws, rfl, g1, g2⟩ := getL_of t r1 e
      exact ⟨a, ws, rfl, .inl ⟨g1, lay_tup (fun p S H' μ' h => h) hF t g2⟩⟩
    · exact hF.elim
  · exact hF.elim
def gLstOf (ps : List PV) (S : Sto) : R PV := match ps with
  | [p] => match getQ p S with
    | some xs => .ok (.lst xs) S
    | none => .no
  | _ => .no
theorem l_lstOf : LAF K (fun xs H Q => ∃ p ys, xs = [V.ref p] ∧ (SqL K H p ys ∨ SqT K H p ys) ∧ ∀ l, H l = none → Q (.ref l) (upd H l (.lst ys))) gLstOf := by
  intro Q H μ S vs ps rv t hF
  unfold gLstOf at hF
  split at hF
  · split at hF
    · rename_i xs e
      obtain ⟨v, rfl, r1⟩ := rv.one
      obtain ⟨a, ws, rfl, g1, g2⟩ := getQ_of t r1 e
      exact ⟨a, ws, rfl, g1, FitsF.lay hF (Step.refl _ _) t g2⟩
    · exact hF.elim
  · exact hF.elim
def insI (x : Int) : List Int → List Int
  | [] => [x]
  | y :: r => if x ≤ y then x :: y :: r else y :: insI x r
def sortI : List Int → List Int
  | [] => []
  | x :: r => insI x (sortI r)
theorem insI_perm (x : Int) : ∀ r : List Int, (insI x r).Perm (x :: r)
  | [] => List.Perm.refl _
  | y :: r => by
    rw [insI]
    split
    · exact List.Perm.refl _
    · exact ((insI_perm x r).cons y).trans (List.Perm.swap x y r)
theorem sortI_perm : ∀ r : List Int, (sortI r).Perm r
  | [] => List.Perm.refl _
  | x :: r => (insI_perm x (sortI r)).trans ((sortI_perm r).cons x)
theorem insI_sorted (x : Int) : ∀ r : List Int, r.Pairwise (· ≤ ·) → (insI x r).Pairwise (· ≤ ·)
  | [], _ => by simp [insI]
  | y :: r, h => by
    rw [insI]
    have h' := List.pairwise_cons.mp h
    split
    · rename_i hxy
      refine List.pairwise_cons.mpr ⟨fun z hz => ?_, h⟩
      rcases List.mem_cons.mp hz with rfl | hz
      · exact hxy
      · exact Int.le_trans hxy (h'.1 z hz)
    · rename_i hxy
      refine List.pairwise_cons.mpr ⟨fun z hz => ?_, insI_sorted x r h'.2⟩
      rcases List.mem_cons.mp ((insI_perm x r).mem_iff.mp hz) with rfl | hz
      · omega
      · exact h'.1 z hz
theorem sortI_sorted : ∀ r : List Int, (sortI r).Pairwise (· ≤ ·)
  | [] => List.Pairwise.nil
  | x :: r => insI_sorted x _ (sortI_sorted r)
theorem sorted_unique : ∀ {a b : List Int}, a.Perm b → a.Pairwise (· ≤ ·) → b.Pairwise (· ≤ ·) → a = b
  | [], b, p, _, _ => (List.nil_perm.mp p).symm
  | x :: a, [], p, _, _ => absurd p.symm (by simp)
  | x :: a, y :: b, p, ha, hb => by
    have ha' := List.pairwise_cons.mp ha
    have hb' := List.pairwise_cons.mp hb
    have h1 : x ∈ y :: b := p.mem_iff.mp (by simp)
    have h2 : y ∈ x :: a := p.mem_iff.mpr (by simp)
    have e : x = y := by
      rcases List.mem_cons.mp h1 with e | h1
      · exact e
      · rcases List.mem_cons.mp h2 with e | h2
        · exact e.symm
        · have := ha'.1 y h2
          have := hb'.1 x h1
          omega
    subst e
    rw [sorted_unique (List.Perm.cons_inv p) ha'.2 hb'.2]
def gSorted (ps : List PV) (S : Sto) : R PV := match ps with
  | [p] => match (getL p S).bind intsOf with
    | some ns => .ok (.lst ((sortI ns).map PV.int)) S
    | none => .no
  | _ => .no
theorem l_sorted : LAF K (rSortedI K) gSorted := by
  intro Q H μ S vs ps rv t hF
  unfold gSorted at hF
  split at hF
  · split at hF
    · rename_i ns e
      obtain ⟨v, rfl, h1⟩ := rv.one
      obtain ⟨a, rfl, g⟩ := getInts t h1 e
      refine ⟨a, ns, rfl, g, fun ns' p hp hs h0 => ?_⟩
      rw [sorted_unique (hp.trans (sortI_perm ns).symm) hs (sortI_sorted ns)]
      exact FitsF.lay hF (Step.refl _ _) t (RepPs.of_ints _) p h0
    · exact hF.elim
  · exact hF.elim

/-! ### isinstance -/
inductive Ty where
  | non | bool | int | str | tuple | list | dict
  deriving DecidableEq
def Ty.name : Ty → String
  | .non => "NoneType"
  | .bool => "bool"
  | .int => "int"
  | .str => "str"
  | .tuple => "tuple"
  | .list => "list"
  | .dict => "dict"
def tyP (p : PV) (S : Sto) : Option Ty := match p with
  | .non => some .non
  | .bl _ => some .bool
  | .int _ => some .int
  | .str _ => some .str
  | .tup _ => some .tuple
  | .lst _ => some .list
  | .frl _ => some .list
  | .dic _ _ => some .dict
  | .ref n => match S[n]? with
    | some (.lst _) => some .list
    | some (.dic _ _) => some .dict
    | _ => none
def isiB (a T : Ty) : Bool := match a, T with
  | .bool, .int => true
  | a, T => decide (a = T)
theorem kit_isi (a T : Ty) : PySem.W.kitOne K (.type a.name) (.type T.name) = some (isiB a T) := by
  cases a <;> cases T <;> exact kit_ty (by decide +kernel)
theorem TupAt.ty {H μ a xs} (h : TupAt K H μ a xs) : TyX K H (.ref a) (.type "tuple") := by
  rcases h with ⟨r, _⟩ | ⟨o, its, n, e, c, _⟩
  · rcases r with r | ⟨o, r⟩
    · exact .base (.tup r)
    · exact .fTuple r
  · exact .kTuple e c
theorem tyP_of {H μ S v p a} (t : Rel K H μ S) (r : Rep K H μ v p) (e : tyP p S = some a) : TyX K H v (.type a.name) := by
  unfold tyP at e
  split at e
  · cases e; cases rep_non r; exact .base .non
  · cases e; cases rep_bl r; exact .base (.bl _)
  · cases e; cases rep_int r; exact .base (.int _)
  · cases e; cases rep_str r; exact .base (.str _)
  · cases e
    obtain ⟨a, vs, rfl, g, _⟩ := r.tup_inv
    exact g.ty
  · cases e
    obtain ⟨a, vs, rfl, g, _⟩ := r.lst_inv
    exact .base (.lst g)
  · cases e
    rcases r with r | ⟨_, _, e, _⟩
    · cases r with
      | frl h1 h2 =>
        rcases h1 with ⟨⟨o, h1⟩, _⟩ | ⟨o, its, n, e, c, _⟩
        · exact .base (.frz h1)
        · exact .kList e c
    · cases e
  · cases e
    rcases r with r | ⟨_, _, e, _⟩
    · cases r with
      | dic h1 n h2 => exact .base (.dK h1)
    · cases e
  · rcases r with r | ⟨m, a, e1, e2, e3⟩
    · cases r
    cases e1
    subst e3
    split at e
    · rename_i xs eo
      cases e
      obtain ⟨vs, g, _⟩ := t.obj _ _ _ e2 eo
      exact .base (.lst g)
    · rename_i ks xs eo
      cases e
      obtain ⟨vs, g, _⟩ := t.obj _ _ _ e2 eo
      exact .base (.dK g)
    · cases e
def gIsi (T : Ty) (p : PV) (S : Sto) : R PV := match tyP p S with
  | some a => .ok (.bl (isiB a T)) S
  | none => .no
end
theorem ee_isi {X : Cx} {e : Expr} {fe : Ev} {x : Str} (T : Ty) {p p2 pos : Pos} (hg : Gl X "isinstance") (hm : X.mg "isinstance" = none) (he : EE X e fe) (hT : PE X (.Name x p2) (tC (.ty T.name)))
    (hv : bootBuiltins "isinstance" = some (.builtin "isinstance") := by decide +kernel) (h1 : starEach (e :: [.Name x p2]) X.env = (false, eval e X.env) :: starEach [.Name x p2] X.env := by rfl) (h2 : starEach [.Name x p2] X.env = (false, eval (.Name x p2) X.env) :: starEach [] X.env := by rfl) (hpl : (backTo pos (starEach [.Name x p2] X.env)).any (·.1) = false := by rfl) :
    EE X (.Call (.Name "isinstance" p) [e, .Name x p2] [] pos) (eUn (gIsi T) fe) :=
  pe_mono (pe_callB call_isi hg hm hv (pa_cons he (pa_cons hT pa_nil h2) h1) (by decide) (by decide) h1 hpl) fun σ H Q ⟨μ, ρ, S, hE, hR, hF⟩ => ⟨μ, ρ, S, hE, hR, (FitsG.bind hF).imp fun q S1 H1 μ1 s1 t1 h1 v rv => by
    unfold gIsi at h1
    split at h1
    · rename_i a ea
      exact ⟨v, .ty T.name, _, _, _, rfl, .ty _, tyP_of t1 rv ea, kit_isi a T, h1.val t1 (.inl (.bl _))⟩
    · exact h1.elim⟩

/-! ### (*xs, ..) -/
def aStar (a : Ev) (r : Ea) : Ea := fun ρ S => (a ρ S).bind fun x S1 => match getQ x S1 with
  | some xs => (r ρ S1).bind fun ys S2 => .ok (xs ++ ys) S2
  | none => .no
theorem Paired.append {α β : Type} {F : α → β → Prop} : ∀ {a b : List α} {c d : List β}, Paired F a c → Paired F b d → Paired F (a ++ b) (c ++ d)
  | _, _, _, _, .nil, h => h
  | _, _, _, _, .cons r t, h => .cons r (Paired.append t h)
theorem ea_star {X : Cx} {e : Expr} {es : List Expr} {p : Pos} {fe : Ev} {fr : Ea} (he : EE X e fe) (hr : EA X es fr) (hs : starEach (.Starred e p :: es) X.env = (true, eval e X.env) :: starEach es X.env := by rfl) : EA X (.Starred e p :: es) (aStar fe fr) :=
  pa_mono (StX.pa_star he hr hs) fun σ H Q ⟨μ, ρ, S, hE, hR, hF⟩ => ⟨μ, ρ, S, hE, hR, (FitsG.bind hF).imp fun q S1 H1 μ1 s1 t1 h1 v rv => by
    split at h1
    · rename_i xs e
      obtain ⟨a, vs, rfl, g1, g2⟩ := getQ_of t1 rv e
      exact ⟨a, vs, rfl, g1.symm, μ1, ρ, S1, hE.step s1, t1, (FitsG.bind h1).imp fun ys S2 H2 μ2 s2 t2 h2 ws rw' => FitsG.here h2 t2 _ (Paired.append ((g2.step s2).reps) rw')⟩
    · exact h1.elim⟩
end Py
set_option Elab.async false
set_option maxRecDepth 100000
set_option maxHeartbeats 4000000
set_option linter.all false
namespace Py
open PySem PySem.Spec PyProof.Rows L2

def keyP : PV → Option Key
  | .int i => some (.inl i)
  | .str z => some (.inr z)
  | _ => none
def dgetP : List Key → List PV → Key → Option PV
  | k :: ks, v :: vs, j => if k = j then some v else dgetP ks vs j
  | _, _, _ => none
def dsetP : List Key → List PV → Key → PV → List PV
  | k :: ks, v :: vs, j, p => (if k = j then p else v) :: dsetP ks vs j p
  | _, vs, _, _ => vs
def dputP (ks : List Key) (vs : List PV) (k : Key) (p : PV) : PV := if ks.any (fun j => decide (j = k)) = true then .dic ks (dsetP ks vs k p) else .dic (ks ++ [k]) (vs ++ [p])
def getD (p : PV) (S : Sto) : Option (List Key × List PV) := match p with
  | .dic ks vs => some (ks, vs)
  | .ref n => match S[n]? with
    | some (.dic ks vs) => some (ks, vs)
    | _ => none
  | _ => none
section
variable {K : PySem.W.Frag} {H : Hp} {μ : Mem}
theorem getD_of {S : Sto} {v : V} {p : PV} {ks : List Key} {ps : List PV} (t : Rel K H μ S) (r : Rep K H μ v p) (e : getD p S = some (ks, ps)) : ∃ a kvs, v = .ref a ∧ H a = some (.dK kvs) ∧ kvs.map (·.1) = ks ∧ RepPs K H μ (kvs.map (·.2)) ps := by
  unfold getD at e
  split at e
  · cases e
    rcases r with r | ⟨_, _, e, _⟩
    · cases r with
      | dic h1 n h2 => exact ⟨_, _, rfl, h1, rfl, h2⟩
    · cases e
  · split at e
    · rename_i eo
      cases e
      rcases r with r | ⟨m, a, e1, e2, e3⟩
      · cases r
      cases e1
      subst e3
      obtain ⟨kvs, g1, g2, g3⟩ := t.obj _ _ _ e2 eo
      exact ⟨a, kvs, rfl, g1, g2, g3⟩
    · cases e
  · cases e
theorem keyP_of {v : V} {p : PV} {k : Key} (r : Rep K H μ v p) (e : keyP p = some k) : v = kV k := by
  cases p <;> first | (cases e; done) | skip
  · cases e; exact rep_int r
  · cases e; exact rep_str r
theorem dget_of : ∀ {kvs : List (Key × V)} {ps : List PV} (k : Key), RepPs K H μ (kvs.map (·.2)) ps → (valV kvs k = none ∧ dgetP (kvs.map (·.1)) ps k = none) ∨ ∃ v p, valV kvs k = some v ∧ dgetP (kvs.map (·.1)) ps k = some p ∧ RepP K H μ v p
  | [], _, k, h => by cases h; exact .inl ⟨rfl, rfl⟩
  | q :: kvs, ps, k, h => by
    cases h with
    | cons h1 h2 =>
      rename_i p ps
      rw [List.map_cons, dgetP]
      by_cases e : q.1 = k
      · rw [valV_pos e, if_pos e]
        exact .inr ⟨_, _, rfl, rfl, h1⟩
      · rw [valV_neg e, if_neg e]
        exact dget_of k h2
theorem dset_of {v : V} {p : PV} (k : Key) (r : RepP K H μ v p) : ∀ {kvs : List (Key × V)} {ps : List PV}, RepPs K H μ (kvs.map (·.2)) ps → RepPs K H μ ((kvs.map fun kv => if kv.1 = k then (kv.1, v) else kv).map (·.2)) (dsetP (kvs.map (·.1)) ps k p)
  | [], _, h => by cases h; exact .nil
  | q :: kvs, ps, h => by
    cases h with
    | cons h1 h2 =>
      rw [List.map_cons, List.map_cons, List.map_cons, dsetP]
      refine .cons ?_ (dset_of k r h2)
      by_cases e : q.1 = k
      · rw [if_pos e, if_pos e]; exact r
      · rw [if_neg e, if_neg e]; exact h1
theorem dput_of {a : Addr} {kvs : List (Key × V)} {ps : List PV} {v : V} {p : PV} (k : Key) (h : RepPs K H μ (kvs.map (·.2)) ps) (r : RepP K H μ v p) (e : H a = some (.dK (putK kvs k v))) : ObjR K H μ a (dputP (kvs.map (·.1)) ps k p) := by
  have any : (kvs.map (·.1)).any (fun j => decide (j = k)) = kvs.any fun kv => decide (kv.1 = k) := by
    rw [List.any_map]; rfl
  unfold putK at e
  unfold dputP
  rw [any]
  split at e
  · rename_i c
    rw [if_pos c]
    refine ⟨_, e, ?_, dset_of k r h⟩
    rw [List.map_map]
    refine List.map_congr_left fun q _ => ?_
    show (if q.1 = k then (q.1, v) else q).1 = q.1
    split <;> rfl
  · rename_i c
    rw [if_neg c]
    refine ⟨_, e, by simp, ?_⟩
    rw [List.map_append]
    exact h.append (.cons r .nil)
end
def gDGet1 (x y : PV) (S : Sto) : R PV := match getD x S, keyP y with
  | some (ks, vs), some k => .ok ((dgetP ks vs k).getD .non) S
  | _, _ => .no
def gDIx (x y : PV) (S : Sto) : R PV := match getD x S, keyP y with
  | some (ks, vs), some k => match dgetP ks vs k with
    | some p => .ok p S
    | none => .no
  | _, _ => .no
def gDIn (neg : Bool) (y x : PV) (S : Sto) : R PV := match getD x S, keyP y with
  | some (ks, vs), some k => .ok (.bl (if neg then !(dgetP ks vs k).isSome else (dgetP ks vs k).isSome)) S
  | _, _ => .no
def isDic (p : PV) (S : Sto) : Bool := (getD p S).isSome
def eDGet1 (a b : Ev) : Ev := fun ρ S => (a ρ S).bind fun x S1 => if isDic x S1 = true then (b ρ S1).bind fun y S2 => gDGet1 x y S2 else .no
section
variable {X : Cx} {o i e value : Expr} {fo fi fv : Ev} {pos pos' apos cpos : Pos}
theorem ee_dget1 (hu : X.A.units + 1 < cLine) (ho : EE X o fo) (hi : EE X i fi) (m : M1 X o "get" apos i cpos) : EE X (.Call (.Attribute o "get" apos) [i] [] cpos) (eDGet1 fo fi) :=
  pe_mono (pe_dget1 hu ho hi m) fun σ H Q ⟨μ, ρ, S, hE, hR, hF⟩ => ⟨μ, ρ, S, hE, hR, (FitsG.bind hF).imp fun x S1 H1 μ1 s1 t1 h1 v rv => by
    split at h1
    · rename_i hd
      unfold isDic at hd
      cases ed : getD x S1 with
      | none => rw [ed] at hd; cases hd
      | some q =>
        obtain ⟨ks, ps⟩ := q
        obtain ⟨a, kvs, rfl, g1, _, _⟩ := getD_of t1 rv ed
        refine ⟨a, rfl, .inl ⟨kvs, .inl g1⟩, μ1, ρ, S1, hE.step s1, t1, (FitsG.bind h1).imp fun y S2 H2 μ2 s2 t2 h2 w rw' => ?_⟩
        unfold gDGet1 at h2
        split at h2
        · rename_i ks ps k e1 e2
          obtain ⟨b, kvs2, eb, k1, k2, k3⟩ := getD_of t2 (rv.step s2) e1
          cases eb
          rw [keyP_of rw' e2]
          refine ⟨_, .k k1, ?_⟩
          rw [← k2] at h2
          rcases dget_of k k3 with ⟨z1, z2⟩ | ⟨u, p, z1, z2, z3⟩
          · rw [z1]; rw [z2] at h2; exact h2.val t2 (.inl .non)
          · rw [z1]; rw [z2] at h2; exact h2.val t2 (.inl z3)
        · exact h2.elim
    · exact h1.elim⟩
theorem ee_dix (hu : X.A.units + 1 < cLine) (ho : EE X o fo) (hi : EE X i fi) (hs : NoSl i) : EE X (.Subscript o i pos) (eOp gDIx fo fi) :=
  pe_mono (pe_dget hu ho hi hs) fun σ H Q h => two (r := fun x y H2 Q => ∃ a v, x = .ref a ∧ DGet H2 a y (some v) ∧ Q v H2) h fun H2 μ2 S2 v w p q rv rw' t h2 => by
    unfold gDIx at h2
    split at h2
    · rename_i ks ps k e1 e2
      obtain ⟨b, kvs2, rfl, k1, k2, k3⟩ := getD_of t rv e1
      rw [keyP_of rw' e2]
      subst k2
      rcases dget_of k k3 with ⟨z1, z2⟩ | ⟨u, p, z1, z2, z3⟩
      · rw [z2] at h2; exact h2.elim
      · rw [z2] at h2
        exact ⟨b, u, rfl, .inl ⟨kvs2, k, .inl k1, rfl, z1.symm⟩, h2.val t (.inl z3)⟩
    · exact h2.elim
theorem din {K : PySem.W.Frag} {H : Hp} {μ : Mem} {S : Sto} {v w : V} {p q : PV} {Q : VK} {neg : Bool} (rw' : Rep K H μ w q) (rv : Rep K H μ v p) (t : Rel K H μ S) (h : FitsG K H μ (gDIn neg q p S) (VKont K Q)) : ∃ a o, v = V.ref a ∧ DGet H a w o ∧ Q (.bl (if neg then !o.isSome else o.isSome)) H := by
  unfold gDIn at h
  split at h
  · rename_i ks ps k e1 e2
    obtain ⟨b, kvs2, rfl, k1, k2, k3⟩ := getD_of t rv e1
    rw [keyP_of rw' e2]
    subst k2
    refine ⟨b, _, rfl, .k k1, ?_⟩
    rcases dget_of k k3 with ⟨z1, z2⟩ | ⟨u, p, z1, z2, z3⟩
    · rw [z1]; rw [z2] at h; exact h.val t (.inl (.bl _))
    · rw [z1]; rw [z2] at h; exact h.val t (.inl (.bl _))
  · exact h.elim
theorem ec_din (hu : X.A.units + 1 < cLine) (hi : EE X i fi) (ho : EE X o fo) : PC X .In i o (tEv X.K (eOp (gDIn false) fi fo)) :=
  ⟨fun pins s σ H Q I h => (pc_din hu hi ho).run pins s σ H Q I (two (r := fun y x H2 Q => ∃ a o, x = V.ref a ∧ DGet H2 a y o ∧ Q (.bl o.isSome) H2) h fun H2 μ2 S2 v w p q rv rw' t h2 => din rv rw' t h2)⟩
theorem ec_dnin (hu : X.A.units + 1 < cLine) (hi : EE X i fi) (ho : EE X o fo) : PC X .NotIn i o (tEv X.K (eOp (gDIn true) fi fo)) :=
  ⟨fun pins s σ H Q I h => (pc_dnotin hu hi ho).run pins s σ H Q I (two (r := fun y x H2 Q => ∃ a o, x = V.ref a ∧ DGet H2 a y o ∧ Q (.bl (!o.isSome)) H2) h fun H2 μ2 S2 v w p q rv rw' t h2 => din rv rw' t h2)⟩
theorem ee_pc {op : CmpOp} {f : Ev} (h : PC X op i o (tEv X.K f)) (h1 : behindInMarks op o = false) : EE X (.Compare i [op] [o] pos) f := pe_cmp h h1
theorem et_pc {op : CmpOp} {f : Ev} (h : PC X op i o (tEv X.K f)) (h1 : behindInMarks op o = false) : ET X (.Compare i [op] [o] pos) (tV f) := pt_mono (pt_cmp h h1) fun σ H Q h => tv_tB h
/-- d[k] = v -/
def gDPut (x y v : PV) (S : Sto) : R PV := match x, keyP y with
  | .ref n, some k => match S[n]? with
    | some (.dic ks vs) => if v.isRef = false ∧ ks.length < sizeLine then .ok .non (S.set n (dputP ks vs k v)) else .no
    | _ => .no
  | _, _ => .no
def sDPutE (o i v : Ev) : Es := fun ρ S => (v ρ S).bind fun z S1 => (o ρ S1).bind fun x S2 => (i ρ S2).bind fun y S3 => (gDPut x y z S3).bind fun _ S4 => .ok (.nx ρ) S4
theorem es_dput (hu : X.A.units + 1 < cLine) (ho : EE X o fo) (hi : EE X i fi) (hv : EE X value fv) (hs : swapsWith value (some (.Subscript o i pos')) pos.line X.env = pure false) : ES X (.Assign [.Subscript o i pos'] value pos) (sDPutE fo fi fv) :=
  ps_mono (ps_dput hu ho hi hv hs) fun D σ H ⟨μ, ρ, S, hE, hR, hF⟩ => ⟨μ, ρ, S, hE, hR, (FitsG.bind hF).imp fun z S1 H1 μ1 s1 t1 h1 vz rz =>
    ⟨μ1, ρ, S1, hE.step s1, t1, (FitsG.bind h1).imp fun x S2 H2 μ2 s2 t2 h2 vx rx =>
      ⟨μ2, ρ, S2, (hE.step s1).step s2, t2, (FitsG.bind h2).imp fun y S3 H3 μ3 s3 t3 h3 vy ry => by
        have h3 := FitsG.bind h3
        unfold gDPut at h3
        split at h3
        · rename_i n k ek _
          have ek := keyP_of ry ek
          split at h3
          · rename_i ks ps eo
            split at h3
            · rename_i hc
              have rx := rx.step s3
              rcases rx with rx | ⟨m, a, e1, e2, e3⟩
              · cases rx
              cases e1
              subst e3
              obtain ⟨kvs, g1, g2, g3⟩ := t3.obj _ _ _ e2 eo
              subst g2
              subst ek
              have rp := ((rz.step s2).step s3).pure hc.1
              have s4 := Step.write H3 μ3 (List.mem_of_getElem? e2) (.dK (putK kvs k vz))
              have t4 := t3.write e2 (o := .dK (putK kvs k vz)) (dput_of k (g3.step s4) (rp.step s4) upd_same)
              refine ⟨a, _, rfl, .k g1 (by have := hc.2; simpa using this), ?_⟩
              exact FitsG.here (h3 _ _ s4 t4) t4 σ ((((hE.step s1).step s2).step s3).step s4)
            · exact h3.elim
          · exact h3.elim
        · exact h3.elim⟩⟩⟩
theorem ef_dnew : EF X (.Dict [] [] pos) (fun _ S => .ok (.dic [] []) S) := pe_mono pe_dnewK fun σ H Q ⟨μ, ρ, S, hE, hR, hF⟩ p hp => by
  have l := Step.laid H μ hp (.dK [])
  refine hF (upd H p (.dK [])) μ p hp (fun q => hR.res p q hp) l ⟨by simp [Mem.grow, hR.len], ?_, fun n a ob e1 e2 => ?_, fun a q z => hR.res a q (l.dom a z)⟩
  · exact List.nodup_append.mpr ⟨hR.nd, by simp, fun a ha b hb => by
      rw [List.mem_singleton.mp hb]; intro z; rw [z] at ha; exact Mem.nst (hR.out hp) ha⟩
  · have s : Step H μ (upd H p (.dK [])) (μ.grow [p]) := ⟨l.ext, l.dom, [p], rfl, fun a q => by rw [List.mem_singleton.mp q]; exact hp⟩
    have e1 : (μ.st ++ [p])[n]? = some a := e1
    by_cases hn : n < μ.st.length
    · rw [List.getElem?_append_left hn] at e1
      rw [List.getElem?_append_left (by rw [← hR.len]; exact hn)] at e2
      exact (hR.obj n a ob e1 e2).step s (upd_ne fun z => Mem.nst (hR.out hp) (by rw [← z]; exact List.mem_of_getElem? e1))
    · have e : n = μ.st.length := by
        have := (List.getElem?_eq_some_iff.mp e1).1
        simp at this; omega
      subst e
      rw [List.getElem?_append_right (Nat.le_refl _)] at e1
      rw [List.getElem?_append_right (by rw [hR.len]; exact Nat.le_refl _)] at e2
      simp [hR.len] at e1 e2
      subst e1 e2
      exact ⟨[], upd_same, rfl, .nil⟩
end
end Py
set_option Elab.async false
set_option maxRecDepth 100000
set_option maxHeartbeats 4000000
set_option linter.all false
namespace Py
open PySem PySem.Spec PyProof.Rows L2

section
variable {X : Cx} {a b c : Expr} {fa fb fc : Ev} {pos : Pos}
theorem ee_notT (ha : EE X a fa) : EE X (.UnaryOp .Not a pos) (eNotT fa) :=
  pe_mono (pe_notT ha) fun σ H Q ⟨μ, ρ, S, hE, hR, hF⟩ => ⟨μ, ρ, S, hE, hR, (FitsG.bind hF).imp fun p S1 H1 μ1 s1 t1 h1 v rv => by
    obtain ⟨k, h2, h3, h4⟩ := truP_of t1 rv (FitsG.bind h1)
    exact ⟨k, h2, FitsG.val h3 t1 (.inl (.bl _))⟩⟩
theorem et_chain {op op' : CmpOp} {r r' : R2} {g g' : PV → PV → Sto → R PV} (ho : OpR X (compareOp op) r) (hr : L2R X.K r g) (ho' : OpR X (compareOp op') r') (hr' : L2R X.K r' g') (ha : EE X a fa) (hb : EE X b fb) (hc : EE X c fc)
    (hm : lastMarks [op, op'] [b, c] = false := by with_unfolding_all rfl) : ET X (.Compare a [op, op'] [b, c] pos) (tV (eChain g g' fa fb fc)) :=
  pt_mono (pt_chain ho ho' ha hb hc hm) fun σ H Q h => by
    obtain ⟨μ, ρ, S, hE, hR, hF⟩ := tv_tB h
    refine ⟨μ, ρ, S, hE, hR, (FitsG.bind hF).imp fun p S1 H1 μ1 s1 t1 h1 v rv => ?_⟩
    refine ⟨μ1, ρ, S1, hE.step s1, t1, (FitsG.bind h1).imp fun q S2 H2 μ2 s2 t2 h2 w rw' => ?_⟩
    refine hr _ H2 μ2 S2 v w p q (rv.step s2) rw' t2 ((FitsG.bind h2).imp fun z S3 H3 μ3 s3 t3 h3 u ru => ?_)
    obtain ⟨k, rfl, h4⟩ := toB_of (FitsG.bind h3)
    have h5 := FitsG.here h4 t3
    refine ⟨k, rep_bl ru, ?_⟩
    cases k with
    | true => exact iteT ⟨μ3, ρ, S3, ((hE.step s1).step s2).step s3, t3, (FitsG.bind h5).imp fun y S4 H4 μ4 s4 t4 h6 w' rw2 => hr' _ H4 μ4 S4 w w' q y ((rw'.step s3).step s4) rw2 t4 h6⟩
    | false => exact iteF (FitsG.val (p := .bl false) (v := .bl false) h5 t3 (.inl (.bl _)))
end

/-! ### constants of the module -/
def HasInt (mg : Str → Option Value) (x : Str) (i : Int) : Prop := ∃ t, mg x = some (.int i t)
def HasStr (mg : Str → Option Value) (x : Str) (z : Str) : Prop := ∃ t, mg x = some (.str z t)
inductive KRep (K : PySem.W.Frag) : V → PV → Prop
  | int (i : Int) : KRep K (.int i) (.int i)
  | str (x : Str) : KRep K (.str x) (.str x)
inductive KReps (K : PySem.W.Frag) : List V → List PV → Prop
  | nil : KReps K [] []
  | cons {v p vs ps} : KRep K v p → KReps K vs ps → KReps K (v :: vs) (p :: ps)
theorem KReps.reps {K : PySem.W.Frag} {vs : List V} {ps : List PV} (h : KReps K vs ps) (H : Hp) (μ : Mem) : RepPs K H μ vs ps := by
  induction h with
  | nil => exact .nil
  | cons h _ ih =>
    refine .cons ?_ ih
    cases h with
    | int i => exact .int i
    | str x => exact .str x
def HasTup (K : PySem.W.Frag) (mg : Str → Option Value) (x : Str) (ps : List PV) : Prop := ∃ a vs, mg x = some (.ref a) ∧ KT K a vs ∧ KReps K vs ps
section
variable {X : Cx} {x : Str} {pos : Pos}
theorem ee_gint {i : Int} (h : HasInt X.mg x i) (hg : Gl X x) (hd : (x == ("__debug__" : Str)) = false := by decide) : EE X (.Name x pos) (eC (.int i)) := by
  obtain ⟨t, h⟩ := h
  exact ee_c (v := .int i) (pe_glob hg h ⟨t, rfl⟩ hd) (fun _ => .int i) fun _ _ => .int i
theorem ee_gstr {z : Str} (h : HasStr X.mg x z) (hg : Gl X x) (hd : (x == ("__debug__" : Str)) = false := by decide) : EE X (.Name x pos) (eC (.str z)) := by
  obtain ⟨t, h⟩ := h
  exact ee_c (v := .str z) (pe_glob hg h ⟨t, rfl⟩ hd) (fun _ => .str z) fun _ _ => .str z
theorem ee_gtup {ps : List PV} (h : HasTup X.K X.mg x ps) (hg : Gl X x) (hd : (x == ("__debug__" : Str)) = false := by decide) : EE X (.Name x pos) (eC (.tup ps)) := by
  obtain ⟨a, vs, h, k, r⟩ := h
  exact ee_c (v := .ref a) (pe_glob hg h rfl hd) (fun H => .tup (.inr k) (r.reps H _)) fun H μ => .tup (.inr k) (r.reps H μ)
end

/-! ### a def that may be called -/
/-- all parameters by their names, in order -/
def KB0 (K : PySem.W.Frag) (fd : FuncData) (pn : List Str) : Prop := ∀ (s : Shared) (ws : List Value), K.In s.heap → ws.length = pn.length → BindsTo s fd ⟨[], pn.zip ws⟩ (pn.zip ws)
structure Cal (P : Program) (w : World) (K : PySem.W.Frag) (mg : Str → Option Value) (base : Heap) (k : Nat) (x : Str) (pn : List Str) (sp : Sp) : Prop where
  ex : ∃ f fd, mg x = some (.ref f) ∧ PySem.W.keepIn K (.ref f) = true ∧ Binds K fd pn [] ∧ KB0 K fd pn ∧ FnOk P w K mg base CX0 k f fd pn sp
section
variable {X : Cx} {k j : Nat} {pn : List Str} {m : Fn} {x : Str} {p pos : Pos} {e : Expr} {es : List Expr} {fa : Ea}
theorem ee_callC (C : Cal X.prog X.w X.K X.mg X.base k x pn (spM X.K m)) (hr : Room j X.A) (hk : k ≤ j) (hg : Gl X x) (ha : EA X (e :: es) fa) (hdb : (x == ("__debug__" : Str)) = false := by decide)
    (he : starEach (e :: es) X.env = (false, eval e X.env) :: starEach es X.env := by rfl) (hpl : (backTo pos (starEach es X.env)).any (·.1) = false := by rfl) : EE X (.Call (.Name x p) (e :: es) [] pos) (eArgs m fa) := by
  obtain ⟨f, fd, h1, h2, h3, _, F⟩ := C.ex
  exact ee_call F (hr.mono hk) hg h1 h2 h3 ha hdb he hpl
theorem ef_callC (C : Cal X.prog X.w X.K X.mg X.base k x pn (spN X.K m)) (hr : Room j X.A) (hk : k ≤ j) (hg : Gl X x) (ha : EA X (e :: es) fa) (hdb : (x == ("__debug__" : Str)) = false := by decide)
    (he : starEach (e :: es) X.env = (false, eval e X.env) :: starEach es X.env := by rfl) (hpl : (backTo pos (starEach es X.env)).any (·.1) = false := by rfl) : EF X (.Call (.Name x p) (e :: es) [] pos) (eArgs m fa) := by
  obtain ⟨f, fd, h1, h2, h3, _, F⟩ := C.ex
  exact ef_call F (hr.mono hk) hg h1 h2 h3 ha hdb he hpl
def eCall0 (m : Fn) : Ev := fun _ S => m [] S
theorem ef_callC0 (C : Cal X.prog X.w X.K X.mg X.base k x pn (spN X.K m)) (hr : Room j X.A) (hk : k ≤ j) (hg : Gl X x) (hdb : (x == ("__debug__" : Str)) = false := by decide) : EF X (.Call (.Name x p) [] [] pos) (eCall0 m) := by
  obtain ⟨f, fd, h1, h2, h3, _, F⟩ := C.ex
  exact ef_call0 F (hr.mono hk) hg h1 h2 h3 hdb
/-- keywords alone, in the parameters' order -/
def EK (X : Cx) (kws : List Keyword) (f : Ea) : Prop := PK X kws (tEa X.K f)
theorem pk_mono {kws : List Keyword} {t t' : TA} (h : PK X kws t) (f : ∀ σ H Q, t' σ H Q → t σ H Q) : PK X kws t' := ⟨fun pos pins s σ H Q I q => h.run pos pins s σ H Q I (f σ H Q q)⟩
theorem ek_nil : EK X [] aNil := pk_mono pk_nil fun σ H Q ⟨μ, ρ, S, hE, hR, hF⟩ => FitsG.here hF hR [] .nil
theorem ek_cons {nm : Option Str} {kpos : Pos} {kws : List Keyword} {f1 : Ev} {fr : Ea} (ha : EE X e f1) (hr : EK X kws fr) : EK X (⟨nm, e, kpos⟩ :: kws) (aCons f1 fr) :=
  pk_mono (pk_cons ha hr) fun σ H Q ⟨μ, ρ, S, hE, hR, hF⟩ => ⟨μ, ρ, S, hE, hR, (FitsG.bind hF).imp fun p S1 H1 μ1 s1 t1 h1 v rv =>
    ⟨μ1, ρ, S1, hE.step s1, t1, (FitsG.bind h1).imp fun qs S2 H2 μ2 s2 t2 h2 ws rw' => FitsG.here h2 t2 (v :: ws) (.cons (rv.step s2) rw')⟩⟩
theorem pe_callK0 {f : Addr} {fd : FuncData} {ps : List Str} {sp : Sp} {kws : List Keyword} {tk : TA}
    (F : FnOk X.prog X.w X.K X.mg X.base CX0 k f fd ps sp) (hr : Room k X.A) (hg : Gl X x) (hm : X.mg x = some (.ref f)) (hk : PySem.W.keepIn X.K (.ref f) = true) (hb : KB0 X.K fd ps)
    (hkw : PK X kws tk) (hall : (backToKw pos (keywordEach kws X.env)).all (·.1.isSome) = true := by rfl) (hks : (backToKw pos (keywordEach kws X.env)).filterMap (·.1) = ps := by rfl) (hdb : (x == ("__debug__" : Str)) = false := by decide)
    (hpl : ((backTo pos (starEach [] X.env)).any (·.1) || (backToKw pos (keywordEach kws X.env)).any (·.1.isNone)) = false := by rfl) :
    PE X (.Call (.Name x p) [] kws pos) (fun σ H Q => tk σ H fun zs H2 => sp zs H2 Q E0) := by
  refine ⟨fun pins s σ H Q I h => ?_⟩
  refine wpAny_Call_Name_kw (ld_glob I hg hm ?_ hdb)
  refine PySem.W.callWith_KW0 (h₀ := X.base) I.ok.mod.kin hk hall (thn (hkw.run pos pins s σ H _ I h) fun ws s2 ⟨zs, H2, I2, rz, q2⟩ => ⟨I2.kIn, ?_⟩) hpl
  rw [hks]
  have hl : ws.length = ps.length := by rw [← rz.length]; exact F.len _ _ _ _ q2
  refine wpAny_call (codeAny_mono (F.run X.A X.stack s2 H2 ⟨[], ps.zip ws⟩ ws zs Q E0 hr I2.env0 (hb s2 ws I2.kIn hl) rz q2) fun r s' hq => ?_)
  cases r with
  | error e => exact hq.elim
  | ok fl =>
    cases fl with
    | ret u => exact I2.after hq
    | next => exact hq.elim
    | brk => exact hq.elim
    | cont => exact hq.elim
theorem ee_callKC {kws : List Keyword} (C : Cal X.prog X.w X.K X.mg X.base k x pn (spM X.K m)) (hr : Room j X.A) (hk : k ≤ j) (hg : Gl X x) (ha : EK X kws fa) (hks : (backToKw pos (keywordEach kws X.env)).filterMap (·.1) = pn := by rfl) (hall : (backToKw pos (keywordEach kws X.env)).all (·.1.isSome) = true := by rfl)
    (hdb : (x == ("__debug__" : Str)) = false := by decide) (hpl : ((backTo pos (starEach [] X.env)).any (·.1) || (backToKw pos (keywordEach kws X.env)).any (·.1.isNone)) = false := by rfl) : EE X (.Call (.Name x p) [] kws pos) (eArgs m fa) := by
  obtain ⟨f, fd, h1, h2, _, h3, F⟩ := C.ex
  refine pe_mono (pe_callK0 F (hr.mono hk) hg h1 h2 h3 ha hall hks hdb hpl) fun σ H Q h => args (r := fun vs H1 Q => spM X.K m vs H1 Q E0) h fun H2 μ2 S2 vs ps rv t hF => ?_
  refine ⟨μ2, ps, S2, rv, t, ?_⟩
  revert hF
  cases m ps S2 with
  | ok q S3 => exact fun hF H' st t' v r => hF H' μ2 st t' v r
  | er => exact fun z => z
  | no => exact fun z => z
end
section
variable {P : Program} {w : World} {K : PySem.W.Frag} {mg : Str → Option Value} {base : Heap} {x qual : Str} {params : Arguments} {body : List Stmt} {scope : Scope} {f : Addr} {fd : FuncData} {N pn : List Str} {k : Nat} {g : Es} {sp : Sp}
theorem cal_of (hm : mg x = some (.ref f)) (F : FunD K x qual params body scope [] [] f fd)
    (h : ∀ (kV doc pm : Value) (an : Option Addr) (cdv ct : Value) (us : List Value), us.length = pn.length → bindArgs (PySem.W.fnOf x qual params body scope .none kV doc pm an cdv ct) ⟨us, []⟩ = pure (pn.zip us))
    (hk : ∀ (kV doc pm : Value) (an : Option Addr) (cdv ct : Value) (us : List Value), us.length = pn.length → bindArgs (PySem.W.fnOf x qual params body scope .none kV doc pm an cdv ct) ⟨[], pn.zip us⟩ = pure (pn.zip us))
    (G : FnOk P w K mg base CX0 k f fd pn sp) : Cal P w K mg base k x pn sp := by
  refine ⟨f, fd, hm, F.kp, F.bindsN h, fun s ws hK hl => ?_, G⟩
  obtain ⟨oc, od, dV, kV, doc, pm, an, cdv, ct, osl, rfl, lk, hcd, hD, hK⟩ := F.ex
  rcases hD with ⟨_, rfl⟩ | ⟨e, _⟩
  · exact .of_eq (hk kV doc pm an cdv ct ws hl)
  · exact absurd rfl e
theorem fn_zero (hpn : True) : FnOk P w K mg base CX0 k f fd pn (spM K (fun _ _ => .no)) := ⟨fun vs H Q E ⟨μ, ps, S, rv, t, hF⟩ => hF.elim, fun A outer s H args us vs Q E _ _ _ _ ⟨μ, ps, S, rv, t, hF⟩ => hF.elim⟩
end
end Py
set_option Elab.async false
set_option maxRecDepth 100000
set_option maxHeartbeats 4000000
set_option linter.all false
namespace Py
open PySem PySem.Spec PyProof.Rows L2

theorem hu64 {A : Around} {k : Nat} (hr : Room k A) : A.units + 64 < cLine := hr.units
/-- turns of a while, more than any -/
def fuel : Nat := 10 ^ 9
theorem aLen1 {a : Ev} {ρ : Env} {S : Sto} {ps S' : List PV} (h : aCons a aNil ρ S = .ok ps S') : ps.length = 1 := by
  unfold aCons at h
  cases e : a ρ S with
  | ok x S1 => rw [e] at h; cases h; rfl
  | er => rw [e] at h; cases h
  | no => rw [e] at h; cases h
theorem aLen2 {a b : Ev} {ρ : Env} {S : Sto} {ps S' : List PV} (h : aCons a (aCons b aNil) ρ S = .ok ps S') : ps.length = 2 := by
  unfold aCons at h
  cases e : a ρ S with
  | ok x S1 =>
    rw [e] at h
    have h : ((aCons b aNil ρ S1).bind fun xs S2 => .ok (x :: xs) S2) = R.ok ps S' := h
    cases e2 : aCons b aNil ρ S1 with
    | ok ys S2 =>
      rw [e2] at h
      cases h
      simp [aLen1 e2]
    | er => rw [e2] at h; cases h
    | no => rw [e2] at h; cases h
  | er => rw [e] at h; cases h
  | no => rw [e] at h; cases h
theorem fn_zero0 {P : Program} {w : World} {K : PySem.W.Frag} {mg : Str → Option Value} {base : Heap} {k : Nat} {f : Addr} {fd : FuncData} {pn : List Str} : FnOk P w K mg base CX0 k f fd pn (spN K (fun _ _ => .no)) :=
  ⟨fun vs H Q E ⟨μ, ps, S, rv, t, hF⟩ => hF.elim, fun A outer s H args us vs Q E _ _ _ _ ⟨μ, ps, S, rv, t, hF⟩ => hF.elim⟩

/-! ### sum of a tuple -/
section
variable {prog : Program} {w : World} {A : Around} {E : Value → Shared → Prop} {s : Shared}
theorem sum_tupG {t : Addr} {xs : Array (Int × Tok)} {Q : Value → Shared → Prop} (hh : A.handled = none) (ht : s.heap.IsTuple t (intItems xs))
    (h : ∀ h' tk t', (∀ b o, s.heap.get? b = some o → h'.get? b = some o) → Q (.int (preSum (numAt xs) xs.size) t') { s with heap := h', toks := tk }) :
    wpAny (model prog w) A (call (.builtin "sum") [.ref t]) Q E s := by
  have lt : t < s.heap.objs.size := by
    obtain ⟨_, e, _⟩ := ht
    exact Heap.lt_size e
  refine call_sum_walkG (wpAny_pyIter_tuple ht ?_)
  have st : (s.heap.push { cls := .type "tuple_iterator", data := .fields #[.ref t, .int 0 0] }).IsTupleIter s.heap.objs.size t 0 := ⟨_, Heap.get?_push_size _ rfl, rfl, rfl⟩
  have tp : (s.heap.push { cls := .type "tuple_iterator", data := .fields #[.ref t, .int 0 0] }).IsTuple t (intItems xs) := ht.push _
  refine ⟨_, _, _, _, _, _, numAt xs, rfl, Walks.tuple (A := A.in1) hh _ t (Nat.ne_of_lt lt) (intItems xs), ⟨st, tp⟩, fun b hb => ?_, fun _ _ => intItems_at, fun h' tk t' hk => ?_⟩
  · show b < (s.heap.push _).objs.size
    rw [Heap.size_push]
    rcases (show b = s.heap.objs.size ∨ b = t by simpa using hb) with z | z
    · rw [z]; exact Nat.lt_succ_self _
    · rw [z]; exact Nat.lt_succ_of_lt lt
  · have := h h' tk t' fun b o e => hk b o (fun hm => absurd (by rw [List.mem_singleton.mp hm] at e; exact Heap.lt_size e) (Nat.lt_irrefl _)) (Heap.get?_push_of_some _ e)
    simpa [intItems] using this
end
def rSumT (K : PySem.W.Frag) : List V → Hp → VK → Prop := fun vs H Q => ∃ (a : Addr) (ns : List Int), vs = [V.ref a] ∧ SqT K H a (ns.map V.int) ∧ Q (.int ns.sum) H
theorem call_sumT {X : Cx} (hc : X.calm = true) : CallR X (.builtin "sum") (rSumT X.K) := by
  intro pins s σ H xs us Q I r q
  obtain ⟨a, ns, ex, hq, q⟩ := q
  subst ex
  cases r with
  | cons r rr =>
    cases rr
    cases r
    obtain ⟨its, rv, pt, _⟩ := I.tuple hq
    have hi : IntsAre its ns := RZ.intsAre_vals rv
    obtain ⟨ys, ey⟩ := hi.allInts.items
    have hn : numsOf (intItems ys).toList = ns := by rw [← ey]; exact hi.numsOf
    rw [nums_intItems] at hn
    have hT : s.heap.IsTuple a (intItems ys) := by rw [← ey]; exact pt
    refine sum_tupG (I.ok.hd hc) hT fun h' tk t' hk => ?_
    rw [preSum_eq, List.take_of_length_le (by simp), hn]
    exact ⟨.int ns.sum, H, I.kept hk, ⟨_, rfl⟩, q⟩
theorem call_sumA {X : Cx} (hc : X.calm = true) : CallR X (.builtin "sum") (fun vs H Q => rSum X.K vs H Q ∨ rSumT X.K vs H Q) := CallR.or (cr_sum hc) (call_sumT hc)
def gSumA (ps : List PV) (S : Sto) : R PV := match ps with
  | [p] => match (getQ p S).bind intsOf with
    | some ns => .ok (.int ns.sum) S
    | none => .no
  | _ => .no
theorem l_sumA {K : PySem.W.Frag} : LAR K (fun vs H Q => rSum K vs H Q ∨ rSumT K vs H Q) gSumA := by
  intro Q H μ S vs ps rv t hF
  unfold gSumA at hF
  split at hF
  · split at hF
    · rename_i ns e
      obtain ⟨v, rfl, h1⟩ := rv.one
      cases e1 : getQ _ S with
      | none => rw [e1] at e; cases e
      | some xs =>
        rw [e1] at e
        obtain ⟨a, vs, rfl, g1, g2⟩ := getQ_of t h1 e1
        rw [intsOf_eq e] at g2
        rw [g2.ints] at g1
        rcases g1 with g1 | g1
        · exact .inl ⟨a, ns, rfl, g1, hF.val t (.inl (.int _))⟩
        · exact .inr ⟨a, ns, rfl, g1, hF.val t (.inl (.int _))⟩
    · exact hF.elim
  · exact hF.elim

/-! ### len(set(t)), t a tuple of whole numbers -/
def ddI : List Int → List Int
  | [] => []
  | x :: r => if x ∈ r then ddI r else x :: ddI r
theorem ddI_mem {k : Int} : ∀ {r : List Int}, k ∈ ddI r ↔ k ∈ r
  | [] => Iff.rfl
  | x :: r => by
    rw [ddI]
    split
    · rename_i h
      rw [ddI_mem, List.mem_cons]
      exact ⟨.inr, fun q => q.elim (fun e => by rw [e]; exact h) fun q => q⟩
    · rw [List.mem_cons, List.mem_cons, ddI_mem]
theorem ddI_nd : ∀ r : List Int, (ddI r).Nodup
  | [] => List.nodup_nil
  | x :: r => by
    rw [ddI]
    split
    · exact ddI_nd r
    · rename_i h
      exact List.nodup_cons.mpr ⟨fun q => h (ddI_mem.mp q), ddI_nd r⟩
theorem ddI_of : ∀ {r : List Int}, r.Nodup → ddI r = r
  | [], _ => rfl
  | x :: r, h => by
    have h' := List.nodup_cons.mp h
    rw [ddI, if_neg h'.1, ddI_of h'.2]
def tLenSetT (K : PySem.W.Frag) (ta : TE) : TE := fun σ H Q => ta σ H fun x H1 => ∃ (l : Addr) (ns : List Int), x = .ref l ∧ SqT K H1 l (ns.map V.int) ∧ ns.length < 64 ∧ Q (.int (((ddI ns).length : Nat) : Int)) H1
theorem pe_lenSetT {X : Cx} {a : Expr} {ta : TE} {p p2 q pos : Pos} (hg : Gl X "len") (hm : X.mg "len" = none) (hg2 : Gl X "set") (hm2 : X.mg "set" = none) (ha : PE X a ta) (hc : X.calm = true := by rfl)
    (na : starEach [a] X.env = (false, eval a X.env) :: starEach [] X.env := by rfl) : PE X (.Call (.Name "len" p) [.Call (.Name "set" p2) [a] [] q] [] pos) (tLenSetT X.K ta) := by
  refine ⟨fun pins s σ H Q I h => Call_ (ld_blt I hg hm boot_len (PyProof.Rows.callWith_builtin1 (PyProof.Rows.args_cons (Call_ (ld_blt I hg2 hm2 PyProof.Rows.boot_set (PyProof.Rows.callWith_type1 (PyProof.Rows.args_cons (thn (ha.run pins s σ H _ I h) fun v s1 ⟨x, H1, I1, r1, q1⟩ => PyProof.Rows.args_nil ?_) na) na rfl))) rfl) rfl rfl))⟩
  obtain ⟨l, ns, ex, hq, h64, q1⟩ := q1
  subst ex
  cases r1
  obtain ⟨its, rv, pt, _⟩ := I1.tuple hq
  have hT : s1.heap.IsTuple l its.toArray := pt
  refine call_set_tupI (P := X.prog) (w := X.w) ns (I1.ok.hd hc) hT (by simpa using RZ.intsAre_vals rv) (by unfold scanBound; omega) fun h' tk c hS hcn hk => PyProof.Rows.args_nil ?_
  obtain ⟨o, es, ep, t, ho, hex, hd, _, nd, mem, _, hf, hn, _⟩ := hS
  have ec : c = (ddI ns).length := by
    rw [← hn]
    have hp : (es.toList.map keyOf).Perm (ddI ns) := (List.perm_ext_iff_of_nodup nd (ddI_nd ns)).mpr fun k => by
      rw [ddI_mem, ← mem k, decide_eq_true_iff]
    have := hp.length_eq
    simpa using this
  have I2 : Inv X pins σ H1 { s1 with heap := h', toks := tk } := I1.kept hk
  exact call_len_set ho hex hd hf (by rw [hn]; omega) ⟨.int ((ddI ns).length : Nat), H1, I2.tok _, ⟨_, by rw [hn, ec]⟩, q1⟩
def gLenSet (p : PV) (S : Sto) : R PV := match p with
  | .tup xs => match intsOf xs with
    | some ns => if ns.length < 64 then .ok (.int (((ddI ns).length : Nat) : Int)) S else .no
    | none => .no
  | _ => .no
theorem ee_lenSet {X : Cx} {a : Expr} {fa : Ev} {p p2 q pos : Pos} (hg : Gl X "len") (hg2 : Gl X "set") (hm : X.mg "len" = none) (hm2 : X.mg "set" = none) (ha : EE X a fa) (hc : X.calm = true := by rfl)
    (na : starEach [a] X.env = (false, eval a X.env) :: starEach [] X.env := by rfl) : EE X (.Call (.Name "len" p) [.Call (.Name "set" p2) [a] [] q] [] pos) (eUn gLenSet fa) :=
  pe_mono (pe_lenSetT hg hm hg2 hm2 ha hc na) fun σ H Q ⟨μ, ρ, S, hE, hR, hF⟩ => ⟨μ, ρ, S, hE, hR, (FitsG.bind hF).imp fun x S1 H1 μ1 s1 t1 h1 v rv => by
    unfold gLenSet at h1
    split at h1
    · split at h1
      · rename_i ns e
        split at h1
        · rename_i hc
          obtain ⟨b, ws, rfl, g1, g2⟩ := rv.tup_inv
          rw [intsOf_eq e] at g2
          rw [g2.ints] at g1
          exact ⟨b, ns, rfl, g1.sq, hc, h1.val t1 (.inl (.int _))⟩
        · exact h1.elim
      · exact h1.elim
    · exact h1.elim⟩

/-! ### list(range(n)) -/
def gLstRg (p : PV) (S : Sto) : R PV := match p with
  | .int n => if -(2 ^ 62) ≤ n ∧ n ≤ 16777216 then .ok (.lst (intsFrom 0 n.toNat)) S else .no
  | _ => .no
theorem rg_reps {K : PySem.W.Frag} {H : Hp} {μ : Mem} (n : Int) : RepPs K H μ (rgV 0 n) (intsFrom 0 n.toNat) := by
  have h : ∀ l : List Nat, RepPs K H μ (l.map fun i => V.int (0 + (i : Nat))) (l.map fun i => PV.int (0 + (i : Nat))) := fun l => by
    induction l with
    | nil => exact .nil
    | cons x l ih => exact .cons (.int _) ih
  unfold rgV intsFrom
  rw [Int.sub_zero]
  exact h _
theorem ef_listRg {X : Cx} {e : Expr} {fe : Ev} {p p2 pos pos2 : Pos} (hc : X.calm = true) (hg : Gl X "list") (hm : X.mg "list" = none) (hg2 : Gl X "range") (hm2 : X.mg "range" = none) (he : EE X e fe) (na : starEach [e] X.env = (false, eval e X.env) :: starEach [] X.env := by rfl)
    (na2 : starEach [.Call (.Name "range" p2) [e] [] pos2] X.env = (false, eval (.Call (.Name "range" p2) [e] [] pos2) X.env) :: starEach [] X.env := by rfl) : EF X (.Call (.Name "list" p) [.Call (.Name "range" p2) [e] [] pos2] [] pos) (eUn gLstRg fe) :=
  pe_mono (pe_listRg hc hg hm (prg_1 hg2 hm2 he na) na2) fun σ H Q ⟨μ, ρ, S, hE, hR, hF⟩ => ⟨μ, ρ, S, hE, hR, (FitsF.bind hF).imp fun q S1 H1 μ1 s1 t1 h1 v rv => by
    unfold gLstRg at h1
    split at h1
    · split at h1
      · rename_i hc
        cases rep_int rv
        exact ⟨_, rfl, ⟨by decide, by decide, hc.1, by omega, by omega⟩, FitsF.lay h1 (Step.refl _ _) t1 (rg_reps _)⟩
      · exact h1.elim
    · exact h1.elim⟩

/-! ### tuple * n -/
theorem tuple_mul0 (l : Addr) (n : Nat) (dd : Option Addr) (sl : Array (Option Value)) (x : Int) (u : Tok) (c0 : (decide (x < -(2 ^ 63)) || decide (x ≥ 2 ^ 63)) = false) :
    Meets (Builtin.«tuple.__mul__» ⟨[.ref l, .int x u], []⟩) (fun _ R s => s.heap.get? l = some { cls := .type "tuple", dict := dd, data := .seq #[] n, slots := sl } ∧ R (.ok (.ret (Value.ref l))) s) :=
  .of_wp fun prog w A R s h => by
    obtain ⟨hp, g, d, tk, os⟩ := s
    obtain ⟨hl, h⟩ := h
    have f1 := AutoSeq1.idx_int
    wp_walk using wpAny_loadPart' hl
    repeat (first
      | (refine wpAny_ite_false (decide_eq_false (by rw [c0]; exact Bool.false_ne_true)) ?_; wp_walk using wpAny_loadPart' hl)
      | (refine wpAny_ite_true (decide_eq_true (by rfl)) ?_; wp_walk using wpAny_loadPart' hl))
    exact ⟨_, rfl, h⟩
def rRep0 (K : PySem.W.Frag) : R2 := fun x y H Q => ∃ l k, x = .ref l ∧ y = .int k ∧ SqT K H l [] ∧ 0 ≤ k ∧ k ≤ 1000 ∧ Q (.ref l) H
theorem op_rep0 {X : Cx} : OpR X (binaryOp .Mult) (rRep0 X.K) := by
  intro pins s σ H x y v u Q I rx ry h
  obtain ⟨l, k, ex, ey, hT, h1, h2, q⟩ := h
  subst ex ey
  cases rx
  obtain ⟨t, et⟩ := ry
  subst et
  obtain ⟨its, r, ⟨⟨cls, dd, data, sl⟩, ho, hc, n, hd⟩, hs⟩ := I.tuple hT
  simp only at hc hd
  subst hc hd
  cases r
  have c0 : (decide (k < -(2 ^ 63)) || decide (k ≥ 2 ^ 63)) = false := by
    rw [decide_eq_false (by omega), decide_eq_false (by omega)]
    rfl
  refine wpAny_binaryOp_repeat_ref (T := "tuple") (U := "int") (by decide) ⟨_, ho, rfl⟩ (fun s' => typeIs_int s' k t) noFill_tuple_mul F.fills_int_mul F.slot_int_rmul repeat_tuple F.slot_int_index.lookup (call_meets F.slot_int_rmul (typeIs_int s k t) F.entry_int_rmul (F.args_int_rmul_2 _ _) (int_rmul_tuple k t l #[] n dd sl) ⟨ho, rfl, ⟨_, ho, rfl⟩, ?_⟩)
  exact call_meets F.slot_tuple_mul ⟨_, ho, rfl⟩ F.entry_tuple_mul (F.args_tuple_mul_2 _ _) (tuple_mul0 l n dd sl k t c0) ⟨ho, ⟨.ref l, H, I, rfl, q⟩⟩
theorem op_repA {X : Cx} : OpR X (binaryOp .Mult) (fun x y H Q => rRepT X.K x y H Q ∨ rRep0 X.K x y H Q) := OpR.or op_repT op_rep0
def gRep (p q : PV) (S : Sto) : R PV := match p, q with
  | .tup [], .int k => if 0 ≤ k ∧ k ≤ 1000 then .ok (.tup []) S else .no
  | .tup xs, .int k => if 2 ≤ k ∧ k ≤ 1000 ∧ xs.length ≤ 1000 then .ok (.tup (List.replicate k.toNat xs).flatten) S else .no
  | _, _ => .no
theorem RepPs.rep {K : PySem.W.Frag} {H : Hp} {μ : Mem} {ps : List PV} {vs : List V} (r : RepPs K H μ vs ps) : ∀ n : Nat, RepPs K H μ (List.replicate n vs).flatten (List.replicate n ps).flatten
  | 0 => .nil
  | n + 1 => by
    rw [List.replicate_succ, List.replicate_succ, List.flatten_cons, List.flatten_cons]
    exact r.append (RepPs.rep r n)
theorem l_rep {K : PySem.W.Frag} : L2R K (fun x y H Q => rRepT K x y H Q ∨ rRep0 K x y H Q) gRep := by
  intro Q H μ S v w p q rv rw' t hF
  unfold gRep at hF
  split at hF
  · split at hF
    · rename_i hc
      obtain ⟨a, vs, rfl, g1, g2⟩ := rv.tup_inv
      cases rep_int rw'
      cases g2
      exact .inr ⟨a, _, rfl, rfl, g1.sq, hc.1, hc.2, hF.val t rv⟩
    · exact hF.elim
  · rename_i xs k hne
    split at hF
    · rename_i hc
      obtain ⟨a, vs, rfl, g1, g2⟩ := rv.tup_inv
      cases rep_int rw'
      refine .inl ⟨a, _, vs, rfl, rfl, g1.sq, fun e => ?_, hc.1, hc.2.1, by rw [g2.length]; exact hc.2.2, lay_tup (fun p S H' μ' h => h) hF t (g2.rep _)⟩
      subst e
      exact hne (List.eq_nil_of_length_eq_zero g2.length.symm) 
    · exact hF.elim
  · exact hF.elim

/-! ### a dict of the module: texts to tuples of whole numbers -/
def DEnt (K : PySem.W.Frag) (e : DictEntry) (q : Str × List Int) : Prop := (∃ t, e.key = .str q.1 t) ∧ ∃ b vs, e.val = .ref b ∧ KT K b vs ∧ vs = q.2.map V.int
structure HasD (K : PySem.W.Frag) (w : World) (mg : Str → Option Value) (x : Str) (d : List (Str × List Int)) : Prop where
  ex : ∃ a es n, mg x = some (.ref a) ∧ KDict K w a es n ∧ Paired (DEnt K) es.toList d
  nd : (d.map (·.1)).Nodup
  sz : d.length ≤ sizeLine
def dKeys (d : List (Str × List Int)) : List Key := d.map fun q => .inr q.1
def dVals (d : List (Str × List Int)) : List PV := d.map fun q => .tup (q.2.map PV.int)
def gKIn (neg : Bool) (ks : List Str) (p : PV) (S : Sto) : R PV := match p with
  | .str z => .ok (.bl (if neg then !decide (z ∈ ks) else decide (z ∈ ks))) S
  | _ => .no
theorem find_d {K : PySem.W.Frag} (z : Str) : ∀ {l : List DictEntry} {d : List (Str × List Int)}, Paired (DEnt K) l d → (l.find? (·.key.isStr z)).isSome = decide (z ∈ d.map (·.1)) ∧ l.any (·.refKey) = false
  | [], _, h => by cases h; exact ⟨rfl, rfl⟩
  | e :: l, _, h => by
    cases h with
    | cons h1 h2 =>
      rename_i q d
      obtain ⟨⟨t, ek⟩, _⟩ := h1
      obtain ⟨g1, g2⟩ := find_d z h2
      have hk : e.key.isStr z = decide (q.1 = z) := by
        rw [ek]
        show (q.1 == z) = _
        exact Bool.beq_eq_decide_eq _ _
      refine ⟨?_, ?_⟩
      · rw [List.find?_cons, hk]
        by_cases hz : q.1 = z
        · rw [decide_eq_true hz]
          exact (decide_eq_true (by rw [List.map_cons, hz]; exact List.mem_cons_self ..)).symm
        · rw [decide_eq_false hz]
          show (l.find? _).isSome = _
          rw [g1, List.map_cons]
          exact decide_eq_decide.mpr ⟨fun m => List.mem_cons_of_mem _ m, fun m => (List.mem_cons.mp m).elim (fun e => absurd e.symm hz) fun m => m⟩
      · rw [List.any_cons, g2, Bool.or_false]
        unfold DictEntry.refKey
        rw [ek]
theorem nsIn_d {K : PySem.W.Frag} {w : World} {a : Addr} {es : Array DictEntry} {n : Nat} {d : List (Str × List Int)} (D : KDict K w a es n) (r : Paired (DEnt K) es.toList d) (z : Str) : ∃ o, PySem.W.nsIn K a z = some o ∧ o.isSome = decide (z ∈ d.map (·.1)) := by
  obtain ⟨g1, g2⟩ := find_d z r
  unfold PySem.W.nsIn
  rw [D.at_]
  show ∃ o, (match es.toList.find? (·.key.isStr z) with
      | some e => some (some e.val)
      | none => if es.toList.any (·.refKey) then none else some none) = some o ∧ _
  rw [g2]
  revert g1
  cases es.toList.find? (·.key.isStr z) with
  | none => exact fun g1 => ⟨none, rfl, g1⟩
  | some e => exact fun g1 => ⟨some e.val, rfl, g1⟩
section
variable {X : Cx} {x : Str} {e : Expr} {fe : Ev} {d : List (Str × List Int)} {ks : List Str} {pos p2 : Pos}
theorem kin {K : PySem.W.Frag} {w : World} {mg : Str → Option Value} {neg : Bool} {σ : L2.St} {H : Hp} {Q : VK} (hk : ks = d.map (·.1)) {a : Addr} {es : Array DictEntry} {n : Nat} (D : KDict K w a es n) (r : Paired (DEnt K) es.toList d) (h : tEv K (eUn (gKIn neg ks) fe) σ H Q) :
    tEv K fe σ H fun v H1 => ∃ (z : Str) (o : Option Value), v = .str z ∧ V.ref a = V.ref a ∧ PySem.W.nsIn K a z = some o ∧ Q (.bl (if neg then !o.isSome else o.isSome)) H1 := by
  obtain ⟨μ, ρ, S, hE, hR, hF⟩ := h
  refine ⟨μ, ρ, S, hE, hR, (FitsG.bind hF).imp fun q S1 H1 μ1 s1 t1 h1 v rv => ?_⟩
  unfold gKIn at h1
  split at h1
  · rename_i z
    cases rep_str rv
    obtain ⟨o, o1, o2⟩ := nsIn_d D r z
    refine ⟨z, o, rfl, rfl, o1, ?_⟩
    rw [o2, ← hk]
    exact h1.val t1 (.inl (.bl _))
  · exact h1.elim
theorem HasD.in_ (h : HasD X.K X.w X.mg x d) (hk : ks = d.map (·.1)) (he : EE X e fe) (hg : Gl X x) (hd : (x == ("__debug__" : Str)) = false := by decide) (hm : behindInMarks .In (.Name x p2) = false := by rfl) : EE X (.Compare e [.In] [.Name x p2] pos) (eUn (gKIn false ks) fe) ∧ ET X (.Compare e [.In] [.Name x p2] pos) (tV (eUn (gKIn false ks) fe)) := by
  obtain ⟨a, es, n, h1, D, r⟩ := h.ex
  refine ⟨pe_mono (pe_cmpR (op_in_kd D) he (pe_glob (v := .ref a) hg h1 rfl hd) hm) fun σ H Q h => kin (mg := X.mg) (neg := false) hk D r h, pt_mono (pt_cmpR (op_in_kd D) he (pe_glob (v := .ref a) hg h1 rfl hd) hm) fun σ H Q h => ?_⟩
  exact kin (mg := X.mg) (neg := false) (Q := fun x H' => ∃ k, x = .bl k ∧ Q k H') hk D r (tv_tB h)
theorem HasD.nin (h : HasD X.K X.w X.mg x d) (hk : ks = d.map (·.1)) (he : EE X e fe) (hg : Gl X x) (hd : (x == ("__debug__" : Str)) = false := by decide) (hm : behindInMarks .NotIn (.Name x p2) = false := by rfl) : EE X (.Compare e [.NotIn] [.Name x p2] pos) (eUn (gKIn true ks) fe) ∧ ET X (.Compare e [.NotIn] [.Name x p2] pos) (tV (eUn (gKIn true ks) fe)) := by
  obtain ⟨a, es, n, h1, D, r⟩ := h.ex
  refine ⟨pe_mono (pe_cmpR (op_notIn_kd D) he (pe_glob (v := .ref a) hg h1 rfl hd) hm) fun σ H Q h => kin (mg := X.mg) (neg := true) hk D r h, pt_mono (pt_cmpR (op_notIn_kd D) he (pe_glob (v := .ref a) hg h1 rfl hd) hm) fun σ H Q h => ?_⟩
  exact kin (mg := X.mg) (neg := true) (Q := fun x H' => ∃ k, x = .bl k ∧ Q k H') hk D r (tv_tB h)
end
/-! ### dict(d) of such a dict -/
theorem kvs_d {P : Program} {w : World} {K : PySem.W.Frag} : ∀ {l : List DictEntry} {d : List (Str × List Int)}, Paired (DEnt K) l d → ∃ (kvs : List (Key × V)) (vs : List (Key × Value)), KV kvs vs ∧ Pairs (mixKind P w) l vs ∧ kvs.map (·.1) = dKeys d ∧ vs.map (·.1) = dKeys d ∧ ∀ H μ, RepPs K H μ (kvs.map (·.2)) (dVals d)
  | [], _, h => by cases h; exact ⟨[], [], .nil, .nil, rfl, rfl, fun _ _ => .nil⟩
  | e :: l, _, h => by
    cases h with
    | cons h1 h2 =>
      rename_i q d
      obtain ⟨⟨t, ek⟩, b, us, ev, kt, eu⟩ := h1
      obtain ⟨kvs, vs, a1, a2, a3, a4, a5⟩ := kvs_d (P := P) (w := w) h2
      refine ⟨(.inr q.1, .ref b) :: kvs, (.inr q.1, e.val) :: vs, .cons ⟨rfl, ev⟩ a1, .cons ?_ rfl a2, ?_, ?_, fun H μ => .cons (.tup (.inr kt) ?_) (a5 H μ)⟩
      · rw [ek]
        exact mixKind_str P w q.1 t
      · rw [List.map_cons, a3]; rfl
      · rw [List.map_cons, a4]; rfl
      · rw [eu]; exact RepPs.of_ints _
theorem dkeys_nd {d : List (Str × List Int)} (h : (d.map (·.1)).Nodup) : (dKeys d).Nodup := by
  have e : dKeys d = (d.map (·.1)).map Sum.inr := by unfold dKeys; rw [List.map_map]; rfl
  rw [e]
  exact List.Pairwise.map _ (fun a b n z => n (Sum.inr.inj z)) h
theorem call_dictK {X : Cx} {a : Addr} {es : Array DictEntry} {n : Nat} {d : List (Str × List Int)} (D : KDict X.K X.w a es n) (r : Paired (DEnt X.K) es.toList d) (nd : (d.map (·.1)).Nodup) (sz : d.length ≤ sizeLine) :
    ∃ kvs : List (Key × V), kvs.map (·.1) = dKeys d ∧ (∀ H μ, RepPs X.K H μ (kvs.map (·.2)) (dVals d)) ∧ CallR X (.type "dict") (fun xs H Q => xs = [.ref a] ∧ ∀ p, H p = none → Q (.ref p) (upd H p (.dK kvs))) := by
  obtain ⟨kvs, vs, a1, a2, a3, a4, a5⟩ := kvs_d (P := X.prog) (w := X.w) r
  refine ⟨kvs, a3, a5, fun pins s σ H xs us Q I rr q => ?_⟩
  obtain ⟨ex, q⟩ := q
  subst ex
  obtain ⟨u, eu, rx⟩ := vals1 rr
  subst eu
  cases rx
  have hl : kvs.length = d.length := by have := congrArg List.length a3; simpa [dKeys] using this
  have dd : s.heap.DictOf (mixKind X.prog X.w) a vs := by
    refine ⟨_, es, n, I.kIn _ _ D.at_, ⟨rfl, rfl, rfl⟩, rfl, fun e he => ?_, a2, by rw [a4]; exact dkeys_nd nd⟩
    obtain ⟨z, t, h1, h2⟩ := D.lit.all e (Array.mem_toList_iff.mpr he)
    exact ⟨.inr z, by rw [h1]; exact mixKind_str X.prog X.w z t, h2⟩
  have hlv : vs.length = kvs.length := (Paired.length a1).symm
  refine kt_call_dict D.low dd (by rw [hlv, hl]; exact sz) fun h' d' hs => ?_
  have hm : (s.heap.objs.size == sysModules) = false := beq_eq_false_iff_ne.mpr (Nat.ne_of_gt I.big)
  refine ⟨.ref s.heap.objs.size, upd H s.heap.objs.size (.dK kvs), I.laid (t' := s.toks) (fun b u e => ?_) (Nat.le_refl _) (show ObjOk X.prog X.w _ _ _ (.dK kvs) from ⟨by rw [hl]; exact sz, hm, vs, a1, d'⟩), rfl, q _ (I.hok.fresh (Nat.le_refl _))⟩
  exact (hs.2 b (Nat.ne_of_lt (Heap.lt_size e))).trans (Heap.get?_push_of_some _ e)
theorem Rel.allocD {K : PySem.W.Frag} {H : Hp} {μ : Mem} {S : List PV} (hR : Rel K H μ S) {p : Addr} (hp : H p = none) {kvs : List (Key × V)} {ps : List PV} (r : RepPs K H μ (kvs.map (·.2)) ps) : Rel K (upd H p (.dK kvs)) (μ.grow [p]) (S ++ [.dic (kvs.map (·.1)) ps]) := by
  have l := Step.laid H μ hp (.dK kvs)
  have s : Step H μ (upd H p (.dK kvs)) (μ.grow [p]) := ⟨l.ext, l.dom, [p], rfl, fun a q => by rw [List.mem_singleton.mp q]; exact hp⟩
  refine ⟨by simp [Mem.grow, hR.len], ?_, fun n a ob e1 e2 => ?_, fun a q z => hR.res a q (l.dom a z)⟩
  · exact List.nodup_append.mpr ⟨hR.nd, by simp, fun a ha b hb => by
      rw [List.mem_singleton.mp hb]; intro z; rw [z] at ha; exact Mem.nst (hR.out hp) ha⟩
  · have e1 : (μ.st ++ [p])[n]? = some a := e1
    by_cases hn : n < μ.st.length
    · rw [List.getElem?_append_left hn] at e1
      rw [List.getElem?_append_left (by rw [← hR.len]; exact hn)] at e2
      exact (hR.obj n a ob e1 e2).step s (upd_ne fun z => Mem.nst (hR.out hp) (by rw [← z]; exact List.mem_of_getElem? e1))
    · have e : n = μ.st.length := by
        have := (List.getElem?_eq_some_iff.mp e1).1
        simp at this; omega
      subst e
      rw [List.getElem?_append_right (Nat.le_refl _)] at e1
      rw [List.getElem?_append_right (by rw [hR.len]; exact Nat.le_refl _)] at e2
      simp [hR.len] at e1 e2
      subst e1 e2
      exact ⟨kvs, upd_same, rfl, r.step s⟩
def eKD (d : List (Str × List Int)) : Ev := fun _ S => .ok (.dic (dKeys d) (dVals d)) S
theorem HasD.copy {X : Cx} {x : Str} {d : List (Str × List Int)} {pos p2 p : Pos} (h : HasD X.K X.w X.mg x d) (hm : X.mg "dict" = none) (hg2 : Gl X "dict") (hg : Gl X x) (hd : (x == ("__debug__" : Str)) = false := by decide)
    (he : starEach [.Name x p2] X.env = (false, eval (.Name x p2) X.env) :: starEach [] X.env := by rfl) (hpl : (backTo pos (starEach [] X.env)).any (·.1) = false := by rfl) : EF X (.Call (.Name "dict" p) [.Name x p2] [] pos) (eKD d) := by
  obtain ⟨a, es, n, h1, D, r⟩ := h.ex
  obtain ⟨kvs, k1, k2, C⟩ := call_dictK D r h.nd h.sz
  refine pe_mono (pe_callTy C hg2 hm (by decide +kernel) (pa_cons (pe_glob (v := .ref a) hg h1 rfl hd) pa_nil he) (by decide) (by decide) he hpl) fun σ H Q ⟨μ, ρ, S, hE, hR, hF⟩ => ⟨rfl, fun p hp => ?_⟩
  have s := Step.laid H μ hp (.dK kvs)
  have t := hR.allocD hp (k2 H μ)
  rw [k1] at t
  exact (show FitsF X.K H μ (.ok (.dic (dKeys d) (dVals d)) S) Q from hF) (upd H p (.dK kvs)) μ p hp (fun q => hR.res p q hp) s t

theorem es_par2 {i j : Nat} {x y : Str} {a b : Expr} {px py pt pos : Pos} {kt k2 pt2} {fa fb : Ev} (hc : X.calm = true) (hN : X.N.Nodup) (hi : X.N[i]? = some x) (hj : X.N[j]? = some y) (hij : i ≠ j)
    (hx : X.env.scope.names.lookup x = some .local) (hy : X.env.scope.names.lookup y = some .local) (ha : EE X a fa) (hb : EE X b fb)
    (hw : swappedStores [.Tuple [.Name x px, .Name y py] kt pt] (.Tuple [a, b] k2 pt2) X.env = pure (some [x, y]))
    (hs : swapsWithSole [.Tuple [.Name x px, .Name y py] kt pt] (.Tuple [a, b] k2 pt2) pos.line X.env = pure false)
    (hp : starEach [a, b] X.env = (false, eval a X.env) :: starEach [b] X.env := by rfl) (hq : starEach [b] X.env = (false, eval b X.env) :: starEach [] X.env := by rfl) :
    ES X (.Assign [.Tuple [.Name x px, .Name y py] kt pt] (.Tuple [a, b] k2 pt2) pos) (sPar i j fa fb) :=
  es_par ha hb (ps_par hc hN hi hj hij hx hy (pa_cons ha (pa_cons hb pa_nil hq) hp) hw hs)
theorem pure_gLe : ∀ p q S z S', gLe p q S = .ok z S' → S' = S := by
  intro p q S z S' h; unfold gLe at h; split at h <;> cases h; rfl
theorem pure_gLt : ∀ p q S z S', gLt p q S = .ok z S' → S' = S := by
  intro p q S z S' h; unfold gLt at h; split at h <;> cases h; rfl
theorem pure_gGt : ∀ p q S z S', gGt p q S = .ok z S' → S' = S := by
  intro p q S z S' h; unfold gGt at h; split at h <;> cases h; rfl
theorem pure_gGe : ∀ p q S z S', gGe p q S = .ok z S' → S' = S := by
  intro p q S z S' h; unfold gGe at h; split at h <;> cases h; rfl
theorem pure_gEq : ∀ p q S z S', gEq p q S = .ok z S' → S' = S := by
  intro p q S z S' h; unfold gEq at h
  repeat' split at h
  all_goals first | (cases h; rfl) | cases h
end Py
set_option Elab.async false
set_option maxRecDepth 100000
set_option maxHeartbeats 4000000
set_option linter.all false
namespace RT
open PySem PySem.Spec PyProof.Rows
section
variable {prog : Program} {w : World} {A : Around} {E : Value → Shared → Prop} {s : Shared} {r d : Addr} {n : Nat} {P : Nat → Value → Prop} {OK : Heap → Prop}
theorem code_tuple_new_src {Q₁ : Value → Shared → Prop} (K : W.KdlSrc prog w "dict" r d n P OK) (hh : A.handled = none) (hok : OK s.heap) (hn : n ≤ sizeLine)
    (h : ∀ (h' : Heap) (tk : Nat) (acc : Array Value), (∀ b o, s.heap.get? b = some o → h'.get? b = some o) → ItemsOf P acc n →
      Q₁ (.ref h'.objs.size) { s with heap := h'.push { cls := .type "tuple", data := .seq acc }, toks := tk }) :
    codeAny (model prog w) A (.call (.builtin "tuple.__new__") ⟨[.type "tuple", .ref r], []⟩) (wants Q₁ E) s := by
  refine codeAny_of_tree ?_
  show wpAny _ A.in1 (do checkBuiltinCall "tuple.__new__" ⟨[.type "tuple", .ref r], []⟩; again (.builtin "tuple.__new__" ⟨[.type "tuple", .ref r], []⟩)) _ _ s
  refine wpAny_bind (wpAny_of_eq (F.newCall_tuple_1 _) (wpAny_pure ⟨plainId_quiet F.plain_tuple_new _, codeAny_builtin F.entry_tuple_new ?_⟩))
  rw [Around.under_plainId F.plain_tuple_new _]
  have hsub := sub_tuple_self
  have hinit := init_tuple_lookup
  have hmh := madeHere_tuple
  have hTI : s.TypeIs (.ref r) "dict" := K.type _ hok
  have hh1 : A.in1.handled = none := hh
  wp_walk using wpAny_typeOf hTI, W.kdu_collect (A := A.in1) K hh1 hok hn
  intro h' tk acc hk hacc
  show wpAny _ _ (Builtin.Tuple.tupleExact acc.toList.toArray >>= fun v => ret v) _ _ _
  unfold Builtin.Tuple.tupleExact
  refine wpAny_bind (wpAny_newObj_type ?_ (by show acc.toList.toArray.size ≤ sizeLine; simp only [Array.toArray_toList]; rw [hacc.1]; exact hn))
  refine wpAny_pure ?_
  have e : acc.toList.toArray = acc := by simp
  rw [e]
  exact h h' tk acc hk hacc
theorem call_tuple_src {Q : Value → Shared → Prop} (K : W.KdlSrc prog w "dict" r d n P OK) (hh : A.handled = none) (hok : OK s.heap) (hn : n ≤ sizeLine)
    (hQ : ∀ (h' : Heap) (tk : Nat) (acc : Array Value), (∀ b o, s.heap.get? b = some o → h'.get? b = some o) → ItemsOf P acc n →
      Q (.ref h'.objs.size) { s with heap := h'.push { cls := .type "tuple", data := .seq acc }, toks := tk }) :
    wpAny (model prog w) A (call (.type "tuple") [.ref r]) Q E s := by
  refine callType_codes (Q₁ := fun obj s₁ => s₁.TypeIs obj "tuple" ∧ Q obj s₁) F.called_tuple (F.typeCall_tuple_1 _) F.entry_object_init
    (code_tuple_new_src (A := A.in1) K hh hok hn fun h' tk acc hk hacc => ⟨⟨_, Heap.get?_push_size _ rfl, rfl⟩, hQ h' tk acc hk hacc⟩) fun obj s₁ h₁ => ?_
  exact ⟨h₁.1, F.args_object_init_2 obj _, object_init_meets F.called_tuple.init.lookup F.called_tuple.made (by decide) prog w A.in1 _ s₁ ⟨h₁.1, rfl, h₁.2⟩⟩
end
end RT
namespace L2
open PySem PySem.Spec PyProof.Rows
variable {X : Cx}
/-- tuple(d): its keys -/
theorem call_tupleD (hcalm : X.calm = true) : CallR X (.type "tuple") (fun xs H Q => ∃ (a : Addr) (kvs : List (Key × V)), xs = [.ref a] ∧ Rd H a (.dK kvs) ∧ ∀ p, H p = none → Q (.ref p) (upd H p (.tup (kvs.map fun kv => kV kv.1)))) := by
  intro pins s σ H xs us Q I r q
  obtain ⟨a, kvs, ex, hd, q⟩ := q
  subst ex
  obtain ⟨u, eu, rx⟩ := vals1 r
  subst eu
  cases rx
  obtain ⟨z, lo, vs, rel, dd⟩ := dk_rd I.hok hd
  obtain ⟨ep, hat⟩ := dd.dictAt
  have ek : (kvs.map fun kv => kV kv.1) = vs.map fun p => kV p.1 := by
    have e := congrArg (List.map kV) rel.keys
    rw [List.map_map, List.map_map] at e
    exact e
  refine RT.call_tuple_src (PySem.W.kdl_dict (knd := mixKind X.prog X.w) (kvs := vs) (ep := ep) lo) (I.ok.hd hcalm) hat (by rw [← rel.length]; exact z) fun h' tk acc hk hacc => ?_
  have hv : Vals (vs.map fun p => kV p.1) acc.toList := keys_at (by rw [Array.length_toList]; exact hacc.1) fun j v e => hacc.2 j v (by rw [← Array.getElem?_toList]; exact e)
  have I1 : Inv X pins σ H { s with heap := h', toks := tk } := I.kept (t' := tk) hk
  have I2 : Inv X pins σ (upd H h'.objs.size (.tup (kvs.map fun kv => kV kv.1))) { s with heap := h'.push { cls := .type "tuple", data := .seq acc }, toks := tk } :=
    I1.laid (t' := tk) (fun b o e => Heap.get?_push_of_some _ e) (Nat.le_refl _) (show ObjOk X.prog X.w _ _ _ (.tup (kvs.map fun kv => kV kv.1)) from ⟨by rw [List.length_map]; exact z, acc.toList, by rw [ek]; exact hv, by rw [Array.toArray_toList]; exact IsTup.new _ _⟩)
  exact ⟨.ref h'.objs.size, _, I2, rfl, q _ (I1.hok.fresh (Nat.le_refl _))⟩
end L2
namespace Py
open PySem PySem.Spec PyProof.Rows L2
variable {K : PySem.W.Frag}
def kPV : Key → PV
  | .inl i => .int i
  | .inr z => .str z
theorem rep_keys {H : Hp} {μ : Mem} : ∀ ks : List Key, RepPs K H μ (ks.map kV) (ks.map kPV)
  | [] => .nil
  | .inl i :: ks => .cons (.int i) (rep_keys ks)
  | .inr z :: ks => .cons (.str z) (rep_keys ks)
/-- tuple(d) -/
def gTupKs (ps : List PV) (S : Sto) : R PV := match ps with
  | [p] => match getD p S with
    | some (ks, _) => .ok (.tup (ks.map kPV)) S
    | none => .no
  | _ => .no
theorem l_tupKs : LAR K (fun xs H Q => ∃ (a : Addr) (kvs : List (Key × V)), xs = [.ref a] ∧ Rd H a (.dK kvs) ∧ ∀ p, H p = none → Q (.ref p) (upd H p (.tup (kvs.map fun kv => kV kv.1)))) gTupKs := by
  intro Q H μ S vs ps rv t hF
  unfold gTupKs at hF
  split at hF
  · split at hF
    · rename_i ks ws e
      obtain ⟨v, rfl, r1⟩ := rv.one
      obtain ⟨a, kvs, rfl, g1, g2, g3⟩ := getD_of t r1 e
      subst g2
      refine ⟨a, kvs, rfl, .inl g1, ?_⟩
      have e1 : (kvs.map fun kv => kV kv.1) = (kvs.map (·.1)).map kV := by rw [List.map_map]; rfl
      rw [e1]
      exact lay_tup (fun p S H' μ' h => h) hF t (rep_keys _)
    · exact hF.elim
  · exact hF.elim
def keyInts : List Key → Option (List Int)
  | [] => some []
  | .inl i :: ks => (keyInts ks).map (i :: ·)
  | .inr _ :: _ => none
theorem keyInts_of : ∀ {ks : List Key} {ns : List Int}, keyInts ks = some ns → ks = ns.map Sum.inl
  | [], ns, h => by cases h; rfl
  | .inl i :: ks, ns, h => by
    rw [keyInts] at h
    cases e : keyInts ks with
    | none => rw [e] at h; cases h
    | some ms =>
      rw [e] at h; cases h
      rw [keyInts_of e]; rfl
  | .inr _ :: _, ns, h => by cases h
/-- sorted(d), whose keys are fewer than 64 whole numbers -/
def gSortKs (ps : List PV) (S : Sto) : R PV := match ps with
  | [p] => match getD p S with
    | some (ks, _) => match keyInts ks with
      | some ns => if ns.length < 64 then .ok (.lst ((sortI ns).map PV.int)) S else .no
      | none => .no
    | none => .no
  | _ => .no
theorem l_sortKs : LAF K (fun xs H Q => ∃ (a : Addr) (kvs : List (Key × V)) (ks : List Int), xs = [.ref a] ∧ Rd H a (.dK kvs) ∧ kvs.map (·.1) = ks.map Sum.inl ∧ ks.length < 64 ∧
    ∀ (ys : List Int) (p : Addr), ys.Perm ks → ys.Pairwise (· ≤ ·) → H p = none → Q (.ref p) (upd H p (.lst (ys.map V.int)))) gSortKs := by
  intro Q H μ S vs ps rv t hF
  unfold gSortKs at hF
  split at hF
  · split at hF
    · rename_i ks ws e
      split at hF
      · rename_i ns e2
        split at hF
        · rename_i hl
          obtain ⟨v, rfl, r1⟩ := rv.one
          obtain ⟨a, kvs, rfl, g1, g2, g3⟩ := getD_of t r1 e
          refine ⟨a, kvs, ns, rfl, .inl g1, by rw [g2]; exact keyInts_of e2, hl, fun ys p hp hs h0 => ?_⟩
          rw [sorted_unique (hp.trans (sortI_perm ns).symm) hs (sortI_sorted ns)]
          exact FitsF.lay hF (Step.refl _ _) t (RepPs.of_ints _) p h0
        · exact hF.elim
      · exact hF.elim
    · exact hF.elim
  · exact hF.elim
end Py
set_option Elab.async false
set_option maxRecDepth 100000
set_option maxHeartbeats 4000000
set_option linter.all false
namespace PySem
namespace AutoSeq1
open Spec PyProof.Rows
theorem list_extend_list_tuple_any (l : Addr) (items : Array Value) (n : Nat) (b : Addr) (items2 : Array Value) (n2 : Nat) (d2 : Option Addr) (sl2 : Array (Option Value)) (hs0 : ¬(!items.isEmpty && Builtin.List.listTooLong (items.size + items2.size)) = true) (hs1 : items.size ≤ sizeLine) (hs2 : items.size + items2.size ≤ sizeLine + 1) :
    Meets (Builtin.«list.extend» ⟨[.ref l, .ref b], []⟩) (fun _ R s => s.heap.get? l = some { cls := .type "list", dict := none, data := .seq items n, slots := #[] } ∧ s.heap.get? b = some { cls := .type "tuple", dict := d2, data := .seq items2 n2, slots := sl2 } ∧ R (.ok (.ret Value.none)) { s with heap := s.heap.update l (Obj.mapSeq fun x => x ++ items2), toks := s.toks }) :=
  .of_wp fun prog w A R s h => by
    obtain ⟨hp, g, d, tk, os⟩ := s; obtain ⟨hl, hb, h⟩ := h; have f1 := idx_int; have f2 := sub_tuple_tuple; have f3 := sub_list_list; have f4 := sub_tuple_list; have f5 := sub_list_tuple;
    have hz' : (items ++ items2).size ≤ sizeLine + 1 := by rw [Array.size_append]; exact hs2
    wp_walk using (wpAny_updateSeq hl rfl (hz := hs1) (_hz' := hz')), wpAny_loadPart' hl, wpAny_loadPart' hb; exact ⟨_, rfl, h⟩
end AutoSeq1
end PySem
namespace L2
open PySem PySem.Spec PyProof.Rows
variable {X : Cx}
def rExtendT (K : PySem.W.Frag) : V → List V → Hp → VK → Prop := fun x vs H Q => ∃ l b xs zs, x = .ref l ∧ vs = [.ref b] ∧ H l = some (.lst xs) ∧ SqT K H b zs ∧ xs.length + zs.length ≤ sizeLine ∧ Q .non (upd H l (.lst (xs ++ zs)))
theorem mt_extendT : MtM X "list.extend" (rExtendT X.K) := by
  intro pins s σ H x vs v us Q I rx rv h
  obtain ⟨l, b, xs, zs, rfl, rfl, hH, hB, hz, q⟩ := h
  cases rx
  obtain ⟨u, rfl, ru⟩ := rv.one
  cases ru
  obtain ⟨z, its, n, r, hl, e⟩ := I.lstM hH
  obtain ⟨its2, r2, ⟨⟨cls, d2, dat, sl2⟩, e2, hc2, n2, hd2⟩, z2⟩ := I.tuple hB
  have hl2 := r2.length
  cases hc2; cases hd2
  have hsz : its.toArray.size + its2.toArray.size ≤ sizeLine := by rw [List.size_toArray, List.size_toArray]; omega
  have hlong : ¬ (!its.toArray.isEmpty && Builtin.List.listTooLong (its.toArray.size + its2.toArray.size)) = true := by
    rw [notLongL hsz, Bool.and_false]
    exact Bool.false_ne_true
  refine call_meets F.slot_list_extend ⟨_, e, rfl⟩ F.entry_list_extend (F.args_list_extend_2 _ _)
    (AutoSeq1.list_extend_list_tuple_any l its.toArray n b its2.toArray n2 d2 sl2 hlong (by rw [List.size_toArray]; omega) (by omega)) ⟨e, e2, ?_⟩
  refine ⟨.non, _, I.lset (its' := its ++ its2) hH e (by simp) (r.append r2) ?_, rfl, q⟩
  rw [List.length_append]
  omega
end L2
namespace Py
open PySem PySem.Spec PyProof.Rows L2
variable {K : PySem.W.Frag}
/-- xs.extend(t), t a tuple -/
def gExtT (x y : PV) (S : Sto) : R PV := match x, y with
  | .ref n, .tup ys => match S[n]? with
    | some (.lst xs) => if xs.length + ys.length ≤ sizeLine then .ok .non (S.set n (.lst (xs ++ ys))) else .no
    | _ => .no
  | _, _ => .no
theorem l_extT : LMR K (rExtendT K) gExtT := by
  intro Q H μ S v w p q rv rw' t hF
  unfold gExtT at hF
  split at hF
  · split at hF
    · rename_i xs e
      split at hF
      · rename_i hc
        rcases rv with rv | ⟨m, a, e1, e2, e3⟩
        · cases rv
        cases e1
        subst e3
        obtain ⟨b, ws, rfl, k1, k2⟩ := rw'.tup_inv
        obtain ⟨vs, g1, g2, g3⟩ := write_lst (ys := xs ++ _) t e2 e
        obtain ⟨s3, t3⟩ := g3 (vs ++ ws) fun H' μ' s => (g2.append k2).step s
        exact ⟨a, b, vs, ws, rfl, rfl, g1, k1.sq, by rw [g2.length, k2.length]; exact hc, hF _ _ s3 t3 _ (.inl .non)⟩
      · exact hF.elim
    · exact hF.elim
  · exact hF.elim
end Py
set_option Elab.async false
set_option maxRecDepth 100000
set_option maxHeartbeats 4000000
set_option linter.all false
namespace Py
open PySem PySem.Spec PyProof.Rows L2
variable {K : PySem.W.Frag}
/-! ### any -/
def gAny (ps : List PV) (S : Sto) : R PV := match ps with
  | [p] => match (getL p S).bind blsOf with
    | some ns => .ok (.bl (ns.any id)) S
    | none => .no
  | _ => .no
theorem l_any : LAR K (rAny K) gAny := by
  intro Q H μ S vs ps rv t hF
  unfold gAny at hF
  split at hF
  · split at hF
    · rename_i ns e
      obtain ⟨v, rfl, h1⟩ := rv.one
      obtain ⟨a, rfl, g⟩ := getBls t h1 e
      exact ⟨a, ns, rfl, g, hF.val t (.inl (.bl _))⟩
    · exact hF.elim
  · exact hF.elim
/-! ### xs * n of a list -/
def gRepL (p q : PV) (S : Sto) : R PV := match p, q with
  | .frl _, _ => .no
  | p, .int k => match getL p S with
    | some xs => if -(2 ^ 62) ≤ k ∧ k ≤ 2 ^ 62 ∧ xs.length * k.toNat ≤ sizeLine then .ok (.lst (List.replicate k.toNat xs).flatten) S else .no
    | none => .no
  | _, _ => .no
theorem ef_repL {X : Cx} {a b : Expr} {fa fb : Ev} {pos : Pos} (ha : EE X a fa) (hb : EE X b fb) : EF X (.BinOp a .Mult b pos) (eOp gRepL fa fb) :=
  pe_mono (pe_op op_rep ha hb) fun σ H Q ⟨μ, ρ, S, hE, hR, hF⟩ => ⟨μ, ρ, S, hE, hR, (FitsF.bind hF).imp fun p S1 H1 μ1 s1 t1 h1 v rv =>
    ⟨μ1, ρ, S1, hE.step s1, t1, (FitsF.bind h1).imp fun q S2 H2 μ2 s2 t2 h2 w rw' => by
      unfold gRepL at h2
      split at h2
      · exact h2.elim
      · rename_i n1
        split at h2
        · rename_i xs e1
          split at h2
          · rename_i hc
            obtain ⟨x, vs, rfl, g1, g2⟩ := getL_trk t2 (rv.step s2) e1 n1
            cases rep_int rw'
            exact ⟨x, _, vs, rfl, rfl, g1, by omega, by omega, by rw [g2.length]; exact hc.2.2, FitsF.lay h2 (Step.refl _ _) t2 (g2.rep _)⟩
          · exact h2.elim
        · exact h2.elim
      · exact h2.elim⟩⟩
/-! ### a, b, c = x, y, z -/
def sPar3 (i j l : Nat) (a b c : Ev) : Es := fun ρ S => (a ρ S).bind fun p S1 => (b ρ S1).bind fun q S2 => (c ρ S2).bind fun r S3 => .ok (.nx (((ρ.set i (some p)).set j (some q)).set l (some r))) S3
theorem es_par3' {X : Cx} {i j l : Nat} {st : Stmt} {a b c : Expr} {fa fb fc : Ev} (h : PS X st (tPar3 i j l (tCons (tEv X.K fa) (tCons (tEv X.K fb) (tCons (tEv X.K fc) tNil))))) : ES X st (sPar3 i j l fa fb fc) :=
  ps_mono h fun D σ H ⟨μ, ρ, S, hE, hR, hF⟩ => ⟨μ, ρ, S, hE, hR, (FitsG.bind hF).imp fun p S1 H1 μ1 s1 t1 h1 v rv =>
    ⟨μ1, ρ, S1, hE.step s1, t1, (FitsG.bind h1).imp fun q S2 H2 μ2 s2 t2 h2 w rw' =>
      ⟨μ2, ρ, S2, (hE.step s1).step s2, t2, (FitsG.bind h2).imp fun r S3 H3 μ3 s3 t3 h3 u ru => ⟨v, w, u, rfl, FitsG.here h3 t3 _ (((((hE.step s1).step s2).step s3).set i (show ORep X.K H3 μ3 (some v) (some p) from (rv.step s2).step s3)).set j (show ORep X.K H3 μ3 (some w) (some q) from rw'.step s3) |>.set l (show ORep X.K H3 μ3 (some u) (some r) from ru))⟩⟩⟩⟩
theorem es_par3 {X : Cx} {i j l : Nat} {x y z : Str} {a b c : Expr} {px py pz pt pos : Pos} {kt k2 pt2} {fa fb fc : Ev} (hc : X.calm = true) (hN : X.N.Nodup) (hi : X.N[i]? = some x) (hj : X.N[j]? = some y) (hl : X.N[l]? = some z) (hij : i ≠ j) (hil : i ≠ l) (hjl : j ≠ l)
    (hx : X.env.scope.names.lookup x = some .local) (hy : X.env.scope.names.lookup y = some .local) (hz : X.env.scope.names.lookup z = some .local) (ha : EE X a fa) (hb : EE X b fb) (hcc : EE X c fc)
    (hw : swappedStores [.Tuple [.Name x px, .Name y py, .Name z pz] kt pt] (.Tuple [a, b, c] k2 pt2) X.env = pure (some [x, y, z]))
    (hs : swapsWithSole [.Tuple [.Name x px, .Name y py, .Name z pz] kt pt] (.Tuple [a, b, c] k2 pt2) pos.line X.env = pure false)
    (hp : starEach [a, b, c] X.env = (false, eval a X.env) :: starEach [b, c] X.env := by rfl) (hq : starEach [b, c] X.env = (false, eval b X.env) :: starEach [c] X.env := by rfl) (hr : starEach [c] X.env = (false, eval c X.env) :: starEach [] X.env := by rfl) :
    ES X (.Assign [.Tuple [.Name x px, .Name y py, .Name z pz] kt pt] (.Tuple [a, b, c] k2 pt2) pos) (sPar3 i j l fa fb fc) :=
  es_par3' (a := a) (b := b) (c := c) (ps_par3 hc hN hi hj hl hij hil hjl hx hy hz (pa_cons ha (pa_cons hb (pa_cons hcc pa_nil hr) hq) hp) hw hs)
end Py
set_option Elab.async false
set_option maxRecDepth 100000
set_option maxHeartbeats 4000000
set_option linter.all false
namespace Py
open PySem PySem.Spec PyProof.Rows L2

def toV : PV → V
  | .int i => .int i
  | .str x => .str x
  | _ => .non
def flatB : PV → Bool
  | .int _ => true
  | .str _ => true
  | _ => false
def pairB : List V → List Value → Bool
  | [], [] => true
  | v :: vs, u :: us => He.relB v u && pairB vs us
  | _, _ => false
theorem pairB_ok : ∀ {vs : List V} {us : List Value}, pairB vs us = true → Vals vs us
  | [], [], _ => .nil
  | v :: vs, u :: us, h => .cons (He.relB_ok (He.ba h).1) (pairB_ok (He.ba h).2)
  | [], _ :: _, h => by cases h
  | _ :: _, [], h => by cases h
def seqB (K : PySem.W.Frag) (a : Addr) (vs : List V) : Bool := match K.lookup a with
  | some ⟨.type c, _, .seq its n, _⟩ => decide (c = "tuple") && (decide (its.size ≤ sizeLine) && pairB vs its.toList)
  | _ => false
theorem seqB_ok {K : PySem.W.Frag} {a : Addr} {vs : List V} (h : seqB K a vs = true) : KT K a vs := by
  unfold seqB at h
  split at h
  · rename_i c d its n sl e
    obtain ⟨h1, h2⟩ := He.ba h
    obtain ⟨h3, h4⟩ := He.ba h2
    have h1 := of_decide_eq_true h1
    subst h1
    exact ⟨_, its, n, e, rfl, rfl, of_decide_eq_true h3, pairB_ok h4⟩
  · cases h
def kTupB (K : PySem.W.Frag) (x : Str) (ps : List PV) : Bool := seqB K (He.ga K x) (ps.map toV) && ps.all flatB
theorem kreps_of {K : PySem.W.Frag} : ∀ {ps : List PV}, ps.all flatB = true → KReps K (ps.map toV) ps
  | [], _ => .nil
  | p :: ps, h => by
      have h := He.ba h
      refine .cons ?_ (kreps_of h.2)
      revert h
      cases p with
      | int i => intro _; exact .int i
      | str x => intro _; exact .str x
      | _ => intro h; cases h.1
theorem hasTup_of {K : PySem.W.Frag} {mg : Str → Option Value} {x : Str} {ps : List PV} (g : mg x = some (.ref (He.ga K x))) (h : kTupB K x ps = true) : HasTup K mg x ps :=
  ⟨_, _, g, seqB_ok (He.ba h).1, kreps_of (He.ba h).2⟩
def entB (K : PySem.W.Frag) (e : DictEntry) (q : Str × List Int) : Bool := (match e.key with
  | .str y _ => decide (y = q.1)
  | _ => false) && (match e.val with
  | .ref b => seqB K b (q.2.map V.int)
  | _ => false)
theorem entB_ok {K : PySem.W.Frag} {e : DictEntry} {q : Str × List Int} (h : entB K e q = true) : DEnt K e q := by
  obtain ⟨h1, h2⟩ := He.ba h
  constructor
  · revert h1
    cases e1 : e.key <;> intro h1 <;> try cases h1
    rename_i y t
    exact ⟨t, by rw [of_decide_eq_true h1]⟩
  · revert h2
    cases e2 : e.val <;> intro h2 <;> try cases h2
    exact ⟨_, _, rfl, seqB_ok h2, rfl⟩
def entsB (K : PySem.W.Frag) : List DictEntry → List (Str × List Int) → Bool
  | [], [] => true
  | e :: es, q :: qs => entB K e q && entsB K es qs
  | _, _ => false
theorem entsB_ok {K : PySem.W.Frag} : ∀ {es : List DictEntry} {qs : List (Str × List Int)}, entsB K es qs = true → Paired (DEnt K) es qs
  | [], [], _ => .nil
  | _ :: _, _ :: _, h => .cons (entB_ok (He.ba h).1) (entsB_ok (He.ba h).2)
  | [], _ :: _, h => by cases h
  | _ :: _, [], h => by cases h
def kDicB (K : PySem.W.Frag) (x : Str) (d : List (Str × List Int)) : Bool := match K.lookup (He.ga K x) with
  | some ⟨_, _, .dict es n, _⟩ => entsB K es.toList d
  | _ => false
theorem hasD_of {K : PySem.W.Frag} {w : World} {mg : Str → Option Value} {x : Str} {d : List (Str × List Int)} (g : mg x = some (.ref (He.ga K x))) (t : ∃ es n, KDict K w (He.ga K x) es n) (h : kDicB K x d = true) (nd : (d.map (·.1)).Nodup) (sz : d.length ≤ sizeLine) : HasD K w mg x d := by
  obtain ⟨es, n, D⟩ := t
  refine ⟨⟨_, es, n, g, D, ?_⟩, nd, sz⟩
  unfold kDicB at h
  rw [D.at_] at h
  exact entsB_ok h
theorem tab_of {fa : List He.Fa} {fn : List He.DefD} {ts : List He.Tab} {w : World} {K : PySem.W.Frag} (c : He.SaysT fa fn ts w K) (i : Nat) {t : He.Tab} (h : ts[i]? = some t) : ∃ es n, KDict K w (t.1 K) es n := c.tab i h
end Py
set_option Elab.async false
set_option maxRecDepth 100000
set_option maxHeartbeats 4000000
set_option linter.all false
namespace G80
open PySem PySem.Spec PyProof.Rows L2 Py
def top (i : Nat) : Stmt := PySem.Challenge.pw_formstead_k80_devices_by_an_own_look.main.body.getD i (.Pass ⟨0, 0, 0, 0⟩)
structure Txt (K : PySem.W.Frag) (w : World) (mg : Str → Option Value) : Prop where
  abs : mg "abs" = none
  all : mg "all" = none
  any : mg "any" = none
  bool : mg "bool" = none
  divmod : mg "divmod" = none
  enumerate : mg "enumerate" = none
  int : mg "int" = none
  isinstance : mg "isinstance" = none
  len : mg "len" = none
  list : mg "list" = none
  max : mg "max" = none
  min : mg "min" = none
  range : mg "range" = none
  str : mg "str" = none
  sum : mg "sum" = none
  tuple : mg "tuple" = none
  zip : mg "zip" = none
  kLEAST_WIDTH : HasInt mg "LEAST_WIDTH" 26
  kMORE_CELLS : HasInt mg "MORE_CELLS" 4
  kMOST_WIDTH : HasInt mg "MOST_WIDTH" 9000
section
variable {P : Program} {w : World} {K : PySem.W.Frag} {mg : Str → Option Value} {base : Heap}
abbrev s__law_draw : Stmt := top 34
abbrev N__law_draw : List Str := ["_law_well_here", "_law_many", "_law_seed", "_law_figure"]
abbrev p__law_draw : List Str := ["_law_well_here", "_law_many"]
theorem sc__law_draw : FnScope N__law_draw p__law_draw (defScope s__law_draw) := ⟨rfl, rfl, rfl, by decide +kernel, rfl, by decide +kernel, by decide +kernel⟩
def b__law_draw : Es := (sSeq (sIf (tV (eOp gGt (eOp gIx (eVar 0) (eC (.int 0))) (eC (.int 0)))) (sSeq (sAsg (eArgs gDivmod (aCons (eOp gIx (eVar 0) (eC (.int 0))) (aCons (eVar 1) aNil))) (nTup 2 (nCons (nSubL (eVar 0) (eC (.int 0))) (nCons (nName 3) nNil)))) (sRet (eVar 3))) sNil) (sSeq (sAsg (eOp gAdd (eOp gIx (eVar 0) (eC (.int 2))) (eC (.int 1))) (nSubL (eVar 0) (eC (.int 2)))) (sSeq (sSet 2 (eOp gMod (eArgs gInt (aCons (eOp gAdd (eOp gIx (eVar 0) (eC (.int 1))) (eOp gMul (eC (.int 60013)) (eOp gIx (eVar 0) (eC (.int 2))))) aNil)) (eC (.int 2147483563)))) (sSeq (sAsg (eOp gMod (eArgs gInt (aCons (eOp gAdd (eOp gMul (eVar 2) (eOp gAdd (eOp gMod (eArgs gInt (aCons (eVar 2) aNil)) (eC (.int 5003))) (eC (.int 40009)))) (eOp gMul (eC (.int 31)) (eOp gIx (eVar 0) (eC (.int 2))))) aNil)) (eC (.int 2147483563))) (nSubL (eVar 0) (eC (.int 1)))) (sRet (eOp gMod (eArgs gInt (aCons (eOp gFdiv (eOp gIx (eVar 0) (eC (.int 1))) (eC (.int 641))) aNil)) (eVar 1)))))))
def m__law_draw : Fn := mkDef 2 4 b__law_draw
set_option maxHeartbeats 4000000 in
theorem e__law_draw {f : Addr} (T : Txt K w mg) (cdv : Value) (A : Around) (outer : List PySem.Env) (s : Shared) (H : Hp) (E : XK) (hr : Room 0 (A.deeper (envOfC "_law_draw" (defScope s__law_draw) s.heap.objs.size f cdv))) :
    ESs (cxOf CX0 P w K mg base N__law_draw "_law_draw" (defScope s__law_draw) f cdv A outer s H E).nox (defBody s__law_draw) b__law_draw :=
  have S := sc__law_draw
  (es_cons (es_if (et_cmp (op_gt) l_gt (ee_ix (ee_var 0 (pv 0)) ee_int (fun _ _ => rfl)) ee_int (nomark _)) (es_cons (es_asg (ee_callB call_divmodW l_divmod (by rfl) T.divmod (by decide +kernel) (ea_cons (ee_ix (ee_var 0 (pv 0)) ee_int (fun _ _ => rfl)) (ea_cons (ee_var 1 (pv 1)) ea_nil))) (eg_tup rfl (egs_cons (eg_subL (ee_var 0 (pv 0)) ee_int (pg_sub (ee_var 0 (pv 0)) ee_int set_list)) (egs_cons (eg_name (pg_name (i := 3) S.nd rfl (Or.inl rfl))) egs_nil)))) (es_one (es_ret (ee_var 3 (pv 3))))) es_nil) (es_cons (es_asg (ee_op op_addA l_add (ee_ix (ee_var 0 (pv 0)) ee_int (fun _ _ => rfl)) ee_int) (eg_subL (ee_var 0 (pv 0)) ee_int (pg_sub (ee_var 0 (pv 0)) ee_int set_list))) (es_cons (es_set (ps_set (i := 2) S.nd rfl (Or.inl rfl) (ee_op op_mod l_mod (ee_callTy call_int1 l_int (by rfl) T.int (by decide +kernel) (ea_cons (ee_op op_addA l_add (ee_ix (ee_var 0 (pv 0)) ee_int (fun _ _ => rfl)) (ee_op op_mul l_mul ee_int (ee_ix (ee_var 0 (pv 0)) ee_int (fun _ _ => rfl)))) ea_nil)) ee_int))) (es_cons (es_asg (ee_op op_mod l_mod (ee_callTy call_int1 l_int (by rfl) T.int (by decide +kernel) (ea_cons (ee_op op_addA l_add (ee_op op_mul l_mul (ee_var 2 (pv 2)) (ee_op op_addA l_add (ee_op op_mod l_mod (ee_callTy call_int1 l_int (by rfl) T.int (by decide +kernel) (ea_cons (ee_var 2 (pv 2)) ea_nil)) ee_int) ee_int)) (ee_op op_mul l_mul ee_int (ee_ix (ee_var 0 (pv 0)) ee_int (fun _ _ => rfl)))) ea_nil)) ee_int) (eg_subL (ee_var 0 (pv 0)) ee_int (pg_sub (ee_var 0 (pv 0)) ee_int set_list))) (es_one (es_ret (ee_op op_mod l_mod (ee_callTy call_int1 l_int (by rfl) T.int (by decide +kernel) (ea_cons (ee_op op_fdivW l_fdiv (ee_ix (ee_var 0 (pv 0)) ee_int (fun _ _ => rfl)) ee_int) ea_nil)) (ee_var 1 (pv 1)))))))))
theorem c__law_draw {f : Addr} {fd : FuncData} (hm : mg "_law_draw" = some (.ref f)) (F : FunD K "_law_draw" "_law_draw" (defArgs s__law_draw) (defBody s__law_draw) (defScope s__law_draw) [] [] f fd) (T : Txt K w mg) : Cal P w K mg base 1 "_law_draw" p__law_draw (spM K m__law_draw) :=
  cal_of hm F (fun _ _ _ _ _ _ us hl => match us, hl with | [_, _], _ => rfl) (fun _ _ _ _ _ _ us hl => match us, hl with | [_, _], _ => rfl) (fn_def F sc__law_draw fun cdv A outer s H E hr => e__law_draw T  cdv A outer s H E hr)
abbrev s__law_pick : Stmt := top 35
abbrev N__law_pick : List Str := ["_law_well_here", "_law_some"]
abbrev p__law_pick : List Str := ["_law_well_here", "_law_some"]
theorem sc__law_pick : FnScope N__law_pick p__law_pick (defScope s__law_pick) := ⟨rfl, rfl, rfl, by decide +kernel, rfl, by decide +kernel, by decide +kernel⟩
def b__law_pick : Es := (sRet (eOp gIx (eVar 1) (eArgs m__law_draw (aCons (eVar 0) (aCons (eArgs gLen (aCons (eVar 1) aNil)) aNil)))))
def m__law_pick : Fn := mkDef 2 2 b__law_pick
set_option maxHeartbeats 4000000 in
theorem e__law_pick {f : Addr} (T : Txt K w mg) (C__law_draw : Cal P w K mg base 1 "_law_draw" p__law_draw (spM K m__law_draw)) (cdv : Value) (A : Around) (outer : List PySem.Env) (s : Shared) (H : Hp) (E : XK) (hr : Room 1 (A.deeper (envOfC "_law_pick" (defScope s__law_pick) s.heap.objs.size f cdv))) :
    ESs (cxOf CX0 P w K mg base N__law_pick "_law_pick" (defScope s__law_pick) f cdv A outer s H E).nox (defBody s__law_pick) b__law_pick :=
  have S := sc__law_pick
  (es_one (es_ret (ee_ix (ee_var 1 (pv 1)) (ee_callC C__law_draw hr (by first | decide | omega) (by rfl) (ea_cons (ee_var 0 (pv 0)) (ea_cons (ee_callB call_lenA l_len (by rfl) T.len (by decide +kernel) (ea_cons (ee_var 1 (pv 1)) ea_nil)) ea_nil))) (fun _ _ => rfl))))
theorem c__law_pick {f : Addr} {fd : FuncData} (hm : mg "_law_pick" = some (.ref f)) (F : FunD K "_law_pick" "_law_pick" (defArgs s__law_pick) (defBody s__law_pick) (defScope s__law_pick) [] [] f fd) (T : Txt K w mg) (C__law_draw : Cal P w K mg base 1 "_law_draw" p__law_draw (spM K m__law_draw)) : Cal P w K mg base 2 "_law_pick" p__law_pick (spM K m__law_pick) :=
  cal_of hm F (fun _ _ _ _ _ _ us hl => match us, hl with | [_, _], _ => rfl) (fun _ _ _ _ _ _ us hl => match us, hl with | [_, _], _ => rfl) (fn_def F sc__law_pick fun cdv A outer s H E hr => e__law_pick T C__law_draw cdv A outer s H E hr)
abbrev s__law_number : Stmt := top 43
abbrev N__law_number : List Str := ["_law_well_here"]
abbrev p__law_number : List Str := ["_law_well_here"]
theorem sc__law_number : FnScope N__law_number p__law_number (defScope s__law_number) := ⟨rfl, rfl, rfl, by decide +kernel, rfl, by decide +kernel, by decide +kernel⟩
def b__law_number : Es := (sRet (eIf (tV (eOp gGt (eArgs m__law_draw (aCons (eVar 0) (aCons (eC (.int 4)) aNil))) (eC (.int 0)))) (eOp gSub (eArgs m__law_draw (aCons (eVar 0) (aCons (eC (.int 9)) aNil))) (eC (.int 3))) (eOp gSub (eArgs m__law_draw (aCons (eVar 0) (aCons (eOp gPow (eC (.int 10)) (eC (.int 12))) aNil))) (eC (.int 1500007)))))
def m__law_number : Fn := mkDef 1 1 b__law_number
set_option maxHeartbeats 4000000 in
theorem e__law_number {f : Addr} (T : Txt K w mg) (C__law_draw : Cal P w K mg base 1 "_law_draw" p__law_draw (spM K m__law_draw)) (cdv : Value) (A : Around) (outer : List PySem.Env) (s : Shared) (H : Hp) (E : XK) (hr : Room 1 (A.deeper (envOfC "_law_number" (defScope s__law_number) s.heap.objs.size f cdv))) :
    ESs (cxOf CX0 P w K mg base N__law_number "_law_number" (defScope s__law_number) f cdv A outer s H E).nox (defBody s__law_number) b__law_number :=
  have S := sc__law_number
  (es_one (es_ret (ee_if (et_cmp (op_gt) l_gt (ee_callC C__law_draw hr (by first | decide | omega) (by rfl) (ea_cons (ee_var 0 (pv 0)) (ea_cons ee_int ea_nil))) ee_int (nomark _)) (ee_op op_sub l_sub (ee_callC C__law_draw hr (by first | decide | omega) (by rfl) (ea_cons (ee_var 0 (pv 0)) (ea_cons ee_int ea_nil))) ee_int) (ee_op op_sub l_sub (ee_callC C__law_draw hr (by first | decide | omega) (by rfl) (ea_cons (ee_var 0 (pv 0)) (ea_cons (ee_op op_pow l_pow ee_int ee_int) ea_nil))) ee_int))))
theorem c__law_number {f : Addr} {fd : FuncData} (hm : mg "_law_number" = some (.ref f)) (F : FunD K "_law_number" "_law_number" (defArgs s__law_number) (defBody s__law_number) (defScope s__law_number) [] [] f fd) (T : Txt K w mg) (C__law_draw : Cal P w K mg base 1 "_law_draw" p__law_draw (spM K m__law_draw)) : Cal P w K mg base 2 "_law_number" p__law_number (spM K m__law_number) :=
  cal_of hm F (fun _ _ _ _ _ _ us hl => match us, hl with | [_], _ => rfl) (fun _ _ _ _ _ _ us hl => match us, hl with | [_], _ => rfl) (fn_def F sc__law_number fun cdv A outer s H E hr => e__law_number T C__law_draw cdv A outer s H E hr)
abbrev s__law_filled : Stmt := top 44
abbrev N__law_filled : List Str := ["_law_well_here", "_law_wide", "_law_some", "_law_at", "_law_count", "_law_words", "_law_turn"]
abbrev p__law_filled : List Str := ["_law_well_here", "_law_wide"]
theorem sc__law_filled : FnScope N__law_filled p__law_filled (defScope s__law_filled) := ⟨rfl, rfl, rfl, by decide +kernel, rfl, by decide +kernel, by decide +kernel⟩
def b__law_filled : Es := (sSeq (sSet 2 (eNew (eArgs gLstP aNil))) (sSeq (sFor (iArgs gRange (aCons (eOp gAdd (eC (.int 1)) (eArgs m__law_draw (aCons (eVar 0) (aCons (eC (.int 6)) aNil)))) aNil)) (nName 3) (sExpr (eMeth1 gApp (eVar 2) (eArgs m__law_number (aCons (eVar 0) aNil))))) (sSeq (sSet 4 (eArgs m__law_pick (aCons (eVar 0) (aCons (eArgs gTupP (aCons (eC (.int 0)) (aCons (eC (.int 1)) (aCons (eVar 1) (aCons (eOp gSub (eVar 1) (eC (.int 1))) (aCons (eC (.int 5)) (aCons (eArgs m__law_draw (aCons (eVar 0) (aCons (eOp gAdd (eVar 1) (eC (.int 1))) aNil))) aNil))))))) aNil)))) (sSeq (sSet 5 (fSl (eOp gRepL (eVar 2) (eVar 1)) oNone (oSome (eVar 4)))) (sSeq (sSet 6 (eOp gAdd (eC (.int 1)) (eIf (tV (eOp gGt (eArgs m__law_draw (aCons (eVar 0) (aCons (eC (.int 3)) aNil))) (eC (.int 0)))) (eArgs m__law_draw (aCons (eVar 0) (aCons (eC (.int 3)) aNil))) (eArgs m__law_draw (aCons (eVar 0) (aCons (eC (.int 3000000)) aNil)))))) (sRet (eNew (eOp gCat (eOp gCat (eOp gCat (eArgs gLstP (aCons (eVar 6) (aCons (eVar 4) (aCons (eOp gAdd (eOp gAdd (eVar 6) (eVar 4)) (eArgs gSumA (aCons (eVar 5) aNil))) aNil)))) (eVar 5)) (eOp gRepL (eArgs gLstP (aCons (eC (.int 0)) aNil)) (eOp gSub (eVar 1) (eVar 4)))) (eArgs gLstP (aCons (eVar 6) aNil))))))))))
def m__law_filled : Fn := mkNew 2 7 b__law_filled
set_option maxHeartbeats 4000000 in
theorem e__law_filled {f : Addr} (T : Txt K w mg) (C__law_draw : Cal P w K mg base 1 "_law_draw" p__law_draw (spM K m__law_draw)) (C__law_number : Cal P w K mg base 2 "_law_number" p__law_number (spM K m__law_number)) (C__law_pick : Cal P w K mg base 2 "_law_pick" p__law_pick (spM K m__law_pick)) (cdv : Value) (A : Around) (outer : List PySem.Env) (s : Shared) (H : Hp) (E : XK) (hr : Room 2 (A.deeper (envOfC "_law_filled" (defScope s__law_filled) s.heap.objs.size f cdv))) :
    ESs (cxOf CX0 P w K mg base N__law_filled "_law_filled" (defScope s__law_filled) f cdv A outer s H E).nox (defBody s__law_filled) b__law_filled :=
  have S := sc__law_filled
  (es_cons (es_set (ps_set (i := 2) S.nd rfl (Or.inl rfl) (ee_new (ef_lst ea_nil)))) (es_cons (es_for PassesOwn.never rfl (ei_range1 (by rfl) T.range (ea_cons (ee_op op_addA l_add ee_int (ee_callC C__law_draw hr (by first | decide | omega) (by rfl) (ea_cons (ee_var 0 (pv 0)) (ea_cons ee_int ea_nil)))) ea_nil) (by intro ρ S ps S' h; exact aLen1 h)) (eg_name (pg_name (i := 3) S.nd rfl (Or.inl rfl))) (es_one (es_expr (ee_meth1 l_app (pe_bm PySem.F.plainAttrs_list PySem.F.slot_list_append PySem.F.type_list_append mt_append (ee_var 2 (pv 2)) (pa_cons (ee_callC C__law_number hr (by first | decide | omega) (by rfl) (ea_cons (ee_var 0 (pv 0)) ea_nil)) pa_nil)))))) (es_cons (es_set (ps_set (i := 4) S.nd rfl (Or.inl rfl) (ee_callC C__law_pick hr (by first | decide | omega) (by rfl) (ea_cons (ee_var 0 (pv 0)) (ea_cons (ee_tup (ea_cons ee_int (ea_cons ee_int (ea_cons (ee_var 1 (pv 1)) (ea_cons (ee_op op_sub l_sub (ee_var 1 (pv 1)) ee_int) (ea_cons ee_int (ea_cons (ee_callC C__law_draw hr (by first | decide | omega) (by rfl) (ea_cons (ee_var 0 (pv 0)) (ea_cons (ee_op op_addA l_add (ee_var 1 (pv 1)) ee_int) ea_nil))) ea_nil))))))) ea_nil))))) (es_cons (es_set (ps_set (i := 5) S.nd rfl (Or.inl rfl) (ee_pure (ef_sl (ee_pure (ef_repL (ee_var 2 (pv 2)) (ee_var 1 (pv 1)))) eo_none (eo_some (ee_var 4 (pv 4))))))) (es_cons (es_set (ps_set (i := 6) S.nd rfl (Or.inl rfl) (ee_op op_addA l_add ee_int (ee_if (et_cmp (op_gt) l_gt (ee_callC C__law_draw hr (by first | decide | omega) (by rfl) (ea_cons (ee_var 0 (pv 0)) (ea_cons ee_int ea_nil))) ee_int (nomark _)) (ee_callC C__law_draw hr (by first | decide | omega) (by rfl) (ea_cons (ee_var 0 (pv 0)) (ea_cons ee_int ea_nil))) (ee_callC C__law_draw hr (by first | decide | omega) (by rfl) (ea_cons (ee_var 0 (pv 0)) (ea_cons ee_int ea_nil))))))) (es_one (es_ret (ee_new (ef_cat (ee_pure (ef_cat (ee_pure (ef_cat (ee_pure (ef_lst (ea_cons (ee_var 6 (pv 6)) (ea_cons (ee_var 4 (pv 4)) (ea_cons (ee_op op_addA l_add (ee_op op_addA l_add (ee_var 6 (pv 6)) (ee_var 4 (pv 4))) (ee_callB (call_sumA rfl) l_sumA (by rfl) T.sum (by decide +kernel) (ea_cons (ee_var 5 (pv 5)) ea_nil))) ea_nil))))) (ee_var 5 (pv 5)))) (ee_pure (ef_repL (ee_pure (ef_lst (ea_cons ee_int ea_nil))) (ee_op op_sub l_sub (ee_var 1 (pv 1)) (ee_var 4 (pv 4))))))) (ee_pure (ef_lst (ea_cons (ee_var 6 (pv 6)) ea_nil))))))))))))
theorem c__law_filled {f : Addr} {fd : FuncData} (hm : mg "_law_filled" = some (.ref f)) (F : FunD K "_law_filled" "_law_filled" (defArgs s__law_filled) (defBody s__law_filled) (defScope s__law_filled) [] [] f fd) (T : Txt K w mg) (C__law_draw : Cal P w K mg base 1 "_law_draw" p__law_draw (spM K m__law_draw)) (C__law_number : Cal P w K mg base 2 "_law_number" p__law_number (spM K m__law_number)) (C__law_pick : Cal P w K mg base 2 "_law_pick" p__law_pick (spM K m__law_pick)) : Cal P w K mg base 3 "_law_filled" p__law_filled (spN K m__law_filled) :=
  cal_of hm F (fun _ _ _ _ _ _ us hl => match us, hl with | [_, _], _ => rfl) (fun _ _ _ _ _ _ us hl => match us, hl with | [_, _], _ => rfl) (fn_new F sc__law_filled fun cdv A outer s H E hr => e__law_filled T C__law_draw C__law_number C__law_pick cdv A outer s H E hr)
abbrev s__law_turned : Stmt := top 45
abbrev N__law_turned : List Str := ["_law_well_here", "_law_cells", "_law_size", "_law_kind", "_law_again", "_law_by", "_law_spot", "_law_old"]
abbrev p__law_turned : List Str := ["_law_well_here", "_law_cells"]
theorem sc__law_turned : FnScope N__law_turned p__law_turned (defScope s__law_turned) := ⟨rfl, rfl, rfl, by decide +kernel, rfl, by decide +kernel, by decide +kernel⟩
def b__law_turned : Es := (sSeq (sSet 2 (eArgs gLen (aCons (eVar 1) aNil))) (sSeq (sSet 3 (eArgs m__law_draw (aCons (eVar 0) (aCons (eC (.int 6)) aNil)))) (sSeq (sIf (tV (eOp gEq (eVar 3) (eC (.int 0)))) (sSeq (sSet 5 (eArgs m__law_pick (aCons (eVar 0) (aCons (eArgs gTupP (aCons (eC (.int 1)) (aCons (eUn gNeg (eC (.int 1))) aNil))) aNil)))) (sSeq (sAsg (eArgs gTupP (aCons (eOp gAdd (eOp gIx (eVar 1) (eC (.int 1))) (eVar 5)) (aCons (eOp gAdd (eOp gIx (eVar 1) (eC (.int 2))) (eVar 5)) aNil))) (nTup 2 (nCons (nSubL (eVar 1) (eC (.int 1))) (nCons (nSubL (eVar 1) (eC (.int 2))) nNil)))) (sRet (eVar 1)))) sNil) (sSeq (sIf (tV (eOp gEq (eVar 3) (eC (.int 1)))) (sSeq (sSet 5 (eIf (tV (eOp gEq (eArgs m__law_draw (aCons (eVar 0) (aCons (eC (.int 2)) aNil))) (eC (.int 0)))) (eOp gIx (eVar 1) (eC (.int 0))) (eOp gMul (eC (.int 2)) (eOp gIx (eVar 1) (eC (.int 0)))))) (sSeq (sAsg (eArgs gTupP (aCons (eOp gSub (eOp gIx (eVar 1) (eC (.int 0))) (eVar 5)) (aCons (eOp gSub (eOp gIx (eVar 1) (eC (.int 2))) (eVar 5)) (aCons (eOp gSub (eOp gIx (eVar 1) (eUn gNeg (eC (.int 1)))) (eVar 5)) aNil)))) (nTup 3 (nCons (nSubL (eVar 1) (eC (.int 0))) (nCons (nSubL (eVar 1) (eC (.int 2))) (nCons (nSubL (eVar 1) (eUn gNeg (eC (.int 1)))) nNil))))) (sRet (eVar 1)))) sNil) (sSeq (sFor (iArgs gRange (aCons (eIf (tV (eOp gLt (eVar 3) (eC (.int 5)))) (eC (.int 1)) (eC (.int 2))) aNil)) (nName 4) (sSeq (sSet 6 (eArgs m__law_pick (aCons (eVar 0) (aCons (eArgs gTupP (aCons (eC (.int 0)) (aCons (eC (.int 1)) (aCons (eC (.int 2)) (aCons (eC (.int 3)) (aCons (eOp gSub (eVar 2) (eC (.int 2))) (aCons (eOp gSub (eVar 2) (eC (.int 1))) (aCons (eArgs m__law_draw (aCons (eVar 0) (aCons (eVar 2) aNil))) aNil)))))))) aNil)))) (sSeq (sSet 7 (eOp gIx (eVar 1) (eVar 6))) (sAsg (eArgs m__law_pick (aCons (eVar 0) (aCons (eArgs gTupP (aCons (eOp gAdd (eVar 7) (eC (.int 1))) (aCons (eOp gSub (eVar 7) (eC (.int 1))) (aCons (eC (.int 0)) (aCons (eOp gSub (eC (.int 0)) (eVar 7)) (aCons (eOp gIx (eVar 1) (eC (.int 0))) (aCons (eOp gIx (eVar 1) (eC (.int 1))) (aCons (eArgs m__law_number (aCons (eVar 0) aNil)) aNil)))))))) aNil))) (nSubL (eVar 1) (eVar 6)))))) (sRet (eVar 1)))))))
def m__law_turned : Fn := mkDef 2 8 b__law_turned
set_option maxHeartbeats 4000000 in
theorem e__law_turned {f : Addr} (T : Txt K w mg) (C__law_draw : Cal P w K mg base 1 "_law_draw" p__law_draw (spM K m__law_draw)) (C__law_number : Cal P w K mg base 2 "_law_number" p__law_number (spM K m__law_number)) (C__law_pick : Cal P w K mg base 2 "_law_pick" p__law_pick (spM K m__law_pick)) (cdv : Value) (A : Around) (outer : List PySem.Env) (s : Shared) (H : Hp) (E : XK) (hr : Room 2 (A.deeper (envOfC "_law_turned" (defScope s__law_turned) s.heap.objs.size f cdv))) :
    ESs (cxOf CX0 P w K mg base N__law_turned "_law_turned" (defScope s__law_turned) f cdv A outer s H E).nox (defBody s__law_turned) b__law_turned :=
  have S := sc__law_turned
  (es_cons (es_set (ps_set (i := 2) S.nd rfl (Or.inl rfl) (ee_callB call_lenA l_len (by rfl) T.len (by decide +kernel) (ea_cons (ee_var 1 (pv 1)) ea_nil)))) (es_cons (es_set (ps_set (i := 3) S.nd rfl (Or.inl rfl) (ee_callC C__law_draw hr (by first | decide | omega) (by rfl) (ea_cons (ee_var 0 (pv 0)) (ea_cons ee_int ea_nil))))) (es_cons (es_if (et_cmp (op_eqA (hu64 hr)) l_eq (ee_var 3 (pv 3)) ee_int (nomark _)) (es_cons (es_set (ps_set (i := 5) S.nd rfl (Or.inl rfl) (ee_callC C__law_pick hr (by first | decide | omega) (by rfl) (ea_cons (ee_var 0 (pv 0)) (ea_cons (ee_tup (ea_cons ee_int (ea_cons (ee_un un_neg l_neg ee_int) ea_nil))) ea_nil))))) (es_cons (es_asg (ee_tup (ea_cons (ee_op op_addA l_add (ee_ix (ee_var 1 (pv 1)) ee_int (fun _ _ => rfl)) (ee_var 5 (pv 5))) (ea_cons (ee_op op_addA l_add (ee_ix (ee_var 1 (pv 1)) ee_int (fun _ _ => rfl)) (ee_var 5 (pv 5))) ea_nil))) (eg_tup rfl (egs_cons (eg_subL (ee_var 1 (pv 1)) ee_int (pg_sub (ee_var 1 (pv 1)) ee_int set_list)) (egs_cons (eg_subL (ee_var 1 (pv 1)) ee_int (pg_sub (ee_var 1 (pv 1)) ee_int set_list)) egs_nil)))) (es_one (es_ret (ee_var 1 (pv 1)))))) es_nil) (es_cons (es_if (et_cmp (op_eqA (hu64 hr)) l_eq (ee_var 3 (pv 3)) ee_int (nomark _)) (es_cons (es_set (ps_set (i := 5) S.nd rfl (Or.inl rfl) (ee_if (et_cmp (op_eqA (hu64 hr)) l_eq (ee_callC C__law_draw hr (by first | decide | omega) (by rfl) (ea_cons (ee_var 0 (pv 0)) (ea_cons ee_int ea_nil))) ee_int (nomark _)) (ee_ix (ee_var 1 (pv 1)) ee_int (fun _ _ => rfl)) (ee_op op_mul l_mul ee_int (ee_ix (ee_var 1 (pv 1)) ee_int (fun _ _ => rfl)))))) (es_cons (es_asg (ee_tup (ea_cons (ee_op op_sub l_sub (ee_ix (ee_var 1 (pv 1)) ee_int (fun _ _ => rfl)) (ee_var 5 (pv 5))) (ea_cons (ee_op op_sub l_sub (ee_ix (ee_var 1 (pv 1)) ee_int (fun _ _ => rfl)) (ee_var 5 (pv 5))) (ea_cons (ee_op op_sub l_sub (ee_ix (ee_var 1 (pv 1)) (ee_un un_neg l_neg ee_int) (fun _ _ => rfl)) (ee_var 5 (pv 5))) ea_nil)))) (eg_tup rfl (egs_cons (eg_subL (ee_var 1 (pv 1)) ee_int (pg_sub (ee_var 1 (pv 1)) ee_int set_list)) (egs_cons (eg_subL (ee_var 1 (pv 1)) ee_int (pg_sub (ee_var 1 (pv 1)) ee_int set_list)) (egs_cons (eg_subL (ee_var 1 (pv 1)) (ee_un un_neg l_neg ee_int) (pg_sub (ee_var 1 (pv 1)) (ee_un un_neg l_neg ee_int) set_list)) egs_nil))))) (es_one (es_ret (ee_var 1 (pv 1)))))) es_nil) (es_cons (es_for PassesOwn.never rfl (ei_range1 (by rfl) T.range (ea_cons (ee_if (et_cmp (op_lt) l_lt (ee_var 3 (pv 3)) ee_int (nomark _)) ee_int ee_int) ea_nil) (by intro ρ S ps S' h; exact aLen1 h)) (eg_name (pg_name (i := 4) S.nd rfl (Or.inl rfl))) (es_cons (es_set (ps_set (i := 6) S.nd rfl (Or.inl rfl) (ee_callC C__law_pick hr (by first | decide | omega) (by rfl) (ea_cons (ee_var 0 (pv 0)) (ea_cons (ee_tup (ea_cons ee_int (ea_cons ee_int (ea_cons ee_int (ea_cons ee_int (ea_cons (ee_op op_sub l_sub (ee_var 2 (pv 2)) ee_int) (ea_cons (ee_op op_sub l_sub (ee_var 2 (pv 2)) ee_int) (ea_cons (ee_callC C__law_draw hr (by first | decide | omega) (by rfl) (ea_cons (ee_var 0 (pv 0)) (ea_cons (ee_var 2 (pv 2)) ea_nil))) ea_nil)))))))) ea_nil))))) (es_cons (es_set (ps_set (i := 7) S.nd rfl (Or.inl rfl) (ee_ix (ee_var 1 (pv 1)) (ee_var 6 (pv 6)) (fun _ _ => rfl)))) (es_one (es_asg (ee_callC C__law_pick hr (by first | decide | omega) (by rfl) (ea_cons (ee_var 0 (pv 0)) (ea_cons (ee_tup (ea_cons (ee_op op_addA l_add (ee_var 7 (pv 7)) ee_int) (ea_cons (ee_op op_sub l_sub (ee_var 7 (pv 7)) ee_int) (ea_cons ee_int (ea_cons (ee_op op_sub l_sub ee_int (ee_var 7 (pv 7))) (ea_cons (ee_ix (ee_var 1 (pv 1)) ee_int (fun _ _ => rfl)) (ea_cons (ee_ix (ee_var 1 (pv 1)) ee_int (fun _ _ => rfl)) (ea_cons (ee_callC C__law_number hr (by first | decide | omega) (by rfl) (ea_cons (ee_var 0 (pv 0)) ea_nil)) ea_nil)))))))) ea_nil))) (eg_subL (ee_var 1 (pv 1)) (ee_var 6 (pv 6)) (pg_sub (ee_var 1 (pv 1)) (ee_var 6 (pv 6)) set_list))))))) (es_one (es_ret (ee_var 1 (pv 1)))))))))
theorem c__law_turned {f : Addr} {fd : FuncData} (hm : mg "_law_turned" = some (.ref f)) (F : FunD K "_law_turned" "_law_turned" (defArgs s__law_turned) (defBody s__law_turned) (defScope s__law_turned) [] [] f fd) (T : Txt K w mg) (C__law_draw : Cal P w K mg base 1 "_law_draw" p__law_draw (spM K m__law_draw)) (C__law_number : Cal P w K mg base 2 "_law_number" p__law_number (spM K m__law_number)) (C__law_pick : Cal P w K mg base 2 "_law_pick" p__law_pick (spM K m__law_pick)) : Cal P w K mg base 3 "_law_turned" p__law_turned (spM K m__law_turned) :=
  cal_of hm F (fun _ _ _ _ _ _ us hl => match us, hl with | [_, _], _ => rfl) (fun _ _ _ _ _ _ us hl => match us, hl with | [_, _], _ => rfl) (fn_def F sc__law_turned fun cdv A outer s H E hr => e__law_turned T C__law_draw C__law_number C__law_pick cdv A outer s H E hr)
abbrev s__law_slot : Stmt := top 46
abbrev N__law_slot : List Str := ["_law_well_here", "_law_wide", "_law_kind", "_law_cells"]
abbrev p__law_slot : List Str := ["_law_well_here", "_law_wide"]
theorem sc__law_slot : FnScope N__law_slot p__law_slot (defScope s__law_slot) := ⟨rfl, rfl, rfl, by decide +kernel, rfl, by decide +kernel, by decide +kernel⟩
def b__law_slot : Es := (sSeq (sSet 2 (eArgs m__law_draw (aCons (eVar 0) (aCons (eC (.int 8)) aNil)))) (sSeq (sIf (tV (eOp gEq (eVar 2) (eC (.int 0)))) (sRet (eOp gRepL (eArgs gLstP (aCons (eC (.int 0)) aNil)) (eOp gAdd (eVar 1) (eC (.int 4))))) sNil) (sSeq (sSet 3 (eNew (eArgs m__law_filled (aCons (eVar 0) (aCons (eVar 1) aNil))))) (sRet (eIf (tV (eOp gLt (eVar 2) (eC (.int 4)))) (eVar 3) (eArgs m__law_turned (aCons (eVar 0) (aCons (eVar 3) aNil))))))))
def m__law_slot : Fn := mkDef 2 4 b__law_slot
set_option maxHeartbeats 4000000 in
theorem e__law_slot {f : Addr} (T : Txt K w mg) (C__law_draw : Cal P w K mg base 1 "_law_draw" p__law_draw (spM K m__law_draw)) (C__law_filled : Cal P w K mg base 3 "_law_filled" p__law_filled (spN K m__law_filled)) (C__law_turned : Cal P w K mg base 3 "_law_turned" p__law_turned (spM K m__law_turned)) (cdv : Value) (A : Around) (outer : List PySem.Env) (s : Shared) (H : Hp) (E : XK) (hr : Room 3 (A.deeper (envOfC "_law_slot" (defScope s__law_slot) s.heap.objs.size f cdv))) :
    ESs (cxOf CX0 P w K mg base N__law_slot "_law_slot" (defScope s__law_slot) f cdv A outer s H E).nox (defBody s__law_slot) b__law_slot :=
  have S := sc__law_slot
  (es_cons (es_set (ps_set (i := 2) S.nd rfl (Or.inl rfl) (ee_callC C__law_draw hr (by first | decide | omega) (by rfl) (ea_cons (ee_var 0 (pv 0)) (ea_cons ee_int ea_nil))))) (es_cons (es_if (et_cmp (op_eqA (hu64 hr)) l_eq (ee_var 2 (pv 2)) ee_int (nomark _)) (es_one (es_ret (ee_pure (ef_repL (ee_pure (ef_lst (ea_cons ee_int ea_nil))) (ee_op op_addA l_add (ee_var 1 (pv 1)) ee_int))))) es_nil) (es_cons (es_set (ps_set (i := 3) S.nd rfl (Or.inl rfl) (ee_new (ef_callC C__law_filled hr (by first | decide | omega) (by rfl) (ea_cons (ee_var 0 (pv 0)) (ea_cons (ee_var 1 (pv 1)) ea_nil)))))) (es_one (es_ret (ee_if (et_cmp (op_lt) l_lt (ee_var 2 (pv 2)) ee_int (nomark _)) (ee_var 3 (pv 3)) (ee_callC C__law_turned hr (by first | decide | omega) (by rfl) (ea_cons (ee_var 0 (pv 0)) (ea_cons (ee_var 3 (pv 3)) ea_nil)))))))))
theorem c__law_slot {f : Addr} {fd : FuncData} (hm : mg "_law_slot" = some (.ref f)) (F : FunD K "_law_slot" "_law_slot" (defArgs s__law_slot) (defBody s__law_slot) (defScope s__law_slot) [] [] f fd) (T : Txt K w mg) (C__law_draw : Cal P w K mg base 1 "_law_draw" p__law_draw (spM K m__law_draw)) (C__law_filled : Cal P w K mg base 3 "_law_filled" p__law_filled (spN K m__law_filled)) (C__law_turned : Cal P w K mg base 3 "_law_turned" p__law_turned (spM K m__law_turned)) : Cal P w K mg base 4 "_law_slot" p__law_slot (spM K m__law_slot) :=
  cal_of hm F (fun _ _ _ _ _ _ us hl => match us, hl with | [_, _], _ => rfl) (fun _ _ _ _ _ _ us hl => match us, hl with | [_, _], _ => rfl) (fn_def F sc__law_slot fun cdv A outer s H E hr => e__law_slot T C__law_draw C__law_filled C__law_turned cdv A outer s H E hr)
abbrev s_is_whole : Stmt := top 5
abbrev N_is_whole : List Str := ["value"]
abbrev p_is_whole : List Str := ["value"]
theorem sc_is_whole : FnScope N_is_whole p_is_whole (defScope s_is_whole) := ⟨rfl, rfl, rfl, by decide +kernel, rfl, by decide +kernel, by decide +kernel⟩
def b_is_whole : Es := (sRet (eAndV (eUn (gIsi .int) (eVar 0)) (eNotT (eUn (gIsi .bool) (eVar 0)))))
def m_is_whole : Fn := mkDef 1 1 b_is_whole
set_option maxHeartbeats 4000000 in
theorem e_is_whole {f : Addr} (T : Txt K w mg) (cdv : Value) (A : Around) (outer : List PySem.Env) (s : Shared) (H : Hp) (E : XK) (hr : Room 0 (A.deeper (envOfC "is_whole" (defScope s_is_whole) s.heap.objs.size f cdv))) :
    ESs (cxOf CX0 P w K mg base N_is_whole "is_whole" (defScope s_is_whole) f cdv A outer s H E).nox (defBody s_is_whole) b_is_whole :=
  have S := sc_is_whole
  (es_one (es_ret (ee_and (ee_isi .int (by rfl) T.isinstance (ee_var 0 (pv 0)) (pe_bltn (v := .ty "int") (by rfl) T.int (by decide +kernel) rfl)) (ee_one (ee_notT (ee_isi .bool (by rfl) T.isinstance (ee_var 0 (pv 0)) (pe_bltn (v := .ty "bool") (by rfl) T.bool (by decide +kernel) rfl)))))))
theorem c_is_whole {f : Addr} {fd : FuncData} (hm : mg "is_whole" = some (.ref f)) (F : FunD K "is_whole" "is_whole" (defArgs s_is_whole) (defBody s_is_whole) (defScope s_is_whole) [] [] f fd) (T : Txt K w mg) : Cal P w K mg base 1 "is_whole" p_is_whole (spM K m_is_whole) :=
  cal_of hm F (fun _ _ _ _ _ _ us hl => match us, hl with | [_], _ => rfl) (fun _ _ _ _ _ _ us hl => match us, hl with | [_], _ => rfl) (fn_def F sc_is_whole fun cdv A outer s H E hr => e_is_whole T  cdv A outer s H E hr)
abbrev s_is_whole_within : Stmt := top 6
abbrev N_is_whole_within : List Str := ["value", "least", "greatest"]
abbrev p_is_whole_within : List Str := ["value", "least", "greatest"]
theorem sc_is_whole_within : FnScope N_is_whole_within p_is_whole_within (defScope s_is_whole_within) := ⟨rfl, rfl, rfl, by decide +kernel, rfl, by decide +kernel, by decide +kernel⟩
def b_is_whole_within : Es := (sRet (eAndV (eArgs m_is_whole (aCons (eVar 0) aNil)) (eChain gLe gLe (eVar 1) (eVar 0) (eVar 2))))
def m_is_whole_within : Fn := mkDef 3 3 b_is_whole_within
set_option maxHeartbeats 4000000 in
theorem e_is_whole_within {f : Addr} (T : Txt K w mg) (C_is_whole : Cal P w K mg base 1 "is_whole" p_is_whole (spM K m_is_whole)) (cdv : Value) (A : Around) (outer : List PySem.Env) (s : Shared) (H : Hp) (E : XK) (hr : Room 1 (A.deeper (envOfC "is_whole_within" (defScope s_is_whole_within) s.heap.objs.size f cdv))) :
    ESs (cxOf CX0 P w K mg base N_is_whole_within "is_whole_within" (defScope s_is_whole_within) f cdv A outer s H E).nox (defBody s_is_whole_within) b_is_whole_within :=
  have S := sc_is_whole_within
  (es_one (es_ret (ee_and (ee_callC C_is_whole hr (by first | decide | omega) (by rfl) (ea_cons (ee_var 0 (pv 0)) ea_nil)) (ee_one (ee_chain (op_le) l_le (op_le) l_le (ee_var 1 (pv 1)) (ee_var 0 (pv 0)) (ee_var 2 (pv 2)) (by with_unfolding_all rfl) pure_gLe)))))
theorem c_is_whole_within {f : Addr} {fd : FuncData} (hm : mg "is_whole_within" = some (.ref f)) (F : FunD K "is_whole_within" "is_whole_within" (defArgs s_is_whole_within) (defBody s_is_whole_within) (defScope s_is_whole_within) [] [] f fd) (T : Txt K w mg) (C_is_whole : Cal P w K mg base 1 "is_whole" p_is_whole (spM K m_is_whole)) : Cal P w K mg base 2 "is_whole_within" p_is_whole_within (spM K m_is_whole_within) :=
  cal_of hm F (fun _ _ _ _ _ _ us hl => match us, hl with | [_, _, _], _ => rfl) (fun _ _ _ _ _ _ us hl => match us, hl with | [_, _, _], _ => rfl) (fn_def F sc_is_whole_within fun cdv A outer s H E hr => e_is_whole_within T C_is_whole cdv A outer s H E hr)
abbrev s_check_number : Stmt := top 8
abbrev N_check_number : List Str := ["value", "least", "greatest"]
abbrev p_check_number : List Str := ["value", "least", "greatest"]
theorem sc_check_number : FnScope N_check_number p_check_number (defScope s_check_number) := ⟨rfl, rfl, rfl, by decide +kernel, rfl, by decide +kernel, by decide +kernel⟩
def b_check_number : Es := (sIf (tNotE (tT (eArgs m_is_whole_within (aCons (eVar 0) (aCons (eVar 1) (aCons (eVar 2) aNil)))))) sNever sNil)
def m_check_number : Fn := mkDef 3 3 b_check_number
set_option maxHeartbeats 4000000 in
theorem e_check_number {f : Addr} (T : Txt K w mg) (C_is_whole_within : Cal P w K mg base 2 "is_whole_within" p_is_whole_within (spM K m_is_whole_within)) (cdv : Value) (A : Around) (outer : List PySem.Env) (s : Shared) (H : Hp) (E : XK) (hr : Room 2 (A.deeper (envOfC "check_number" (defScope s_check_number) s.heap.objs.size f cdv))) :
    ESs (cxOf CX0 P w K mg base N_check_number "check_number" (defScope s_check_number) f cdv A outer s H E).nox (defBody s_check_number) b_check_number :=
  have S := sc_check_number
  (es_one (es_if (et_not (et_truth (ee_callC C_is_whole_within hr (by first | decide | omega) (by rfl) (ea_cons (ee_var 0 (pv 0)) (ea_cons (ee_var 1 (pv 1)) (ea_cons (ee_var 2 (pv 2)) ea_nil)))))) (es_one es_never) es_nil))
theorem c_check_number {f : Addr} {fd : FuncData} (hm : mg "check_number" = some (.ref f)) (F : FunD K "check_number" "check_number" (defArgs s_check_number) (defBody s_check_number) (defScope s_check_number) [] [] f fd) (T : Txt K w mg) (C_is_whole_within : Cal P w K mg base 2 "is_whole_within" p_is_whole_within (spM K m_is_whole_within)) : Cal P w K mg base 3 "check_number" p_check_number (spM K m_check_number) :=
  cal_of hm F (fun _ _ _ _ _ _ us hl => match us, hl with | [_, _, _], _ => rfl) (fun _ _ _ _ _ _ us hl => match us, hl with | [_, _, _], _ => rfl) (fn_def F sc_check_number fun cdv A outer s H E hr => e_check_number T C_is_whole_within cdv A outer s H E hr)
abbrev s_blank_device : Stmt := top 21
abbrev N_blank_device : List Str := ["width"]
abbrev p_blank_device : List Str := ["width"]
theorem sc_blank_device : FnScope N_blank_device p_blank_device (defScope s_blank_device) := ⟨rfl, rfl, rfl, by decide +kernel, rfl, by decide +kernel, by decide +kernel⟩
def b_blank_device : Es := (sRet (eOp gRep (eArgs gTupP (aCons (eC (.int 0)) aNil)) (eOp gMul (eC (.int 2)) (eOp gAdd (eVar 0) (eC (.int 4))))))
def m_blank_device : Fn := mkDef 1 1 b_blank_device
set_option maxHeartbeats 4000000 in
theorem e_blank_device {f : Addr} (T : Txt K w mg) (cdv : Value) (A : Around) (outer : List PySem.Env) (s : Shared) (H : Hp) (E : XK) (hr : Room 0 (A.deeper (envOfC "blank_device" (defScope s_blank_device) s.heap.objs.size f cdv))) :
    ESs (cxOf CX0 P w K mg base N_blank_device "blank_device" (defScope s_blank_device) f cdv A outer s H E).nox (defBody s_blank_device) b_blank_device :=
  have S := sc_blank_device
  (es_one (es_ret (ee_op op_repA l_rep (ee_tup (ea_cons ee_int ea_nil)) (ee_op op_mul l_mul ee_int (ee_op op_addA l_add (ee_var 0 (pv 0)) (ee_gint T.kMORE_CELLS (by rfl)))))))
theorem c_blank_device {f : Addr} {fd : FuncData} (hm : mg "blank_device" = some (.ref f)) (F : FunD K "blank_device" "blank_device" (defArgs s_blank_device) (defBody s_blank_device) (defScope s_blank_device) [] [] f fd) (T : Txt K w mg) : Cal P w K mg base 1 "blank_device" p_blank_device (spM K m_blank_device) :=
  cal_of hm F (fun _ _ _ _ _ _ us hl => match us, hl with | [_], _ => rfl) (fun _ _ _ _ _ _ us hl => match us, hl with | [_], _ => rfl) (fn_def F sc_blank_device fun cdv A outer s H E hr => e_blank_device T  cdv A outer s H E hr)
abbrev s_blank : Stmt := top 26
abbrev N_blank : List Str := ["width"]
abbrev p_blank : List Str := ["width"]
theorem sc_blank : FnScope N_blank p_blank (defScope s_blank) := ⟨rfl, rfl, rfl, by decide +kernel, rfl, by decide +kernel, by decide +kernel⟩
def b_blank : Es := (sSeq (sExpr (eArgs m_check_number (aCons (eVar 0) (aCons (eC (.int 26)) (aCons (eC (.int 9000)) aNil))))) (sRet (eArgs m_blank_device (aCons (eVar 0) aNil))))
def m_blank : Fn := mkDef 1 1 b_blank
set_option maxHeartbeats 4000000 in
theorem e_blank {f : Addr} (T : Txt K w mg) (C_blank_device : Cal P w K mg base 1 "blank_device" p_blank_device (spM K m_blank_device)) (C_check_number : Cal P w K mg base 3 "check_number" p_check_number (spM K m_check_number)) (cdv : Value) (A : Around) (outer : List PySem.Env) (s : Shared) (H : Hp) (E : XK) (hr : Room 3 (A.deeper (envOfC "blank" (defScope s_blank) s.heap.objs.size f cdv))) :
    ESs (cxOf CX0 P w K mg base N_blank "blank" (defScope s_blank) f cdv A outer s H E).nox (defBody s_blank) b_blank :=
  have S := sc_blank
  (es_cons (es_expr (ee_callC C_check_number hr (by first | decide | omega) (by rfl) (ea_cons (ee_var 0 (pv 0)) (ea_cons (ee_gint T.kLEAST_WIDTH (by rfl)) (ea_cons (ee_gint T.kMOST_WIDTH (by rfl)) ea_nil))))) (es_one (es_ret (ee_callC C_blank_device hr (by first | decide | omega) (by rfl) (ea_cons (ee_var 0 (pv 0)) ea_nil)))))
theorem c_blank {f : Addr} {fd : FuncData} (hm : mg "blank" = some (.ref f)) (F : FunD K "blank" "blank" (defArgs s_blank) (defBody s_blank) (defScope s_blank) [] [] f fd) (T : Txt K w mg) (C_blank_device : Cal P w K mg base 1 "blank_device" p_blank_device (spM K m_blank_device)) (C_check_number : Cal P w K mg base 3 "check_number" p_check_number (spM K m_check_number)) : Cal P w K mg base 4 "blank" p_blank (spM K m_blank) :=
  cal_of hm F (fun _ _ _ _ _ _ us hl => match us, hl with | [_], _ => rfl) (fun _ _ _ _ _ _ us hl => match us, hl with | [_], _ => rfl) (fn_def F sc_blank fun cdv A outer s H E hr => e_blank T C_blank_device C_check_number cdv A outer s H E hr)
abbrev s__law_is_whole : Stmt := top 36
abbrev N__law_is_whole : List Str := ["_law_thing"]
abbrev p__law_is_whole : List Str := ["_law_thing"]
theorem sc__law_is_whole : FnScope N__law_is_whole p__law_is_whole (defScope s__law_is_whole) := ⟨rfl, rfl, rfl, by decide +kernel, rfl, by decide +kernel, by decide +kernel⟩
def b__law_is_whole : Es := (sRet (eAndV (eUn (gIsi .int) (eVar 0)) (eNotT (eUn (gIsi .bool) (eVar 0)))))
def m__law_is_whole : Fn := mkDef 1 1 b__law_is_whole
set_option maxHeartbeats 4000000 in
theorem e__law_is_whole {f : Addr} (T : Txt K w mg) (cdv : Value) (A : Around) (outer : List PySem.Env) (s : Shared) (H : Hp) (E : XK) (hr : Room 0 (A.deeper (envOfC "_law_is_whole" (defScope s__law_is_whole) s.heap.objs.size f cdv))) :
    ESs (cxOf CX0 P w K mg base N__law_is_whole "_law_is_whole" (defScope s__law_is_whole) f cdv A outer s H E).nox (defBody s__law_is_whole) b__law_is_whole :=
  have S := sc__law_is_whole
  (es_one (es_ret (ee_and (ee_isi .int (by rfl) T.isinstance (ee_var 0 (pv 0)) (pe_bltn (v := .ty "int") (by rfl) T.int (by decide +kernel) rfl)) (ee_one (ee_notT (ee_isi .bool (by rfl) T.isinstance (ee_var 0 (pv 0)) (pe_bltn (v := .ty "bool") (by rfl) T.bool (by decide +kernel) rfl)))))))
theorem c__law_is_whole {f : Addr} {fd : FuncData} (hm : mg "_law_is_whole" = some (.ref f)) (F : FunD K "_law_is_whole" "_law_is_whole" (defArgs s__law_is_whole) (defBody s__law_is_whole) (defScope s__law_is_whole) [] [] f fd) (T : Txt K w mg) : Cal P w K mg base 1 "_law_is_whole" p__law_is_whole (spM K m__law_is_whole) :=
  cal_of hm F (fun _ _ _ _ _ _ us hl => match us, hl with | [_], _ => rfl) (fun _ _ _ _ _ _ us hl => match us, hl with | [_], _ => rfl) (fn_def F sc__law_is_whole fun cdv A outer s H E hr => e__law_is_whole T  cdv A outer s H E hr)
abbrev s__law_same : Stmt := top 37
abbrev N__law_same : List Str := ["_law_told", "_law_due", "_law_x", "_law_y"]
abbrev p__law_same : List Str := ["_law_told", "_law_due"]
theorem sc__law_same : FnScope N__law_same p__law_same (defScope s__law_same) := ⟨rfl, rfl, rfl, by decide +kernel, rfl, by decide +kernel, by decide +kernel⟩
def b__law_same (m_self : Fn) : Es := (sSeq (sIf (tT (eUn (gIsi .tuple) (eVar 1))) (sRet (eAndV (eUn (gIsi .tuple) (eVar 0)) (eAndV (eOp gEq (eArgs gLen (aCons (eVar 0) aNil)) (eArgs gLen (aCons (eVar 1) aNil))) (eArgs gAll (aCons (fComp (iArgs gZip (aCons (eVar 0) (aCons (eVar 1) aNil))) (nTup 2 (nNs [2, 3])) tYesE (eArgs m_self (aCons (eVar 2) (aCons (eVar 3) aNil))) [2, 3]) aNil))))) sNil) (sSeq (sIf (tV (eOp gIsN (eVar 1) (eC .non))) (sRet (eOp gIsN (eVar 0) (eC .non))) sNil) (sSeq (sIf (tT (eUn (gIsi .bool) (eVar 1))) (sRet (eAndV (eUn (gIsi .bool) (eVar 0)) (eOp gEq (eVar 0) (eVar 1)))) sNil) (sSeq (sIf (tT (eUn (gIsi .str) (eVar 1))) (sRet (eAndV (eUn (gIsi .str) (eVar 0)) (eOp gEq (eVar 0) (eVar 1)))) sNil) (sRet (eAndV (eArgs m__law_is_whole (aCons (eVar 0) aNil)) (eOp gEq (eVar 0) (eVar 1))))))))
def m__law_same : Nat → Fn
  | 0 => fun _ _ => .no
  | n + 1 => mkDef 2 4 (b__law_same (m__law_same n))
set_option maxHeartbeats 4000000 in
theorem e__law_same {f : Addr} (T : Txt K w mg) (C__law_is_whole : Cal P w K mg base 1 "_law_is_whole" p__law_is_whole (spM K m__law_is_whole)) {n : Nat} (C__law_same : Cal P w K mg base (1 + n) "_law_same" p__law_same (spM K (m__law_same n))) (cdv : Value) (A : Around) (outer : List PySem.Env) (s : Shared) (H : Hp) (E : XK) (hr : Room (1 + n) (A.deeper (envOfC "_law_same" (defScope s__law_same) s.heap.objs.size f cdv))) :
    ESs (cxOf CX0 P w K mg base N__law_same "_law_same" (defScope s__law_same) f cdv A outer s H E).nox (defBody s__law_same) (b__law_same (m__law_same n)) :=
  have S := sc__law_same
  (es_cons (es_if (et_truth (ee_isi .tuple (by rfl) T.isinstance (ee_var 1 (pv 1)) (pe_bltn (v := .ty "tuple") (by rfl) T.tuple (by decide +kernel) rfl))) (es_one (es_ret (ee_and (ee_isi .tuple (by rfl) T.isinstance (ee_var 0 (pv 0)) (pe_bltn (v := .ty "tuple") (by rfl) T.tuple (by decide +kernel) rfl)) (ee_and (ee_cmp (op_eqA (hu64 hr)) l_eq (ee_callB call_lenA l_len (by rfl) T.len (by decide +kernel) (ea_cons (ee_var 0 (pv 0)) ea_nil)) (ee_callB call_lenA l_len (by rfl) T.len (by decide +kernel) (ea_cons (ee_var 1 (pv 1)) ea_nil)) (nomark _)) (ee_one (ee_callB (cr_all rfl) l_all (by rfl) T.all (by decide +kernel) (ea_cons (ee_pure (ef_comp (own := [("_law_x", 2), ("_law_y", 3)]) (g := (gTup K 2 (gNs [2, 3]))) rfl S.nd (blkOk_by (N := N__law_same) (sc := defScope s__law_same) (by decide +kernel)) (tgt_tup (by decide)) (ei_zip (by rfl) T.zip (ea_cons (ee_var 0 (pv 0)) (ea_cons (ee_var 1 (pv 1)) ea_nil))) (fun _ _ _ _ _ => pg_tup rfl (pgs_cons (pg_name (i := 2) S.nd rfl (Or.inl rfl)) (pgs_cons (pg_name (i := 3) S.nd rfl (Or.inl rfl)) pgs_nil))) (fun _ _ _ _ _ => ei_none) (fun _ _ _ _ _ => (ee_callC C__law_same hr (by first | decide | omega) (by rfl) (ea_cons (ee_var 2 (pv 2)) (ea_cons (ee_var 3 (pv 3)) ea_nil)))))) ea_nil))))))) es_nil) (es_cons (es_if (et_cmp (op_isN) l_isN (ee_var 1 (pv 1)) ee_non (nomark _)) (es_one (es_ret (ee_cmp (op_isN) l_isN (ee_var 0 (pv 0)) ee_non (nomark _)))) es_nil) (es_cons (es_if (et_truth (ee_isi .bool (by rfl) T.isinstance (ee_var 1 (pv 1)) (pe_bltn (v := .ty "bool") (by rfl) T.bool (by decide +kernel) rfl))) (es_one (es_ret (ee_and (ee_isi .bool (by rfl) T.isinstance (ee_var 0 (pv 0)) (pe_bltn (v := .ty "bool") (by rfl) T.bool (by decide +kernel) rfl)) (ee_one (ee_cmp (op_eqA (hu64 hr)) l_eq (ee_var 0 (pv 0)) (ee_var 1 (pv 1)) (nomark _)))))) es_nil) (es_cons (es_if (et_truth (ee_isi .str (by rfl) T.isinstance (ee_var 1 (pv 1)) (pe_bltn (v := .ty "str") (by rfl) T.str (by decide +kernel) rfl))) (es_one (es_ret (ee_and (ee_isi .str (by rfl) T.isinstance (ee_var 0 (pv 0)) (pe_bltn (v := .ty "str") (by rfl) T.str (by decide +kernel) rfl)) (ee_one (ee_cmp (op_eqA (hu64 hr)) l_eq (ee_var 0 (pv 0)) (ee_var 1 (pv 1)) (nomark _)))))) es_nil) (es_one (es_ret (ee_and (ee_callC C__law_is_whole hr (by first | decide | omega) (by rfl) (ea_cons (ee_var 0 (pv 0)) ea_nil)) (ee_one (ee_cmp (op_eqA (hu64 hr)) l_eq (ee_var 0 (pv 0)) (ee_var 1 (pv 1)) (nomark _))))))))))
theorem c__law_same {f : Addr} {fd : FuncData} (hm : mg "_law_same" = some (.ref f)) (F : FunD K "_law_same" "_law_same" (defArgs s__law_same) (defBody s__law_same) (defScope s__law_same) [] [] f fd) (T : Txt K w mg) (C__law_is_whole : Cal P w K mg base 1 "_law_is_whole" p__law_is_whole (spM K m__law_is_whole)) : ∀ n : Nat, Cal P w K mg base (1 + n) "_law_same" p__law_same (spM K (m__law_same n))
  | 0 => cal_of hm F (fun _ _ _ _ _ _ us hl => match us, hl with | [_, _], _ => rfl) (fun _ _ _ _ _ _ us hl => match us, hl with | [_, _], _ => rfl) (fn_zero trivial)
  | n + 1 => cal_of hm F (fun _ _ _ _ _ _ us hl => match us, hl with | [_, _], _ => rfl) (fun _ _ _ _ _ _ us hl => match us, hl with | [_, _], _ => rfl) (fn_def F sc__law_same fun cdv A outer s H E hr => e__law_same T C__law_is_whole (c__law_same hm F T C__law_is_whole n) cdv A outer s H E hr)
abbrev s__law_held : Stmt := top 38
abbrev N__law_held : List Str := ["_law_cells", "_law_head", "_law_count", "_law_words", "_law_word"]
abbrev p__law_held : List Str := ["_law_cells"]
theorem sc__law_held : FnScope N__law_held p__law_held (defScope s__law_held) := ⟨rfl, rfl, rfl, by decide +kernel, rfl, by decide +kernel, by decide +kernel⟩
def b__law_held : Es := (sSeq (sPar3 1 2 3 (eOp gIx (eVar 0) (eC (.int 0))) (eOp gIx (eVar 0) (eC (.int 1))) (eSl (eVar 0) (oSome (eC (.int 3))) (oSome (eUn gNeg (eC (.int 1)))))) (sSeq (sIf (tOrE (tV (eOp gLe (eVar 1) (eC (.int 0)))) (tOrE (tV (eOp gNe (eVar 1) (eOp gIx (eVar 0) (eUn gNeg (eC (.int 1)))))) (tNotE (tV (eChain gLe gLe (eC (.int 0)) (eVar 2) (eArgs gLen (aCons (eVar 3) aNil))))))) (sRet (eC .non)) sNil) (sSeq (sIf (tOrE (tT (eArgs gAny (aCons (fComp (iSeq (eSl (eVar 3) (oSome (eVar 2)) oNone)) (nName 4) tYesE (eOp gNe (eVar 4) (eC (.int 0))) [4]) aNil))) (tV (eOp gNe (eOp gIx (eVar 0) (eC (.int 2))) (eOp gAdd (eOp gAdd (eVar 1) (eVar 2)) (eArgs gSumA (aCons (eVar 3) aNil)))))) (sRet (eC .non)) sNil) (sRet (eArgs gTupP (aCons (eVar 1) (aCons (eArgs gTupOf (aCons (eSl (eVar 3) oNone (oSome (eVar 2))) aNil)) aNil)))))))
def m__law_held : Fn := mkDef 1 5 b__law_held
set_option maxHeartbeats 4000000 in
theorem e__law_held {f : Addr} (T : Txt K w mg) (cdv : Value) (A : Around) (outer : List PySem.Env) (s : Shared) (H : Hp) (E : XK) (hr : Room 0 (A.deeper (envOfC "_law_held" (defScope s__law_held) s.heap.objs.size f cdv))) :
    ESs (cxOf CX0 P w K mg base N__law_held "_law_held" (defScope s__law_held) f cdv A outer s H E).nox (defBody s__law_held) b__law_held :=
  have S := sc__law_held
  (es_cons (es_par3 (i := 1) (j := 2) (l := 3) (by rfl) S.nd rfl rfl rfl (by decide) (by decide) (by decide) rfl rfl rfl (ee_ix (ee_var 0 (pv 0)) ee_int (fun _ _ => rfl)) (ee_ix (ee_var 0 (pv 0)) ee_int (fun _ _ => rfl)) (ee_sl (ee_var 0 (pv 0)) (eo_some ee_int) (eo_some (ee_un un_neg l_neg ee_int))) (by rfl) (by rfl)) (es_cons (es_if (et_w (ew_or (et_cmp (op_le) l_le (ee_var 1 (pv 1)) ee_int (nomark _)) (ew_or (et_cmp (op_neA (hu64 hr)) l_ne (ee_var 1 (pv 1)) (ee_ix (ee_var 0 (pv 0)) (ee_un un_neg l_neg ee_int) (fun _ _ => rfl)) (nomark _)) (ew_or1 (et_not (et_chain (op_le) l_le (op_le) l_le ee_int (ee_var 2 (pv 2)) (ee_callB call_lenA l_len (by rfl) T.len (by decide +kernel) (ea_cons (ee_var 3 (pv 3)) ea_nil)))))))) (es_one (es_ret ee_non)) es_nil) (es_cons (es_if (et_w (ew_or (et_truth (ee_callB (cr_any rfl) l_any (by rfl) T.any (by decide +kernel) (ea_cons (ee_pure (ef_comp (own := [("_law_word", 4)]) (g := (gName 4)) rfl S.nd (blkOk_by (N := N__law_held) (sc := defScope s__law_held) (by decide +kernel)) (tgt_name (by decide)) (ei_seq (ee_sl (ee_var 3 (pv 3)) (eo_some (ee_var 2 (pv 2))) eo_none)) (fun _ _ _ _ _ => pg_name (i := 4) S.nd rfl (Or.inl rfl)) (fun _ _ _ _ _ => ei_none) (fun _ _ _ _ _ => (ee_cmp (op_neA (hu64 hr)) l_ne (ee_var 4 (pv 4)) ee_int (nomark _))))) ea_nil))) (ew_or1 (et_cmp (op_neA (hu64 hr)) l_ne (ee_ix (ee_var 0 (pv 0)) ee_int (fun _ _ => rfl)) (ee_op op_addA l_add (ee_op op_addA l_add (ee_var 1 (pv 1)) (ee_var 2 (pv 2))) (ee_callB (call_sumA rfl) l_sumA (by rfl) T.sum (by decide +kernel) (ea_cons (ee_var 3 (pv 3)) ea_nil))) (nomark _))))) (es_one (es_ret ee_non)) es_nil) (es_one (es_ret (ee_tup (ea_cons (ee_var 1 (pv 1)) (ea_cons (ee_callTy call_tuple_of l_tupOf (by rfl) T.tuple (by decide +kernel) (ea_cons (ee_sl (ee_var 3 (pv 3)) eo_none (eo_some (ee_var 2 (pv 2)))) ea_nil)) ea_nil))))))))
theorem c__law_held {f : Addr} {fd : FuncData} (hm : mg "_law_held" = some (.ref f)) (F : FunD K "_law_held" "_law_held" (defArgs s__law_held) (defBody s__law_held) (defScope s__law_held) [] [] f fd) (T : Txt K w mg) : Cal P w K mg base 1 "_law_held" p__law_held (spM K m__law_held) :=
  cal_of hm F (fun _ _ _ _ _ _ us hl => match us, hl with | [_], _ => rfl) (fun _ _ _ _ _ _ us hl => match us, hl with | [_], _ => rfl) (fn_def F sc__law_held fun cdv A outer s H E hr => e__law_held T  cdv A outer s H E hr)
abbrev s__law_both : Stmt := top 39
abbrev N__law_both : List Str := ["_law_device", "_law_size"]
abbrev p__law_both : List Str := ["_law_device"]
theorem sc__law_both : FnScope N__law_both p__law_both (defScope s__law_both) := ⟨rfl, rfl, rfl, by decide +kernel, rfl, by decide +kernel, by decide +kernel⟩
def b__law_both : Es := (sSeq (sSet 1 (eOp gFdiv (eArgs gLen (aCons (eVar 0) aNil)) (eC (.int 2)))) (sRet (eArgs gTupP (aCons (eArgs m__law_held (aCons (eSl (eVar 0) oNone (oSome (eVar 1))) aNil)) (aCons (eArgs m__law_held (aCons (eSl (eVar 0) (oSome (eVar 1)) oNone) aNil)) aNil)))))
def m__law_both : Fn := mkDef 1 2 b__law_both
set_option maxHeartbeats 4000000 in
theorem e__law_both {f : Addr} (T : Txt K w mg) (C__law_held : Cal P w K mg base 1 "_law_held" p__law_held (spM K m__law_held)) (cdv : Value) (A : Around) (outer : List PySem.Env) (s : Shared) (H : Hp) (E : XK) (hr : Room 1 (A.deeper (envOfC "_law_both" (defScope s__law_both) s.heap.objs.size f cdv))) :
    ESs (cxOf CX0 P w K mg base N__law_both "_law_both" (defScope s__law_both) f cdv A outer s H E).nox (defBody s__law_both) b__law_both :=
  have S := sc__law_both
  (es_cons (es_set (ps_set (i := 1) S.nd rfl (Or.inl rfl) (ee_op op_fdivW l_fdiv (ee_callB call_lenA l_len (by rfl) T.len (by decide +kernel) (ea_cons (ee_var 0 (pv 0)) ea_nil)) ee_int))) (es_one (es_ret (ee_tup (ea_cons (ee_callC C__law_held hr (by first | decide | omega) (by rfl) (ea_cons (ee_sl (ee_var 0 (pv 0)) eo_none (eo_some (ee_var 1 (pv 1)))) ea_nil)) (ea_cons (ee_callC C__law_held hr (by first | decide | omega) (by rfl) (ea_cons (ee_sl (ee_var 0 (pv 0)) (eo_some (ee_var 1 (pv 1))) eo_none) ea_nil)) ea_nil))))))
theorem c__law_both {f : Addr} {fd : FuncData} (hm : mg "_law_both" = some (.ref f)) (F : FunD K "_law_both" "_law_both" (defArgs s__law_both) (defBody s__law_both) (defScope s__law_both) [] [] f fd) (T : Txt K w mg) (C__law_held : Cal P w K mg base 1 "_law_held" p__law_held (spM K m__law_held)) : Cal P w K mg base 2 "_law_both" p__law_both (spM K m__law_both) :=
  cal_of hm F (fun _ _ _ _ _ _ us hl => match us, hl with | [_], _ => rfl) (fun _ _ _ _ _ _ us hl => match us, hl with | [_], _ => rfl) (fn_def F sc__law_both fun cdv A outer s H E hr => e__law_both T C__law_held cdv A outer s H E hr)
abbrev s__law_clears : Stmt := top 41
abbrev N__law_clears : List Str := ["_law_device", "_law_size", "_law_holds", "_law_at"]
abbrev p__law_clears : List Str := ["_law_device"]
theorem sc__law_clears : FnScope N__law_clears p__law_clears (defScope s__law_clears) := ⟨rfl, rfl, rfl, by decide +kernel, rfl, by decide +kernel, by decide +kernel⟩
def b__law_clears : Es := (sSeq (sAsg (eArgs gTupP (aCons (eOp gFdiv (eArgs gLen (aCons (eVar 0) aNil)) (eC (.int 2))) (aCons (eArgs m__law_both (aCons (eVar 0) aNil)) aNil))) (nTup 2 (nCons (nName 1) (nCons (nName 2) nNil)))) (sRet (eArgs gTupOf (aCons (fComp (iSeq (eArgs gTupP (aCons (eC (.int 0)) (aCons (eC (.int 1)) aNil)))) (nName 3) (tAndE (tV (eOp gIsN (eOp gIx (eVar 2) (eVar 3)) (eC .non))) (tV (eOp gNe (eOp gIx (eVar 0) (eOp gMul (eVar 3) (eVar 1))) (eC (.int 0))))) (eArgs gTupP (aCons (eOp gMul (eVar 3) (eVar 1)) (aCons (eC (.int 0)) aNil))) [3]) aNil))))
def m__law_clears : Fn := mkDef 1 4 b__law_clears
set_option maxHeartbeats 4000000 in
theorem e__law_clears {f : Addr} (T : Txt K w mg) (C__law_both : Cal P w K mg base 2 "_law_both" p__law_both (spM K m__law_both)) (cdv : Value) (A : Around) (outer : List PySem.Env) (s : Shared) (H : Hp) (E : XK) (hr : Room 2 (A.deeper (envOfC "_law_clears" (defScope s__law_clears) s.heap.objs.size f cdv))) :
    ESs (cxOf CX0 P w K mg base N__law_clears "_law_clears" (defScope s__law_clears) f cdv A outer s H E).nox (defBody s__law_clears) b__law_clears :=
  have S := sc__law_clears
  (es_cons (es_asg (ee_tup (ea_cons (ee_op op_fdivW l_fdiv (ee_callB call_lenA l_len (by rfl) T.len (by decide +kernel) (ea_cons (ee_var 0 (pv 0)) ea_nil)) ee_int) (ea_cons (ee_callC C__law_both hr (by first | decide | omega) (by rfl) (ea_cons (ee_var 0 (pv 0)) ea_nil)) ea_nil))) (eg_tup rfl (egs_cons (eg_name (pg_name (i := 1) S.nd rfl (Or.inr rfl))) (egs_cons (eg_name (pg_name (i := 2) S.nd rfl (Or.inr rfl))) egs_nil)))) (es_one (es_ret (ee_callTy call_tuple_of l_tupOf (by rfl) T.tuple (by decide +kernel) (ea_cons (ee_pure (ef_comp (own := [("_law_at", 3)]) (g := (gName 3)) rfl S.nd (blkOk_by (N := N__law_clears) (sc := defScope s__law_clears) (by decide +kernel)) (tgt_name (by decide)) (ei_seq (ee_tup (ea_cons ee_int (ea_cons ee_int ea_nil)))) (fun _ _ _ _ _ => pg_name (i := 3) S.nd rfl (Or.inl rfl)) (fun _ _ _ _ _ => ei_one (et_w (ew_and (et_cmp (op_isN) l_isN (ee_ix (ee_var 2 (pv 2)) (ee_var 3 (pv 3)) (fun _ _ => rfl)) ee_non (nomark _)) (ew_and1 (et_cmp (op_neA (hu64 hr)) l_ne (ee_ix (ee_var 0 (pv 0)) (ee_op op_mul l_mul (ee_var 3 (pv 3)) (ee_var 1 (pv 1))) (fun _ _ => rfl)) ee_int (nomark _)))))) (fun _ _ _ _ _ => (ee_tup (ea_cons (ee_op op_mul l_mul (ee_var 3 (pv 3)) (ee_var 1 (pv 1))) (ea_cons ee_int ea_nil)))))) ea_nil)))))
theorem c__law_clears {f : Addr} {fd : FuncData} (hm : mg "_law_clears" = some (.ref f)) (F : FunD K "_law_clears" "_law_clears" (defArgs s__law_clears) (defBody s__law_clears) (defScope s__law_clears) [] [] f fd) (T : Txt K w mg) (C__law_both : Cal P w K mg base 2 "_law_both" p__law_both (spM K m__law_both)) : Cal P w K mg base 3 "_law_clears" p__law_clears (spM K m__law_clears) :=
  cal_of hm F (fun _ _ _ _ _ _ us hl => match us, hl with | [_], _ => rfl) (fun _ _ _ _ _ _ us hl => match us, hl with | [_], _ => rfl) (fn_def F sc__law_clears fun cdv A outer s H E hr => e__law_clears T C__law_both cdv A outer s H E hr)
abbrev s_check_device : Stmt := top 19
abbrev N_check_device : List Str := ["device", "index", "number"]
abbrev p_check_device : List Str := ["device"]
theorem sc_check_device : FnScope N_check_device p_check_device (defScope s_check_device) := ⟨rfl, rfl, rfl, by decide +kernel, rfl, by decide +kernel, by decide +kernel⟩
def b_check_device : Es := (sSeq (sIf (tOrE (tNotE (tT (eUn (gIsi .tuple) (eVar 0)))) (tOrE (tV (eOp gNe (eOp gMod (eArgs gLen (aCons (eVar 0) aNil)) (eC (.int 2))) (eC (.int 0)))) (tV (eOp gLt (eArgs gLen (aCons (eVar 0) aNil)) (eOp gMul (eC (.int 2)) (eOp gAdd (eC (.int 26)) (eC (.int 4)))))))) sNever sNil) (sFor (iArgs gEnum (aCons (eVar 0) aNil)) (nTup 2 (nCons (nName 1) (nCons (nName 2) nNil))) (sIf (tNotE (tT (eArgs m_is_whole (aCons (eVar 2) aNil)))) sNever sNil)))
def m_check_device : Fn := mkDef 1 3 b_check_device
set_option maxHeartbeats 4000000 in
theorem e_check_device {f : Addr} (T : Txt K w mg) (C_is_whole : Cal P w K mg base 1 "is_whole" p_is_whole (spM K m_is_whole)) (cdv : Value) (A : Around) (outer : List PySem.Env) (s : Shared) (H : Hp) (E : XK) (hr : Room 1 (A.deeper (envOfC "check_device" (defScope s_check_device) s.heap.objs.size f cdv))) :
    ESs (cxOf CX0 P w K mg base N_check_device "check_device" (defScope s_check_device) f cdv A outer s H E).nox (defBody s_check_device) b_check_device :=
  have S := sc_check_device
  (es_cons (es_if (et_w (ew_or (et_not (et_truth (ee_isi .tuple (by rfl) T.isinstance (ee_var 0 (pv 0)) (pe_bltn (v := .ty "tuple") (by rfl) T.tuple (by decide +kernel) rfl)))) (ew_or (et_cmp (op_neA (hu64 hr)) l_ne (ee_op op_mod l_mod (ee_callB call_lenA l_len (by rfl) T.len (by decide +kernel) (ea_cons (ee_var 0 (pv 0)) ea_nil)) ee_int) ee_int (nomark _)) (ew_or1 (et_cmp (op_lt) l_lt (ee_callB call_lenA l_len (by rfl) T.len (by decide +kernel) (ea_cons (ee_var 0 (pv 0)) ea_nil)) (ee_op op_mul l_mul ee_int (ee_op op_addA l_add (ee_gint T.kLEAST_WIDTH (by rfl)) (ee_gint T.kMORE_CELLS (by rfl)))) (nomark _)))))) (es_one es_never) es_nil) (es_one (es_for PassesOwn.never rfl (ei_enum (by rfl) T.enumerate (ea_cons (ee_var 0 (pv 0)) ea_nil)) (eg_tup rfl (egs_cons (eg_name (pg_name (i := 1) S.nd rfl (Or.inl rfl))) (egs_cons (eg_name (pg_name (i := 2) S.nd rfl (Or.inl rfl))) egs_nil))) (es_one (es_if (et_not (et_truth (ee_callC C_is_whole hr (by first | decide | omega) (by rfl) (ea_cons (ee_var 2 (pv 2)) ea_nil)))) (es_one es_never) es_nil)))))
theorem c_check_device {f : Addr} {fd : FuncData} (hm : mg "check_device" = some (.ref f)) (F : FunD K "check_device" "check_device" (defArgs s_check_device) (defBody s_check_device) (defScope s_check_device) [] [] f fd) (T : Txt K w mg) (C_is_whole : Cal P w K mg base 1 "is_whole" p_is_whole (spM K m_is_whole)) : Cal P w K mg base 2 "check_device" p_check_device (spM K m_check_device) :=
  cal_of hm F (fun _ _ _ _ _ _ us hl => match us, hl with | [_], _ => rfl) (fun _ _ _ _ _ _ us hl => match us, hl with | [_], _ => rfl) (fn_def F sc_check_device fun cdv A outer s H E hr => e_check_device T C_is_whole cdv A outer s H E hr)
abbrev s_head_cell : Stmt := top 13
abbrev N_head_cell : List Str := ["device", "slot"]
abbrev p_head_cell : List Str := ["device", "slot"]
theorem sc_head_cell : FnScope N_head_cell p_head_cell (defScope s_head_cell) := ⟨rfl, rfl, rfl, by decide +kernel, rfl, by decide +kernel, by decide +kernel⟩
def b_head_cell : Es := (sRet (eOp gMul (eVar 1) (eOp gFdiv (eArgs gLen (aCons (eVar 0) aNil)) (eC (.int 2)))))
def m_head_cell : Fn := mkDef 2 2 b_head_cell
set_option maxHeartbeats 4000000 in
theorem e_head_cell {f : Addr} (T : Txt K w mg) (cdv : Value) (A : Around) (outer : List PySem.Env) (s : Shared) (H : Hp) (E : XK) (hr : Room 0 (A.deeper (envOfC "head_cell" (defScope s_head_cell) s.heap.objs.size f cdv))) :
    ESs (cxOf CX0 P w K mg base N_head_cell "head_cell" (defScope s_head_cell) f cdv A outer s H E).nox (defBody s_head_cell) b_head_cell :=
  have S := sc_head_cell
  (es_one (es_ret (ee_op op_mul l_mul (ee_var 1 (pv 1)) (ee_op op_fdivW l_fdiv (ee_callB call_lenA l_len (by rfl) T.len (by decide +kernel) (ea_cons (ee_var 0 (pv 0)) ea_nil)) ee_int))))
theorem c_head_cell {f : Addr} {fd : FuncData} (hm : mg "head_cell" = some (.ref f)) (F : FunD K "head_cell" "head_cell" (defArgs s_head_cell) (defBody s_head_cell) (defScope s_head_cell) [] [] f fd) (T : Txt K w mg) : Cal P w K mg base 1 "head_cell" p_head_cell (spM K m_head_cell) :=
  cal_of hm F (fun _ _ _ _ _ _ us hl => match us, hl with | [_, _], _ => rfl) (fun _ _ _ _ _ _ us hl => match us, hl with | [_, _], _ => rfl) (fn_def F sc_head_cell fun cdv A outer s H E hr => e_head_cell T  cdv A outer s H E hr)
abbrev s_words_cell : Stmt := top 15
abbrev N_words_cell : List Str := ["device", "slot"]
abbrev p_words_cell : List Str := ["device", "slot"]
theorem sc_words_cell : FnScope N_words_cell p_words_cell (defScope s_words_cell) := ⟨rfl, rfl, rfl, by decide +kernel, rfl, by decide +kernel, by decide +kernel⟩
def b_words_cell : Es := (sRet (eOp gAdd (eArgs m_head_cell (aCons (eVar 0) (aCons (eVar 1) aNil))) (eC (.int 3))))
def m_words_cell : Fn := mkDef 2 2 b_words_cell
set_option maxHeartbeats 4000000 in
theorem e_words_cell {f : Addr} (T : Txt K w mg) (C_head_cell : Cal P w K mg base 1 "head_cell" p_head_cell (spM K m_head_cell)) (cdv : Value) (A : Around) (outer : List PySem.Env) (s : Shared) (H : Hp) (E : XK) (hr : Room 1 (A.deeper (envOfC "words_cell" (defScope s_words_cell) s.heap.objs.size f cdv))) :
    ESs (cxOf CX0 P w K mg base N_words_cell "words_cell" (defScope s_words_cell) f cdv A outer s H E).nox (defBody s_words_cell) b_words_cell :=
  have S := sc_words_cell
  (es_one (es_ret (ee_op op_addA l_add (ee_callC C_head_cell hr (by first | decide | omega) (by rfl) (ea_cons (ee_var 0 (pv 0)) (ea_cons (ee_var 1 (pv 1)) ea_nil))) ee_int)))
theorem c_words_cell {f : Addr} {fd : FuncData} (hm : mg "words_cell" = some (.ref f)) (F : FunD K "words_cell" "words_cell" (defArgs s_words_cell) (defBody s_words_cell) (defScope s_words_cell) [] [] f fd) (T : Txt K w mg) (C_head_cell : Cal P w K mg base 1 "head_cell" p_head_cell (spM K m_head_cell)) : Cal P w K mg base 2 "words_cell" p_words_cell (spM K m_words_cell) :=
  cal_of hm F (fun _ _ _ _ _ _ us hl => match us, hl with | [_, _], _ => rfl) (fun _ _ _ _ _ _ us hl => match us, hl with | [_, _], _ => rfl) (fn_def F sc_words_cell fun cdv A outer s H E hr => e_words_cell T C_head_cell cdv A outer s H E hr)
abbrev s_tail_cell : Stmt := top 14
abbrev N_tail_cell : List Str := ["device", "slot"]
abbrev p_tail_cell : List Str := ["device", "slot"]
theorem sc_tail_cell : FnScope N_tail_cell p_tail_cell (defScope s_tail_cell) := ⟨rfl, rfl, rfl, by decide +kernel, rfl, by decide +kernel, by decide +kernel⟩
def b_tail_cell : Es := (sRet (eOp gSub (eOp gAdd (eArgs m_head_cell (aCons (eVar 0) (aCons (eVar 1) aNil))) (eOp gFdiv (eArgs gLen (aCons (eVar 0) aNil)) (eC (.int 2)))) (eC (.int 1))))
def m_tail_cell : Fn := mkDef 2 2 b_tail_cell
set_option maxHeartbeats 4000000 in
theorem e_tail_cell {f : Addr} (T : Txt K w mg) (C_head_cell : Cal P w K mg base 1 "head_cell" p_head_cell (spM K m_head_cell)) (cdv : Value) (A : Around) (outer : List PySem.Env) (s : Shared) (H : Hp) (E : XK) (hr : Room 1 (A.deeper (envOfC "tail_cell" (defScope s_tail_cell) s.heap.objs.size f cdv))) :
    ESs (cxOf CX0 P w K mg base N_tail_cell "tail_cell" (defScope s_tail_cell) f cdv A outer s H E).nox (defBody s_tail_cell) b_tail_cell :=
  have S := sc_tail_cell
  (es_one (es_ret (ee_op op_sub l_sub (ee_op op_addA l_add (ee_callC C_head_cell hr (by first | decide | omega) (by rfl) (ea_cons (ee_var 0 (pv 0)) (ea_cons (ee_var 1 (pv 1)) ea_nil))) (ee_op op_fdivW l_fdiv (ee_callB call_lenA l_len (by rfl) T.len (by decide +kernel) (ea_cons (ee_var 0 (pv 0)) ea_nil)) ee_int)) ee_int)))
theorem c_tail_cell {f : Addr} {fd : FuncData} (hm : mg "tail_cell" = some (.ref f)) (F : FunD K "tail_cell" "tail_cell" (defArgs s_tail_cell) (defBody s_tail_cell) (defScope s_tail_cell) [] [] f fd) (T : Txt K w mg) (C_head_cell : Cal P w K mg base 1 "head_cell" p_head_cell (spM K m_head_cell)) : Cal P w K mg base 2 "tail_cell" p_tail_cell (spM K m_tail_cell) :=
  cal_of hm F (fun _ _ _ _ _ _ us hl => match us, hl with | [_, _], _ => rfl) (fun _ _ _ _ _ _ us hl => match us, hl with | [_, _], _ => rfl) (fn_def F sc_tail_cell fun cdv A outer s H E hr => e_tail_cell T C_head_cell cdv A outer s H E hr)
abbrev s_held_in : Stmt := top 16
abbrev N_held_in : List Str := ["device", "slot", "head", "turn", "count", "total", "words", "word"]
abbrev p_held_in : List Str := ["device", "slot"]
theorem sc_held_in : FnScope N_held_in p_held_in (defScope s_held_in) := ⟨rfl, rfl, rfl, by decide +kernel, rfl, by decide +kernel, by decide +kernel⟩
def b_held_in : Es := (sSeq (sSet 2 (eArgs m_head_cell (aCons (eVar 0) (aCons (eVar 1) aNil)))) (sSeq (sAsg (eSl (eVar 0) (oSome (eVar 2)) (oSome (eOp gAdd (eVar 2) (eC (.int 3))))) (nTup 3 (nCons (nName 3) (nCons (nName 4) (nCons (nName 5) nNil))))) (sSeq (sSet 6 (eSl (eVar 0) (oSome (eArgs m_words_cell (aCons (eVar 0) (aCons (eVar 1) aNil)))) (oSome (eArgs m_tail_cell (aCons (eVar 0) (aCons (eVar 1) aNil)))))) (sSeq (sIf (tOrE (tV (eOp gLe (eVar 3) (eC (.int 0)))) (tOrE (tV (eOp gNe (eVar 3) (eOp gIx (eVar 0) (eArgs m_tail_cell (aCons (eVar 0) (aCons (eVar 1) aNil)))))) (tNotE (tV (eChain gLe gLe (eC (.int 0)) (eVar 4) (eArgs gLen (aCons (eVar 6) aNil))))))) (sRet (eC .non)) sNil) (sSeq (sIf (tOrE (tV (eOp gNe (eVar 5) (eOp gAdd (eOp gAdd (eVar 3) (eVar 4)) (eArgs gSumA (aCons (eVar 6) aNil))))) (tT (eArgs gAny (aCons (fComp (iSeq (eSl (eVar 6) (oSome (eVar 4)) oNone)) (nName 7) tYesE (eOp gNe (eVar 7) (eC (.int 0))) [7]) aNil)))) (sRet (eC .non)) sNil) (sRet (eArgs gTupP (aCons (eVar 3) (aCons (eSl (eVar 6) oNone (oSome (eVar 4))) aNil)))))))))
def m_held_in : Fn := mkDef 2 8 b_held_in
set_option maxHeartbeats 4000000 in
theorem e_held_in {f : Addr} (T : Txt K w mg) (C_head_cell : Cal P w K mg base 1 "head_cell" p_head_cell (spM K m_head_cell)) (C_tail_cell : Cal P w K mg base 2 "tail_cell" p_tail_cell (spM K m_tail_cell)) (C_words_cell : Cal P w K mg base 2 "words_cell" p_words_cell (spM K m_words_cell)) (cdv : Value) (A : Around) (outer : List PySem.Env) (s : Shared) (H : Hp) (E : XK) (hr : Room 2 (A.deeper (envOfC "held_in" (defScope s_held_in) s.heap.objs.size f cdv))) :
    ESs (cxOf CX0 P w K mg base N_held_in "held_in" (defScope s_held_in) f cdv A outer s H E).nox (defBody s_held_in) b_held_in :=
  have S := sc_held_in
  (es_cons (es_set (ps_set (i := 2) S.nd rfl (Or.inl rfl) (ee_callC C_head_cell hr (by first | decide | omega) (by rfl) (ea_cons (ee_var 0 (pv 0)) (ea_cons (ee_var 1 (pv 1)) ea_nil))))) (es_cons (es_asg (ee_sl (ee_var 0 (pv 0)) (eo_some (ee_var 2 (pv 2))) (eo_some (ee_op op_addA l_add (ee_var 2 (pv 2)) ee_int))) (eg_tup rfl (egs_cons (eg_name (pg_name (i := 3) S.nd rfl (Or.inl rfl))) (egs_cons (eg_name (pg_name (i := 4) S.nd rfl (Or.inl rfl))) (egs_cons (eg_name (pg_name (i := 5) S.nd rfl (Or.inl rfl))) egs_nil))))) (es_cons (es_set (ps_set (i := 6) S.nd rfl (Or.inl rfl) (ee_sl (ee_var 0 (pv 0)) (eo_some (ee_callC C_words_cell hr (by first | decide | omega) (by rfl) (ea_cons (ee_var 0 (pv 0)) (ea_cons (ee_var 1 (pv 1)) ea_nil)))) (eo_some (ee_callC C_tail_cell hr (by first | decide | omega) (by rfl) (ea_cons (ee_var 0 (pv 0)) (ea_cons (ee_var 1 (pv 1)) ea_nil))))))) (es_cons (es_if (et_w (ew_or (et_cmp (op_le) l_le (ee_var 3 (pv 3)) ee_int (nomark _)) (ew_or (et_cmp (op_neA (hu64 hr)) l_ne (ee_var 3 (pv 3)) (ee_ix (ee_var 0 (pv 0)) (ee_callC C_tail_cell hr (by first | decide | omega) (by rfl) (ea_cons (ee_var 0 (pv 0)) (ea_cons (ee_var 1 (pv 1)) ea_nil))) (fun _ _ => rfl)) (nomark _)) (ew_or1 (et_not (et_chain (op_le) l_le (op_le) l_le ee_int (ee_var 4 (pv 4)) (ee_callB call_lenA l_len (by rfl) T.len (by decide +kernel) (ea_cons (ee_var 6 (pv 6)) ea_nil)))))))) (es_one (es_ret ee_non)) es_nil) (es_cons (es_if (et_w (ew_or (et_cmp (op_neA (hu64 hr)) l_ne (ee_var 5 (pv 5)) (ee_op op_addA l_add (ee_op op_addA l_add (ee_var 3 (pv 3)) (ee_var 4 (pv 4))) (ee_callB (call_sumA rfl) l_sumA (by rfl) T.sum (by decide +kernel) (ea_cons (ee_var 6 (pv 6)) ea_nil))) (nomark _)) (ew_or1 (et_truth (ee_callB (cr_any rfl) l_any (by rfl) T.any (by decide +kernel) (ea_cons (ee_pure (ef_comp (own := [("word", 7)]) (g := (gName 7)) rfl S.nd (blkOk_by (N := N_held_in) (sc := defScope s_held_in) (by decide +kernel)) (tgt_name (by decide)) (ei_seq (ee_sl (ee_var 6 (pv 6)) (eo_some (ee_var 4 (pv 4))) eo_none)) (fun _ _ _ _ _ => pg_name (i := 7) S.nd rfl (Or.inl rfl)) (fun _ _ _ _ _ => ei_none) (fun _ _ _ _ _ => (ee_cmp (op_neA (hu64 hr)) l_ne (ee_var 7 (pv 7)) ee_int (nomark _))))) ea_nil)))))) (es_one (es_ret ee_non)) es_nil) (es_one (es_ret (ee_tup (ea_cons (ee_var 3 (pv 3)) (ea_cons (ee_sl (ee_var 6 (pv 6)) eo_none (eo_some (ee_var 4 (pv 4)))) ea_nil))))))))))
theorem c_held_in {f : Addr} {fd : FuncData} (hm : mg "held_in" = some (.ref f)) (F : FunD K "held_in" "held_in" (defArgs s_held_in) (defBody s_held_in) (defScope s_held_in) [] [] f fd) (T : Txt K w mg) (C_head_cell : Cal P w K mg base 1 "head_cell" p_head_cell (spM K m_head_cell)) (C_tail_cell : Cal P w K mg base 2 "tail_cell" p_tail_cell (spM K m_tail_cell)) (C_words_cell : Cal P w K mg base 2 "words_cell" p_words_cell (spM K m_words_cell)) : Cal P w K mg base 3 "held_in" p_held_in (spM K m_held_in) :=
  cal_of hm F (fun _ _ _ _ _ _ us hl => match us, hl with | [_, _], _ => rfl) (fun _ _ _ _ _ _ us hl => match us, hl with | [_, _], _ => rfl) (fn_def F sc_held_in fun cdv A outer s H E hr => e_held_in T C_head_cell C_tail_cell C_words_cell cdv A outer s H E hr)
abbrev s_held : Stmt := top 27
abbrev N_held : List Str := ["device", "slot"]
abbrev p_held : List Str := ["device", "slot"]
theorem sc_held : FnScope N_held p_held (defScope s_held) := ⟨rfl, rfl, rfl, by decide +kernel, rfl, by decide +kernel, by decide +kernel⟩
def b_held : Es := (sSeq (sExpr (eArgs m_check_device (aCons (eVar 0) aNil))) (sSeq (sExpr (eArgs m_check_number (aCons (eVar 1) (aCons (eC (.int 0)) (aCons (eC (.int 1)) aNil))))) (sRet (eArgs m_held_in (aCons (eVar 0) (aCons (eVar 1) aNil))))))
def m_held : Fn := mkDef 2 2 b_held
set_option maxHeartbeats 4000000 in
theorem e_held {f : Addr} (T : Txt K w mg) (C_check_device : Cal P w K mg base 2 "check_device" p_check_device (spM K m_check_device)) (C_check_number : Cal P w K mg base 3 "check_number" p_check_number (spM K m_check_number)) (C_held_in : Cal P w K mg base 3 "held_in" p_held_in (spM K m_held_in)) (cdv : Value) (A : Around) (outer : List PySem.Env) (s : Shared) (H : Hp) (E : XK) (hr : Room 3 (A.deeper (envOfC "held" (defScope s_held) s.heap.objs.size f cdv))) :
    ESs (cxOf CX0 P w K mg base N_held "held" (defScope s_held) f cdv A outer s H E).nox (defBody s_held) b_held :=
  have S := sc_held
  (es_cons (es_expr (ee_callC C_check_device hr (by first | decide | omega) (by rfl) (ea_cons (ee_var 0 (pv 0)) ea_nil))) (es_cons (es_expr (ee_callC C_check_number hr (by first | decide | omega) (by rfl) (ea_cons (ee_var 1 (pv 1)) (ea_cons ee_int (ea_cons ee_int ea_nil))))) (es_one (es_ret (ee_callC C_held_in hr (by first | decide | omega) (by rfl) (ea_cons (ee_var 0 (pv 0)) (ea_cons (ee_var 1 (pv 1)) ea_nil)))))))
theorem c_held {f : Addr} {fd : FuncData} (hm : mg "held" = some (.ref f)) (F : FunD K "held" "held" (defArgs s_held) (defBody s_held) (defScope s_held) [] [] f fd) (T : Txt K w mg) (C_check_device : Cal P w K mg base 2 "check_device" p_check_device (spM K m_check_device)) (C_check_number : Cal P w K mg base 3 "check_number" p_check_number (spM K m_check_number)) (C_held_in : Cal P w K mg base 3 "held_in" p_held_in (spM K m_held_in)) : Cal P w K mg base 4 "held" p_held (spM K m_held) :=
  cal_of hm F (fun _ _ _ _ _ _ us hl => match us, hl with | [_, _], _ => rfl) (fun _ _ _ _ _ _ us hl => match us, hl with | [_, _], _ => rfl) (fn_def F sc_held fun cdv A outer s H E hr => e_held T C_check_device C_check_number C_held_in cdv A outer s H E hr)
abbrev s_current_slot : Stmt := top 17
abbrev N_current_slot : List Str := ["device", "found", "slot", "held"]
abbrev p_current_slot : List Str := ["device"]
theorem sc_current_slot : FnScope N_current_slot p_current_slot (defScope s_current_slot) := ⟨rfl, rfl, rfl, by decide +kernel, rfl, by decide +kernel, by decide +kernel⟩
def b_current_slot : Es := (sSeq (sSet 1 (eC .non)) (sSeq (sFor (iSeq (eArgs gTupP (aCons (eC (.int 0)) (aCons (eC (.int 1)) aNil)))) (nName 2) (sSeq (sSet 3 (eArgs m_held_in (aCons (eVar 0) (aCons (eVar 2) aNil)))) (sIf (tAndE (tV (eOp gNotN (eVar 3) (eC .non))) (tOrE (tV (eOp gIsN (eVar 1) (eC .non))) (tV (eOp gGt (eOp gIx (eVar 3) (eC (.int 0))) (eOp gIx (eArgs m_held_in (aCons (eVar 0) (aCons (eVar 1) aNil))) (eC (.int 0))))))) (sSet 1 (eVar 2)) sNil))) (sRet (eVar 1))))
def m_current_slot : Fn := mkDef 1 4 b_current_slot
set_option maxHeartbeats 4000000 in
theorem e_current_slot {f : Addr} (T : Txt K w mg) (C_held_in : Cal P w K mg base 3 "held_in" p_held_in (spM K m_held_in)) (cdv : Value) (A : Around) (outer : List PySem.Env) (s : Shared) (H : Hp) (E : XK) (hr : Room 3 (A.deeper (envOfC "current_slot" (defScope s_current_slot) s.heap.objs.size f cdv))) :
    ESs (cxOf CX0 P w K mg base N_current_slot "current_slot" (defScope s_current_slot) f cdv A outer s H E).nox (defBody s_current_slot) b_current_slot :=
  have S := sc_current_slot
  (es_cons (es_set (ps_set (i := 1) S.nd rfl (Or.inl rfl) ee_non)) (es_cons (es_for PassesOwn.never rfl (ei_seq (ee_tup (ea_cons ee_int (ea_cons ee_int ea_nil)))) (eg_name (pg_name (i := 2) S.nd rfl (Or.inl rfl))) (es_cons (es_set (ps_set (i := 3) S.nd rfl (Or.inl rfl) (ee_callC C_held_in hr (by first | decide | omega) (by rfl) (ea_cons (ee_var 0 (pv 0)) (ea_cons (ee_var 2 (pv 2)) ea_nil))))) (es_one (es_if (et_w (ew_and (et_cmp (op_notN) l_notN (ee_var 3 (pv 3)) ee_non (nomark _)) (ew_and1 (et_w (ew_or (et_cmp (op_isN) l_isN (ee_var 1 (pv 1)) ee_non (nomark _)) (ew_or1 (et_cmp (op_gt) l_gt (ee_ix (ee_var 3 (pv 3)) ee_int (fun _ _ => rfl)) (ee_ix (ee_callC C_held_in hr (by first | decide | omega) (by rfl) (ea_cons (ee_var 0 (pv 0)) (ea_cons (ee_var 1 (pv 1)) ea_nil))) ee_int (fun _ _ => rfl)) (nomark _)))))))) (es_one (es_set (ps_set (i := 1) S.nd rfl (Or.inl rfl) (ee_var 2 (pv 2))))) es_nil)))) (es_one (es_ret (ee_var 1 (pv 1))))))
theorem c_current_slot {f : Addr} {fd : FuncData} (hm : mg "current_slot" = some (.ref f)) (F : FunD K "current_slot" "current_slot" (defArgs s_current_slot) (defBody s_current_slot) (defScope s_current_slot) [] [] f fd) (T : Txt K w mg) (C_held_in : Cal P w K mg base 3 "held_in" p_held_in (spM K m_held_in)) : Cal P w K mg base 4 "current_slot" p_current_slot (spM K m_current_slot) :=
  cal_of hm F (fun _ _ _ _ _ _ us hl => match us, hl with | [_], _ => rfl) (fun _ _ _ _ _ _ us hl => match us, hl with | [_], _ => rfl) (fn_def F sc_current_slot fun cdv A outer s H E hr => e_current_slot T C_held_in cdv A outer s H E hr)
abbrev s_current : Stmt := top 28
abbrev N_current : List Str := ["device"]
abbrev p_current : List Str := ["device"]
theorem sc_current : FnScope N_current p_current (defScope s_current) := ⟨rfl, rfl, rfl, by decide +kernel, rfl, by decide +kernel, by decide +kernel⟩
def b_current : Es := (sSeq (sExpr (eArgs m_check_device (aCons (eVar 0) aNil))) (sRet (eArgs m_current_slot (aCons (eVar 0) aNil))))
def m_current : Fn := mkDef 1 1 b_current
set_option maxHeartbeats 4000000 in
theorem e_current {f : Addr} (T : Txt K w mg) (C_check_device : Cal P w K mg base 2 "check_device" p_check_device (spM K m_check_device)) (C_current_slot : Cal P w K mg base 4 "current_slot" p_current_slot (spM K m_current_slot)) (cdv : Value) (A : Around) (outer : List PySem.Env) (s : Shared) (H : Hp) (E : XK) (hr : Room 4 (A.deeper (envOfC "current" (defScope s_current) s.heap.objs.size f cdv))) :
    ESs (cxOf CX0 P w K mg base N_current "current" (defScope s_current) f cdv A outer s H E).nox (defBody s_current) b_current :=
  have S := sc_current
  (es_cons (es_expr (ee_callC C_check_device hr (by first | decide | omega) (by rfl) (ea_cons (ee_var 0 (pv 0)) ea_nil))) (es_one (es_ret (ee_callC C_current_slot hr (by first | decide | omega) (by rfl) (ea_cons (ee_var 0 (pv 0)) ea_nil)))))
theorem c_current {f : Addr} {fd : FuncData} (hm : mg "current" = some (.ref f)) (F : FunD K "current" "current" (defArgs s_current) (defBody s_current) (defScope s_current) [] [] f fd) (T : Txt K w mg) (C_check_device : Cal P w K mg base 2 "check_device" p_check_device (spM K m_check_device)) (C_current_slot : Cal P w K mg base 4 "current_slot" p_current_slot (spM K m_current_slot)) : Cal P w K mg base 5 "current" p_current (spM K m_current) :=
  cal_of hm F (fun _ _ _ _ _ _ us hl => match us, hl with | [_], _ => rfl) (fun _ _ _ _ _ _ us hl => match us, hl with | [_], _ => rfl) (fn_def F sc_current fun cdv A outer s H E hr => e_current T C_check_device C_current_slot cdv A outer s H E hr)
abbrev s_writes_of_mending : Stmt := top 22
abbrev N_writes_of_mending : List Str := ["device", "cells", "slot", "cell"]
abbrev p_writes_of_mending : List Str := ["device"]
theorem sc_writes_of_mending : FnScope N_writes_of_mending p_writes_of_mending (defScope s_writes_of_mending) := ⟨rfl, rfl, rfl, by decide +kernel, rfl, by decide +kernel, by decide +kernel⟩
def b_writes_of_mending : Es := (sSeq (sSet 1 (fComp (iSeq (eArgs gTupP (aCons (eC (.int 0)) (aCons (eC (.int 1)) aNil)))) (nName 2) (tV (eOp gIsN (eArgs m_held_in (aCons (eVar 0) (aCons (eVar 2) aNil))) (eC .non))) (eArgs m_head_cell (aCons (eVar 0) (aCons (eVar 2) aNil))) [2])) (sRet (eArgs gTupOf (aCons (fComp (iSeq (eVar 1)) (nName 3) (tV (eOp gNe (eOp gIx (eVar 0) (eVar 3)) (eC (.int 0)))) (eArgs gTupP (aCons (eVar 3) (aCons (eC (.int 0)) aNil))) [3]) aNil))))
def m_writes_of_mending : Fn := mkDef 1 4 b_writes_of_mending
set_option maxHeartbeats 4000000 in
theorem e_writes_of_mending {f : Addr} (T : Txt K w mg) (C_head_cell : Cal P w K mg base 1 "head_cell" p_head_cell (spM K m_head_cell)) (C_held_in : Cal P w K mg base 3 "held_in" p_held_in (spM K m_held_in)) (cdv : Value) (A : Around) (outer : List PySem.Env) (s : Shared) (H : Hp) (E : XK) (hr : Room 3 (A.deeper (envOfC "writes_of_mending" (defScope s_writes_of_mending) s.heap.objs.size f cdv))) :
    ESs (cxOf CX0 P w K mg base N_writes_of_mending "writes_of_mending" (defScope s_writes_of_mending) f cdv A outer s H E).nox (defBody s_writes_of_mending) b_writes_of_mending :=
  have S := sc_writes_of_mending
  (es_cons (es_comp (i := 1) (own := [("slot", 2)]) (g := (gName 2)) (gP := (nName 2)) (it := (iSeq (eArgs gTupP (aCons (eC (.int 0)) (aCons (eC (.int 1)) aNil))))) (ft := (tV (eOp gIsN (eArgs m_held_in (aCons (eVar 0) (aCons (eVar 2) aNil))) (eC .non)))) (fe := (eArgs m_head_cell (aCons (eVar 0) (aCons (eVar 2) aNil)))) (tgt_name (by decide)) (ps_setLc (i := 1) (own := [("slot", 2)]) (g := (gName 2)) (tt := tEt _ (tV (eOp gIsN (eArgs m_held_in (aCons (eVar 0) (aCons (eVar 2) aNil))) (eC .non)))) (te := tEv _ (eArgs m_head_cell (aCons (eVar 0) (aCons (eVar 2) aNil)))) rfl S.nd rfl rfl (sw_true rfl rfl rfl (by decide +kernel)) (ei_seq (ee_tup (ea_cons ee_int (ea_cons ee_int ea_nil)))) (blkOk_by (N := N_writes_of_mending) (sc := defScope s_writes_of_mending) (by decide +kernel)) (fun _ _ _ _ _ => pg_name (i := 2) S.nd rfl (Or.inl rfl)) (fun _ _ _ _ _ => ei_one (et_cmp (op_isN) l_isN (ee_callC C_held_in hr (by first | decide | omega) (by rfl) (ea_cons (ee_var 0 (pv 0)) (ea_cons (ee_var 2 (pv 2)) ea_nil))) ee_non (nomark _))) (fun _ _ _ _ _ => (ee_callC C_head_cell hr (by first | decide | omega) (by rfl) (ea_cons (ee_var 0 (pv 0)) (ea_cons (ee_var 2 (pv 2)) ea_nil)))))) (es_one (es_ret (ee_callTy call_tuple_of l_tupOf (by rfl) T.tuple (by decide +kernel) (ea_cons (ee_pure (ef_comp (own := [("cell", 3)]) (g := (gName 3)) rfl S.nd (blkOk_by (N := N_writes_of_mending) (sc := defScope s_writes_of_mending) (by decide +kernel)) (tgt_name (by decide)) (ei_seq (ee_var 1 (pv 1))) (fun _ _ _ _ _ => pg_name (i := 3) S.nd rfl (Or.inl rfl)) (fun _ _ _ _ _ => ei_one (et_cmp (op_neA (hu64 hr)) l_ne (ee_ix (ee_var 0 (pv 0)) (ee_var 3 (pv 3)) (fun _ _ => rfl)) ee_int (nomark _))) (fun _ _ _ _ _ => (ee_tup (ea_cons (ee_var 3 (pv 3)) (ea_cons ee_int ea_nil)))))) ea_nil)))))
theorem c_writes_of_mending {f : Addr} {fd : FuncData} (hm : mg "writes_of_mending" = some (.ref f)) (F : FunD K "writes_of_mending" "writes_of_mending" (defArgs s_writes_of_mending) (defBody s_writes_of_mending) (defScope s_writes_of_mending) [] [] f fd) (T : Txt K w mg) (C_head_cell : Cal P w K mg base 1 "head_cell" p_head_cell (spM K m_head_cell)) (C_held_in : Cal P w K mg base 3 "held_in" p_held_in (spM K m_held_in)) : Cal P w K mg base 4 "writes_of_mending" p_writes_of_mending (spM K m_writes_of_mending) :=
  cal_of hm F (fun _ _ _ _ _ _ us hl => match us, hl with | [_], _ => rfl) (fun _ _ _ _ _ _ us hl => match us, hl with | [_], _ => rfl) (fn_def F sc_writes_of_mending fun cdv A outer s H E hr => e_writes_of_mending T C_head_cell C_held_in cdv A outer s H E hr)
abbrev s_is_mended : Stmt := top 29
abbrev N_is_mended : List Str := ["device"]
abbrev p_is_mended : List Str := ["device"]
theorem sc_is_mended : FnScope N_is_mended p_is_mended (defScope s_is_mended) := ⟨rfl, rfl, rfl, by decide +kernel, rfl, by decide +kernel, by decide +kernel⟩
def b_is_mended : Es := (sSeq (sExpr (eArgs m_check_device (aCons (eVar 0) aNil))) (sRet (eNotT (eArgs m_writes_of_mending (aCons (eVar 0) aNil)))))
def m_is_mended : Fn := mkDef 1 1 b_is_mended
set_option maxHeartbeats 4000000 in
theorem e_is_mended {f : Addr} (T : Txt K w mg) (C_check_device : Cal P w K mg base 2 "check_device" p_check_device (spM K m_check_device)) (C_writes_of_mending : Cal P w K mg base 4 "writes_of_mending" p_writes_of_mending (spM K m_writes_of_mending)) (cdv : Value) (A : Around) (outer : List PySem.Env) (s : Shared) (H : Hp) (E : XK) (hr : Room 4 (A.deeper (envOfC "is_mended" (defScope s_is_mended) s.heap.objs.size f cdv))) :
    ESs (cxOf CX0 P w K mg base N_is_mended "is_mended" (defScope s_is_mended) f cdv A outer s H E).nox (defBody s_is_mended) b_is_mended :=
  have S := sc_is_mended
  (es_cons (es_expr (ee_callC C_check_device hr (by first | decide | omega) (by rfl) (ea_cons (ee_var 0 (pv 0)) ea_nil))) (es_one (es_ret (ee_notT (ee_callC C_writes_of_mending hr (by first | decide | omega) (by rfl) (ea_cons (ee_var 0 (pv 0)) ea_nil))))))
theorem c_is_mended {f : Addr} {fd : FuncData} (hm : mg "is_mended" = some (.ref f)) (F : FunD K "is_mended" "is_mended" (defArgs s_is_mended) (defBody s_is_mended) (defScope s_is_mended) [] [] f fd) (T : Txt K w mg) (C_check_device : Cal P w K mg base 2 "check_device" p_check_device (spM K m_check_device)) (C_writes_of_mending : Cal P w K mg base 4 "writes_of_mending" p_writes_of_mending (spM K m_writes_of_mending)) : Cal P w K mg base 5 "is_mended" p_is_mended (spM K m_is_mended) :=
  cal_of hm F (fun _ _ _ _ _ _ us hl => match us, hl with | [_], _ => rfl) (fun _ _ _ _ _ _ us hl => match us, hl with | [_], _ => rfl) (fn_def F sc_is_mended fun cdv A outer s H E hr => e_is_mended T C_check_device C_writes_of_mending cdv A outer s H E hr)
abbrev s_mending : Stmt := top 30
abbrev N_mending : List Str := ["device"]
abbrev p_mending : List Str := ["device"]
theorem sc_mending : FnScope N_mending p_mending (defScope s_mending) := ⟨rfl, rfl, rfl, by decide +kernel, rfl, by decide +kernel, by decide +kernel⟩
def b_mending : Es := (sSeq (sExpr (eArgs m_check_device (aCons (eVar 0) aNil))) (sRet (eArgs m_writes_of_mending (aCons (eVar 0) aNil))))
def m_mending : Fn := mkDef 1 1 b_mending
set_option maxHeartbeats 4000000 in
theorem e_mending {f : Addr} (T : Txt K w mg) (C_check_device : Cal P w K mg base 2 "check_device" p_check_device (spM K m_check_device)) (C_writes_of_mending : Cal P w K mg base 4 "writes_of_mending" p_writes_of_mending (spM K m_writes_of_mending)) (cdv : Value) (A : Around) (outer : List PySem.Env) (s : Shared) (H : Hp) (E : XK) (hr : Room 4 (A.deeper (envOfC "mending" (defScope s_mending) s.heap.objs.size f cdv))) :
    ESs (cxOf CX0 P w K mg base N_mending "mending" (defScope s_mending) f cdv A outer s H E).nox (defBody s_mending) b_mending :=
  have S := sc_mending
  (es_cons (es_expr (ee_callC C_check_device hr (by first | decide | omega) (by rfl) (ea_cons (ee_var 0 (pv 0)) ea_nil))) (es_one (es_ret (ee_callC C_writes_of_mending hr (by first | decide | omega) (by rfl) (ea_cons (ee_var 0 (pv 0)) ea_nil)))))
theorem c_mending {f : Addr} {fd : FuncData} (hm : mg "mending" = some (.ref f)) (F : FunD K "mending" "mending" (defArgs s_mending) (defBody s_mending) (defScope s_mending) [] [] f fd) (T : Txt K w mg) (C_check_device : Cal P w K mg base 2 "check_device" p_check_device (spM K m_check_device)) (C_writes_of_mending : Cal P w K mg base 4 "writes_of_mending" p_writes_of_mending (spM K m_writes_of_mending)) : Cal P w K mg base 5 "mending" p_mending (spM K m_mending) :=
  cal_of hm F (fun _ _ _ _ _ _ us hl => match us, hl with | [_], _ => rfl) (fun _ _ _ _ _ _ us hl => match us, hl with | [_], _ => rfl) (fn_def F sc_mending fun cdv A outer s H E hr => e_mending T C_check_device C_writes_of_mending cdv A outer s H E hr)
abbrev s_device_behind : Stmt := top 23
abbrev N_device_behind : List Str := ["device", "writes", "cells", "cell", "number"]
abbrev p_device_behind : List Str := ["device", "writes"]
theorem sc_device_behind : FnScope N_device_behind p_device_behind (defScope s_device_behind) := ⟨rfl, rfl, rfl, by decide +kernel, rfl, by decide +kernel, by decide +kernel⟩
def b_device_behind : Es := (sSeq (sSet 2 (eNew (eArgs gLstOf (aCons (eVar 0) aNil)))) (sSeq (sFor (iSeq (eVar 1)) (nTup 2 (nCons (nName 3) (nCons (nName 4) nNil))) (sAsg (eVar 4) (nSubL (eVar 2) (eVar 3)))) (sRet (eArgs gTupOf (aCons (eVar 2) aNil)))))
def m_device_behind : Fn := mkDef 2 5 b_device_behind
set_option maxHeartbeats 4000000 in
theorem e_device_behind {f : Addr} (T : Txt K w mg) (cdv : Value) (A : Around) (outer : List PySem.Env) (s : Shared) (H : Hp) (E : XK) (hr : Room 0 (A.deeper (envOfC "device_behind" (defScope s_device_behind) s.heap.objs.size f cdv))) :
    ESs (cxOf CX0 P w K mg base N_device_behind "device_behind" (defScope s_device_behind) f cdv A outer s H E).nox (defBody s_device_behind) b_device_behind :=
  have S := sc_device_behind
  (es_cons (es_set (ps_set (i := 2) S.nd rfl (Or.inl rfl) (ee_new (ef_callTy call_list_of l_lstOf (by rfl) T.list (by decide +kernel) (ea_cons (ee_var 0 (pv 0)) ea_nil))))) (es_cons (es_for PassesOwn.never rfl (ei_seq (ee_var 1 (pv 1))) (eg_tup rfl (egs_cons (eg_name (pg_name (i := 3) S.nd rfl (Or.inl rfl))) (egs_cons (eg_name (pg_name (i := 4) S.nd rfl (Or.inl rfl))) egs_nil))) (es_one (es_asg (ee_var 4 (pv 4)) (eg_subL (ee_var 2 (pv 2)) (ee_var 3 (pv 3)) (pg_sub (ee_var 2 (pv 2)) (ee_var 3 (pv 3)) set_list))))) (es_one (es_ret (ee_callTy call_tuple_of l_tupOf (by rfl) T.tuple (by decide +kernel) (ea_cons (ee_var 2 (pv 2)) ea_nil))))))
theorem c_device_behind {f : Addr} {fd : FuncData} (hm : mg "device_behind" = some (.ref f)) (F : FunD K "device_behind" "device_behind" (defArgs s_device_behind) (defBody s_device_behind) (defScope s_device_behind) [] [] f fd) (T : Txt K w mg) : Cal P w K mg base 1 "device_behind" p_device_behind (spM K m_device_behind) :=
  cal_of hm F (fun _ _ _ _ _ _ us hl => match us, hl with | [_, _], _ => rfl) (fun _ _ _ _ _ _ us hl => match us, hl with | [_, _], _ => rfl) (fn_def F sc_device_behind fun cdv A outer s H E hr => e_device_behind T  cdv A outer s H E hr)
abbrev s_mended_device : Stmt := top 24
abbrev N_mended_device : List Str := ["device"]
abbrev p_mended_device : List Str := ["device"]
theorem sc_mended_device : FnScope N_mended_device p_mended_device (defScope s_mended_device) := ⟨rfl, rfl, rfl, by decide +kernel, rfl, by decide +kernel, by decide +kernel⟩
def b_mended_device : Es := (sRet (eArgs m_device_behind (aCons (eVar 0) (aCons (eArgs m_writes_of_mending (aCons (eVar 0) aNil)) aNil))))
def m_mended_device : Fn := mkDef 1 1 b_mended_device
set_option maxHeartbeats 4000000 in
theorem e_mended_device {f : Addr} (T : Txt K w mg) (C_device_behind : Cal P w K mg base 1 "device_behind" p_device_behind (spM K m_device_behind)) (C_writes_of_mending : Cal P w K mg base 4 "writes_of_mending" p_writes_of_mending (spM K m_writes_of_mending)) (cdv : Value) (A : Around) (outer : List PySem.Env) (s : Shared) (H : Hp) (E : XK) (hr : Room 4 (A.deeper (envOfC "mended_device" (defScope s_mended_device) s.heap.objs.size f cdv))) :
    ESs (cxOf CX0 P w K mg base N_mended_device "mended_device" (defScope s_mended_device) f cdv A outer s H E).nox (defBody s_mended_device) b_mended_device :=
  have S := sc_mended_device
  (es_one (es_ret (ee_callC C_device_behind hr (by first | decide | omega) (by rfl) (ea_cons (ee_var 0 (pv 0)) (ea_cons (ee_callC C_writes_of_mending hr (by first | decide | omega) (by rfl) (ea_cons (ee_var 0 (pv 0)) ea_nil)) ea_nil)))))
theorem c_mended_device {f : Addr} {fd : FuncData} (hm : mg "mended_device" = some (.ref f)) (F : FunD K "mended_device" "mended_device" (defArgs s_mended_device) (defBody s_mended_device) (defScope s_mended_device) [] [] f fd) (T : Txt K w mg) (C_device_behind : Cal P w K mg base 1 "device_behind" p_device_behind (spM K m_device_behind)) (C_writes_of_mending : Cal P w K mg base 4 "writes_of_mending" p_writes_of_mending (spM K m_writes_of_mending)) : Cal P w K mg base 5 "mended_device" p_mended_device (spM K m_mended_device) :=
  cal_of hm F (fun _ _ _ _ _ _ us hl => match us, hl with | [_], _ => rfl) (fun _ _ _ _ _ _ us hl => match us, hl with | [_], _ => rfl) (fn_def F sc_mended_device fun cdv A outer s H E hr => e_mended_device T C_device_behind C_writes_of_mending cdv A outer s H E hr)
abbrev s_mended : Stmt := top 31
abbrev N_mended : List Str := ["device"]
abbrev p_mended : List Str := ["device"]
theorem sc_mended : FnScope N_mended p_mended (defScope s_mended) := ⟨rfl, rfl, rfl, by decide +kernel, rfl, by decide +kernel, by decide +kernel⟩
def b_mended : Es := (sSeq (sExpr (eArgs m_check_device (aCons (eVar 0) aNil))) (sRet (eArgs m_mended_device (aCons (eVar 0) aNil))))
def m_mended : Fn := mkDef 1 1 b_mended
set_option maxHeartbeats 4000000 in
theorem e_mended {f : Addr} (T : Txt K w mg) (C_check_device : Cal P w K mg base 2 "check_device" p_check_device (spM K m_check_device)) (C_mended_device : Cal P w K mg base 5 "mended_device" p_mended_device (spM K m_mended_device)) (cdv : Value) (A : Around) (outer : List PySem.Env) (s : Shared) (H : Hp) (E : XK) (hr : Room 5 (A.deeper (envOfC "mended" (defScope s_mended) s.heap.objs.size f cdv))) :
    ESs (cxOf CX0 P w K mg base N_mended "mended" (defScope s_mended) f cdv A outer s H E).nox (defBody s_mended) b_mended :=
  have S := sc_mended
  (es_cons (es_expr (ee_callC C_check_device hr (by first | decide | omega) (by rfl) (ea_cons (ee_var 0 (pv 0)) ea_nil))) (es_one (es_ret (ee_callC C_mended_device hr (by first | decide | omega) (by rfl) (ea_cons (ee_var 0 (pv 0)) ea_nil)))))
theorem c_mended {f : Addr} {fd : FuncData} (hm : mg "mended" = some (.ref f)) (F : FunD K "mended" "mended" (defArgs s_mended) (defBody s_mended) (defScope s_mended) [] [] f fd) (T : Txt K w mg) (C_check_device : Cal P w K mg base 2 "check_device" p_check_device (spM K m_check_device)) (C_mended_device : Cal P w K mg base 5 "mended_device" p_mended_device (spM K m_mended_device)) : Cal P w K mg base 6 "mended" p_mended (spM K m_mended) :=
  cal_of hm F (fun _ _ _ _ _ _ us hl => match us, hl with | [_], _ => rfl) (fun _ _ _ _ _ _ us hl => match us, hl with | [_], _ => rfl) (fn_def F sc_mended fun cdv A outer s H E hr => e_mended T C_check_device C_mended_device cdv A outer s H E hr)
abbrev s__law_now : Stmt := top 40
abbrev N__law_now : List Str := ["_law_holds"]
abbrev p__law_now : List Str := ["_law_holds"]
theorem sc__law_now : FnScope N__law_now p__law_now (defScope s__law_now) := ⟨rfl, rfl, rfl, by decide +kernel, rfl, by decide +kernel, by decide +kernel⟩
def b__law_now : Es := (sSeq (sIf (tAndE (tV (eOp gNotN (eOp gIx (eVar 0) (eC (.int 1))) (eC .non))) (tOrE (tV (eOp gIsN (eOp gIx (eVar 0) (eC (.int 0))) (eC .non))) (tV (eOp gGt (eOp gIx (eOp gIx (eVar 0) (eC (.int 1))) (eC (.int 0))) (eOp gIx (eOp gIx (eVar 0) (eC (.int 0))) (eC (.int 0))))))) (sRet (eC (.int 1))) sNil) (sRet (eIf (tV (eOp gIsN (eOp gIx (eVar 0) (eC (.int 0))) (eC .non))) (eC .non) (eC (.int 0)))))
def m__law_now : Fn := mkDef 1 1 b__law_now
set_option maxHeartbeats 4000000 in
theorem e__law_now {f : Addr} (T : Txt K w mg) (cdv : Value) (A : Around) (outer : List PySem.Env) (s : Shared) (H : Hp) (E : XK) (hr : Room 0 (A.deeper (envOfC "_law_now" (defScope s__law_now) s.heap.objs.size f cdv))) :
    ESs (cxOf CX0 P w K mg base N__law_now "_law_now" (defScope s__law_now) f cdv A outer s H E).nox (defBody s__law_now) b__law_now :=
  have S := sc__law_now
  (es_cons (es_if (et_w (ew_and (et_cmp (op_notN) l_notN (ee_ix (ee_var 0 (pv 0)) ee_int (fun _ _ => rfl)) ee_non (nomark _)) (ew_and1 (et_w (ew_or (et_cmp (op_isN) l_isN (ee_ix (ee_var 0 (pv 0)) ee_int (fun _ _ => rfl)) ee_non (nomark _)) (ew_or1 (et_cmp (op_gt) l_gt (ee_ix (ee_ix (ee_var 0 (pv 0)) ee_int (fun _ _ => rfl)) ee_int (fun _ _ => rfl)) (ee_ix (ee_ix (ee_var 0 (pv 0)) ee_int (fun _ _ => rfl)) ee_int (fun _ _ => rfl)) (nomark _)))))))) (es_one (es_ret ee_int)) es_nil) (es_one (es_ret (ee_if (et_cmp (op_isN) l_isN (ee_ix (ee_var 0 (pv 0)) ee_int (fun _ _ => rfl)) ee_non (nomark _)) ee_non ee_int))))
theorem c__law_now {f : Addr} {fd : FuncData} (hm : mg "_law_now" = some (.ref f)) (F : FunD K "_law_now" "_law_now" (defArgs s__law_now) (defBody s__law_now) (defScope s__law_now) [] [] f fd) (T : Txt K w mg) : Cal P w K mg base 1 "_law_now" p__law_now (spM K m__law_now) :=
  cal_of hm F (fun _ _ _ _ _ _ us hl => match us, hl with | [_], _ => rfl) (fun _ _ _ _ _ _ us hl => match us, hl with | [_], _ => rfl) (fn_def F sc__law_now fun cdv A outer s H E hr => e__law_now T  cdv A outer s H E hr)
abbrev s__law_put : Stmt := top 42
abbrev N__law_put : List Str := ["_law_device", "_law_writes", "_law_found", "_law_cell", "_law_number_here"]
abbrev p__law_put : List Str := ["_law_device", "_law_writes"]
theorem sc__law_put : FnScope N__law_put p__law_put (defScope s__law_put) := ⟨rfl, rfl, rfl, by decide +kernel, rfl, by decide +kernel, by decide +kernel⟩
def b__law_put : Es := (sSeq (sSet 2 (eNew (eArgs gLstOf (aCons (eVar 0) aNil)))) (sSeq (sFor (iSeq (eVar 1)) (nTup 2 (nCons (nName 3) (nCons (nName 4) nNil))) (sAsg (eVar 4) (nSubL (eVar 2) (eVar 3)))) (sRet (eArgs gTupOf (aCons (eVar 2) aNil)))))
def m__law_put : Fn := mkDef 2 5 b__law_put
set_option maxHeartbeats 4000000 in
theorem e__law_put {f : Addr} (T : Txt K w mg) (cdv : Value) (A : Around) (outer : List PySem.Env) (s : Shared) (H : Hp) (E : XK) (hr : Room 0 (A.deeper (envOfC "_law_put" (defScope s__law_put) s.heap.objs.size f cdv))) :
    ESs (cxOf CX0 P w K mg base N__law_put "_law_put" (defScope s__law_put) f cdv A outer s H E).nox (defBody s__law_put) b__law_put :=
  have S := sc__law_put
  (es_cons (es_set (ps_set (i := 2) S.nd rfl (Or.inl rfl) (ee_new (ef_callTy call_list_of l_lstOf (by rfl) T.list (by decide +kernel) (ea_cons (ee_var 0 (pv 0)) ea_nil))))) (es_cons (es_for PassesOwn.never rfl (ei_seq (ee_var 1 (pv 1))) (eg_tup rfl (egs_cons (eg_name (pg_name (i := 3) S.nd rfl (Or.inl rfl))) (egs_cons (eg_name (pg_name (i := 4) S.nd rfl (Or.inl rfl))) egs_nil))) (es_one (es_asg (ee_var 4 (pv 4)) (eg_subL (ee_var 2 (pv 2)) (ee_var 3 (pv 3)) (pg_sub (ee_var 2 (pv 2)) (ee_var 3 (pv 3)) set_list))))) (es_one (es_ret (ee_callTy call_tuple_of l_tupOf (by rfl) T.tuple (by decide +kernel) (ea_cons (ee_var 2 (pv 2)) ea_nil))))))
theorem c__law_put {f : Addr} {fd : FuncData} (hm : mg "_law_put" = some (.ref f)) (F : FunD K "_law_put" "_law_put" (defArgs s__law_put) (defBody s__law_put) (defScope s__law_put) [] [] f fd) (T : Txt K w mg) : Cal P w K mg base 1 "_law_put" p__law_put (spM K m__law_put) :=
  cal_of hm F (fun _ _ _ _ _ _ us hl => match us, hl with | [_, _], _ => rfl) (fun _ _ _ _ _ _ us hl => match us, hl with | [_, _], _ => rfl) (fn_def F sc__law_put fun cdv A outer s H E hr => e__law_put T  cdv A outer s H E hr)
abbrev s__law_is_seen : Stmt := top 47
abbrev N__law_is_seen : List Str := ["_law_device", "_law_holds", "_law_writes", "_law_told", "_law_due"]
abbrev p__law_is_seen : List Str := ["_law_device"]
theorem sc__law_is_seen : FnScope N__law_is_seen p__law_is_seen (defScope s__law_is_seen) := ⟨rfl, rfl, rfl, by decide +kernel, rfl, by decide +kernel, by decide +kernel⟩
def b__law_is_seen : Es := (sSeq (sPar 1 2 (eArgs m__law_both (aCons (eVar 0) aNil)) (eArgs m__law_clears (aCons (eVar 0) aNil))) (sSeq (sSet 3 (eArgs gTupP (aCons (eArgs m_held (aCons (eVar 0) (aCons (eC (.int 0)) aNil))) (aCons (eArgs m_held (aCons (eVar 0) (aCons (eC (.int 1)) aNil))) (aCons (eArgs m_current (aCons (eVar 0) aNil)) (aCons (eArgs m_is_mended (aCons (eVar 0) aNil)) (aCons (eArgs m_mending (aCons (eVar 0) aNil)) (aCons (eArgs m_mended (aCons (eVar 0) aNil)) aNil)))))))) (sSeq (sSet 4 (eOp gAdd (eVar 1) (eArgs gTupP (aCons (eArgs m__law_now (aCons (eVar 1) aNil)) (aCons (eOp gEq (eVar 2) (eArgs gTupP aNil)) (aCons (eVar 2) (aCons (eArgs m__law_put (aCons (eVar 0) (aCons (eVar 2) aNil))) aNil))))))) (sRet (eArgs (m__law_same 6) (aCons (eVar 3) (aCons (eVar 4) aNil)))))))
def m__law_is_seen : Fn := mkDef 1 5 b__law_is_seen
set_option maxHeartbeats 4000000 in
theorem e__law_is_seen {f : Addr} (T : Txt K w mg) (C__law_both : Cal P w K mg base 2 "_law_both" p__law_both (spM K m__law_both)) (C__law_clears : Cal P w K mg base 3 "_law_clears" p__law_clears (spM K m__law_clears)) (C__law_now : Cal P w K mg base 1 "_law_now" p__law_now (spM K m__law_now)) (C__law_put : Cal P w K mg base 1 "_law_put" p__law_put (spM K m__law_put)) (C__law_same : Cal P w K mg base 7 "_law_same" p__law_same (spM K (m__law_same 6))) (C_current : Cal P w K mg base 5 "current" p_current (spM K m_current)) (C_held : Cal P w K mg base 4 "held" p_held (spM K m_held)) (C_is_mended : Cal P w K mg base 5 "is_mended" p_is_mended (spM K m_is_mended)) (C_mended : Cal P w K mg base 6 "mended" p_mended (spM K m_mended)) (C_mending : Cal P w K mg base 5 "mending" p_mending (spM K m_mending)) (cdv : Value) (A : Around) (outer : List PySem.Env) (s : Shared) (H : Hp) (E : XK) (hr : Room 7 (A.deeper (envOfC "_law_is_seen" (defScope s__law_is_seen) s.heap.objs.size f cdv))) :
    ESs (cxOf CX0 P w K mg base N__law_is_seen "_law_is_seen" (defScope s__law_is_seen) f cdv A outer s H E).nox (defBody s__law_is_seen) b__law_is_seen :=
  have S := sc__law_is_seen
  (es_cons (es_par2 (i := 1) (j := 2) (by rfl) S.nd rfl rfl (by decide) rfl rfl (ee_callC C__law_both hr (by first | decide | omega) (by rfl) (ea_cons (ee_var 0 (pv 0)) ea_nil)) (ee_callC C__law_clears hr (by first | decide | omega) (by rfl) (ea_cons (ee_var 0 (pv 0)) ea_nil)) (by rfl) (by rfl)) (es_cons (es_set (ps_set (i := 3) S.nd rfl (Or.inl rfl) (ee_tup (ea_cons (ee_callC C_held hr (by first | decide | omega) (by rfl) (ea_cons (ee_var 0 (pv 0)) (ea_cons ee_int ea_nil))) (ea_cons (ee_callC C_held hr (by first | decide | omega) (by rfl) (ea_cons (ee_var 0 (pv 0)) (ea_cons ee_int ea_nil))) (ea_cons (ee_callC C_current hr (by first | decide | omega) (by rfl) (ea_cons (ee_var 0 (pv 0)) ea_nil)) (ea_cons (ee_callC C_is_mended hr (by first | decide | omega) (by rfl) (ea_cons (ee_var 0 (pv 0)) ea_nil)) (ea_cons (ee_callC C_mending hr (by first | decide | omega) (by rfl) (ea_cons (ee_var 0 (pv 0)) ea_nil)) (ea_cons (ee_callC C_mended hr (by first | decide | omega) (by rfl) (ea_cons (ee_var 0 (pv 0)) ea_nil)) ea_nil))))))))) (es_cons (es_set (ps_set (i := 4) S.nd rfl (Or.inl rfl) (ee_op op_addA l_add (ee_var 1 (pv 1)) (ee_tup (ea_cons (ee_callC C__law_now hr (by first | decide | omega) (by rfl) (ea_cons (ee_var 1 (pv 1)) ea_nil)) (ea_cons (ee_cmp (op_eqA (hu64 hr)) l_eq (ee_var 2 (pv 2)) (ee_tup ea_nil) (nomark _)) (ea_cons (ee_var 2 (pv 2)) (ea_cons (ee_callC C__law_put hr (by first | decide | omega) (by rfl) (ea_cons (ee_var 0 (pv 0)) (ea_cons (ee_var 2 (pv 2)) ea_nil))) ea_nil)))))))) (es_one (es_ret (ee_callC C__law_same hr (by first | decide | omega) (by rfl) (ea_cons (ee_var 3 (pv 3)) (ea_cons (ee_var 4 (pv 4)) ea_nil))))))))
theorem c__law_is_seen {f : Addr} {fd : FuncData} (hm : mg "_law_is_seen" = some (.ref f)) (F : FunD K "_law_is_seen" "_law_is_seen" (defArgs s__law_is_seen) (defBody s__law_is_seen) (defScope s__law_is_seen) [] [] f fd) (T : Txt K w mg) (C__law_both : Cal P w K mg base 2 "_law_both" p__law_both (spM K m__law_both)) (C__law_clears : Cal P w K mg base 3 "_law_clears" p__law_clears (spM K m__law_clears)) (C__law_now : Cal P w K mg base 1 "_law_now" p__law_now (spM K m__law_now)) (C__law_put : Cal P w K mg base 1 "_law_put" p__law_put (spM K m__law_put)) (C__law_same : Cal P w K mg base 7 "_law_same" p__law_same (spM K (m__law_same 6))) (C_current : Cal P w K mg base 5 "current" p_current (spM K m_current)) (C_held : Cal P w K mg base 4 "held" p_held (spM K m_held)) (C_is_mended : Cal P w K mg base 5 "is_mended" p_is_mended (spM K m_is_mended)) (C_mended : Cal P w K mg base 6 "mended" p_mended (spM K m_mended)) (C_mending : Cal P w K mg base 5 "mending" p_mending (spM K m_mending)) : Cal P w K mg base 8 "_law_is_seen" p__law_is_seen (spM K m__law_is_seen) :=
  cal_of hm F (fun _ _ _ _ _ _ us hl => match us, hl with | [_], _ => rfl) (fun _ _ _ _ _ _ us hl => match us, hl with | [_], _ => rfl) (fn_def F sc__law_is_seen fun cdv A outer s H E hr => e__law_is_seen T C__law_both C__law_clears C__law_now C__law_put C__law_same C_current C_held C_is_mended C_mended C_mending cdv A outer s H E hr)
abbrev s__law_right : Stmt := top 48
abbrev N__law_right : List Str := ["_law_well_here", "_law_wide", "_law_one", "_law_two", "_law_device", "_law_empty"]
abbrev p__law_right : List Str := ["_law_well_here"]
theorem sc__law_right : FnScope N__law_right p__law_right (defScope s__law_right) := ⟨rfl, rfl, rfl, by decide +kernel, rfl, by decide +kernel, by decide +kernel⟩
def b__law_right : Es := (sSeq (sSet 1 (eOp gAdd (eC (.int 26)) (eArgs m__law_draw (aCons (eVar 0) (aCons (eC (.int 7)) aNil))))) (sSeq (sSet 2 (eArgs m__law_slot (aCons (eVar 0) (aCons (eVar 1) aNil)))) (sSeq (sSet 3 (eIf (tV (eOp gEq (eArgs m__law_draw (aCons (eVar 0) (aCons (eC (.int 5)) aNil))) (eC (.int 0)))) (eArgs gLstOf (aCons (eVar 2) aNil)) (eArgs m__law_slot (aCons (eVar 0) (aCons (eVar 1) aNil))))) (sSeq (sPar 4 5 (eArgs gTupOf (aCons (eOp gCat (eVar 2) (eVar 3)) aNil)) (eArgs m_blank (aCons (eVar 1) aNil))) (sSeq (sIf (tOrE (tNotE (tT (eArgs m__law_is_seen (aCons (eVar 4) aNil)))) (tNotE (tT (eArgs m__law_is_seen (aCons (eArgs m__law_put (aCons (eVar 4) (aCons (eArgs m__law_clears (aCons (eVar 4) aNil)) aNil))) aNil))))) (sRet (eC (.bl false))) sNil) (sRet (eAndV (eArgs (m__law_same 6) (aCons (eVar 5) (aCons (eOp gRep (eArgs gTupP (aCons (eC (.int 0)) aNil)) (eOp gAdd (eOp gMul (eC (.int 2)) (eVar 1)) (eC (.int 8)))) aNil))) (eArgs m__law_is_seen (aCons (eVar 5) aNil)))))))))
def m__law_right : Fn := mkDef 1 6 b__law_right
set_option maxHeartbeats 4000000 in
theorem e__law_right {f : Addr} (T : Txt K w mg) (C__law_clears : Cal P w K mg base 3 "_law_clears" p__law_clears (spM K m__law_clears)) (C__law_draw : Cal P w K mg base 1 "_law_draw" p__law_draw (spM K m__law_draw)) (C__law_is_seen : Cal P w K mg base 8 "_law_is_seen" p__law_is_seen (spM K m__law_is_seen)) (C__law_put : Cal P w K mg base 1 "_law_put" p__law_put (spM K m__law_put)) (C__law_same : Cal P w K mg base 7 "_law_same" p__law_same (spM K (m__law_same 6))) (C__law_slot : Cal P w K mg base 4 "_law_slot" p__law_slot (spM K m__law_slot)) (C_blank : Cal P w K mg base 4 "blank" p_blank (spM K m_blank)) (cdv : Value) (A : Around) (outer : List PySem.Env) (s : Shared) (H : Hp) (E : XK) (hr : Room 8 (A.deeper (envOfC "_law_right" (defScope s__law_right) s.heap.objs.size f cdv))) :
    ESs (cxOf CX0 P w K mg base N__law_right "_law_right" (defScope s__law_right) f cdv A outer s H E).nox (defBody s__law_right) b__law_right :=
  have S := sc__law_right
  (es_cons (es_set (ps_set (i := 1) S.nd rfl (Or.inl rfl) (ee_op op_addA l_add ee_int (ee_callC C__law_draw hr (by first | decide | omega) (by rfl) (ea_cons (ee_var 0 (pv 0)) (ea_cons ee_int ea_nil)))))) (es_cons (es_set (ps_set (i := 2) S.nd rfl (Or.inl rfl) (ee_callC C__law_slot hr (by first | decide | omega) (by rfl) (ea_cons (ee_var 0 (pv 0)) (ea_cons (ee_var 1 (pv 1)) ea_nil))))) (es_cons (es_set (ps_set (i := 3) S.nd rfl (Or.inl rfl) (ee_if (et_cmp (op_eqA (hu64 hr)) l_eq (ee_callC C__law_draw hr (by first | decide | omega) (by rfl) (ea_cons (ee_var 0 (pv 0)) (ea_cons ee_int ea_nil))) ee_int (nomark _)) (ee_pure (ef_callTy call_list_of l_lstOf (by rfl) T.list (by decide +kernel) (ea_cons (ee_var 2 (pv 2)) ea_nil))) (ee_callC C__law_slot hr (by first | decide | omega) (by rfl) (ea_cons (ee_var 0 (pv 0)) (ea_cons (ee_var 1 (pv 1)) ea_nil)))))) (es_cons (es_par2 (i := 4) (j := 5) (by rfl) S.nd rfl rfl (by decide) rfl rfl (ee_callTy call_tuple_of l_tupOf (by rfl) T.tuple (by decide +kernel) (ea_cons (ee_pure (ef_cat (ee_var 2 (pv 2)) (ee_var 3 (pv 3)))) ea_nil)) (ee_callC C_blank hr (by first | decide | omega) (by rfl) (ea_cons (ee_var 1 (pv 1)) ea_nil)) (by rfl) (by rfl)) (es_cons (es_if (et_w (ew_or (et_not (et_truth (ee_callC C__law_is_seen hr (by first | decide | omega) (by rfl) (ea_cons (ee_var 4 (pv 4)) ea_nil)))) (ew_or1 (et_not (et_truth (ee_callC C__law_is_seen hr (by first | decide | omega) (by rfl) (ea_cons (ee_callC C__law_put hr (by first | decide | omega) (by rfl) (ea_cons (ee_var 4 (pv 4)) (ea_cons (ee_callC C__law_clears hr (by first | decide | omega) (by rfl) (ea_cons (ee_var 4 (pv 4)) ea_nil)) ea_nil))) ea_nil))))))) (es_one (es_ret ee_bl)) es_nil) (es_one (es_ret (ee_and (ee_callC C__law_same hr (by first | decide | omega) (by rfl) (ea_cons (ee_var 5 (pv 5)) (ea_cons (ee_op op_repA l_rep (ee_tup (ea_cons ee_int ea_nil)) (ee_op op_addA l_add (ee_op op_mul l_mul ee_int (ee_var 1 (pv 1))) ee_int)) ea_nil))) (ee_one (ee_callC C__law_is_seen hr (by first | decide | omega) (by rfl) (ea_cons (ee_var 5 (pv 5)) ea_nil)))))))))))
theorem c__law_right {f : Addr} {fd : FuncData} (hm : mg "_law_right" = some (.ref f)) (F : FunD K "_law_right" "_law_right" (defArgs s__law_right) (defBody s__law_right) (defScope s__law_right) [] [] f fd) (T : Txt K w mg) (C__law_clears : Cal P w K mg base 3 "_law_clears" p__law_clears (spM K m__law_clears)) (C__law_draw : Cal P w K mg base 1 "_law_draw" p__law_draw (spM K m__law_draw)) (C__law_is_seen : Cal P w K mg base 8 "_law_is_seen" p__law_is_seen (spM K m__law_is_seen)) (C__law_put : Cal P w K mg base 1 "_law_put" p__law_put (spM K m__law_put)) (C__law_same : Cal P w K mg base 7 "_law_same" p__law_same (spM K (m__law_same 6))) (C__law_slot : Cal P w K mg base 4 "_law_slot" p__law_slot (spM K m__law_slot)) (C_blank : Cal P w K mg base 4 "blank" p_blank (spM K m_blank)) : Cal P w K mg base 9 "_law_right" p__law_right (spM K m__law_right) :=
  cal_of hm F (fun _ _ _ _ _ _ us hl => match us, hl with | [_], _ => rfl) (fun _ _ _ _ _ _ us hl => match us, hl with | [_], _ => rfl) (fn_def F sc__law_right fun cdv A outer s H E hr => e__law_right T C__law_clears C__law_draw C__law_is_seen C__law_put C__law_same C__law_slot C_blank cdv A outer s H E hr)
abbrev s__law_well : Stmt := top 33
abbrev N__law_well : List Str := ["_law_script", "_law_turn", "_law_mixed", "_law_cell", "_law_own"]
abbrev p__law_well : List Str := ["_law_script", "_law_turn"]
theorem sc__law_well : FnScope N__law_well p__law_well (defScope s__law_well) := ⟨rfl, rfl, rfl, by decide +kernel, rfl, by decide +kernel, by decide +kernel⟩
def b__law_well : Es := (sSeq (sSet 2 (eOp gAdd (eC (.int 902611)) (eOp gMul (eC (.int 7129)) (eVar 1)))) (sSeq (sFor (iSeq (fSl (eVar 0) oNone (oSome (eC (.int 9))))) (nName 3) (sSet 2 (eOp gMod (eArgs gInt (aCons (eOp gAdd (eOp gAdd (eOp gMul (eVar 2) (eC (.int 47123))) (eOp gMod (eArgs gInt (aCons (eVar 3) aNil)) (eC (.int 2147483587)))) (eC (.int 5))) aNil)) (eC (.int 2147483563))))) (sSeq (sSet 4 (eIf (tV (eOp gLt (eVar 1) (eArgs gLen (aCons (eVar 0) aNil)))) (eArgs gInt (aCons (eOp gIx (eVar 0) (eVar 1)) aNil)) (eC (.int 0)))) (sSeq (sSet 2 (eOp gMod (eArgs gInt (aCons (eOp gAdd (eOp gAdd (eOp gMul (eVar 2) (eC (.int 43))) (eOp gMul (eOp gMod (eArgs gInt (aCons (eVar 4) aNil)) (eC (.int 2147483587))) (eC (.int 20011)))) (eC (.int 7))) aNil)) (eC (.int 2147483563)))) (sRet (eNew (eArgs gLstP (aCons (eIf (tOrE (tV (eOp gLt (eVar 4) (eC (.int 0)))) (tV (eOp gGe (eVar 4) (eOp gPow (eC (.int 10)) (eC (.int 14)))))) (eArgs gAbs (aCons (eVar 4) aNil)) (eC (.int 0))) (aCons (eVar 2) (aCons (eC (.int 0)) aNil))))))))))
def m__law_well : Fn := mkNew 2 5 b__law_well
set_option maxHeartbeats 4000000 in
theorem e__law_well {f : Addr} (T : Txt K w mg) (cdv : Value) (A : Around) (outer : List PySem.Env) (s : Shared) (H : Hp) (E : XK) (hr : Room 0 (A.deeper (envOfC "_law_well" (defScope s__law_well) s.heap.objs.size f cdv))) :
    ESs (cxOf CX0 P w K mg base N__law_well "_law_well" (defScope s__law_well) f cdv A outer s H E).nox (defBody s__law_well) b__law_well :=
  have S := sc__law_well
  (es_cons (es_set (ps_set (i := 2) S.nd rfl (Or.inl rfl) (ee_op op_addA l_add ee_int (ee_op op_mul l_mul ee_int (ee_var 1 (pv 1)))))) (es_cons (es_for PassesOwn.never rfl (ei_seq (ee_pure (ef_sl (ee_var 0 (pv 0)) eo_none (eo_some ee_int)))) (eg_name (pg_name (i := 3) S.nd rfl (Or.inl rfl))) (es_one (es_set (ps_set (i := 2) S.nd rfl (Or.inl rfl) (ee_op op_mod l_mod (ee_callTy call_int1 l_int (by rfl) T.int (by decide +kernel) (ea_cons (ee_op op_addA l_add (ee_op op_addA l_add (ee_op op_mul l_mul (ee_var 2 (pv 2)) ee_int) (ee_op op_mod l_mod (ee_callTy call_int1 l_int (by rfl) T.int (by decide +kernel) (ea_cons (ee_var 3 (pv 3)) ea_nil)) ee_int)) ee_int) ea_nil)) ee_int))))) (es_cons (es_set (ps_set (i := 4) S.nd rfl (Or.inl rfl) (ee_if (et_cmp (op_lt) l_lt (ee_var 1 (pv 1)) (ee_callB call_lenA l_len (by rfl) T.len (by decide +kernel) (ea_cons (ee_var 0 (pv 0)) ea_nil)) (nomark _)) (ee_callTy call_int1 l_int (by rfl) T.int (by decide +kernel) (ea_cons (ee_ix (ee_var 0 (pv 0)) (ee_var 1 (pv 1)) (fun _ _ => rfl)) ea_nil)) ee_int))) (es_cons (es_set (ps_set (i := 2) S.nd rfl (Or.inl rfl) (ee_op op_mod l_mod (ee_callTy call_int1 l_int (by rfl) T.int (by decide +kernel) (ea_cons (ee_op op_addA l_add (ee_op op_addA l_add (ee_op op_mul l_mul (ee_var 2 (pv 2)) ee_int) (ee_op op_mul l_mul (ee_op op_mod l_mod (ee_callTy call_int1 l_int (by rfl) T.int (by decide +kernel) (ea_cons (ee_var 4 (pv 4)) ea_nil)) ee_int) ee_int)) ee_int) ea_nil)) ee_int))) (es_one (es_ret (ee_new (ef_lst (ea_cons (ee_if (et_w (ew_or (et_cmp (op_lt) l_lt (ee_var 4 (pv 4)) ee_int (nomark _)) (ew_or1 (et_cmp (op_ge) l_ge (ee_var 4 (pv 4)) (ee_op op_pow l_pow ee_int ee_int) (nomark _))))) (ee_callB call_abs l_abs (by rfl) T.abs (by decide +kernel) (ea_cons (ee_var 4 (pv 4)) ea_nil)) ee_int) (ea_cons (ee_var 2 (pv 2)) (ea_cons ee_int ea_nil)))))))))))
theorem c__law_well {f : Addr} {fd : FuncData} (hm : mg "_law_well" = some (.ref f)) (F : FunD K "_law_well" "_law_well" (defArgs s__law_well) (defBody s__law_well) (defScope s__law_well) [] [] f fd) (T : Txt K w mg) : Cal P w K mg base 1 "_law_well" p__law_well (spN K m__law_well) :=
  cal_of hm F (fun _ _ _ _ _ _ us hl => match us, hl with | [_, _], _ => rfl) (fun _ _ _ _ _ _ us hl => match us, hl with | [_, _], _ => rfl) (fn_new F sc__law_well fun cdv A outer s H E hr => e__law_well T  cdv A outer s H E hr)
abbrev s_law : Stmt := top 49
abbrev N_law : List Str := ["_law_script", "_law_turn"]
abbrev p_law : List Str := ["_law_script"]
theorem sc_law : FnScope N_law p_law (defScope s_law) := ⟨rfl, rfl, rfl, by decide +kernel, rfl, by decide +kernel, by decide +kernel⟩
def b_law : Es := (sRet (eArgs gAll (aCons (fComp (iArgs gRange (aCons (eArgs gMax2 (aCons (eC (.int 2)) (aCons (eArgs gMin2 (aCons (eArgs gLen (aCons (eVar 0) aNil)) (aCons (eC (.int 3)) aNil))) aNil))) aNil)) (nName 1) tYesE (eArgs m__law_right (aCons (eNew (eArgs m__law_well (aCons (eVar 0) (aCons (eVar 1) aNil)))) aNil)) [1]) aNil)))
def m_law : Fn := mkDef 1 2 b_law
set_option maxHeartbeats 4000000 in
theorem e_law {f : Addr} (T : Txt K w mg) (C__law_right : Cal P w K mg base 9 "_law_right" p__law_right (spM K m__law_right)) (C__law_well : Cal P w K mg base 1 "_law_well" p__law_well (spN K m__law_well)) (cdv : Value) (A : Around) (outer : List PySem.Env) (s : Shared) (H : Hp) (E : XK) (hr : Room 9 (A.deeper (envOfC "law" (defScope s_law) s.heap.objs.size f cdv))) :
    ESs (cxOf CX0 P w K mg base N_law "law" (defScope s_law) f cdv A outer s H E).nox (defBody s_law) b_law :=
  have S := sc_law
  (es_one (es_ret (ee_callB (cr_all rfl) l_all (by rfl) T.all (by decide +kernel) (ea_cons (ee_pure (ef_comp (own := [("_law_turn", 1)]) (g := (gName 1)) rfl S.nd (blkOk_by (N := N_law) (sc := defScope s_law) (by decide +kernel)) (tgt_name (by decide)) (ei_range1 (by rfl) T.range (ea_cons (ee_callB (call_max2 rfl) l_max2 (by rfl) T.max (by decide +kernel) (ea_cons ee_int (ea_cons (ee_callB (call_min2 rfl) l_min2 (by rfl) T.min (by decide +kernel) (ea_cons (ee_callB call_lenA l_len (by rfl) T.len (by decide +kernel) (ea_cons (ee_var 0 (pv 0)) ea_nil)) (ea_cons ee_int ea_nil))) ea_nil))) ea_nil) (by intro ρ S ps S' h; exact aLen1 h)) (fun _ _ _ _ _ => pg_name (i := 1) S.nd rfl (Or.inl rfl)) (fun _ _ _ _ _ => ei_none) (fun _ _ _ _ _ => (ee_callC C__law_right hr (by first | decide | omega) (by rfl) (ea_cons (ee_new (ef_callC C__law_well hr (by first | decide | omega) (by rfl) (ea_cons (ee_var 0 (pv 0)) (ea_cons (ee_var 1 (pv 1)) ea_nil)))) ea_nil))))) ea_nil))))
theorem c_law {f : Addr} {fd : FuncData} (hm : mg "law" = some (.ref f)) (F : FunD K "law" "law" (defArgs s_law) (defBody s_law) (defScope s_law) [] [] f fd) (T : Txt K w mg) (C__law_right : Cal P w K mg base 9 "_law_right" p__law_right (spM K m__law_right)) (C__law_well : Cal P w K mg base 1 "_law_well" p__law_well (spN K m__law_well)) : Cal P w K mg base 10 "law" p_law (spM K m_law) :=
  cal_of hm F (fun _ _ _ _ _ _ us hl => match us, hl with | [_], _ => rfl) (fun _ _ _ _ _ _ us hl => match us, hl with | [_], _ => rfl) (fn_def F sc_law fun cdv A outer s H E hr => e_law T C__law_right C__law_well cdv A outer s H E hr)
end
end G80
set_option Elab.async false
set_option maxRecDepth 100000
set_option maxHeartbeats 1000000
set_option linter.all false
namespace G80
open PySem PySem.Spec PyProof.Rows L2 Py

/-! ### the calculus -/
/-- what is asked of a value and of the store behind it; simp does not go into it -/
class Kt (α : Type) where
  f : α → Sto → Prop
def WPi {α : Type} (r : R α) [Q : Kt α] : Prop := match r with
  | .ok a S => Q.f a S
  | _ => False
abbrev WP {α : Type} (r : R α) (Q : α → Sto → Prop) : Prop := @WPi α r ⟨Q⟩
theorem wp_ok {α : Type} {a : α} {S : Sto} {Q : α → Sto → Prop} : @WPi α (.ok a S) ⟨Q⟩ = Q a S := rfl
theorem wp_no {α : Type} {Q : α → Sto → Prop} : @WPi α (.no : R α) ⟨Q⟩ = False := rfl
theorem wp_bind {α β : Type} {r : R α} {f : α → List PV → R β} {Q : β → Sto → Prop} : @WPi β (r.bind f) ⟨Q⟩ = @WPi α r ⟨fun a S => @WPi β (f a S) ⟨Q⟩⟩ := by
  cases r <;> rfl
theorem wp_of {α : Type} {r : R α} {Q Q' : α → Sto → Prop} (h : WP r Q) (f : ∀ a S, Q a S → Q' a S) : WP r Q' := by
  cases r with
  | ok a S => exact f a S h
  | er => exact h
  | no => exact h
theorem WP.ex {α : Type} {r : R α} {Q : α → Sto → Prop} (h : WP r Q) : ∃ a S, r = .ok a S ∧ Q a S := by
  cases r with
  | ok a S => exact ⟨a, S, rfl, h⟩
  | er => exact h.elim
  | no => exact h.elim
theorem wp_ite {α : Type} {c : Prop} [Decidable c] {x y : R α} {Q : α → Sto → Prop} : WP (if c then x else y) Q = ((c → WP x Q) ∧ (¬c → WP y Q)) := by
  by_cases h : c <;> simp [h]
def Well (S : Sto) (n : Nat) : Prop := ∃ a b c : Int, S[n]? = some (.lst [.int a, .int b, .int c])
/-- S' is S but for the well at n -/
structure Wl (n : Nat) (S S' : Sto) : Prop where
  len : S'.length = S.length
  same : ∀ i, i ≠ n → S'[i]? = S[i]?
  w : Well S' n
theorem Wl.set {n : Nat} {S : Sto} {a b c : Int} (h : n < S.length) : Wl n S (S.set n (.lst [.int a, .int b, .int c])) :=
  ⟨by simp, fun i hi => by rw [List.getElem?_set_ne (Ne.symm hi)], a, b, c, by simp [h]⟩
theorem Wl.refl {n : Nat} {S : Sto} (h : Well S n) : Wl n S S := ⟨rfl, fun _ _ => rfl, h⟩
theorem Wl.trans {n : Nat} {S S1 S2 : Sto} (h : Wl n S S1) (g : Wl n S1 S2) : Wl n S S2 := ⟨g.len.trans h.len, fun i hi => (g.same i hi).trans (h.same i hi), g.w⟩
theorem Well.lt {S : Sto} {n : Nat} (h : Well S n) : n < S.length := by
  obtain ⟨a, b, c, e⟩ := h
  exact (List.getElem?_eq_some_iff.mp e).1
theorem gMul_l {i j : Int} {S : Sto} (h1 : -18446744073709551616 < i) (h2 : i < 18446744073709551616) : gMul (.int i) (.int j) S = .ok (.int (i * j)) S := by
  unfold gMul; exact if_pos (.inl ⟨h1, h2⟩)
theorem gMul_r {i j : Int} {S : Sto} (h1 : -18446744073709551616 < j) (h2 : j < 18446744073709551616) : gMul (.int i) (.int j) S = .ok (.int (i * j)) S := by
  unfold gMul; exact if_pos (.inr ⟨h1, h2⟩)
theorem atI_nat {α : Type} {l : List α} {i : Nat} : atI l (i : Int) = l[i]? := by
  unfold atI ixN
  rw [if_pos (Int.natCast_nonneg i)]
  by_cases h : (i : Int) < l.length
  · rw [if_pos h]; rfl
  · rw [if_neg h]; simp; omega
theorem atI0 {α : Type} {x : α} {l : List α} : atI (x :: l) 0 = some x := atI_nat (i := 0)
theorem atI1 {α : Type} {x y : α} {l : List α} : atI (x :: y :: l) 1 = some y := atI_nat (i := 1)
theorem atI2 {α : Type} {x y z : α} {l : List α} : atI (x :: y :: z :: l) 2 = some z := atI_nat (i := 2)
theorem atI3 {α : Type} {x y z u : α} {l : List α} : atI (x :: y :: z :: u :: l) 3 = some u := atI_nat (i := 3)
theorem wp_pos {α : Type} {c : Prop} [Decidable c] {x y : R α} {Q : α → Sto → Prop} (h : c) (k : WP x Q) : WP (if c then x else y) Q := by rw [if_pos h]; exact k
theorem wp_neg {α : Type} {c : Prop} [Decidable c] {x y : R α} {Q : α → Sto → Prop} (h : ¬c) (k : WP y Q) : WP (if c then x else y) Q := by rw [if_neg h]; exact k
theorem wp_if {α : Type} {c : Prop} [Decidable c] {x y : R α} {Q : α → Sto → Prop} (h : c → WP x Q) (k : ¬c → WP y Q) : WP (if c then x else y) Q := by
  by_cases z : c
  · rw [if_pos z]; exact h z
  · rw [if_neg z]; exact k z
theorem set_get {S : Sto} {n : Nat} {x : PV} (h : n < S.length) : (S.set n x)[n]? = some x := by simp [h]
theorem take_set {S : Sto} {n : Nat} {x : PV} : (S.set n x).take S.length = S.set n x := List.take_of_length_le (by simp)
theorem take_self {S : Sto} : S.take S.length = S := List.take_of_length_le (Nat.le_refl _)
abbrev mP : Int := 2147483563
theorem gEq_int {i j : Int} {S : Sto} : gEq (.int i) (.int j) S = .ok (.bl (decide (i = j))) S := rfl
theorem gEq_str {i j : Str} {S : Sto} : gEq (.str i) (.str j) S = .ok (.bl (decide (i = j))) S := rfl
theorem gEq_bl {i j : Bool} {S : Sto} : gEq (.bl i) (.bl j) S = .ok (.bl (decide (i = j))) S := rfl
theorem gNe_int {i j : Int} {S : Sto} : gNe (.int i) (.int j) S = .ok (.bl (!decide (i = j))) S := rfl
theorem gNe_str {i j : Str} {S : Sto} : gNe (.str i) (.str j) S = .ok (.bl (!decide (i = j))) S := rfl
theorem gNe_bl {i j : Bool} {S : Sto} : gNe (.bl i) (.bl j) S = .ok (.bl (!decide (i = j))) S := rfl
theorem isLst_of {S : Sto} {m : Nat} {xs : List PV} (h : S[m]? = some (.lst xs)) : isLst (.ref m) S = true := by
  simp only [isLst, getL, h, Option.isSome_some]
theorem isDic_of {S : Sto} {m : Nat} {ks : List Key} {xs : List PV} (h : S[m]? = some (.dic ks xs)) : isDic (.ref m) S = true := by
  simp only [isDic, getD, h, Option.isSome_some]
theorem finV_tup {n : Nat} {xs : List PV} {S : Sto} : finV n (.tup xs) S = .ok (.tup xs) (S.take n) := rfl
theorem finV_lst {n : Nat} {xs : List PV} {S : Sto} : finV n (.lst xs) S = .ok (.lst xs) (S.take n) := rfl
theorem finV_int {n : Nat} {i : Int} {S : Sto} : finV n (.int i) S = .ok (.int i) (S.take n) := rfl
theorem finV_bl {n : Nat} {i : Bool} {S : Sto} : finV n (.bl i) S = .ok (.bl i) (S.take n) := rfl
theorem finV_str {n : Nat} {i : Str} {S : Sto} : finV n (.str i) S = .ok (.str i) (S.take n) := rfl
theorem finV_non {n : Nat} {S : Sto} : finV n .non S = .ok .non (S.take n) := rfl
theorem finV_ref {n m : Nat} {S : Sto} : finV n (.ref m) S = if m < n then .ok (.ref m) (S.take n) else match S[m]? with
  | some o => .ok o (S.take n)
  | none => .no := rfl
theorem finV_pure {n : Nat} {p : PV} {S : Sto} (h : p.isRef = false) : finV n p S = .ok p (S.take n) := by
  cases p <;> first | rfl | cases h
theorem allPure_nil : allPure [] = true := rfl
theorem allPure_cons {p : PV} {ps : List PV} : allPure (p :: ps) = (!p.isRef && allPure ps) := rfl
theorem isRef_tup {xs : List PV} : (PV.tup xs).isRef = false := rfl
theorem isRef_int {i : Int} : (PV.int i).isRef = false := rfl
theorem isRef_str {i : Str} : (PV.str i).isRef = false := rfl
theorem isRef_bl {i : Bool} : (PV.bl i).isRef = false := rfl
theorem size_1000 {n : Nat} (h : n ≤ 5000) : n ≤ sizeLine := by unfold sizeLine; omega
theorem gTupP_ok {ps : List PV} {S : Sto} (h : allPure ps = true) (hl : ps.length ≤ 5000) : gTupP ps S = .ok (.tup ps) S := by
  unfold gTupP; exact if_pos ⟨h, size_1000 hl⟩
theorem gLstP_ok {ps : List PV} {S : Sto} (h : allPure ps = true) (hl : ps.length ≤ 5000) : gLstP ps S = .ok (.lst ps) S := by
  unfold gLstP; exact if_pos ⟨h, size_1000 hl⟩
theorem gAdd_int {i j : Int} {S : Sto} : gAdd (.int i) (.int j) S = .ok (.int (i + j)) S := rfl
theorem gAdd_tup {xs ys : List PV} {S : Sto} (h : xs.length + ys.length ≤ 5000) : gAdd (.tup xs) (.tup ys) S = .ok (.tup (xs ++ ys)) S := by
  show (if xs.length + ys.length ≤ sizeLine then _ else _) = _
  rw [if_pos (size_1000 h)]
theorem gLstP_nil {S : Sto} : gLstP [] S = .ok (.lst []) S := gLstP_ok rfl (by simp)
theorem gTupP_nil {S : Sto} : gTupP [] S = .ok (.tup []) S := gTupP_ok rfl (by simp)
theorem draw_ok {S : Sto} {n : Nat} {m : Int} (hw : Well S n) (hm : 0 < m) (hm2 : m < 1152921504606846976) : WP (m__law_draw [.ref n, .int m] S) fun p S' => ∃ k : Int, p = .int k ∧ 0 ≤ k ∧ k < m ∧ Wl n S S' := by
  have hl := hw.lt
  obtain ⟨a, b, c, e⟩ := hw
  unfold m__law_draw b__law_draw
  by_cases h0 : 0 < a
  · simp only [wp_ok, wp_no, ↓wp_bind, ↓R.bind_ok, ↓sSeq, ↓sNil, ↓sSet, ↓sAsg, ↓sIf, ↓sRet, ↓sExpr, ↓sPar, ↓sPar3, ↓sFor, ↓nName, ↓nTup, ↓nCons, ↓nNil, ↓nNs, ↓eVar, ↓eC, ↓eOp, ↓eUn, ↓eArgs, ↓eNew, ↓aCons, ↓aNil, ↓tV, ↓tT, toB, truP, ↓tNotE, ↓tAndE, ↓tOrE, ↓tYesE, ↓eAndV, ↓eOrV, ↓eNotV, ↓eNotT, ↓eIf, gAdd_int, gAdd_tup, Py.gSub, gMul_l, gMul_r, gMod, gFdiv, gNeg, gLt, gLe, gGt, gGe, gInt, gIx, gEq_int, gEq_str, gEq_bl, gNe_int, gNe_str, gNe_bl, gIsN, gNotN, getQ, getL, gSetL, ↓nSubL, gDivmod, gMin2, gMax2, ↓mkDef, ↓mkNew, startP, finF, finO, finV_tup, finV_int, finV_bl, finV_lst, finV_non, finV_str, finV_ref, ↓eChain, tyP, gIsi, isiB, ↓iArgs, ↓iSeq, iterP, ↓fComp, wipeP, ↓eSl, ↓oNone, ↓oSome, gSl, ↓eMeth0, ↓eMeth1, ixN, atI0, atI1, atI2, atI3, List.length_cons, List.length_nil, List.map_cons, List.map_nil, List.replicate, List.cons_append, List.nil_append, List.append_nil, List.getElem?_cons_zero, List.getElem?_cons_succ, List.getElem?_nil, List.set_cons_zero, List.set_cons_succ, List.set_nil, List.length_set, List.length_append, Nat.add_sub_cancel, Nat.reduceAdd, Nat.reduceSub, Nat.reduceLT, Nat.reduceEqDiff, Nat.reduceLeDiff, Nat.le_refl, Nat.zero_le, if_true, if_false, ↓reduceIte, decide_eq_true_eq, Bool.false_eq_true, Bool.true_eq_false, Bool.not_true, Bool.not_false, Option.isSome_some, forall_const, not_true_eq_false, not_false_eq_true, imp_self, false_implies, true_implies, implies_true, and_true, true_and, Int.toNat_zero, Nat.zero_add, Int.reduceLE, Int.reduceLT, Int.reduceNeg, Int.reduceToNat, Int.reducePow, Int.reduceGT, Int.cast_ofNat_Int, true_or, or_true, Int.ofNat_eq_natCast, decide_true, decide_false, Int.reduceEq, List.isEmpty_cons, List.isEmpty_nil, eDGet1,  keyP, Option.map_some, Option.map_none, Option.getD_some, Option.isSome_some, reduceCtorEq, and_self,  allPure_nil, allPure_cons, Bool.and_true, Bool.true_and, Bool.false_and, Bool.and_false, Bool.not_eq_true, Bool.not_eq_false, gTupP_nil, gLstP_nil, gTupP_ok, gLstP_ok, isRef_tup, isRef_int, isRef_str, isRef_bl, Bool.or_false, Bool.or_true, Bool.true_or, Bool.false_or, e, hm, hm2, h0, take_set]
    exact ⟨_, rfl, Int.emod_nonneg _ (by omega), Int.emod_lt_of_pos _ hm, Wl.set hl⟩
  · simp only [wp_ok, wp_no, ↓wp_bind, ↓R.bind_ok, ↓sSeq, ↓sNil, ↓sSet, ↓sAsg, ↓sIf, ↓sRet, ↓sExpr, ↓sPar, ↓sPar3, ↓sFor, ↓nName, ↓nTup, ↓nCons, ↓nNil, ↓nNs, ↓eVar, ↓eC, ↓eOp, ↓eUn, ↓eArgs, ↓eNew, ↓aCons, ↓aNil, ↓tV, ↓tT, toB, truP, ↓tNotE, ↓tAndE, ↓tOrE, ↓tYesE, ↓eAndV, ↓eOrV, ↓eNotV, ↓eNotT, ↓eIf, gAdd_int, gAdd_tup, Py.gSub, gMul_l, gMul_r, gMod, gFdiv, gNeg, gLt, gLe, gGt, gGe, gInt, gIx, gEq_int, gEq_str, gEq_bl, gNe_int, gNe_str, gNe_bl, gIsN, gNotN, getQ, getL, gSetL, ↓nSubL, gDivmod, gMin2, gMax2, ↓mkDef, ↓mkNew, startP, finF, finO, finV_tup, finV_int, finV_bl, finV_lst, finV_non, finV_str, finV_ref, ↓eChain, tyP, gIsi, isiB, ↓iArgs, ↓iSeq, iterP, ↓fComp, wipeP, ↓eSl, ↓oNone, ↓oSome, gSl, ↓eMeth0, ↓eMeth1, ixN, atI0, atI1, atI2, atI3, List.length_cons, List.length_nil, List.map_cons, List.map_nil, List.replicate, List.cons_append, List.nil_append, List.append_nil, List.getElem?_cons_zero, List.getElem?_cons_succ, List.getElem?_nil, List.set_cons_zero, List.set_cons_succ, List.set_nil, List.length_set, List.length_append, Nat.add_sub_cancel, Nat.reduceAdd, Nat.reduceSub, Nat.reduceLT, Nat.reduceEqDiff, Nat.reduceLeDiff, Nat.le_refl, Nat.zero_le, if_true, if_false, ↓reduceIte, decide_eq_true_eq, Bool.false_eq_true, Bool.true_eq_false, Bool.not_true, Bool.not_false, Option.isSome_some, forall_const, not_true_eq_false, not_false_eq_true, imp_self, false_implies, true_implies, implies_true, and_true, true_and, Int.toNat_zero, Nat.zero_add, Int.reduceLE, Int.reduceLT, Int.reduceNeg, Int.reduceToNat, Int.reducePow, Int.reduceGT, Int.cast_ofNat_Int, true_or, or_true, Int.ofNat_eq_natCast, decide_true, decide_false, Int.reduceEq, List.isEmpty_cons, List.isEmpty_nil, eDGet1,  keyP, Option.map_some, Option.map_none, Option.getD_some, Option.isSome_some, reduceCtorEq, and_self,  allPure_nil, allPure_cons, Bool.and_true, Bool.true_and, Bool.false_and, Bool.and_false, Bool.not_eq_true, Bool.not_eq_false, gTupP_nil, gLstP_nil, gTupP_ok, gLstP_ok, isRef_tup, isRef_int, isRef_str, isRef_bl, Bool.or_false, Bool.or_true, Bool.true_or, Bool.false_or, e, hm, hm2, h0, set_get hl, List.set_set]
    generalize hX : (b + 60013 * (c + 1)) % 2147483563 = X
    have x1 : -18446744073709551616 < X := by omega
    have x2 : X < 18446744073709551616 := by omega
    simp only [wp_ok, wp_no, ↓wp_bind, ↓R.bind_ok, ↓sSeq, ↓sNil, ↓sSet, ↓sAsg, ↓sIf, ↓sRet, ↓sExpr, ↓sPar, ↓sPar3, ↓sFor, ↓nName, ↓nTup, ↓nCons, ↓nNil, ↓nNs, ↓eVar, ↓eC, ↓eOp, ↓eUn, ↓eArgs, ↓eNew, ↓aCons, ↓aNil, ↓tV, ↓tT, toB, truP, ↓tNotE, ↓tAndE, ↓tOrE, ↓tYesE, ↓eAndV, ↓eOrV, ↓eNotV, ↓eNotT, ↓eIf, gAdd_int, gAdd_tup, Py.gSub, gMul_l, gMul_r, gMod, gFdiv, gNeg, gLt, gLe, gGt, gGe, gInt, gIx, gEq_int, gEq_str, gEq_bl, gNe_int, gNe_str, gNe_bl, gIsN, gNotN, getQ, getL, gSetL, ↓nSubL, gDivmod, gMin2, gMax2, ↓mkDef, ↓mkNew, startP, finF, finO, finV_tup, finV_int, finV_bl, finV_lst, finV_non, finV_str, finV_ref, ↓eChain, tyP, gIsi, isiB, ↓iArgs, ↓iSeq, iterP, ↓fComp, wipeP, ↓eSl, ↓oNone, ↓oSome, gSl, ↓eMeth0, ↓eMeth1, ixN, atI0, atI1, atI2, atI3, List.length_cons, List.length_nil, List.map_cons, List.map_nil, List.replicate, List.cons_append, List.nil_append, List.append_nil, List.getElem?_cons_zero, List.getElem?_cons_succ, List.getElem?_nil, List.set_cons_zero, List.set_cons_succ, List.set_nil, List.length_set, List.length_append, Nat.add_sub_cancel, Nat.reduceAdd, Nat.reduceSub, Nat.reduceLT, Nat.reduceEqDiff, Nat.reduceLeDiff, Nat.le_refl, Nat.zero_le, if_true, if_false, ↓reduceIte, decide_eq_true_eq, Bool.false_eq_true, Bool.true_eq_false, Bool.not_true, Bool.not_false, Option.isSome_some, forall_const, not_true_eq_false, not_false_eq_true, imp_self, false_implies, true_implies, implies_true, and_true, true_and, Int.toNat_zero, Nat.zero_add, Int.reduceLE, Int.reduceLT, Int.reduceNeg, Int.reduceToNat, Int.reducePow, Int.reduceGT, Int.cast_ofNat_Int, true_or, or_true, Int.ofNat_eq_natCast, decide_true, decide_false, Int.reduceEq, List.isEmpty_cons, List.isEmpty_nil, eDGet1,  keyP, Option.map_some, Option.map_none, Option.getD_some, Option.isSome_some, reduceCtorEq, and_self,  allPure_nil, allPure_cons, Bool.and_true, Bool.true_and, Bool.false_and, Bool.and_false, Bool.not_eq_true, Bool.not_eq_false, gTupP_nil, gLstP_nil, gTupP_ok, gLstP_ok, isRef_tup, isRef_int, isRef_str, isRef_bl, Bool.or_false, Bool.or_true, Bool.true_or, Bool.false_or, e, hm, hm2, h0, set_get hl, List.set_set, x1, x2, take_set]
    exact ⟨_, rfl, Int.emod_nonneg _ (by omega), Int.emod_lt_of_pos _ hm, Wl.set hl⟩
end G80
set_option Elab.async false
set_option maxRecDepth 100000
set_option maxHeartbeats 1000000
set_option linter.all false
namespace G80
open PySem PySem.Spec PyProof.Rows L2 Py

theorem eqn {r : R PV} {p : PV} {S : Sto} (h : WP r fun a S' => a = p ∧ S' = S) : r = .ok p S := by
  obtain ⟨a, S2, e, rfl, rfl⟩ := h.ex
  exact e
abbrev ip (xs : List Int) : List PV := xs.map .int
theorem is_whole_eq {i : Int} {S : Sto} : m_is_whole [.int i] S = .ok (.bl true) S := by
  refine eqn ?_
  unfold m_is_whole b_is_whole
  simp only [wp_ok, wp_no, ↓wp_bind, ↓R.bind_ok, ↓sSeq, ↓sNil, ↓sSet, ↓sAsg, ↓sIf, ↓sRet, ↓sExpr, ↓sPar, ↓sPar3, ↓sFor, ↓nName, ↓nTup, ↓nCons, ↓nNil, ↓nNs, ↓eVar, ↓eC, ↓eOp, ↓eUn, ↓eArgs, ↓eNew, ↓aCons, ↓aNil, ↓tV, ↓tT, toB, truP, ↓tNotE, ↓tAndE, ↓tOrE, ↓tYesE, ↓eAndV, ↓eOrV, ↓eNotV, ↓eNotT, ↓eIf, gAdd_int, gAdd_tup, Py.gSub, gMul_l, gMul_r, gMod, gFdiv, gNeg, gLt, gLe, gGt, gGe, gInt, gIx, gEq_int, gEq_str, gEq_bl, gNe_int, gNe_str, gNe_bl, gIsN, gNotN, getQ, getL, gSetL, ↓nSubL, gDivmod, gMin2, gMax2, ↓mkDef, ↓mkNew, startP, finF, finO, finV_tup, finV_int, finV_bl, finV_lst, finV_non, finV_str, finV_ref, ↓eChain, tyP, gIsi, isiB, ↓iArgs, ↓iSeq, iterP, ↓fComp, wipeP, ↓eSl, ↓oNone, ↓oSome, gSl, ↓eMeth0, ↓eMeth1, ixN, atI0, atI1, atI2, atI3, List.length_cons, List.length_nil, List.map_cons, List.map_nil, List.replicate, List.cons_append, List.nil_append, List.append_nil, List.getElem?_cons_zero, List.getElem?_cons_succ, List.getElem?_nil, List.set_cons_zero, List.set_cons_succ, List.set_nil, List.length_set, List.length_append, Nat.add_sub_cancel, Nat.reduceAdd, Nat.reduceSub, Nat.reduceLT, Nat.reduceEqDiff, Nat.reduceLeDiff, Nat.le_refl, Nat.zero_le, if_true, if_false, ↓reduceIte, decide_eq_true_eq, Bool.false_eq_true, Bool.true_eq_false, Bool.not_true, Bool.not_false, Option.isSome_some, forall_const, not_true_eq_false, not_false_eq_true, imp_self, false_implies, true_implies, implies_true, and_true, true_and, Int.toNat_zero, Nat.zero_add, Int.reduceLE, Int.reduceLT, Int.reduceNeg, Int.reduceToNat, Int.reducePow, Int.reduceGT, Int.cast_ofNat_Int, true_or, or_true, Int.ofNat_eq_natCast, decide_true, decide_false, Int.reduceEq, List.isEmpty_cons, List.isEmpty_nil, eDGet1,  keyP, Option.map_some, Option.map_none, Option.getD_some, Option.isSome_some, reduceCtorEq, and_self,  allPure_nil, allPure_cons, Bool.and_true, Bool.true_and, Bool.false_and, Bool.and_false, Bool.not_eq_true, Bool.not_eq_false, gTupP_nil, gLstP_nil, gTupP_ok, gLstP_ok, isRef_tup, isRef_int, isRef_str, isRef_bl, Bool.or_false, Bool.or_true, Bool.true_or, Bool.false_or, take_self]
theorem law_is_whole_eq {i : Int} {S : Sto} : m__law_is_whole [.int i] S = .ok (.bl true) S := by
  refine eqn ?_
  unfold m__law_is_whole b__law_is_whole
  simp only [wp_ok, wp_no, ↓wp_bind, ↓R.bind_ok, ↓sSeq, ↓sNil, ↓sSet, ↓sAsg, ↓sIf, ↓sRet, ↓sExpr, ↓sPar, ↓sPar3, ↓sFor, ↓nName, ↓nTup, ↓nCons, ↓nNil, ↓nNs, ↓eVar, ↓eC, ↓eOp, ↓eUn, ↓eArgs, ↓eNew, ↓aCons, ↓aNil, ↓tV, ↓tT, toB, truP, ↓tNotE, ↓tAndE, ↓tOrE, ↓tYesE, ↓eAndV, ↓eOrV, ↓eNotV, ↓eNotT, ↓eIf, gAdd_int, gAdd_tup, Py.gSub, gMul_l, gMul_r, gMod, gFdiv, gNeg, gLt, gLe, gGt, gGe, gInt, gIx, gEq_int, gEq_str, gEq_bl, gNe_int, gNe_str, gNe_bl, gIsN, gNotN, getQ, getL, gSetL, ↓nSubL, gDivmod, gMin2, gMax2, ↓mkDef, ↓mkNew, startP, finF, finO, finV_tup, finV_int, finV_bl, finV_lst, finV_non, finV_str, finV_ref, ↓eChain, tyP, gIsi, isiB, ↓iArgs, ↓iSeq, iterP, ↓fComp, wipeP, ↓eSl, ↓oNone, ↓oSome, gSl, ↓eMeth0, ↓eMeth1, ixN, atI0, atI1, atI2, atI3, List.length_cons, List.length_nil, List.map_cons, List.map_nil, List.replicate, List.cons_append, List.nil_append, List.append_nil, List.getElem?_cons_zero, List.getElem?_cons_succ, List.getElem?_nil, List.set_cons_zero, List.set_cons_succ, List.set_nil, List.length_set, List.length_append, Nat.add_sub_cancel, Nat.reduceAdd, Nat.reduceSub, Nat.reduceLT, Nat.reduceEqDiff, Nat.reduceLeDiff, Nat.le_refl, Nat.zero_le, if_true, if_false, ↓reduceIte, decide_eq_true_eq, Bool.false_eq_true, Bool.true_eq_false, Bool.not_true, Bool.not_false, Option.isSome_some, forall_const, not_true_eq_false, not_false_eq_true, imp_self, false_implies, true_implies, implies_true, and_true, true_and, Int.toNat_zero, Nat.zero_add, Int.reduceLE, Int.reduceLT, Int.reduceNeg, Int.reduceToNat, Int.reducePow, Int.reduceGT, Int.cast_ofNat_Int, true_or, or_true, Int.ofNat_eq_natCast, decide_true, decide_false, Int.reduceEq, List.isEmpty_cons, List.isEmpty_nil, eDGet1,  keyP, Option.map_some, Option.map_none, Option.getD_some, Option.isSome_some, reduceCtorEq, and_self,  allPure_nil, allPure_cons, Bool.and_true, Bool.true_and, Bool.false_and, Bool.and_false, Bool.not_eq_true, Bool.not_eq_false, gTupP_nil, gLstP_nil, gTupP_ok, gLstP_ok, isRef_tup, isRef_int, isRef_str, isRef_bl, Bool.or_false, Bool.or_true, Bool.true_or, Bool.false_or, take_self]
theorem is_within_eq {i a b : Int} {S : Sto} (h : a ≤ i) (h2 : i ≤ b) : m_is_whole_within [.int i, .int a, .int b] S = .ok (.bl true) S := by
  refine eqn ?_
  unfold m_is_whole_within b_is_whole_within
  simp only [wp_ok, wp_no, ↓wp_bind, ↓R.bind_ok, ↓sSeq, ↓sNil, ↓sSet, ↓sAsg, ↓sIf, ↓sRet, ↓sExpr, ↓sPar, ↓sPar3, ↓sFor, ↓nName, ↓nTup, ↓nCons, ↓nNil, ↓nNs, ↓eVar, ↓eC, ↓eOp, ↓eUn, ↓eArgs, ↓eNew, ↓aCons, ↓aNil, ↓tV, ↓tT, toB, truP, ↓tNotE, ↓tAndE, ↓tOrE, ↓tYesE, ↓eAndV, ↓eOrV, ↓eNotV, ↓eNotT, ↓eIf, gAdd_int, gAdd_tup, Py.gSub, gMul_l, gMul_r, gMod, gFdiv, gNeg, gLt, gLe, gGt, gGe, gInt, gIx, gEq_int, gEq_str, gEq_bl, gNe_int, gNe_str, gNe_bl, gIsN, gNotN, getQ, getL, gSetL, ↓nSubL, gDivmod, gMin2, gMax2, ↓mkDef, ↓mkNew, startP, finF, finO, finV_tup, finV_int, finV_bl, finV_lst, finV_non, finV_str, finV_ref, ↓eChain, tyP, gIsi, isiB, ↓iArgs, ↓iSeq, iterP, ↓fComp, wipeP, ↓eSl, ↓oNone, ↓oSome, gSl, ↓eMeth0, ↓eMeth1, ixN, atI0, atI1, atI2, atI3, List.length_cons, List.length_nil, List.map_cons, List.map_nil, List.replicate, List.cons_append, List.nil_append, List.append_nil, List.getElem?_cons_zero, List.getElem?_cons_succ, List.getElem?_nil, List.set_cons_zero, List.set_cons_succ, List.set_nil, List.length_set, List.length_append, Nat.add_sub_cancel, Nat.reduceAdd, Nat.reduceSub, Nat.reduceLT, Nat.reduceEqDiff, Nat.reduceLeDiff, Nat.le_refl, Nat.zero_le, if_true, if_false, ↓reduceIte, decide_eq_true_eq, Bool.false_eq_true, Bool.true_eq_false, Bool.not_true, Bool.not_false, Option.isSome_some, forall_const, not_true_eq_false, not_false_eq_true, imp_self, false_implies, true_implies, implies_true, and_true, true_and, Int.toNat_zero, Nat.zero_add, Int.reduceLE, Int.reduceLT, Int.reduceNeg, Int.reduceToNat, Int.reducePow, Int.reduceGT, Int.cast_ofNat_Int, true_or, or_true, Int.ofNat_eq_natCast, decide_true, decide_false, Int.reduceEq, List.isEmpty_cons, List.isEmpty_nil, eDGet1,  keyP, Option.map_some, Option.map_none, Option.getD_some, Option.isSome_some, reduceCtorEq, and_self,  allPure_nil, allPure_cons, Bool.and_true, Bool.true_and, Bool.false_and, Bool.and_false, Bool.not_eq_true, Bool.not_eq_false, gTupP_nil, gLstP_nil, gTupP_ok, gLstP_ok, isRef_tup, isRef_int, isRef_str, isRef_bl, Bool.or_false, Bool.or_true, Bool.true_or, Bool.false_or, take_self, is_whole_eq, h, h2]
theorem check_number_eq {i a b : Int} {S : Sto} (h : a ≤ i) (h2 : i ≤ b) : m_check_number [.int i, .int a, .int b] S = .ok .non S := by
  refine eqn ?_
  unfold m_check_number b_check_number
  simp only [wp_ok, wp_no, ↓wp_bind, ↓R.bind_ok, ↓sSeq, ↓sNil, ↓sSet, ↓sAsg, ↓sIf, ↓sRet, ↓sExpr, ↓sPar, ↓sPar3, ↓sFor, ↓nName, ↓nTup, ↓nCons, ↓nNil, ↓nNs, ↓eVar, ↓eC, ↓eOp, ↓eUn, ↓eArgs, ↓eNew, ↓aCons, ↓aNil, ↓tV, ↓tT, toB, truP, ↓tNotE, ↓tAndE, ↓tOrE, ↓tYesE, ↓eAndV, ↓eOrV, ↓eNotV, ↓eNotT, ↓eIf, gAdd_int, gAdd_tup, Py.gSub, gMul_l, gMul_r, gMod, gFdiv, gNeg, gLt, gLe, gGt, gGe, gInt, gIx, gEq_int, gEq_str, gEq_bl, gNe_int, gNe_str, gNe_bl, gIsN, gNotN, getQ, getL, gSetL, ↓nSubL, gDivmod, gMin2, gMax2, ↓mkDef, ↓mkNew, startP, finF, finO, finV_tup, finV_int, finV_bl, finV_lst, finV_non, finV_str, finV_ref, ↓eChain, tyP, gIsi, isiB, ↓iArgs, ↓iSeq, iterP, ↓fComp, wipeP, ↓eSl, ↓oNone, ↓oSome, gSl, ↓eMeth0, ↓eMeth1, ixN, atI0, atI1, atI2, atI3, List.length_cons, List.length_nil, List.map_cons, List.map_nil, List.replicate, List.cons_append, List.nil_append, List.append_nil, List.getElem?_cons_zero, List.getElem?_cons_succ, List.getElem?_nil, List.set_cons_zero, List.set_cons_succ, List.set_nil, List.length_set, List.length_append, Nat.add_sub_cancel, Nat.reduceAdd, Nat.reduceSub, Nat.reduceLT, Nat.reduceEqDiff, Nat.reduceLeDiff, Nat.le_refl, Nat.zero_le, if_true, if_false, ↓reduceIte, decide_eq_true_eq, Bool.false_eq_true, Bool.true_eq_false, Bool.not_true, Bool.not_false, Option.isSome_some, forall_const, not_true_eq_false, not_false_eq_true, imp_self, false_implies, true_implies, implies_true, and_true, true_and, Int.toNat_zero, Nat.zero_add, Int.reduceLE, Int.reduceLT, Int.reduceNeg, Int.reduceToNat, Int.reducePow, Int.reduceGT, Int.cast_ofNat_Int, true_or, or_true, Int.ofNat_eq_natCast, decide_true, decide_false, Int.reduceEq, List.isEmpty_cons, List.isEmpty_nil, eDGet1,  keyP, Option.map_some, Option.map_none, Option.getD_some, Option.isSome_some, reduceCtorEq, and_self,  allPure_nil, allPure_cons, Bool.and_true, Bool.true_and, Bool.false_and, Bool.and_false, Bool.not_eq_true, Bool.not_eq_false, gTupP_nil, gLstP_nil, gTupP_ok, gLstP_ok, isRef_tup, isRef_int, isRef_str, isRef_bl, Bool.or_false, Bool.or_true, Bool.true_or, Bool.false_or, take_self, is_within_eq h h2, finF]
theorem gLen_tup {xs : List PV} {S : Sto} : gLen [.tup xs] S = .ok (.int xs.length) S := rfl
theorem gLen_lst {xs : List PV} {S : Sto} : gLen [.lst xs] S = .ok (.int xs.length) S := rfl
theorem gLen_ref {xs : List PV} {S : Sto} {n : Nat} (h : S[n]? = some (.lst xs)) : gLen [.ref n] S = .ok (.int xs.length) S := by
  unfold gLen
  simp [getQ, getL, h]

/-! ### cuts -/
theorem cut_nat {xs : List PV} {i j : Nat} (hj : j ≤ xs.length) : cutP xs (some (i : Int)) (some (j : Int)) = (xs.drop i).take (j - i) := by
  unfold cutP
  rw [HT.sIx_nat, HT.sIx_nat, Nat.min_eq_left hj]
  by_cases h : i ≤ xs.length
  · rw [Nat.min_eq_left h]
  · rw [Nat.min_eq_right (by omega), List.drop_of_length_le (by omega), List.drop_of_length_le (by omega)]
    simp
theorem cut_to {xs : List PV} {j : Nat} (hj : j ≤ xs.length) : cutP xs none (some (j : Int)) = xs.take j := by
  unfold cutP
  rw [HT.sIx_nat, HT.sIx_none, Nat.min_eq_left hj]
  simp
theorem cut_from {xs : List PV} {i : Nat} (h : i ≤ xs.length) : cutP xs (some (i : Int)) none = xs.drop i := by
  unfold cutP
  rw [HT.sIx_nat, HT.sIx_none, Nat.min_eq_left h, List.take_of_length_le (by simp)]
theorem cut_b1 {xs : List PV} {i : Nat} (h : i < xs.length) : cutP xs (some (i : Int)) (some (-1)) = (xs.drop i).take (xs.length - 1 - i) := by
  unfold cutP
  rw [HT.sIx_nat, Nat.min_eq_left (by omega)]
  show ((xs.drop i).take ((-1 + (xs.length : Int)).toNat - i)) = _
  congr 1
  omega
theorem atI_last {α : Type} {l : List α} {x : α} : atI (l ++ [x]) (-1) = some x := by
  have e : ixN (l ++ [x]).length (-1) = some l.length := by
    unfold ixN
    rw [if_neg (by decide), List.length_append, List.length_singleton]
    rw [if_pos (by omega)]
    congr 1
    omega
  unfold atI
  rw [e]
  simp
/-! ### slots of a device -/
structure Sl where
  h : Int
  k : Int
  t : Int
  ws : List Int
  l : Int
def Sl.c (s : Sl) : List Int := s.h :: s.k :: s.t :: (s.ws ++ [s.l])
def Sl.held (s : Sl) : PV := if s.h ≤ 0 ∨ s.h ≠ s.l ∨ ¬ (0 ≤ s.k ∧ s.k ≤ s.ws.length) then .non else
  if s.t ≠ s.h + s.k + s.ws.sum ∨ (s.ws.drop s.k.toNat).any (fun w => !decide (w = 0)) = true then .non else .tup [.int s.h, .tup (ip (s.ws.take s.k.toNat))]
theorem Sl.c_len (s : Sl) : s.c.length = s.ws.length + 4 := by simp [Sl.c]
theorem ip_app (a b : List Int) : ip (a ++ b) = ip a ++ ip b := List.map_append
/-- two slots make a device -/
structure Dv where
  a : Sl
  b : Sl
  m : Nat
  la : a.ws.length = m
  lb : b.ws.length = m
  m0 : 26 ≤ m
  m1 : m ≤ 32
def Dv.p (d : Dv) : List PV := ip (d.a.c ++ d.b.c)
theorem Dv.len (d : Dv) : d.p.length = 2 * (d.m + 4) := by
  unfold Dv.p
  rw [List.length_map, List.length_append, Sl.c_len, Sl.c_len, d.la, d.lb]
  omega
theorem Dv.half (d : Dv) : ((d.p.length : Nat) : Int) / 2 = (d.m + 4 : Nat) := by rw [d.len]; omega
theorem Dv.lo (d : Dv) : d.p.take (d.m + 4) = ip d.a.c := by
  unfold Dv.p
  rw [ip_app, List.take_append_of_le_length (by rw [List.length_map, Sl.c_len, d.la]; omega), List.take_of_length_le (by rw [List.length_map, Sl.c_len, d.la]; omega)]
theorem Dv.hi (d : Dv) : d.p.drop (d.m + 4) = ip d.b.c := by
  unfold Dv.p
  rw [ip_app, List.drop_append_of_le_length (by rw [List.length_map, Sl.c_len, d.la]; omega), List.drop_of_length_le (by rw [List.length_map, Sl.c_len, d.la]; omega), List.nil_append]
def Dv.s (d : Dv) (i : Bool) : Sl := if i = true then d.b else d.a
def Dv.o (d : Dv) (i : Bool) : Nat := if i = true then d.m + 4 else 0
theorem Dv.ls (d : Dv) (i : Bool) : (d.s i).ws.length = d.m := by cases i; exact d.la; exact d.lb
theorem Dv.part (d : Dv) (i : Bool) : (d.p.drop (d.o i)).take (d.m + 4) = ip (d.s i).c := by
  cases i
  · exact d.lo
  · show (d.p.drop (d.m + 4)).take (d.m + 4) = _
    rw [d.hi]
    exact List.take_of_length_le (by rw [List.length_map, Sl.c_len, d.lb]; omega)
theorem Dv.ol (d : Dv) (i : Bool) : d.o i + (d.m + 4) ≤ d.p.length := by
  rw [d.len]; cases i <;> simp [Dv.o] <;> omega
theorem Dv.cut (d : Dv) (i : Bool) {x y : Nat} (hy : y ≤ d.m + 4) : cutP d.p (some ((d.o i + x : Nat) : Int)) (some ((d.o i + y : Nat) : Int)) = ((ip (d.s i).c).drop x).take (y - x) := by
  rw [cut_nat (by have := d.ol i; omega), ← d.part i, List.drop_take, List.drop_drop, List.take_take]
  congr 1
  omega
theorem Dv.at (d : Dv) (i : Bool) {x : Nat} (hx : x < d.m + 4) : atI d.p ((d.o i + x : Nat) : Int) = (ip (d.s i).c)[x]? := by
  rw [atI_nat, ← d.part i, List.getElem?_take_of_lt hx, List.getElem?_drop]
end G80
set_option Elab.async false
set_option maxRecDepth 100000
set_option maxHeartbeats 1000000
set_option linter.all false
namespace G80
open PySem PySem.Spec PyProof.Rows L2 Py

theorem intsOf_map : ∀ ns : List Int, intsOf (ns.map PV.int) = some ns
  | [] => rfl
  | n :: ns => by rw [List.map_cons, intsOf, intsOf_map ns]; rfl
theorem blsOf_map' : ∀ ns : List Bool, blsOf (ns.map PV.bl) = some ns
  | [] => rfl
  | n :: ns => by rw [List.map_cons, blsOf, blsOf_map' ns]; rfl
theorem gSumA_ints {ns : List Int} {S : Sto} : gSumA [.tup (ns.map .int)] S = .ok (.int ns.sum) S := by
  unfold gSumA
  simp only [getQ, Option.bind_some, intsOf_map]
theorem gSumA_lst {ns : List Int} {S : Sto} : gSumA [.lst (ns.map .int)] S = .ok (.int ns.sum) S := by
  unfold gSumA
  simp only [getQ, getL, Option.bind_some, intsOf_map]
theorem gAny_bls {α : Type} {xs : List α} {g : α → Bool} {S : Sto} : gAny [.lst (xs.map fun x => .bl (g x))] S = .ok (.bl (xs.any g)) S := by
  have e : xs.map (fun x => PV.bl (g x)) = (xs.map g).map PV.bl := by rw [List.map_map]; rfl
  unfold gAny
  rw [e]
  simp only [getL, Option.bind_some, blsOf_map', List.any_map]
  rfl
theorem compF_ints {i : Nat} {f : Ev} {ρ : Py.Env} {S : Sto} {φ : Int → PV} : ∀ (ps : List Int) (acc : List PV), (∀ p : Int, f (ρ.set i (some (.int p))) S = .ok (φ p) S ∧ (φ p).isRef = false) → acc.length + ps.length ≤ 5000 →
    compF (nName i) tYesE f ρ (ps.map .int) acc S = .ok (.lst (acc ++ ps.map φ)) S
  | [], acc, _, _ => by simp [compF]
  | p :: ps, acc, h, hl => by
    obtain ⟨h1, h2⟩ := h p
    have hl' : acc.length < sizeLine := by have := size_1000 (n := acc.length + 1) (by simp at hl; omega); omega
    have h3 : (φ p).isRef = false ∧ acc.length < sizeLine := ⟨h2, hl'⟩
    simp only [List.map_cons, compF, nName, R.bind_ok, tYesE, if_true, h1, if_pos h3]
    have := compF_ints ps (acc ++ [φ p]) h (by simp at hl ⊢; omega)
    simpa [nName, tYesE] using this
theorem any_ne {ρ : Py.Env} {S : Sto} {i : Nat} (ws : List Int) (hi : i < ρ.length) (hl : ws.length ≤ 5000) : compF (nName i) tYesE (eOp gNe (eVar i) (eC (.int 0))) ρ (ws.map .int) [] S = .ok (.lst (ws.map fun w => .bl (!decide (w = 0)))) S := by
  have := compF_ints (i := i) (ρ := ρ) (S := S) (f := eOp gNe (eVar i) (eC (.int 0))) (φ := fun w => .bl (!decide (w = 0))) ws [] (fun p => ⟨?_, rfl⟩) (by simpa using hl)
  · simpa using this
  · refine eqn ?_
    have e : (ρ.set i (some (PV.int p)))[i]? = some (some (.int p)) := by simp [hi]
    simp only [wp_ok, wp_no, ↓wp_bind, ↓R.bind_ok, ↓sSeq, ↓sNil, ↓sSet, ↓sAsg, ↓sIf, ↓sRet, ↓sExpr, ↓sPar, ↓sPar3, ↓sFor, ↓nName, ↓nTup, ↓nCons, ↓nNil, ↓nNs, ↓eVar, ↓eC, ↓eOp, ↓eUn, ↓eArgs, ↓eNew, ↓aCons, ↓aNil, ↓tV, ↓tT, toB, truP, ↓tNotE, ↓tAndE, ↓tOrE, ↓tYesE, ↓eAndV, ↓eOrV, ↓eNotV, ↓eNotT, ↓eIf, gAdd_int, gAdd_tup, Py.gSub, gMul_l, gMul_r, gMod, gFdiv, gNeg, gLt, gLe, gGt, gGe, gInt, gIx, gEq_int, gEq_str, gEq_bl, gNe_int, gNe_str, gNe_bl, gIsN, gNotN, getQ, getL, gSetL, ↓nSubL, gDivmod, gMin2, gMax2, ↓mkDef, ↓mkNew, startP, finF, finO, finV_tup, finV_int, finV_bl, finV_lst, finV_non, finV_str, finV_ref, ↓eChain, tyP, gIsi, isiB, ↓iArgs, ↓iSeq, iterP, ↓fComp, wipeP, ↓eSl, ↓oNone, ↓oSome, gSl, ↓eMeth0, ↓eMeth1, ixN, atI0, atI1, atI2, atI3, List.length_cons, List.length_nil, List.map_cons, List.map_nil, List.replicate, List.cons_append, List.nil_append, List.append_nil, List.getElem?_cons_zero, List.getElem?_cons_succ, List.getElem?_nil, List.set_cons_zero, List.set_cons_succ, List.set_nil, List.length_set, List.length_append, Nat.add_sub_cancel, Nat.reduceAdd, Nat.reduceSub, Nat.reduceLT, Nat.reduceEqDiff, Nat.reduceLeDiff, Nat.le_refl, Nat.zero_le, if_true, if_false, ↓reduceIte, decide_eq_true_eq, Bool.false_eq_true, Bool.true_eq_false, Bool.not_true, Bool.not_false, Option.isSome_some, forall_const, not_true_eq_false, not_false_eq_true, imp_self, false_implies, true_implies, implies_true, and_true, true_and, Int.toNat_zero, Nat.zero_add, Int.reduceLE, Int.reduceLT, Int.reduceNeg, Int.reduceToNat, Int.reducePow, Int.reduceGT, Int.cast_ofNat_Int, true_or, or_true, Int.ofNat_eq_natCast, decide_true, decide_false, Int.reduceEq, List.isEmpty_cons, List.isEmpty_nil, eDGet1,  keyP, Option.map_some, Option.map_none, Option.getD_some, Option.isSome_some, reduceCtorEq, and_self,  allPure_nil, allPure_cons, Bool.and_true, Bool.true_and, Bool.false_and, Bool.and_false, Bool.not_eq_true, Bool.not_eq_false, gTupP_nil, gLstP_nil, gTupP_ok, gLstP_ok, isRef_tup, isRef_int, isRef_str, isRef_bl, Bool.or_false, Bool.or_true, Bool.true_or, Bool.false_or, e]
def bi (i : Bool) : Int := if i = true then 1 else 0
theorem head_cell_eq (d : Dv) (i : Bool) {S : Sto} : m_head_cell [.tup d.p, .int (bi i)] S = .ok (.int (d.o i : Nat)) S := by
  refine eqn ?_
  unfold m_head_cell b_head_cell
  have hh := d.half
  cases i
  · simp only [wp_ok, wp_no, ↓wp_bind, ↓R.bind_ok, ↓sSeq, ↓sNil, ↓sSet, ↓sAsg, ↓sIf, ↓sRet, ↓sExpr, ↓sPar, ↓sPar3, ↓sFor, ↓nName, ↓nTup, ↓nCons, ↓nNil, ↓nNs, ↓eVar, ↓eC, ↓eOp, ↓eUn, ↓eArgs, ↓eNew, ↓aCons, ↓aNil, ↓tV, ↓tT, toB, truP, ↓tNotE, ↓tAndE, ↓tOrE, ↓tYesE, ↓eAndV, ↓eOrV, ↓eNotV, ↓eNotT, ↓eIf, gAdd_int, gAdd_tup, Py.gSub, gMul_l, gMul_r, gMod, gFdiv, gNeg, gLt, gLe, gGt, gGe, gInt, gIx, gEq_int, gEq_str, gEq_bl, gNe_int, gNe_str, gNe_bl, gIsN, gNotN, getQ, getL, gSetL, ↓nSubL, gDivmod, gMin2, gMax2, ↓mkDef, ↓mkNew, startP, finF, finO, finV_tup, finV_int, finV_bl, finV_lst, finV_non, finV_str, finV_ref, ↓eChain, tyP, gIsi, isiB, ↓iArgs, ↓iSeq, iterP, ↓fComp, wipeP, ↓eSl, ↓oNone, ↓oSome, gSl, ↓eMeth0, ↓eMeth1, ixN, atI0, atI1, atI2, atI3, List.length_cons, List.length_nil, List.map_cons, List.map_nil, List.replicate, List.cons_append, List.nil_append, List.append_nil, List.getElem?_cons_zero, List.getElem?_cons_succ, List.getElem?_nil, List.set_cons_zero, List.set_cons_succ, List.set_nil, List.length_set, List.length_append, Nat.add_sub_cancel, Nat.reduceAdd, Nat.reduceSub, Nat.reduceLT, Nat.reduceEqDiff, Nat.reduceLeDiff, Nat.le_refl, Nat.zero_le, if_true, if_false, ↓reduceIte, decide_eq_true_eq, Bool.false_eq_true, Bool.true_eq_false, Bool.not_true, Bool.not_false, Option.isSome_some, forall_const, not_true_eq_false, not_false_eq_true, imp_self, false_implies, true_implies, implies_true, and_true, true_and, Int.toNat_zero, Nat.zero_add, Int.reduceLE, Int.reduceLT, Int.reduceNeg, Int.reduceToNat, Int.reducePow, Int.reduceGT, Int.cast_ofNat_Int, true_or, or_true, Int.ofNat_eq_natCast, decide_true, decide_false, Int.reduceEq, List.isEmpty_cons, List.isEmpty_nil, eDGet1,  keyP, Option.map_some, Option.map_none, Option.getD_some, Option.isSome_some, reduceCtorEq, and_self,  allPure_nil, allPure_cons, Bool.and_true, Bool.true_and, Bool.false_and, Bool.and_false, Bool.not_eq_true, Bool.not_eq_false, gTupP_nil, gLstP_nil, gTupP_ok, gLstP_ok, isRef_tup, isRef_int, isRef_str, isRef_bl, Bool.or_false, Bool.or_true, Bool.true_or, Bool.false_or, gLen_tup, hh, bi, Dv.o, take_self, Int.zero_mul, Int.natCast_zero, Int.ofNat_zero]
  · simp only [wp_ok, wp_no, ↓wp_bind, ↓R.bind_ok, ↓sSeq, ↓sNil, ↓sSet, ↓sAsg, ↓sIf, ↓sRet, ↓sExpr, ↓sPar, ↓sPar3, ↓sFor, ↓nName, ↓nTup, ↓nCons, ↓nNil, ↓nNs, ↓eVar, ↓eC, ↓eOp, ↓eUn, ↓eArgs, ↓eNew, ↓aCons, ↓aNil, ↓tV, ↓tT, toB, truP, ↓tNotE, ↓tAndE, ↓tOrE, ↓tYesE, ↓eAndV, ↓eOrV, ↓eNotV, ↓eNotT, ↓eIf, gAdd_int, gAdd_tup, Py.gSub, gMul_l, gMul_r, gMod, gFdiv, gNeg, gLt, gLe, gGt, gGe, gInt, gIx, gEq_int, gEq_str, gEq_bl, gNe_int, gNe_str, gNe_bl, gIsN, gNotN, getQ, getL, gSetL, ↓nSubL, gDivmod, gMin2, gMax2, ↓mkDef, ↓mkNew, startP, finF, finO, finV_tup, finV_int, finV_bl, finV_lst, finV_non, finV_str, finV_ref, ↓eChain, tyP, gIsi, isiB, ↓iArgs, ↓iSeq, iterP, ↓fComp, wipeP, ↓eSl, ↓oNone, ↓oSome, gSl, ↓eMeth0, ↓eMeth1, ixN, atI0, atI1, atI2, atI3, List.length_cons, List.length_nil, List.map_cons, List.map_nil, List.replicate, List.cons_append, List.nil_append, List.append_nil, List.getElem?_cons_zero, List.getElem?_cons_succ, List.getElem?_nil, List.set_cons_zero, List.set_cons_succ, List.set_nil, List.length_set, List.length_append, Nat.add_sub_cancel, Nat.reduceAdd, Nat.reduceSub, Nat.reduceLT, Nat.reduceEqDiff, Nat.reduceLeDiff, Nat.le_refl, Nat.zero_le, if_true, if_false, ↓reduceIte, decide_eq_true_eq, Bool.false_eq_true, Bool.true_eq_false, Bool.not_true, Bool.not_false, Option.isSome_some, forall_const, not_true_eq_false, not_false_eq_true, imp_self, false_implies, true_implies, implies_true, and_true, true_and, Int.toNat_zero, Nat.zero_add, Int.reduceLE, Int.reduceLT, Int.reduceNeg, Int.reduceToNat, Int.reducePow, Int.reduceGT, Int.cast_ofNat_Int, true_or, or_true, Int.ofNat_eq_natCast, decide_true, decide_false, Int.reduceEq, List.isEmpty_cons, List.isEmpty_nil, eDGet1,  keyP, Option.map_some, Option.map_none, Option.getD_some, Option.isSome_some, reduceCtorEq, and_self,  allPure_nil, allPure_cons, Bool.and_true, Bool.true_and, Bool.false_and, Bool.and_false, Bool.not_eq_true, Bool.not_eq_false, gTupP_nil, gLstP_nil, gTupP_ok, gLstP_ok, isRef_tup, isRef_int, isRef_str, isRef_bl, Bool.or_false, Bool.or_true, Bool.true_or, Bool.false_or, gLen_tup, hh, bi, Dv.o, take_self, Int.one_mul]
theorem tail_cell_eq (d : Dv) (i : Bool) {S : Sto} : m_tail_cell [.tup d.p, .int (bi i)] S = .ok (.int (d.o i + (d.m + 3) : Nat)) S := by
  refine eqn ?_
  unfold m_tail_cell b_tail_cell
  have hh := d.half
  simp only [wp_ok, wp_no, ↓wp_bind, ↓R.bind_ok, ↓sSeq, ↓sNil, ↓sSet, ↓sAsg, ↓sIf, ↓sRet, ↓sExpr, ↓sPar, ↓sPar3, ↓sFor, ↓nName, ↓nTup, ↓nCons, ↓nNil, ↓nNs, ↓eVar, ↓eC, ↓eOp, ↓eUn, ↓eArgs, ↓eNew, ↓aCons, ↓aNil, ↓tV, ↓tT, toB, truP, ↓tNotE, ↓tAndE, ↓tOrE, ↓tYesE, ↓eAndV, ↓eOrV, ↓eNotV, ↓eNotT, ↓eIf, gAdd_int, gAdd_tup, Py.gSub, gMul_l, gMul_r, gMod, gFdiv, gNeg, gLt, gLe, gGt, gGe, gInt, gIx, gEq_int, gEq_str, gEq_bl, gNe_int, gNe_str, gNe_bl, gIsN, gNotN, getQ, getL, gSetL, ↓nSubL, gDivmod, gMin2, gMax2, ↓mkDef, ↓mkNew, startP, finF, finO, finV_tup, finV_int, finV_bl, finV_lst, finV_non, finV_str, finV_ref, ↓eChain, tyP, gIsi, isiB, ↓iArgs, ↓iSeq, iterP, ↓fComp, wipeP, ↓eSl, ↓oNone, ↓oSome, gSl, ↓eMeth0, ↓eMeth1, ixN, atI0, atI1, atI2, atI3, List.length_cons, List.length_nil, List.map_cons, List.map_nil, List.replicate, List.cons_append, List.nil_append, List.append_nil, List.getElem?_cons_zero, List.getElem?_cons_succ, List.getElem?_nil, List.set_cons_zero, List.set_cons_succ, List.set_nil, List.length_set, List.length_append, Nat.add_sub_cancel, Nat.reduceAdd, Nat.reduceSub, Nat.reduceLT, Nat.reduceEqDiff, Nat.reduceLeDiff, Nat.le_refl, Nat.zero_le, if_true, if_false, ↓reduceIte, decide_eq_true_eq, Bool.false_eq_true, Bool.true_eq_false, Bool.not_true, Bool.not_false, Option.isSome_some, forall_const, not_true_eq_false, not_false_eq_true, imp_self, false_implies, true_implies, implies_true, and_true, true_and, Int.toNat_zero, Nat.zero_add, Int.reduceLE, Int.reduceLT, Int.reduceNeg, Int.reduceToNat, Int.reducePow, Int.reduceGT, Int.cast_ofNat_Int, true_or, or_true, Int.ofNat_eq_natCast, decide_true, decide_false, Int.reduceEq, List.isEmpty_cons, List.isEmpty_nil, eDGet1,  keyP, Option.map_some, Option.map_none, Option.getD_some, Option.isSome_some, reduceCtorEq, and_self,  allPure_nil, allPure_cons, Bool.and_true, Bool.true_and, Bool.false_and, Bool.and_false, Bool.not_eq_true, Bool.not_eq_false, gTupP_nil, gLstP_nil, gTupP_ok, gLstP_ok, isRef_tup, isRef_int, isRef_str, isRef_bl, Bool.or_false, Bool.or_true, Bool.true_or, Bool.false_or, gLen_tup, hh, head_cell_eq, take_self]
  congr 1
  omega
theorem words_cell_eq (d : Dv) (i : Bool) {S : Sto} : m_words_cell [.tup d.p, .int (bi i)] S = .ok (.int (d.o i + 3 : Nat)) S := by
  refine eqn ?_
  unfold m_words_cell b_words_cell
  simp only [wp_ok, wp_no, ↓wp_bind, ↓R.bind_ok, ↓sSeq, ↓sNil, ↓sSet, ↓sAsg, ↓sIf, ↓sRet, ↓sExpr, ↓sPar, ↓sPar3, ↓sFor, ↓nName, ↓nTup, ↓nCons, ↓nNil, ↓nNs, ↓eVar, ↓eC, ↓eOp, ↓eUn, ↓eArgs, ↓eNew, ↓aCons, ↓aNil, ↓tV, ↓tT, toB, truP, ↓tNotE, ↓tAndE, ↓tOrE, ↓tYesE, ↓eAndV, ↓eOrV, ↓eNotV, ↓eNotT, ↓eIf, gAdd_int, gAdd_tup, Py.gSub, gMul_l, gMul_r, gMod, gFdiv, gNeg, gLt, gLe, gGt, gGe, gInt, gIx, gEq_int, gEq_str, gEq_bl, gNe_int, gNe_str, gNe_bl, gIsN, gNotN, getQ, getL, gSetL, ↓nSubL, gDivmod, gMin2, gMax2, ↓mkDef, ↓mkNew, startP, finF, finO, finV_tup, finV_int, finV_bl, finV_lst, finV_non, finV_str, finV_ref, ↓eChain, tyP, gIsi, isiB, ↓iArgs, ↓iSeq, iterP, ↓fComp, wipeP, ↓eSl, ↓oNone, ↓oSome, gSl, ↓eMeth0, ↓eMeth1, ixN, atI0, atI1, atI2, atI3, List.length_cons, List.length_nil, List.map_cons, List.map_nil, List.replicate, List.cons_append, List.nil_append, List.append_nil, List.getElem?_cons_zero, List.getElem?_cons_succ, List.getElem?_nil, List.set_cons_zero, List.set_cons_succ, List.set_nil, List.length_set, List.length_append, Nat.add_sub_cancel, Nat.reduceAdd, Nat.reduceSub, Nat.reduceLT, Nat.reduceEqDiff, Nat.reduceLeDiff, Nat.le_refl, Nat.zero_le, if_true, if_false, ↓reduceIte, decide_eq_true_eq, Bool.false_eq_true, Bool.true_eq_false, Bool.not_true, Bool.not_false, Option.isSome_some, forall_const, not_true_eq_false, not_false_eq_true, imp_self, false_implies, true_implies, implies_true, and_true, true_and, Int.toNat_zero, Nat.zero_add, Int.reduceLE, Int.reduceLT, Int.reduceNeg, Int.reduceToNat, Int.reducePow, Int.reduceGT, Int.cast_ofNat_Int, true_or, or_true, Int.ofNat_eq_natCast, decide_true, decide_false, Int.reduceEq, List.isEmpty_cons, List.isEmpty_nil, eDGet1,  keyP, Option.map_some, Option.map_none, Option.getD_some, Option.isSome_some, reduceCtorEq, and_self,  allPure_nil, allPure_cons, Bool.and_true, Bool.true_and, Bool.false_and, Bool.and_false, Bool.not_eq_true, Bool.not_eq_false, gTupP_nil, gLstP_nil, gTupP_ok, gLstP_ok, isRef_tup, isRef_int, isRef_str, isRef_bl, Bool.or_false, Bool.or_true, Bool.true_or, Bool.false_or, head_cell_eq, take_self]
  rfl
theorem Sl.ip_c (s : Sl) : ip s.c = .int s.h :: .int s.k :: .int s.t :: (ip s.ws ++ [.int s.l]) := by simp [Sl.c, ip]
theorem held_in_eq (d : Dv) (i : Bool) {S : Sto} : m_held_in [.tup d.p, .int (bi i)] S = .ok (d.s i).held S := by
  have ls := d.ls i
  have m1 := d.m1
  have c1 : cutP d.p (some ((d.o i : Nat) : Int)) (some ((d.o i : Nat) + 3 : Int)) = [.int (d.s i).h, .int (d.s i).k, .int (d.s i).t] := by
    have := d.cut i (x := 0) (y := 3) (by omega)
    rw [Sl.ip_c] at this
    simpa using this
  have c2 : cutP d.p (some ((d.o i + 3 : Nat) : Int)) (some ((d.o i + (d.m + 3) : Nat) : Int)) = ip (d.s i).ws := by
    rw [d.cut i (by omega), Sl.ip_c]
    have e : d.m + 3 - 3 = (ip (d.s i).ws).length := by rw [List.length_map]; omega
    rw [e]
    show (ip (d.s i).ws ++ _).take _ = _
    simp
  have c3 : atI d.p ((d.o i + (d.m + 3) : Nat) : Int) = some (.int (d.s i).l) := by
    rw [d.at i (by omega), Sl.ip_c]
    have e : d.m + 3 = (ip (d.s i).ws).length + 3 := by rw [List.length_map]; omega
    rw [e]
    simp
  generalize d.s i = s at *
  refine eqn ?_
  unfold m_held_in b_held_in
  have lw : (ip s.ws).length = s.ws.length := List.length_map _
  by_cases h1 : s.h ≤ 0
  · simp only [wp_ok, wp_no, ↓wp_bind, ↓R.bind_ok, ↓sSeq, ↓sNil, ↓sSet, ↓sAsg, ↓sIf, ↓sRet, ↓sExpr, ↓sPar, ↓sPar3, ↓sFor, ↓nName, ↓nTup, ↓nCons, ↓nNil, ↓nNs, ↓eVar, ↓eC, ↓eOp, ↓eUn, ↓eArgs, ↓eNew, ↓aCons, ↓aNil, ↓tV, ↓tT, toB, truP, ↓tNotE, ↓tAndE, ↓tOrE, ↓tYesE, ↓eAndV, ↓eOrV, ↓eNotV, ↓eNotT, ↓eIf, gAdd_int, gAdd_tup, Py.gSub, gMul_l, gMul_r, gMod, gFdiv, gNeg, gLt, gLe, gGt, gGe, gInt, gIx, gEq_int, gEq_str, gEq_bl, gNe_int, gNe_str, gNe_bl, gIsN, gNotN, getQ, getL, gSetL, ↓nSubL, gDivmod, gMin2, gMax2, ↓mkDef, ↓mkNew, startP, finF, finO, finV_tup, finV_int, finV_bl, finV_lst, finV_non, finV_str, finV_ref, ↓eChain, tyP, gIsi, isiB, ↓iArgs, ↓iSeq, iterP, ↓fComp, wipeP, ↓eSl, ↓oNone, ↓oSome, gSl, ↓eMeth0, ↓eMeth1, ixN, atI0, atI1, atI2, atI3, List.length_cons, List.length_nil, List.map_cons, List.map_nil, List.replicate, List.cons_append, List.nil_append, List.append_nil, List.getElem?_cons_zero, List.getElem?_cons_succ, List.getElem?_nil, List.set_cons_zero, List.set_cons_succ, List.set_nil, List.length_set, List.length_append, Nat.add_sub_cancel, Nat.reduceAdd, Nat.reduceSub, Nat.reduceLT, Nat.reduceEqDiff, Nat.reduceLeDiff, Nat.le_refl, Nat.zero_le, if_true, if_false, ↓reduceIte, decide_eq_true_eq, Bool.false_eq_true, Bool.true_eq_false, Bool.not_true, Bool.not_false, Option.isSome_some, forall_const, not_true_eq_false, not_false_eq_true, imp_self, false_implies, true_implies, implies_true, and_true, true_and, Int.toNat_zero, Nat.zero_add, Int.reduceLE, Int.reduceLT, Int.reduceNeg, Int.reduceToNat, Int.reducePow, Int.reduceGT, Int.cast_ofNat_Int, true_or, or_true, Int.ofNat_eq_natCast, decide_true, decide_false, Int.reduceEq, List.isEmpty_cons, List.isEmpty_nil, eDGet1,  keyP, Option.map_some, Option.map_none, Option.getD_some, Option.isSome_some, reduceCtorEq, and_self,  allPure_nil, allPure_cons, Bool.and_true, Bool.true_and, Bool.false_and, Bool.and_false, Bool.not_eq_true, Bool.not_eq_false, gTupP_nil, gLstP_nil, gTupP_ok, gLstP_ok, isRef_tup, isRef_int, isRef_str, isRef_bl, Bool.or_false, Bool.or_true, Bool.true_or, Bool.false_or, head_cell_eq, tail_cell_eq, words_cell_eq, c1, c2, c3, gLen_tup, h1, take_self, Sl.held]
  by_cases h2 : s.h = s.l
  rotate_left
  · simp only [wp_ok, wp_no, ↓wp_bind, ↓R.bind_ok, ↓sSeq, ↓sNil, ↓sSet, ↓sAsg, ↓sIf, ↓sRet, ↓sExpr, ↓sPar, ↓sPar3, ↓sFor, ↓nName, ↓nTup, ↓nCons, ↓nNil, ↓nNs, ↓eVar, ↓eC, ↓eOp, ↓eUn, ↓eArgs, ↓eNew, ↓aCons, ↓aNil, ↓tV, ↓tT, toB, truP, ↓tNotE, ↓tAndE, ↓tOrE, ↓tYesE, ↓eAndV, ↓eOrV, ↓eNotV, ↓eNotT, ↓eIf, gAdd_int, gAdd_tup, Py.gSub, gMul_l, gMul_r, gMod, gFdiv, gNeg, gLt, gLe, gGt, gGe, gInt, gIx, gEq_int, gEq_str, gEq_bl, gNe_int, gNe_str, gNe_bl, gIsN, gNotN, getQ, getL, gSetL, ↓nSubL, gDivmod, gMin2, gMax2, ↓mkDef, ↓mkNew, startP, finF, finO, finV_tup, finV_int, finV_bl, finV_lst, finV_non, finV_str, finV_ref, ↓eChain, tyP, gIsi, isiB, ↓iArgs, ↓iSeq, iterP, ↓fComp, wipeP, ↓eSl, ↓oNone, ↓oSome, gSl, ↓eMeth0, ↓eMeth1, ixN, atI0, atI1, atI2, atI3, List.length_cons, List.length_nil, List.map_cons, List.map_nil, List.replicate, List.cons_append, List.nil_append, List.append_nil, List.getElem?_cons_zero, List.getElem?_cons_succ, List.getElem?_nil, List.set_cons_zero, List.set_cons_succ, List.set_nil, List.length_set, List.length_append, Nat.add_sub_cancel, Nat.reduceAdd, Nat.reduceSub, Nat.reduceLT, Nat.reduceEqDiff, Nat.reduceLeDiff, Nat.le_refl, Nat.zero_le, if_true, if_false, ↓reduceIte, decide_eq_true_eq, Bool.false_eq_true, Bool.true_eq_false, Bool.not_true, Bool.not_false, Option.isSome_some, forall_const, not_true_eq_false, not_false_eq_true, imp_self, false_implies, true_implies, implies_true, and_true, true_and, Int.toNat_zero, Nat.zero_add, Int.reduceLE, Int.reduceLT, Int.reduceNeg, Int.reduceToNat, Int.reducePow, Int.reduceGT, Int.cast_ofNat_Int, true_or, or_true, Int.ofNat_eq_natCast, decide_true, decide_false, Int.reduceEq, List.isEmpty_cons, List.isEmpty_nil, eDGet1,  keyP, Option.map_some, Option.map_none, Option.getD_some, Option.isSome_some, reduceCtorEq, and_self,  allPure_nil, allPure_cons, Bool.and_true, Bool.true_and, Bool.false_and, Bool.and_false, Bool.not_eq_true, Bool.not_eq_false, gTupP_nil, gLstP_nil, gTupP_ok, gLstP_ok, isRef_tup, isRef_int, isRef_str, isRef_bl, Bool.or_false, Bool.or_true, Bool.true_or, Bool.false_or, head_cell_eq, tail_cell_eq, words_cell_eq, c1, c2, c3, gLen_tup, h1, h2, take_self, Sl.held, ne_eq, false_or, false_and, or_false, or_self, ite_self, not_true]
  by_cases h3 : 0 ≤ s.k
  rotate_left
  · simp only [wp_ok, wp_no, ↓wp_bind, ↓R.bind_ok, ↓sSeq, ↓sNil, ↓sSet, ↓sAsg, ↓sIf, ↓sRet, ↓sExpr, ↓sPar, ↓sPar3, ↓sFor, ↓nName, ↓nTup, ↓nCons, ↓nNil, ↓nNs, ↓eVar, ↓eC, ↓eOp, ↓eUn, ↓eArgs, ↓eNew, ↓aCons, ↓aNil, ↓tV, ↓tT, toB, truP, ↓tNotE, ↓tAndE, ↓tOrE, ↓tYesE, ↓eAndV, ↓eOrV, ↓eNotV, ↓eNotT, ↓eIf, gAdd_int, gAdd_tup, Py.gSub, gMul_l, gMul_r, gMod, gFdiv, gNeg, gLt, gLe, gGt, gGe, gInt, gIx, gEq_int, gEq_str, gEq_bl, gNe_int, gNe_str, gNe_bl, gIsN, gNotN, getQ, getL, gSetL, ↓nSubL, gDivmod, gMin2, gMax2, ↓mkDef, ↓mkNew, startP, finF, finO, finV_tup, finV_int, finV_bl, finV_lst, finV_non, finV_str, finV_ref, ↓eChain, tyP, gIsi, isiB, ↓iArgs, ↓iSeq, iterP, ↓fComp, wipeP, ↓eSl, ↓oNone, ↓oSome, gSl, ↓eMeth0, ↓eMeth1, ixN, atI0, atI1, atI2, atI3, List.length_cons, List.length_nil, List.map_cons, List.map_nil, List.replicate, List.cons_append, List.nil_append, List.append_nil, List.getElem?_cons_zero, List.getElem?_cons_succ, List.getElem?_nil, List.set_cons_zero, List.set_cons_succ, List.set_nil, List.length_set, List.length_append, Nat.add_sub_cancel, Nat.reduceAdd, Nat.reduceSub, Nat.reduceLT, Nat.reduceEqDiff, Nat.reduceLeDiff, Nat.le_refl, Nat.zero_le, if_true, if_false, ↓reduceIte, decide_eq_true_eq, Bool.false_eq_true, Bool.true_eq_false, Bool.not_true, Bool.not_false, Option.isSome_some, forall_const, not_true_eq_false, not_false_eq_true, imp_self, false_implies, true_implies, implies_true, and_true, true_and, Int.toNat_zero, Nat.zero_add, Int.reduceLE, Int.reduceLT, Int.reduceNeg, Int.reduceToNat, Int.reducePow, Int.reduceGT, Int.cast_ofNat_Int, true_or, or_true, Int.ofNat_eq_natCast, decide_true, decide_false, Int.reduceEq, List.isEmpty_cons, List.isEmpty_nil, eDGet1,  keyP, Option.map_some, Option.map_none, Option.getD_some, Option.isSome_some, reduceCtorEq, and_self,  allPure_nil, allPure_cons, Bool.and_true, Bool.true_and, Bool.false_and, Bool.and_false, Bool.not_eq_true, Bool.not_eq_false, gTupP_nil, gLstP_nil, gTupP_ok, gLstP_ok, isRef_tup, isRef_int, isRef_str, isRef_bl, Bool.or_false, Bool.or_true, Bool.true_or, Bool.false_or, head_cell_eq, tail_cell_eq, words_cell_eq, c1, c2, c3, gLen_tup, h1, ← h2, h3, take_self, Sl.held, ne_eq, false_or, false_and, or_false, or_self, ite_self, not_true]
  by_cases h4 : s.k ≤ s.ws.length
  rotate_left
  · simp only [wp_ok, wp_no, ↓wp_bind, ↓R.bind_ok, ↓sSeq, ↓sNil, ↓sSet, ↓sAsg, ↓sIf, ↓sRet, ↓sExpr, ↓sPar, ↓sPar3, ↓sFor, ↓nName, ↓nTup, ↓nCons, ↓nNil, ↓nNs, ↓eVar, ↓eC, ↓eOp, ↓eUn, ↓eArgs, ↓eNew, ↓aCons, ↓aNil, ↓tV, ↓tT, toB, truP, ↓tNotE, ↓tAndE, ↓tOrE, ↓tYesE, ↓eAndV, ↓eOrV, ↓eNotV, ↓eNotT, ↓eIf, gAdd_int, gAdd_tup, Py.gSub, gMul_l, gMul_r, gMod, gFdiv, gNeg, gLt, gLe, gGt, gGe, gInt, gIx, gEq_int, gEq_str, gEq_bl, gNe_int, gNe_str, gNe_bl, gIsN, gNotN, getQ, getL, gSetL, ↓nSubL, gDivmod, gMin2, gMax2, ↓mkDef, ↓mkNew, startP, finF, finO, finV_tup, finV_int, finV_bl, finV_lst, finV_non, finV_str, finV_ref, ↓eChain, tyP, gIsi, isiB, ↓iArgs, ↓iSeq, iterP, ↓fComp, wipeP, ↓eSl, ↓oNone, ↓oSome, gSl, ↓eMeth0, ↓eMeth1, ixN, atI0, atI1, atI2, atI3, List.length_cons, List.length_nil, List.map_cons, List.map_nil, List.replicate, List.cons_append, List.nil_append, List.append_nil, List.getElem?_cons_zero, List.getElem?_cons_succ, List.getElem?_nil, List.set_cons_zero, List.set_cons_succ, List.set_nil, List.length_set, List.length_append, Nat.add_sub_cancel, Nat.reduceAdd, Nat.reduceSub, Nat.reduceLT, Nat.reduceEqDiff, Nat.reduceLeDiff, Nat.le_refl, Nat.zero_le, if_true, if_false, ↓reduceIte, decide_eq_true_eq, Bool.false_eq_true, Bool.true_eq_false, Bool.not_true, Bool.not_false, Option.isSome_some, forall_const, not_true_eq_false, not_false_eq_true, imp_self, false_implies, true_implies, implies_true, and_true, true_and, Int.toNat_zero, Nat.zero_add, Int.reduceLE, Int.reduceLT, Int.reduceNeg, Int.reduceToNat, Int.reducePow, Int.reduceGT, Int.cast_ofNat_Int, true_or, or_true, Int.ofNat_eq_natCast, decide_true, decide_false, Int.reduceEq, List.isEmpty_cons, List.isEmpty_nil, eDGet1,  keyP, Option.map_some, Option.map_none, Option.getD_some, Option.isSome_some, reduceCtorEq, and_self,  allPure_nil, allPure_cons, Bool.and_true, Bool.true_and, Bool.false_and, Bool.and_false, Bool.not_eq_true, Bool.not_eq_false, gTupP_nil, gLstP_nil, gTupP_ok, gLstP_ok, isRef_tup, isRef_int, isRef_str, isRef_bl, Bool.or_false, Bool.or_true, Bool.true_or, Bool.false_or, head_cell_eq, tail_cell_eq, words_cell_eq, c1, c2, c3, gLen_tup, h1, ← h2, h3, h4, lw, take_self, Sl.held, ne_eq, false_or, false_and, or_false, or_self, ite_self, not_true]
  have ek : s.k = ((s.k.toNat : Nat) : Int) := by omega
  have c4 : cutP (ip s.ws) (some s.k) none = ip (s.ws.drop s.k.toNat) := by
    have := cut_from (xs := ip s.ws) (i := s.k.toNat) (by rw [lw]; omega)
    rw [← ek] at this
    rw [this, ← List.map_drop]
  have c5 : cutP (ip s.ws) none (some s.k) = ip (s.ws.take s.k.toNat) := by
    have := cut_to (xs := ip s.ws) (j := s.k.toNat) (by rw [lw]; omega)
    rw [← ek] at this
    rw [this, ← List.map_take]
  by_cases h5 : s.t = s.h + s.k + s.ws.sum
  rotate_left
  · simp only [wp_ok, wp_no, ↓wp_bind, ↓R.bind_ok, ↓sSeq, ↓sNil, ↓sSet, ↓sAsg, ↓sIf, ↓sRet, ↓sExpr, ↓sPar, ↓sPar3, ↓sFor, ↓nName, ↓nTup, ↓nCons, ↓nNil, ↓nNs, ↓eVar, ↓eC, ↓eOp, ↓eUn, ↓eArgs, ↓eNew, ↓aCons, ↓aNil, ↓tV, ↓tT, toB, truP, ↓tNotE, ↓tAndE, ↓tOrE, ↓tYesE, ↓eAndV, ↓eOrV, ↓eNotV, ↓eNotT, ↓eIf, gAdd_int, gAdd_tup, Py.gSub, gMul_l, gMul_r, gMod, gFdiv, gNeg, gLt, gLe, gGt, gGe, gInt, gIx, gEq_int, gEq_str, gEq_bl, gNe_int, gNe_str, gNe_bl, gIsN, gNotN, getQ, getL, gSetL, ↓nSubL, gDivmod, gMin2, gMax2, ↓mkDef, ↓mkNew, startP, finF, finO, finV_tup, finV_int, finV_bl, finV_lst, finV_non, finV_str, finV_ref, ↓eChain, tyP, gIsi, isiB, ↓iArgs, ↓iSeq, iterP, ↓fComp, wipeP, ↓eSl, ↓oNone, ↓oSome, gSl, ↓eMeth0, ↓eMeth1, ixN, atI0, atI1, atI2, atI3, List.length_cons, List.length_nil, List.map_cons, List.map_nil, List.replicate, List.cons_append, List.nil_append, List.append_nil, List.getElem?_cons_zero, List.getElem?_cons_succ, List.getElem?_nil, List.set_cons_zero, List.set_cons_succ, List.set_nil, List.length_set, List.length_append, Nat.add_sub_cancel, Nat.reduceAdd, Nat.reduceSub, Nat.reduceLT, Nat.reduceEqDiff, Nat.reduceLeDiff, Nat.le_refl, Nat.zero_le, if_true, if_false, ↓reduceIte, decide_eq_true_eq, Bool.false_eq_true, Bool.true_eq_false, Bool.not_true, Bool.not_false, Option.isSome_some, forall_const, not_true_eq_false, not_false_eq_true, imp_self, false_implies, true_implies, implies_true, and_true, true_and, Int.toNat_zero, Nat.zero_add, Int.reduceLE, Int.reduceLT, Int.reduceNeg, Int.reduceToNat, Int.reducePow, Int.reduceGT, Int.cast_ofNat_Int, true_or, or_true, Int.ofNat_eq_natCast, decide_true, decide_false, Int.reduceEq, List.isEmpty_cons, List.isEmpty_nil, eDGet1,  keyP, Option.map_some, Option.map_none, Option.getD_some, Option.isSome_some, reduceCtorEq, and_self,  allPure_nil, allPure_cons, Bool.and_true, Bool.true_and, Bool.false_and, Bool.and_false, Bool.not_eq_true, Bool.not_eq_false, gTupP_nil, gLstP_nil, gTupP_ok, gLstP_ok, isRef_tup, isRef_int, isRef_str, isRef_bl, Bool.or_false, Bool.or_true, Bool.true_or, Bool.false_or, head_cell_eq, tail_cell_eq, words_cell_eq, c1, c2, c3, gLen_tup, h1, ← h2, h3, h4, lw, gSumA_ints, h5, take_self, Sl.held, ne_eq, false_or, false_and, or_false, or_self, ite_self, not_true]
  have an := fun ρ hi => any_ne (ρ := ρ) (S := S) (i := 7) (s.ws.drop s.k.toNat) hi (by simp; omega)
  cases h6 : (s.ws.drop s.k.toNat).any fun w => !decide (w = 0)
  · simp only [wp_ok, wp_no, ↓wp_bind, ↓R.bind_ok, ↓sSeq, ↓sNil, ↓sSet, ↓sAsg, ↓sIf, ↓sRet, ↓sExpr, ↓sPar, ↓sPar3, ↓sFor, ↓nName, ↓nTup, ↓nCons, ↓nNil, ↓nNs, ↓eVar, ↓eC, ↓eOp, ↓eUn, ↓eArgs, ↓eNew, ↓aCons, ↓aNil, ↓tV, ↓tT, toB, truP, ↓tNotE, ↓tAndE, ↓tOrE, ↓tYesE, ↓eAndV, ↓eOrV, ↓eNotV, ↓eNotT, ↓eIf, gAdd_int, gAdd_tup, Py.gSub, gMul_l, gMul_r, gMod, gFdiv, gNeg, gLt, gLe, gGt, gGe, gInt, gIx, gEq_int, gEq_str, gEq_bl, gNe_int, gNe_str, gNe_bl, gIsN, gNotN, getQ, getL, gSetL, ↓nSubL, gDivmod, gMin2, gMax2, ↓mkDef, ↓mkNew, startP, finF, finO, finV_tup, finV_int, finV_bl, finV_lst, finV_non, finV_str, finV_ref, ↓eChain, tyP, gIsi, isiB, ↓iArgs, ↓iSeq, iterP, ↓fComp, wipeP, ↓eSl, ↓oNone, ↓oSome, gSl, ↓eMeth0, ↓eMeth1, ixN, atI0, atI1, atI2, atI3, List.length_cons, List.length_nil, List.map_cons, List.map_nil, List.replicate, List.cons_append, List.nil_append, List.append_nil, List.getElem?_cons_zero, List.getElem?_cons_succ, List.getElem?_nil, List.set_cons_zero, List.set_cons_succ, List.set_nil, List.length_set, List.length_append, Nat.add_sub_cancel, Nat.reduceAdd, Nat.reduceSub, Nat.reduceLT, Nat.reduceEqDiff, Nat.reduceLeDiff, Nat.le_refl, Nat.zero_le, if_true, if_false, ↓reduceIte, decide_eq_true_eq, Bool.false_eq_true, Bool.true_eq_false, Bool.not_true, Bool.not_false, Option.isSome_some, forall_const, not_true_eq_false, not_false_eq_true, imp_self, false_implies, true_implies, implies_true, and_true, true_and, Int.toNat_zero, Nat.zero_add, Int.reduceLE, Int.reduceLT, Int.reduceNeg, Int.reduceToNat, Int.reducePow, Int.reduceGT, Int.cast_ofNat_Int, true_or, or_true, Int.ofNat_eq_natCast, decide_true, decide_false, Int.reduceEq, List.isEmpty_cons, List.isEmpty_nil, eDGet1,  keyP, Option.map_some, Option.map_none, Option.getD_some, Option.isSome_some, reduceCtorEq, and_self,  allPure_nil, allPure_cons, Bool.and_true, Bool.true_and, Bool.false_and, Bool.and_false, Bool.not_eq_true, Bool.not_eq_false, gTupP_nil, gLstP_nil, gTupP_ok, gLstP_ok, isRef_tup, isRef_int, isRef_str, isRef_bl, Bool.or_false, Bool.or_true, Bool.true_or, Bool.false_or, head_cell_eq, tail_cell_eq, words_cell_eq, c1, c2, c3, gLen_tup, h1, ← h2, h3, h4, lw, gSumA_ints, h5, c4, an, gAny_bls, h6, c5, take_self, Sl.held, ne_eq, false_or, false_and, or_false, or_self, ite_self, not_true]
  · simp only [wp_ok, wp_no, ↓wp_bind, ↓R.bind_ok, ↓sSeq, ↓sNil, ↓sSet, ↓sAsg, ↓sIf, ↓sRet, ↓sExpr, ↓sPar, ↓sPar3, ↓sFor, ↓nName, ↓nTup, ↓nCons, ↓nNil, ↓nNs, ↓eVar, ↓eC, ↓eOp, ↓eUn, ↓eArgs, ↓eNew, ↓aCons, ↓aNil, ↓tV, ↓tT, toB, truP, ↓tNotE, ↓tAndE, ↓tOrE, ↓tYesE, ↓eAndV, ↓eOrV, ↓eNotV, ↓eNotT, ↓eIf, gAdd_int, gAdd_tup, Py.gSub, gMul_l, gMul_r, gMod, gFdiv, gNeg, gLt, gLe, gGt, gGe, gInt, gIx, gEq_int, gEq_str, gEq_bl, gNe_int, gNe_str, gNe_bl, gIsN, gNotN, getQ, getL, gSetL, ↓nSubL, gDivmod, gMin2, gMax2, ↓mkDef, ↓mkNew, startP, finF, finO, finV_tup, finV_int, finV_bl, finV_lst, finV_non, finV_str, finV_ref, ↓eChain, tyP, gIsi, isiB, ↓iArgs, ↓iSeq, iterP, ↓fComp, wipeP, ↓eSl, ↓oNone, ↓oSome, gSl, ↓eMeth0, ↓eMeth1, ixN, atI0, atI1, atI2, atI3, List.length_cons, List.length_nil, List.map_cons, List.map_nil, List.replicate, List.cons_append, List.nil_append, List.append_nil, List.getElem?_cons_zero, List.getElem?_cons_succ, List.getElem?_nil, List.set_cons_zero, List.set_cons_succ, List.set_nil, List.length_set, List.length_append, Nat.add_sub_cancel, Nat.reduceAdd, Nat.reduceSub, Nat.reduceLT, Nat.reduceEqDiff, Nat.reduceLeDiff, Nat.le_refl, Nat.zero_le, if_true, if_false, ↓reduceIte, decide_eq_true_eq, Bool.false_eq_true, Bool.true_eq_false, Bool.not_true, Bool.not_false, Option.isSome_some, forall_const, not_true_eq_false, not_false_eq_true, imp_self, false_implies, true_implies, implies_true, and_true, true_and, Int.toNat_zero, Nat.zero_add, Int.reduceLE, Int.reduceLT, Int.reduceNeg, Int.reduceToNat, Int.reducePow, Int.reduceGT, Int.cast_ofNat_Int, true_or, or_true, Int.ofNat_eq_natCast, decide_true, decide_false, Int.reduceEq, List.isEmpty_cons, List.isEmpty_nil, eDGet1,  keyP, Option.map_some, Option.map_none, Option.getD_some, Option.isSome_some, reduceCtorEq, and_self,  allPure_nil, allPure_cons, Bool.and_true, Bool.true_and, Bool.false_and, Bool.and_false, Bool.not_eq_true, Bool.not_eq_false, gTupP_nil, gLstP_nil, gTupP_ok, gLstP_ok, isRef_tup, isRef_int, isRef_str, isRef_bl, Bool.or_false, Bool.or_true, Bool.true_or, Bool.false_or, head_cell_eq, tail_cell_eq, words_cell_eq, c1, c2, c3, gLen_tup, h1, ← h2, h3, h4, lw, gSumA_ints, h5, c4, an, gAny_bls, h6, c5, take_self, Sl.held, ne_eq, false_or, false_and, or_false, or_self, ite_self, not_true]
/-- the law's own look at a slot -/
theorem law_held_eq (s : Sl) (hl : s.ws.length ≤ 32) {S : Sto} : m__law_held [.tup (ip s.c)] S = .ok s.held S := by
  have lw : (ip s.ws).length = s.ws.length := List.length_map _
  have c2 : cutP (ip s.c) (some 3) (some (-1)) = ip s.ws := by
    rw [show (3 : Int) = ((3 : Nat) : Int) from rfl, cut_b1 (by rw [List.length_map, Sl.c_len]; omega), List.length_map, Sl.c_len, Sl.ip_c]
    have e : s.ws.length + 4 - 1 - 3 = (ip s.ws).length := by omega
    rw [e]
    show (ip s.ws ++ _).take _ = _
    simp
  have c3 : atI (ip s.c) (-1) = some (.int s.l) := by
    rw [Sl.ip_c]
    exact atI_last (l := .int s.h :: .int s.k :: .int s.t :: ip s.ws)
  have a0 : atI (ip s.c) 0 = some (.int s.h) := by rw [Sl.ip_c]; exact atI0
  have a1 : atI (ip s.c) 1 = some (.int s.k) := by rw [Sl.ip_c]; exact atI1
  have a2 : atI (ip s.c) 2 = some (.int s.t) := by rw [Sl.ip_c]; exact atI2
  refine eqn ?_
  unfold m__law_held b__law_held
  by_cases h1 : s.h ≤ 0
  · simp only [wp_ok, wp_no, ↓wp_bind, ↓R.bind_ok, ↓sSeq, ↓sNil, ↓sSet, ↓sAsg, ↓sIf, ↓sRet, ↓sExpr, ↓sPar, ↓sPar3, ↓sFor, ↓nName, ↓nTup, ↓nCons, ↓nNil, ↓nNs, ↓eVar, ↓eC, ↓eOp, ↓eUn, ↓eArgs, ↓eNew, ↓aCons, ↓aNil, ↓tV, ↓tT, toB, truP, ↓tNotE, ↓tAndE, ↓tOrE, ↓tYesE, ↓eAndV, ↓eOrV, ↓eNotV, ↓eNotT, ↓eIf, gAdd_int, gAdd_tup, Py.gSub, gMul_l, gMul_r, gMod, gFdiv, gNeg, gLt, gLe, gGt, gGe, gInt, gIx, gEq_int, gEq_str, gEq_bl, gNe_int, gNe_str, gNe_bl, gIsN, gNotN, getQ, getL, gSetL, ↓nSubL, gDivmod, gMin2, gMax2, ↓mkDef, ↓mkNew, startP, finF, finO, finV_tup, finV_int, finV_bl, finV_lst, finV_non, finV_str, finV_ref, ↓eChain, tyP, gIsi, isiB, ↓iArgs, ↓iSeq, iterP, ↓fComp, wipeP, ↓eSl, ↓oNone, ↓oSome, gSl, ↓eMeth0, ↓eMeth1, ixN, atI0, atI1, atI2, atI3, List.length_cons, List.length_nil, List.map_cons, List.map_nil, List.replicate, List.cons_append, List.nil_append, List.append_nil, List.getElem?_cons_zero, List.getElem?_cons_succ, List.getElem?_nil, List.set_cons_zero, List.set_cons_succ, List.set_nil, List.length_set, List.length_append, Nat.add_sub_cancel, Nat.reduceAdd, Nat.reduceSub, Nat.reduceLT, Nat.reduceEqDiff, Nat.reduceLeDiff, Nat.le_refl, Nat.zero_le, if_true, if_false, ↓reduceIte, decide_eq_true_eq, Bool.false_eq_true, Bool.true_eq_false, Bool.not_true, Bool.not_false, Option.isSome_some, forall_const, not_true_eq_false, not_false_eq_true, imp_self, false_implies, true_implies, implies_true, and_true, true_and, Int.toNat_zero, Nat.zero_add, Int.reduceLE, Int.reduceLT, Int.reduceNeg, Int.reduceToNat, Int.reducePow, Int.reduceGT, Int.cast_ofNat_Int, true_or, or_true, Int.ofNat_eq_natCast, decide_true, decide_false, Int.reduceEq, List.isEmpty_cons, List.isEmpty_nil, eDGet1,  keyP, Option.map_some, Option.map_none, Option.getD_some, Option.isSome_some, reduceCtorEq, and_self,  allPure_nil, allPure_cons, Bool.and_true, Bool.true_and, Bool.false_and, Bool.and_false, Bool.not_eq_true, Bool.not_eq_false, gTupP_nil, gLstP_nil, gTupP_ok, gLstP_ok, isRef_tup, isRef_int, isRef_str, isRef_bl, Bool.or_false, Bool.or_true, Bool.true_or, Bool.false_or, a0, a1, c2, c3, gLen_tup, h1, take_self, Sl.held]
  by_cases h2 : s.h = s.l
  rotate_left
  · simp only [wp_ok, wp_no, ↓wp_bind, ↓R.bind_ok, ↓sSeq, ↓sNil, ↓sSet, ↓sAsg, ↓sIf, ↓sRet, ↓sExpr, ↓sPar, ↓sPar3, ↓sFor, ↓nName, ↓nTup, ↓nCons, ↓nNil, ↓nNs, ↓eVar, ↓eC, ↓eOp, ↓eUn, ↓eArgs, ↓eNew, ↓aCons, ↓aNil, ↓tV, ↓tT, toB, truP, ↓tNotE, ↓tAndE, ↓tOrE, ↓tYesE, ↓eAndV, ↓eOrV, ↓eNotV, ↓eNotT, ↓eIf, gAdd_int, gAdd_tup, Py.gSub, gMul_l, gMul_r, gMod, gFdiv, gNeg, gLt, gLe, gGt, gGe, gInt, gIx, gEq_int, gEq_str, gEq_bl, gNe_int, gNe_str, gNe_bl, gIsN, gNotN, getQ, getL, gSetL, ↓nSubL, gDivmod, gMin2, gMax2, ↓mkDef, ↓mkNew, startP, finF, finO, finV_tup, finV_int, finV_bl, finV_lst, finV_non, finV_str, finV_ref, ↓eChain, tyP, gIsi, isiB, ↓iArgs, ↓iSeq, iterP, ↓fComp, wipeP, ↓eSl, ↓oNone, ↓oSome, gSl, ↓eMeth0, ↓eMeth1, ixN, atI0, atI1, atI2, atI3, List.length_cons, List.length_nil, List.map_cons, List.map_nil, List.replicate, List.cons_append, List.nil_append, List.append_nil, List.getElem?_cons_zero, List.getElem?_cons_succ, List.getElem?_nil, List.set_cons_zero, List.set_cons_succ, List.set_nil, List.length_set, List.length_append, Nat.add_sub_cancel, Nat.reduceAdd, Nat.reduceSub, Nat.reduceLT, Nat.reduceEqDiff, Nat.reduceLeDiff, Nat.le_refl, Nat.zero_le, if_true, if_false, ↓reduceIte, decide_eq_true_eq, Bool.false_eq_true, Bool.true_eq_false, Bool.not_true, Bool.not_false, Option.isSome_some, forall_const, not_true_eq_false, not_false_eq_true, imp_self, false_implies, true_implies, implies_true, and_true, true_and, Int.toNat_zero, Nat.zero_add, Int.reduceLE, Int.reduceLT, Int.reduceNeg, Int.reduceToNat, Int.reducePow, Int.reduceGT, Int.cast_ofNat_Int, true_or, or_true, Int.ofNat_eq_natCast, decide_true, decide_false, Int.reduceEq, List.isEmpty_cons, List.isEmpty_nil, eDGet1,  keyP, Option.map_some, Option.map_none, Option.getD_some, Option.isSome_some, reduceCtorEq, and_self,  allPure_nil, allPure_cons, Bool.and_true, Bool.true_and, Bool.false_and, Bool.and_false, Bool.not_eq_true, Bool.not_eq_false, gTupP_nil, gLstP_nil, gTupP_ok, gLstP_ok, isRef_tup, isRef_int, isRef_str, isRef_bl, Bool.or_false, Bool.or_true, Bool.true_or, Bool.false_or, a0, a1, c2, c3, gLen_tup, h1, h2, take_self, Sl.held, ne_eq, false_or, false_and, or_false, or_self, ite_self, not_true]
  by_cases h3 : 0 ≤ s.k
  rotate_left
  · simp only [wp_ok, wp_no, ↓wp_bind, ↓R.bind_ok, ↓sSeq, ↓sNil, ↓sSet, ↓sAsg, ↓sIf, ↓sRet, ↓sExpr, ↓sPar, ↓sPar3, ↓sFor, ↓nName, ↓nTup, ↓nCons, ↓nNil, ↓nNs, ↓eVar, ↓eC, ↓eOp, ↓eUn, ↓eArgs, ↓eNew, ↓aCons, ↓aNil, ↓tV, ↓tT, toB, truP, ↓tNotE, ↓tAndE, ↓tOrE, ↓tYesE, ↓eAndV, ↓eOrV, ↓eNotV, ↓eNotT, ↓eIf, gAdd_int, gAdd_tup, Py.gSub, gMul_l, gMul_r, gMod, gFdiv, gNeg, gLt, gLe, gGt, gGe, gInt, gIx, gEq_int, gEq_str, gEq_bl, gNe_int, gNe_str, gNe_bl, gIsN, gNotN, getQ, getL, gSetL, ↓nSubL, gDivmod, gMin2, gMax2, ↓mkDef, ↓mkNew, startP, finF, finO, finV_tup, finV_int, finV_bl, finV_lst, finV_non, finV_str, finV_ref, ↓eChain, tyP, gIsi, isiB, ↓iArgs, ↓iSeq, iterP, ↓fComp, wipeP, ↓eSl, ↓oNone, ↓oSome, gSl, ↓eMeth0, ↓eMeth1, ixN, atI0, atI1, atI2, atI3, List.length_cons, List.length_nil, List.map_cons, List.map_nil, List.replicate, List.cons_append, List.nil_append, List.append_nil, List.getElem?_cons_zero, List.getElem?_cons_succ, List.getElem?_nil, List.set_cons_zero, List.set_cons_succ, List.set_nil, List.length_set, List.length_append, Nat.add_sub_cancel, Nat.reduceAdd, Nat.reduceSub, Nat.reduceLT, Nat.reduceEqDiff, Nat.reduceLeDiff, Nat.le_refl, Nat.zero_le, if_true, if_false, ↓reduceIte, decide_eq_true_eq, Bool.false_eq_true, Bool.true_eq_false, Bool.not_true, Bool.not_false, Option.isSome_some, forall_const, not_true_eq_false, not_false_eq_true, imp_self, false_implies, true_implies, implies_true, and_true, true_and, Int.toNat_zero, Nat.zero_add, Int.reduceLE, Int.reduceLT, Int.reduceNeg, Int.reduceToNat, Int.reducePow, Int.reduceGT, Int.cast_ofNat_Int, true_or, or_true, Int.ofNat_eq_natCast, decide_true, decide_false, Int.reduceEq, List.isEmpty_cons, List.isEmpty_nil, eDGet1,  keyP, Option.map_some, Option.map_none, Option.getD_some, Option.isSome_some, reduceCtorEq, and_self,  allPure_nil, allPure_cons, Bool.and_true, Bool.true_and, Bool.false_and, Bool.and_false, Bool.not_eq_true, Bool.not_eq_false, gTupP_nil, gLstP_nil, gTupP_ok, gLstP_ok, isRef_tup, isRef_int, isRef_str, isRef_bl, Bool.or_false, Bool.or_true, Bool.true_or, Bool.false_or, a0, a1, c2, c3, gLen_tup, h1, ← h2, h3, take_self, Sl.held, ne_eq, false_or, false_and, or_false, or_self, ite_self, not_true]
  by_cases h4 : s.k ≤ s.ws.length
  rotate_left
  · simp only [wp_ok, wp_no, ↓wp_bind, ↓R.bind_ok, ↓sSeq, ↓sNil, ↓sSet, ↓sAsg, ↓sIf, ↓sRet, ↓sExpr, ↓sPar, ↓sPar3, ↓sFor, ↓nName, ↓nTup, ↓nCons, ↓nNil, ↓nNs, ↓eVar, ↓eC, ↓eOp, ↓eUn, ↓eArgs, ↓eNew, ↓aCons, ↓aNil, ↓tV, ↓tT, toB, truP, ↓tNotE, ↓tAndE, ↓tOrE, ↓tYesE, ↓eAndV, ↓eOrV, ↓eNotV, ↓eNotT, ↓eIf, gAdd_int, gAdd_tup, Py.gSub, gMul_l, gMul_r, gMod, gFdiv, gNeg, gLt, gLe, gGt, gGe, gInt, gIx, gEq_int, gEq_str, gEq_bl, gNe_int, gNe_str, gNe_bl, gIsN, gNotN, getQ, getL, gSetL, ↓nSubL, gDivmod, gMin2, gMax2, ↓mkDef, ↓mkNew, startP, finF, finO, finV_tup, finV_int, finV_bl, finV_lst, finV_non, finV_str, finV_ref, ↓eChain, tyP, gIsi, isiB, ↓iArgs, ↓iSeq, iterP, ↓fComp, wipeP, ↓eSl, ↓oNone, ↓oSome, gSl, ↓eMeth0, ↓eMeth1, ixN, atI0, atI1, atI2, atI3, List.length_cons, List.length_nil, List.map_cons, List.map_nil, List.replicate, List.cons_append, List.nil_append, List.append_nil, List.getElem?_cons_zero, List.getElem?_cons_succ, List.getElem?_nil, List.set_cons_zero, List.set_cons_succ, List.set_nil, List.length_set, List.length_append, Nat.add_sub_cancel, Nat.reduceAdd, Nat.reduceSub, Nat.reduceLT, Nat.reduceEqDiff, Nat.reduceLeDiff, Nat.le_refl, Nat.zero_le, if_true, if_false, ↓reduceIte, decide_eq_true_eq, Bool.false_eq_true, Bool.true_eq_false, Bool.not_true, Bool.not_false, Option.isSome_some, forall_const, not_true_eq_false, not_false_eq_true, imp_self, false_implies, true_implies, implies_true, and_true, true_and, Int.toNat_zero, Nat.zero_add, Int.reduceLE, Int.reduceLT, Int.reduceNeg, Int.reduceToNat, Int.reducePow, Int.reduceGT, Int.cast_ofNat_Int, true_or, or_true, Int.ofNat_eq_natCast, decide_true, decide_false, Int.reduceEq, List.isEmpty_cons, List.isEmpty_nil, eDGet1,  keyP, Option.map_some, Option.map_none, Option.getD_some, Option.isSome_some, reduceCtorEq, and_self,  allPure_nil, allPure_cons, Bool.and_true, Bool.true_and, Bool.false_and, Bool.and_false, Bool.not_eq_true, Bool.not_eq_false, gTupP_nil, gLstP_nil, gTupP_ok, gLstP_ok, isRef_tup, isRef_int, isRef_str, isRef_bl, Bool.or_false, Bool.or_true, Bool.true_or, Bool.false_or, a0, a1, c2, c3, gLen_tup, h1, ← h2, h3, h4, lw, take_self, Sl.held, ne_eq, false_or, false_and, or_false, or_self, ite_self, not_true]
  have ek : s.k = ((s.k.toNat : Nat) : Int) := by omega
  have c4 : cutP (ip s.ws) (some s.k) none = ip (s.ws.drop s.k.toNat) := by
    have := cut_from (xs := ip s.ws) (i := s.k.toNat) (by rw [lw]; omega)
    rw [← ek] at this
    rw [this, ← List.map_drop]
  have c5 : cutP (ip s.ws) none (some s.k) = ip (s.ws.take s.k.toNat) := by
    have := cut_to (xs := ip s.ws) (j := s.k.toNat) (by rw [lw]; omega)
    rw [← ek] at this
    rw [this, ← List.map_take]
  have tt : ∀ xs : List PV, gTupOf [.tup xs] S = .ok (.tup xs) S := fun _ => rfl
  have an := fun ρ hi => any_ne (ρ := ρ) (S := S) (i := 4) (s.ws.drop s.k.toNat) hi (by simp; omega)
  cases h6 : (s.ws.drop s.k.toNat).any fun w => !decide (w = 0)
  · by_cases h5 : s.t = s.h + s.k + s.ws.sum
    · simp only [wp_ok, wp_no, ↓wp_bind, ↓R.bind_ok, ↓sSeq, ↓sNil, ↓sSet, ↓sAsg, ↓sIf, ↓sRet, ↓sExpr, ↓sPar, ↓sPar3, ↓sFor, ↓nName, ↓nTup, ↓nCons, ↓nNil, ↓nNs, ↓eVar, ↓eC, ↓eOp, ↓eUn, ↓eArgs, ↓eNew, ↓aCons, ↓aNil, ↓tV, ↓tT, toB, truP, ↓tNotE, ↓tAndE, ↓tOrE, ↓tYesE, ↓eAndV, ↓eOrV, ↓eNotV, ↓eNotT, ↓eIf, gAdd_int, gAdd_tup, Py.gSub, gMul_l, gMul_r, gMod, gFdiv, gNeg, gLt, gLe, gGt, gGe, gInt, gIx, gEq_int, gEq_str, gEq_bl, gNe_int, gNe_str, gNe_bl, gIsN, gNotN, getQ, getL, gSetL, ↓nSubL, gDivmod, gMin2, gMax2, ↓mkDef, ↓mkNew, startP, finF, finO, finV_tup, finV_int, finV_bl, finV_lst, finV_non, finV_str, finV_ref, ↓eChain, tyP, gIsi, isiB, ↓iArgs, ↓iSeq, iterP, ↓fComp, wipeP, ↓eSl, ↓oNone, ↓oSome, gSl, ↓eMeth0, ↓eMeth1, ixN, atI0, atI1, atI2, atI3, List.length_cons, List.length_nil, List.map_cons, List.map_nil, List.replicate, List.cons_append, List.nil_append, List.append_nil, List.getElem?_cons_zero, List.getElem?_cons_succ, List.getElem?_nil, List.set_cons_zero, List.set_cons_succ, List.set_nil, List.length_set, List.length_append, Nat.add_sub_cancel, Nat.reduceAdd, Nat.reduceSub, Nat.reduceLT, Nat.reduceEqDiff, Nat.reduceLeDiff, Nat.le_refl, Nat.zero_le, if_true, if_false, ↓reduceIte, decide_eq_true_eq, Bool.false_eq_true, Bool.true_eq_false, Bool.not_true, Bool.not_false, Option.isSome_some, forall_const, not_true_eq_false, not_false_eq_true, imp_self, false_implies, true_implies, implies_true, and_true, true_and, Int.toNat_zero, Nat.zero_add, Int.reduceLE, Int.reduceLT, Int.reduceNeg, Int.reduceToNat, Int.reducePow, Int.reduceGT, Int.cast_ofNat_Int, true_or, or_true, Int.ofNat_eq_natCast, decide_true, decide_false, Int.reduceEq, List.isEmpty_cons, List.isEmpty_nil, eDGet1,  keyP, Option.map_some, Option.map_none, Option.getD_some, Option.isSome_some, reduceCtorEq, and_self,  allPure_nil, allPure_cons, Bool.and_true, Bool.true_and, Bool.false_and, Bool.and_false, Bool.not_eq_true, Bool.not_eq_false, gTupP_nil, gLstP_nil, gTupP_ok, gLstP_ok, isRef_tup, isRef_int, isRef_str, isRef_bl, Bool.or_false, Bool.or_true, Bool.true_or, Bool.false_or, a0, a1, a2, c2, c3, gLen_tup, h1, ← h2, h3, h4, lw, gSumA_ints, h5, c4, an, gAny_bls, h6, c5, tt, take_self, Sl.held, ne_eq, false_or, false_and, or_false, or_self, ite_self, not_true]
    · simp only [wp_ok, wp_no, ↓wp_bind, ↓R.bind_ok, ↓sSeq, ↓sNil, ↓sSet, ↓sAsg, ↓sIf, ↓sRet, ↓sExpr, ↓sPar, ↓sPar3, ↓sFor, ↓nName, ↓nTup, ↓nCons, ↓nNil, ↓nNs, ↓eVar, ↓eC, ↓eOp, ↓eUn, ↓eArgs, ↓eNew, ↓aCons, ↓aNil, ↓tV, ↓tT, toB, truP, ↓tNotE, ↓tAndE, ↓tOrE, ↓tYesE, ↓eAndV, ↓eOrV, ↓eNotV, ↓eNotT, ↓eIf, gAdd_int, gAdd_tup, Py.gSub, gMul_l, gMul_r, gMod, gFdiv, gNeg, gLt, gLe, gGt, gGe, gInt, gIx, gEq_int, gEq_str, gEq_bl, gNe_int, gNe_str, gNe_bl, gIsN, gNotN, getQ, getL, gSetL, ↓nSubL, gDivmod, gMin2, gMax2, ↓mkDef, ↓mkNew, startP, finF, finO, finV_tup, finV_int, finV_bl, finV_lst, finV_non, finV_str, finV_ref, ↓eChain, tyP, gIsi, isiB, ↓iArgs, ↓iSeq, iterP, ↓fComp, wipeP, ↓eSl, ↓oNone, ↓oSome, gSl, ↓eMeth0, ↓eMeth1, ixN, atI0, atI1, atI2, atI3, List.length_cons, List.length_nil, List.map_cons, List.map_nil, List.replicate, List.cons_append, List.nil_append, List.append_nil, List.getElem?_cons_zero, List.getElem?_cons_succ, List.getElem?_nil, List.set_cons_zero, List.set_cons_succ, List.set_nil, List.length_set, List.length_append, Nat.add_sub_cancel, Nat.reduceAdd, Nat.reduceSub, Nat.reduceLT, Nat.reduceEqDiff, Nat.reduceLeDiff, Nat.le_refl, Nat.zero_le, if_true, if_false, ↓reduceIte, decide_eq_true_eq, Bool.false_eq_true, Bool.true_eq_false, Bool.not_true, Bool.not_false, Option.isSome_some, forall_const, not_true_eq_false, not_false_eq_true, imp_self, false_implies, true_implies, implies_true, and_true, true_and, Int.toNat_zero, Nat.zero_add, Int.reduceLE, Int.reduceLT, Int.reduceNeg, Int.reduceToNat, Int.reducePow, Int.reduceGT, Int.cast_ofNat_Int, true_or, or_true, Int.ofNat_eq_natCast, decide_true, decide_false, Int.reduceEq, List.isEmpty_cons, List.isEmpty_nil, eDGet1,  keyP, Option.map_some, Option.map_none, Option.getD_some, Option.isSome_some, reduceCtorEq, and_self,  allPure_nil, allPure_cons, Bool.and_true, Bool.true_and, Bool.false_and, Bool.and_false, Bool.not_eq_true, Bool.not_eq_false, gTupP_nil, gLstP_nil, gTupP_ok, gLstP_ok, isRef_tup, isRef_int, isRef_str, isRef_bl, Bool.or_false, Bool.or_true, Bool.true_or, Bool.false_or, a0, a1, a2, c2, c3, gLen_tup, h1, ← h2, h3, h4, lw, gSumA_ints, h5, c4, an, gAny_bls, h6, c5, tt, take_self, Sl.held, ne_eq, false_or, false_and, or_false, or_self, ite_self, not_true]
  · simp only [wp_ok, wp_no, ↓wp_bind, ↓R.bind_ok, ↓sSeq, ↓sNil, ↓sSet, ↓sAsg, ↓sIf, ↓sRet, ↓sExpr, ↓sPar, ↓sPar3, ↓sFor, ↓nName, ↓nTup, ↓nCons, ↓nNil, ↓nNs, ↓eVar, ↓eC, ↓eOp, ↓eUn, ↓eArgs, ↓eNew, ↓aCons, ↓aNil, ↓tV, ↓tT, toB, truP, ↓tNotE, ↓tAndE, ↓tOrE, ↓tYesE, ↓eAndV, ↓eOrV, ↓eNotV, ↓eNotT, ↓eIf, gAdd_int, gAdd_tup, Py.gSub, gMul_l, gMul_r, gMod, gFdiv, gNeg, gLt, gLe, gGt, gGe, gInt, gIx, gEq_int, gEq_str, gEq_bl, gNe_int, gNe_str, gNe_bl, gIsN, gNotN, getQ, getL, gSetL, ↓nSubL, gDivmod, gMin2, gMax2, ↓mkDef, ↓mkNew, startP, finF, finO, finV_tup, finV_int, finV_bl, finV_lst, finV_non, finV_str, finV_ref, ↓eChain, tyP, gIsi, isiB, ↓iArgs, ↓iSeq, iterP, ↓fComp, wipeP, ↓eSl, ↓oNone, ↓oSome, gSl, ↓eMeth0, ↓eMeth1, ixN, atI0, atI1, atI2, atI3, List.length_cons, List.length_nil, List.map_cons, List.map_nil, List.replicate, List.cons_append, List.nil_append, List.append_nil, List.getElem?_cons_zero, List.getElem?_cons_succ, List.getElem?_nil, List.set_cons_zero, List.set_cons_succ, List.set_nil, List.length_set, List.length_append, Nat.add_sub_cancel, Nat.reduceAdd, Nat.reduceSub, Nat.reduceLT, Nat.reduceEqDiff, Nat.reduceLeDiff, Nat.le_refl, Nat.zero_le, if_true, if_false, ↓reduceIte, decide_eq_true_eq, Bool.false_eq_true, Bool.true_eq_false, Bool.not_true, Bool.not_false, Option.isSome_some, forall_const, not_true_eq_false, not_false_eq_true, imp_self, false_implies, true_implies, implies_true, and_true, true_and, Int.toNat_zero, Nat.zero_add, Int.reduceLE, Int.reduceLT, Int.reduceNeg, Int.reduceToNat, Int.reducePow, Int.reduceGT, Int.cast_ofNat_Int, true_or, or_true, Int.ofNat_eq_natCast, decide_true, decide_false, Int.reduceEq, List.isEmpty_cons, List.isEmpty_nil, eDGet1,  keyP, Option.map_some, Option.map_none, Option.getD_some, Option.isSome_some, reduceCtorEq, and_self,  allPure_nil, allPure_cons, Bool.and_true, Bool.true_and, Bool.false_and, Bool.and_false, Bool.not_eq_true, Bool.not_eq_false, gTupP_nil, gLstP_nil, gTupP_ok, gLstP_ok, isRef_tup, isRef_int, isRef_str, isRef_bl, Bool.or_false, Bool.or_true, Bool.true_or, Bool.false_or, a0, a1, a2, c2, c3, gLen_tup, h1, ← h2, h3, h4, lw, gSumA_ints, c4, an, gAny_bls, h6, c5, tt, take_self, Sl.held, ne_eq, false_or, false_and, or_false, or_self, ite_self, not_true]
end G80
set_option Elab.async false
set_option maxRecDepth 100000
set_option maxHeartbeats 1000000
set_option linter.all false
namespace G80
open PySem PySem.Spec PyProof.Rows L2 Py

theorem isRef_non : (PV.non).isRef = false := rfl
theorem finF_nx {n : Nat} {ρ : Py.Env} {S : Sto} : finF n (.nx ρ) S = .ok .non (S.take n) := rfl
theorem whole_loop {S : Sto} : ∀ (xs : List Int) (n : Nat) (a0 x1 x2 : Option PV), WP (forF (nTup 2 (nCons (nName 1) (nCons (nName 2) nNil))) (sIf (tNotE (tT (eArgs m_is_whole (aCons (eVar 2) aNil)))) sNever sNil) (enumP n (ip xs)) [a0, x1, x2] S) fun fl S' => S' = S ∧ ∃ ρ, fl = .nx ρ
  | [], n, a0, x1, x2 => by
    rw [show ip [] = [] from rfl, enumP, forF]
    simp only [wp_ok, wp_no, ↓wp_bind, ↓R.bind_ok, ↓sSeq, ↓sNil, ↓sSet, ↓sAsg, ↓sIf, ↓sRet, ↓sExpr, ↓sPar, ↓sPar3, ↓sFor, ↓nName, ↓nTup, ↓nCons, ↓nNil, ↓nNs, ↓eVar, ↓eC, ↓eOp, ↓eUn, ↓eArgs, ↓eNew, ↓aCons, ↓aNil, ↓tV, ↓tT, toB, truP, ↓tNotE, ↓tAndE, ↓tOrE, ↓tYesE, ↓eAndV, ↓eOrV, ↓eNotV, ↓eNotT, ↓eIf, gAdd_int, gAdd_tup, Py.gSub, gMul_l, gMul_r, gMod, gFdiv, gNeg, gLt, gLe, gGt, gGe, gInt, gIx, gEq_int, gEq_str, gEq_bl, gNe_int, gNe_str, gNe_bl, gIsN, gNotN, getQ, getL, gSetL, ↓nSubL, gDivmod, gMin2, gMax2, ↓mkDef, ↓mkNew, startP, finF, finO, finV_tup, finV_int, finV_bl, finV_lst, finV_non, finV_str, finV_ref, ↓eChain, tyP, gIsi, isiB, ↓iArgs, ↓iSeq, iterP, ↓fComp, wipeP, ↓eSl, ↓oNone, ↓oSome, gSl, ↓eMeth0, ↓eMeth1, ixN, atI0, atI1, atI2, atI3, List.length_cons, List.length_nil, List.map_cons, List.map_nil, List.replicate, List.cons_append, List.nil_append, List.append_nil, List.getElem?_cons_zero, List.getElem?_cons_succ, List.getElem?_nil, List.set_cons_zero, List.set_cons_succ, List.set_nil, List.length_set, List.length_append, Nat.add_sub_cancel, Nat.reduceAdd, Nat.reduceSub, Nat.reduceLT, Nat.reduceEqDiff, Nat.reduceLeDiff, Nat.le_refl, Nat.zero_le, if_true, if_false, ↓reduceIte, decide_eq_true_eq, Bool.false_eq_true, Bool.true_eq_false, Bool.not_true, Bool.not_false, Option.isSome_some, forall_const, not_true_eq_false, not_false_eq_true, imp_self, false_implies, true_implies, implies_true, and_true, true_and, Int.toNat_zero, Nat.zero_add, Int.reduceLE, Int.reduceLT, Int.reduceNeg, Int.reduceToNat, Int.reducePow, Int.reduceGT, Int.cast_ofNat_Int, true_or, or_true, Int.ofNat_eq_natCast, decide_true, decide_false, Int.reduceEq, List.isEmpty_cons, List.isEmpty_nil, eDGet1,  keyP, Option.map_some, Option.map_none, Option.getD_some, Option.isSome_some, reduceCtorEq, and_self,  allPure_nil, allPure_cons, Bool.and_true, Bool.true_and, Bool.false_and, Bool.and_false, Bool.not_eq_true, Bool.not_eq_false, gTupP_nil, gLstP_nil, gTupP_ok, gLstP_ok, isRef_tup, isRef_int, isRef_str, isRef_bl, Bool.or_false, Bool.or_true, Bool.true_or, Bool.false_or]
    exact ⟨_, rfl⟩
  | x :: xs, n, a0, x1, x2 => by
    rw [show ip (x :: xs) = .int x :: ip xs from rfl, enumP, forF]
    simp only [wp_ok, wp_no, ↓wp_bind, ↓R.bind_ok, ↓sSeq, ↓sNil, ↓sSet, ↓sAsg, ↓sIf, ↓sRet, ↓sExpr, ↓sPar, ↓sPar3, ↓sFor, ↓nName, ↓nTup, ↓nCons, ↓nNil, ↓nNs, ↓eVar, ↓eC, ↓eOp, ↓eUn, ↓eArgs, ↓eNew, ↓aCons, ↓aNil, ↓tV, ↓tT, toB, truP, ↓tNotE, ↓tAndE, ↓tOrE, ↓tYesE, ↓eAndV, ↓eOrV, ↓eNotV, ↓eNotT, ↓eIf, gAdd_int, gAdd_tup, Py.gSub, gMul_l, gMul_r, gMod, gFdiv, gNeg, gLt, gLe, gGt, gGe, gInt, gIx, gEq_int, gEq_str, gEq_bl, gNe_int, gNe_str, gNe_bl, gIsN, gNotN, getQ, getL, gSetL, ↓nSubL, gDivmod, gMin2, gMax2, ↓mkDef, ↓mkNew, startP, finF, finO, finV_tup, finV_int, finV_bl, finV_lst, finV_non, finV_str, finV_ref, ↓eChain, tyP, gIsi, isiB, ↓iArgs, ↓iSeq, iterP, ↓fComp, wipeP, ↓eSl, ↓oNone, ↓oSome, gSl, ↓eMeth0, ↓eMeth1, ixN, atI0, atI1, atI2, atI3, List.length_cons, List.length_nil, List.map_cons, List.map_nil, List.replicate, List.cons_append, List.nil_append, List.append_nil, List.getElem?_cons_zero, List.getElem?_cons_succ, List.getElem?_nil, List.set_cons_zero, List.set_cons_succ, List.set_nil, List.length_set, List.length_append, Nat.add_sub_cancel, Nat.reduceAdd, Nat.reduceSub, Nat.reduceLT, Nat.reduceEqDiff, Nat.reduceLeDiff, Nat.le_refl, Nat.zero_le, if_true, if_false, ↓reduceIte, decide_eq_true_eq, Bool.false_eq_true, Bool.true_eq_false, Bool.not_true, Bool.not_false, Option.isSome_some, forall_const, not_true_eq_false, not_false_eq_true, imp_self, false_implies, true_implies, implies_true, and_true, true_and, Int.toNat_zero, Nat.zero_add, Int.reduceLE, Int.reduceLT, Int.reduceNeg, Int.reduceToNat, Int.reducePow, Int.reduceGT, Int.cast_ofNat_Int, true_or, or_true, Int.ofNat_eq_natCast, decide_true, decide_false, Int.reduceEq, List.isEmpty_cons, List.isEmpty_nil, eDGet1,  keyP, Option.map_some, Option.map_none, Option.getD_some, Option.isSome_some, reduceCtorEq, and_self,  allPure_nil, allPure_cons, Bool.and_true, Bool.true_and, Bool.false_and, Bool.and_false, Bool.not_eq_true, Bool.not_eq_false, gTupP_nil, gLstP_nil, gTupP_ok, gLstP_ok, isRef_tup, isRef_int, isRef_str, isRef_bl, Bool.or_false, Bool.or_true, Bool.true_or, Bool.false_or, is_whole_eq]
    exact whole_loop xs _ _ _ _
theorem check_device_eq (d : Dv) {S : Sto} : m_check_device [.tup d.p] S = .ok .non S := by
  refine eqn ?_
  unfold m_check_device b_check_device
  have l2 : ((d.p.length : Nat) : Int) % 2 = 0 := by rw [d.len]; omega
  have l3 : ¬ ((d.p.length : Nat) : Int) < 60 := by rw [d.len]; have := d.m0; omega
  have ge : gEnum [.tup d.p] S = .ok (enumP 0 d.p) S := rfl
  simp only [wp_ok, wp_no, ↓wp_bind, ↓R.bind_ok, ↓sSeq, ↓sNil, ↓sSet, ↓sAsg, ↓sIf, ↓sRet, ↓sExpr, ↓sPar, ↓sPar3, ↓sFor, ↓nName, ↓nTup, ↓nCons, ↓nNil, ↓nNs, ↓eVar, ↓eC, ↓eOp, ↓eUn, ↓eArgs, ↓eNew, ↓aCons, ↓aNil, ↓tV, ↓tT, toB, truP, ↓tNotE, ↓tAndE, ↓tOrE, ↓tYesE, ↓eAndV, ↓eOrV, ↓eNotV, ↓eNotT, ↓eIf, gAdd_int, gAdd_tup, Py.gSub, gMul_l, gMul_r, gMod, gFdiv, gNeg, gLt, gLe, gGt, gGe, gInt, gIx, gEq_int, gEq_str, gEq_bl, gNe_int, gNe_str, gNe_bl, gIsN, gNotN, getQ, getL, gSetL, ↓nSubL, gDivmod, gMin2, gMax2, ↓mkDef, ↓mkNew, startP, finF, finO, finV_tup, finV_int, finV_bl, finV_lst, finV_non, finV_str, finV_ref, ↓eChain, tyP, gIsi, isiB, ↓iArgs, ↓iSeq, iterP, ↓fComp, wipeP, ↓eSl, ↓oNone, ↓oSome, gSl, ↓eMeth0, ↓eMeth1, ixN, atI0, atI1, atI2, atI3, List.length_cons, List.length_nil, List.map_cons, List.map_nil, List.replicate, List.cons_append, List.nil_append, List.append_nil, List.getElem?_cons_zero, List.getElem?_cons_succ, List.getElem?_nil, List.set_cons_zero, List.set_cons_succ, List.set_nil, List.length_set, List.length_append, Nat.add_sub_cancel, Nat.reduceAdd, Nat.reduceSub, Nat.reduceLT, Nat.reduceEqDiff, Nat.reduceLeDiff, Nat.le_refl, Nat.zero_le, if_true, if_false, ↓reduceIte, decide_eq_true_eq, Bool.false_eq_true, Bool.true_eq_false, Bool.not_true, Bool.not_false, Option.isSome_some, forall_const, not_true_eq_false, not_false_eq_true, imp_self, false_implies, true_implies, implies_true, and_true, true_and, Int.toNat_zero, Nat.zero_add, Int.reduceLE, Int.reduceLT, Int.reduceNeg, Int.reduceToNat, Int.reducePow, Int.reduceGT, Int.cast_ofNat_Int, true_or, or_true, Int.ofNat_eq_natCast, decide_true, decide_false, Int.reduceEq, List.isEmpty_cons, List.isEmpty_nil, eDGet1,  keyP, Option.map_some, Option.map_none, Option.getD_some, Option.isSome_some, reduceCtorEq, and_self,  allPure_nil, allPure_cons, Bool.and_true, Bool.true_and, Bool.false_and, Bool.and_false, Bool.not_eq_true, Bool.not_eq_false, gTupP_nil, gLstP_nil, gTupP_ok, gLstP_ok, isRef_tup, isRef_int, isRef_str, isRef_bl, Bool.or_false, Bool.or_true, Bool.true_or, Bool.false_or, gLen_tup, l2, l3, ge, Int.reduceAdd, Int.reduceMul]
  refine wp_of (whole_loop (S := S) (d.a.c ++ d.b.c) 0 _ _ _) fun fl S' ⟨e1, ρ, e2⟩ => ?_
  subst e1 e2
  simp only [wp_ok, wp_no, ↓wp_bind, ↓R.bind_ok, ↓sSeq, ↓sNil, ↓sSet, ↓sAsg, ↓sIf, ↓sRet, ↓sExpr, ↓sPar, ↓sPar3, ↓sFor, ↓nName, ↓nTup, ↓nCons, ↓nNil, ↓nNs, ↓eVar, ↓eC, ↓eOp, ↓eUn, ↓eArgs, ↓eNew, ↓aCons, ↓aNil, ↓tV, ↓tT, toB, truP, ↓tNotE, ↓tAndE, ↓tOrE, ↓tYesE, ↓eAndV, ↓eOrV, ↓eNotV, ↓eNotT, ↓eIf, gAdd_int, gAdd_tup, Py.gSub, gMul_l, gMul_r, gMod, gFdiv, gNeg, gLt, gLe, gGt, gGe, gInt, gIx, gEq_int, gEq_str, gEq_bl, gNe_int, gNe_str, gNe_bl, gIsN, gNotN, getQ, getL, gSetL, ↓nSubL, gDivmod, gMin2, gMax2, ↓mkDef, ↓mkNew, startP, finF, finO, finV_tup, finV_int, finV_bl, finV_lst, finV_non, finV_str, finV_ref, ↓eChain, tyP, gIsi, isiB, ↓iArgs, ↓iSeq, iterP, ↓fComp, wipeP, ↓eSl, ↓oNone, ↓oSome, gSl, ↓eMeth0, ↓eMeth1, ixN, atI0, atI1, atI2, atI3, List.length_cons, List.length_nil, List.map_cons, List.map_nil, List.replicate, List.cons_append, List.nil_append, List.append_nil, List.getElem?_cons_zero, List.getElem?_cons_succ, List.getElem?_nil, List.set_cons_zero, List.set_cons_succ, List.set_nil, List.length_set, List.length_append, Nat.add_sub_cancel, Nat.reduceAdd, Nat.reduceSub, Nat.reduceLT, Nat.reduceEqDiff, Nat.reduceLeDiff, Nat.le_refl, Nat.zero_le, if_true, if_false, ↓reduceIte, decide_eq_true_eq, Bool.false_eq_true, Bool.true_eq_false, Bool.not_true, Bool.not_false, Option.isSome_some, forall_const, not_true_eq_false, not_false_eq_true, imp_self, false_implies, true_implies, implies_true, and_true, true_and, Int.toNat_zero, Nat.zero_add, Int.reduceLE, Int.reduceLT, Int.reduceNeg, Int.reduceToNat, Int.reducePow, Int.reduceGT, Int.cast_ofNat_Int, true_or, or_true, Int.ofNat_eq_natCast, decide_true, decide_false, Int.reduceEq, List.isEmpty_cons, List.isEmpty_nil, eDGet1,  keyP, Option.map_some, Option.map_none, Option.getD_some, Option.isSome_some, reduceCtorEq, and_self,  allPure_nil, allPure_cons, Bool.and_true, Bool.true_and, Bool.false_and, Bool.and_false, Bool.not_eq_true, Bool.not_eq_false, gTupP_nil, gLstP_nil, gTupP_ok, gLstP_ok, isRef_tup, isRef_int, isRef_str, isRef_bl, Bool.or_false, Bool.or_true, Bool.true_or, Bool.false_or, finF_nx, take_self]
def Sl.ok (s : Sl) : Bool := match s.held with
  | .non => false
  | _ => true
theorem Sl.held_or (s : Sl) : (s.ok = false ∧ s.held = .non) ∨ (s.ok = true ∧ s.held = .tup [.int s.h, .tup (ip (s.ws.take s.k.toNat))]) := by
  have h : s.held = .non ∨ s.held = .tup [.int s.h, .tup (ip (s.ws.take s.k.toNat))] := by
    unfold Sl.held
    by_cases h1 : s.h ≤ 0 ∨ s.h ≠ s.l ∨ ¬ (0 ≤ s.k ∧ s.k ≤ s.ws.length)
    · rw [if_pos h1]; exact .inl rfl
    · rw [if_neg h1]
      by_cases h2 : s.t ≠ s.h + s.k + s.ws.sum ∨ (s.ws.drop s.k.toNat).any (fun w => !decide (w = 0)) = true
      · rw [if_pos h2]; exact .inl rfl
      · rw [if_neg h2]; exact .inr rfl
  rcases h with h | h
  · exact .inl ⟨by unfold Sl.ok; rw [h], h⟩
  · exact .inr ⟨by unfold Sl.ok; rw [h], h⟩
theorem held_eq (d : Dv) (i : Bool) {S : Sto} : m_held [.tup d.p, .int (bi i)] S = .ok (d.s i).held S := by
  refine eqn ?_
  unfold m_held b_held
  have h0 : 0 ≤ bi i := by cases i <;> decide
  have h1 : bi i ≤ 1 := by cases i <;> decide
  rcases (d.s i).held_or with ⟨_, e⟩ | ⟨_, e⟩
  · simp only [wp_ok, wp_no, ↓wp_bind, ↓R.bind_ok, ↓sSeq, ↓sNil, ↓sSet, ↓sAsg, ↓sIf, ↓sRet, ↓sExpr, ↓sPar, ↓sPar3, ↓sFor, ↓nName, ↓nTup, ↓nCons, ↓nNil, ↓nNs, ↓eVar, ↓eC, ↓eOp, ↓eUn, ↓eArgs, ↓eNew, ↓aCons, ↓aNil, ↓tV, ↓tT, toB, truP, ↓tNotE, ↓tAndE, ↓tOrE, ↓tYesE, ↓eAndV, ↓eOrV, ↓eNotV, ↓eNotT, ↓eIf, gAdd_int, gAdd_tup, Py.gSub, gMul_l, gMul_r, gMod, gFdiv, gNeg, gLt, gLe, gGt, gGe, gInt, gIx, gEq_int, gEq_str, gEq_bl, gNe_int, gNe_str, gNe_bl, gIsN, gNotN, getQ, getL, gSetL, ↓nSubL, gDivmod, gMin2, gMax2, ↓mkDef, ↓mkNew, startP, finF, finO, finV_tup, finV_int, finV_bl, finV_lst, finV_non, finV_str, finV_ref, ↓eChain, tyP, gIsi, isiB, ↓iArgs, ↓iSeq, iterP, ↓fComp, wipeP, ↓eSl, ↓oNone, ↓oSome, gSl, ↓eMeth0, ↓eMeth1, ixN, atI0, atI1, atI2, atI3, List.length_cons, List.length_nil, List.map_cons, List.map_nil, List.replicate, List.cons_append, List.nil_append, List.append_nil, List.getElem?_cons_zero, List.getElem?_cons_succ, List.getElem?_nil, List.set_cons_zero, List.set_cons_succ, List.set_nil, List.length_set, List.length_append, Nat.add_sub_cancel, Nat.reduceAdd, Nat.reduceSub, Nat.reduceLT, Nat.reduceEqDiff, Nat.reduceLeDiff, Nat.le_refl, Nat.zero_le, if_true, if_false, ↓reduceIte, decide_eq_true_eq, Bool.false_eq_true, Bool.true_eq_false, Bool.not_true, Bool.not_false, Option.isSome_some, forall_const, not_true_eq_false, not_false_eq_true, imp_self, false_implies, true_implies, implies_true, and_true, true_and, Int.toNat_zero, Nat.zero_add, Int.reduceLE, Int.reduceLT, Int.reduceNeg, Int.reduceToNat, Int.reducePow, Int.reduceGT, Int.cast_ofNat_Int, true_or, or_true, Int.ofNat_eq_natCast, decide_true, decide_false, Int.reduceEq, List.isEmpty_cons, List.isEmpty_nil, eDGet1,  keyP, Option.map_some, Option.map_none, Option.getD_some, Option.isSome_some, reduceCtorEq, and_self,  allPure_nil, allPure_cons, Bool.and_true, Bool.true_and, Bool.false_and, Bool.and_false, Bool.not_eq_true, Bool.not_eq_false, gTupP_nil, gLstP_nil, gTupP_ok, gLstP_ok, isRef_tup, isRef_int, isRef_str, isRef_bl, Bool.or_false, Bool.or_true, Bool.true_or, Bool.false_or, check_device_eq, check_number_eq h0 h1, held_in_eq, e, take_self]
  · simp only [wp_ok, wp_no, ↓wp_bind, ↓R.bind_ok, ↓sSeq, ↓sNil, ↓sSet, ↓sAsg, ↓sIf, ↓sRet, ↓sExpr, ↓sPar, ↓sPar3, ↓sFor, ↓nName, ↓nTup, ↓nCons, ↓nNil, ↓nNs, ↓eVar, ↓eC, ↓eOp, ↓eUn, ↓eArgs, ↓eNew, ↓aCons, ↓aNil, ↓tV, ↓tT, toB, truP, ↓tNotE, ↓tAndE, ↓tOrE, ↓tYesE, ↓eAndV, ↓eOrV, ↓eNotV, ↓eNotT, ↓eIf, gAdd_int, gAdd_tup, Py.gSub, gMul_l, gMul_r, gMod, gFdiv, gNeg, gLt, gLe, gGt, gGe, gInt, gIx, gEq_int, gEq_str, gEq_bl, gNe_int, gNe_str, gNe_bl, gIsN, gNotN, getQ, getL, gSetL, ↓nSubL, gDivmod, gMin2, gMax2, ↓mkDef, ↓mkNew, startP, finF, finO, finV_tup, finV_int, finV_bl, finV_lst, finV_non, finV_str, finV_ref, ↓eChain, tyP, gIsi, isiB, ↓iArgs, ↓iSeq, iterP, ↓fComp, wipeP, ↓eSl, ↓oNone, ↓oSome, gSl, ↓eMeth0, ↓eMeth1, ixN, atI0, atI1, atI2, atI3, List.length_cons, List.length_nil, List.map_cons, List.map_nil, List.replicate, List.cons_append, List.nil_append, List.append_nil, List.getElem?_cons_zero, List.getElem?_cons_succ, List.getElem?_nil, List.set_cons_zero, List.set_cons_succ, List.set_nil, List.length_set, List.length_append, Nat.add_sub_cancel, Nat.reduceAdd, Nat.reduceSub, Nat.reduceLT, Nat.reduceEqDiff, Nat.reduceLeDiff, Nat.le_refl, Nat.zero_le, if_true, if_false, ↓reduceIte, decide_eq_true_eq, Bool.false_eq_true, Bool.true_eq_false, Bool.not_true, Bool.not_false, Option.isSome_some, forall_const, not_true_eq_false, not_false_eq_true, imp_self, false_implies, true_implies, implies_true, and_true, true_and, Int.toNat_zero, Nat.zero_add, Int.reduceLE, Int.reduceLT, Int.reduceNeg, Int.reduceToNat, Int.reducePow, Int.reduceGT, Int.cast_ofNat_Int, true_or, or_true, Int.ofNat_eq_natCast, decide_true, decide_false, Int.reduceEq, List.isEmpty_cons, List.isEmpty_nil, eDGet1,  keyP, Option.map_some, Option.map_none, Option.getD_some, Option.isSome_some, reduceCtorEq, and_self,  allPure_nil, allPure_cons, Bool.and_true, Bool.true_and, Bool.false_and, Bool.and_false, Bool.not_eq_true, Bool.not_eq_false, gTupP_nil, gLstP_nil, gTupP_ok, gLstP_ok, isRef_tup, isRef_int, isRef_str, isRef_bl, Bool.or_false, Bool.or_true, Bool.true_or, Bool.false_or, check_device_eq, check_number_eq h0 h1, held_in_eq, e, take_self]
/-- which slot is current -/
def Dv.cur (d : Dv) : PV := if d.b.ok = true ∧ (d.a.ok = false ∨ d.a.h < d.b.h) then .int 1 else if d.a.ok = true then .int 0 else .non
theorem held0 (d : Dv) {S : Sto} : m_held_in [.tup d.p, .int 0] S = .ok d.a.held S := held_in_eq d false
theorem held1 (d : Dv) {S : Sto} : m_held_in [.tup d.p, .int 1] S = .ok d.b.held S := held_in_eq d true
theorem gIsN_tup {xs : List PV} {S : Sto} : gIsN (.tup xs) .non S = .ok (.bl false) S := rfl
theorem gIsN_non {S : Sto} : gIsN .non .non S = .ok (.bl true) S := rfl
theorem gIsN_int {i : Int} {S : Sto} : gIsN (.int i) .non S = .ok (.bl false) S := rfl
theorem gNotN_tup {xs : List PV} {S : Sto} : gNotN (.tup xs) .non S = .ok (.bl true) S := rfl
theorem gNotN_non {S : Sto} : gNotN .non .non S = .ok (.bl false) S := rfl
theorem Dv.cases (d : Dv) {P : Prop} (h1 : d.a.ok = false → d.a.held = .non → d.b.ok = false → d.b.held = .non → P)
    (h2 : ∀ x, d.a.ok = true → d.a.held = .tup [.int d.a.h, .tup x] → d.b.ok = false → d.b.held = .non → P)
    (h3 : ∀ y, d.a.ok = false → d.a.held = .non → d.b.ok = true → d.b.held = .tup [.int d.b.h, .tup y] → P)
    (h4 : ∀ x y, d.a.ok = true → d.a.held = .tup [.int d.a.h, .tup x] → d.b.ok = true → d.b.held = .tup [.int d.b.h, .tup y] → P) : P := by
  rcases d.a.held_or with ⟨a1, a2⟩ | ⟨a1, a2⟩ <;> rcases d.b.held_or with ⟨b1, b2⟩ | ⟨b1, b2⟩
  · exact h1 a1 a2 b1 b2
  · exact h3 _ a1 a2 b1 b2
  · exact h2 _ a1 a2 b1 b2
  · exact h4 _ _ a1 a2 b1 b2
theorem cur_eq (d : Dv) {S : Sto} : m_current_slot [.tup d.p] S = .ok d.cur S := by
  refine eqn ?_
  unfold m_current_slot b_current_slot
  refine d.cases (fun a1 a2 b1 b2 => ?_) (fun x a1 a2 b1 b2 => ?_) (fun y a1 a2 b1 b2 => ?_) (fun x y a1 a2 b1 b2 => ?_)
  · simp only [wp_ok, wp_no, ↓wp_bind, ↓R.bind_ok, ↓sSeq, ↓sNil, ↓sSet, ↓sAsg, ↓sIf, ↓sRet, ↓sExpr, ↓sPar, ↓sPar3, ↓sFor, ↓nName, ↓nTup, ↓nCons, ↓nNil, ↓nNs, ↓eVar, ↓eC, ↓eOp, ↓eUn, ↓eArgs, ↓eNew, ↓aCons, ↓aNil, ↓tV, ↓tT, toB, truP, ↓tNotE, ↓tAndE, ↓tOrE, ↓tYesE, ↓eAndV, ↓eOrV, ↓eNotV, ↓eNotT, ↓eIf, gAdd_int, gAdd_tup, Py.gSub, gMul_l, gMul_r, gMod, gFdiv, gNeg, gLt, gLe, gGt, gGe, gInt, gIx, gEq_int, gEq_str, gEq_bl, gNe_int, gNe_str, gNe_bl, gIsN, gNotN, getQ, getL, gSetL, ↓nSubL, gDivmod, gMin2, gMax2, ↓mkDef, ↓mkNew, startP, finF, finO, finV_tup, finV_int, finV_bl, finV_lst, finV_non, finV_str, finV_ref, ↓eChain, tyP, gIsi, isiB, ↓iArgs, ↓iSeq, iterP, ↓fComp, wipeP, ↓eSl, ↓oNone, ↓oSome, gSl, ↓eMeth0, ↓eMeth1, ixN, atI0, atI1, atI2, atI3, List.length_cons, List.length_nil, List.map_cons, List.map_nil, List.replicate, List.cons_append, List.nil_append, List.append_nil, List.getElem?_cons_zero, List.getElem?_cons_succ, List.getElem?_nil, List.set_cons_zero, List.set_cons_succ, List.set_nil, List.length_set, List.length_append, Nat.add_sub_cancel, Nat.reduceAdd, Nat.reduceSub, Nat.reduceLT, Nat.reduceEqDiff, Nat.reduceLeDiff, Nat.le_refl, Nat.zero_le, if_true, if_false, ↓reduceIte, decide_eq_true_eq, Bool.false_eq_true, Bool.true_eq_false, Bool.not_true, Bool.not_false, Option.isSome_some, forall_const, not_true_eq_false, not_false_eq_true, imp_self, false_implies, true_implies, implies_true, and_true, true_and, Int.toNat_zero, Nat.zero_add, Int.reduceLE, Int.reduceLT, Int.reduceNeg, Int.reduceToNat, Int.reducePow, Int.reduceGT, Int.cast_ofNat_Int, true_or, or_true, Int.ofNat_eq_natCast, decide_true, decide_false, Int.reduceEq, List.isEmpty_cons, List.isEmpty_nil, eDGet1,  keyP, Option.map_some, Option.map_none, Option.getD_some, Option.isSome_some, reduceCtorEq, and_self,  allPure_nil, allPure_cons, Bool.and_true, Bool.true_and, Bool.false_and, Bool.and_false, Bool.not_eq_true, Bool.not_eq_false, gTupP_nil, gLstP_nil, gTupP_ok, gLstP_ok, isRef_tup, isRef_int, isRef_str, isRef_bl, Bool.or_false, Bool.or_true, Bool.true_or, Bool.false_or, forF, held0, held1, a1, a2, b1, b2, gIsN_tup, gIsN_non, gIsN_int, gNotN_tup, gNotN_non, Dv.cur, take_self, false_and, or_false, true_or, Bool.false_eq_true, if_false]
  · simp only [wp_ok, wp_no, ↓wp_bind, ↓R.bind_ok, ↓sSeq, ↓sNil, ↓sSet, ↓sAsg, ↓sIf, ↓sRet, ↓sExpr, ↓sPar, ↓sPar3, ↓sFor, ↓nName, ↓nTup, ↓nCons, ↓nNil, ↓nNs, ↓eVar, ↓eC, ↓eOp, ↓eUn, ↓eArgs, ↓eNew, ↓aCons, ↓aNil, ↓tV, ↓tT, toB, truP, ↓tNotE, ↓tAndE, ↓tOrE, ↓tYesE, ↓eAndV, ↓eOrV, ↓eNotV, ↓eNotT, ↓eIf, gAdd_int, gAdd_tup, Py.gSub, gMul_l, gMul_r, gMod, gFdiv, gNeg, gLt, gLe, gGt, gGe, gInt, gIx, gEq_int, gEq_str, gEq_bl, gNe_int, gNe_str, gNe_bl, gIsN, gNotN, getQ, getL, gSetL, ↓nSubL, gDivmod, gMin2, gMax2, ↓mkDef, ↓mkNew, startP, finF, finO, finV_tup, finV_int, finV_bl, finV_lst, finV_non, finV_str, finV_ref, ↓eChain, tyP, gIsi, isiB, ↓iArgs, ↓iSeq, iterP, ↓fComp, wipeP, ↓eSl, ↓oNone, ↓oSome, gSl, ↓eMeth0, ↓eMeth1, ixN, atI0, atI1, atI2, atI3, List.length_cons, List.length_nil, List.map_cons, List.map_nil, List.replicate, List.cons_append, List.nil_append, List.append_nil, List.getElem?_cons_zero, List.getElem?_cons_succ, List.getElem?_nil, List.set_cons_zero, List.set_cons_succ, List.set_nil, List.length_set, List.length_append, Nat.add_sub_cancel, Nat.reduceAdd, Nat.reduceSub, Nat.reduceLT, Nat.reduceEqDiff, Nat.reduceLeDiff, Nat.le_refl, Nat.zero_le, if_true, if_false, ↓reduceIte, decide_eq_true_eq, Bool.false_eq_true, Bool.true_eq_false, Bool.not_true, Bool.not_false, Option.isSome_some, forall_const, not_true_eq_false, not_false_eq_true, imp_self, false_implies, true_implies, implies_true, and_true, true_and, Int.toNat_zero, Nat.zero_add, Int.reduceLE, Int.reduceLT, Int.reduceNeg, Int.reduceToNat, Int.reducePow, Int.reduceGT, Int.cast_ofNat_Int, true_or, or_true, Int.ofNat_eq_natCast, decide_true, decide_false, Int.reduceEq, List.isEmpty_cons, List.isEmpty_nil, eDGet1,  keyP, Option.map_some, Option.map_none, Option.getD_some, Option.isSome_some, reduceCtorEq, and_self,  allPure_nil, allPure_cons, Bool.and_true, Bool.true_and, Bool.false_and, Bool.and_false, Bool.not_eq_true, Bool.not_eq_false, gTupP_nil, gLstP_nil, gTupP_ok, gLstP_ok, isRef_tup, isRef_int, isRef_str, isRef_bl, Bool.or_false, Bool.or_true, Bool.true_or, Bool.false_or, forF, held0, held1, a1, a2, b1, b2, gIsN_tup, gIsN_non, gIsN_int, gNotN_tup, gNotN_non, Dv.cur, take_self, false_and, or_false, true_or, Bool.false_eq_true, if_false]
  · simp only [wp_ok, wp_no, ↓wp_bind, ↓R.bind_ok, ↓sSeq, ↓sNil, ↓sSet, ↓sAsg, ↓sIf, ↓sRet, ↓sExpr, ↓sPar, ↓sPar3, ↓sFor, ↓nName, ↓nTup, ↓nCons, ↓nNil, ↓nNs, ↓eVar, ↓eC, ↓eOp, ↓eUn, ↓eArgs, ↓eNew, ↓aCons, ↓aNil, ↓tV, ↓tT, toB, truP, ↓tNotE, ↓tAndE, ↓tOrE, ↓tYesE, ↓eAndV, ↓eOrV, ↓eNotV, ↓eNotT, ↓eIf, gAdd_int, gAdd_tup, Py.gSub, gMul_l, gMul_r, gMod, gFdiv, gNeg, gLt, gLe, gGt, gGe, gInt, gIx, gEq_int, gEq_str, gEq_bl, gNe_int, gNe_str, gNe_bl, gIsN, gNotN, getQ, getL, gSetL, ↓nSubL, gDivmod, gMin2, gMax2, ↓mkDef, ↓mkNew, startP, finF, finO, finV_tup, finV_int, finV_bl, finV_lst, finV_non, finV_str, finV_ref, ↓eChain, tyP, gIsi, isiB, ↓iArgs, ↓iSeq, iterP, ↓fComp, wipeP, ↓eSl, ↓oNone, ↓oSome, gSl, ↓eMeth0, ↓eMeth1, ixN, atI0, atI1, atI2, atI3, List.length_cons, List.length_nil, List.map_cons, List.map_nil, List.replicate, List.cons_append, List.nil_append, List.append_nil, List.getElem?_cons_zero, List.getElem?_cons_succ, List.getElem?_nil, List.set_cons_zero, List.set_cons_succ, List.set_nil, List.length_set, List.length_append, Nat.add_sub_cancel, Nat.reduceAdd, Nat.reduceSub, Nat.reduceLT, Nat.reduceEqDiff, Nat.reduceLeDiff, Nat.le_refl, Nat.zero_le, if_true, if_false, ↓reduceIte, decide_eq_true_eq, Bool.false_eq_true, Bool.true_eq_false, Bool.not_true, Bool.not_false, Option.isSome_some, forall_const, not_true_eq_false, not_false_eq_true, imp_self, false_implies, true_implies, implies_true, and_true, true_and, Int.toNat_zero, Nat.zero_add, Int.reduceLE, Int.reduceLT, Int.reduceNeg, Int.reduceToNat, Int.reducePow, Int.reduceGT, Int.cast_ofNat_Int, true_or, or_true, Int.ofNat_eq_natCast, decide_true, decide_false, Int.reduceEq, List.isEmpty_cons, List.isEmpty_nil, eDGet1,  keyP, Option.map_some, Option.map_none, Option.getD_some, Option.isSome_some, reduceCtorEq, and_self,  allPure_nil, allPure_cons, Bool.and_true, Bool.true_and, Bool.false_and, Bool.and_false, Bool.not_eq_true, Bool.not_eq_false, gTupP_nil, gLstP_nil, gTupP_ok, gLstP_ok, isRef_tup, isRef_int, isRef_str, isRef_bl, Bool.or_false, Bool.or_true, Bool.true_or, Bool.false_or, forF, held0, held1, a1, a2, b1, b2, gIsN_tup, gIsN_non, gIsN_int, gNotN_tup, gNotN_non, Dv.cur, take_self, false_and, or_false, true_or, Bool.false_eq_true, if_false]
  · by_cases h : d.a.h < d.b.h
    · simp only [wp_ok, wp_no, ↓wp_bind, ↓R.bind_ok, ↓sSeq, ↓sNil, ↓sSet, ↓sAsg, ↓sIf, ↓sRet, ↓sExpr, ↓sPar, ↓sPar3, ↓sFor, ↓nName, ↓nTup, ↓nCons, ↓nNil, ↓nNs, ↓eVar, ↓eC, ↓eOp, ↓eUn, ↓eArgs, ↓eNew, ↓aCons, ↓aNil, ↓tV, ↓tT, toB, truP, ↓tNotE, ↓tAndE, ↓tOrE, ↓tYesE, ↓eAndV, ↓eOrV, ↓eNotV, ↓eNotT, ↓eIf, gAdd_int, gAdd_tup, Py.gSub, gMul_l, gMul_r, gMod, gFdiv, gNeg, gLt, gLe, gGt, gGe, gInt, gIx, gEq_int, gEq_str, gEq_bl, gNe_int, gNe_str, gNe_bl, gIsN, gNotN, getQ, getL, gSetL, ↓nSubL, gDivmod, gMin2, gMax2, ↓mkDef, ↓mkNew, startP, finF, finO, finV_tup, finV_int, finV_bl, finV_lst, finV_non, finV_str, finV_ref, ↓eChain, tyP, gIsi, isiB, ↓iArgs, ↓iSeq, iterP, ↓fComp, wipeP, ↓eSl, ↓oNone, ↓oSome, gSl, ↓eMeth0, ↓eMeth1, ixN, atI0, atI1, atI2, atI3, List.length_cons, List.length_nil, List.map_cons, List.map_nil, List.replicate, List.cons_append, List.nil_append, List.append_nil, List.getElem?_cons_zero, List.getElem?_cons_succ, List.getElem?_nil, List.set_cons_zero, List.set_cons_succ, List.set_nil, List.length_set, List.length_append, Nat.add_sub_cancel, Nat.reduceAdd, Nat.reduceSub, Nat.reduceLT, Nat.reduceEqDiff, Nat.reduceLeDiff, Nat.le_refl, Nat.zero_le, if_true, if_false, ↓reduceIte, decide_eq_true_eq, Bool.false_eq_true, Bool.true_eq_false, Bool.not_true, Bool.not_false, Option.isSome_some, forall_const, not_true_eq_false, not_false_eq_true, imp_self, false_implies, true_implies, implies_true, and_true, true_and, Int.toNat_zero, Nat.zero_add, Int.reduceLE, Int.reduceLT, Int.reduceNeg, Int.reduceToNat, Int.reducePow, Int.reduceGT, Int.cast_ofNat_Int, true_or, or_true, Int.ofNat_eq_natCast, decide_true, decide_false, Int.reduceEq, List.isEmpty_cons, List.isEmpty_nil, eDGet1,  keyP, Option.map_some, Option.map_none, Option.getD_some, Option.isSome_some, reduceCtorEq, and_self,  allPure_nil, allPure_cons, Bool.and_true, Bool.true_and, Bool.false_and, Bool.and_false, Bool.not_eq_true, Bool.not_eq_false, gTupP_nil, gLstP_nil, gTupP_ok, gLstP_ok, isRef_tup, isRef_int, isRef_str, isRef_bl, Bool.or_false, Bool.or_true, Bool.true_or, Bool.false_or, forF, held0, held1, a1, a2, b1, b2, gIsN_tup, gIsN_non, gIsN_int, gNotN_tup, gNotN_non, Dv.cur, take_self, false_and, or_false, true_or, Bool.false_eq_true, if_false, h]
    · simp only [wp_ok, wp_no, ↓wp_bind, ↓R.bind_ok, ↓sSeq, ↓sNil, ↓sSet, ↓sAsg, ↓sIf, ↓sRet, ↓sExpr, ↓sPar, ↓sPar3, ↓sFor, ↓nName, ↓nTup, ↓nCons, ↓nNil, ↓nNs, ↓eVar, ↓eC, ↓eOp, ↓eUn, ↓eArgs, ↓eNew, ↓aCons, ↓aNil, ↓tV, ↓tT, toB, truP, ↓tNotE, ↓tAndE, ↓tOrE, ↓tYesE, ↓eAndV, ↓eOrV, ↓eNotV, ↓eNotT, ↓eIf, gAdd_int, gAdd_tup, Py.gSub, gMul_l, gMul_r, gMod, gFdiv, gNeg, gLt, gLe, gGt, gGe, gInt, gIx, gEq_int, gEq_str, gEq_bl, gNe_int, gNe_str, gNe_bl, gIsN, gNotN, getQ, getL, gSetL, ↓nSubL, gDivmod, gMin2, gMax2, ↓mkDef, ↓mkNew, startP, finF, finO, finV_tup, finV_int, finV_bl, finV_lst, finV_non, finV_str, finV_ref, ↓eChain, tyP, gIsi, isiB, ↓iArgs, ↓iSeq, iterP, ↓fComp, wipeP, ↓eSl, ↓oNone, ↓oSome, gSl, ↓eMeth0, ↓eMeth1, ixN, atI0, atI1, atI2, atI3, List.length_cons, List.length_nil, List.map_cons, List.map_nil, List.replicate, List.cons_append, List.nil_append, List.append_nil, List.getElem?_cons_zero, List.getElem?_cons_succ, List.getElem?_nil, List.set_cons_zero, List.set_cons_succ, List.set_nil, List.length_set, List.length_append, Nat.add_sub_cancel, Nat.reduceAdd, Nat.reduceSub, Nat.reduceLT, Nat.reduceEqDiff, Nat.reduceLeDiff, Nat.le_refl, Nat.zero_le, if_true, if_false, ↓reduceIte, decide_eq_true_eq, Bool.false_eq_true, Bool.true_eq_false, Bool.not_true, Bool.not_false, Option.isSome_some, forall_const, not_true_eq_false, not_false_eq_true, imp_self, false_implies, true_implies, implies_true, and_true, true_and, Int.toNat_zero, Nat.zero_add, Int.reduceLE, Int.reduceLT, Int.reduceNeg, Int.reduceToNat, Int.reducePow, Int.reduceGT, Int.cast_ofNat_Int, true_or, or_true, Int.ofNat_eq_natCast, decide_true, decide_false, Int.reduceEq, List.isEmpty_cons, List.isEmpty_nil, eDGet1,  keyP, Option.map_some, Option.map_none, Option.getD_some, Option.isSome_some, reduceCtorEq, and_self,  allPure_nil, allPure_cons, Bool.and_true, Bool.true_and, Bool.false_and, Bool.and_false, Bool.not_eq_true, Bool.not_eq_false, gTupP_nil, gLstP_nil, gTupP_ok, gLstP_ok, isRef_tup, isRef_int, isRef_str, isRef_bl, Bool.or_false, Bool.or_true, Bool.true_or, Bool.false_or, forF, held0, held1, a1, a2, b1, b2, gIsN_tup, gIsN_non, gIsN_int, gNotN_tup, gNotN_non, Dv.cur, take_self, false_and, or_false, true_or, Bool.false_eq_true, if_false, h]
theorem current_eq (d : Dv) {S : Sto} : m_current [.tup d.p] S = .ok d.cur S := by
  refine eqn ?_
  unfold m_current b_current
  have e : ∀ n, finV n d.cur S = .ok d.cur (S.take n) := fun n => finV_pure (by unfold Dv.cur; split; rfl; split <;> rfl)
  simp only [wp_ok, wp_no, ↓wp_bind, ↓R.bind_ok, ↓sSeq, ↓sNil, ↓sSet, ↓sAsg, ↓sIf, ↓sRet, ↓sExpr, ↓sPar, ↓sPar3, ↓sFor, ↓nName, ↓nTup, ↓nCons, ↓nNil, ↓nNs, ↓eVar, ↓eC, ↓eOp, ↓eUn, ↓eArgs, ↓eNew, ↓aCons, ↓aNil, ↓tV, ↓tT, toB, truP, ↓tNotE, ↓tAndE, ↓tOrE, ↓tYesE, ↓eAndV, ↓eOrV, ↓eNotV, ↓eNotT, ↓eIf, gAdd_int, gAdd_tup, Py.gSub, gMul_l, gMul_r, gMod, gFdiv, gNeg, gLt, gLe, gGt, gGe, gInt, gIx, gEq_int, gEq_str, gEq_bl, gNe_int, gNe_str, gNe_bl, gIsN, gNotN, getQ, getL, gSetL, ↓nSubL, gDivmod, gMin2, gMax2, ↓mkDef, ↓mkNew, startP, finF, finO, finV_tup, finV_int, finV_bl, finV_lst, finV_non, finV_str, finV_ref, ↓eChain, tyP, gIsi, isiB, ↓iArgs, ↓iSeq, iterP, ↓fComp, wipeP, ↓eSl, ↓oNone, ↓oSome, gSl, ↓eMeth0, ↓eMeth1, ixN, atI0, atI1, atI2, atI3, List.length_cons, List.length_nil, List.map_cons, List.map_nil, List.replicate, List.cons_append, List.nil_append, List.append_nil, List.getElem?_cons_zero, List.getElem?_cons_succ, List.getElem?_nil, List.set_cons_zero, List.set_cons_succ, List.set_nil, List.length_set, List.length_append, Nat.add_sub_cancel, Nat.reduceAdd, Nat.reduceSub, Nat.reduceLT, Nat.reduceEqDiff, Nat.reduceLeDiff, Nat.le_refl, Nat.zero_le, if_true, if_false, ↓reduceIte, decide_eq_true_eq, Bool.false_eq_true, Bool.true_eq_false, Bool.not_true, Bool.not_false, Option.isSome_some, forall_const, not_true_eq_false, not_false_eq_true, imp_self, false_implies, true_implies, implies_true, and_true, true_and, Int.toNat_zero, Nat.zero_add, Int.reduceLE, Int.reduceLT, Int.reduceNeg, Int.reduceToNat, Int.reducePow, Int.reduceGT, Int.cast_ofNat_Int, true_or, or_true, Int.ofNat_eq_natCast, decide_true, decide_false, Int.reduceEq, List.isEmpty_cons, List.isEmpty_nil, eDGet1,  keyP, Option.map_some, Option.map_none, Option.getD_some, Option.isSome_some, reduceCtorEq, and_self,  allPure_nil, allPure_cons, Bool.and_true, Bool.true_and, Bool.false_and, Bool.and_false, Bool.not_eq_true, Bool.not_eq_false, gTupP_nil, gLstP_nil, gTupP_ok, gLstP_ok, isRef_tup, isRef_int, isRef_str, isRef_bl, Bool.or_false, Bool.or_true, Bool.true_or, Bool.false_or, check_device_eq, cur_eq, e, take_self]
theorem law_both_eq (d : Dv) {S : Sto} : m__law_both [.tup d.p] S = .ok (.tup [d.a.held, d.b.held]) S := by
  refine eqn ?_
  unfold m__law_both b__law_both
  have c1 : cutP d.p none (some ((d.m + 4 : Nat) : Int)) = ip d.a.c := by rw [cut_to (by rw [d.len]; omega), d.lo]
  have c2 : cutP d.p (some ((d.m + 4 : Nat) : Int)) none = ip d.b.c := by rw [cut_from (by rw [d.len]; omega), d.hi]
  have ea := law_held_eq d.a (by rw [d.la]; exact d.m1) (S := S)
  have eb := law_held_eq d.b (by rw [d.lb]; exact d.m1) (S := S)
  have hh := d.half
  refine d.cases (fun a1 a2 b1 b2 => ?_) (fun x a1 a2 b1 b2 => ?_) (fun y a1 a2 b1 b2 => ?_) (fun x y a1 a2 b1 b2 => ?_) <;>
  simp only [wp_ok, wp_no, ↓wp_bind, ↓R.bind_ok, ↓sSeq, ↓sNil, ↓sSet, ↓sAsg, ↓sIf, ↓sRet, ↓sExpr, ↓sPar, ↓sPar3, ↓sFor, ↓nName, ↓nTup, ↓nCons, ↓nNil, ↓nNs, ↓eVar, ↓eC, ↓eOp, ↓eUn, ↓eArgs, ↓eNew, ↓aCons, ↓aNil, ↓tV, ↓tT, toB, truP, ↓tNotE, ↓tAndE, ↓tOrE, ↓tYesE, ↓eAndV, ↓eOrV, ↓eNotV, ↓eNotT, ↓eIf, gAdd_int, gAdd_tup, Py.gSub, gMul_l, gMul_r, gMod, gFdiv, gNeg, gLt, gLe, gGt, gGe, gInt, gIx, gEq_int, gEq_str, gEq_bl, gNe_int, gNe_str, gNe_bl, gIsN, gNotN, getQ, getL, gSetL, ↓nSubL, gDivmod, gMin2, gMax2, ↓mkDef, ↓mkNew, startP, finF, finO, finV_tup, finV_int, finV_bl, finV_lst, finV_non, finV_str, finV_ref, ↓eChain, tyP, gIsi, isiB, ↓iArgs, ↓iSeq, iterP, ↓fComp, wipeP, ↓eSl, ↓oNone, ↓oSome, gSl, ↓eMeth0, ↓eMeth1, ixN, atI0, atI1, atI2, atI3, List.length_cons, List.length_nil, List.map_cons, List.map_nil, List.replicate, List.cons_append, List.nil_append, List.append_nil, List.getElem?_cons_zero, List.getElem?_cons_succ, List.getElem?_nil, List.set_cons_zero, List.set_cons_succ, List.set_nil, List.length_set, List.length_append, Nat.add_sub_cancel, Nat.reduceAdd, Nat.reduceSub, Nat.reduceLT, Nat.reduceEqDiff, Nat.reduceLeDiff, Nat.le_refl, Nat.zero_le, if_true, if_false, ↓reduceIte, decide_eq_true_eq, Bool.false_eq_true, Bool.true_eq_false, Bool.not_true, Bool.not_false, Option.isSome_some, forall_const, not_true_eq_false, not_false_eq_true, imp_self, false_implies, true_implies, implies_true, and_true, true_and, Int.toNat_zero, Nat.zero_add, Int.reduceLE, Int.reduceLT, Int.reduceNeg, Int.reduceToNat, Int.reducePow, Int.reduceGT, Int.cast_ofNat_Int, true_or, or_true, Int.ofNat_eq_natCast, decide_true, decide_false, Int.reduceEq, List.isEmpty_cons, List.isEmpty_nil, eDGet1,  keyP, Option.map_some, Option.map_none, Option.getD_some, Option.isSome_some, reduceCtorEq, and_self,  allPure_nil, allPure_cons, Bool.and_true, Bool.true_and, Bool.false_and, Bool.and_false, Bool.not_eq_true, Bool.not_eq_false, gTupP_nil, gLstP_nil, gTupP_ok, gLstP_ok, isRef_tup, isRef_int, isRef_str, isRef_bl, Bool.or_false, Bool.or_true, Bool.true_or, Bool.false_or, gLen_tup, hh, c1, c2, ea, eb, a2, b2, take_self, isRef_non]
theorem law_now_eq (d : Dv) {S : Sto} : m__law_now [.tup [d.a.held, d.b.held]] S = .ok d.cur S := by
  refine eqn ?_
  unfold m__law_now b__law_now
  refine d.cases (fun a1 a2 b1 b2 => ?_) (fun x a1 a2 b1 b2 => ?_) (fun y a1 a2 b1 b2 => ?_) (fun x y a1 a2 b1 b2 => ?_)
  · simp only [wp_ok, wp_no, ↓wp_bind, ↓R.bind_ok, ↓sSeq, ↓sNil, ↓sSet, ↓sAsg, ↓sIf, ↓sRet, ↓sExpr, ↓sPar, ↓sPar3, ↓sFor, ↓nName, ↓nTup, ↓nCons, ↓nNil, ↓nNs, ↓eVar, ↓eC, ↓eOp, ↓eUn, ↓eArgs, ↓eNew, ↓aCons, ↓aNil, ↓tV, ↓tT, toB, truP, ↓tNotE, ↓tAndE, ↓tOrE, ↓tYesE, ↓eAndV, ↓eOrV, ↓eNotV, ↓eNotT, ↓eIf, gAdd_int, gAdd_tup, Py.gSub, gMul_l, gMul_r, gMod, gFdiv, gNeg, gLt, gLe, gGt, gGe, gInt, gIx, gEq_int, gEq_str, gEq_bl, gNe_int, gNe_str, gNe_bl, gIsN, gNotN, getQ, getL, gSetL, ↓nSubL, gDivmod, gMin2, gMax2, ↓mkDef, ↓mkNew, startP, finF, finO, finV_tup, finV_int, finV_bl, finV_lst, finV_non, finV_str, finV_ref, ↓eChain, tyP, gIsi, isiB, ↓iArgs, ↓iSeq, iterP, ↓fComp, wipeP, ↓eSl, ↓oNone, ↓oSome, gSl, ↓eMeth0, ↓eMeth1, ixN, atI0, atI1, atI2, atI3, List.length_cons, List.length_nil, List.map_cons, List.map_nil, List.replicate, List.cons_append, List.nil_append, List.append_nil, List.getElem?_cons_zero, List.getElem?_cons_succ, List.getElem?_nil, List.set_cons_zero, List.set_cons_succ, List.set_nil, List.length_set, List.length_append, Nat.add_sub_cancel, Nat.reduceAdd, Nat.reduceSub, Nat.reduceLT, Nat.reduceEqDiff, Nat.reduceLeDiff, Nat.le_refl, Nat.zero_le, if_true, if_false, ↓reduceIte, decide_eq_true_eq, Bool.false_eq_true, Bool.true_eq_false, Bool.not_true, Bool.not_false, Option.isSome_some, forall_const, not_true_eq_false, not_false_eq_true, imp_self, false_implies, true_implies, implies_true, and_true, true_and, Int.toNat_zero, Nat.zero_add, Int.reduceLE, Int.reduceLT, Int.reduceNeg, Int.reduceToNat, Int.reducePow, Int.reduceGT, Int.cast_ofNat_Int, true_or, or_true, Int.ofNat_eq_natCast, decide_true, decide_false, Int.reduceEq, List.isEmpty_cons, List.isEmpty_nil, eDGet1,  keyP, Option.map_some, Option.map_none, Option.getD_some, Option.isSome_some, reduceCtorEq, and_self,  allPure_nil, allPure_cons, Bool.and_true, Bool.true_and, Bool.false_and, Bool.and_false, Bool.not_eq_true, Bool.not_eq_false, gTupP_nil, gLstP_nil, gTupP_ok, gLstP_ok, isRef_tup, isRef_int, isRef_str, isRef_bl, Bool.or_false, Bool.or_true, Bool.true_or, Bool.false_or, a1, a2, b1, b2, gIsN_tup, gIsN_non, gIsN_int, gNotN_tup, gNotN_non, Dv.cur, take_self, false_and, or_false, true_or, Bool.false_eq_true, if_false]
  · simp only [wp_ok, wp_no, ↓wp_bind, ↓R.bind_ok, ↓sSeq, ↓sNil, ↓sSet, ↓sAsg, ↓sIf, ↓sRet, ↓sExpr, ↓sPar, ↓sPar3, ↓sFor, ↓nName, ↓nTup, ↓nCons, ↓nNil, ↓nNs, ↓eVar, ↓eC, ↓eOp, ↓eUn, ↓eArgs, ↓eNew, ↓aCons, ↓aNil, ↓tV, ↓tT, toB, truP, ↓tNotE, ↓tAndE, ↓tOrE, ↓tYesE, ↓eAndV, ↓eOrV, ↓eNotV, ↓eNotT, ↓eIf, gAdd_int, gAdd_tup, Py.gSub, gMul_l, gMul_r, gMod, gFdiv, gNeg, gLt, gLe, gGt, gGe, gInt, gIx, gEq_int, gEq_str, gEq_bl, gNe_int, gNe_str, gNe_bl, gIsN, gNotN, getQ, getL, gSetL, ↓nSubL, gDivmod, gMin2, gMax2, ↓mkDef, ↓mkNew, startP, finF, finO, finV_tup, finV_int, finV_bl, finV_lst, finV_non, finV_str, finV_ref, ↓eChain, tyP, gIsi, isiB, ↓iArgs, ↓iSeq, iterP, ↓fComp, wipeP, ↓eSl, ↓oNone, ↓oSome, gSl, ↓eMeth0, ↓eMeth1, ixN, atI0, atI1, atI2, atI3, List.length_cons, List.length_nil, List.map_cons, List.map_nil, List.replicate, List.cons_append, List.nil_append, List.append_nil, List.getElem?_cons_zero, List.getElem?_cons_succ, List.getElem?_nil, List.set_cons_zero, List.set_cons_succ, List.set_nil, List.length_set, List.length_append, Nat.add_sub_cancel, Nat.reduceAdd, Nat.reduceSub, Nat.reduceLT, Nat.reduceEqDiff, Nat.reduceLeDiff, Nat.le_refl, Nat.zero_le, if_true, if_false, ↓reduceIte, decide_eq_true_eq, Bool.false_eq_true, Bool.true_eq_false, Bool.not_true, Bool.not_false, Option.isSome_some, forall_const, not_true_eq_false, not_false_eq_true, imp_self, false_implies, true_implies, implies_true, and_true, true_and, Int.toNat_zero, Nat.zero_add, Int.reduceLE, Int.reduceLT, Int.reduceNeg, Int.reduceToNat, Int.reducePow, Int.reduceGT, Int.cast_ofNat_Int, true_or, or_true, Int.ofNat_eq_natCast, decide_true, decide_false, Int.reduceEq, List.isEmpty_cons, List.isEmpty_nil, eDGet1,  keyP, Option.map_some, Option.map_none, Option.getD_some, Option.isSome_some, reduceCtorEq, and_self,  allPure_nil, allPure_cons, Bool.and_true, Bool.true_and, Bool.false_and, Bool.and_false, Bool.not_eq_true, Bool.not_eq_false, gTupP_nil, gLstP_nil, gTupP_ok, gLstP_ok, isRef_tup, isRef_int, isRef_str, isRef_bl, Bool.or_false, Bool.or_true, Bool.true_or, Bool.false_or, a1, a2, b1, b2, gIsN_tup, gIsN_non, gIsN_int, gNotN_tup, gNotN_non, Dv.cur, take_self, false_and, or_false, true_or, Bool.false_eq_true, if_false]
  · simp only [wp_ok, wp_no, ↓wp_bind, ↓R.bind_ok, ↓sSeq, ↓sNil, ↓sSet, ↓sAsg, ↓sIf, ↓sRet, ↓sExpr, ↓sPar, ↓sPar3, ↓sFor, ↓nName, ↓nTup, ↓nCons, ↓nNil, ↓nNs, ↓eVar, ↓eC, ↓eOp, ↓eUn, ↓eArgs, ↓eNew, ↓aCons, ↓aNil, ↓tV, ↓tT, toB, truP, ↓tNotE, ↓tAndE, ↓tOrE, ↓tYesE, ↓eAndV, ↓eOrV, ↓eNotV, ↓eNotT, ↓eIf, gAdd_int, gAdd_tup, Py.gSub, gMul_l, gMul_r, gMod, gFdiv, gNeg, gLt, gLe, gGt, gGe, gInt, gIx, gEq_int, gEq_str, gEq_bl, gNe_int, gNe_str, gNe_bl, gIsN, gNotN, getQ, getL, gSetL, ↓nSubL, gDivmod, gMin2, gMax2, ↓mkDef, ↓mkNew, startP, finF, finO, finV_tup, finV_int, finV_bl, finV_lst, finV_non, finV_str, finV_ref, ↓eChain, tyP, gIsi, isiB, ↓iArgs, ↓iSeq, iterP, ↓fComp, wipeP, ↓eSl, ↓oNone, ↓oSome, gSl, ↓eMeth0, ↓eMeth1, ixN, atI0, atI1, atI2, atI3, List.length_cons, List.length_nil, List.map_cons, List.map_nil, List.replicate, List.cons_append, List.nil_append, List.append_nil, List.getElem?_cons_zero, List.getElem?_cons_succ, List.getElem?_nil, List.set_cons_zero, List.set_cons_succ, List.set_nil, List.length_set, List.length_append, Nat.add_sub_cancel, Nat.reduceAdd, Nat.reduceSub, Nat.reduceLT, Nat.reduceEqDiff, Nat.reduceLeDiff, Nat.le_refl, Nat.zero_le, if_true, if_false, ↓reduceIte, decide_eq_true_eq, Bool.false_eq_true, Bool.true_eq_false, Bool.not_true, Bool.not_false, Option.isSome_some, forall_const, not_true_eq_false, not_false_eq_true, imp_self, false_implies, true_implies, implies_true, and_true, true_and, Int.toNat_zero, Nat.zero_add, Int.reduceLE, Int.reduceLT, Int.reduceNeg, Int.reduceToNat, Int.reducePow, Int.reduceGT, Int.cast_ofNat_Int, true_or, or_true, Int.ofNat_eq_natCast, decide_true, decide_false, Int.reduceEq, List.isEmpty_cons, List.isEmpty_nil, eDGet1,  keyP, Option.map_some, Option.map_none, Option.getD_some, Option.isSome_some, reduceCtorEq, and_self,  allPure_nil, allPure_cons, Bool.and_true, Bool.true_and, Bool.false_and, Bool.and_false, Bool.not_eq_true, Bool.not_eq_false, gTupP_nil, gLstP_nil, gTupP_ok, gLstP_ok, isRef_tup, isRef_int, isRef_str, isRef_bl, Bool.or_false, Bool.or_true, Bool.true_or, Bool.false_or, a1, a2, b1, b2, gIsN_tup, gIsN_non, gIsN_int, gNotN_tup, gNotN_non, Dv.cur, take_self, false_and, or_false, true_or, Bool.false_eq_true, if_false]
  · by_cases h : d.a.h < d.b.h
    · simp only [wp_ok, wp_no, ↓wp_bind, ↓R.bind_ok, ↓sSeq, ↓sNil, ↓sSet, ↓sAsg, ↓sIf, ↓sRet, ↓sExpr, ↓sPar, ↓sPar3, ↓sFor, ↓nName, ↓nTup, ↓nCons, ↓nNil, ↓nNs, ↓eVar, ↓eC, ↓eOp, ↓eUn, ↓eArgs, ↓eNew, ↓aCons, ↓aNil, ↓tV, ↓tT, toB, truP, ↓tNotE, ↓tAndE, ↓tOrE, ↓tYesE, ↓eAndV, ↓eOrV, ↓eNotV, ↓eNotT, ↓eIf, gAdd_int, gAdd_tup, Py.gSub, gMul_l, gMul_r, gMod, gFdiv, gNeg, gLt, gLe, gGt, gGe, gInt, gIx, gEq_int, gEq_str, gEq_bl, gNe_int, gNe_str, gNe_bl, gIsN, gNotN, getQ, getL, gSetL, ↓nSubL, gDivmod, gMin2, gMax2, ↓mkDef, ↓mkNew, startP, finF, finO, finV_tup, finV_int, finV_bl, finV_lst, finV_non, finV_str, finV_ref, ↓eChain, tyP, gIsi, isiB, ↓iArgs, ↓iSeq, iterP, ↓fComp, wipeP, ↓eSl, ↓oNone, ↓oSome, gSl, ↓eMeth0, ↓eMeth1, ixN, atI0, atI1, atI2, atI3, List.length_cons, List.length_nil, List.map_cons, List.map_nil, List.replicate, List.cons_append, List.nil_append, List.append_nil, List.getElem?_cons_zero, List.getElem?_cons_succ, List.getElem?_nil, List.set_cons_zero, List.set_cons_succ, List.set_nil, List.length_set, List.length_append, Nat.add_sub_cancel, Nat.reduceAdd, Nat.reduceSub, Nat.reduceLT, Nat.reduceEqDiff, Nat.reduceLeDiff, Nat.le_refl, Nat.zero_le, if_true, if_false, ↓reduceIte, decide_eq_true_eq, Bool.false_eq_true, Bool.true_eq_false, Bool.not_true, Bool.not_false, Option.isSome_some, forall_const, not_true_eq_false, not_false_eq_true, imp_self, false_implies, true_implies, implies_true, and_true, true_and, Int.toNat_zero, Nat.zero_add, Int.reduceLE, Int.reduceLT, Int.reduceNeg, Int.reduceToNat, Int.reducePow, Int.reduceGT, Int.cast_ofNat_Int, true_or, or_true, Int.ofNat_eq_natCast, decide_true, decide_false, Int.reduceEq, List.isEmpty_cons, List.isEmpty_nil, eDGet1,  keyP, Option.map_some, Option.map_none, Option.getD_some, Option.isSome_some, reduceCtorEq, and_self,  allPure_nil, allPure_cons, Bool.and_true, Bool.true_and, Bool.false_and, Bool.and_false, Bool.not_eq_true, Bool.not_eq_false, gTupP_nil, gLstP_nil, gTupP_ok, gLstP_ok, isRef_tup, isRef_int, isRef_str, isRef_bl, Bool.or_false, Bool.or_true, Bool.true_or, Bool.false_or, a1, a2, b1, b2, gIsN_tup, gIsN_non, gIsN_int, gNotN_tup, gNotN_non, Dv.cur, take_self, false_and, or_false, true_or, Bool.false_eq_true, if_false, h]
    · simp only [wp_ok, wp_no, ↓wp_bind, ↓R.bind_ok, ↓sSeq, ↓sNil, ↓sSet, ↓sAsg, ↓sIf, ↓sRet, ↓sExpr, ↓sPar, ↓sPar3, ↓sFor, ↓nName, ↓nTup, ↓nCons, ↓nNil, ↓nNs, ↓eVar, ↓eC, ↓eOp, ↓eUn, ↓eArgs, ↓eNew, ↓aCons, ↓aNil, ↓tV, ↓tT, toB, truP, ↓tNotE, ↓tAndE, ↓tOrE, ↓tYesE, ↓eAndV, ↓eOrV, ↓eNotV, ↓eNotT, ↓eIf, gAdd_int, gAdd_tup, Py.gSub, gMul_l, gMul_r, gMod, gFdiv, gNeg, gLt, gLe, gGt, gGe, gInt, gIx, gEq_int, gEq_str, gEq_bl, gNe_int, gNe_str, gNe_bl, gIsN, gNotN, getQ, getL, gSetL, ↓nSubL, gDivmod, gMin2, gMax2, ↓mkDef, ↓mkNew, startP, finF, finO, finV_tup, finV_int, finV_bl, finV_lst, finV_non, finV_str, finV_ref, ↓eChain, tyP, gIsi, isiB, ↓iArgs, ↓iSeq, iterP, ↓fComp, wipeP, ↓eSl, ↓oNone, ↓oSome, gSl, ↓eMeth0, ↓eMeth1, ixN, atI0, atI1, atI2, atI3, List.length_cons, List.length_nil, List.map_cons, List.map_nil, List.replicate, List.cons_append, List.nil_append, List.append_nil, List.getElem?_cons_zero, List.getElem?_cons_succ, List.getElem?_nil, List.set_cons_zero, List.set_cons_succ, List.set_nil, List.length_set, List.length_append, Nat.add_sub_cancel, Nat.reduceAdd, Nat.reduceSub, Nat.reduceLT, Nat.reduceEqDiff, Nat.reduceLeDiff, Nat.le_refl, Nat.zero_le, if_true, if_false, ↓reduceIte, decide_eq_true_eq, Bool.false_eq_true, Bool.true_eq_false, Bool.not_true, Bool.not_false, Option.isSome_some, forall_const, not_true_eq_false, not_false_eq_true, imp_self, false_implies, true_implies, implies_true, and_true, true_and, Int.toNat_zero, Nat.zero_add, Int.reduceLE, Int.reduceLT, Int.reduceNeg, Int.reduceToNat, Int.reducePow, Int.reduceGT, Int.cast_ofNat_Int, true_or, or_true, Int.ofNat_eq_natCast, decide_true, decide_false, Int.reduceEq, List.isEmpty_cons, List.isEmpty_nil, eDGet1,  keyP, Option.map_some, Option.map_none, Option.getD_some, Option.isSome_some, reduceCtorEq, and_self,  allPure_nil, allPure_cons, Bool.and_true, Bool.true_and, Bool.false_and, Bool.and_false, Bool.not_eq_true, Bool.not_eq_false, gTupP_nil, gLstP_nil, gTupP_ok, gLstP_ok, isRef_tup, isRef_int, isRef_str, isRef_bl, Bool.or_false, Bool.or_true, Bool.true_or, Bool.false_or, a1, a2, b1, b2, gIsN_tup, gIsN_non, gIsN_int, gNotN_tup, gNotN_non, Dv.cur, take_self, false_and, or_false, true_or, Bool.false_eq_true, if_false, h]
end G80
set_option Elab.async false
set_option maxRecDepth 100000
set_option maxHeartbeats 1000000
set_option linter.all false
namespace G80
open PySem PySem.Spec PyProof.Rows L2 Py

/-! ### mending -/
def Sl.bad (s : Sl) : Bool := !s.ok && !decide (s.h = 0)
def Dv.wr (d : Dv) : List PV := (if d.a.bad = true then [.tup [.int 0, .int 0]] else []) ++ (if d.b.bad = true then [.tup [.int (d.m + 4 : Nat), .int 0]] else [])
def Sl.md (s : Sl) : Sl := if s.bad = true then { s with h := 0 } else s
def Dv.md (d : Dv) : Dv := ⟨d.a.md, d.b.md, d.m, by unfold Sl.md; split <;> exact d.la, by unfold Sl.md; split <;> exact d.lb, d.m0, d.m1⟩
theorem Dv.at0 (d : Dv) : atI d.p 0 = some (.int d.a.h) := by
  have := d.at false (x := 0) (by omega)
  rw [Sl.ip_c] at this
  exact this
theorem Dv.atn (d : Dv) : atI d.p ((d.m + 4 : Nat) : Int) = some (.int d.b.h) := by
  have := d.at true (x := 0) (by omega)
  rw [Sl.ip_c] at this
  exact this
theorem head0 (d : Dv) {S : Sto} : m_head_cell [.tup d.p, .int 0] S = .ok (.int 0) S := head_cell_eq d false
theorem head1 (d : Dv) {S : Sto} : m_head_cell [.tup d.p, .int 1] S = .ok (.int (d.m + 4 : Nat)) S := head_cell_eq d true
theorem tup_of_lst {xs : List PV} {S : Sto} : gTupOf [.lst xs] S = .ok (.tup xs) S := rfl
theorem tup_of_tup {xs : List PV} {S : Sto} : gTupOf [.tup xs] S = .ok (.tup xs) S := rfl
theorem one_size : (0 : Nat) < sizeLine := by unfold sizeLine; omega
theorem two_size : (1 : Nat) < sizeLine := by unfold sizeLine; omega
theorem wr_eq (d : Dv) {S : Sto} : m_writes_of_mending [.tup d.p] S = .ok (.tup d.wr) S := by
  refine eqn ?_
  unfold m_writes_of_mending b_writes_of_mending
  have a0 := d.at0
  have an := d.atn
  refine d.cases (fun a1 a2 b1 b2 => ?_) (fun x a1 a2 b1 b2 => ?_) (fun y a1 a2 b1 b2 => ?_) (fun x y a1 a2 b1 b2 => ?_) <;>
  by_cases ha : d.a.h = 0 <;> by_cases hb : d.b.h = 0 <;>
  simp only [wp_ok, wp_no, ↓wp_bind, ↓R.bind_ok, ↓sSeq, ↓sNil, ↓sSet, ↓sAsg, ↓sIf, ↓sRet, ↓sExpr, ↓sPar, ↓sPar3, ↓sFor, ↓nName, ↓nTup, ↓nCons, ↓nNil, ↓nNs, ↓eVar, ↓eC, ↓eOp, ↓eUn, ↓eArgs, ↓eNew, ↓aCons, ↓aNil, ↓tV, ↓tT, toB, truP, ↓tNotE, ↓tAndE, ↓tOrE, ↓tYesE, ↓eAndV, ↓eOrV, ↓eNotV, ↓eNotT, ↓eIf, gAdd_int, gAdd_tup, Py.gSub, gMul_l, gMul_r, gMod, gFdiv, gNeg, gLt, gLe, gGt, gGe, gInt, gIx, gEq_int, gEq_str, gEq_bl, gNe_int, gNe_str, gNe_bl, gIsN, gNotN, getQ, getL, gSetL, ↓nSubL, gDivmod, gMin2, gMax2, ↓mkDef, ↓mkNew, startP, finF, finO, finV_tup, finV_int, finV_bl, finV_lst, finV_non, finV_str, finV_ref, ↓eChain, tyP, gIsi, isiB, ↓iArgs, ↓iSeq, iterP, ↓fComp, wipeP, ↓eSl, ↓oNone, ↓oSome, gSl, ↓eMeth0, ↓eMeth1, ixN, atI0, atI1, atI2, atI3, List.length_cons, List.length_nil, List.map_cons, List.map_nil, List.replicate, List.cons_append, List.nil_append, List.append_nil, List.getElem?_cons_zero, List.getElem?_cons_succ, List.getElem?_nil, List.set_cons_zero, List.set_cons_succ, List.set_nil, List.length_set, List.length_append, Nat.add_sub_cancel, Nat.reduceAdd, Nat.reduceSub, Nat.reduceLT, Nat.reduceEqDiff, Nat.reduceLeDiff, Nat.le_refl, Nat.zero_le, if_true, if_false, ↓reduceIte, decide_eq_true_eq, Bool.false_eq_true, Bool.true_eq_false, Bool.not_true, Bool.not_false, Option.isSome_some, forall_const, not_true_eq_false, not_false_eq_true, imp_self, false_implies, true_implies, implies_true, and_true, true_and, Int.toNat_zero, Nat.zero_add, Int.reduceLE, Int.reduceLT, Int.reduceNeg, Int.reduceToNat, Int.reducePow, Int.reduceGT, Int.cast_ofNat_Int, true_or, or_true, Int.ofNat_eq_natCast, decide_true, decide_false, Int.reduceEq, List.isEmpty_cons, List.isEmpty_nil, eDGet1,  keyP, Option.map_some, Option.map_none, Option.getD_some, Option.isSome_some, reduceCtorEq, and_self,  allPure_nil, allPure_cons, Bool.and_true, Bool.true_and, Bool.false_and, Bool.and_false, Bool.not_eq_true, Bool.not_eq_false, gTupP_nil, gLstP_nil, gTupP_ok, gLstP_ok, isRef_tup, isRef_int, isRef_str, isRef_bl, Bool.or_false, Bool.or_true, Bool.true_or, Bool.false_or, compF, held0, held1, a1, a2, b1, b2, gIsN_tup, gIsN_non, head0, head1, a0, an, ha, hb, one_size, two_size, tup_of_lst, take_self, Dv.wr, Sl.bad]
theorem law_clears_eq (d : Dv) {S : Sto} : m__law_clears [.tup d.p] S = .ok (.tup d.wr) S := by
  refine eqn ?_
  unfold m__law_clears b__law_clears
  have a0 := d.at0
  have an := d.atn
  have hh := d.half
  have bp : (PV.tup [d.a.held, d.b.held]).isRef = false := rfl
  refine d.cases (fun a1 a2 b1 b2 => ?_) (fun x a1 a2 b1 b2 => ?_) (fun y a1 a2 b1 b2 => ?_) (fun x y a1 a2 b1 b2 => ?_) <;>
  by_cases ha : d.a.h = 0 <;> by_cases hb : d.b.h = 0 <;>
  simp only [wp_ok, wp_no, ↓wp_bind, ↓R.bind_ok, ↓sSeq, ↓sNil, ↓sSet, ↓sAsg, ↓sIf, ↓sRet, ↓sExpr, ↓sPar, ↓sPar3, ↓sFor, ↓nName, ↓nTup, ↓nCons, ↓nNil, ↓nNs, ↓eVar, ↓eC, ↓eOp, ↓eUn, ↓eArgs, ↓eNew, ↓aCons, ↓aNil, ↓tV, ↓tT, toB, truP, ↓tNotE, ↓tAndE, ↓tOrE, ↓tYesE, ↓eAndV, ↓eOrV, ↓eNotV, ↓eNotT, ↓eIf, gAdd_int, gAdd_tup, Py.gSub, gMul_l, gMul_r, gMod, gFdiv, gNeg, gLt, gLe, gGt, gGe, gInt, gIx, gEq_int, gEq_str, gEq_bl, gNe_int, gNe_str, gNe_bl, gIsN, gNotN, getQ, getL, gSetL, ↓nSubL, gDivmod, gMin2, gMax2, ↓mkDef, ↓mkNew, startP, finF, finO, finV_tup, finV_int, finV_bl, finV_lst, finV_non, finV_str, finV_ref, ↓eChain, tyP, gIsi, isiB, ↓iArgs, ↓iSeq, iterP, ↓fComp, wipeP, ↓eSl, ↓oNone, ↓oSome, gSl, ↓eMeth0, ↓eMeth1, ixN, atI0, atI1, atI2, atI3, List.length_cons, List.length_nil, List.map_cons, List.map_nil, List.replicate, List.cons_append, List.nil_append, List.append_nil, List.getElem?_cons_zero, List.getElem?_cons_succ, List.getElem?_nil, List.set_cons_zero, List.set_cons_succ, List.set_nil, List.length_set, List.length_append, Nat.add_sub_cancel, Nat.reduceAdd, Nat.reduceSub, Nat.reduceLT, Nat.reduceEqDiff, Nat.reduceLeDiff, Nat.le_refl, Nat.zero_le, if_true, if_false, ↓reduceIte, decide_eq_true_eq, Bool.false_eq_true, Bool.true_eq_false, Bool.not_true, Bool.not_false, Option.isSome_some, forall_const, not_true_eq_false, not_false_eq_true, imp_self, false_implies, true_implies, implies_true, and_true, true_and, Int.toNat_zero, Nat.zero_add, Int.reduceLE, Int.reduceLT, Int.reduceNeg, Int.reduceToNat, Int.reducePow, Int.reduceGT, Int.cast_ofNat_Int, true_or, or_true, Int.ofNat_eq_natCast, decide_true, decide_false, Int.reduceEq, List.isEmpty_cons, List.isEmpty_nil, eDGet1,  keyP, Option.map_some, Option.map_none, Option.getD_some, Option.isSome_some, reduceCtorEq, and_self,  allPure_nil, allPure_cons, Bool.and_true, Bool.true_and, Bool.false_and, Bool.and_false, Bool.not_eq_true, Bool.not_eq_false, gTupP_nil, gLstP_nil, gTupP_ok, gLstP_ok, isRef_tup, isRef_int, isRef_str, isRef_bl, Bool.or_false, Bool.or_true, Bool.true_or, Bool.false_or, compF, gLen_tup, hh, law_both_eq, a1, a2, b1, b2, gIsN_tup, gIsN_non, a0, an, ha, hb, one_size, two_size, tup_of_lst, take_self, Dv.wr, Sl.bad, Int.zero_mul, Int.one_mul]
theorem get_last {S : Sto} {x : PV} : (S ++ [x])[S.length]? = some x := by simp
theorem set_last {S : Sto} {x y : PV} : (S ++ [x]).set S.length y = S ++ [y] := by simp
theorem take_app {S : Sto} {x : PV} : (S ++ [x]).take S.length = S := by simp
theorem gLstOf_tup {xs : List PV} {S : Sto} : gLstOf [.tup xs] S = .ok (.lst xs) S := rfl
theorem gLstOf_lst {xs : List PV} {S : Sto} : gLstOf [.lst xs] S = .ok (.lst xs) S := rfl
theorem gSetL_nat {S : Sto} {n : Nat} {xs : List PV} {i : Nat} {v : PV} (h : S[n]? = some (.lst xs)) (hi : i < xs.length) (hv : v.isRef = false) : gSetL (.ref n) (.int (i : Nat)) v S = .ok .non (S.set n (.lst (xs.set i v))) := by
  unfold gSetL
  simp only [h]
  have : ixN xs.length (i : Int) = some i := by
    unfold ixN
    rw [if_pos (Int.natCast_nonneg i), if_pos (by omega)]
    rfl
  simp only [this, hv, if_true]
theorem set_a (d : Dv) : d.p.set 0 (.int 0) = ip (({ d.a with h := 0 } : Sl).c ++ d.b.c) := rfl
theorem set_b (d : Dv) (x : Int) : (ip (({ d.a with h := x } : Sl).c ++ d.b.c)).set (d.m + 4) (.int 0) = ip (({ d.a with h := x } : Sl).c ++ ({ d.b with h := 0 } : Sl).c) := by
  rw [ip_app, ip_app]
  have e : (ip ({ d.a with h := x } : Sl).c).length = d.m + 4 := by rw [List.length_map, Sl.c_len, d.la]
  rw [List.set_append_right _ _ (by omega), e, Nat.sub_self]
  rfl
theorem set_b' (d : Dv) : d.p.set (d.m + 4) (.int 0) = ip (d.a.c ++ ({ d.b with h := 0 } : Sl).c) := set_b d d.a.h
theorem refS {n : Nat} {S : Sto} (h : ¬ n < n) : True := trivial
theorem put_gen (d : Dv) {S : Sto} : WP (m__law_put [.tup d.p, .tup d.wr] S) fun p S' => p = .tup d.md.p ∧ S' = S := by
  unfold m__law_put b__law_put
  have nl : ¬ S.length < S.length := by omega
  have zi : (0 : Int) = ((0 : Nat) : Int) := rfl
  have l0 : 0 < d.p.length := by rw [d.len]; omega
  have ln : d.m + 4 < d.p.length := by rw [d.len]; omega
  have ln' : d.m + 4 < (ip (({ d.a with h := 0 } : Sl).c ++ d.b.c)).length := by rw [← set_a, List.length_set]; exact ln
  have s0 : gSetL (.ref S.length) (.int 0) (.int 0) (S ++ [.lst d.p]) = .ok .non (S ++ [.lst (ip (({ d.a with h := 0 } : Sl).c ++ d.b.c))]) := by
    have := gSetL_nat (S := S ++ [.lst d.p]) (n := S.length) (i := 0) (v := .int 0) get_last l0 rfl
    rw [set_last, set_a] at this
    exact this
  have s1 : gSetL (.ref S.length) (.int (d.m + 4 : Nat)) (.int 0) (S ++ [.lst d.p]) = .ok .non (S ++ [.lst (ip (d.a.c ++ ({ d.b with h := 0 } : Sl).c))]) := by
    have := gSetL_nat (S := S ++ [.lst d.p]) (n := S.length) (i := d.m + 4) (v := .int 0) get_last ln rfl
    rw [set_last, set_b'] at this
    exact this
  have s2 : gSetL (.ref S.length) (.int (d.m + 4 : Nat)) (.int 0) (S ++ [.lst (ip (({ d.a with h := 0 } : Sl).c ++ d.b.c))]) = .ok .non (S ++ [.lst (ip (({ d.a with h := 0 } : Sl).c ++ ({ d.b with h := 0 } : Sl).c))]) := by
    have := gSetL_nat (S := S ++ [.lst (ip (({ d.a with h := 0 } : Sl).c ++ d.b.c))]) (n := S.length) (i := d.m + 4) (v := .int 0) get_last ln' rfl
    rw [set_last, set_b] at this
    exact this
  have to : ∀ xs : List PV, gTupOf [.ref S.length] (S ++ [.lst xs]) = .ok (.tup xs) (S ++ [.lst xs]) := fun xs => by
    unfold gTupOf
    simp only [getL, get_last]
  cases ha : d.a.bad <;> cases hb : d.b.bad
  · simp only [wp_ok, wp_no, ↓wp_bind, ↓R.bind_ok, ↓sSeq, ↓sNil, ↓sSet, ↓sAsg, ↓sIf, ↓sRet, ↓sExpr, ↓sPar, ↓sPar3, ↓sFor, ↓nName, ↓nTup, ↓nCons, ↓nNil, ↓nNs, ↓eVar, ↓eC, ↓eOp, ↓eUn, ↓eArgs, ↓eNew, ↓aCons, ↓aNil, ↓tV, ↓tT, toB, truP, ↓tNotE, ↓tAndE, ↓tOrE, ↓tYesE, ↓eAndV, ↓eOrV, ↓eNotV, ↓eNotT, ↓eIf, gAdd_int, gAdd_tup, Py.gSub, gMul_l, gMul_r, gMod, gFdiv, gNeg, gLt, gLe, gGt, gGe, gInt, gIx, gEq_int, gEq_str, gEq_bl, gNe_int, gNe_str, gNe_bl, gIsN, gNotN, getQ, getL, ↓nSubL, gDivmod, gMin2, gMax2, ↓mkDef, ↓mkNew, startP, finF, finO, finV_tup, finV_int, finV_bl, finV_lst, finV_non, finV_str, finV_ref, ↓eChain, tyP, gIsi, isiB, ↓iArgs, ↓iSeq, iterP, ↓fComp, wipeP, ↓eSl, ↓oNone, ↓oSome, gSl, ↓eMeth0, ↓eMeth1, ixN, atI0, atI1, atI2, atI3, List.length_cons, List.length_nil, List.map_cons, List.map_nil, List.replicate, List.cons_append, List.nil_append, List.append_nil, List.getElem?_cons_zero, List.getElem?_cons_succ, List.getElem?_nil, List.set_cons_zero, List.set_cons_succ, List.set_nil, List.length_set, List.length_append, Nat.add_sub_cancel, Nat.reduceAdd, Nat.reduceSub, Nat.reduceLT, Nat.reduceEqDiff, Nat.reduceLeDiff, Nat.le_refl, Nat.zero_le, if_true, if_false, ↓reduceIte, decide_eq_true_eq, Bool.false_eq_true, Bool.true_eq_false, Bool.not_true, Bool.not_false, Option.isSome_some, forall_const, not_true_eq_false, not_false_eq_true, imp_self, false_implies, true_implies, implies_true, and_true, true_and, Int.toNat_zero, Nat.zero_add, Int.reduceLE, Int.reduceLT, Int.reduceNeg, Int.reduceToNat, Int.reducePow, Int.reduceGT, Int.cast_ofNat_Int, true_or, or_true, Int.ofNat_eq_natCast, decide_true, decide_false, Int.reduceEq, List.isEmpty_cons, List.isEmpty_nil, eDGet1,  keyP, Option.map_some, Option.map_none, Option.getD_some, Option.isSome_some, reduceCtorEq, and_self,  allPure_nil, allPure_cons, Bool.and_true, Bool.true_and, Bool.false_and, Bool.and_false, Bool.not_eq_true, Bool.not_eq_false, gTupP_nil, gLstP_nil, gTupP_ok, gLstP_ok, isRef_tup, isRef_int, isRef_str, isRef_bl, Bool.or_false, Bool.or_true, Bool.true_or, Bool.false_or, Dv.wr, ha, hb, gLstOf_tup, forF, to, take_app]
    simp [Dv.md, Dv.p, Sl.md, ha, hb]
  · simp only [wp_ok, wp_no, ↓wp_bind, ↓R.bind_ok, ↓sSeq, ↓sNil, ↓sSet, ↓sAsg, ↓sIf, ↓sRet, ↓sExpr, ↓sPar, ↓sPar3, ↓sFor, ↓nName, ↓nTup, ↓nCons, ↓nNil, ↓nNs, ↓eVar, ↓eC, ↓eOp, ↓eUn, ↓eArgs, ↓eNew, ↓aCons, ↓aNil, ↓tV, ↓tT, toB, truP, ↓tNotE, ↓tAndE, ↓tOrE, ↓tYesE, ↓eAndV, ↓eOrV, ↓eNotV, ↓eNotT, ↓eIf, gAdd_int, gAdd_tup, Py.gSub, gMul_l, gMul_r, gMod, gFdiv, gNeg, gLt, gLe, gGt, gGe, gInt, gIx, gEq_int, gEq_str, gEq_bl, gNe_int, gNe_str, gNe_bl, gIsN, gNotN, getQ, getL, ↓nSubL, gDivmod, gMin2, gMax2, ↓mkDef, ↓mkNew, startP, finF, finO, finV_tup, finV_int, finV_bl, finV_lst, finV_non, finV_str, finV_ref, ↓eChain, tyP, gIsi, isiB, ↓iArgs, ↓iSeq, iterP, ↓fComp, wipeP, ↓eSl, ↓oNone, ↓oSome, gSl, ↓eMeth0, ↓eMeth1, ixN, atI0, atI1, atI2, atI3, List.length_cons, List.length_nil, List.map_cons, List.map_nil, List.replicate, List.cons_append, List.nil_append, List.append_nil, List.getElem?_cons_zero, List.getElem?_cons_succ, List.getElem?_nil, List.set_cons_zero, List.set_cons_succ, List.set_nil, List.length_set, List.length_append, Nat.add_sub_cancel, Nat.reduceAdd, Nat.reduceSub, Nat.reduceLT, Nat.reduceEqDiff, Nat.reduceLeDiff, Nat.le_refl, Nat.zero_le, if_true, if_false, ↓reduceIte, decide_eq_true_eq, Bool.false_eq_true, Bool.true_eq_false, Bool.not_true, Bool.not_false, Option.isSome_some, forall_const, not_true_eq_false, not_false_eq_true, imp_self, false_implies, true_implies, implies_true, and_true, true_and, Int.toNat_zero, Nat.zero_add, Int.reduceLE, Int.reduceLT, Int.reduceNeg, Int.reduceToNat, Int.reducePow, Int.reduceGT, Int.cast_ofNat_Int, true_or, or_true, Int.ofNat_eq_natCast, decide_true, decide_false, Int.reduceEq, List.isEmpty_cons, List.isEmpty_nil, eDGet1,  keyP, Option.map_some, Option.map_none, Option.getD_some, Option.isSome_some, reduceCtorEq, and_self,  allPure_nil, allPure_cons, Bool.and_true, Bool.true_and, Bool.false_and, Bool.and_false, Bool.not_eq_true, Bool.not_eq_false, gTupP_nil, gLstP_nil, gTupP_ok, gLstP_ok, isRef_tup, isRef_int, isRef_str, isRef_bl, Bool.or_false, Bool.or_true, Bool.true_or, Bool.false_or, Dv.wr, ha, hb, gLstOf_tup, forF, s1, to, take_app]
    simp [Dv.md, Dv.p, Sl.md, ha, hb]
  · simp only [wp_ok, wp_no, ↓wp_bind, ↓R.bind_ok, ↓sSeq, ↓sNil, ↓sSet, ↓sAsg, ↓sIf, ↓sRet, ↓sExpr, ↓sPar, ↓sPar3, ↓sFor, ↓nName, ↓nTup, ↓nCons, ↓nNil, ↓nNs, ↓eVar, ↓eC, ↓eOp, ↓eUn, ↓eArgs, ↓eNew, ↓aCons, ↓aNil, ↓tV, ↓tT, toB, truP, ↓tNotE, ↓tAndE, ↓tOrE, ↓tYesE, ↓eAndV, ↓eOrV, ↓eNotV, ↓eNotT, ↓eIf, gAdd_int, gAdd_tup, Py.gSub, gMul_l, gMul_r, gMod, gFdiv, gNeg, gLt, gLe, gGt, gGe, gInt, gIx, gEq_int, gEq_str, gEq_bl, gNe_int, gNe_str, gNe_bl, gIsN, gNotN, getQ, getL, ↓nSubL, gDivmod, gMin2, gMax2, ↓mkDef, ↓mkNew, startP, finF, finO, finV_tup, finV_int, finV_bl, finV_lst, finV_non, finV_str, finV_ref, ↓eChain, tyP, gIsi, isiB, ↓iArgs, ↓iSeq, iterP, ↓fComp, wipeP, ↓eSl, ↓oNone, ↓oSome, gSl, ↓eMeth0, ↓eMeth1, ixN, atI0, atI1, atI2, atI3, List.length_cons, List.length_nil, List.map_cons, List.map_nil, List.replicate, List.cons_append, List.nil_append, List.append_nil, List.getElem?_cons_zero, List.getElem?_cons_succ, List.getElem?_nil, List.set_cons_zero, List.set_cons_succ, List.set_nil, List.length_set, List.length_append, Nat.add_sub_cancel, Nat.reduceAdd, Nat.reduceSub, Nat.reduceLT, Nat.reduceEqDiff, Nat.reduceLeDiff, Nat.le_refl, Nat.zero_le, if_true, if_false, ↓reduceIte, decide_eq_true_eq, Bool.false_eq_true, Bool.true_eq_false, Bool.not_true, Bool.not_false, Option.isSome_some, forall_const, not_true_eq_false, not_false_eq_true, imp_self, false_implies, true_implies, implies_true, and_true, true_and, Int.toNat_zero, Nat.zero_add, Int.reduceLE, Int.reduceLT, Int.reduceNeg, Int.reduceToNat, Int.reducePow, Int.reduceGT, Int.cast_ofNat_Int, true_or, or_true, Int.ofNat_eq_natCast, decide_true, decide_false, Int.reduceEq, List.isEmpty_cons, List.isEmpty_nil, eDGet1,  keyP, Option.map_some, Option.map_none, Option.getD_some, Option.isSome_some, reduceCtorEq, and_self,  allPure_nil, allPure_cons, Bool.and_true, Bool.true_and, Bool.false_and, Bool.and_false, Bool.not_eq_true, Bool.not_eq_false, gTupP_nil, gLstP_nil, gTupP_ok, gLstP_ok, isRef_tup, isRef_int, isRef_str, isRef_bl, Bool.or_false, Bool.or_true, Bool.true_or, Bool.false_or, Dv.wr, ha, hb, gLstOf_tup, forF, s0, to, take_app]
    simp [Dv.md, Dv.p, Sl.md, ha, hb]
  · simp only [wp_ok, wp_no, ↓wp_bind, ↓R.bind_ok, ↓sSeq, ↓sNil, ↓sSet, ↓sAsg, ↓sIf, ↓sRet, ↓sExpr, ↓sPar, ↓sPar3, ↓sFor, ↓nName, ↓nTup, ↓nCons, ↓nNil, ↓nNs, ↓eVar, ↓eC, ↓eOp, ↓eUn, ↓eArgs, ↓eNew, ↓aCons, ↓aNil, ↓tV, ↓tT, toB, truP, ↓tNotE, ↓tAndE, ↓tOrE, ↓tYesE, ↓eAndV, ↓eOrV, ↓eNotV, ↓eNotT, ↓eIf, gAdd_int, gAdd_tup, Py.gSub, gMul_l, gMul_r, gMod, gFdiv, gNeg, gLt, gLe, gGt, gGe, gInt, gIx, gEq_int, gEq_str, gEq_bl, gNe_int, gNe_str, gNe_bl, gIsN, gNotN, getQ, getL, ↓nSubL, gDivmod, gMin2, gMax2, ↓mkDef, ↓mkNew, startP, finF, finO, finV_tup, finV_int, finV_bl, finV_lst, finV_non, finV_str, finV_ref, ↓eChain, tyP, gIsi, isiB, ↓iArgs, ↓iSeq, iterP, ↓fComp, wipeP, ↓eSl, ↓oNone, ↓oSome, gSl, ↓eMeth0, ↓eMeth1, ixN, atI0, atI1, atI2, atI3, List.length_cons, List.length_nil, List.map_cons, List.map_nil, List.replicate, List.cons_append, List.nil_append, List.append_nil, List.getElem?_cons_zero, List.getElem?_cons_succ, List.getElem?_nil, List.set_cons_zero, List.set_cons_succ, List.set_nil, List.length_set, List.length_append, Nat.add_sub_cancel, Nat.reduceAdd, Nat.reduceSub, Nat.reduceLT, Nat.reduceEqDiff, Nat.reduceLeDiff, Nat.le_refl, Nat.zero_le, if_true, if_false, ↓reduceIte, decide_eq_true_eq, Bool.false_eq_true, Bool.true_eq_false, Bool.not_true, Bool.not_false, Option.isSome_some, forall_const, not_true_eq_false, not_false_eq_true, imp_self, false_implies, true_implies, implies_true, and_true, true_and, Int.toNat_zero, Nat.zero_add, Int.reduceLE, Int.reduceLT, Int.reduceNeg, Int.reduceToNat, Int.reducePow, Int.reduceGT, Int.cast_ofNat_Int, true_or, or_true, Int.ofNat_eq_natCast, decide_true, decide_false, Int.reduceEq, List.isEmpty_cons, List.isEmpty_nil, eDGet1,  keyP, Option.map_some, Option.map_none, Option.getD_some, Option.isSome_some, reduceCtorEq, and_self,  allPure_nil, allPure_cons, Bool.and_true, Bool.true_and, Bool.false_and, Bool.and_false, Bool.not_eq_true, Bool.not_eq_false, gTupP_nil, gLstP_nil, gTupP_ok, gLstP_ok, isRef_tup, isRef_int, isRef_str, isRef_bl, Bool.or_false, Bool.or_true, Bool.true_or, Bool.false_or, Dv.wr, ha, hb, gLstOf_tup, forF, s0, s2, to, take_app]
    simp [Dv.md, Dv.p, Sl.md, ha, hb]
theorem law_put_eq (d : Dv) {S : Sto} : m__law_put [.tup d.p, .tup d.wr] S = .ok (.tup d.md.p) S := eqn (put_gen d)
theorem behind_eq (d : Dv) {S : Sto} : m_device_behind [.tup d.p, .tup d.wr] S = .ok (.tup d.md.p) S := law_put_eq d
theorem mended_device_eq (d : Dv) {S : Sto} : m_mended_device [.tup d.p] S = .ok (.tup d.md.p) S := by
  refine eqn ?_
  unfold m_mended_device b_mended_device
  simp only [wp_ok, wp_no, ↓wp_bind, ↓R.bind_ok, ↓sSeq, ↓sNil, ↓sSet, ↓sAsg, ↓sIf, ↓sRet, ↓sExpr, ↓sPar, ↓sPar3, ↓sFor, ↓nName, ↓nTup, ↓nCons, ↓nNil, ↓nNs, ↓eVar, ↓eC, ↓eOp, ↓eUn, ↓eArgs, ↓eNew, ↓aCons, ↓aNil, ↓tV, ↓tT, toB, truP, ↓tNotE, ↓tAndE, ↓tOrE, ↓tYesE, ↓eAndV, ↓eOrV, ↓eNotV, ↓eNotT, ↓eIf, gAdd_int, gAdd_tup, Py.gSub, gMul_l, gMul_r, gMod, gFdiv, gNeg, gLt, gLe, gGt, gGe, gInt, gIx, gEq_int, gEq_str, gEq_bl, gNe_int, gNe_str, gNe_bl, gIsN, gNotN, getQ, getL, gSetL, ↓nSubL, gDivmod, gMin2, gMax2, ↓mkDef, ↓mkNew, startP, finF, finO, finV_tup, finV_int, finV_bl, finV_lst, finV_non, finV_str, finV_ref, ↓eChain, tyP, gIsi, isiB, ↓iArgs, ↓iSeq, iterP, ↓fComp, wipeP, ↓eSl, ↓oNone, ↓oSome, gSl, ↓eMeth0, ↓eMeth1, ixN, atI0, atI1, atI2, atI3, List.length_cons, List.length_nil, List.map_cons, List.map_nil, List.replicate, List.cons_append, List.nil_append, List.append_nil, List.getElem?_cons_zero, List.getElem?_cons_succ, List.getElem?_nil, List.set_cons_zero, List.set_cons_succ, List.set_nil, List.length_set, List.length_append, Nat.add_sub_cancel, Nat.reduceAdd, Nat.reduceSub, Nat.reduceLT, Nat.reduceEqDiff, Nat.reduceLeDiff, Nat.le_refl, Nat.zero_le, if_true, if_false, ↓reduceIte, decide_eq_true_eq, Bool.false_eq_true, Bool.true_eq_false, Bool.not_true, Bool.not_false, Option.isSome_some, forall_const, not_true_eq_false, not_false_eq_true, imp_self, false_implies, true_implies, implies_true, and_true, true_and, Int.toNat_zero, Nat.zero_add, Int.reduceLE, Int.reduceLT, Int.reduceNeg, Int.reduceToNat, Int.reducePow, Int.reduceGT, Int.cast_ofNat_Int, true_or, or_true, Int.ofNat_eq_natCast, decide_true, decide_false, Int.reduceEq, List.isEmpty_cons, List.isEmpty_nil, eDGet1,  keyP, Option.map_some, Option.map_none, Option.getD_some, Option.isSome_some, reduceCtorEq, and_self,  allPure_nil, allPure_cons, Bool.and_true, Bool.true_and, Bool.false_and, Bool.and_false, Bool.not_eq_true, Bool.not_eq_false, gTupP_nil, gLstP_nil, gTupP_ok, gLstP_ok, isRef_tup, isRef_int, isRef_str, isRef_bl, Bool.or_false, Bool.or_true, Bool.true_or, Bool.false_or, wr_eq, behind_eq, take_self]
theorem mended_eq (d : Dv) {S : Sto} : m_mended [.tup d.p] S = .ok (.tup d.md.p) S := by
  refine eqn ?_
  unfold m_mended b_mended
  simp only [wp_ok, wp_no, ↓wp_bind, ↓R.bind_ok, ↓sSeq, ↓sNil, ↓sSet, ↓sAsg, ↓sIf, ↓sRet, ↓sExpr, ↓sPar, ↓sPar3, ↓sFor, ↓nName, ↓nTup, ↓nCons, ↓nNil, ↓nNs, ↓eVar, ↓eC, ↓eOp, ↓eUn, ↓eArgs, ↓eNew, ↓aCons, ↓aNil, ↓tV, ↓tT, toB, truP, ↓tNotE, ↓tAndE, ↓tOrE, ↓tYesE, ↓eAndV, ↓eOrV, ↓eNotV, ↓eNotT, ↓eIf, gAdd_int, gAdd_tup, Py.gSub, gMul_l, gMul_r, gMod, gFdiv, gNeg, gLt, gLe, gGt, gGe, gInt, gIx, gEq_int, gEq_str, gEq_bl, gNe_int, gNe_str, gNe_bl, gIsN, gNotN, getQ, getL, gSetL, ↓nSubL, gDivmod, gMin2, gMax2, ↓mkDef, ↓mkNew, startP, finF, finO, finV_tup, finV_int, finV_bl, finV_lst, finV_non, finV_str, finV_ref, ↓eChain, tyP, gIsi, isiB, ↓iArgs, ↓iSeq, iterP, ↓fComp, wipeP, ↓eSl, ↓oNone, ↓oSome, gSl, ↓eMeth0, ↓eMeth1, ixN, atI0, atI1, atI2, atI3, List.length_cons, List.length_nil, List.map_cons, List.map_nil, List.replicate, List.cons_append, List.nil_append, List.append_nil, List.getElem?_cons_zero, List.getElem?_cons_succ, List.getElem?_nil, List.set_cons_zero, List.set_cons_succ, List.set_nil, List.length_set, List.length_append, Nat.add_sub_cancel, Nat.reduceAdd, Nat.reduceSub, Nat.reduceLT, Nat.reduceEqDiff, Nat.reduceLeDiff, Nat.le_refl, Nat.zero_le, if_true, if_false, ↓reduceIte, decide_eq_true_eq, Bool.false_eq_true, Bool.true_eq_false, Bool.not_true, Bool.not_false, Option.isSome_some, forall_const, not_true_eq_false, not_false_eq_true, imp_self, false_implies, true_implies, implies_true, and_true, true_and, Int.toNat_zero, Nat.zero_add, Int.reduceLE, Int.reduceLT, Int.reduceNeg, Int.reduceToNat, Int.reducePow, Int.reduceGT, Int.cast_ofNat_Int, true_or, or_true, Int.ofNat_eq_natCast, decide_true, decide_false, Int.reduceEq, List.isEmpty_cons, List.isEmpty_nil, eDGet1,  keyP, Option.map_some, Option.map_none, Option.getD_some, Option.isSome_some, reduceCtorEq, and_self,  allPure_nil, allPure_cons, Bool.and_true, Bool.true_and, Bool.false_and, Bool.and_false, Bool.not_eq_true, Bool.not_eq_false, gTupP_nil, gLstP_nil, gTupP_ok, gLstP_ok, isRef_tup, isRef_int, isRef_str, isRef_bl, Bool.or_false, Bool.or_true, Bool.true_or, Bool.false_or, check_device_eq, mended_device_eq, take_self]
theorem mending_eq (d : Dv) {S : Sto} : m_mending [.tup d.p] S = .ok (.tup d.wr) S := by
  refine eqn ?_
  unfold m_mending b_mending
  simp only [wp_ok, wp_no, ↓wp_bind, ↓R.bind_ok, ↓sSeq, ↓sNil, ↓sSet, ↓sAsg, ↓sIf, ↓sRet, ↓sExpr, ↓sPar, ↓sPar3, ↓sFor, ↓nName, ↓nTup, ↓nCons, ↓nNil, ↓nNs, ↓eVar, ↓eC, ↓eOp, ↓eUn, ↓eArgs, ↓eNew, ↓aCons, ↓aNil, ↓tV, ↓tT, toB, truP, ↓tNotE, ↓tAndE, ↓tOrE, ↓tYesE, ↓eAndV, ↓eOrV, ↓eNotV, ↓eNotT, ↓eIf, gAdd_int, gAdd_tup, Py.gSub, gMul_l, gMul_r, gMod, gFdiv, gNeg, gLt, gLe, gGt, gGe, gInt, gIx, gEq_int, gEq_str, gEq_bl, gNe_int, gNe_str, gNe_bl, gIsN, gNotN, getQ, getL, gSetL, ↓nSubL, gDivmod, gMin2, gMax2, ↓mkDef, ↓mkNew, startP, finF, finO, finV_tup, finV_int, finV_bl, finV_lst, finV_non, finV_str, finV_ref, ↓eChain, tyP, gIsi, isiB, ↓iArgs, ↓iSeq, iterP, ↓fComp, wipeP, ↓eSl, ↓oNone, ↓oSome, gSl, ↓eMeth0, ↓eMeth1, ixN, atI0, atI1, atI2, atI3, List.length_cons, List.length_nil, List.map_cons, List.map_nil, List.replicate, List.cons_append, List.nil_append, List.append_nil, List.getElem?_cons_zero, List.getElem?_cons_succ, List.getElem?_nil, List.set_cons_zero, List.set_cons_succ, List.set_nil, List.length_set, List.length_append, Nat.add_sub_cancel, Nat.reduceAdd, Nat.reduceSub, Nat.reduceLT, Nat.reduceEqDiff, Nat.reduceLeDiff, Nat.le_refl, Nat.zero_le, if_true, if_false, ↓reduceIte, decide_eq_true_eq, Bool.false_eq_true, Bool.true_eq_false, Bool.not_true, Bool.not_false, Option.isSome_some, forall_const, not_true_eq_false, not_false_eq_true, imp_self, false_implies, true_implies, implies_true, and_true, true_and, Int.toNat_zero, Nat.zero_add, Int.reduceLE, Int.reduceLT, Int.reduceNeg, Int.reduceToNat, Int.reducePow, Int.reduceGT, Int.cast_ofNat_Int, true_or, or_true, Int.ofNat_eq_natCast, decide_true, decide_false, Int.reduceEq, List.isEmpty_cons, List.isEmpty_nil, eDGet1,  keyP, Option.map_some, Option.map_none, Option.getD_some, Option.isSome_some, reduceCtorEq, and_self,  allPure_nil, allPure_cons, Bool.and_true, Bool.true_and, Bool.false_and, Bool.and_false, Bool.not_eq_true, Bool.not_eq_false, gTupP_nil, gLstP_nil, gTupP_ok, gLstP_ok, isRef_tup, isRef_int, isRef_str, isRef_bl, Bool.or_false, Bool.or_true, Bool.true_or, Bool.false_or, check_device_eq, wr_eq, take_self]
theorem truP_tup {xs : List PV} {S : Sto} : truP (.tup xs) S = .ok (!xs.isEmpty) S := rfl
theorem is_mended_eq (d : Dv) {S : Sto} : m_is_mended [.tup d.p] S = .ok (.bl d.wr.isEmpty) S := by
  refine eqn ?_
  unfold m_is_mended b_is_mended
  simp only [wp_ok, wp_no, ↓wp_bind, ↓R.bind_ok, ↓sSeq, ↓sNil, ↓sSet, ↓sAsg, ↓sIf, ↓sRet, ↓sExpr, ↓sPar, ↓sPar3, ↓sFor, ↓nName, ↓nTup, ↓nCons, ↓nNil, ↓nNs, ↓eVar, ↓eC, ↓eOp, ↓eUn, ↓eArgs, ↓eNew, ↓aCons, ↓aNil, ↓tV, ↓tT, toB, truP, ↓tNotE, ↓tAndE, ↓tOrE, ↓tYesE, ↓eAndV, ↓eOrV, ↓eNotV, ↓eNotT, ↓eIf, gAdd_int, gAdd_tup, Py.gSub, gMul_l, gMul_r, gMod, gFdiv, gNeg, gLt, gLe, gGt, gGe, gInt, gIx, gEq_int, gEq_str, gEq_bl, gNe_int, gNe_str, gNe_bl, gIsN, gNotN, getQ, getL, gSetL, ↓nSubL, gDivmod, gMin2, gMax2, ↓mkDef, ↓mkNew, startP, finF, finO, finV_tup, finV_int, finV_bl, finV_lst, finV_non, finV_str, finV_ref, ↓eChain, tyP, gIsi, isiB, ↓iArgs, ↓iSeq, iterP, ↓fComp, wipeP, ↓eSl, ↓oNone, ↓oSome, gSl, ↓eMeth0, ↓eMeth1, ixN, atI0, atI1, atI2, atI3, List.length_cons, List.length_nil, List.map_cons, List.map_nil, List.replicate, List.cons_append, List.nil_append, List.append_nil, List.getElem?_cons_zero, List.getElem?_cons_succ, List.getElem?_nil, List.set_cons_zero, List.set_cons_succ, List.set_nil, List.length_set, List.length_append, Nat.add_sub_cancel, Nat.reduceAdd, Nat.reduceSub, Nat.reduceLT, Nat.reduceEqDiff, Nat.reduceLeDiff, Nat.le_refl, Nat.zero_le, if_true, if_false, ↓reduceIte, decide_eq_true_eq, Bool.false_eq_true, Bool.true_eq_false, Bool.not_true, Bool.not_false, Option.isSome_some, forall_const, not_true_eq_false, not_false_eq_true, imp_self, false_implies, true_implies, implies_true, and_true, true_and, Int.toNat_zero, Nat.zero_add, Int.reduceLE, Int.reduceLT, Int.reduceNeg, Int.reduceToNat, Int.reducePow, Int.reduceGT, Int.cast_ofNat_Int, true_or, or_true, Int.ofNat_eq_natCast, decide_true, decide_false, Int.reduceEq, List.isEmpty_cons, List.isEmpty_nil, eDGet1,  keyP, Option.map_some, Option.map_none, Option.getD_some, Option.isSome_some, reduceCtorEq, and_self,  allPure_nil, allPure_cons, Bool.and_true, Bool.true_and, Bool.false_and, Bool.and_false, Bool.not_eq_true, Bool.not_eq_false, gTupP_nil, gLstP_nil, gTupP_ok, gLstP_ok, isRef_tup, isRef_int, isRef_str, isRef_bl, Bool.or_false, Bool.or_true, Bool.true_or, Bool.false_or, check_device_eq, wr_eq, truP_tup, take_self, Bool.not_not]
end G80
set_option Elab.async false
set_option maxRecDepth 100000
set_option maxHeartbeats 1000000
set_option linter.all false
namespace G80
open PySem PySem.Spec PyProof.Rows L2 Py

/-! ### the same -/
inductive Dt : Nat → PV → Prop
  | int {k : Nat} {i : Int} : Dt (k + 1) (.int i)
  | bl {k : Nat} {x : Bool} : Dt (k + 1) (.bl x)
  | non {k : Nat} : Dt (k + 1) .non
  | tup {k : Nat} {xs : List PV} : (∀ x ∈ xs, Dt k x) → xs.length ≤ 1000 → Dt (k + 1) (.tup xs)
theorem compF_gen {α : Type} {g : Eg} {f : Ev} {ρ : Py.Env} {S : Sto} {ι φ : α → PV} : ∀ (xs : List α) (acc : List PV), (∀ x ∈ xs, ∃ ρ1, g (ι x) ρ S = .ok ρ1 S ∧ f ρ1 S = .ok (φ x) S ∧ (φ x).isRef = false) → acc.length + xs.length ≤ 5000 →
    compF g tYesE f ρ (xs.map ι) acc S = .ok (.lst (acc ++ xs.map φ)) S
  | [], acc, _, _ => by simp [compF]
  | p :: ps, acc, h, hl => by
    obtain ⟨ρ1, h0, h1, h2⟩ := h p (by simp)
    have hl' : acc.length < sizeLine := by have := size_1000 (n := acc.length + 1) (by simp at hl; omega); omega
    have h3 : (φ p).isRef = false ∧ acc.length < sizeLine := ⟨h2, hl'⟩
    simp only [List.map_cons, compF, R.bind_ok, tYesE, if_true, h0, h1, if_pos h3]
    have := compF_gen ps (acc ++ [φ p]) (fun q hq => h q (by simp [hq])) (by simp at hl ⊢; omega)
    simpa [tYesE] using this
theorem compF_gen0 {α : Type} {g : Eg} {f : Ev} {ρ : Py.Env} {S : Sto} {ι φ : α → PV} (xs : List α) (h : ∀ x ∈ xs, ∃ ρ1, g (ι x) ρ S = .ok ρ1 S ∧ f ρ1 S = .ok (φ x) S ∧ (φ x).isRef = false) (hl : xs.length ≤ 5000) :
    compF g tYesE f ρ (xs.map ι) [] S = .ok (.lst (xs.map φ)) S := by
  have := compF_gen xs [] h (by simpa using hl)
  simpa using this
theorem blsOf_true {α : Type} : ∀ (n : List α), blsOf (n.map fun _ => PV.bl true) = some (n.map fun _ => true)
  | [] => rfl
  | x :: n => by rw [List.map_cons, blsOf, blsOf_true n]; rfl
theorem gAll_trueA {α : Type} {xs : List α} {S : Sto} : gAll [.lst (xs.map fun _ => PV.bl true)] S = .ok (.bl true) S := by
  show (match (some (xs.map fun _ => PV.bl true)).bind blsOf with | some ns => R.ok (PV.bl (ns.all id)) S | none => .no) = _
  rw [show (some (xs.map fun _ => PV.bl true)).bind blsOf = some (xs.map fun _ => true) from blsOf_true xs]
  simp
theorem zip_self : ∀ xs : List PV, zipP xs xs = xs.map fun x => .tup [x, x]
  | [] => rfl
  | x :: xs => by rw [zipP, zip_self xs]; rfl
theorem wipe2 {a b : Nat} {ρ : Py.Env} : wipeP ρ [a, b] = (ρ.set b none).set a none := rfl
theorem same_eq : ∀ (k : Nat) (p : PV) (S : Sto), Dt k p → m__law_same k [p, p] S = .ok (.bl true) S
  | 0, p, S, h => by cases h
  | k + 1, p, S, h => by
    refine eqn ?_
    rw [m__law_same]
    unfold b__law_same
    cases h with
    | @int _ i => simp only [wp_ok, wp_no, ↓wp_bind, ↓R.bind_ok, ↓sSeq, ↓sNil, ↓sSet, ↓sAsg, ↓sIf, ↓sRet, ↓sExpr, ↓sPar, ↓sPar3, ↓sFor, ↓nName, ↓nTup, ↓nCons, ↓nNil, ↓nNs, ↓eVar, ↓eC, ↓eOp, ↓eUn, ↓eArgs, ↓eNew, ↓aCons, ↓aNil, ↓tV, ↓tT, toB, truP, ↓tNotE, ↓tAndE, ↓tOrE, ↓tYesE, ↓eAndV, ↓eOrV, ↓eNotV, ↓eNotT, ↓eIf, gAdd_int, gAdd_tup, Py.gSub, gMul_l, gMul_r, gMod, gFdiv, gNeg, gLt, gLe, gGt, gGe, gInt, gIx, gEq_int, gEq_str, gEq_bl, gNe_int, gNe_str, gNe_bl, gIsN, gNotN, getQ, getL, gSetL, ↓nSubL, gDivmod, gMin2, gMax2, ↓mkDef, ↓mkNew, startP, finF, finO, finV_tup, finV_int, finV_bl, finV_lst, finV_non, finV_str, finV_ref, ↓eChain, tyP, gIsi, isiB, ↓iArgs, ↓iSeq, iterP, ↓fComp, wipeP, ↓eSl, ↓oNone, ↓oSome, gSl, ↓eMeth0, ↓eMeth1, ixN, atI0, atI1, atI2, atI3, List.length_cons, List.length_nil, List.map_cons, List.map_nil, List.replicate, List.cons_append, List.nil_append, List.append_nil, List.getElem?_cons_zero, List.getElem?_cons_succ, List.getElem?_nil, List.set_cons_zero, List.set_cons_succ, List.set_nil, List.length_set, List.length_append, Nat.add_sub_cancel, Nat.reduceAdd, Nat.reduceSub, Nat.reduceLT, Nat.reduceEqDiff, Nat.reduceLeDiff, Nat.le_refl, Nat.zero_le, if_true, if_false, ↓reduceIte, decide_eq_true_eq, Bool.false_eq_true, Bool.true_eq_false, Bool.not_true, Bool.not_false, Option.isSome_some, forall_const, not_true_eq_false, not_false_eq_true, imp_self, false_implies, true_implies, implies_true, and_true, true_and, Int.toNat_zero, Nat.zero_add, Int.reduceLE, Int.reduceLT, Int.reduceNeg, Int.reduceToNat, Int.reducePow, Int.reduceGT, Int.cast_ofNat_Int, true_or, or_true, Int.ofNat_eq_natCast, decide_true, decide_false, Int.reduceEq, List.isEmpty_cons, List.isEmpty_nil, eDGet1,  keyP, Option.map_some, Option.map_none, Option.getD_some, Option.isSome_some, reduceCtorEq, and_self,  allPure_nil, allPure_cons, Bool.and_true, Bool.true_and, Bool.false_and, Bool.and_false, Bool.not_eq_true, Bool.not_eq_false, gTupP_nil, gLstP_nil, gTupP_ok, gLstP_ok, isRef_tup, isRef_int, isRef_str, isRef_bl, Bool.or_false, Bool.or_true, Bool.true_or, Bool.false_or, take_self, gIsN_int, law_is_whole_eq]
    | @bl _ x => simp only [wp_ok, wp_no, ↓wp_bind, ↓R.bind_ok, ↓sSeq, ↓sNil, ↓sSet, ↓sAsg, ↓sIf, ↓sRet, ↓sExpr, ↓sPar, ↓sPar3, ↓sFor, ↓nName, ↓nTup, ↓nCons, ↓nNil, ↓nNs, ↓eVar, ↓eC, ↓eOp, ↓eUn, ↓eArgs, ↓eNew, ↓aCons, ↓aNil, ↓tV, ↓tT, toB, truP, ↓tNotE, ↓tAndE, ↓tOrE, ↓tYesE, ↓eAndV, ↓eOrV, ↓eNotV, ↓eNotT, ↓eIf, gAdd_int, gAdd_tup, Py.gSub, gMul_l, gMul_r, gMod, gFdiv, gNeg, gLt, gLe, gGt, gGe, gInt, gIx, gEq_int, gEq_str, gEq_bl, gNe_int, gNe_str, gNe_bl, gIsN, gNotN, getQ, getL, gSetL, ↓nSubL, gDivmod, gMin2, gMax2, ↓mkDef, ↓mkNew, startP, finF, finO, finV_tup, finV_int, finV_bl, finV_lst, finV_non, finV_str, finV_ref, ↓eChain, tyP, gIsi, isiB, ↓iArgs, ↓iSeq, iterP, ↓fComp, wipeP, ↓eSl, ↓oNone, ↓oSome, gSl, ↓eMeth0, ↓eMeth1, ixN, atI0, atI1, atI2, atI3, List.length_cons, List.length_nil, List.map_cons, List.map_nil, List.replicate, List.cons_append, List.nil_append, List.append_nil, List.getElem?_cons_zero, List.getElem?_cons_succ, List.getElem?_nil, List.set_cons_zero, List.set_cons_succ, List.set_nil, List.length_set, List.length_append, Nat.add_sub_cancel, Nat.reduceAdd, Nat.reduceSub, Nat.reduceLT, Nat.reduceEqDiff, Nat.reduceLeDiff, Nat.le_refl, Nat.zero_le, if_true, if_false, ↓reduceIte, decide_eq_true_eq, Bool.false_eq_true, Bool.true_eq_false, Bool.not_true, Bool.not_false, Option.isSome_some, forall_const, not_true_eq_false, not_false_eq_true, imp_self, false_implies, true_implies, implies_true, and_true, true_and, Int.toNat_zero, Nat.zero_add, Int.reduceLE, Int.reduceLT, Int.reduceNeg, Int.reduceToNat, Int.reducePow, Int.reduceGT, Int.cast_ofNat_Int, true_or, or_true, Int.ofNat_eq_natCast, decide_true, decide_false, Int.reduceEq, List.isEmpty_cons, List.isEmpty_nil, eDGet1,  keyP, Option.map_some, Option.map_none, Option.getD_some, Option.isSome_some, reduceCtorEq, and_self,  allPure_nil, allPure_cons, Bool.and_true, Bool.true_and, Bool.false_and, Bool.and_false, Bool.not_eq_true, Bool.not_eq_false, gTupP_nil, gLstP_nil, gTupP_ok, gLstP_ok, isRef_tup, isRef_int, isRef_str, isRef_bl, Bool.or_false, Bool.or_true, Bool.true_or, Bool.false_or, take_self, show gIsN (.bl x) .non S = .ok (.bl false) S from rfl]
    | non => simp only [wp_ok, wp_no, ↓wp_bind, ↓R.bind_ok, ↓sSeq, ↓sNil, ↓sSet, ↓sAsg, ↓sIf, ↓sRet, ↓sExpr, ↓sPar, ↓sPar3, ↓sFor, ↓nName, ↓nTup, ↓nCons, ↓nNil, ↓nNs, ↓eVar, ↓eC, ↓eOp, ↓eUn, ↓eArgs, ↓eNew, ↓aCons, ↓aNil, ↓tV, ↓tT, toB, truP, ↓tNotE, ↓tAndE, ↓tOrE, ↓tYesE, ↓eAndV, ↓eOrV, ↓eNotV, ↓eNotT, ↓eIf, gAdd_int, gAdd_tup, Py.gSub, gMul_l, gMul_r, gMod, gFdiv, gNeg, gLt, gLe, gGt, gGe, gInt, gIx, gEq_int, gEq_str, gEq_bl, gNe_int, gNe_str, gNe_bl, gIsN, gNotN, getQ, getL, gSetL, ↓nSubL, gDivmod, gMin2, gMax2, ↓mkDef, ↓mkNew, startP, finF, finO, finV_tup, finV_int, finV_bl, finV_lst, finV_non, finV_str, finV_ref, ↓eChain, tyP, gIsi, isiB, ↓iArgs, ↓iSeq, iterP, ↓fComp, wipeP, ↓eSl, ↓oNone, ↓oSome, gSl, ↓eMeth0, ↓eMeth1, ixN, atI0, atI1, atI2, atI3, List.length_cons, List.length_nil, List.map_cons, List.map_nil, List.replicate, List.cons_append, List.nil_append, List.append_nil, List.getElem?_cons_zero, List.getElem?_cons_succ, List.getElem?_nil, List.set_cons_zero, List.set_cons_succ, List.set_nil, List.length_set, List.length_append, Nat.add_sub_cancel, Nat.reduceAdd, Nat.reduceSub, Nat.reduceLT, Nat.reduceEqDiff, Nat.reduceLeDiff, Nat.le_refl, Nat.zero_le, if_true, if_false, ↓reduceIte, decide_eq_true_eq, Bool.false_eq_true, Bool.true_eq_false, Bool.not_true, Bool.not_false, Option.isSome_some, forall_const, not_true_eq_false, not_false_eq_true, imp_self, false_implies, true_implies, implies_true, and_true, true_and, Int.toNat_zero, Nat.zero_add, Int.reduceLE, Int.reduceLT, Int.reduceNeg, Int.reduceToNat, Int.reducePow, Int.reduceGT, Int.cast_ofNat_Int, true_or, or_true, Int.ofNat_eq_natCast, decide_true, decide_false, Int.reduceEq, List.isEmpty_cons, List.isEmpty_nil, eDGet1,  keyP, Option.map_some, Option.map_none, Option.getD_some, Option.isSome_some, reduceCtorEq, and_self,  allPure_nil, allPure_cons, Bool.and_true, Bool.true_and, Bool.false_and, Bool.and_false, Bool.not_eq_true, Bool.not_eq_false, gTupP_nil, gLstP_nil, gTupP_ok, gLstP_ok, isRef_tup, isRef_int, isRef_str, isRef_bl, Bool.or_false, Bool.or_true, Bool.true_or, Bool.false_or, take_self, gIsN_non]
    | @tup _ xs hx hl =>
      have e1 : compF (nTup 2 (nCons (nName 2) (nCons (nName 3) nNil))) tYesE (eArgs (m__law_same k) (aCons (eVar 2) (aCons (eVar 3) aNil))) [some (.tup xs), some (.tup xs), none, none] (zipP xs xs) [] S = .ok (.lst (xs.map fun _ => .bl true)) S := by
        rw [zip_self]
        refine compF_gen0 _ (fun x hq => ⟨[some (.tup xs), some (.tup xs), some x, some x], rfl, ?_, rfl⟩) (by omega)
        refine eqn ?_
        simp only [wp_ok, wp_no, ↓wp_bind, ↓R.bind_ok, ↓sSeq, ↓sNil, ↓sSet, ↓sAsg, ↓sIf, ↓sRet, ↓sExpr, ↓sPar, ↓sPar3, ↓sFor, ↓nName, ↓nTup, ↓nCons, ↓nNil, ↓nNs, ↓eVar, ↓eC, ↓eOp, ↓eUn, ↓eArgs, ↓eNew, ↓aCons, ↓aNil, ↓tV, ↓tT, toB, truP, ↓tNotE, ↓tAndE, ↓tOrE, ↓tYesE, ↓eAndV, ↓eOrV, ↓eNotV, ↓eNotT, ↓eIf, gAdd_int, gAdd_tup, Py.gSub, gMul_l, gMul_r, gMod, gFdiv, gNeg, gLt, gLe, gGt, gGe, gInt, gIx, gEq_int, gEq_str, gEq_bl, gNe_int, gNe_str, gNe_bl, gIsN, gNotN, getQ, getL, gSetL, ↓nSubL, gDivmod, gMin2, gMax2, ↓mkDef, ↓mkNew, startP, finF, finO, finV_tup, finV_int, finV_bl, finV_lst, finV_non, finV_str, finV_ref, ↓eChain, tyP, gIsi, isiB, ↓iArgs, ↓iSeq, iterP, ↓fComp, wipeP, ↓eSl, ↓oNone, ↓oSome, gSl, ↓eMeth0, ↓eMeth1, ixN, atI0, atI1, atI2, atI3, List.length_cons, List.length_nil, List.map_cons, List.map_nil, List.replicate, List.cons_append, List.nil_append, List.append_nil, List.getElem?_cons_zero, List.getElem?_cons_succ, List.getElem?_nil, List.set_cons_zero, List.set_cons_succ, List.set_nil, List.length_set, List.length_append, Nat.add_sub_cancel, Nat.reduceAdd, Nat.reduceSub, Nat.reduceLT, Nat.reduceEqDiff, Nat.reduceLeDiff, Nat.le_refl, Nat.zero_le, if_true, if_false, ↓reduceIte, decide_eq_true_eq, Bool.false_eq_true, Bool.true_eq_false, Bool.not_true, Bool.not_false, Option.isSome_some, forall_const, not_true_eq_false, not_false_eq_true, imp_self, false_implies, true_implies, implies_true, and_true, true_and, Int.toNat_zero, Nat.zero_add, Int.reduceLE, Int.reduceLT, Int.reduceNeg, Int.reduceToNat, Int.reducePow, Int.reduceGT, Int.cast_ofNat_Int, true_or, or_true, Int.ofNat_eq_natCast, decide_true, decide_false, Int.reduceEq, List.isEmpty_cons, List.isEmpty_nil, eDGet1,  keyP, Option.map_some, Option.map_none, Option.getD_some, Option.isSome_some, reduceCtorEq, and_self,  allPure_nil, allPure_cons, Bool.and_true, Bool.true_and, Bool.false_and, Bool.and_false, Bool.not_eq_true, Bool.not_eq_false, gTupP_nil, gLstP_nil, gTupP_ok, gLstP_ok, isRef_tup, isRef_int, isRef_str, isRef_bl, Bool.or_false, Bool.or_true, Bool.true_or, Bool.false_or, same_eq k x S (hx x hq)]
      have gz : gZip [.tup xs, .tup xs] S = .ok (zipP xs xs) S := rfl
      simp only [wp_ok, wp_no, ↓wp_bind, ↓R.bind_ok, ↓sSeq, ↓sNil, ↓sSet, ↓sAsg, ↓sIf, ↓sRet, ↓sExpr, ↓sPar, ↓sPar3, ↓sFor, ↓nName, ↓nTup, ↓nCons, ↓nNil, ↓nNs, ↓eVar, ↓eC, ↓eOp, ↓eUn, ↓eArgs, ↓eNew, ↓aCons, ↓aNil, ↓tV, ↓tT, toB, truP, ↓tNotE, ↓tAndE, ↓tOrE, ↓tYesE, ↓eAndV, ↓eOrV, ↓eNotV, ↓eNotT, ↓eIf, gAdd_int, gAdd_tup, Py.gSub, gMul_l, gMul_r, gMod, gFdiv, gNeg, gLt, gLe, gGt, gGe, gInt, gIx, gEq_int, gEq_str, gEq_bl, gNe_int, gNe_str, gNe_bl, gIsN, gNotN, getQ, getL, gSetL, ↓nSubL, gDivmod, gMin2, gMax2, ↓mkDef, ↓mkNew, startP, finF, finO, finV_tup, finV_int, finV_bl, finV_lst, finV_non, finV_str, finV_ref, ↓eChain, tyP, gIsi, isiB, ↓iArgs, ↓iSeq, iterP, ↓fComp, wipeP, ↓eSl, ↓oNone, ↓oSome, gSl, ↓eMeth0, ↓eMeth1, ixN, atI0, atI1, atI2, atI3, List.length_cons, List.length_nil, List.map_cons, List.map_nil, List.replicate, List.cons_append, List.nil_append, List.append_nil, List.getElem?_cons_zero, List.getElem?_cons_succ, List.getElem?_nil, List.set_cons_zero, List.set_cons_succ, List.set_nil, List.length_set, List.length_append, Nat.add_sub_cancel, Nat.reduceAdd, Nat.reduceSub, Nat.reduceLT, Nat.reduceEqDiff, Nat.reduceLeDiff, Nat.le_refl, Nat.zero_le, if_true, if_false, ↓reduceIte, decide_eq_true_eq, Bool.false_eq_true, Bool.true_eq_false, Bool.not_true, Bool.not_false, Option.isSome_some, forall_const, not_true_eq_false, not_false_eq_true, imp_self, false_implies, true_implies, implies_true, and_true, true_and, Int.toNat_zero, Nat.zero_add, Int.reduceLE, Int.reduceLT, Int.reduceNeg, Int.reduceToNat, Int.reducePow, Int.reduceGT, Int.cast_ofNat_Int, true_or, or_true, Int.ofNat_eq_natCast, decide_true, decide_false, Int.reduceEq, List.isEmpty_cons, List.isEmpty_nil, eDGet1,  keyP, Option.map_some, Option.map_none, Option.getD_some, Option.isSome_some, reduceCtorEq, and_self,  allPure_nil, allPure_cons, Bool.and_true, Bool.true_and, Bool.false_and, Bool.and_false, Bool.not_eq_true, Bool.not_eq_false, gTupP_nil, gLstP_nil, gTupP_ok, gLstP_ok, isRef_tup, isRef_int, isRef_str, isRef_bl, Bool.or_false, Bool.or_true, Bool.true_or, Bool.false_or, gLen_tup, gz, wipe2, e1, gAll_trueA, take_self]
theorem Dt_ints {k : Nat} {xs : List Int} (h : xs.length ≤ 1000) : Dt (k + 2) (.tup (ip xs)) := .tup (fun x hx => by
  obtain ⟨i, _, rfl⟩ := List.mem_map.mp hx
  exact .int) (by rw [List.length_map]; exact h)
theorem Sl.held_Dt (s : Sl) (hl : s.ws.length ≤ 32) {k : Nat} : Dt (k + 3) s.held := by
  rcases s.held_or with ⟨_, e⟩ | ⟨_, e⟩
  · rw [e]; exact .non
  · rw [e]
    refine .tup (fun x hx => ?_) (by simp)
    simp only [List.mem_cons, List.mem_nil_iff, or_false] at hx
    rcases hx with rfl | rfl
    · exact .int
    · exact Dt_ints (by simp; omega)
theorem Dv.cur_Dt (d : Dv) {k : Nat} : Dt (k + 1) d.cur := by
  unfold Dv.cur
  split
  · exact .int
  · split
    · exact .int
    · exact .non
theorem Dv.wr_len (d : Dv) : d.wr.length ≤ 2 := by
  unfold Dv.wr
  cases d.a.bad <;> cases d.b.bad <;> simp
theorem Dv.wr_Dt (d : Dv) {k : Nat} : Dt (k + 3) (.tup d.wr) := by
  refine .tup (fun x hx => ?_) (by have := d.wr_len; omega)
  have : ∃ i j : Int, x = .tup [.int i, .int j] := by
    unfold Dv.wr at hx
    rcases List.mem_append.mp hx with hx | hx
    · split at hx
      · exact ⟨_, _, List.mem_singleton.mp hx⟩
      · cases hx
    · split at hx
      · exact ⟨_, _, List.mem_singleton.mp hx⟩
      · cases hx
  obtain ⟨i, j, rfl⟩ := this
  exact Dt_ints (xs := [i, j]) (by simp)
theorem Dv.p_Dt (d : Dv) {k : Nat} : Dt (k + 2) (.tup d.p) := Dt_ints (by
  have h := d.len
  unfold Dv.p at h
  rw [List.length_map] at h
  rw [h]; have := d.m1; omega)
theorem gEq_nil (d : Dv) {S : Sto} : gEq (.tup d.wr) (.tup []) S = .ok (.bl d.wr.isEmpty) S := by
  unfold Dv.wr
  cases d.a.bad <;> cases d.b.bad <;> rfl
theorem Sl.held_ref (s : Sl) : s.held.isRef = false := by
  rcases s.held_or with ⟨_, e⟩ | ⟨_, e⟩ <;> rw [e] <;> rfl
theorem Dv.cur_ref (d : Dv) : d.cur.isRef = false := by
  unfold Dv.cur
  split
  · rfl
  · split <;> rfl
theorem is_seen_eq (d : Dv) {S : Sto} : m__law_is_seen [.tup d.p] S = .ok (.bl true) S := by
  refine eqn ?_
  unfold m__law_is_seen b__law_is_seen
  have h0 : m_held [.tup d.p, .int 0] S = .ok d.a.held S := held_eq d false
  have h1 : m_held [.tup d.p, .int 1] S = .ok d.b.held S := held_eq d true
  have g1 : gTupP [d.a.held, d.b.held, d.cur, .bl d.wr.isEmpty, .tup d.wr, .tup d.md.p] S = .ok (.tup [d.a.held, d.b.held, d.cur, .bl d.wr.isEmpty, .tup d.wr, .tup d.md.p]) S :=
    gTupP_ok (by simp only [allPure_cons, allPure_nil, Sl.held_ref, Dv.cur_ref, isRef_bl, isRef_tup]; rfl) (by simp)
  have g2 : gTupP [d.cur, .bl d.wr.isEmpty, .tup d.wr, .tup d.md.p] S = .ok (.tup [d.cur, .bl d.wr.isEmpty, .tup d.wr, .tup d.md.p]) S :=
    gTupP_ok (by simp only [allPure_cons, allPure_nil, Dv.cur_ref, isRef_bl, isRef_tup]; rfl) (by simp)
  have g3 : gAdd (.tup [d.a.held, d.b.held]) (.tup [d.cur, .bl d.wr.isEmpty, .tup d.wr, .tup d.md.p]) S = .ok (.tup [d.a.held, d.b.held, d.cur, .bl d.wr.isEmpty, .tup d.wr, .tup d.md.p]) S := gAdd_tup (by simp)
  have sm := same_eq 6 (.tup [d.a.held, d.b.held, d.cur, .bl d.wr.isEmpty, .tup d.wr, .tup d.md.p]) S (.tup (fun x hx => by
    simp only [List.mem_cons, List.mem_nil_iff, or_false] at hx
    rcases hx with rfl | rfl | rfl | rfl | rfl | rfl
    · exact d.a.held_Dt (by rw [d.la]; exact d.m1)
    · exact d.b.held_Dt (by rw [d.lb]; exact d.m1)
    · exact d.cur_Dt
    · exact .bl
    · exact d.wr_Dt
    · exact d.md.p_Dt) (by simp))
  have gn : ∀ S : Sto, gTupP [] S = .ok (.tup []) S := fun S => gTupP_nil
  simp only [wp_ok, wp_no, ↓wp_bind, ↓R.bind_ok, ↓sSeq, ↓sNil, ↓sSet, ↓sAsg, ↓sIf, ↓sRet, ↓sExpr, ↓sPar, ↓sPar3, ↓sFor, ↓nName, ↓nTup, ↓nCons, ↓nNil, ↓nNs, ↓eVar, ↓eC, ↓eOp, ↓eUn, ↓eArgs, ↓eNew, ↓aCons, ↓aNil, ↓tV, ↓tT, toB, truP, ↓tNotE, ↓tAndE, ↓tOrE, ↓tYesE, ↓eAndV, ↓eOrV, ↓eNotV, ↓eNotT, ↓eIf, gAdd_int, gAdd_tup, Py.gSub, gMul_l, gMul_r, gMod, gFdiv, gNeg, gLt, gLe, gGt, gGe, gInt, gIx, gEq_int, gEq_str, gEq_bl, gNe_int, gNe_str, gNe_bl, gIsN, gNotN, getQ, getL, gSetL, ↓nSubL, gDivmod, gMin2, gMax2, ↓mkDef, ↓mkNew, startP, finF, finO, finV_tup, finV_int, finV_bl, finV_lst, finV_non, finV_str, finV_ref, ↓eChain, tyP, gIsi, isiB, ↓iArgs, ↓iSeq, iterP, ↓fComp, wipeP, ↓eSl, ↓oNone, ↓oSome, gSl, ↓eMeth0, ↓eMeth1, ixN, atI0, atI1, atI2, atI3, List.length_cons, List.length_nil, List.map_cons, List.map_nil, List.replicate, List.cons_append, List.nil_append, List.append_nil, List.getElem?_cons_zero, List.getElem?_cons_succ, List.getElem?_nil, List.set_cons_zero, List.set_cons_succ, List.set_nil, List.length_set, List.length_append, Nat.add_sub_cancel, Nat.reduceAdd, Nat.reduceSub, Nat.reduceLT, Nat.reduceEqDiff, Nat.reduceLeDiff, Nat.le_refl, Nat.zero_le, if_true, if_false, ↓reduceIte, decide_eq_true_eq, Bool.false_eq_true, Bool.true_eq_false, Bool.not_true, Bool.not_false, Option.isSome_some, forall_const, not_true_eq_false, not_false_eq_true, imp_self, false_implies, true_implies, implies_true, and_true, true_and, Int.toNat_zero, Nat.zero_add, Int.reduceLE, Int.reduceLT, Int.reduceNeg, Int.reduceToNat, Int.reducePow, Int.reduceGT, Int.cast_ofNat_Int, true_or, or_true, Int.ofNat_eq_natCast, decide_true, decide_false, Int.reduceEq, List.isEmpty_cons, List.isEmpty_nil, eDGet1,  keyP, Option.map_some, Option.map_none, Option.getD_some, Option.isSome_some, reduceCtorEq, and_self,  allPure_nil, allPure_cons, Bool.and_true, Bool.true_and, Bool.false_and, Bool.and_false, Bool.not_eq_true, Bool.not_eq_false, gTupP_nil, gLstP_nil, gTupP_ok, gLstP_ok, isRef_tup, isRef_int, isRef_str, isRef_bl, Bool.or_false, Bool.or_true, Bool.true_or, Bool.false_or, law_both_eq, law_clears_eq, h0, h1, current_eq, is_mended_eq, mending_eq, mended_eq, g1, law_now_eq, gEq_nil, law_put_eq, g2, g3, sm, take_self]
end G80
set_option Elab.async false
set_option maxRecDepth 100000
set_option maxHeartbeats 1000000
set_option linter.all false
namespace G80
open PySem PySem.Spec PyProof.Rows L2 Py

/-! ### a store that has grown -/
structure Ext (n : Nat) (S S' : Sto) : Prop where
  le : S.length ≤ S'.length
  lt : n < S.length
  same : ∀ i, i < S.length → i ≠ n → S'[i]? = S[i]?
  w : Well S' n
theorem Ext.refl {n : Nat} {S : Sto} (h : Well S n) : Ext n S S := ⟨Nat.le_refl _, h.lt, fun _ _ _ => rfl, h⟩
theorem Ext.wl {n : Nat} {S S1 S2 : Sto} (h : Ext n S S1) (g : Wl n S1 S2) : Ext n S S2 :=
  ⟨by rw [g.len]; exact h.le, h.lt, fun i hi hn => by rw [g.same i hn]; exact h.same i hi hn, g.w⟩
theorem Well.app {n : Nat} {S : Sto} {x : PV} (h : Well S n) : Well (S ++ [x]) n := by
  have hl := h.lt
  obtain ⟨a, b, c, e⟩ := h
  exact ⟨a, b, c, by rw [List.getElem?_append_left hl]; exact e⟩
theorem Ext.app {n : Nat} {S S1 : Sto} {x : PV} (h : Ext n S S1) : Ext n S (S1 ++ [x]) :=
  ⟨by have := h.le; simp; omega, h.lt, fun i hi hn => by rw [List.getElem?_append_left (Nat.lt_of_lt_of_le hi h.le)]; exact h.same i hi hn, h.w.app⟩
theorem Ext.set {n m : Nat} {S S1 : Sto} {x : PV} (h : Ext n S S1) (hm : S.length ≤ m) : Ext n S (S1.set m x) :=
  ⟨by have := h.le; simp; omega, h.lt, fun i hi hn => by rw [List.getElem?_set_ne (by omega)]; exact h.same i hi hn, by
    obtain ⟨a, b, c, e⟩ := h.w
    exact ⟨a, b, c, by rw [List.getElem?_set_ne (by have := h.lt; omega)]; exact e⟩⟩
theorem Ext.take {n : Nat} {S S1 : Sto} (h : Ext n S S1) : Wl n S (S1.take S.length) := by
  have le := h.le
  refine ⟨by simp; omega, fun i hi => ?_, ?_⟩
  · by_cases hl : i < S.length
    · rw [List.getElem?_take_of_lt hl]; exact h.same i hl hi
    · rw [List.getElem?_eq_none (by simp; omega), List.getElem?_eq_none (by omega)]
  · obtain ⟨a, b, c, e⟩ := h.w
    exact ⟨a, b, c, by rw [List.getElem?_take_of_lt h.lt]; exact e⟩
theorem Wl.get {n m : Nat} {S S' : Sto} (h : Wl n S S') (hm : m ≠ n) : S'[m]? = S[m]? := h.same m hm
/-! ### drawing -/
theorem pick_ok {S : Sto} {n : Nat} {xs : List PV} (hw : Well S n) (h0 : 0 < xs.length) (h1 : xs.length ≤ 1000) (hp : ∀ x ∈ xs, x.isRef = false) : WP (m__law_pick [.ref n, .tup xs] S) fun p S' => p ∈ xs ∧ Wl n S S' := by
  unfold m__law_pick b__law_pick
  simp only [wp_ok, wp_no, ↓wp_bind, ↓R.bind_ok, ↓sSeq, ↓sNil, ↓sSet, ↓sAsg, ↓sIf, ↓sRet, ↓sExpr, ↓sPar, ↓sPar3, ↓sFor, ↓nName, ↓nTup, ↓nCons, ↓nNil, ↓nNs, ↓eVar, ↓eC, ↓eOp, ↓eUn, ↓eArgs, ↓eNew, ↓aCons, ↓aNil, ↓tV, ↓tT, toB, truP, ↓tNotE, ↓tAndE, ↓tOrE, ↓tYesE, ↓eAndV, ↓eOrV, ↓eNotV, ↓eNotT, ↓eIf, gAdd_int, gAdd_tup, Py.gSub, gMul_l, gMul_r, gMod, gFdiv, gNeg, gLt, gLe, gGt, gGe, gInt, gIx, gEq_int, gEq_str, gEq_bl, gNe_int, gNe_str, gNe_bl, gIsN, gNotN, getQ, getL, gSetL, ↓nSubL, gDivmod, gMin2, gMax2, ↓mkDef, ↓mkNew, startP, finF, finO, finV_tup, finV_int, finV_bl, finV_lst, finV_non, finV_str, finV_ref, ↓eChain, tyP, gIsi, isiB, ↓iArgs, ↓iSeq, iterP, ↓fComp, wipeP, ↓eSl, ↓oNone, ↓oSome, gSl, ↓eMeth0, ↓eMeth1, ixN, atI0, atI1, atI2, atI3, List.length_cons, List.length_nil, List.map_cons, List.map_nil, List.replicate, List.cons_append, List.nil_append, List.append_nil, List.getElem?_cons_zero, List.getElem?_cons_succ, List.getElem?_nil, List.set_cons_zero, List.set_cons_succ, List.set_nil, List.length_set, List.length_append, Nat.add_sub_cancel, Nat.reduceAdd, Nat.reduceSub, Nat.reduceLT, Nat.reduceEqDiff, Nat.reduceLeDiff, Nat.le_refl, Nat.zero_le, if_true, if_false, ↓reduceIte, decide_eq_true_eq, Bool.false_eq_true, Bool.true_eq_false, Bool.not_true, Bool.not_false, Option.isSome_some, forall_const, not_true_eq_false, not_false_eq_true, imp_self, false_implies, true_implies, implies_true, and_true, true_and, Int.toNat_zero, Nat.zero_add, Int.reduceLE, Int.reduceLT, Int.reduceNeg, Int.reduceToNat, Int.reducePow, Int.reduceGT, Int.cast_ofNat_Int, true_or, or_true, Int.ofNat_eq_natCast, decide_true, decide_false, Int.reduceEq, List.isEmpty_cons, List.isEmpty_nil, eDGet1,  keyP, Option.map_some, Option.map_none, Option.getD_some, Option.isSome_some, reduceCtorEq, and_self,  allPure_nil, allPure_cons, Bool.and_true, Bool.true_and, Bool.false_and, Bool.and_false, Bool.not_eq_true, Bool.not_eq_false, gTupP_nil, gLstP_nil, gTupP_ok, gLstP_ok, isRef_tup, isRef_int, isRef_str, isRef_bl, Bool.or_false, Bool.or_true, Bool.true_or, Bool.false_or, gLen_tup]
  refine wp_of (draw_ok hw (m := (xs.length : Nat)) (by omega) (by omega)) fun p S' ⟨k, ek, k0, k1, wl⟩ => ?_
  subst ek
  obtain ⟨i, rfl⟩ : ∃ i : Nat, k = i := ⟨k.toNat, by omega⟩
  have hi : i < xs.length := by omega
  have e : atI xs (i : Int) = some xs[i] := by
    rw [atI_nat]
    exact List.getElem?_eq_getElem hi
  have hr : xs[i].isRef = false := hp _ (List.getElem_mem _)
  have fv : finV S.length xs[i] S' = .ok xs[i] (S'.take S.length) := finV_pure hr
  have gq : gIx (.tup xs) (.int (i : Nat)) S' = .ok xs[i] S' := by
    unfold gIx
    simp only [getQ, e]
  simp only [wp_ok, wp_no, ↓wp_bind, ↓R.bind_ok, ↓sSeq, ↓sNil, ↓sSet, ↓sAsg, ↓sIf, ↓sRet, ↓sExpr, ↓sPar, ↓sPar3, ↓sFor, ↓nName, ↓nTup, ↓nCons, ↓nNil, ↓nNs, ↓eVar, ↓eC, ↓eOp, ↓eUn, ↓eArgs, ↓eNew, ↓aCons, ↓aNil, ↓tV, ↓tT, toB, truP, ↓tNotE, ↓tAndE, ↓tOrE, ↓tYesE, ↓eAndV, ↓eOrV, ↓eNotV, ↓eNotT, ↓eIf, gAdd_int, gAdd_tup, Py.gSub, gMul_l, gMul_r, gMod, gFdiv, gNeg, gLt, gLe, gGt, gGe, gInt, gIx, gEq_int, gEq_str, gEq_bl, gNe_int, gNe_str, gNe_bl, gIsN, gNotN, getQ, getL, gSetL, ↓nSubL, gDivmod, gMin2, gMax2, ↓mkDef, ↓mkNew, startP, finF, finO, finV_tup, finV_int, finV_bl, finV_lst, finV_non, finV_str, finV_ref, ↓eChain, tyP, gIsi, isiB, ↓iArgs, ↓iSeq, iterP, ↓fComp, wipeP, ↓eSl, ↓oNone, ↓oSome, gSl, ↓eMeth0, ↓eMeth1, ixN, atI0, atI1, atI2, atI3, List.length_cons, List.length_nil, List.map_cons, List.map_nil, List.replicate, List.cons_append, List.nil_append, List.append_nil, List.getElem?_cons_zero, List.getElem?_cons_succ, List.getElem?_nil, List.set_cons_zero, List.set_cons_succ, List.set_nil, List.length_set, List.length_append, Nat.add_sub_cancel, Nat.reduceAdd, Nat.reduceSub, Nat.reduceLT, Nat.reduceEqDiff, Nat.reduceLeDiff, Nat.le_refl, Nat.zero_le, if_true, if_false, ↓reduceIte, decide_eq_true_eq, Bool.false_eq_true, Bool.true_eq_false, Bool.not_true, Bool.not_false, Option.isSome_some, forall_const, not_true_eq_false, not_false_eq_true, imp_self, false_implies, true_implies, implies_true, and_true, true_and, Int.toNat_zero, Nat.zero_add, Int.reduceLE, Int.reduceLT, Int.reduceNeg, Int.reduceToNat, Int.reducePow, Int.reduceGT, Int.cast_ofNat_Int, true_or, or_true, Int.ofNat_eq_natCast, decide_true, decide_false, Int.reduceEq, List.isEmpty_cons, List.isEmpty_nil, eDGet1,  keyP, Option.map_some, Option.map_none, Option.getD_some, Option.isSome_some, reduceCtorEq, and_self,  allPure_nil, allPure_cons, Bool.and_true, Bool.true_and, Bool.false_and, Bool.and_false, Bool.not_eq_true, Bool.not_eq_false, gTupP_nil, gLstP_nil, gTupP_ok, gLstP_ok, isRef_tup, isRef_int, isRef_str, isRef_bl, Bool.or_false, Bool.or_true, Bool.true_or, Bool.false_or, e, fv]
  rw [← wl.len, take_self]
  exact ⟨List.getElem_mem _, wl⟩
theorem pow12 {S : Sto} : gPow (.int 10) (.int 12) S = .ok (.int 1000000000000) S := rfl
theorem number_ok {S : Sto} {n : Nat} (hw : Well S n) : WP (m__law_number [.ref n] S) fun p S' => (∃ k : Int, p = .int k) ∧ Wl n S S' := by
  unfold m__law_number b__law_number
  simp only [wp_ok, wp_no, ↓wp_bind, ↓R.bind_ok, ↓sSeq, ↓sNil, ↓sSet, ↓sAsg, ↓sIf, ↓sRet, ↓sExpr, ↓sPar, ↓sPar3, ↓sFor, ↓nName, ↓nTup, ↓nCons, ↓nNil, ↓nNs, ↓eVar, ↓eC, ↓eOp, ↓eUn, ↓eArgs, ↓eNew, ↓aCons, ↓aNil, ↓tV, ↓tT, toB, truP, ↓tNotE, ↓tAndE, ↓tOrE, ↓tYesE, ↓eAndV, ↓eOrV, ↓eNotV, ↓eNotT, ↓eIf, gAdd_int, gAdd_tup, Py.gSub, gMul_l, gMul_r, gMod, gFdiv, gNeg, gLt, gLe, gGt, gGe, gInt, gIx, gEq_int, gEq_str, gEq_bl, gNe_int, gNe_str, gNe_bl, gIsN, gNotN, getQ, getL, gSetL, ↓nSubL, gDivmod, gMin2, gMax2, ↓mkDef, ↓mkNew, startP, finF, finO, finV_tup, finV_int, finV_bl, finV_lst, finV_non, finV_str, finV_ref, ↓eChain, tyP, gIsi, isiB, ↓iArgs, ↓iSeq, iterP, ↓fComp, wipeP, ↓eSl, ↓oNone, ↓oSome, gSl, ↓eMeth0, ↓eMeth1, ixN, atI0, atI1, atI2, atI3, List.length_cons, List.length_nil, List.map_cons, List.map_nil, List.replicate, List.cons_append, List.nil_append, List.append_nil, List.getElem?_cons_zero, List.getElem?_cons_succ, List.getElem?_nil, List.set_cons_zero, List.set_cons_succ, List.set_nil, List.length_set, List.length_append, Nat.add_sub_cancel, Nat.reduceAdd, Nat.reduceSub, Nat.reduceLT, Nat.reduceEqDiff, Nat.reduceLeDiff, Nat.le_refl, Nat.zero_le, if_true, if_false, ↓reduceIte, decide_eq_true_eq, Bool.false_eq_true, Bool.true_eq_false, Bool.not_true, Bool.not_false, Option.isSome_some, forall_const, not_true_eq_false, not_false_eq_true, imp_self, false_implies, true_implies, implies_true, and_true, true_and, Int.toNat_zero, Nat.zero_add, Int.reduceLE, Int.reduceLT, Int.reduceNeg, Int.reduceToNat, Int.reducePow, Int.reduceGT, Int.cast_ofNat_Int, true_or, or_true, Int.ofNat_eq_natCast, decide_true, decide_false, Int.reduceEq, List.isEmpty_cons, List.isEmpty_nil, eDGet1,  keyP, Option.map_some, Option.map_none, Option.getD_some, Option.isSome_some, reduceCtorEq, and_self,  allPure_nil, allPure_cons, Bool.and_true, Bool.true_and, Bool.false_and, Bool.and_false, Bool.not_eq_true, Bool.not_eq_false, gTupP_nil, gLstP_nil, gTupP_ok, gLstP_ok, isRef_tup, isRef_int, isRef_str, isRef_bl, Bool.or_false, Bool.or_true, Bool.true_or, Bool.false_or]
  refine wp_of (draw_ok hw (m := 4) (by omega) (by omega)) fun p S1 ⟨k, ek, k0, k1, wl⟩ => ?_
  subst ek
  by_cases hk : 0 < k
  · simp only [wp_ok, wp_no, ↓wp_bind, ↓R.bind_ok, ↓sSeq, ↓sNil, ↓sSet, ↓sAsg, ↓sIf, ↓sRet, ↓sExpr, ↓sPar, ↓sPar3, ↓sFor, ↓nName, ↓nTup, ↓nCons, ↓nNil, ↓nNs, ↓eVar, ↓eC, ↓eOp, ↓eUn, ↓eArgs, ↓eNew, ↓aCons, ↓aNil, ↓tV, ↓tT, toB, truP, ↓tNotE, ↓tAndE, ↓tOrE, ↓tYesE, ↓eAndV, ↓eOrV, ↓eNotV, ↓eNotT, ↓eIf, gAdd_int, gAdd_tup, Py.gSub, gMul_l, gMul_r, gMod, gFdiv, gNeg, gLt, gLe, gGt, gGe, gInt, gIx, gEq_int, gEq_str, gEq_bl, gNe_int, gNe_str, gNe_bl, gIsN, gNotN, getQ, getL, gSetL, ↓nSubL, gDivmod, gMin2, gMax2, ↓mkDef, ↓mkNew, startP, finF, finO, finV_tup, finV_int, finV_bl, finV_lst, finV_non, finV_str, finV_ref, ↓eChain, tyP, gIsi, isiB, ↓iArgs, ↓iSeq, iterP, ↓fComp, wipeP, ↓eSl, ↓oNone, ↓oSome, gSl, ↓eMeth0, ↓eMeth1, ixN, atI0, atI1, atI2, atI3, List.length_cons, List.length_nil, List.map_cons, List.map_nil, List.replicate, List.cons_append, List.nil_append, List.append_nil, List.getElem?_cons_zero, List.getElem?_cons_succ, List.getElem?_nil, List.set_cons_zero, List.set_cons_succ, List.set_nil, List.length_set, List.length_append, Nat.add_sub_cancel, Nat.reduceAdd, Nat.reduceSub, Nat.reduceLT, Nat.reduceEqDiff, Nat.reduceLeDiff, Nat.le_refl, Nat.zero_le, if_true, if_false, ↓reduceIte, decide_eq_true_eq, Bool.false_eq_true, Bool.true_eq_false, Bool.not_true, Bool.not_false, Option.isSome_some, forall_const, not_true_eq_false, not_false_eq_true, imp_self, false_implies, true_implies, implies_true, and_true, true_and, Int.toNat_zero, Nat.zero_add, Int.reduceLE, Int.reduceLT, Int.reduceNeg, Int.reduceToNat, Int.reducePow, Int.reduceGT, Int.cast_ofNat_Int, true_or, or_true, Int.ofNat_eq_natCast, decide_true, decide_false, Int.reduceEq, List.isEmpty_cons, List.isEmpty_nil, eDGet1,  keyP, Option.map_some, Option.map_none, Option.getD_some, Option.isSome_some, reduceCtorEq, and_self,  allPure_nil, allPure_cons, Bool.and_true, Bool.true_and, Bool.false_and, Bool.and_false, Bool.not_eq_true, Bool.not_eq_false, gTupP_nil, gLstP_nil, gTupP_ok, gLstP_ok, isRef_tup, isRef_int, isRef_str, isRef_bl, Bool.or_false, Bool.or_true, Bool.true_or, Bool.false_or, hk]
    refine wp_of (draw_ok wl.w (m := 9) (by omega) (by omega)) fun p S2 ⟨k2, ek, _, _, wl2⟩ => ?_
    subst ek
    simp only [wp_ok, wp_no, ↓wp_bind, ↓R.bind_ok, ↓sSeq, ↓sNil, ↓sSet, ↓sAsg, ↓sIf, ↓sRet, ↓sExpr, ↓sPar, ↓sPar3, ↓sFor, ↓nName, ↓nTup, ↓nCons, ↓nNil, ↓nNs, ↓eVar, ↓eC, ↓eOp, ↓eUn, ↓eArgs, ↓eNew, ↓aCons, ↓aNil, ↓tV, ↓tT, toB, truP, ↓tNotE, ↓tAndE, ↓tOrE, ↓tYesE, ↓eAndV, ↓eOrV, ↓eNotV, ↓eNotT, ↓eIf, gAdd_int, gAdd_tup, Py.gSub, gMul_l, gMul_r, gMod, gFdiv, gNeg, gLt, gLe, gGt, gGe, gInt, gIx, gEq_int, gEq_str, gEq_bl, gNe_int, gNe_str, gNe_bl, gIsN, gNotN, getQ, getL, gSetL, ↓nSubL, gDivmod, gMin2, gMax2, ↓mkDef, ↓mkNew, startP, finF, finO, finV_tup, finV_int, finV_bl, finV_lst, finV_non, finV_str, finV_ref, ↓eChain, tyP, gIsi, isiB, ↓iArgs, ↓iSeq, iterP, ↓fComp, wipeP, ↓eSl, ↓oNone, ↓oSome, gSl, ↓eMeth0, ↓eMeth1, ixN, atI0, atI1, atI2, atI3, List.length_cons, List.length_nil, List.map_cons, List.map_nil, List.replicate, List.cons_append, List.nil_append, List.append_nil, List.getElem?_cons_zero, List.getElem?_cons_succ, List.getElem?_nil, List.set_cons_zero, List.set_cons_succ, List.set_nil, List.length_set, List.length_append, Nat.add_sub_cancel, Nat.reduceAdd, Nat.reduceSub, Nat.reduceLT, Nat.reduceEqDiff, Nat.reduceLeDiff, Nat.le_refl, Nat.zero_le, if_true, if_false, ↓reduceIte, decide_eq_true_eq, Bool.false_eq_true, Bool.true_eq_false, Bool.not_true, Bool.not_false, Option.isSome_some, forall_const, not_true_eq_false, not_false_eq_true, imp_self, false_implies, true_implies, implies_true, and_true, true_and, Int.toNat_zero, Nat.zero_add, Int.reduceLE, Int.reduceLT, Int.reduceNeg, Int.reduceToNat, Int.reducePow, Int.reduceGT, Int.cast_ofNat_Int, true_or, or_true, Int.ofNat_eq_natCast, decide_true, decide_false, Int.reduceEq, List.isEmpty_cons, List.isEmpty_nil, eDGet1,  keyP, Option.map_some, Option.map_none, Option.getD_some, Option.isSome_some, reduceCtorEq, and_self,  allPure_nil, allPure_cons, Bool.and_true, Bool.true_and, Bool.false_and, Bool.and_false, Bool.not_eq_true, Bool.not_eq_false, gTupP_nil, gLstP_nil, gTupP_ok, gLstP_ok, isRef_tup, isRef_int, isRef_str, isRef_bl, Bool.or_false, Bool.or_true, Bool.true_or, Bool.false_or]
    have w3 := wl.trans wl2
    rw [← w3.len, take_self]
    exact ⟨⟨_, rfl⟩, w3⟩
  · simp only [wp_ok, wp_no, ↓wp_bind, ↓R.bind_ok, ↓sSeq, ↓sNil, ↓sSet, ↓sAsg, ↓sIf, ↓sRet, ↓sExpr, ↓sPar, ↓sPar3, ↓sFor, ↓nName, ↓nTup, ↓nCons, ↓nNil, ↓nNs, ↓eVar, ↓eC, ↓eOp, ↓eUn, ↓eArgs, ↓eNew, ↓aCons, ↓aNil, ↓tV, ↓tT, toB, truP, ↓tNotE, ↓tAndE, ↓tOrE, ↓tYesE, ↓eAndV, ↓eOrV, ↓eNotV, ↓eNotT, ↓eIf, gAdd_int, gAdd_tup, Py.gSub, gMul_l, gMul_r, gMod, gFdiv, gNeg, gLt, gLe, gGt, gGe, gInt, gIx, gEq_int, gEq_str, gEq_bl, gNe_int, gNe_str, gNe_bl, gIsN, gNotN, getQ, getL, gSetL, ↓nSubL, gDivmod, gMin2, gMax2, ↓mkDef, ↓mkNew, startP, finF, finO, finV_tup, finV_int, finV_bl, finV_lst, finV_non, finV_str, finV_ref, ↓eChain, tyP, gIsi, isiB, ↓iArgs, ↓iSeq, iterP, ↓fComp, wipeP, ↓eSl, ↓oNone, ↓oSome, gSl, ↓eMeth0, ↓eMeth1, ixN, atI0, atI1, atI2, atI3, List.length_cons, List.length_nil, List.map_cons, List.map_nil, List.replicate, List.cons_append, List.nil_append, List.append_nil, List.getElem?_cons_zero, List.getElem?_cons_succ, List.getElem?_nil, List.set_cons_zero, List.set_cons_succ, List.set_nil, List.length_set, List.length_append, Nat.add_sub_cancel, Nat.reduceAdd, Nat.reduceSub, Nat.reduceLT, Nat.reduceEqDiff, Nat.reduceLeDiff, Nat.le_refl, Nat.zero_le, if_true, if_false, ↓reduceIte, decide_eq_true_eq, Bool.false_eq_true, Bool.true_eq_false, Bool.not_true, Bool.not_false, Option.isSome_some, forall_const, not_true_eq_false, not_false_eq_true, imp_self, false_implies, true_implies, implies_true, and_true, true_and, Int.toNat_zero, Nat.zero_add, Int.reduceLE, Int.reduceLT, Int.reduceNeg, Int.reduceToNat, Int.reducePow, Int.reduceGT, Int.cast_ofNat_Int, true_or, or_true, Int.ofNat_eq_natCast, decide_true, decide_false, Int.reduceEq, List.isEmpty_cons, List.isEmpty_nil, eDGet1,  keyP, Option.map_some, Option.map_none, Option.getD_some, Option.isSome_some, reduceCtorEq, and_self,  allPure_nil, allPure_cons, Bool.and_true, Bool.true_and, Bool.false_and, Bool.and_false, Bool.not_eq_true, Bool.not_eq_false, gTupP_nil, gLstP_nil, gTupP_ok, gLstP_ok, isRef_tup, isRef_int, isRef_str, isRef_bl, Bool.or_false, Bool.or_true, Bool.true_or, Bool.false_or, hk, pow12]
    refine wp_of (draw_ok wl.w (m := 1000000000000) (by omega) (by omega)) fun p S2 ⟨k2, ek, _, _, wl2⟩ => ?_
    subst ek
    simp only [wp_ok, wp_no, ↓wp_bind, ↓R.bind_ok, ↓sSeq, ↓sNil, ↓sSet, ↓sAsg, ↓sIf, ↓sRet, ↓sExpr, ↓sPar, ↓sPar3, ↓sFor, ↓nName, ↓nTup, ↓nCons, ↓nNil, ↓nNs, ↓eVar, ↓eC, ↓eOp, ↓eUn, ↓eArgs, ↓eNew, ↓aCons, ↓aNil, ↓tV, ↓tT, toB, truP, ↓tNotE, ↓tAndE, ↓tOrE, ↓tYesE, ↓eAndV, ↓eOrV, ↓eNotV, ↓eNotT, ↓eIf, gAdd_int, gAdd_tup, Py.gSub, gMul_l, gMul_r, gMod, gFdiv, gNeg, gLt, gLe, gGt, gGe, gInt, gIx, gEq_int, gEq_str, gEq_bl, gNe_int, gNe_str, gNe_bl, gIsN, gNotN, getQ, getL, gSetL, ↓nSubL, gDivmod, gMin2, gMax2, ↓mkDef, ↓mkNew, startP, finF, finO, finV_tup, finV_int, finV_bl, finV_lst, finV_non, finV_str, finV_ref, ↓eChain, tyP, gIsi, isiB, ↓iArgs, ↓iSeq, iterP, ↓fComp, wipeP, ↓eSl, ↓oNone, ↓oSome, gSl, ↓eMeth0, ↓eMeth1, ixN, atI0, atI1, atI2, atI3, List.length_cons, List.length_nil, List.map_cons, List.map_nil, List.replicate, List.cons_append, List.nil_append, List.append_nil, List.getElem?_cons_zero, List.getElem?_cons_succ, List.getElem?_nil, List.set_cons_zero, List.set_cons_succ, List.set_nil, List.length_set, List.length_append, Nat.add_sub_cancel, Nat.reduceAdd, Nat.reduceSub, Nat.reduceLT, Nat.reduceEqDiff, Nat.reduceLeDiff, Nat.le_refl, Nat.zero_le, if_true, if_false, ↓reduceIte, decide_eq_true_eq, Bool.false_eq_true, Bool.true_eq_false, Bool.not_true, Bool.not_false, Option.isSome_some, forall_const, not_true_eq_false, not_false_eq_true, imp_self, false_implies, true_implies, implies_true, and_true, true_and, Int.toNat_zero, Nat.zero_add, Int.reduceLE, Int.reduceLT, Int.reduceNeg, Int.reduceToNat, Int.reducePow, Int.reduceGT, Int.cast_ofNat_Int, true_or, or_true, Int.ofNat_eq_natCast, decide_true, decide_false, Int.reduceEq, List.isEmpty_cons, List.isEmpty_nil, eDGet1,  keyP, Option.map_some, Option.map_none, Option.getD_some, Option.isSome_some, reduceCtorEq, and_self,  allPure_nil, allPure_cons, Bool.and_true, Bool.true_and, Bool.false_and, Bool.and_false, Bool.not_eq_true, Bool.not_eq_false, gTupP_nil, gLstP_nil, gTupP_ok, gLstP_ok, isRef_tup, isRef_int, isRef_str, isRef_bl, Bool.or_false, Bool.or_true, Bool.true_or, Bool.false_or]
    have w3 := wl.trans wl2
    rw [← w3.len, take_self]
    exact ⟨⟨_, rfl⟩, w3⟩
theorem gApp_eq {S : Sto} {m : Nat} {xs : List PV} {y : PV} (h : S[m]? = some (.lst xs)) (hy : y.isRef = false) (hl : xs.length < 5000) : gApp (.ref m) y S = .ok .non (S.set m (.lst (xs ++ [y]))) := by
  unfold gApp
  simp only [h]
  rw [if_pos ⟨hy, by have := size_1000 (n := xs.length + 1) (by omega); omega⟩]
theorem fill_loop {n : Nat} {S0 : Sto} {a1 b4 b5 b6 : Option PV} : ∀ (js : List PV) (xs : List Int) (S : Sto) (x3 : Option PV), Ext n S0 S → S[S0.length]? = some (.lst (ip xs)) → xs.length + js.length ≤ 100 →
    WP (forF (nName 3) (sExpr (eMeth1 gApp (eVar 2) (eArgs m__law_number (aCons (eVar 0) aNil)))) js [some (.ref n), a1, some (.ref S0.length), x3, b4, b5, b6] S) fun fl S' => ∃ (ys : List Int) (x3' : Option PV), fl = .nx [some (.ref n), a1, some (.ref S0.length), x3', b4, b5, b6] ∧ Ext n S0 S' ∧ S'[S0.length]? = some (.lst (ip ys)) ∧ ys.length = xs.length + js.length
  | [], xs, S, x3, h, e, hl => by
    rw [forF]
    simp only [wp_ok, wp_no, ↓wp_bind, ↓R.bind_ok, ↓sSeq, ↓sNil, ↓sSet, ↓sAsg, ↓sIf, ↓sRet, ↓sExpr, ↓sPar, ↓sPar3, ↓sFor, ↓nName, ↓nTup, ↓nCons, ↓nNil, ↓nNs, ↓eVar, ↓eC, ↓eOp, ↓eUn, ↓eArgs, ↓eNew, ↓aCons, ↓aNil, ↓tV, ↓tT, toB, truP, ↓tNotE, ↓tAndE, ↓tOrE, ↓tYesE, ↓eAndV, ↓eOrV, ↓eNotV, ↓eNotT, ↓eIf, gAdd_int, gAdd_tup, Py.gSub, gMul_l, gMul_r, gMod, gFdiv, gNeg, gLt, gLe, gGt, gGe, gInt, gIx, gEq_int, gEq_str, gEq_bl, gNe_int, gNe_str, gNe_bl, gIsN, gNotN, getQ, getL, gSetL, ↓nSubL, gDivmod, gMin2, gMax2, ↓mkDef, ↓mkNew, startP, finF, finO, finV_tup, finV_int, finV_bl, finV_lst, finV_non, finV_str, finV_ref, ↓eChain, tyP, gIsi, isiB, ↓iArgs, ↓iSeq, iterP, ↓fComp, wipeP, ↓eSl, ↓oNone, ↓oSome, gSl, ↓eMeth0, ↓eMeth1, ixN, atI0, atI1, atI2, atI3, List.length_cons, List.length_nil, List.map_cons, List.map_nil, List.replicate, List.cons_append, List.nil_append, List.append_nil, List.getElem?_cons_zero, List.getElem?_cons_succ, List.getElem?_nil, List.set_cons_zero, List.set_cons_succ, List.set_nil, List.length_set, List.length_append, Nat.add_sub_cancel, Nat.reduceAdd, Nat.reduceSub, Nat.reduceLT, Nat.reduceEqDiff, Nat.reduceLeDiff, Nat.le_refl, Nat.zero_le, if_true, if_false, ↓reduceIte, decide_eq_true_eq, Bool.false_eq_true, Bool.true_eq_false, Bool.not_true, Bool.not_false, Option.isSome_some, forall_const, not_true_eq_false, not_false_eq_true, imp_self, false_implies, true_implies, implies_true, and_true, true_and, Int.toNat_zero, Nat.zero_add, Int.reduceLE, Int.reduceLT, Int.reduceNeg, Int.reduceToNat, Int.reducePow, Int.reduceGT, Int.cast_ofNat_Int, true_or, or_true, Int.ofNat_eq_natCast, decide_true, decide_false, Int.reduceEq, List.isEmpty_cons, List.isEmpty_nil, eDGet1,  keyP, Option.map_some, Option.map_none, Option.getD_some, Option.isSome_some, reduceCtorEq, and_self,  allPure_nil, allPure_cons, Bool.and_true, Bool.true_and, Bool.false_and, Bool.and_false, Bool.not_eq_true, Bool.not_eq_false, gTupP_nil, gLstP_nil, gTupP_ok, gLstP_ok, isRef_tup, isRef_int, isRef_str, isRef_bl, Bool.or_false, Bool.or_true, Bool.true_or, Bool.false_or]
    exact ⟨xs, x3, rfl, h, e, rfl⟩
  | j :: js, xs, S, x3, h, e, hl => by
    rw [forF]
    have il := isLst_of e
    simp only [wp_ok, wp_no, ↓wp_bind, ↓R.bind_ok, ↓sSeq, ↓sNil, ↓sSet, ↓sAsg, ↓sIf, ↓sRet, ↓sExpr, ↓sPar, ↓sPar3, ↓sFor, ↓nName, ↓nTup, ↓nCons, ↓nNil, ↓nNs, ↓eVar, ↓eC, ↓eOp, ↓eUn, ↓eArgs, ↓eNew, ↓aCons, ↓aNil, ↓tV, ↓tT, toB, truP, ↓tNotE, ↓tAndE, ↓tOrE, ↓tYesE, ↓eAndV, ↓eOrV, ↓eNotV, ↓eNotT, ↓eIf, gAdd_int, gAdd_tup, Py.gSub, gMul_l, gMul_r, gMod, gFdiv, gNeg, gLt, gLe, gGt, gGe, gInt, gIx, gEq_int, gEq_str, gEq_bl, gNe_int, gNe_str, gNe_bl, gIsN, gNotN, getQ, getL, gSetL, ↓nSubL, gDivmod, gMin2, gMax2, ↓mkDef, ↓mkNew, startP, finF, finO, finV_tup, finV_int, finV_bl, finV_lst, finV_non, finV_str, finV_ref, ↓eChain, tyP, gIsi, isiB, ↓iArgs, ↓iSeq, iterP, ↓fComp, wipeP, ↓eSl, ↓oNone, ↓oSome, gSl, ↓eMeth0, ↓eMeth1, ixN, atI0, atI1, atI2, atI3, List.length_cons, List.length_nil, List.map_cons, List.map_nil, List.replicate, List.cons_append, List.nil_append, List.append_nil, List.getElem?_cons_zero, List.getElem?_cons_succ, List.getElem?_nil, List.set_cons_zero, List.set_cons_succ, List.set_nil, List.length_set, List.length_append, Nat.add_sub_cancel, Nat.reduceAdd, Nat.reduceSub, Nat.reduceLT, Nat.reduceEqDiff, Nat.reduceLeDiff, Nat.le_refl, Nat.zero_le, if_true, if_false, ↓reduceIte, decide_eq_true_eq, Bool.false_eq_true, Bool.true_eq_false, Bool.not_true, Bool.not_false, Option.isSome_some, forall_const, not_true_eq_false, not_false_eq_true, imp_self, false_implies, true_implies, implies_true, and_true, true_and, Int.toNat_zero, Nat.zero_add, Int.reduceLE, Int.reduceLT, Int.reduceNeg, Int.reduceToNat, Int.reducePow, Int.reduceGT, Int.cast_ofNat_Int, true_or, or_true, Int.ofNat_eq_natCast, decide_true, decide_false, Int.reduceEq, List.isEmpty_cons, List.isEmpty_nil, eDGet1,  keyP, Option.map_some, Option.map_none, Option.getD_some, Option.isSome_some, reduceCtorEq, and_self,  allPure_nil, allPure_cons, Bool.and_true, Bool.true_and, Bool.false_and, Bool.and_false, Bool.not_eq_true, Bool.not_eq_false, gTupP_nil, gLstP_nil, gTupP_ok, gLstP_ok, isRef_tup, isRef_int, isRef_str, isRef_bl, Bool.or_false, Bool.or_true, Bool.true_or, Bool.false_or, il]
    refine wp_of (number_ok h.w) fun p S1 ⟨⟨k, ek⟩, wl⟩ => ?_
    subst ek
    have hn := h.lt
    have e1 : S1[S0.length]? = some (.lst (ip xs)) := by rw [wl.get (by omega)]; exact e
    have h1 := h.wl wl
    simp only [List.length_cons] at hl
    have ga := gApp_eq (y := .int k) e1 rfl (by rw [List.length_map]; omega)
    have hlt : S0.length < S1.length := (List.getElem?_eq_some_iff.mp e1).1
    simp only [wp_ok, wp_no, ↓wp_bind, ↓R.bind_ok, ↓sSeq, ↓sNil, ↓sSet, ↓sAsg, ↓sIf, ↓sRet, ↓sExpr, ↓sPar, ↓sPar3, ↓sFor, ↓nName, ↓nTup, ↓nCons, ↓nNil, ↓nNs, ↓eVar, ↓eC, ↓eOp, ↓eUn, ↓eArgs, ↓eNew, ↓aCons, ↓aNil, ↓tV, ↓tT, toB, truP, ↓tNotE, ↓tAndE, ↓tOrE, ↓tYesE, ↓eAndV, ↓eOrV, ↓eNotV, ↓eNotT, ↓eIf, gAdd_int, gAdd_tup, Py.gSub, gMul_l, gMul_r, gMod, gFdiv, gNeg, gLt, gLe, gGt, gGe, gInt, gIx, gEq_int, gEq_str, gEq_bl, gNe_int, gNe_str, gNe_bl, gIsN, gNotN, getQ, getL, gSetL, ↓nSubL, gDivmod, gMin2, gMax2, ↓mkDef, ↓mkNew, startP, finF, finO, finV_tup, finV_int, finV_bl, finV_lst, finV_non, finV_str, finV_ref, ↓eChain, tyP, gIsi, isiB, ↓iArgs, ↓iSeq, iterP, ↓fComp, wipeP, ↓eSl, ↓oNone, ↓oSome, gSl, ↓eMeth0, ↓eMeth1, ixN, atI0, atI1, atI2, atI3, List.length_cons, List.length_nil, List.map_cons, List.map_nil, List.replicate, List.cons_append, List.nil_append, List.append_nil, List.getElem?_cons_zero, List.getElem?_cons_succ, List.getElem?_nil, List.set_cons_zero, List.set_cons_succ, List.set_nil, List.length_set, List.length_append, Nat.add_sub_cancel, Nat.reduceAdd, Nat.reduceSub, Nat.reduceLT, Nat.reduceEqDiff, Nat.reduceLeDiff, Nat.le_refl, Nat.zero_le, if_true, if_false, ↓reduceIte, decide_eq_true_eq, Bool.false_eq_true, Bool.true_eq_false, Bool.not_true, Bool.not_false, Option.isSome_some, forall_const, not_true_eq_false, not_false_eq_true, imp_self, false_implies, true_implies, implies_true, and_true, true_and, Int.toNat_zero, Nat.zero_add, Int.reduceLE, Int.reduceLT, Int.reduceNeg, Int.reduceToNat, Int.reducePow, Int.reduceGT, Int.cast_ofNat_Int, true_or, or_true, Int.ofNat_eq_natCast, decide_true, decide_false, Int.reduceEq, List.isEmpty_cons, List.isEmpty_nil, eDGet1,  keyP, Option.map_some, Option.map_none, Option.getD_some, Option.isSome_some, reduceCtorEq, and_self,  allPure_nil, allPure_cons, Bool.and_true, Bool.true_and, Bool.false_and, Bool.and_false, Bool.not_eq_true, Bool.not_eq_false, gTupP_nil, gLstP_nil, gTupP_ok, gLstP_ok, isRef_tup, isRef_int, isRef_str, isRef_bl, Bool.or_false, Bool.or_true, Bool.true_or, Bool.false_or, ga]
    refine wp_of (fill_loop js (xs ++ [k]) _ _ (h1.set (Nat.le_refl _)) (by rw [List.getElem?_set_self hlt]; simp [ip]) (by simp; omega)) fun fl S2 ⟨ys, x3', e2, h2, e3, e4⟩ => ?_
    exact ⟨ys, x3', e2, h2, e3, by rw [e4]; simp; omega⟩
theorem rg_eq {j : Int} {S : Sto} (h0 : 0 ≤ j) (h1 : j ≤ 100) : gRange [.int j] S = .ok (Py.intsFrom 0 j.toNat) S := by
  unfold gRange
  exact if_pos ⟨by omega, by omega⟩
theorem rg_len (j : Nat) : (Py.intsFrom 0 j).length = j := by simp [Py.intsFrom]
theorem fsl_to {S : Sto} {p : PV} {xs : List PV} {k : Nat} (h : getL p S = some xs) (hk : k ≤ xs.length) : gSlF p none (some (k : Int)) S = .ok (.lst (xs.take k)) S := by
  unfold gSlF
  rw [h]
  simp only [cut_to hk]
theorem getL_ref {S : Sto} {n : Nat} {xs : List PV} (h : S[n]? = some (.lst xs)) : getL (.ref n) S = some xs := by
  simp only [getL, h]
theorem rep_len {α : Type} (k : Nat) (xs : List α) : (List.replicate k xs).flatten.length = k * xs.length := by
  induction k with
  | zero => simp
  | succ k ih => rw [List.replicate_succ, List.flatten_cons, List.length_append, ih, Nat.succ_mul]; omega
theorem rep_map {α β : Type} (f : α → β) (k : Nat) (xs : List α) : (List.replicate k (xs.map f)).flatten = (List.replicate k xs).flatten.map f := by
  induction k with
  | zero => simp
  | succ k ih => rw [List.replicate_succ, List.replicate_succ, List.flatten_cons, List.flatten_cons, List.map_append, ih]
theorem gRepL_ref {S : Sto} {n k : Nat} {xs : List PV} (h : S[n]? = some (.lst xs)) (hk : xs.length * k ≤ 5000) (hk2 : k ≤ 5000) : gRepL (.ref n) (.int (k : Nat)) S = .ok (.lst (List.replicate k xs).flatten) S := by
  unfold gRepL
  simp only [getL_ref h, Int.toNat_natCast]
  exact if_pos ⟨by omega, by omega, size_1000 hk⟩
theorem gRepL_lst {S : Sto} {k : Nat} {xs : List PV} (hk : xs.length * k ≤ 5000) (hk2 : k ≤ 5000) : gRepL (.lst xs) (.int (k : Nat)) S = .ok (.lst (List.replicate k xs).flatten) S := by
  unfold gRepL
  simp only [getL, Int.toNat_natCast]
  exact if_pos ⟨by omega, by omega, size_1000 hk⟩
theorem gCat_lst {xs ys : List PV} {S : Sto} (h : xs.length + ys.length ≤ 5000) : gCat (.lst xs) (.lst ys) S = .ok (.lst (xs ++ ys)) S := by
  unfold gCat
  simp only [getL]
  exact if_pos (size_1000 h)
theorem rep1 (k : Nat) : (List.replicate k [PV.int 0]).flatten = ip (List.replicate k 0) := by
  induction k with
  | zero => rfl
  | succ k ih => rw [List.replicate_succ, List.flatten_cons, ih, List.replicate_succ]; rfl
/-- a count of words at most w -/
theorem filled_ok {S : Sto} {n m : Nat} (hw : Well S n) (h0 : 26 ≤ m) (h1 : m ≤ 32) : WP (m__law_filled [.ref n, .int (m : Nat)] S) fun p S' => Wl n S S' ∧ ∃ xs : List Int, p = .lst (ip xs) ∧ xs.length = m + 4 := by
  unfold m__law_filled b__law_filled
  simp only [wp_ok, wp_no, ↓wp_bind, ↓R.bind_ok, ↓sSeq, ↓sNil, ↓sSet, ↓sAsg, ↓sIf, ↓sRet, ↓sExpr, ↓sPar, ↓sPar3, ↓sFor, ↓nName, ↓nTup, ↓nCons, ↓nNil, ↓nNs, ↓eVar, ↓eC, ↓eOp, ↓eUn, ↓eArgs, ↓eNew, ↓aCons, ↓aNil, ↓tV, ↓tT, toB, truP, ↓tNotE, ↓tAndE, ↓tOrE, ↓tYesE, ↓eAndV, ↓eOrV, ↓eNotV, ↓eNotT, ↓eIf, gAdd_int, gAdd_tup, Py.gSub, gMul_l, gMul_r, gMod, gFdiv, gNeg, gLt, gLe, gGt, gGe, gInt, gIx, gEq_int, gEq_str, gEq_bl, gNe_int, gNe_str, gNe_bl, gIsN, gNotN, getQ, getL, gSetL, ↓nSubL, gDivmod, gMin2, gMax2, ↓mkDef, ↓mkNew, startP, finF, finO, finV_tup, finV_int, finV_bl, finV_lst, finV_non, finV_str, finV_ref, ↓eChain, tyP, gIsi, isiB, ↓iArgs, ↓iSeq, iterP, ↓fComp, wipeP, ↓eSl, ↓oNone, ↓oSome, gSl, ↓eMeth0, ↓eMeth1, ixN, atI0, atI1, atI2, atI3, List.length_cons, List.length_nil, List.map_cons, List.map_nil, List.replicate, List.cons_append, List.nil_append, List.append_nil, List.getElem?_cons_zero, List.getElem?_cons_succ, List.getElem?_nil, List.set_cons_zero, List.set_cons_succ, List.set_nil, List.length_set, List.length_append, Nat.add_sub_cancel, Nat.reduceAdd, Nat.reduceSub, Nat.reduceLT, Nat.reduceEqDiff, Nat.reduceLeDiff, Nat.le_refl, Nat.zero_le, if_true, if_false, ↓reduceIte, decide_eq_true_eq, Bool.false_eq_true, Bool.true_eq_false, Bool.not_true, Bool.not_false, Option.isSome_some, forall_const, not_true_eq_false, not_false_eq_true, imp_self, false_implies, true_implies, implies_true, and_true, true_and, Int.toNat_zero, Nat.zero_add, Int.reduceLE, Int.reduceLT, Int.reduceNeg, Int.reduceToNat, Int.reducePow, Int.reduceGT, Int.cast_ofNat_Int, true_or, or_true, Int.ofNat_eq_natCast, decide_true, decide_false, Int.reduceEq, List.isEmpty_cons, List.isEmpty_nil, eDGet1,  keyP, Option.map_some, Option.map_none, Option.getD_some, Option.isSome_some, reduceCtorEq, and_self,  allPure_nil, allPure_cons, Bool.and_true, Bool.true_and, Bool.false_and, Bool.and_false, Bool.not_eq_true, Bool.not_eq_false, gTupP_nil, gLstP_nil, gTupP_ok, gLstP_ok, isRef_tup, isRef_int, isRef_str, isRef_bl, Bool.or_false, Bool.or_true, Bool.true_or, Bool.false_or]
  refine wp_of (draw_ok hw.app (m := 6) (by omega) (by omega)) fun p S1 ⟨k, ek, k0, k1, wl⟩ => ?_
  subst ek
  have x1 : Ext n S S1 := ((Ext.refl hw).app).wl wl
  have hn := hw.lt
  have e1 : S1[S.length]? = some (.lst (ip [])) := by rw [wl.get (by omega)]; exact get_last
  have rg := rg_eq (S := S1) (j := 1 + k) (by omega) (by omega)
  simp only [wp_ok, wp_no, ↓wp_bind, ↓R.bind_ok, ↓sSeq, ↓sNil, ↓sSet, ↓sAsg, ↓sIf, ↓sRet, ↓sExpr, ↓sPar, ↓sPar3, ↓sFor, ↓nName, ↓nTup, ↓nCons, ↓nNil, ↓nNs, ↓eVar, ↓eC, ↓eOp, ↓eUn, ↓eArgs, ↓eNew, ↓aCons, ↓aNil, ↓tV, ↓tT, toB, truP, ↓tNotE, ↓tAndE, ↓tOrE, ↓tYesE, ↓eAndV, ↓eOrV, ↓eNotV, ↓eNotT, ↓eIf, gAdd_int, gAdd_tup, Py.gSub, gMul_l, gMul_r, gMod, gFdiv, gNeg, gLt, gLe, gGt, gGe, gInt, gIx, gEq_int, gEq_str, gEq_bl, gNe_int, gNe_str, gNe_bl, gIsN, gNotN, getQ, getL, gSetL, ↓nSubL, gDivmod, gMin2, gMax2, ↓mkDef, ↓mkNew, startP, finF, finO, finV_tup, finV_int, finV_bl, finV_lst, finV_non, finV_str, finV_ref, ↓eChain, tyP, gIsi, isiB, ↓iArgs, ↓iSeq, iterP, ↓fComp, wipeP, ↓eSl, ↓oNone, ↓oSome, gSl, ↓eMeth0, ↓eMeth1, ixN, atI0, atI1, atI2, atI3, List.length_cons, List.length_nil, List.map_cons, List.map_nil, List.replicate, List.cons_append, List.nil_append, List.append_nil, List.getElem?_cons_zero, List.getElem?_cons_succ, List.getElem?_nil, List.set_cons_zero, List.set_cons_succ, List.set_nil, List.length_set, List.length_append, Nat.add_sub_cancel, Nat.reduceAdd, Nat.reduceSub, Nat.reduceLT, Nat.reduceEqDiff, Nat.reduceLeDiff, Nat.le_refl, Nat.zero_le, if_true, if_false, ↓reduceIte, decide_eq_true_eq, Bool.false_eq_true, Bool.true_eq_false, Bool.not_true, Bool.not_false, Option.isSome_some, forall_const, not_true_eq_false, not_false_eq_true, imp_self, false_implies, true_implies, implies_true, and_true, true_and, Int.toNat_zero, Nat.zero_add, Int.reduceLE, Int.reduceLT, Int.reduceNeg, Int.reduceToNat, Int.reducePow, Int.reduceGT, Int.cast_ofNat_Int, true_or, or_true, Int.ofNat_eq_natCast, decide_true, decide_false, Int.reduceEq, List.isEmpty_cons, List.isEmpty_nil, eDGet1,  keyP, Option.map_some, Option.map_none, Option.getD_some, Option.isSome_some, reduceCtorEq, and_self,  allPure_nil, allPure_cons, Bool.and_true, Bool.true_and, Bool.false_and, Bool.and_false, Bool.not_eq_true, Bool.not_eq_false, gTupP_nil, gLstP_nil, gTupP_ok, gLstP_ok, isRef_tup, isRef_int, isRef_str, isRef_bl, Bool.or_false, Bool.or_true, Bool.true_or, Bool.false_or, rg]
  refine wp_of (fill_loop _ [] S1 _ x1 e1 (by rw [rg_len]; simp; omega)) fun fl S2 ⟨ys, x3', e2, x2, e3, e4⟩ => ?_
  subst e2
  rw [rg_len] at e4
  have y1 : 1 ≤ ys.length := by simp at e4; omega
  have y2 : ys.length ≤ 7 := by simp at e4; omega
  simp only [wp_ok, wp_no, ↓wp_bind, ↓R.bind_ok, ↓sSeq, ↓sNil, ↓sSet, ↓sAsg, ↓sIf, ↓sRet, ↓sExpr, ↓sPar, ↓sPar3, ↓sFor, ↓nName, ↓nTup, ↓nCons, ↓nNil, ↓nNs, ↓eVar, ↓eC, ↓eOp, ↓eUn, ↓eArgs, ↓eNew, ↓aCons, ↓aNil, ↓tV, ↓tT, toB, truP, ↓tNotE, ↓tAndE, ↓tOrE, ↓tYesE, ↓eAndV, ↓eOrV, ↓eNotV, ↓eNotT, ↓eIf, gAdd_int, gAdd_tup, Py.gSub, gMul_l, gMul_r, gMod, gFdiv, gNeg, gLt, gLe, gGt, gGe, gInt, gIx, gEq_int, gEq_str, gEq_bl, gNe_int, gNe_str, gNe_bl, gIsN, gNotN, getQ, getL, gSetL, ↓nSubL, gDivmod, gMin2, gMax2, ↓mkDef, ↓mkNew, startP, finF, finO, finV_tup, finV_int, finV_bl, finV_lst, finV_non, finV_str, finV_ref, ↓eChain, tyP, gIsi, isiB, ↓iArgs, ↓iSeq, iterP, ↓fComp, wipeP, ↓eSl, ↓oNone, ↓oSome, gSl, ↓eMeth0, ↓eMeth1, ixN, atI0, atI1, atI2, atI3, List.length_cons, List.length_nil, List.map_cons, List.map_nil, List.replicate, List.cons_append, List.nil_append, List.append_nil, List.getElem?_cons_zero, List.getElem?_cons_succ, List.getElem?_nil, List.set_cons_zero, List.set_cons_succ, List.set_nil, List.length_set, List.length_append, Nat.add_sub_cancel, Nat.reduceAdd, Nat.reduceSub, Nat.reduceLT, Nat.reduceEqDiff, Nat.reduceLeDiff, Nat.le_refl, Nat.zero_le, if_true, if_false, ↓reduceIte, decide_eq_true_eq, Bool.false_eq_true, Bool.true_eq_false, Bool.not_true, Bool.not_false, Option.isSome_some, forall_const, not_true_eq_false, not_false_eq_true, imp_self, false_implies, true_implies, implies_true, and_true, true_and, Int.toNat_zero, Nat.zero_add, Int.reduceLE, Int.reduceLT, Int.reduceNeg, Int.reduceToNat, Int.reducePow, Int.reduceGT, Int.cast_ofNat_Int, true_or, or_true, Int.ofNat_eq_natCast, decide_true, decide_false, Int.reduceEq, List.isEmpty_cons, List.isEmpty_nil, eDGet1,  keyP, Option.map_some, Option.map_none, Option.getD_some, Option.isSome_some, reduceCtorEq, and_self,  allPure_nil, allPure_cons, Bool.and_true, Bool.true_and, Bool.false_and, Bool.and_false, Bool.not_eq_true, Bool.not_eq_false, gTupP_nil, gLstP_nil, gTupP_ok, gLstP_ok, isRef_tup, isRef_int, isRef_str, isRef_bl, Bool.or_false, Bool.or_true, Bool.true_or, Bool.false_or]
  refine wp_of (draw_ok x2.w (m := (m : Nat) + 1) (by omega) (by omega)) fun p S3 ⟨c, ek, c0, c1, wl3⟩ => ?_
  subst ek
  have x3 := x2.wl wl3
  have tp : gTupP [.int 0, .int 1, .int (m : Nat), .int ((m : Nat) - 1), .int 5, .int c] S3 = .ok (.tup [.int 0, .int 1, .int (m : Nat), .int ((m : Nat) - 1), .int 5, .int c]) S3 := gTupP_ok rfl (by simp)
  simp only [wp_ok, wp_no, ↓wp_bind, ↓R.bind_ok, ↓sSeq, ↓sNil, ↓sSet, ↓sAsg, ↓sIf, ↓sRet, ↓sExpr, ↓sPar, ↓sPar3, ↓sFor, ↓nName, ↓nTup, ↓nCons, ↓nNil, ↓nNs, ↓eVar, ↓eC, ↓eOp, ↓eUn, ↓eArgs, ↓eNew, ↓aCons, ↓aNil, ↓tV, ↓tT, toB, truP, ↓tNotE, ↓tAndE, ↓tOrE, ↓tYesE, ↓eAndV, ↓eOrV, ↓eNotV, ↓eNotT, ↓eIf, gAdd_int, gAdd_tup, Py.gSub, gMul_l, gMul_r, gMod, gFdiv, gNeg, gLt, gLe, gGt, gGe, gInt, gIx, gEq_int, gEq_str, gEq_bl, gNe_int, gNe_str, gNe_bl, gIsN, gNotN, getQ, getL, gSetL, ↓nSubL, gDivmod, gMin2, gMax2, ↓mkDef, ↓mkNew, startP, finF, finO, finV_tup, finV_int, finV_bl, finV_lst, finV_non, finV_str, finV_ref, ↓eChain, tyP, gIsi, isiB, ↓iArgs, ↓iSeq, iterP, ↓fComp, wipeP, ↓eSl, ↓oNone, ↓oSome, gSl, ↓eMeth0, ↓eMeth1, ixN, atI0, atI1, atI2, atI3, List.length_cons, List.length_nil, List.map_cons, List.map_nil, List.replicate, List.cons_append, List.nil_append, List.append_nil, List.getElem?_cons_zero, List.getElem?_cons_succ, List.getElem?_nil, List.set_cons_zero, List.set_cons_succ, List.set_nil, List.length_set, List.length_append, Nat.add_sub_cancel, Nat.reduceAdd, Nat.reduceSub, Nat.reduceLT, Nat.reduceEqDiff, Nat.reduceLeDiff, Nat.le_refl, Nat.zero_le, if_true, if_false, ↓reduceIte, decide_eq_true_eq, Bool.false_eq_true, Bool.true_eq_false, Bool.not_true, Bool.not_false, Option.isSome_some, forall_const, not_true_eq_false, not_false_eq_true, imp_self, false_implies, true_implies, implies_true, and_true, true_and, Int.toNat_zero, Nat.zero_add, Int.reduceLE, Int.reduceLT, Int.reduceNeg, Int.reduceToNat, Int.reducePow, Int.reduceGT, Int.cast_ofNat_Int, true_or, or_true, Int.ofNat_eq_natCast, decide_true, decide_false, Int.reduceEq, List.isEmpty_cons, List.isEmpty_nil, eDGet1,  keyP, Option.map_some, Option.map_none, Option.getD_some, Option.isSome_some, reduceCtorEq, and_self,  allPure_nil, allPure_cons, Bool.and_true, Bool.true_and, Bool.false_and, Bool.and_false, Bool.not_eq_true, Bool.not_eq_false, gTupP_nil, gLstP_nil, gTupP_ok, gLstP_ok, isRef_tup, isRef_int, isRef_str, isRef_bl, Bool.or_false, Bool.or_true, Bool.true_or, Bool.false_or, tp]
  refine wp_of (pick_ok x3.w (by simp) (by simp) (by simp [PV.isRef])) fun p S4 ⟨hp, wl4⟩ => ?_
  have : ∃ q : Nat, p = .int (q : Nat) ∧ q ≤ m := by
    simp only [List.mem_cons, List.mem_nil_iff, or_false] at hp
    rcases hp with rfl | rfl | rfl | rfl | rfl | rfl
    · exact ⟨0, rfl, by omega⟩
    · exact ⟨1, rfl, by omega⟩
    · exact ⟨m, rfl, by omega⟩
    · exact ⟨m - 1, by congr 1; omega, by omega⟩
    · exact ⟨5, rfl, by omega⟩
    · exact ⟨c.toNat, by congr 1; omega, by omega⟩
  obtain ⟨q, rfl, hq⟩ := this
  have x4 := x3.wl wl4
  have e4' : S4[S.length]? = some (.lst (ip ys)) := by rw [wl4.get (by omega), wl3.get (by omega)]; exact e3
  have rp := gRepL_ref (k := m) e4' (by rw [List.length_map]; have : ys.length * m ≤ 7 * 32 := Nat.mul_le_mul y2 h1; omega) (by omega)
  have hle : q ≤ (List.replicate m (ip ys)).flatten.length := by
    rw [rep_len, List.length_map]
    have : m * 1 ≤ m * ys.length := Nat.mul_le_mul_left _ y1
    omega
  have sl := fsl_to (S := S4) (p := .lst (List.replicate m (ip ys)).flatten) (k := q) rfl hle
  rw [rep_map, ← List.map_take] at sl
  have wl' : ((List.replicate m ys).flatten.take q).length = q := by
    rw [List.length_take, rep_len]
    rw [rep_len, List.length_map] at hle
    omega
  generalize hws : (List.replicate m ys).flatten.take q = ws at sl wl'
  rw [rep_map] at rp
  simp only [wp_ok, wp_no, ↓wp_bind, ↓R.bind_ok, ↓sSeq, ↓sNil, ↓sSet, ↓sAsg, ↓sIf, ↓sRet, ↓sExpr, ↓sPar, ↓sPar3, ↓sFor, ↓nName, ↓nTup, ↓nCons, ↓nNil, ↓nNs, ↓eVar, ↓eC, ↓eOp, ↓eUn, ↓eArgs, ↓eNew, ↓aCons, ↓aNil, ↓tV, ↓tT, toB, truP, ↓tNotE, ↓tAndE, ↓tOrE, ↓tYesE, ↓eAndV, ↓eOrV, ↓eNotV, ↓eNotT, ↓eIf, gAdd_int, gAdd_tup, Py.gSub, gMul_l, gMul_r, gMod, gFdiv, gNeg, gLt, gLe, gGt, gGe, gInt, gIx, gEq_int, gEq_str, gEq_bl, gNe_int, gNe_str, gNe_bl, gIsN, gNotN, getQ, getL, gSetL, ↓nSubL, gDivmod, gMin2, gMax2, ↓mkDef, ↓mkNew, startP, finF, finO, finV_tup, finV_int, finV_bl, finV_lst, finV_non, finV_str, finV_ref, ↓eChain, tyP, gIsi, isiB, ↓iArgs, ↓iSeq, iterP, ↓fComp, wipeP, ↓eSl, ↓oNone, ↓oSome, gSl, ↓eMeth0, ↓eMeth1, ixN, atI0, atI1, atI2, atI3, List.length_cons, List.length_nil, List.map_cons, List.map_nil, List.replicate, List.cons_append, List.nil_append, List.append_nil, List.getElem?_cons_zero, List.getElem?_cons_succ, List.getElem?_nil, List.set_cons_zero, List.set_cons_succ, List.set_nil, List.length_set, List.length_append, Nat.add_sub_cancel, Nat.reduceAdd, Nat.reduceSub, Nat.reduceLT, Nat.reduceEqDiff, Nat.reduceLeDiff, Nat.le_refl, Nat.zero_le, if_true, if_false, ↓reduceIte, decide_eq_true_eq, Bool.false_eq_true, Bool.true_eq_false, Bool.not_true, Bool.not_false, Option.isSome_some, forall_const, not_true_eq_false, not_false_eq_true, imp_self, false_implies, true_implies, implies_true, and_true, true_and, Int.toNat_zero, Nat.zero_add, Int.reduceLE, Int.reduceLT, Int.reduceNeg, Int.reduceToNat, Int.reducePow, Int.reduceGT, Int.cast_ofNat_Int, true_or, or_true, Int.ofNat_eq_natCast, decide_true, decide_false, Int.reduceEq, List.isEmpty_cons, List.isEmpty_nil, eDGet1,  keyP, Option.map_some, Option.map_none, Option.getD_some, Option.isSome_some, reduceCtorEq, and_self,  allPure_nil, allPure_cons, Bool.and_true, Bool.true_and, Bool.false_and, Bool.and_false, Bool.not_eq_true, Bool.not_eq_false, gTupP_nil, gLstP_nil, gTupP_ok, gLstP_ok, isRef_tup, isRef_int, isRef_str, isRef_bl, Bool.or_false, Bool.or_true, Bool.true_or, Bool.false_or, fSl, rp, sl]
  have sm := fun S : Sto => gSumA_lst (ns := ws) (S := S)
  have rz := fun S : Sto => gRepL_lst (S := S) (k := m - q) (xs := [.int 0]) (by simp; omega) (by omega)
  have dq : ((m : Nat) : Int) - (q : Nat) = ((m - q : Nat) : Int) := by omega
  have fin : ∀ (t : Int) (S5 : Sto), Ext n S S5 → WP (finO S.length (.rt (.ref S5.length)) (S5 ++ [.lst (.int t :: .int (q : Nat) :: .int (t + (q : Nat) + ws.sum) :: ip (ws ++ List.replicate (m - q) 0 ++ [t]))])) fun p S' => Wl n S S' ∧ ∃ xs : List Int, p = .lst (ip xs) ∧ xs.length = m + 4 := fun t S5 x5 => by
    have nl : ¬ S5.length < S.length := by have := x5.le; omega
    simp only [wp_ok, wp_no, ↓wp_bind, ↓R.bind_ok, ↓sSeq, ↓sNil, ↓sSet, ↓sAsg, ↓sIf, ↓sRet, ↓sExpr, ↓sPar, ↓sPar3, ↓sFor, ↓nName, ↓nTup, ↓nCons, ↓nNil, ↓nNs, ↓eVar, ↓eC, ↓eOp, ↓eUn, ↓eArgs, ↓eNew, ↓aCons, ↓aNil, ↓tV, ↓tT, toB, truP, ↓tNotE, ↓tAndE, ↓tOrE, ↓tYesE, ↓eAndV, ↓eOrV, ↓eNotV, ↓eNotT, ↓eIf, gAdd_int, gAdd_tup, Py.gSub, gMul_l, gMul_r, gMod, gFdiv, gNeg, gLt, gLe, gGt, gGe, gInt, gIx, gEq_int, gEq_str, gEq_bl, gNe_int, gNe_str, gNe_bl, gIsN, gNotN, getQ, getL, gSetL, ↓nSubL, gDivmod, gMin2, gMax2, ↓mkDef, ↓mkNew, startP, finF, finO, finV_tup, finV_int, finV_bl, finV_lst, finV_non, finV_str, finV_ref, ↓eChain, tyP, gIsi, isiB, ↓iArgs, ↓iSeq, iterP, ↓fComp, wipeP, ↓eSl, ↓oNone, ↓oSome, gSl, ↓eMeth0, ↓eMeth1, ixN, atI0, atI1, atI2, atI3, List.length_cons, List.length_nil, List.map_cons, List.map_nil, List.replicate, List.cons_append, List.nil_append, List.append_nil, List.getElem?_cons_zero, List.getElem?_cons_succ, List.getElem?_nil, List.set_cons_zero, List.set_cons_succ, List.set_nil, List.length_set, List.length_append, Nat.add_sub_cancel, Nat.reduceAdd, Nat.reduceSub, Nat.reduceLT, Nat.reduceEqDiff, Nat.reduceLeDiff, Nat.le_refl, Nat.zero_le, if_true, if_false, ↓reduceIte, decide_eq_true_eq, Bool.false_eq_true, Bool.true_eq_false, Bool.not_true, Bool.not_false, Option.isSome_some, forall_const, not_true_eq_false, not_false_eq_true, imp_self, false_implies, true_implies, implies_true, and_true, true_and, Int.toNat_zero, Nat.zero_add, Int.reduceLE, Int.reduceLT, Int.reduceNeg, Int.reduceToNat, Int.reducePow, Int.reduceGT, Int.cast_ofNat_Int, true_or, or_true, Int.ofNat_eq_natCast, decide_true, decide_false, Int.reduceEq, List.isEmpty_cons, List.isEmpty_nil, eDGet1,  keyP, Option.map_some, Option.map_none, Option.getD_some, Option.isSome_some, reduceCtorEq, and_self,  allPure_nil, allPure_cons, Bool.and_true, Bool.true_and, Bool.false_and, Bool.and_false, Bool.not_eq_true, Bool.not_eq_false, gTupP_nil, gLstP_nil, gTupP_ok, gLstP_ok, isRef_tup, isRef_int, isRef_str, isRef_bl, Bool.or_false, Bool.or_true, Bool.true_or, Bool.false_or, finO, nl, get_last]
    refine ⟨x5.app.take, (t :: (q : Int) :: (t + (q : Nat) + ws.sum) :: (ws ++ List.replicate (m - q) 0 ++ [t])), rfl, ?_⟩
    simp [wl']; omega
  have c1 : ∀ (t : Int) (S5 : Sto), gCat (.lst [.int t, .int (q : Nat), .int (t + (q : Nat) + ws.sum)]) (.lst (ip ws)) S5 = .ok (.lst (.int t :: .int (q : Nat) :: .int (t + (q : Nat) + ws.sum) :: ip ws)) S5 := fun t S5 => gCat_lst (by simp; omega)
  have c2 : ∀ (t : Int) (S5 : Sto), gCat (.lst (.int t :: .int (q : Nat) :: .int (t + (q : Nat) + ws.sum) :: ip ws)) (.lst (ip (List.replicate (m - q) 0))) S5 = .ok (.lst (.int t :: .int (q : Nat) :: .int (t + (q : Nat) + ws.sum) :: ip (ws ++ List.replicate (m - q) 0))) S5 := fun t S5 => by
    rw [gCat_lst (by simp; omega), ip_app]; rfl
  have c3 : ∀ (t : Int) (S5 : Sto), gCat (.lst (.int t :: .int (q : Nat) :: .int (t + (q : Nat) + ws.sum) :: ip (ws ++ List.replicate (m - q) 0))) (.lst [.int t]) S5 = .ok (.lst (.int t :: .int (q : Nat) :: .int (t + (q : Nat) + ws.sum) :: ip (ws ++ List.replicate (m - q) 0 ++ [t]))) S5 := fun t S5 => by
    rw [gCat_lst (by simp; omega)]
    rw [ip_app (ws ++ List.replicate (m - q) 0)]; rfl
  refine wp_of (draw_ok x4.w (m := 3) (by omega) (by omega)) fun p S5 ⟨t, ek, t0, t1, wl5⟩ => ?_
  subst ek
  have x5 := x4.wl wl5
  have l3 : ∀ (t : Int) (S : Sto), gLstP [.int t, .int (q : Nat), .int (t + (q : Nat) + ws.sum)] S = .ok (.lst [.int t, .int (q : Nat), .int (t + (q : Nat) + ws.sum)]) S := fun t S => gLstP_ok rfl (by simp)
  by_cases ht : 0 < t
  · simp only [wp_ok, wp_no, ↓wp_bind, ↓R.bind_ok, ↓sSeq, ↓sNil, ↓sSet, ↓sAsg, ↓sIf, ↓sRet, ↓sExpr, ↓sPar, ↓sPar3, ↓sFor, ↓nName, ↓nTup, ↓nCons, ↓nNil, ↓nNs, ↓eVar, ↓eC, ↓eOp, ↓eUn, ↓eArgs, ↓eNew, ↓aCons, ↓aNil, ↓tV, ↓tT, toB, truP, ↓tNotE, ↓tAndE, ↓tOrE, ↓tYesE, ↓eAndV, ↓eOrV, ↓eNotV, ↓eNotT, ↓eIf, gAdd_int, gAdd_tup, Py.gSub, gMul_l, gMul_r, gMod, gFdiv, gNeg, gLt, gLe, gGt, gGe, gInt, gIx, gEq_int, gEq_str, gEq_bl, gNe_int, gNe_str, gNe_bl, gIsN, gNotN, getQ, getL, gSetL, ↓nSubL, gDivmod, gMin2, gMax2, ↓mkDef, ↓mkNew, startP, finF, finO, finV_tup, finV_int, finV_bl, finV_lst, finV_non, finV_str, finV_ref, ↓eChain, tyP, gIsi, isiB, ↓iArgs, ↓iSeq, iterP, ↓fComp, wipeP, ↓eSl, ↓oNone, ↓oSome, gSl, ↓eMeth0, ↓eMeth1, ixN, atI0, atI1, atI2, atI3, List.length_cons, List.length_nil, List.map_cons, List.map_nil, List.replicate, List.cons_append, List.nil_append, List.append_nil, List.getElem?_cons_zero, List.getElem?_cons_succ, List.getElem?_nil, List.set_cons_zero, List.set_cons_succ, List.set_nil, List.length_set, List.length_append, Nat.add_sub_cancel, Nat.reduceAdd, Nat.reduceSub, Nat.reduceLT, Nat.reduceEqDiff, Nat.reduceLeDiff, Nat.le_refl, Nat.zero_le, if_true, if_false, ↓reduceIte, decide_eq_true_eq, Bool.false_eq_true, Bool.true_eq_false, Bool.not_true, Bool.not_false, Option.isSome_some, forall_const, not_true_eq_false, not_false_eq_true, imp_self, false_implies, true_implies, implies_true, and_true, true_and, Int.toNat_zero, Nat.zero_add, Int.reduceLE, Int.reduceLT, Int.reduceNeg, Int.reduceToNat, Int.reducePow, Int.reduceGT, Int.cast_ofNat_Int, true_or, or_true, Int.ofNat_eq_natCast, decide_true, decide_false, Int.reduceEq, List.isEmpty_cons, List.isEmpty_nil, eDGet1,  keyP, Option.map_some, Option.map_none, Option.getD_some, Option.isSome_some, reduceCtorEq, and_self,  allPure_nil, allPure_cons, Bool.and_true, Bool.true_and, Bool.false_and, Bool.and_false, Bool.not_eq_true, Bool.not_eq_false, gTupP_nil, gLstP_nil, gTupP_ok, gLstP_ok, isRef_tup, isRef_int, isRef_str, isRef_bl, Bool.or_false, Bool.or_true, Bool.true_or, Bool.false_or, ht]
    refine wp_of (draw_ok x5.w (m := 3) (by omega) (by omega)) fun p S6 ⟨u, ek, _, _, wl6⟩ => ?_
    subst ek
    simp only [wp_ok, wp_no, ↓wp_bind, ↓R.bind_ok, ↓sSeq, ↓sNil, ↓sSet, ↓sAsg, ↓sIf, ↓sRet, ↓sExpr, ↓sPar, ↓sPar3, ↓sFor, ↓nName, ↓nTup, ↓nCons, ↓nNil, ↓nNs, ↓eVar, ↓eC, ↓eOp, ↓eUn, ↓eArgs, ↓eNew, ↓aCons, ↓aNil, ↓tV, ↓tT, toB, truP, ↓tNotE, ↓tAndE, ↓tOrE, ↓tYesE, ↓eAndV, ↓eOrV, ↓eNotV, ↓eNotT, ↓eIf, gAdd_int, gAdd_tup, Py.gSub, gMul_l, gMul_r, gMod, gFdiv, gNeg, gLt, gLe, gGt, gGe, gInt, gIx, gEq_int, gEq_str, gEq_bl, gNe_int, gNe_str, gNe_bl, gIsN, gNotN, getQ, getL, gSetL, ↓nSubL, gDivmod, gMin2, gMax2, ↓mkDef, ↓mkNew, startP, finF, finO, finV_tup, finV_int, finV_bl, finV_lst, finV_non, finV_str, finV_ref, ↓eChain, tyP, gIsi, isiB, ↓iArgs, ↓iSeq, iterP, ↓fComp, wipeP, ↓eSl, ↓oNone, ↓oSome, gSl, ↓eMeth0, ↓eMeth1, ixN, atI0, atI1, atI2, atI3, List.length_cons, List.length_nil, List.map_cons, List.map_nil, List.replicate, List.cons_append, List.nil_append, List.append_nil, List.getElem?_cons_zero, List.getElem?_cons_succ, List.getElem?_nil, List.set_cons_zero, List.set_cons_succ, List.set_nil, List.length_set, List.length_append, Nat.add_sub_cancel, Nat.reduceAdd, Nat.reduceSub, Nat.reduceLT, Nat.reduceEqDiff, Nat.reduceLeDiff, Nat.le_refl, Nat.zero_le, if_true, if_false, ↓reduceIte, decide_eq_true_eq, Bool.false_eq_true, Bool.true_eq_false, Bool.not_true, Bool.not_false, Option.isSome_some, forall_const, not_true_eq_false, not_false_eq_true, imp_self, false_implies, true_implies, implies_true, and_true, true_and, Int.toNat_zero, Nat.zero_add, Int.reduceLE, Int.reduceLT, Int.reduceNeg, Int.reduceToNat, Int.reducePow, Int.reduceGT, Int.cast_ofNat_Int, true_or, or_true, Int.ofNat_eq_natCast, decide_true, decide_false, Int.reduceEq, List.isEmpty_cons, List.isEmpty_nil, eDGet1,  keyP, Option.map_some, Option.map_none, Option.getD_some, Option.isSome_some, reduceCtorEq, and_self,  allPure_nil, allPure_cons, Bool.and_true, Bool.true_and, Bool.false_and, Bool.and_false, Bool.not_eq_true, Bool.not_eq_false, gTupP_nil, gLstP_nil, gTupP_ok, gLstP_ok, isRef_tup, isRef_int, isRef_str, isRef_bl, Bool.or_false, Bool.or_true, Bool.true_or, Bool.false_or, sm, l3, c1, dq, rz, rep1, c2, c3]
    exact fin _ _ (x5.wl wl6)
  · simp only [wp_ok, wp_no, ↓wp_bind, ↓R.bind_ok, ↓sSeq, ↓sNil, ↓sSet, ↓sAsg, ↓sIf, ↓sRet, ↓sExpr, ↓sPar, ↓sPar3, ↓sFor, ↓nName, ↓nTup, ↓nCons, ↓nNil, ↓nNs, ↓eVar, ↓eC, ↓eOp, ↓eUn, ↓eArgs, ↓eNew, ↓aCons, ↓aNil, ↓tV, ↓tT, toB, truP, ↓tNotE, ↓tAndE, ↓tOrE, ↓tYesE, ↓eAndV, ↓eOrV, ↓eNotV, ↓eNotT, ↓eIf, gAdd_int, gAdd_tup, Py.gSub, gMul_l, gMul_r, gMod, gFdiv, gNeg, gLt, gLe, gGt, gGe, gInt, gIx, gEq_int, gEq_str, gEq_bl, gNe_int, gNe_str, gNe_bl, gIsN, gNotN, getQ, getL, gSetL, ↓nSubL, gDivmod, gMin2, gMax2, ↓mkDef, ↓mkNew, startP, finF, finO, finV_tup, finV_int, finV_bl, finV_lst, finV_non, finV_str, finV_ref, ↓eChain, tyP, gIsi, isiB, ↓iArgs, ↓iSeq, iterP, ↓fComp, wipeP, ↓eSl, ↓oNone, ↓oSome, gSl, ↓eMeth0, ↓eMeth1, ixN, atI0, atI1, atI2, atI3, List.length_cons, List.length_nil, List.map_cons, List.map_nil, List.replicate, List.cons_append, List.nil_append, List.append_nil, List.getElem?_cons_zero, List.getElem?_cons_succ, List.getElem?_nil, List.set_cons_zero, List.set_cons_succ, List.set_nil, List.length_set, List.length_append, Nat.add_sub_cancel, Nat.reduceAdd, Nat.reduceSub, Nat.reduceLT, Nat.reduceEqDiff, Nat.reduceLeDiff, Nat.le_refl, Nat.zero_le, if_true, if_false, ↓reduceIte, decide_eq_true_eq, Bool.false_eq_true, Bool.true_eq_false, Bool.not_true, Bool.not_false, Option.isSome_some, forall_const, not_true_eq_false, not_false_eq_true, imp_self, false_implies, true_implies, implies_true, and_true, true_and, Int.toNat_zero, Nat.zero_add, Int.reduceLE, Int.reduceLT, Int.reduceNeg, Int.reduceToNat, Int.reducePow, Int.reduceGT, Int.cast_ofNat_Int, true_or, or_true, Int.ofNat_eq_natCast, decide_true, decide_false, Int.reduceEq, List.isEmpty_cons, List.isEmpty_nil, eDGet1,  keyP, Option.map_some, Option.map_none, Option.getD_some, Option.isSome_some, reduceCtorEq, and_self,  allPure_nil, allPure_cons, Bool.and_true, Bool.true_and, Bool.false_and, Bool.and_false, Bool.not_eq_true, Bool.not_eq_false, gTupP_nil, gLstP_nil, gTupP_ok, gLstP_ok, isRef_tup, isRef_int, isRef_str, isRef_bl, Bool.or_false, Bool.or_true, Bool.true_or, Bool.false_or, ht]
    refine wp_of (draw_ok x5.w (m := 3000000) (by omega) (by omega)) fun p S6 ⟨u, ek, _, _, wl6⟩ => ?_
    subst ek
    simp only [wp_ok, wp_no, ↓wp_bind, ↓R.bind_ok, ↓sSeq, ↓sNil, ↓sSet, ↓sAsg, ↓sIf, ↓sRet, ↓sExpr, ↓sPar, ↓sPar3, ↓sFor, ↓nName, ↓nTup, ↓nCons, ↓nNil, ↓nNs, ↓eVar, ↓eC, ↓eOp, ↓eUn, ↓eArgs, ↓eNew, ↓aCons, ↓aNil, ↓tV, ↓tT, toB, truP, ↓tNotE, ↓tAndE, ↓tOrE, ↓tYesE, ↓eAndV, ↓eOrV, ↓eNotV, ↓eNotT, ↓eIf, gAdd_int, gAdd_tup, Py.gSub, gMul_l, gMul_r, gMod, gFdiv, gNeg, gLt, gLe, gGt, gGe, gInt, gIx, gEq_int, gEq_str, gEq_bl, gNe_int, gNe_str, gNe_bl, gIsN, gNotN, getQ, getL, gSetL, ↓nSubL, gDivmod, gMin2, gMax2, ↓mkDef, ↓mkNew, startP, finF, finO, finV_tup, finV_int, finV_bl, finV_lst, finV_non, finV_str, finV_ref, ↓eChain, tyP, gIsi, isiB, ↓iArgs, ↓iSeq, iterP, ↓fComp, wipeP, ↓eSl, ↓oNone, ↓oSome, gSl, ↓eMeth0, ↓eMeth1, ixN, atI0, atI1, atI2, atI3, List.length_cons, List.length_nil, List.map_cons, List.map_nil, List.replicate, List.cons_append, List.nil_append, List.append_nil, List.getElem?_cons_zero, List.getElem?_cons_succ, List.getElem?_nil, List.set_cons_zero, List.set_cons_succ, List.set_nil, List.length_set, List.length_append, Nat.add_sub_cancel, Nat.reduceAdd, Nat.reduceSub, Nat.reduceLT, Nat.reduceEqDiff, Nat.reduceLeDiff, Nat.le_refl, Nat.zero_le, if_true, if_false, ↓reduceIte, decide_eq_true_eq, Bool.false_eq_true, Bool.true_eq_false, Bool.not_true, Bool.not_false, Option.isSome_some, forall_const, not_true_eq_false, not_false_eq_true, imp_self, false_implies, true_implies, implies_true, and_true, true_and, Int.toNat_zero, Nat.zero_add, Int.reduceLE, Int.reduceLT, Int.reduceNeg, Int.reduceToNat, Int.reducePow, Int.reduceGT, Int.cast_ofNat_Int, true_or, or_true, Int.ofNat_eq_natCast, decide_true, decide_false, Int.reduceEq, List.isEmpty_cons, List.isEmpty_nil, eDGet1,  keyP, Option.map_some, Option.map_none, Option.getD_some, Option.isSome_some, reduceCtorEq, and_self,  allPure_nil, allPure_cons, Bool.and_true, Bool.true_and, Bool.false_and, Bool.and_false, Bool.not_eq_true, Bool.not_eq_false, gTupP_nil, gLstP_nil, gTupP_ok, gLstP_ok, isRef_tup, isRef_int, isRef_str, isRef_bl, Bool.or_false, Bool.or_true, Bool.true_or, Bool.false_or, sm, l3, c1, dq, rz, rep1, c2, c3]
    exact fin _ _ (x5.wl wl6)
end G80
set_option Elab.async false
set_option maxRecDepth 100000
set_option maxHeartbeats 1000000
set_option linter.all false
namespace G80
open PySem PySem.Spec PyProof.Rows L2 Py

/-! ### a bent slot -/
structure Tn (n r w : Nat) (S S' : Sto) : Prop where
  len : S'.length = S.length
  same : ∀ i, i ≠ n → i ≠ r → S'[i]? = S[i]?
  wd : Well S' n
  o : ∃ ys : List Int, S'[r]? = some (.lst (ip ys)) ∧ ys.length = w
theorem Tn.wl {n r w : Nat} {S S1 S2 : Sto} (h : Tn n r w S S1) (g : Wl n S1 S2) (hr : r ≠ n) : Tn n r w S S2 :=
  ⟨g.len.trans h.len, fun i h1 h2 => (g.same i h1).trans (h.same i h1 h2), g.w, by rw [g.same r hr]; exact h.o⟩
theorem Tn.set {n r w : Nat} {S S1 : Sto} (h : Tn n r w S S1) (hr : r ≠ n) {ys : List Int} (hy : ys.length = w) : Tn n r w S (S1.set r (.lst (ip ys))) := by
  refine ⟨by simpa using h.len, fun i h1 h2 => by rw [List.getElem?_set_ne (Ne.symm h2)]; exact h.same i h1 h2, ?_, ys, ?_, hy⟩
  · obtain ⟨a, b, c, e⟩ := h.wd
    exact ⟨a, b, c, by rw [List.getElem?_set_ne hr]; exact e⟩
  · obtain ⟨zs, e, _⟩ := h.o
    rw [List.getElem?_set_self (List.getElem?_eq_some_iff.mp e).1]
theorem rd {S : Sto} {r : Nat} {ys : List Int} {i : Int} {j : Nat} (h : S[r]? = some (.lst (ip ys))) (hj : ixN ys.length i = some j) : gIx (.ref r) (.int i) S = .ok (.int (ys.getD j 0)) S := by
  have hl : j < ys.length := (ixN_seq hj).2.1
  have e : atI (ip ys) i = some (.int (ys.getD j 0)) := by
    unfold atI
    rw [List.length_map, hj]
    simp [hl]
  simp only [gIx, getQ, getL, h, e]
theorem wrt {S : Sto} {r : Nat} {ys : List Int} {i v : Int} {j : Nat} (h : S[r]? = some (.lst (ip ys))) (hj : ixN ys.length i = some j) : gSetL (.ref r) (.int i) (.int v) S = .ok .non (S.set r (.lst (ip (ys.set j v)))) := by
  unfold gSetL
  simp only [h, List.length_map, hj, PV.isRef, if_true]
  simp [ip]
theorem ix_nat {w i : Nat} (h : i < w) : ixN w (i : Int) = some i := by
  unfold ixN
  rw [if_pos (Int.natCast_nonneg i), if_pos (by omega)]
  rfl
theorem ix_m1 {w : Nat} (h : 0 < w) : ixN w (-1) = some (w - 1) := by
  unfold ixN
  rw [if_neg (by decide), if_pos (by omega)]
  congr 1
  omega
theorem gLen_o {S : Sto} {r : Nat} {ys : List Int} (h : S[r]? = some (.lst (ip ys))) : gLen [.ref r] S = .ok (.int (ys.length : Nat)) S := by
  rw [gLen_ref h, List.length_map]
theorem turn_loop {n r w : Nat} {S0 : Sto} {b3 b5 : Option PV} (hr : r ≠ n) (w0 : 30 ≤ w) (w1 : w ≤ 36) : ∀ (js : List PV) (S : Sto) (x4 x6 x7 : Option PV), Tn n r w S0 S →
    WP (forF (nName 4) (sSeq (sSet 6 (eArgs m__law_pick (aCons (eVar 0) (aCons (eArgs gTupP (aCons (eC (.int 0)) (aCons (eC (.int 1)) (aCons (eC (.int 2)) (aCons (eC (.int 3)) (aCons (eOp gSub (eVar 2) (eC (.int 2))) (aCons (eOp gSub (eVar 2) (eC (.int 1))) (aCons (eArgs m__law_draw (aCons (eVar 0) (aCons (eVar 2) aNil))) aNil)))))))) aNil)))) (sSeq (sSet 7 (eOp gIx (eVar 1) (eVar 6))) (sAsg (eArgs m__law_pick (aCons (eVar 0) (aCons (eArgs gTupP (aCons (eOp gAdd (eVar 7) (eC (.int 1))) (aCons (eOp gSub (eVar 7) (eC (.int 1))) (aCons (eC (.int 0)) (aCons (eOp gSub (eC (.int 0)) (eVar 7)) (aCons (eOp gIx (eVar 1) (eC (.int 0))) (aCons (eOp gIx (eVar 1) (eC (.int 1))) (aCons (eArgs m__law_number (aCons (eVar 0) aNil)) aNil)))))))) aNil))) (nSubL (eVar 1) (eVar 6))))) js [some (.ref n), some (.ref r), some (.int (w : Nat)), b3, x4, b5, x6, x7] S) fun fl S' => (∃ y4 y6 y7, fl = .nx [some (.ref n), some (.ref r), some (.int (w : Nat)), b3, y4, b5, y6, y7]) ∧ Tn n r w S0 S'
  | [], S, x4, x6, x7, h => by
    rw [forF]
    simp only [wp_ok, wp_no, ↓wp_bind, ↓R.bind_ok, ↓sSeq, ↓sNil, ↓sSet, ↓sAsg, ↓sIf, ↓sRet, ↓sExpr, ↓sPar, ↓sPar3, ↓sFor, ↓nName, ↓nTup, ↓nCons, ↓nNil, ↓nNs, ↓eVar, ↓eC, ↓eOp, ↓eUn, ↓eArgs, ↓eNew, ↓aCons, ↓aNil, ↓tV, ↓tT, toB, truP, ↓tNotE, ↓tAndE, ↓tOrE, ↓tYesE, ↓eAndV, ↓eOrV, ↓eNotV, ↓eNotT, ↓eIf, gAdd_int, gAdd_tup, Py.gSub, gMul_l, gMul_r, gMod, gFdiv, gNeg, gLt, gLe, gGt, gGe, gInt, gIx, gEq_int, gEq_str, gEq_bl, gNe_int, gNe_str, gNe_bl, gIsN, gNotN, getQ, getL, gSetL, ↓nSubL, gDivmod, gMin2, gMax2, ↓mkDef, ↓mkNew, startP, finF, finO, finV_tup, finV_int, finV_bl, finV_lst, finV_non, finV_str, finV_ref, ↓eChain, tyP, gIsi, isiB, ↓iArgs, ↓iSeq, iterP, ↓fComp, wipeP, ↓eSl, ↓oNone, ↓oSome, gSl, ↓eMeth0, ↓eMeth1, ixN, atI0, atI1, atI2, atI3, List.length_cons, List.length_nil, List.map_cons, List.map_nil, List.replicate, List.cons_append, List.nil_append, List.append_nil, List.getElem?_cons_zero, List.getElem?_cons_succ, List.getElem?_nil, List.set_cons_zero, List.set_cons_succ, List.set_nil, List.length_set, List.length_append, Nat.add_sub_cancel, Nat.reduceAdd, Nat.reduceSub, Nat.reduceLT, Nat.reduceEqDiff, Nat.reduceLeDiff, Nat.le_refl, Nat.zero_le, if_true, if_false, ↓reduceIte, decide_eq_true_eq, Bool.false_eq_true, Bool.true_eq_false, Bool.not_true, Bool.not_false, Option.isSome_some, forall_const, not_true_eq_false, not_false_eq_true, imp_self, false_implies, true_implies, implies_true, and_true, true_and, Int.toNat_zero, Nat.zero_add, Int.reduceLE, Int.reduceLT, Int.reduceNeg, Int.reduceToNat, Int.reducePow, Int.reduceGT, Int.cast_ofNat_Int, true_or, or_true, Int.ofNat_eq_natCast, decide_true, decide_false, Int.reduceEq, List.isEmpty_cons, List.isEmpty_nil, eDGet1,  keyP, Option.map_some, Option.map_none, Option.getD_some, Option.isSome_some, reduceCtorEq, and_self,  allPure_nil, allPure_cons, Bool.and_true, Bool.true_and, Bool.false_and, Bool.and_false, Bool.not_eq_true, Bool.not_eq_false, gTupP_nil, gLstP_nil, gTupP_ok, gLstP_ok, isRef_tup, isRef_int, isRef_str, isRef_bl, Bool.or_false, Bool.or_true, Bool.true_or, Bool.false_or]
    exact ⟨⟨_, _, _, rfl⟩, h⟩
  | j :: js, S, x4, x6, x7, h => by
    rw [forF]
    simp only [wp_ok, wp_no, ↓wp_bind, ↓R.bind_ok, ↓sSeq, ↓sNil, ↓sSet, ↓sAsg, ↓sIf, ↓sRet, ↓sExpr, ↓sPar, ↓sPar3, ↓sFor, ↓nName, ↓nTup, ↓nCons, ↓nNil, ↓nNs, ↓eVar, ↓eC, ↓eOp, ↓eUn, ↓eArgs, ↓eNew, ↓aCons, ↓aNil, ↓tV, ↓tT, toB, truP, ↓tNotE, ↓tAndE, ↓tOrE, ↓tYesE, ↓eAndV, ↓eOrV, ↓eNotV, ↓eNotT, ↓eIf, gAdd_int, gAdd_tup, Py.gSub, gMul_l, gMul_r, gMod, gFdiv, gNeg, gLt, gLe, gGt, gGe, gInt, gEq_int, gEq_str, gEq_bl, gNe_int, gNe_str, gNe_bl, gIsN, gNotN, getQ, getL, ↓nSubL, gDivmod, gMin2, gMax2, ↓mkDef, ↓mkNew, startP, finF, finO, finV_tup, finV_int, finV_bl, finV_lst, finV_non, finV_str, finV_ref, ↓eChain, tyP, gIsi, isiB, ↓iArgs, ↓iSeq, iterP, ↓fComp, wipeP, ↓eSl, ↓oNone, ↓oSome, gSl, ↓eMeth0, ↓eMeth1, ixN, atI0, atI1, atI2, atI3, List.length_cons, List.length_nil, List.map_cons, List.map_nil, List.replicate, List.cons_append, List.nil_append, List.append_nil, List.getElem?_cons_zero, List.getElem?_cons_succ, List.getElem?_nil, List.set_cons_zero, List.set_cons_succ, List.set_nil, List.length_set, List.length_append, Nat.add_sub_cancel, Nat.reduceAdd, Nat.reduceSub, Nat.reduceLT, Nat.reduceEqDiff, Nat.reduceLeDiff, Nat.le_refl, Nat.zero_le, if_true, if_false, ↓reduceIte, decide_eq_true_eq, Bool.false_eq_true, Bool.true_eq_false, Bool.not_true, Bool.not_false, Option.isSome_some, forall_const, not_true_eq_false, not_false_eq_true, imp_self, false_implies, true_implies, implies_true, and_true, true_and, Int.toNat_zero, Nat.zero_add, Int.reduceLE, Int.reduceLT, Int.reduceNeg, Int.reduceToNat, Int.reducePow, Int.reduceGT, Int.cast_ofNat_Int, true_or, or_true, Int.ofNat_eq_natCast, decide_true, decide_false, Int.reduceEq, List.isEmpty_cons, List.isEmpty_nil, eDGet1,  keyP, Option.map_some, Option.map_none, Option.getD_some, Option.isSome_some, reduceCtorEq, and_self,  allPure_nil, allPure_cons, Bool.and_true, Bool.true_and, Bool.false_and, Bool.and_false, Bool.not_eq_true, Bool.not_eq_false, gTupP_nil, gLstP_nil, gTupP_ok, gLstP_ok, isRef_tup, isRef_int, isRef_str, isRef_bl, Bool.or_false, Bool.or_true, Bool.true_or, Bool.false_or]
    refine wp_of (draw_ok h.wd (m := (w : Nat)) (by omega) (by omega)) fun p S1 ⟨c, ek, c0, c1, wl1⟩ => ?_
    subst ek
    have h1 := h.wl wl1 hr
    have tp : gTupP [.int 0, .int 1, .int 2, .int 3, .int ((w : Nat) - 2), .int ((w : Nat) - 1), .int c] S1 = .ok (.tup [.int 0, .int 1, .int 2, .int 3, .int ((w : Nat) - 2), .int ((w : Nat) - 1), .int c]) S1 := gTupP_ok rfl (by simp)
    simp only [wp_ok, wp_no, ↓wp_bind, ↓R.bind_ok, ↓sSeq, ↓sNil, ↓sSet, ↓sAsg, ↓sIf, ↓sRet, ↓sExpr, ↓sPar, ↓sPar3, ↓sFor, ↓nName, ↓nTup, ↓nCons, ↓nNil, ↓nNs, ↓eVar, ↓eC, ↓eOp, ↓eUn, ↓eArgs, ↓eNew, ↓aCons, ↓aNil, ↓tV, ↓tT, toB, truP, ↓tNotE, ↓tAndE, ↓tOrE, ↓tYesE, ↓eAndV, ↓eOrV, ↓eNotV, ↓eNotT, ↓eIf, gAdd_int, gAdd_tup, Py.gSub, gMul_l, gMul_r, gMod, gFdiv, gNeg, gLt, gLe, gGt, gGe, gInt, gEq_int, gEq_str, gEq_bl, gNe_int, gNe_str, gNe_bl, gIsN, gNotN, getQ, getL, ↓nSubL, gDivmod, gMin2, gMax2, ↓mkDef, ↓mkNew, startP, finF, finO, finV_tup, finV_int, finV_bl, finV_lst, finV_non, finV_str, finV_ref, ↓eChain, tyP, gIsi, isiB, ↓iArgs, ↓iSeq, iterP, ↓fComp, wipeP, ↓eSl, ↓oNone, ↓oSome, gSl, ↓eMeth0, ↓eMeth1, ixN, atI0, atI1, atI2, atI3, List.length_cons, List.length_nil, List.map_cons, List.map_nil, List.replicate, List.cons_append, List.nil_append, List.append_nil, List.getElem?_cons_zero, List.getElem?_cons_succ, List.getElem?_nil, List.set_cons_zero, List.set_cons_succ, List.set_nil, List.length_set, List.length_append, Nat.add_sub_cancel, Nat.reduceAdd, Nat.reduceSub, Nat.reduceLT, Nat.reduceEqDiff, Nat.reduceLeDiff, Nat.le_refl, Nat.zero_le, if_true, if_false, ↓reduceIte, decide_eq_true_eq, Bool.false_eq_true, Bool.true_eq_false, Bool.not_true, Bool.not_false, Option.isSome_some, forall_const, not_true_eq_false, not_false_eq_true, imp_self, false_implies, true_implies, implies_true, and_true, true_and, Int.toNat_zero, Nat.zero_add, Int.reduceLE, Int.reduceLT, Int.reduceNeg, Int.reduceToNat, Int.reducePow, Int.reduceGT, Int.cast_ofNat_Int, true_or, or_true, Int.ofNat_eq_natCast, decide_true, decide_false, Int.reduceEq, List.isEmpty_cons, List.isEmpty_nil, eDGet1,  keyP, Option.map_some, Option.map_none, Option.getD_some, Option.isSome_some, reduceCtorEq, and_self,  allPure_nil, allPure_cons, Bool.and_true, Bool.true_and, Bool.false_and, Bool.and_false, Bool.not_eq_true, Bool.not_eq_false, gTupP_nil, gLstP_nil, gTupP_ok, gLstP_ok, isRef_tup, isRef_int, isRef_str, isRef_bl, Bool.or_false, Bool.or_true, Bool.true_or, Bool.false_or, tp]
    refine wp_of (pick_ok h1.wd (by simp) (by simp) (by simp [PV.isRef])) fun p S2 ⟨hp, wl2⟩ => ?_
    have : ∃ q : Nat, p = .int (q : Nat) ∧ q < w := by
      simp only [List.mem_cons, List.mem_nil_iff, or_false] at hp
      rcases hp with rfl | rfl | rfl | rfl | rfl | rfl | rfl
      · exact ⟨0, rfl, by omega⟩
      · exact ⟨1, rfl, by omega⟩
      · exact ⟨2, rfl, by omega⟩
      · exact ⟨3, rfl, by omega⟩
      · exact ⟨w - 2, by congr 1; omega, by omega⟩
      · exact ⟨w - 1, by congr 1; omega, by omega⟩
      · exact ⟨c.toNat, by congr 1; omega, by omega⟩
    obtain ⟨q, rfl, hq⟩ := this
    have h2 := h1.wl wl2 hr
    obtain ⟨ys, e2, ly⟩ := h2.o
    have r0 := rd (i := (q : Nat)) e2 (ix_nat (by omega))
    have ra := rd (i := 0) e2 (ix_nat (i := 0) (by omega))
    have rb := rd (i := 1) e2 (ix_nat (i := 1) (by omega))
    simp only [wp_ok, wp_no, ↓wp_bind, ↓R.bind_ok, ↓sSeq, ↓sNil, ↓sSet, ↓sAsg, ↓sIf, ↓sRet, ↓sExpr, ↓sPar, ↓sPar3, ↓sFor, ↓nName, ↓nTup, ↓nCons, ↓nNil, ↓nNs, ↓eVar, ↓eC, ↓eOp, ↓eUn, ↓eArgs, ↓eNew, ↓aCons, ↓aNil, ↓tV, ↓tT, toB, truP, ↓tNotE, ↓tAndE, ↓tOrE, ↓tYesE, ↓eAndV, ↓eOrV, ↓eNotV, ↓eNotT, ↓eIf, gAdd_int, gAdd_tup, Py.gSub, gMul_l, gMul_r, gMod, gFdiv, gNeg, gLt, gLe, gGt, gGe, gInt, gEq_int, gEq_str, gEq_bl, gNe_int, gNe_str, gNe_bl, gIsN, gNotN, getQ, getL, ↓nSubL, gDivmod, gMin2, gMax2, ↓mkDef, ↓mkNew, startP, finF, finO, finV_tup, finV_int, finV_bl, finV_lst, finV_non, finV_str, finV_ref, ↓eChain, tyP, gIsi, isiB, ↓iArgs, ↓iSeq, iterP, ↓fComp, wipeP, ↓eSl, ↓oNone, ↓oSome, gSl, ↓eMeth0, ↓eMeth1, ixN, atI0, atI1, atI2, atI3, List.length_cons, List.length_nil, List.map_cons, List.map_nil, List.replicate, List.cons_append, List.nil_append, List.append_nil, List.getElem?_cons_zero, List.getElem?_cons_succ, List.getElem?_nil, List.set_cons_zero, List.set_cons_succ, List.set_nil, List.length_set, List.length_append, Nat.add_sub_cancel, Nat.reduceAdd, Nat.reduceSub, Nat.reduceLT, Nat.reduceEqDiff, Nat.reduceLeDiff, Nat.le_refl, Nat.zero_le, if_true, if_false, ↓reduceIte, decide_eq_true_eq, Bool.false_eq_true, Bool.true_eq_false, Bool.not_true, Bool.not_false, Option.isSome_some, forall_const, not_true_eq_false, not_false_eq_true, imp_self, false_implies, true_implies, implies_true, and_true, true_and, Int.toNat_zero, Nat.zero_add, Int.reduceLE, Int.reduceLT, Int.reduceNeg, Int.reduceToNat, Int.reducePow, Int.reduceGT, Int.cast_ofNat_Int, true_or, or_true, Int.ofNat_eq_natCast, decide_true, decide_false, Int.reduceEq, List.isEmpty_cons, List.isEmpty_nil, eDGet1,  keyP, Option.map_some, Option.map_none, Option.getD_some, Option.isSome_some, reduceCtorEq, and_self,  allPure_nil, allPure_cons, Bool.and_true, Bool.true_and, Bool.false_and, Bool.and_false, Bool.not_eq_true, Bool.not_eq_false, gTupP_nil, gLstP_nil, gTupP_ok, gLstP_ok, isRef_tup, isRef_int, isRef_str, isRef_bl, Bool.or_false, Bool.or_true, Bool.true_or, Bool.false_or, r0, ra, rb]
    refine wp_of (number_ok h2.wd) fun p S3 ⟨⟨k, ek⟩, wl3⟩ => ?_
    subst ek
    have h3 := h2.wl wl3 hr
    have tp2 := fun (a b c d e f : Int) => gTupP_ok (S := S3) (ps := [.int a, .int b, .int c, .int d, .int e, .int f, .int k]) rfl (by simp)
    simp only [wp_ok, wp_no, ↓wp_bind, ↓R.bind_ok, ↓sSeq, ↓sNil, ↓sSet, ↓sAsg, ↓sIf, ↓sRet, ↓sExpr, ↓sPar, ↓sPar3, ↓sFor, ↓nName, ↓nTup, ↓nCons, ↓nNil, ↓nNs, ↓eVar, ↓eC, ↓eOp, ↓eUn, ↓eArgs, ↓eNew, ↓aCons, ↓aNil, ↓tV, ↓tT, toB, truP, ↓tNotE, ↓tAndE, ↓tOrE, ↓tYesE, ↓eAndV, ↓eOrV, ↓eNotV, ↓eNotT, ↓eIf, gAdd_int, gAdd_tup, Py.gSub, gMul_l, gMul_r, gMod, gFdiv, gNeg, gLt, gLe, gGt, gGe, gInt, gEq_int, gEq_str, gEq_bl, gNe_int, gNe_str, gNe_bl, gIsN, gNotN, getQ, getL, ↓nSubL, gDivmod, gMin2, gMax2, ↓mkDef, ↓mkNew, startP, finF, finO, finV_tup, finV_int, finV_bl, finV_lst, finV_non, finV_str, finV_ref, ↓eChain, tyP, gIsi, isiB, ↓iArgs, ↓iSeq, iterP, ↓fComp, wipeP, ↓eSl, ↓oNone, ↓oSome, gSl, ↓eMeth0, ↓eMeth1, ixN, atI0, atI1, atI2, atI3, List.length_cons, List.length_nil, List.map_cons, List.map_nil, List.replicate, List.cons_append, List.nil_append, List.append_nil, List.getElem?_cons_zero, List.getElem?_cons_succ, List.getElem?_nil, List.set_cons_zero, List.set_cons_succ, List.set_nil, List.length_set, List.length_append, Nat.add_sub_cancel, Nat.reduceAdd, Nat.reduceSub, Nat.reduceLT, Nat.reduceEqDiff, Nat.reduceLeDiff, Nat.le_refl, Nat.zero_le, if_true, if_false, ↓reduceIte, decide_eq_true_eq, Bool.false_eq_true, Bool.true_eq_false, Bool.not_true, Bool.not_false, Option.isSome_some, forall_const, not_true_eq_false, not_false_eq_true, imp_self, false_implies, true_implies, implies_true, and_true, true_and, Int.toNat_zero, Nat.zero_add, Int.reduceLE, Int.reduceLT, Int.reduceNeg, Int.reduceToNat, Int.reducePow, Int.reduceGT, Int.cast_ofNat_Int, true_or, or_true, Int.ofNat_eq_natCast, decide_true, decide_false, Int.reduceEq, List.isEmpty_cons, List.isEmpty_nil, eDGet1,  keyP, Option.map_some, Option.map_none, Option.getD_some, Option.isSome_some, reduceCtorEq, and_self,  allPure_nil, allPure_cons, Bool.and_true, Bool.true_and, Bool.false_and, Bool.and_false, Bool.not_eq_true, Bool.not_eq_false, gTupP_nil, gLstP_nil, gTupP_ok, gLstP_ok, isRef_tup, isRef_int, isRef_str, isRef_bl, Bool.or_false, Bool.or_true, Bool.true_or, Bool.false_or, tp2]
    refine wp_of (pick_ok h3.wd (by simp) (by simp) (by simp [PV.isRef])) fun p S4 ⟨hp, wl4⟩ => ?_
    have : ∃ v : Int, p = .int v := by
      simp only [List.mem_cons, List.mem_nil_iff, or_false] at hp
      rcases hp with rfl | rfl | rfl | rfl | rfl | rfl | rfl <;> exact ⟨_, rfl⟩
    obtain ⟨v, rfl⟩ := this
    have h4 := h3.wl wl4 hr
    have e4 : S4[r]? = some (.lst (ip ys)) := by rw [wl4.get hr, wl3.get hr]; exact e2
    have ws := wrt (i := (q : Nat)) (v := v) e4 (ix_nat (by omega))
    simp only [wp_ok, wp_no, ↓wp_bind, ↓R.bind_ok, ↓sSeq, ↓sNil, ↓sSet, ↓sAsg, ↓sIf, ↓sRet, ↓sExpr, ↓sPar, ↓sPar3, ↓sFor, ↓nName, ↓nTup, ↓nCons, ↓nNil, ↓nNs, ↓eVar, ↓eC, ↓eOp, ↓eUn, ↓eArgs, ↓eNew, ↓aCons, ↓aNil, ↓tV, ↓tT, toB, truP, ↓tNotE, ↓tAndE, ↓tOrE, ↓tYesE, ↓eAndV, ↓eOrV, ↓eNotV, ↓eNotT, ↓eIf, gAdd_int, gAdd_tup, Py.gSub, gMul_l, gMul_r, gMod, gFdiv, gNeg, gLt, gLe, gGt, gGe, gInt, gEq_int, gEq_str, gEq_bl, gNe_int, gNe_str, gNe_bl, gIsN, gNotN, getQ, getL, ↓nSubL, gDivmod, gMin2, gMax2, ↓mkDef, ↓mkNew, startP, finF, finO, finV_tup, finV_int, finV_bl, finV_lst, finV_non, finV_str, finV_ref, ↓eChain, tyP, gIsi, isiB, ↓iArgs, ↓iSeq, iterP, ↓fComp, wipeP, ↓eSl, ↓oNone, ↓oSome, gSl, ↓eMeth0, ↓eMeth1, ixN, atI0, atI1, atI2, atI3, List.length_cons, List.length_nil, List.map_cons, List.map_nil, List.replicate, List.cons_append, List.nil_append, List.append_nil, List.getElem?_cons_zero, List.getElem?_cons_succ, List.getElem?_nil, List.set_cons_zero, List.set_cons_succ, List.set_nil, List.length_set, List.length_append, Nat.add_sub_cancel, Nat.reduceAdd, Nat.reduceSub, Nat.reduceLT, Nat.reduceEqDiff, Nat.reduceLeDiff, Nat.le_refl, Nat.zero_le, if_true, if_false, ↓reduceIte, decide_eq_true_eq, Bool.false_eq_true, Bool.true_eq_false, Bool.not_true, Bool.not_false, Option.isSome_some, forall_const, not_true_eq_false, not_false_eq_true, imp_self, false_implies, true_implies, implies_true, and_true, true_and, Int.toNat_zero, Nat.zero_add, Int.reduceLE, Int.reduceLT, Int.reduceNeg, Int.reduceToNat, Int.reducePow, Int.reduceGT, Int.cast_ofNat_Int, true_or, or_true, Int.ofNat_eq_natCast, decide_true, decide_false, Int.reduceEq, List.isEmpty_cons, List.isEmpty_nil, eDGet1,  keyP, Option.map_some, Option.map_none, Option.getD_some, Option.isSome_some, reduceCtorEq, and_self,  allPure_nil, allPure_cons, Bool.and_true, Bool.true_and, Bool.false_and, Bool.and_false, Bool.not_eq_true, Bool.not_eq_false, gTupP_nil, gLstP_nil, gTupP_ok, gLstP_ok, isRef_tup, isRef_int, isRef_str, isRef_bl, Bool.or_false, Bool.or_true, Bool.true_or, Bool.false_or, ws]
    exact turn_loop hr w0 w1 js _ _ _ _ (h4.set hr (by simpa using ly))
theorem turned_ok {n r w : Nat} {S : Sto} (hr : r ≠ n) (w0 : 30 ≤ w) (w1 : w ≤ 36) (hw : Well S n) {xs : List Int} (ex : S[r]? = some (.lst (ip xs))) (lx : xs.length = w) : WP (m__law_turned [.ref n, .ref r] S) fun p S' => p = .ref r ∧ Tn n r w S S' := by
  have h : Tn n r w S S := ⟨rfl, fun _ _ _ => rfl, hw, xs, ex, lx⟩
  have hrl : r < S.length := (List.getElem?_eq_some_iff.mp ex).1
  have gl := gLen_o ex
  rw [lx] at gl
  have fv : ∀ S' : Sto, Tn n r w S S' → WP (finV S.length (.ref r) S') fun p S' => p = .ref r ∧ Tn n r w S S' := fun S' t => by
    rw [finV_ref, if_pos hrl]
    simp only [wp_ok, wp_no, ↓wp_bind, ↓R.bind_ok, ↓sSeq, ↓sNil, ↓sSet, ↓sAsg, ↓sIf, ↓sRet, ↓sExpr, ↓sPar, ↓sPar3, ↓sFor, ↓nName, ↓nTup, ↓nCons, ↓nNil, ↓nNs, ↓eVar, ↓eC, ↓eOp, ↓eUn, ↓eArgs, ↓eNew, ↓aCons, ↓aNil, ↓tV, ↓tT, toB, truP, ↓tNotE, ↓tAndE, ↓tOrE, ↓tYesE, ↓eAndV, ↓eOrV, ↓eNotV, ↓eNotT, ↓eIf, gAdd_int, gAdd_tup, Py.gSub, gMul_l, gMul_r, gMod, gFdiv, gNeg, gLt, gLe, gGt, gGe, gInt, gIx, gEq_int, gEq_str, gEq_bl, gNe_int, gNe_str, gNe_bl, gIsN, gNotN, getQ, getL, gSetL, ↓nSubL, gDivmod, gMin2, gMax2, ↓mkDef, ↓mkNew, startP, finF, finO, finV_tup, finV_int, finV_bl, finV_lst, finV_non, finV_str, finV_ref, ↓eChain, tyP, gIsi, isiB, ↓iArgs, ↓iSeq, iterP, ↓fComp, wipeP, ↓eSl, ↓oNone, ↓oSome, gSl, ↓eMeth0, ↓eMeth1, ixN, atI0, atI1, atI2, atI3, List.length_cons, List.length_nil, List.map_cons, List.map_nil, List.replicate, List.cons_append, List.nil_append, List.append_nil, List.getElem?_cons_zero, List.getElem?_cons_succ, List.getElem?_nil, List.set_cons_zero, List.set_cons_succ, List.set_nil, List.length_set, List.length_append, Nat.add_sub_cancel, Nat.reduceAdd, Nat.reduceSub, Nat.reduceLT, Nat.reduceEqDiff, Nat.reduceLeDiff, Nat.le_refl, Nat.zero_le, if_true, if_false, ↓reduceIte, decide_eq_true_eq, Bool.false_eq_true, Bool.true_eq_false, Bool.not_true, Bool.not_false, Option.isSome_some, forall_const, not_true_eq_false, not_false_eq_true, imp_self, false_implies, true_implies, implies_true, and_true, true_and, Int.toNat_zero, Nat.zero_add, Int.reduceLE, Int.reduceLT, Int.reduceNeg, Int.reduceToNat, Int.reducePow, Int.reduceGT, Int.cast_ofNat_Int, true_or, or_true, Int.ofNat_eq_natCast, decide_true, decide_false, Int.reduceEq, List.isEmpty_cons, List.isEmpty_nil, eDGet1,  keyP, Option.map_some, Option.map_none, Option.getD_some, Option.isSome_some, reduceCtorEq, and_self,  allPure_nil, allPure_cons, Bool.and_true, Bool.true_and, Bool.false_and, Bool.and_false, Bool.not_eq_true, Bool.not_eq_false, gTupP_nil, gLstP_nil, gTupP_ok, gLstP_ok, isRef_tup, isRef_int, isRef_str, isRef_bl, Bool.or_false, Bool.or_true, Bool.true_or, Bool.false_or]
    rw [← t.len, take_self]
    exact t
  unfold m__law_turned b__law_turned
  simp only [wp_ok, wp_no, ↓wp_bind, ↓R.bind_ok, ↓sSeq, ↓sNil, ↓sSet, ↓sAsg, ↓sIf, ↓sRet, ↓sExpr, ↓sPar, ↓sPar3, ↓sFor, ↓nName, ↓nTup, ↓nCons, ↓nNil, ↓nNs, ↓eVar, ↓eC, ↓eOp, ↓eUn, ↓eArgs, ↓eNew, ↓aCons, ↓aNil, ↓tV, ↓tT, toB, truP, ↓tNotE, ↓tAndE, ↓tOrE, ↓tYesE, ↓eAndV, ↓eOrV, ↓eNotV, ↓eNotT, ↓eIf, gAdd_int, gAdd_tup, Py.gSub, gMul_l, gMul_r, gMod, gFdiv, gNeg, gLt, gLe, gGt, gGe, gInt, gEq_int, gEq_str, gEq_bl, gNe_int, gNe_str, gNe_bl, gIsN, gNotN, getQ, getL, ↓nSubL, gDivmod, gMin2, gMax2, ↓mkDef, ↓mkNew, startP, finF, finO, finV_tup, finV_int, finV_bl, finV_lst, finV_non, finV_str, finV_ref, ↓eChain, tyP, gIsi, isiB, ↓iArgs, ↓iSeq, iterP, ↓fComp, wipeP, ↓eSl, ↓oNone, ↓oSome, gSl, ↓eMeth0, ↓eMeth1, ixN, atI0, atI1, atI2, atI3, List.length_cons, List.length_nil, List.map_cons, List.map_nil, List.replicate, List.cons_append, List.nil_append, List.append_nil, List.getElem?_cons_zero, List.getElem?_cons_succ, List.getElem?_nil, List.set_cons_zero, List.set_cons_succ, List.set_nil, List.length_set, List.length_append, Nat.add_sub_cancel, Nat.reduceAdd, Nat.reduceSub, Nat.reduceLT, Nat.reduceEqDiff, Nat.reduceLeDiff, Nat.le_refl, Nat.zero_le, if_true, if_false, ↓reduceIte, decide_eq_true_eq, Bool.false_eq_true, Bool.true_eq_false, Bool.not_true, Bool.not_false, Option.isSome_some, forall_const, not_true_eq_false, not_false_eq_true, imp_self, false_implies, true_implies, implies_true, and_true, true_and, Int.toNat_zero, Nat.zero_add, Int.reduceLE, Int.reduceLT, Int.reduceNeg, Int.reduceToNat, Int.reducePow, Int.reduceGT, Int.cast_ofNat_Int, true_or, or_true, Int.ofNat_eq_natCast, decide_true, decide_false, Int.reduceEq, List.isEmpty_cons, List.isEmpty_nil, eDGet1,  keyP, Option.map_some, Option.map_none, Option.getD_some, Option.isSome_some, reduceCtorEq, and_self,  allPure_nil, allPure_cons, Bool.and_true, Bool.true_and, Bool.false_and, Bool.and_false, Bool.not_eq_true, Bool.not_eq_false, gTupP_nil, gLstP_nil, gTupP_ok, gLstP_ok, isRef_tup, isRef_int, isRef_str, isRef_bl, Bool.or_false, Bool.or_true, Bool.true_or, Bool.false_or, gl]
  refine wp_of (draw_ok hw (m := 6) (by omega) (by omega)) fun p S1 ⟨k, ek, k0, k1, wl1⟩ => ?_
  subst ek
  have h1 := h.wl wl1 hr
  have e1 : S1[r]? = some (.lst (ip xs)) := by rw [wl1.get hr]; exact ex
  by_cases c0 : k = 0
  · have tp : gTupP [.int 1, .int (-1)] S1 = .ok (.tup [.int 1, .int (-1)]) S1 := gTupP_ok rfl (by simp)
    simp only [wp_ok, wp_no, ↓wp_bind, ↓R.bind_ok, ↓sSeq, ↓sNil, ↓sSet, ↓sAsg, ↓sIf, ↓sRet, ↓sExpr, ↓sPar, ↓sPar3, ↓sFor, ↓nName, ↓nTup, ↓nCons, ↓nNil, ↓nNs, ↓eVar, ↓eC, ↓eOp, ↓eUn, ↓eArgs, ↓eNew, ↓aCons, ↓aNil, ↓tV, ↓tT, toB, truP, ↓tNotE, ↓tAndE, ↓tOrE, ↓tYesE, ↓eAndV, ↓eOrV, ↓eNotV, ↓eNotT, ↓eIf, gAdd_int, gAdd_tup, Py.gSub, gMul_l, gMul_r, gMod, gFdiv, gNeg, gLt, gLe, gGt, gGe, gInt, gEq_int, gEq_str, gEq_bl, gNe_int, gNe_str, gNe_bl, gIsN, gNotN, getQ, getL, ↓nSubL, gDivmod, gMin2, gMax2, ↓mkDef, ↓mkNew, startP, finF, finO, finV_tup, finV_int, finV_bl, finV_lst, finV_non, finV_str, ↓eChain, tyP, gIsi, isiB, ↓iArgs, ↓iSeq, iterP, ↓fComp, wipeP, ↓eSl, ↓oNone, ↓oSome, gSl, ↓eMeth0, ↓eMeth1, ixN, atI0, atI1, atI2, atI3, List.length_cons, List.length_nil, List.map_cons, List.map_nil, List.replicate, List.cons_append, List.nil_append, List.append_nil, List.getElem?_cons_zero, List.getElem?_cons_succ, List.getElem?_nil, List.set_cons_zero, List.set_cons_succ, List.set_nil, List.length_set, List.length_append, Nat.add_sub_cancel, Nat.reduceAdd, Nat.reduceSub, Nat.reduceLT, Nat.reduceEqDiff, Nat.reduceLeDiff, Nat.le_refl, Nat.zero_le, if_true, if_false, ↓reduceIte, decide_eq_true_eq, Bool.false_eq_true, Bool.true_eq_false, Bool.not_true, Bool.not_false, Option.isSome_some, forall_const, not_true_eq_false, not_false_eq_true, imp_self, false_implies, true_implies, implies_true, and_true, true_and, Int.toNat_zero, Nat.zero_add, Int.reduceLE, Int.reduceLT, Int.reduceNeg, Int.reduceToNat, Int.reducePow, Int.reduceGT, Int.cast_ofNat_Int, true_or, or_true, Int.ofNat_eq_natCast, decide_true, decide_false, Int.reduceEq, List.isEmpty_cons, List.isEmpty_nil, eDGet1,  keyP, Option.map_some, Option.map_none, Option.getD_some, Option.isSome_some, reduceCtorEq, and_self,  allPure_nil, allPure_cons, Bool.and_true, Bool.true_and, Bool.false_and, Bool.and_false, Bool.not_eq_true, Bool.not_eq_false, gTupP_nil, gLstP_nil, gTupP_ok, gLstP_ok, isRef_tup, isRef_int, isRef_str, isRef_bl, Bool.or_false, Bool.or_true, Bool.true_or, Bool.false_or, c0, tp]
    refine wp_of (pick_ok h1.wd (by simp) (by simp) (by simp [PV.isRef])) fun p S2 ⟨hp, wl2⟩ => ?_
    have : ∃ v : Int, p = .int v := by
      simp only [List.mem_cons, List.mem_nil_iff, or_false] at hp
      rcases hp with rfl | rfl <;> exact ⟨_, rfl⟩
    obtain ⟨v, rfl⟩ := this
    have h2 := h1.wl wl2 hr
    have e2 : S2[r]? = some (.lst (ip xs)) := by rw [wl2.get hr]; exact e1
    have ra := rd (i := 1) e2 (ix_nat (i := 1) (by omega))
    have rb := rd (i := 2) e2 (ix_nat (i := 2) (by omega))
    have tp2 := fun (a b : Int) => gTupP_ok (S := S2) (ps := [.int a, .int b]) rfl (by simp)
    have wa := wrt (i := 1) (v := xs.getD 1 0 + v) e2 (ix_nat (i := 1) (by omega))
    have hs := h2.set hr (ys := xs.set 1 (xs.getD 1 0 + v)) (by simpa using lx)
    have es : (S2.set r (.lst (ip (xs.set 1 (xs.getD 1 0 + v)))))[r]? = some (.lst (ip (xs.set 1 (xs.getD 1 0 + v)))) := List.getElem?_set_self (by rw [h2.len]; exact hrl)
    have wb := wrt (i := 2) (v := xs.getD 2 0 + v) es (ix_nat (i := 2) (by simp; omega))
    simp only [wp_ok, wp_no, ↓wp_bind, ↓R.bind_ok, ↓sSeq, ↓sNil, ↓sSet, ↓sAsg, ↓sIf, ↓sRet, ↓sExpr, ↓sPar, ↓sPar3, ↓sFor, ↓nName, ↓nTup, ↓nCons, ↓nNil, ↓nNs, ↓eVar, ↓eC, ↓eOp, ↓eUn, ↓eArgs, ↓eNew, ↓aCons, ↓aNil, ↓tV, ↓tT, toB, truP, ↓tNotE, ↓tAndE, ↓tOrE, ↓tYesE, ↓eAndV, ↓eOrV, ↓eNotV, ↓eNotT, ↓eIf, gAdd_int, gAdd_tup, Py.gSub, gMul_l, gMul_r, gMod, gFdiv, gNeg, gLt, gLe, gGt, gGe, gInt, gEq_int, gEq_str, gEq_bl, gNe_int, gNe_str, gNe_bl, gIsN, gNotN, getQ, getL, ↓nSubL, gDivmod, gMin2, gMax2, ↓mkDef, ↓mkNew, startP, finF, finO, finV_tup, finV_int, finV_bl, finV_lst, finV_non, finV_str, ↓eChain, tyP, gIsi, isiB, ↓iArgs, ↓iSeq, iterP, ↓fComp, wipeP, ↓eSl, ↓oNone, ↓oSome, gSl, ↓eMeth0, ↓eMeth1, ixN, atI0, atI1, atI2, atI3, List.length_cons, List.length_nil, List.map_cons, List.map_nil, List.replicate, List.cons_append, List.nil_append, List.append_nil, List.getElem?_cons_zero, List.getElem?_cons_succ, List.getElem?_nil, List.set_cons_zero, List.set_cons_succ, List.set_nil, List.length_set, List.length_append, Nat.add_sub_cancel, Nat.reduceAdd, Nat.reduceSub, Nat.reduceLT, Nat.reduceEqDiff, Nat.reduceLeDiff, Nat.le_refl, Nat.zero_le, if_true, if_false, ↓reduceIte, decide_eq_true_eq, Bool.false_eq_true, Bool.true_eq_false, Bool.not_true, Bool.not_false, Option.isSome_some, forall_const, not_true_eq_false, not_false_eq_true, imp_self, false_implies, true_implies, implies_true, and_true, true_and, Int.toNat_zero, Nat.zero_add, Int.reduceLE, Int.reduceLT, Int.reduceNeg, Int.reduceToNat, Int.reducePow, Int.reduceGT, Int.cast_ofNat_Int, true_or, or_true, Int.ofNat_eq_natCast, decide_true, decide_false, Int.reduceEq, List.isEmpty_cons, List.isEmpty_nil, eDGet1,  keyP, Option.map_some, Option.map_none, Option.getD_some, Option.isSome_some, reduceCtorEq, and_self,  allPure_nil, allPure_cons, Bool.and_true, Bool.true_and, Bool.false_and, Bool.and_false, Bool.not_eq_true, Bool.not_eq_false, gTupP_nil, gLstP_nil, gTupP_ok, gLstP_ok, isRef_tup, isRef_int, isRef_str, isRef_bl, Bool.or_false, Bool.or_true, Bool.true_or, Bool.false_or, ra, rb, tp2, wa, wb]
    exact fv _ (hs.set hr (by simpa using lx))
  by_cases c1 : k = 1
  · subst c1
    simp only [wp_ok, wp_no, ↓wp_bind, ↓R.bind_ok, ↓sSeq, ↓sNil, ↓sSet, ↓sAsg, ↓sIf, ↓sRet, ↓sExpr, ↓sPar, ↓sPar3, ↓sFor, ↓nName, ↓nTup, ↓nCons, ↓nNil, ↓nNs, ↓eVar, ↓eC, ↓eOp, ↓eUn, ↓eArgs, ↓eNew, ↓aCons, ↓aNil, ↓tV, ↓tT, toB, truP, ↓tNotE, ↓tAndE, ↓tOrE, ↓tYesE, ↓eAndV, ↓eOrV, ↓eNotV, ↓eNotT, ↓eIf, gAdd_int, gAdd_tup, Py.gSub, gMul_l, gMul_r, gMod, gFdiv, gNeg, gLt, gLe, gGt, gGe, gInt, gEq_int, gEq_str, gEq_bl, gNe_int, gNe_str, gNe_bl, gIsN, gNotN, getQ, getL, ↓nSubL, gDivmod, gMin2, gMax2, ↓mkDef, ↓mkNew, startP, finF, finO, finV_tup, finV_int, finV_bl, finV_lst, finV_non, finV_str, ↓eChain, tyP, gIsi, isiB, ↓iArgs, ↓iSeq, iterP, ↓fComp, wipeP, ↓eSl, ↓oNone, ↓oSome, gSl, ↓eMeth0, ↓eMeth1, ixN, atI0, atI1, atI2, atI3, List.length_cons, List.length_nil, List.map_cons, List.map_nil, List.replicate, List.cons_append, List.nil_append, List.append_nil, List.getElem?_cons_zero, List.getElem?_cons_succ, List.getElem?_nil, List.set_cons_zero, List.set_cons_succ, List.set_nil, List.length_set, List.length_append, Nat.add_sub_cancel, Nat.reduceAdd, Nat.reduceSub, Nat.reduceLT, Nat.reduceEqDiff, Nat.reduceLeDiff, Nat.le_refl, Nat.zero_le, if_true, if_false, ↓reduceIte, decide_eq_true_eq, Bool.false_eq_true, Bool.true_eq_false, Bool.not_true, Bool.not_false, Option.isSome_some, forall_const, not_true_eq_false, not_false_eq_true, imp_self, false_implies, true_implies, implies_true, and_true, true_and, Int.toNat_zero, Nat.zero_add, Int.reduceLE, Int.reduceLT, Int.reduceNeg, Int.reduceToNat, Int.reducePow, Int.reduceGT, Int.cast_ofNat_Int, true_or, or_true, Int.ofNat_eq_natCast, decide_true, decide_false, Int.reduceEq, List.isEmpty_cons, List.isEmpty_nil, eDGet1,  keyP, Option.map_some, Option.map_none, Option.getD_some, Option.isSome_some, reduceCtorEq, and_self,  allPure_nil, allPure_cons, Bool.and_true, Bool.true_and, Bool.false_and, Bool.and_false, Bool.not_eq_true, Bool.not_eq_false, gTupP_nil, gLstP_nil, gTupP_ok, gLstP_ok, isRef_tup, isRef_int, isRef_str, isRef_bl, Bool.or_false, Bool.or_true, Bool.true_or, Bool.false_or, c0]
    refine wp_of (draw_ok h1.wd (m := 2) (by omega) (by omega)) fun p S2 ⟨u, ek, _, _, wl2⟩ => ?_
    subst ek
    have h2 := h1.wl wl2 hr
    have e2 : S2[r]? = some (.lst (ip xs)) := by rw [wl2.get hr]; exact e1
    have ra := rd (i := 0) e2 (ix_nat (i := 0) (by omega))
    have rb := rd (i := 2) e2 (ix_nat (i := 2) (by omega))
    have rc := rd (i := -1) e2 (ix_m1 (by omega))
    have tp2 := fun (a b c : Int) => gTupP_ok (S := S2) (ps := [.int a, .int b, .int c]) rfl (by simp)
    let y1 : Int → List Int := fun v => xs.set 0 (xs.getD 0 0 - v)
    let y2 : Int → List Int := fun v => (y1 v).set 2 (xs.getD 2 0 - v)
    let y3 : Int → List Int := fun v => (y2 v).set (xs.length - 1) (xs.getD (xs.length - 1) 0 - v)
    have l1 : ∀ v, (y1 v).length = w := fun v => by simpa [y1] using lx
    have l2 : ∀ v, (y2 v).length = w := fun v => by simpa [y2] using l1 v
    have l3 : ∀ v, (y3 v).length = w := fun v => by simpa [y3] using l2 v
    have wa : ∀ v, gSetL (.ref r) (.int 0) (.int (xs.getD 0 0 - v)) S2 = .ok .non (S2.set r (.lst (ip (y1 v)))) := fun v => wrt (i := 0) e2 (ix_nat (i := 0) (by omega))
    have hs : ∀ v, Tn n r w S (S2.set r (.lst (ip (y1 v)))) := fun v => h2.set hr (l1 v)
    have es : ∀ v, (S2.set r (.lst (ip (y1 v))))[r]? = some (.lst (ip (y1 v))) := fun v => List.getElem?_set_self (by rw [h2.len]; exact hrl)
    have wb : ∀ v, gSetL (.ref r) (.int 2) (.int (xs.getD 2 0 - v)) (S2.set r (.lst (ip (y1 v)))) = .ok .non (S2.set r (.lst (ip (y2 v)))) := fun v => by
      rw [wrt (i := 2) (es v) (ix_nat (i := 2) (by rw [l1]; omega)), List.set_set]
    have hs2 : ∀ v, Tn n r w S (S2.set r (.lst (ip (y2 v)))) := fun v => h2.set hr (l2 v)
    have es2 : ∀ v, (S2.set r (.lst (ip (y2 v))))[r]? = some (.lst (ip (y2 v))) := fun v => List.getElem?_set_self (by rw [h2.len]; exact hrl)
    have wc : ∀ v, gSetL (.ref r) (.int (-1)) (.int (xs.getD (xs.length - 1) 0 - v)) (S2.set r (.lst (ip (y2 v)))) = .ok .non (S2.set r (.lst (ip (y3 v)))) := fun v => by
      rw [wrt (i := -1) (es2 v) (ix_m1 (by rw [l2]; omega)), List.set_set, l2 v, ← lx]
    have hs3 : ∀ v, Tn n r w S (S2.set r (.lst (ip (y3 v)))) := fun v => h2.set hr (l3 v)
    clear_value y1 y2 y3
    by_cases hu : u = 0
    · simp only [wp_ok, wp_no, ↓wp_bind, ↓R.bind_ok, ↓sSeq, ↓sNil, ↓sSet, ↓sAsg, ↓sIf, ↓sRet, ↓sExpr, ↓sPar, ↓sPar3, ↓sFor, ↓nName, ↓nTup, ↓nCons, ↓nNil, ↓nNs, ↓eVar, ↓eC, ↓eOp, ↓eUn, ↓eArgs, ↓eNew, ↓aCons, ↓aNil, ↓tV, ↓tT, toB, truP, ↓tNotE, ↓tAndE, ↓tOrE, ↓tYesE, ↓eAndV, ↓eOrV, ↓eNotV, ↓eNotT, ↓eIf, gAdd_int, gAdd_tup, Py.gSub, gMul_l, gMul_r, gMod, gFdiv, gNeg, gLt, gLe, gGt, gGe, gInt, gEq_int, gEq_str, gEq_bl, gNe_int, gNe_str, gNe_bl, gIsN, gNotN, getQ, getL, ↓nSubL, gDivmod, gMin2, gMax2, ↓mkDef, ↓mkNew, startP, finF, finO, finV_tup, finV_int, finV_bl, finV_lst, finV_non, finV_str, ↓eChain, tyP, gIsi, isiB, ↓iArgs, ↓iSeq, iterP, ↓fComp, wipeP, ↓eSl, ↓oNone, ↓oSome, gSl, ↓eMeth0, ↓eMeth1, ixN, atI0, atI1, atI2, atI3, List.length_cons, List.length_nil, List.map_cons, List.map_nil, List.replicate, List.cons_append, List.nil_append, List.append_nil, List.getElem?_cons_zero, List.getElem?_cons_succ, List.getElem?_nil, List.set_cons_zero, List.set_cons_succ, List.set_nil, List.length_set, List.length_append, Nat.add_sub_cancel, Nat.reduceAdd, Nat.reduceSub, Nat.reduceLT, Nat.reduceEqDiff, Nat.reduceLeDiff, Nat.le_refl, Nat.zero_le, if_true, if_false, ↓reduceIte, decide_eq_true_eq, Bool.false_eq_true, Bool.true_eq_false, Bool.not_true, Bool.not_false, Option.isSome_some, forall_const, not_true_eq_false, not_false_eq_true, imp_self, false_implies, true_implies, implies_true, and_true, true_and, Int.toNat_zero, Nat.zero_add, Int.reduceLE, Int.reduceLT, Int.reduceNeg, Int.reduceToNat, Int.reducePow, Int.reduceGT, Int.cast_ofNat_Int, true_or, or_true, Int.ofNat_eq_natCast, decide_true, decide_false, Int.reduceEq, List.isEmpty_cons, List.isEmpty_nil, eDGet1,  keyP, Option.map_some, Option.map_none, Option.getD_some, Option.isSome_some, reduceCtorEq, and_self,  allPure_nil, allPure_cons, Bool.and_true, Bool.true_and, Bool.false_and, Bool.and_false, Bool.not_eq_true, Bool.not_eq_false, gTupP_nil, gLstP_nil, gTupP_ok, gLstP_ok, isRef_tup, isRef_int, isRef_str, isRef_bl, Bool.or_false, Bool.or_true, Bool.true_or, Bool.false_or, hu, ra, rb, rc, tp2, wa, wb, wc]
      exact fv _ (hs3 _)
    · simp only [wp_ok, wp_no, ↓wp_bind, ↓R.bind_ok, ↓sSeq, ↓sNil, ↓sSet, ↓sAsg, ↓sIf, ↓sRet, ↓sExpr, ↓sPar, ↓sPar3, ↓sFor, ↓nName, ↓nTup, ↓nCons, ↓nNil, ↓nNs, ↓eVar, ↓eC, ↓eOp, ↓eUn, ↓eArgs, ↓eNew, ↓aCons, ↓aNil, ↓tV, ↓tT, toB, truP, ↓tNotE, ↓tAndE, ↓tOrE, ↓tYesE, ↓eAndV, ↓eOrV, ↓eNotV, ↓eNotT, ↓eIf, gAdd_int, gAdd_tup, Py.gSub, gMul_l, gMul_r, gMod, gFdiv, gNeg, gLt, gLe, gGt, gGe, gInt, gEq_int, gEq_str, gEq_bl, gNe_int, gNe_str, gNe_bl, gIsN, gNotN, getQ, getL, ↓nSubL, gDivmod, gMin2, gMax2, ↓mkDef, ↓mkNew, startP, finF, finO, finV_tup, finV_int, finV_bl, finV_lst, finV_non, finV_str, ↓eChain, tyP, gIsi, isiB, ↓iArgs, ↓iSeq, iterP, ↓fComp, wipeP, ↓eSl, ↓oNone, ↓oSome, gSl, ↓eMeth0, ↓eMeth1, ixN, atI0, atI1, atI2, atI3, List.length_cons, List.length_nil, List.map_cons, List.map_nil, List.replicate, List.cons_append, List.nil_append, List.append_nil, List.getElem?_cons_zero, List.getElem?_cons_succ, List.getElem?_nil, List.set_cons_zero, List.set_cons_succ, List.set_nil, List.length_set, List.length_append, Nat.add_sub_cancel, Nat.reduceAdd, Nat.reduceSub, Nat.reduceLT, Nat.reduceEqDiff, Nat.reduceLeDiff, Nat.le_refl, Nat.zero_le, if_true, if_false, ↓reduceIte, decide_eq_true_eq, Bool.false_eq_true, Bool.true_eq_false, Bool.not_true, Bool.not_false, Option.isSome_some, forall_const, not_true_eq_false, not_false_eq_true, imp_self, false_implies, true_implies, implies_true, and_true, true_and, Int.toNat_zero, Nat.zero_add, Int.reduceLE, Int.reduceLT, Int.reduceNeg, Int.reduceToNat, Int.reducePow, Int.reduceGT, Int.cast_ofNat_Int, true_or, or_true, Int.ofNat_eq_natCast, decide_true, decide_false, Int.reduceEq, List.isEmpty_cons, List.isEmpty_nil, eDGet1,  keyP, Option.map_some, Option.map_none, Option.getD_some, Option.isSome_some, reduceCtorEq, and_self,  allPure_nil, allPure_cons, Bool.and_true, Bool.true_and, Bool.false_and, Bool.and_false, Bool.not_eq_true, Bool.not_eq_false, gTupP_nil, gLstP_nil, gTupP_ok, gLstP_ok, isRef_tup, isRef_int, isRef_str, isRef_bl, Bool.or_false, Bool.or_true, Bool.true_or, Bool.false_or, hu, ra, rb, rc, tp2, wa, wb, wc]
      exact fv _ (hs3 _)
  have g1 := rg_eq (S := S1) (j := 1) (by omega) (by omega)
  have g2 := rg_eq (S := S1) (j := 2) (by omega) (by omega)
  by_cases c5 : k < 5
  · simp only [wp_ok, wp_no, ↓wp_bind, ↓R.bind_ok, ↓sSeq, ↓sNil, ↓sSet, ↓sAsg, ↓sIf, ↓sRet, ↓sExpr, ↓sPar, ↓sPar3, ↓sFor, ↓nName, ↓nTup, ↓nCons, ↓nNil, ↓nNs, ↓eVar, ↓eC, ↓eOp, ↓eUn, ↓eArgs, ↓eNew, ↓aCons, ↓aNil, ↓tV, ↓tT, toB, truP, ↓tNotE, ↓tAndE, ↓tOrE, ↓tYesE, ↓eAndV, ↓eOrV, ↓eNotV, ↓eNotT, ↓eIf, gAdd_int, gAdd_tup, Py.gSub, gMul_l, gMul_r, gMod, gFdiv, gNeg, gLt, gLe, gGt, gGe, gInt, gEq_int, gEq_str, gEq_bl, gNe_int, gNe_str, gNe_bl, gIsN, gNotN, getQ, getL, ↓nSubL, gDivmod, gMin2, gMax2, ↓mkDef, ↓mkNew, startP, finF, finO, finV_tup, finV_int, finV_bl, finV_lst, finV_non, finV_str, ↓eChain, tyP, gIsi, isiB, ↓iArgs, ↓iSeq, iterP, ↓fComp, wipeP, ↓eSl, ↓oNone, ↓oSome, gSl, ↓eMeth0, ↓eMeth1, ixN, atI0, atI1, atI2, atI3, List.length_cons, List.length_nil, List.map_cons, List.map_nil, List.replicate, List.cons_append, List.nil_append, List.append_nil, List.getElem?_cons_zero, List.getElem?_cons_succ, List.getElem?_nil, List.set_cons_zero, List.set_cons_succ, List.set_nil, List.length_set, List.length_append, Nat.add_sub_cancel, Nat.reduceAdd, Nat.reduceSub, Nat.reduceLT, Nat.reduceEqDiff, Nat.reduceLeDiff, Nat.le_refl, Nat.zero_le, if_true, if_false, ↓reduceIte, decide_eq_true_eq, Bool.false_eq_true, Bool.true_eq_false, Bool.not_true, Bool.not_false, Option.isSome_some, forall_const, not_true_eq_false, not_false_eq_true, imp_self, false_implies, true_implies, implies_true, and_true, true_and, Int.toNat_zero, Nat.zero_add, Int.reduceLE, Int.reduceLT, Int.reduceNeg, Int.reduceToNat, Int.reducePow, Int.reduceGT, Int.cast_ofNat_Int, true_or, or_true, Int.ofNat_eq_natCast, decide_true, decide_false, Int.reduceEq, List.isEmpty_cons, List.isEmpty_nil, eDGet1,  keyP, Option.map_some, Option.map_none, Option.getD_some, Option.isSome_some, reduceCtorEq, and_self,  allPure_nil, allPure_cons, Bool.and_true, Bool.true_and, Bool.false_and, Bool.and_false, Bool.not_eq_true, Bool.not_eq_false, gTupP_nil, gLstP_nil, gTupP_ok, gLstP_ok, isRef_tup, isRef_int, isRef_str, isRef_bl, Bool.or_false, Bool.or_true, Bool.true_or, Bool.false_or, c0, c1, c5, g1]
    refine wp_of (turn_loop hr w0 w1 _ _ _ _ _ h1) fun fl S2 ⟨⟨y4, y6, y7, e2⟩, t⟩ => ?_
    subst e2
    simp only [wp_ok, wp_no, ↓wp_bind, ↓R.bind_ok, ↓sSeq, ↓sNil, ↓sSet, ↓sAsg, ↓sIf, ↓sRet, ↓sExpr, ↓sPar, ↓sPar3, ↓sFor, ↓nName, ↓nTup, ↓nCons, ↓nNil, ↓nNs, ↓eVar, ↓eC, ↓eOp, ↓eUn, ↓eArgs, ↓eNew, ↓aCons, ↓aNil, ↓tV, ↓tT, toB, truP, ↓tNotE, ↓tAndE, ↓tOrE, ↓tYesE, ↓eAndV, ↓eOrV, ↓eNotV, ↓eNotT, ↓eIf, gAdd_int, gAdd_tup, Py.gSub, gMul_l, gMul_r, gMod, gFdiv, gNeg, gLt, gLe, gGt, gGe, gInt, gEq_int, gEq_str, gEq_bl, gNe_int, gNe_str, gNe_bl, gIsN, gNotN, getQ, getL, ↓nSubL, gDivmod, gMin2, gMax2, ↓mkDef, ↓mkNew, startP, finF, finO, finV_tup, finV_int, finV_bl, finV_lst, finV_non, finV_str, ↓eChain, tyP, gIsi, isiB, ↓iArgs, ↓iSeq, iterP, ↓fComp, wipeP, ↓eSl, ↓oNone, ↓oSome, gSl, ↓eMeth0, ↓eMeth1, ixN, atI0, atI1, atI2, atI3, List.length_cons, List.length_nil, List.map_cons, List.map_nil, List.replicate, List.cons_append, List.nil_append, List.append_nil, List.getElem?_cons_zero, List.getElem?_cons_succ, List.getElem?_nil, List.set_cons_zero, List.set_cons_succ, List.set_nil, List.length_set, List.length_append, Nat.add_sub_cancel, Nat.reduceAdd, Nat.reduceSub, Nat.reduceLT, Nat.reduceEqDiff, Nat.reduceLeDiff, Nat.le_refl, Nat.zero_le, if_true, if_false, ↓reduceIte, decide_eq_true_eq, Bool.false_eq_true, Bool.true_eq_false, Bool.not_true, Bool.not_false, Option.isSome_some, forall_const, not_true_eq_false, not_false_eq_true, imp_self, false_implies, true_implies, implies_true, and_true, true_and, Int.toNat_zero, Nat.zero_add, Int.reduceLE, Int.reduceLT, Int.reduceNeg, Int.reduceToNat, Int.reducePow, Int.reduceGT, Int.cast_ofNat_Int, true_or, or_true, Int.ofNat_eq_natCast, decide_true, decide_false, Int.reduceEq, List.isEmpty_cons, List.isEmpty_nil, eDGet1,  keyP, Option.map_some, Option.map_none, Option.getD_some, Option.isSome_some, reduceCtorEq, and_self,  allPure_nil, allPure_cons, Bool.and_true, Bool.true_and, Bool.false_and, Bool.and_false, Bool.not_eq_true, Bool.not_eq_false, gTupP_nil, gLstP_nil, gTupP_ok, gLstP_ok, isRef_tup, isRef_int, isRef_str, isRef_bl, Bool.or_false, Bool.or_true, Bool.true_or, Bool.false_or]
    exact fv _ t
  · simp only [wp_ok, wp_no, ↓wp_bind, ↓R.bind_ok, ↓sSeq, ↓sNil, ↓sSet, ↓sAsg, ↓sIf, ↓sRet, ↓sExpr, ↓sPar, ↓sPar3, ↓sFor, ↓nName, ↓nTup, ↓nCons, ↓nNil, ↓nNs, ↓eVar, ↓eC, ↓eOp, ↓eUn, ↓eArgs, ↓eNew, ↓aCons, ↓aNil, ↓tV, ↓tT, toB, truP, ↓tNotE, ↓tAndE, ↓tOrE, ↓tYesE, ↓eAndV, ↓eOrV, ↓eNotV, ↓eNotT, ↓eIf, gAdd_int, gAdd_tup, Py.gSub, gMul_l, gMul_r, gMod, gFdiv, gNeg, gLt, gLe, gGt, gGe, gInt, gEq_int, gEq_str, gEq_bl, gNe_int, gNe_str, gNe_bl, gIsN, gNotN, getQ, getL, ↓nSubL, gDivmod, gMin2, gMax2, ↓mkDef, ↓mkNew, startP, finF, finO, finV_tup, finV_int, finV_bl, finV_lst, finV_non, finV_str, ↓eChain, tyP, gIsi, isiB, ↓iArgs, ↓iSeq, iterP, ↓fComp, wipeP, ↓eSl, ↓oNone, ↓oSome, gSl, ↓eMeth0, ↓eMeth1, ixN, atI0, atI1, atI2, atI3, List.length_cons, List.length_nil, List.map_cons, List.map_nil, List.replicate, List.cons_append, List.nil_append, List.append_nil, List.getElem?_cons_zero, List.getElem?_cons_succ, List.getElem?_nil, List.set_cons_zero, List.set_cons_succ, List.set_nil, List.length_set, List.length_append, Nat.add_sub_cancel, Nat.reduceAdd, Nat.reduceSub, Nat.reduceLT, Nat.reduceEqDiff, Nat.reduceLeDiff, Nat.le_refl, Nat.zero_le, if_true, if_false, ↓reduceIte, decide_eq_true_eq, Bool.false_eq_true, Bool.true_eq_false, Bool.not_true, Bool.not_false, Option.isSome_some, forall_const, not_true_eq_false, not_false_eq_true, imp_self, false_implies, true_implies, implies_true, and_true, true_and, Int.toNat_zero, Nat.zero_add, Int.reduceLE, Int.reduceLT, Int.reduceNeg, Int.reduceToNat, Int.reducePow, Int.reduceGT, Int.cast_ofNat_Int, true_or, or_true, Int.ofNat_eq_natCast, decide_true, decide_false, Int.reduceEq, List.isEmpty_cons, List.isEmpty_nil, eDGet1,  keyP, Option.map_some, Option.map_none, Option.getD_some, Option.isSome_some, reduceCtorEq, and_self,  allPure_nil, allPure_cons, Bool.and_true, Bool.true_and, Bool.false_and, Bool.and_false, Bool.not_eq_true, Bool.not_eq_false, gTupP_nil, gLstP_nil, gTupP_ok, gLstP_ok, isRef_tup, isRef_int, isRef_str, isRef_bl, Bool.or_false, Bool.or_true, Bool.true_or, Bool.false_or, c0, c1, c5, g2]
    refine wp_of (turn_loop hr w0 w1 _ _ _ _ _ h1) fun fl S2 ⟨⟨y4, y6, y7, e2⟩, t⟩ => ?_
    subst e2
    simp only [wp_ok, wp_no, ↓wp_bind, ↓R.bind_ok, ↓sSeq, ↓sNil, ↓sSet, ↓sAsg, ↓sIf, ↓sRet, ↓sExpr, ↓sPar, ↓sPar3, ↓sFor, ↓nName, ↓nTup, ↓nCons, ↓nNil, ↓nNs, ↓eVar, ↓eC, ↓eOp, ↓eUn, ↓eArgs, ↓eNew, ↓aCons, ↓aNil, ↓tV, ↓tT, toB, truP, ↓tNotE, ↓tAndE, ↓tOrE, ↓tYesE, ↓eAndV, ↓eOrV, ↓eNotV, ↓eNotT, ↓eIf, gAdd_int, gAdd_tup, Py.gSub, gMul_l, gMul_r, gMod, gFdiv, gNeg, gLt, gLe, gGt, gGe, gInt, gEq_int, gEq_str, gEq_bl, gNe_int, gNe_str, gNe_bl, gIsN, gNotN, getQ, getL, ↓nSubL, gDivmod, gMin2, gMax2, ↓mkDef, ↓mkNew, startP, finF, finO, finV_tup, finV_int, finV_bl, finV_lst, finV_non, finV_str, ↓eChain, tyP, gIsi, isiB, ↓iArgs, ↓iSeq, iterP, ↓fComp, wipeP, ↓eSl, ↓oNone, ↓oSome, gSl, ↓eMeth0, ↓eMeth1, ixN, atI0, atI1, atI2, atI3, List.length_cons, List.length_nil, List.map_cons, List.map_nil, List.replicate, List.cons_append, List.nil_append, List.append_nil, List.getElem?_cons_zero, List.getElem?_cons_succ, List.getElem?_nil, List.set_cons_zero, List.set_cons_succ, List.set_nil, List.length_set, List.length_append, Nat.add_sub_cancel, Nat.reduceAdd, Nat.reduceSub, Nat.reduceLT, Nat.reduceEqDiff, Nat.reduceLeDiff, Nat.le_refl, Nat.zero_le, if_true, if_false, ↓reduceIte, decide_eq_true_eq, Bool.false_eq_true, Bool.true_eq_false, Bool.not_true, Bool.not_false, Option.isSome_some, forall_const, not_true_eq_false, not_false_eq_true, imp_self, false_implies, true_implies, implies_true, and_true, true_and, Int.toNat_zero, Nat.zero_add, Int.reduceLE, Int.reduceLT, Int.reduceNeg, Int.reduceToNat, Int.reducePow, Int.reduceGT, Int.cast_ofNat_Int, true_or, or_true, Int.ofNat_eq_natCast, decide_true, decide_false, Int.reduceEq, List.isEmpty_cons, List.isEmpty_nil, eDGet1,  keyP, Option.map_some, Option.map_none, Option.getD_some, Option.isSome_some, reduceCtorEq, and_self,  allPure_nil, allPure_cons, Bool.and_true, Bool.true_and, Bool.false_and, Bool.and_false, Bool.not_eq_true, Bool.not_eq_false, gTupP_nil, gLstP_nil, gTupP_ok, gLstP_ok, isRef_tup, isRef_int, isRef_str, isRef_bl, Bool.or_false, Bool.or_true, Bool.true_or, Bool.false_or]
    exact fv _ t
end G80
set_option Elab.async false
set_option maxRecDepth 100000
set_option maxHeartbeats 1000000
set_option linter.all false
namespace G80
open PySem PySem.Spec PyProof.Rows L2 Py

theorem gRepL_zero {S : Sto} {q : Nat} (h : q ≤ 5000) : gRepL (.lst [.int 0]) (.int (q : Nat)) S = .ok (.lst (ip (List.replicate q 0))) S := by
  rw [gRepL_lst (by simp; omega) h, rep1]
theorem z1 {S : Sto} {q m : Nat} {a c d : Option PV} (hq : q = m + 4) (h1 : m ≤ 32) : (eOp gRepL (eArgs gLstP (aCons (eC (.int 0)) aNil)) (eOp gAdd (eVar 1) (eC (.int 4)))) [a, some (.int (m : Nat)), c, d] S = .ok (.lst (ip (List.replicate q 0))) S := by
  have em : ((m : Nat) : Int) + 4 = ((q : Nat) : Int) := by omega
  have rz := gRepL_zero (S := S) (q := q) (by omega)
  refine eqn ?_
  simp only [wp_ok, wp_no, ↓wp_bind, ↓R.bind_ok, ↓sSeq, ↓sNil, ↓sSet, ↓sAsg, ↓sIf, ↓sRet, ↓sExpr, ↓sPar, ↓sPar3, ↓sFor, ↓nName, ↓nTup, ↓nCons, ↓nNil, ↓nNs, ↓eVar, ↓eC, ↓eOp, ↓eUn, ↓eArgs, ↓eNew, ↓aCons, ↓aNil, ↓tV, ↓tT, toB, truP, ↓tNotE, ↓tAndE, ↓tOrE, ↓tYesE, ↓eAndV, ↓eOrV, ↓eNotV, ↓eNotT, ↓eIf, gAdd_int, gAdd_tup, Py.gSub, gMul_l, gMul_r, gMod, gFdiv, gNeg, gLt, gLe, gGt, gGe, gInt, gIx, gEq_int, gEq_str, gEq_bl, gNe_int, gNe_str, gNe_bl, gIsN, gNotN, getQ, getL, gSetL, ↓nSubL, gDivmod, gMin2, gMax2, ↓mkDef, ↓mkNew, startP, finF, finO, finV_tup, finV_int, finV_bl, finV_lst, finV_non, finV_str, finV_ref, ↓eChain, tyP, gIsi, isiB, ↓iArgs, ↓iSeq, iterP, ↓fComp, wipeP, ↓eSl, ↓oNone, ↓oSome, gSl, ↓eMeth0, ↓eMeth1, ixN, atI0, atI1, atI2, atI3, List.length_cons, List.length_nil, List.map_cons, List.map_nil, List.replicate, List.cons_append, List.nil_append, List.append_nil, List.getElem?_cons_zero, List.getElem?_cons_succ, List.getElem?_nil, List.set_cons_zero, List.set_cons_succ, List.set_nil, List.length_set, List.length_append, Nat.add_sub_cancel, Nat.reduceAdd, Nat.reduceSub, Nat.reduceLT, Nat.reduceEqDiff, Nat.reduceLeDiff, Nat.le_refl, Nat.zero_le, if_true, if_false, ↓reduceIte, decide_eq_true_eq, Bool.false_eq_true, Bool.true_eq_false, Bool.not_true, Bool.not_false, Option.isSome_some, forall_const, not_true_eq_false, not_false_eq_true, imp_self, false_implies, true_implies, implies_true, and_true, true_and, Int.toNat_zero, Nat.zero_add, Int.reduceLE, Int.reduceLT, Int.reduceNeg, Int.reduceToNat, Int.reducePow, Int.reduceGT, Int.cast_ofNat_Int, true_or, or_true, Int.ofNat_eq_natCast, decide_true, decide_false, Int.reduceEq, List.isEmpty_cons, List.isEmpty_nil, eDGet1,  keyP, Option.map_some, Option.map_none, Option.getD_some, Option.isSome_some, reduceCtorEq, and_self,  allPure_nil, allPure_cons, Bool.and_true, Bool.true_and, Bool.false_and, Bool.and_false, Bool.not_eq_true, Bool.not_eq_false, gTupP_nil, gLstP_nil, gTupP_ok, gLstP_ok, isRef_tup, isRef_int, isRef_str, isRef_bl, Bool.or_false, Bool.or_true, Bool.true_or, Bool.false_or, em, rz]
/-- a drawn slot -/
theorem slot_gen {Z : Ev} {S : Sto} {n m : Nat} (hz : ∀ (q : Nat), q = m + 4 → ∀ (S : Sto) (a c d : Option PV), Z [a, some (.int (m : Nat)), c, d] S = .ok (.lst (ip (List.replicate q 0))) S) (hw : Well S n) (h0 : 26 ≤ m) (h1 : m ≤ 32) : WP (mkDef 2 4 (sSeq (sSet 2 (eArgs m__law_draw (aCons (eVar 0) (aCons (eC (.int 8)) aNil)))) (sSeq (sIf (tV (eOp gEq (eVar 2) (eC (.int 0)))) (sRet Z) sNil) (sSeq (sSet 3 (eNew (eArgs m__law_filled (aCons (eVar 0) (aCons (eVar 1) aNil))))) (sRet (eIf (tV (eOp gLt (eVar 2) (eC (.int 4)))) (eVar 3) (eArgs m__law_turned (aCons (eVar 0) (aCons (eVar 3) aNil)))))))) [.ref n, .int (m : Nat)] S) fun p S' => Wl n S S' ∧ ∃ xs : List Int, p = .lst (ip xs) ∧ xs.length = m + 4 := by
  have hn := hw.lt
  obtain ⟨q, hq⟩ : ∃ q : Nat, q = m + 4 := ⟨_, rfl⟩
  have hz1 := hz q hq
  simp only [wp_ok, wp_no, ↓wp_bind, ↓R.bind_ok, ↓sSeq, ↓sNil, ↓sSet, ↓sAsg, ↓sIf, ↓sRet, ↓sExpr, ↓sPar, ↓sPar3, ↓sFor, ↓nName, ↓nTup, ↓nCons, ↓nNil, ↓nNs, ↓eVar, ↓eC, ↓eOp, ↓eUn, ↓eArgs, ↓eNew, ↓aCons, ↓aNil, ↓tV, ↓tT, toB, truP, ↓tNotE, ↓tAndE, ↓tOrE, ↓tYesE, ↓eAndV, ↓eOrV, ↓eNotV, ↓eNotT, ↓eIf, gAdd_int, gAdd_tup, Py.gSub, gMul_l, gMul_r, gMod, gFdiv, gNeg, gLt, gLe, gGt, gGe, gInt, gIx, gEq_int, gEq_str, gEq_bl, gNe_int, gNe_str, gNe_bl, gIsN, gNotN, getQ, getL, gSetL, ↓nSubL, gDivmod, gMin2, gMax2, ↓mkDef, ↓mkNew, startP, finF, finO, finV_tup, finV_int, finV_bl, finV_lst, finV_non, finV_str, ↓eChain, tyP, gIsi, isiB, ↓iArgs, ↓iSeq, iterP, ↓fComp, wipeP, ↓eSl, ↓oNone, ↓oSome, gSl, ↓eMeth0, ↓eMeth1, ixN, atI0, atI1, atI2, atI3, List.length_cons, List.length_nil, List.map_cons, List.map_nil, List.replicate, List.cons_append, List.nil_append, List.append_nil, List.getElem?_cons_zero, List.getElem?_cons_succ, List.getElem?_nil, List.set_cons_zero, List.set_cons_succ, List.set_nil, List.length_set, List.length_append, Nat.add_sub_cancel, Nat.reduceAdd, Nat.reduceSub, Nat.reduceLT, Nat.reduceEqDiff, Nat.reduceLeDiff, Nat.le_refl, Nat.zero_le, if_true, if_false, ↓reduceIte, decide_eq_true_eq, Bool.false_eq_true, Bool.true_eq_false, Bool.not_true, Bool.not_false, Option.isSome_some, forall_const, not_true_eq_false, not_false_eq_true, imp_self, false_implies, true_implies, implies_true, and_true, true_and, Int.toNat_zero, Nat.zero_add, Int.reduceLE, Int.reduceLT, Int.reduceNeg, Int.reduceToNat, Int.reducePow, Int.reduceGT, Int.cast_ofNat_Int, true_or, or_true, Int.ofNat_eq_natCast, decide_true, decide_false, Int.reduceEq, List.isEmpty_cons, List.isEmpty_nil, eDGet1,  keyP, Option.map_some, Option.map_none, Option.getD_some, Option.isSome_some, reduceCtorEq, and_self,  allPure_nil, allPure_cons, Bool.and_true, Bool.true_and, Bool.false_and, Bool.and_false, Bool.not_eq_true, Bool.not_eq_false, gTupP_nil, gLstP_nil, gTupP_ok, gLstP_ok, isRef_tup, isRef_int, isRef_str, isRef_bl, Bool.or_false, Bool.or_true, Bool.true_or, Bool.false_or]
  refine wp_of (draw_ok hw (m := 8) (by omega) (by omega)) fun p S1 ⟨k, ek, k0, k1, wl1⟩ => ?_
  subst ek
  by_cases c0 : k = 0
  · simp only [wp_ok, wp_no, ↓wp_bind, ↓R.bind_ok, ↓sSeq, ↓sNil, ↓sSet, ↓sAsg, ↓sIf, ↓sRet, ↓sExpr, ↓sPar, ↓sPar3, ↓sFor, ↓nName, ↓nTup, ↓nCons, ↓nNil, ↓nNs, ↓eVar, ↓eC, ↓eOp, ↓eUn, ↓eArgs, ↓eNew, ↓aCons, ↓aNil, ↓tV, ↓tT, toB, truP, ↓tNotE, ↓tAndE, ↓tOrE, ↓tYesE, ↓eAndV, ↓eOrV, ↓eNotV, ↓eNotT, ↓eIf, gAdd_int, gAdd_tup, Py.gSub, gMul_l, gMul_r, gMod, gFdiv, gNeg, gLt, gLe, gGt, gGe, gInt, gIx, gEq_int, gEq_str, gEq_bl, gNe_int, gNe_str, gNe_bl, gIsN, gNotN, getQ, getL, gSetL, ↓nSubL, gDivmod, gMin2, gMax2, ↓mkDef, ↓mkNew, startP, finF, finO, finV_tup, finV_int, finV_bl, finV_lst, finV_non, finV_str, ↓eChain, tyP, gIsi, isiB, ↓iArgs, ↓iSeq, iterP, ↓fComp, wipeP, ↓eSl, ↓oNone, ↓oSome, gSl, ↓eMeth0, ↓eMeth1, ixN, atI0, atI1, atI2, atI3, List.length_cons, List.length_nil, List.map_cons, List.map_nil, List.replicate, List.cons_append, List.nil_append, List.append_nil, List.getElem?_cons_zero, List.getElem?_cons_succ, List.getElem?_nil, List.set_cons_zero, List.set_cons_succ, List.set_nil, List.length_set, List.length_append, Nat.add_sub_cancel, Nat.reduceAdd, Nat.reduceSub, Nat.reduceLT, Nat.reduceEqDiff, Nat.reduceLeDiff, Nat.le_refl, Nat.zero_le, if_true, if_false, ↓reduceIte, decide_eq_true_eq, Bool.false_eq_true, Bool.true_eq_false, Bool.not_true, Bool.not_false, Option.isSome_some, forall_const, not_true_eq_false, not_false_eq_true, imp_self, false_implies, true_implies, implies_true, and_true, true_and, Int.toNat_zero, Nat.zero_add, Int.reduceLE, Int.reduceLT, Int.reduceNeg, Int.reduceToNat, Int.reducePow, Int.reduceGT, Int.cast_ofNat_Int, true_or, or_true, Int.ofNat_eq_natCast, decide_true, decide_false, Int.reduceEq, List.isEmpty_cons, List.isEmpty_nil, eDGet1,  keyP, Option.map_some, Option.map_none, Option.getD_some, Option.isSome_some, reduceCtorEq, and_self,  allPure_nil, allPure_cons, Bool.and_true, Bool.true_and, Bool.false_and, Bool.and_false, Bool.not_eq_true, Bool.not_eq_false, gTupP_nil, gLstP_nil, gTupP_ok, gLstP_ok, isRef_tup, isRef_int, isRef_str, isRef_bl, Bool.or_false, Bool.or_true, Bool.true_or, Bool.false_or, c0, hz1]
    rw [← wl1.len, take_self]
    exact ⟨wl1, _, rfl, by simp; omega⟩
  · simp only [wp_ok, wp_no, ↓wp_bind, ↓R.bind_ok, ↓sSeq, ↓sNil, ↓sSet, ↓sAsg, ↓sIf, ↓sRet, ↓sExpr, ↓sPar, ↓sPar3, ↓sFor, ↓nName, ↓nTup, ↓nCons, ↓nNil, ↓nNs, ↓eVar, ↓eC, ↓eOp, ↓eUn, ↓eArgs, ↓eNew, ↓aCons, ↓aNil, ↓tV, ↓tT, toB, truP, ↓tNotE, ↓tAndE, ↓tOrE, ↓tYesE, ↓eAndV, ↓eOrV, ↓eNotV, ↓eNotT, ↓eIf, gAdd_int, gAdd_tup, Py.gSub, gMul_l, gMul_r, gMod, gFdiv, gNeg, gLt, gLe, gGt, gGe, gInt, gIx, gEq_int, gEq_str, gEq_bl, gNe_int, gNe_str, gNe_bl, gIsN, gNotN, getQ, getL, gSetL, ↓nSubL, gDivmod, gMin2, gMax2, ↓mkDef, ↓mkNew, startP, finF, finO, finV_tup, finV_int, finV_bl, finV_lst, finV_non, finV_str, ↓eChain, tyP, gIsi, isiB, ↓iArgs, ↓iSeq, iterP, ↓fComp, wipeP, ↓eSl, ↓oNone, ↓oSome, gSl, ↓eMeth0, ↓eMeth1, ixN, atI0, atI1, atI2, atI3, List.length_cons, List.length_nil, List.map_cons, List.map_nil, List.replicate, List.cons_append, List.nil_append, List.append_nil, List.getElem?_cons_zero, List.getElem?_cons_succ, List.getElem?_nil, List.set_cons_zero, List.set_cons_succ, List.set_nil, List.length_set, List.length_append, Nat.add_sub_cancel, Nat.reduceAdd, Nat.reduceSub, Nat.reduceLT, Nat.reduceEqDiff, Nat.reduceLeDiff, Nat.le_refl, Nat.zero_le, if_true, if_false, ↓reduceIte, decide_eq_true_eq, Bool.false_eq_true, Bool.true_eq_false, Bool.not_true, Bool.not_false, Option.isSome_some, forall_const, not_true_eq_false, not_false_eq_true, imp_self, false_implies, true_implies, implies_true, and_true, true_and, Int.toNat_zero, Nat.zero_add, Int.reduceLE, Int.reduceLT, Int.reduceNeg, Int.reduceToNat, Int.reducePow, Int.reduceGT, Int.cast_ofNat_Int, true_or, or_true, Int.ofNat_eq_natCast, decide_true, decide_false, Int.reduceEq, List.isEmpty_cons, List.isEmpty_nil, eDGet1,  keyP, Option.map_some, Option.map_none, Option.getD_some, Option.isSome_some, reduceCtorEq, and_self,  allPure_nil, allPure_cons, Bool.and_true, Bool.true_and, Bool.false_and, Bool.and_false, Bool.not_eq_true, Bool.not_eq_false, gTupP_nil, gLstP_nil, gTupP_ok, gLstP_ok, isRef_tup, isRef_int, isRef_str, isRef_bl, Bool.or_false, Bool.or_true, Bool.true_or, Bool.false_or, c0]
    refine wp_of (filled_ok wl1.w h0 h1) fun p S2 ⟨wl2, xs, ep, lx⟩ => ?_
    subst ep
    have w12 := wl1.trans wl2
    have x2 : Ext n S S2 := (Ext.refl hw).wl w12
    have nl : ¬ S2.length < S.length := by rw [w12.len]; omega
    by_cases c4 : k < 4
    · simp only [wp_ok, wp_no, ↓wp_bind, ↓R.bind_ok, ↓sSeq, ↓sNil, ↓sSet, ↓sAsg, ↓sIf, ↓sRet, ↓sExpr, ↓sPar, ↓sPar3, ↓sFor, ↓nName, ↓nTup, ↓nCons, ↓nNil, ↓nNs, ↓eVar, ↓eC, ↓eOp, ↓eUn, ↓eArgs, ↓eNew, ↓aCons, ↓aNil, ↓tV, ↓tT, toB, truP, ↓tNotE, ↓tAndE, ↓tOrE, ↓tYesE, ↓eAndV, ↓eOrV, ↓eNotV, ↓eNotT, ↓eIf, gAdd_int, gAdd_tup, Py.gSub, gMul_l, gMul_r, gMod, gFdiv, gNeg, gLt, gLe, gGt, gGe, gInt, gIx, gEq_int, gEq_str, gEq_bl, gNe_int, gNe_str, gNe_bl, gIsN, gNotN, getQ, getL, gSetL, ↓nSubL, gDivmod, gMin2, gMax2, ↓mkDef, ↓mkNew, startP, finF, finO, finV_tup, finV_int, finV_bl, finV_lst, finV_non, finV_str, ↓eChain, tyP, gIsi, isiB, ↓iArgs, ↓iSeq, iterP, ↓fComp, wipeP, ↓eSl, ↓oNone, ↓oSome, gSl, ↓eMeth0, ↓eMeth1, ixN, atI0, atI1, atI2, atI3, List.length_cons, List.length_nil, List.map_cons, List.map_nil, List.replicate, List.cons_append, List.nil_append, List.append_nil, List.getElem?_cons_zero, List.getElem?_cons_succ, List.getElem?_nil, List.set_cons_zero, List.set_cons_succ, List.set_nil, List.length_set, List.length_append, Nat.add_sub_cancel, Nat.reduceAdd, Nat.reduceSub, Nat.reduceLT, Nat.reduceEqDiff, Nat.reduceLeDiff, Nat.le_refl, Nat.zero_le, if_true, if_false, ↓reduceIte, decide_eq_true_eq, Bool.false_eq_true, Bool.true_eq_false, Bool.not_true, Bool.not_false, Option.isSome_some, forall_const, not_true_eq_false, not_false_eq_true, imp_self, false_implies, true_implies, implies_true, and_true, true_and, Int.toNat_zero, Nat.zero_add, Int.reduceLE, Int.reduceLT, Int.reduceNeg, Int.reduceToNat, Int.reducePow, Int.reduceGT, Int.cast_ofNat_Int, true_or, or_true, Int.ofNat_eq_natCast, decide_true, decide_false, Int.reduceEq, List.isEmpty_cons, List.isEmpty_nil, eDGet1,  keyP, Option.map_some, Option.map_none, Option.getD_some, Option.isSome_some, reduceCtorEq, and_self,  allPure_nil, allPure_cons, Bool.and_true, Bool.true_and, Bool.false_and, Bool.and_false, Bool.not_eq_true, Bool.not_eq_false, gTupP_nil, gLstP_nil, gTupP_ok, gLstP_ok, isRef_tup, isRef_int, isRef_str, isRef_bl, Bool.or_false, Bool.or_true, Bool.true_or, Bool.false_or, c4, finV_ref, nl, if_false, get_last]
      exact ⟨x2.app.take, _, rfl, lx⟩
    · simp only [wp_ok, wp_no, ↓wp_bind, ↓R.bind_ok, ↓sSeq, ↓sNil, ↓sSet, ↓sAsg, ↓sIf, ↓sRet, ↓sExpr, ↓sPar, ↓sPar3, ↓sFor, ↓nName, ↓nTup, ↓nCons, ↓nNil, ↓nNs, ↓eVar, ↓eC, ↓eOp, ↓eUn, ↓eArgs, ↓eNew, ↓aCons, ↓aNil, ↓tV, ↓tT, toB, truP, ↓tNotE, ↓tAndE, ↓tOrE, ↓tYesE, ↓eAndV, ↓eOrV, ↓eNotV, ↓eNotT, ↓eIf, gAdd_int, gAdd_tup, Py.gSub, gMul_l, gMul_r, gMod, gFdiv, gNeg, gLt, gLe, gGt, gGe, gInt, gIx, gEq_int, gEq_str, gEq_bl, gNe_int, gNe_str, gNe_bl, gIsN, gNotN, getQ, getL, gSetL, ↓nSubL, gDivmod, gMin2, gMax2, ↓mkDef, ↓mkNew, startP, finF, finO, finV_tup, finV_int, finV_bl, finV_lst, finV_non, finV_str, ↓eChain, tyP, gIsi, isiB, ↓iArgs, ↓iSeq, iterP, ↓fComp, wipeP, ↓eSl, ↓oNone, ↓oSome, gSl, ↓eMeth0, ↓eMeth1, ixN, atI0, atI1, atI2, atI3, List.length_cons, List.length_nil, List.map_cons, List.map_nil, List.replicate, List.cons_append, List.nil_append, List.append_nil, List.getElem?_cons_zero, List.getElem?_cons_succ, List.getElem?_nil, List.set_cons_zero, List.set_cons_succ, List.set_nil, List.length_set, List.length_append, Nat.add_sub_cancel, Nat.reduceAdd, Nat.reduceSub, Nat.reduceLT, Nat.reduceEqDiff, Nat.reduceLeDiff, Nat.le_refl, Nat.zero_le, if_true, if_false, ↓reduceIte, decide_eq_true_eq, Bool.false_eq_true, Bool.true_eq_false, Bool.not_true, Bool.not_false, Option.isSome_some, forall_const, not_true_eq_false, not_false_eq_true, imp_self, false_implies, true_implies, implies_true, and_true, true_and, Int.toNat_zero, Nat.zero_add, Int.reduceLE, Int.reduceLT, Int.reduceNeg, Int.reduceToNat, Int.reducePow, Int.reduceGT, Int.cast_ofNat_Int, true_or, or_true, Int.ofNat_eq_natCast, decide_true, decide_false, Int.reduceEq, List.isEmpty_cons, List.isEmpty_nil, eDGet1,  keyP, Option.map_some, Option.map_none, Option.getD_some, Option.isSome_some, reduceCtorEq, and_self,  allPure_nil, allPure_cons, Bool.and_true, Bool.true_and, Bool.false_and, Bool.and_false, Bool.not_eq_true, Bool.not_eq_false, gTupP_nil, gLstP_nil, gTupP_ok, gLstP_ok, isRef_tup, isRef_int, isRef_str, isRef_bl, Bool.or_false, Bool.or_true, Bool.true_or, Bool.false_or, c4]
      refine wp_of (turned_ok (w := m + 4) (by rw [w12.len]; omega) (by omega) (by omega) x2.app.w get_last lx) fun p S3 ⟨ep, t⟩ => ?_
      subst ep
      obtain ⟨ys, ey, ly⟩ := t.o
      simp only [wp_ok, wp_no, ↓wp_bind, ↓R.bind_ok, ↓sSeq, ↓sNil, ↓sSet, ↓sAsg, ↓sIf, ↓sRet, ↓sExpr, ↓sPar, ↓sPar3, ↓sFor, ↓nName, ↓nTup, ↓nCons, ↓nNil, ↓nNs, ↓eVar, ↓eC, ↓eOp, ↓eUn, ↓eArgs, ↓eNew, ↓aCons, ↓aNil, ↓tV, ↓tT, toB, truP, ↓tNotE, ↓tAndE, ↓tOrE, ↓tYesE, ↓eAndV, ↓eOrV, ↓eNotV, ↓eNotT, ↓eIf, gAdd_int, gAdd_tup, Py.gSub, gMul_l, gMul_r, gMod, gFdiv, gNeg, gLt, gLe, gGt, gGe, gInt, gIx, gEq_int, gEq_str, gEq_bl, gNe_int, gNe_str, gNe_bl, gIsN, gNotN, getQ, getL, gSetL, ↓nSubL, gDivmod, gMin2, gMax2, ↓mkDef, ↓mkNew, startP, finF, finO, finV_tup, finV_int, finV_bl, finV_lst, finV_non, finV_str, ↓eChain, tyP, gIsi, isiB, ↓iArgs, ↓iSeq, iterP, ↓fComp, wipeP, ↓eSl, ↓oNone, ↓oSome, gSl, ↓eMeth0, ↓eMeth1, ixN, atI0, atI1, atI2, atI3, List.length_cons, List.length_nil, List.map_cons, List.map_nil, List.replicate, List.cons_append, List.nil_append, List.append_nil, List.getElem?_cons_zero, List.getElem?_cons_succ, List.getElem?_nil, List.set_cons_zero, List.set_cons_succ, List.set_nil, List.length_set, List.length_append, Nat.add_sub_cancel, Nat.reduceAdd, Nat.reduceSub, Nat.reduceLT, Nat.reduceEqDiff, Nat.reduceLeDiff, Nat.le_refl, Nat.zero_le, if_true, if_false, ↓reduceIte, decide_eq_true_eq, Bool.false_eq_true, Bool.true_eq_false, Bool.not_true, Bool.not_false, Option.isSome_some, forall_const, not_true_eq_false, not_false_eq_true, imp_self, false_implies, true_implies, implies_true, and_true, true_and, Int.toNat_zero, Nat.zero_add, Int.reduceLE, Int.reduceLT, Int.reduceNeg, Int.reduceToNat, Int.reducePow, Int.reduceGT, Int.cast_ofNat_Int, true_or, or_true, Int.ofNat_eq_natCast, decide_true, decide_false, Int.reduceEq, List.isEmpty_cons, List.isEmpty_nil, eDGet1,  keyP, Option.map_some, Option.map_none, Option.getD_some, Option.isSome_some, reduceCtorEq, and_self,  allPure_nil, allPure_cons, Bool.and_true, Bool.true_and, Bool.false_and, Bool.and_false, Bool.not_eq_true, Bool.not_eq_false, gTupP_nil, gLstP_nil, gTupP_ok, gLstP_ok, isRef_tup, isRef_int, isRef_str, isRef_bl, Bool.or_false, Bool.or_true, Bool.true_or, Bool.false_or, finV_ref, nl, if_false, ey]
      refine ⟨?_, _, rfl, ly⟩
      have x3 : Ext n S S3 := ⟨by rw [t.len]; exact x2.app.le, hn, fun i hi h => by rw [t.same i h (by rw [w12.len]; omega)]; exact x2.app.same i hi h, t.wd⟩
      exact x3.take
theorem slot_ok {S : Sto} {n m : Nat} (hw : Well S n) (h0 : 26 ≤ m) (h1 : m ≤ 32) : WP (m__law_slot [.ref n, .int (m : Nat)] S) fun p S' => Wl n S S' ∧ ∃ xs : List Int, p = .lst (ip xs) ∧ xs.length = m + 4 := by
  unfold m__law_slot b__law_slot
  exact slot_gen (fun q hq S a c d => z1 hq h1) hw h0 h1
end G80
set_option Elab.async false
set_option maxRecDepth 100000
set_option maxHeartbeats 1000000
set_option linter.all false
namespace G80
open PySem PySem.Spec PyProof.Rows L2 Py

/-- any row of whole numbers of this length is a slot -/
theorem slot_of {m : Nat} (xs : List Int) (h : xs.length = m + 4) : ∃ s : Sl, s.c = xs ∧ s.ws.length = m := by
  match xs, h with
  | a :: b :: c :: r, h =>
    have hr : r ≠ [] := by intro e; subst e; simp at h
    refine ⟨⟨a, b, c, r.dropLast, r.getLast hr⟩, ?_, ?_⟩
    · simp only [Sl.c, List.dropLast_concat_getLast]
    · simp at h ⊢; omega
theorem dev_of {m : Nat} (h0 : 26 ≤ m) (h1 : m ≤ 32) (xs ys : List Int) (hx : xs.length = m + 4) (hy : ys.length = m + 4) : ∃ d : Dv, d.p = ip (xs ++ ys) ∧ d.m = m := by
  obtain ⟨a, ea, la⟩ := slot_of xs hx
  obtain ⟨b, eb, lb⟩ := slot_of ys hy
  exact ⟨⟨a, b, m, la, lb, h0, h1⟩, by unfold Dv.p; rw [ea, eb], rfl⟩
theorem rep1' (k : Nat) : (List.replicate k [PV.int 0]).flatten = ip (List.replicate k 0) := rep1 k
theorem gRep_zero {S : Sto} {k : Nat} (h : 2 ≤ k) (h1 : k ≤ 1000) : gRep (.tup [.int 0]) (.int (k : Nat)) S = .ok (.tup (ip (List.replicate k 0))) S := by
  show (if 2 ≤ (k : Int) ∧ (k : Int) ≤ 1000 ∧ [PV.int 0].length ≤ 1000 then R.ok (PV.tup (List.replicate (k : Int).toNat [PV.int 0]).flatten) S else .no) = _
  rw [if_pos ⟨by omega, by omega, by simp⟩, Int.toNat_natCast, rep1]
theorem blank_eq {m : Nat} {S : Sto} (h0 : 26 ≤ m) (h1 : m ≤ 32) : m_blank [.int (m : Nat)] S = .ok (.tup (ip (List.replicate (2 * (m + 4)) 0))) S := by
  refine eqn ?_
  unfold m_blank b_blank m_blank_device b_blank_device
  have c := check_number_eq (i := (m : Nat)) (a := 26) (b := 9000) (S := S) (by omega) (by omega)
  obtain ⟨q, hq⟩ : ∃ q : Nat, q = 2 * (m + 4) := ⟨_, rfl⟩
  have em : 2 * (((m : Nat) : Int) + 4) = (q : Nat) := by omega
  have rz := gRep_zero (S := S) (k := q) (by omega) (by omega)
  rw [← hq]
  simp only [wp_ok, wp_no, ↓wp_bind, ↓R.bind_ok, ↓sSeq, ↓sNil, ↓sSet, ↓sAsg, ↓sIf, ↓sRet, ↓sExpr, ↓sPar, ↓sPar3, ↓sFor, ↓nName, ↓nTup, ↓nCons, ↓nNil, ↓nNs, ↓eVar, ↓eC, ↓eOp, ↓eUn, ↓eArgs, ↓eNew, ↓aCons, ↓aNil, ↓tV, ↓tT, toB, truP, ↓tNotE, ↓tAndE, ↓tOrE, ↓tYesE, ↓eAndV, ↓eOrV, ↓eNotV, ↓eNotT, ↓eIf, gAdd_int, gAdd_tup, Py.gSub, gMul_l, gMul_r, gMod, gFdiv, gNeg, gLt, gLe, gGt, gGe, gInt, gIx, gEq_int, gEq_str, gEq_bl, gNe_int, gNe_str, gNe_bl, gIsN, gNotN, getQ, getL, gSetL, ↓nSubL, gDivmod, gMin2, gMax2, ↓mkDef, ↓mkNew, startP, finF, finO, finV_tup, finV_int, finV_bl, finV_lst, finV_non, finV_str, finV_ref, ↓eChain, tyP, gIsi, isiB, ↓iArgs, ↓iSeq, iterP, ↓fComp, wipeP, ↓eSl, ↓oNone, ↓oSome, gSl, ↓eMeth0, ↓eMeth1, ixN, atI0, atI1, atI2, atI3, List.length_cons, List.length_nil, List.map_cons, List.map_nil, List.replicate, List.cons_append, List.nil_append, List.append_nil, List.getElem?_cons_zero, List.getElem?_cons_succ, List.getElem?_nil, List.set_cons_zero, List.set_cons_succ, List.set_nil, List.length_set, List.length_append, Nat.add_sub_cancel, Nat.reduceAdd, Nat.reduceSub, Nat.reduceLT, Nat.reduceEqDiff, Nat.reduceLeDiff, Nat.le_refl, Nat.zero_le, if_true, if_false, ↓reduceIte, decide_eq_true_eq, Bool.false_eq_true, Bool.true_eq_false, Bool.not_true, Bool.not_false, Option.isSome_some, forall_const, not_true_eq_false, not_false_eq_true, imp_self, false_implies, true_implies, implies_true, and_true, true_and, Int.toNat_zero, Nat.zero_add, Int.reduceLE, Int.reduceLT, Int.reduceNeg, Int.reduceToNat, Int.reducePow, Int.reduceGT, Int.cast_ofNat_Int, true_or, or_true, Int.ofNat_eq_natCast, decide_true, decide_false, Int.reduceEq, List.isEmpty_cons, List.isEmpty_nil, eDGet1,  keyP, Option.map_some, Option.map_none, Option.getD_some, Option.isSome_some, reduceCtorEq, and_self,  allPure_nil, allPure_cons, Bool.and_true, Bool.true_and, Bool.false_and, Bool.and_false, Bool.not_eq_true, Bool.not_eq_false, gTupP_nil, gLstP_nil, gTupP_ok, gLstP_ok, isRef_tup, isRef_int, isRef_str, isRef_bl, Bool.or_false, Bool.or_true, Bool.true_or, Bool.false_or, c, em, rz, take_self]
theorem right_ok {S : Sto} {n : Nat} (hw : Well S n) : WP (m__law_right [.ref n] S) fun p S' => p = .bl true := by
  unfold m__law_right b__law_right
  simp only [wp_ok, wp_no, ↓wp_bind, ↓R.bind_ok, ↓sSeq, ↓sNil, ↓sSet, ↓sAsg, ↓sIf, ↓sRet, ↓sExpr, ↓sPar, ↓sPar3, ↓sFor, ↓nName, ↓nTup, ↓nCons, ↓nNil, ↓nNs, ↓eVar, ↓eC, ↓eOp, ↓eUn, ↓eArgs, ↓eNew, ↓aCons, ↓aNil, ↓tV, ↓tT, toB, truP, ↓tNotE, ↓tAndE, ↓tOrE, ↓tYesE, ↓eAndV, ↓eOrV, ↓eNotV, ↓eNotT, ↓eIf, gAdd_int, gAdd_tup, Py.gSub, gMul_l, gMul_r, gMod, gFdiv, gNeg, gLt, gLe, gGt, gGe, gInt, gIx, gEq_int, gEq_str, gEq_bl, gNe_int, gNe_str, gNe_bl, gIsN, gNotN, getQ, getL, gSetL, ↓nSubL, gDivmod, gMin2, gMax2, ↓mkDef, ↓mkNew, startP, finF, finO, finV_tup, finV_int, finV_bl, finV_lst, finV_non, finV_str, finV_ref, ↓eChain, tyP, gIsi, isiB, ↓iArgs, ↓iSeq, iterP, ↓fComp, wipeP, ↓eSl, ↓oNone, ↓oSome, gSl, ↓eMeth0, ↓eMeth1, ixN, atI0, atI1, atI2, atI3, List.length_cons, List.length_nil, List.map_cons, List.map_nil, List.replicate, List.cons_append, List.nil_append, List.append_nil, List.getElem?_cons_zero, List.getElem?_cons_succ, List.getElem?_nil, List.set_cons_zero, List.set_cons_succ, List.set_nil, List.length_set, List.length_append, Nat.add_sub_cancel, Nat.reduceAdd, Nat.reduceSub, Nat.reduceLT, Nat.reduceEqDiff, Nat.reduceLeDiff, Nat.le_refl, Nat.zero_le, if_true, if_false, ↓reduceIte, decide_eq_true_eq, Bool.false_eq_true, Bool.true_eq_false, Bool.not_true, Bool.not_false, Option.isSome_some, forall_const, not_true_eq_false, not_false_eq_true, imp_self, false_implies, true_implies, implies_true, and_true, true_and, Int.toNat_zero, Nat.zero_add, Int.reduceLE, Int.reduceLT, Int.reduceNeg, Int.reduceToNat, Int.reducePow, Int.reduceGT, Int.cast_ofNat_Int, true_or, or_true, Int.ofNat_eq_natCast, decide_true, decide_false, Int.reduceEq, List.isEmpty_cons, List.isEmpty_nil, eDGet1,  keyP, Option.map_some, Option.map_none, Option.getD_some, Option.isSome_some, reduceCtorEq, and_self,  allPure_nil, allPure_cons, Bool.and_true, Bool.true_and, Bool.false_and, Bool.and_false, Bool.not_eq_true, Bool.not_eq_false, gTupP_nil, gLstP_nil, gTupP_ok, gLstP_ok, isRef_tup, isRef_int, isRef_str, isRef_bl, Bool.or_false, Bool.or_true, Bool.true_or, Bool.false_or]
  refine wp_of (draw_ok hw (m := 7) (by omega) (by omega)) fun p S1 ⟨k, ek, k0, k1, wl1⟩ => ?_
  subst ek
  obtain ⟨m, em⟩ : ∃ m : Nat, 26 + k = (m : Nat) := ⟨(26 + k).toNat, by omega⟩
  simp only [wp_ok, wp_no, ↓wp_bind, ↓R.bind_ok, ↓sSeq, ↓sNil, ↓sSet, ↓sAsg, ↓sIf, ↓sRet, ↓sExpr, ↓sPar, ↓sPar3, ↓sFor, ↓nName, ↓nTup, ↓nCons, ↓nNil, ↓nNs, ↓eVar, ↓eC, ↓eOp, ↓eUn, ↓eArgs, ↓eNew, ↓aCons, ↓aNil, ↓tV, ↓tT, toB, truP, ↓tNotE, ↓tAndE, ↓tOrE, ↓tYesE, ↓eAndV, ↓eOrV, ↓eNotV, ↓eNotT, ↓eIf, gAdd_int, gAdd_tup, Py.gSub, gMul_l, gMul_r, gMod, gFdiv, gNeg, gLt, gLe, gGt, gGe, gInt, gIx, gEq_int, gEq_str, gEq_bl, gNe_int, gNe_str, gNe_bl, gIsN, gNotN, getQ, getL, gSetL, ↓nSubL, gDivmod, gMin2, gMax2, ↓mkDef, ↓mkNew, startP, finF, finO, finV_tup, finV_int, finV_bl, finV_lst, finV_non, finV_str, finV_ref, ↓eChain, tyP, gIsi, isiB, ↓iArgs, ↓iSeq, iterP, ↓fComp, wipeP, ↓eSl, ↓oNone, ↓oSome, gSl, ↓eMeth0, ↓eMeth1, ixN, atI0, atI1, atI2, atI3, List.length_cons, List.length_nil, List.map_cons, List.map_nil, List.replicate, List.cons_append, List.nil_append, List.append_nil, List.getElem?_cons_zero, List.getElem?_cons_succ, List.getElem?_nil, List.set_cons_zero, List.set_cons_succ, List.set_nil, List.length_set, List.length_append, Nat.add_sub_cancel, Nat.reduceAdd, Nat.reduceSub, Nat.reduceLT, Nat.reduceEqDiff, Nat.reduceLeDiff, Nat.le_refl, Nat.zero_le, if_true, if_false, ↓reduceIte, decide_eq_true_eq, Bool.false_eq_true, Bool.true_eq_false, Bool.not_true, Bool.not_false, Option.isSome_some, forall_const, not_true_eq_false, not_false_eq_true, imp_self, false_implies, true_implies, implies_true, and_true, true_and, Int.toNat_zero, Nat.zero_add, Int.reduceLE, Int.reduceLT, Int.reduceNeg, Int.reduceToNat, Int.reducePow, Int.reduceGT, Int.cast_ofNat_Int, true_or, or_true, Int.ofNat_eq_natCast, decide_true, decide_false, Int.reduceEq, List.isEmpty_cons, List.isEmpty_nil, eDGet1,  keyP, Option.map_some, Option.map_none, Option.getD_some, Option.isSome_some, reduceCtorEq, and_self,  allPure_nil, allPure_cons, Bool.and_true, Bool.true_and, Bool.false_and, Bool.and_false, Bool.not_eq_true, Bool.not_eq_false, gTupP_nil, gLstP_nil, gTupP_ok, gLstP_ok, isRef_tup, isRef_int, isRef_str, isRef_bl, Bool.or_false, Bool.or_true, Bool.true_or, Bool.false_or, em]
  have m0 : 26 ≤ m := by omega
  have m1 : m ≤ 32 := by omega
  refine wp_of (slot_ok wl1.w m0 m1) fun p S2 ⟨wl2, xs, ep, lx⟩ => ?_
  subst ep
  simp only [wp_ok, wp_no, ↓wp_bind, ↓R.bind_ok, ↓sSeq, ↓sNil, ↓sSet, ↓sAsg, ↓sIf, ↓sRet, ↓sExpr, ↓sPar, ↓sPar3, ↓sFor, ↓nName, ↓nTup, ↓nCons, ↓nNil, ↓nNs, ↓eVar, ↓eC, ↓eOp, ↓eUn, ↓eArgs, ↓eNew, ↓aCons, ↓aNil, ↓tV, ↓tT, toB, truP, ↓tNotE, ↓tAndE, ↓tOrE, ↓tYesE, ↓eAndV, ↓eOrV, ↓eNotV, ↓eNotT, ↓eIf, gAdd_int, gAdd_tup, Py.gSub, gMul_l, gMul_r, gMod, gFdiv, gNeg, gLt, gLe, gGt, gGe, gInt, gIx, gEq_int, gEq_str, gEq_bl, gNe_int, gNe_str, gNe_bl, gIsN, gNotN, getQ, getL, gSetL, ↓nSubL, gDivmod, gMin2, gMax2, ↓mkDef, ↓mkNew, startP, finF, finO, finV_tup, finV_int, finV_bl, finV_lst, finV_non, finV_str, finV_ref, ↓eChain, tyP, gIsi, isiB, ↓iArgs, ↓iSeq, iterP, ↓fComp, wipeP, ↓eSl, ↓oNone, ↓oSome, gSl, ↓eMeth0, ↓eMeth1, ixN, atI0, atI1, atI2, atI3, List.length_cons, List.length_nil, List.map_cons, List.map_nil, List.replicate, List.cons_append, List.nil_append, List.append_nil, List.getElem?_cons_zero, List.getElem?_cons_succ, List.getElem?_nil, List.set_cons_zero, List.set_cons_succ, List.set_nil, List.length_set, List.length_append, Nat.add_sub_cancel, Nat.reduceAdd, Nat.reduceSub, Nat.reduceLT, Nat.reduceEqDiff, Nat.reduceLeDiff, Nat.le_refl, Nat.zero_le, if_true, if_false, ↓reduceIte, decide_eq_true_eq, Bool.false_eq_true, Bool.true_eq_false, Bool.not_true, Bool.not_false, Option.isSome_some, forall_const, not_true_eq_false, not_false_eq_true, imp_self, false_implies, true_implies, implies_true, and_true, true_and, Int.toNat_zero, Nat.zero_add, Int.reduceLE, Int.reduceLT, Int.reduceNeg, Int.reduceToNat, Int.reducePow, Int.reduceGT, Int.cast_ofNat_Int, true_or, or_true, Int.ofNat_eq_natCast, decide_true, decide_false, Int.reduceEq, List.isEmpty_cons, List.isEmpty_nil, eDGet1,  keyP, Option.map_some, Option.map_none, Option.getD_some, Option.isSome_some, reduceCtorEq, and_self,  allPure_nil, allPure_cons, Bool.and_true, Bool.true_and, Bool.false_and, Bool.and_false, Bool.not_eq_true, Bool.not_eq_false, gTupP_nil, gLstP_nil, gTupP_ok, gLstP_ok, isRef_tup, isRef_int, isRef_str, isRef_bl, Bool.or_false, Bool.or_true, Bool.true_or, Bool.false_or]
  refine wp_of (draw_ok wl2.w (m := 5) (by omega) (by omega)) fun p S3 ⟨u, ek, u0, u1, wl3⟩ => ?_
  subst ek
  have blk := fun S => blank_eq (S := S) m0 m1
  obtain ⟨q, hq⟩ : ∃ q : Nat, q = 2 * (m + 4) := ⟨_, rfl⟩
  rw [← hq] at blk
  have fin : ∀ (ys : List Int) (S4 : Sto), ys.length = m + 4 → WP (R.ok (PV.lst (ip ys)) S4) fun z S5 => WP ((sSeq (sPar 4 5 (eArgs gTupOf (aCons (eOp gCat (eVar 2) (eVar 3)) aNil)) (eArgs m_blank (aCons (eVar 1) aNil))) (sSeq (sIf (tOrE (tNotE (tT (eArgs m__law_is_seen (aCons (eVar 4) aNil)))) (tNotE (tT (eArgs m__law_is_seen (aCons (eArgs m__law_put (aCons (eVar 4) (aCons (eArgs m__law_clears (aCons (eVar 4) aNil)) aNil))) aNil))))) (sRet (eC (.bl false))) sNil) (sRet (eAndV (eArgs (m__law_same 6) (aCons (eVar 5) (aCons (eOp gRep (eArgs gTupP (aCons (eC (.int 0)) aNil)) (eOp gAdd (eOp gMul (eC (.int 2)) (eVar 1)) (eC (.int 8)))) aNil))) (eArgs m__law_is_seen (aCons (eVar 5) aNil)))))) [some (.ref n), some (.int (m : Nat)), some (.lst (ip xs)), some z, none, none] S5) fun fl S6 => WP (finF S.length fl S6) fun p S' => p = .bl true := by
    intro ys S4 ly
    obtain ⟨d, ed, dm⟩ := dev_of m0 m1 xs ys lx ly
    obtain ⟨d0, ed0, dm0⟩ := dev_of m0 m1 (List.replicate (m + 4) 0) (List.replicate (m + 4) 0) (by simp) (by simp)
    have e0 : d0.p = ip (List.replicate q 0) := by
      rw [ed0, hq]
      congr 1
      rw [List.replicate_append_replicate]
      congr 1
      omega
    have gc : gCat (.lst (ip xs)) (.lst (ip ys)) S4 = .ok (.lst d.p) S4 := by
      rw [gCat_lst (by simp; omega), ed, ip_app]
    have em2 : 2 * ((m : Nat) : Int) + 8 = (q : Nat) := by omega
    have rz := gRep_zero (S := S4) (k := q) (by omega) (by omega)
    rw [← e0] at rz blk
    have sm := same_eq 6 (.tup d0.p) S4 d0.p_Dt
    have s1 := is_seen_eq d (S := S4)
    have s2 := is_seen_eq d.md (S := S4)
    have s3 := is_seen_eq d0 (S := S4)
    have pt := law_put_eq d (S := S4)
    have cl := law_clears_eq d (S := S4)
    simp only [wp_ok, wp_no, ↓wp_bind, ↓R.bind_ok, ↓sSeq, ↓sNil, ↓sSet, ↓sAsg, ↓sIf, ↓sRet, ↓sExpr, ↓sPar, ↓sPar3, ↓sFor, ↓nName, ↓nTup, ↓nCons, ↓nNil, ↓nNs, ↓eVar, ↓eC, ↓eOp, ↓eUn, ↓eArgs, ↓eNew, ↓aCons, ↓aNil, ↓tV, ↓tT, toB, truP, ↓tNotE, ↓tAndE, ↓tOrE, ↓tYesE, ↓eAndV, ↓eOrV, ↓eNotV, ↓eNotT, ↓eIf, gAdd_int, gAdd_tup, Py.gSub, gMul_l, gMul_r, gMod, gFdiv, gNeg, gLt, gLe, gGt, gGe, gInt, gIx, gEq_int, gEq_str, gEq_bl, gNe_int, gNe_str, gNe_bl, gIsN, gNotN, getQ, getL, gSetL, ↓nSubL, gDivmod, gMin2, gMax2, ↓mkDef, ↓mkNew, startP, finF, finO, finV_tup, finV_int, finV_bl, finV_lst, finV_non, finV_str, finV_ref, ↓eChain, tyP, gIsi, isiB, ↓iArgs, ↓iSeq, iterP, ↓fComp, wipeP, ↓eSl, ↓oNone, ↓oSome, gSl, ↓eMeth0, ↓eMeth1, ixN, atI0, atI1, atI2, atI3, List.length_cons, List.length_nil, List.map_cons, List.map_nil, List.replicate, List.cons_append, List.nil_append, List.append_nil, List.getElem?_cons_zero, List.getElem?_cons_succ, List.getElem?_nil, List.set_cons_zero, List.set_cons_succ, List.set_nil, List.length_set, List.length_append, Nat.add_sub_cancel, Nat.reduceAdd, Nat.reduceSub, Nat.reduceLT, Nat.reduceEqDiff, Nat.reduceLeDiff, Nat.le_refl, Nat.zero_le, if_true, if_false, ↓reduceIte, decide_eq_true_eq, Bool.false_eq_true, Bool.true_eq_false, Bool.not_true, Bool.not_false, Option.isSome_some, forall_const, not_true_eq_false, not_false_eq_true, imp_self, false_implies, true_implies, implies_true, and_true, true_and, Int.toNat_zero, Nat.zero_add, Int.reduceLE, Int.reduceLT, Int.reduceNeg, Int.reduceToNat, Int.reducePow, Int.reduceGT, Int.cast_ofNat_Int, true_or, or_true, Int.ofNat_eq_natCast, decide_true, decide_false, Int.reduceEq, List.isEmpty_cons, List.isEmpty_nil, eDGet1,  keyP, Option.map_some, Option.map_none, Option.getD_some, Option.isSome_some, reduceCtorEq, and_self,  allPure_nil, allPure_cons, Bool.and_true, Bool.true_and, Bool.false_and, Bool.and_false, Bool.not_eq_true, Bool.not_eq_false, gTupP_nil, gLstP_nil, gTupP_ok, gLstP_ok, isRef_tup, isRef_int, isRef_str, isRef_bl, Bool.or_false, Bool.or_true, Bool.true_or, Bool.false_or, gc, tup_of_lst, blk, s1, cl, pt, s2, em2, rz, sm, s3]
  by_cases hu : u = 0
  · have f := fin xs S3 lx
    simp only [wp_ok, wp_no, ↓wp_bind, ↓R.bind_ok, ↓sSeq, ↓sNil, ↓sSet, ↓sAsg, ↓sIf, ↓sRet, ↓sExpr, ↓sPar, ↓sPar3, ↓sFor, ↓nName, ↓nTup, ↓nCons, ↓nNil, ↓nNs, ↓eVar, ↓eC, ↓eOp, ↓eUn, ↓eArgs, ↓eNew, ↓aCons, ↓aNil, ↓tV, ↓tT, toB, truP, ↓tNotE, ↓tAndE, ↓tOrE, ↓tYesE, ↓eAndV, ↓eOrV, ↓eNotV, ↓eNotT, ↓eIf, gAdd_int, gAdd_tup, Py.gSub, gMul_l, gMul_r, gMod, gFdiv, gNeg, gLt, gLe, gGt, gGe, gInt, gIx, gEq_int, gEq_str, gEq_bl, gNe_int, gNe_str, gNe_bl, gIsN, gNotN, getQ, getL, gSetL, ↓nSubL, gDivmod, gMin2, gMax2, ↓mkDef, ↓mkNew, startP, finF, finO, finV_tup, finV_int, finV_bl, finV_lst, finV_non, finV_str, finV_ref, ↓eChain, tyP, gIsi, isiB, ↓iArgs, ↓iSeq, iterP, ↓fComp, wipeP, ↓eSl, ↓oNone, ↓oSome, gSl, ↓eMeth0, ↓eMeth1, ixN, atI0, atI1, atI2, atI3, List.length_cons, List.length_nil, List.map_cons, List.map_nil, List.replicate, List.cons_append, List.nil_append, List.append_nil, List.getElem?_cons_zero, List.getElem?_cons_succ, List.getElem?_nil, List.set_cons_zero, List.set_cons_succ, List.set_nil, List.length_set, List.length_append, Nat.add_sub_cancel, Nat.reduceAdd, Nat.reduceSub, Nat.reduceLT, Nat.reduceEqDiff, Nat.reduceLeDiff, Nat.le_refl, Nat.zero_le, if_true, if_false, ↓reduceIte, decide_eq_true_eq, Bool.false_eq_true, Bool.true_eq_false, Bool.not_true, Bool.not_false, Option.isSome_some, forall_const, not_true_eq_false, not_false_eq_true, imp_self, false_implies, true_implies, implies_true, and_true, true_and, Int.toNat_zero, Nat.zero_add, Int.reduceLE, Int.reduceLT, Int.reduceNeg, Int.reduceToNat, Int.reducePow, Int.reduceGT, Int.cast_ofNat_Int, true_or, or_true, Int.ofNat_eq_natCast, decide_true, decide_false, Int.reduceEq, List.isEmpty_cons, List.isEmpty_nil, eDGet1,  keyP, Option.map_some, Option.map_none, Option.getD_some, Option.isSome_some, reduceCtorEq, and_self,  allPure_nil, allPure_cons, Bool.and_true, Bool.true_and, Bool.false_and, Bool.and_false, Bool.not_eq_true, Bool.not_eq_false, gTupP_nil, gLstP_nil, gTupP_ok, gLstP_ok, isRef_tup, isRef_int, isRef_str, isRef_bl, Bool.or_false, Bool.or_true, Bool.true_or, Bool.false_or] at f
    simp only [wp_ok, wp_no, ↓wp_bind, ↓R.bind_ok, ↓sSeq, ↓sNil, ↓sSet, ↓sAsg, ↓sIf, ↓sRet, ↓sExpr, ↓sPar, ↓sPar3, ↓sFor, ↓nName, ↓nTup, ↓nCons, ↓nNil, ↓nNs, ↓eVar, ↓eC, ↓eOp, ↓eUn, ↓eArgs, ↓eNew, ↓aCons, ↓aNil, ↓tV, ↓tT, toB, truP, ↓tNotE, ↓tAndE, ↓tOrE, ↓tYesE, ↓eAndV, ↓eOrV, ↓eNotV, ↓eNotT, ↓eIf, gAdd_int, gAdd_tup, Py.gSub, gMul_l, gMul_r, gMod, gFdiv, gNeg, gLt, gLe, gGt, gGe, gInt, gIx, gEq_int, gEq_str, gEq_bl, gNe_int, gNe_str, gNe_bl, gIsN, gNotN, getQ, getL, gSetL, ↓nSubL, gDivmod, gMin2, gMax2, ↓mkDef, ↓mkNew, startP, finF, finO, finV_tup, finV_int, finV_bl, finV_lst, finV_non, finV_str, finV_ref, ↓eChain, tyP, gIsi, isiB, ↓iArgs, ↓iSeq, iterP, ↓fComp, wipeP, ↓eSl, ↓oNone, ↓oSome, gSl, ↓eMeth0, ↓eMeth1, ixN, atI0, atI1, atI2, atI3, List.length_cons, List.length_nil, List.map_cons, List.map_nil, List.replicate, List.cons_append, List.nil_append, List.append_nil, List.getElem?_cons_zero, List.getElem?_cons_succ, List.getElem?_nil, List.set_cons_zero, List.set_cons_succ, List.set_nil, List.length_set, List.length_append, Nat.add_sub_cancel, Nat.reduceAdd, Nat.reduceSub, Nat.reduceLT, Nat.reduceEqDiff, Nat.reduceLeDiff, Nat.le_refl, Nat.zero_le, if_true, if_false, ↓reduceIte, decide_eq_true_eq, Bool.false_eq_true, Bool.true_eq_false, Bool.not_true, Bool.not_false, Option.isSome_some, forall_const, not_true_eq_false, not_false_eq_true, imp_self, false_implies, true_implies, implies_true, and_true, true_and, Int.toNat_zero, Nat.zero_add, Int.reduceLE, Int.reduceLT, Int.reduceNeg, Int.reduceToNat, Int.reducePow, Int.reduceGT, Int.cast_ofNat_Int, true_or, or_true, Int.ofNat_eq_natCast, decide_true, decide_false, Int.reduceEq, List.isEmpty_cons, List.isEmpty_nil, eDGet1,  keyP, Option.map_some, Option.map_none, Option.getD_some, Option.isSome_some, reduceCtorEq, and_self,  allPure_nil, allPure_cons, Bool.and_true, Bool.true_and, Bool.false_and, Bool.and_false, Bool.not_eq_true, Bool.not_eq_false, gTupP_nil, gLstP_nil, gTupP_ok, gLstP_ok, isRef_tup, isRef_int, isRef_str, isRef_bl, Bool.or_false, Bool.or_true, Bool.true_or, Bool.false_or, hu, gLstOf_lst]
    exact f
  · simp only [wp_ok, wp_no, ↓wp_bind, ↓R.bind_ok, ↓sSeq, ↓sNil, ↓sSet, ↓sAsg, ↓sIf, ↓sRet, ↓sExpr, ↓sPar, ↓sPar3, ↓sFor, ↓nName, ↓nTup, ↓nCons, ↓nNil, ↓nNs, ↓eVar, ↓eC, ↓eOp, ↓eUn, ↓eArgs, ↓eNew, ↓aCons, ↓aNil, ↓tV, ↓tT, toB, truP, ↓tNotE, ↓tAndE, ↓tOrE, ↓tYesE, ↓eAndV, ↓eOrV, ↓eNotV, ↓eNotT, ↓eIf, gAdd_int, gAdd_tup, Py.gSub, gMul_l, gMul_r, gMod, gFdiv, gNeg, gLt, gLe, gGt, gGe, gInt, gIx, gEq_int, gEq_str, gEq_bl, gNe_int, gNe_str, gNe_bl, gIsN, gNotN, getQ, getL, gSetL, ↓nSubL, gDivmod, gMin2, gMax2, ↓mkDef, ↓mkNew, startP, finF, finO, finV_tup, finV_int, finV_bl, finV_lst, finV_non, finV_str, finV_ref, ↓eChain, tyP, gIsi, isiB, ↓iArgs, ↓iSeq, iterP, ↓fComp, wipeP, ↓eSl, ↓oNone, ↓oSome, gSl, ↓eMeth0, ↓eMeth1, ixN, atI0, atI1, atI2, atI3, List.length_cons, List.length_nil, List.map_cons, List.map_nil, List.replicate, List.cons_append, List.nil_append, List.append_nil, List.getElem?_cons_zero, List.getElem?_cons_succ, List.getElem?_nil, List.set_cons_zero, List.set_cons_succ, List.set_nil, List.length_set, List.length_append, Nat.add_sub_cancel, Nat.reduceAdd, Nat.reduceSub, Nat.reduceLT, Nat.reduceEqDiff, Nat.reduceLeDiff, Nat.le_refl, Nat.zero_le, if_true, if_false, ↓reduceIte, decide_eq_true_eq, Bool.false_eq_true, Bool.true_eq_false, Bool.not_true, Bool.not_false, Option.isSome_some, forall_const, not_true_eq_false, not_false_eq_true, imp_self, false_implies, true_implies, implies_true, and_true, true_and, Int.toNat_zero, Nat.zero_add, Int.reduceLE, Int.reduceLT, Int.reduceNeg, Int.reduceToNat, Int.reducePow, Int.reduceGT, Int.cast_ofNat_Int, true_or, or_true, Int.ofNat_eq_natCast, decide_true, decide_false, Int.reduceEq, List.isEmpty_cons, List.isEmpty_nil, eDGet1,  keyP, Option.map_some, Option.map_none, Option.getD_some, Option.isSome_some, reduceCtorEq, and_self,  allPure_nil, allPure_cons, Bool.and_true, Bool.true_and, Bool.false_and, Bool.and_false, Bool.not_eq_true, Bool.not_eq_false, gTupP_nil, gLstP_nil, gTupP_ok, gLstP_ok, isRef_tup, isRef_int, isRef_str, isRef_bl, Bool.or_false, Bool.or_true, Bool.true_or, Bool.false_or, hu]
    refine wp_of (slot_ok wl3.w m0 m1) fun p S4 ⟨wl4, ys, ep, ly⟩ => ?_
    subst ep
    have f := fin ys S4 ly
    simp only [wp_ok, wp_no, ↓wp_bind, ↓R.bind_ok, ↓sSeq, ↓sNil, ↓sSet, ↓sAsg, ↓sIf, ↓sRet, ↓sExpr, ↓sPar, ↓sPar3, ↓sFor, ↓nName, ↓nTup, ↓nCons, ↓nNil, ↓nNs, ↓eVar, ↓eC, ↓eOp, ↓eUn, ↓eArgs, ↓eNew, ↓aCons, ↓aNil, ↓tV, ↓tT, toB, truP, ↓tNotE, ↓tAndE, ↓tOrE, ↓tYesE, ↓eAndV, ↓eOrV, ↓eNotV, ↓eNotT, ↓eIf, gAdd_int, gAdd_tup, Py.gSub, gMul_l, gMul_r, gMod, gFdiv, gNeg, gLt, gLe, gGt, gGe, gInt, gIx, gEq_int, gEq_str, gEq_bl, gNe_int, gNe_str, gNe_bl, gIsN, gNotN, getQ, getL, gSetL, ↓nSubL, gDivmod, gMin2, gMax2, ↓mkDef, ↓mkNew, startP, finF, finO, finV_tup, finV_int, finV_bl, finV_lst, finV_non, finV_str, finV_ref, ↓eChain, tyP, gIsi, isiB, ↓iArgs, ↓iSeq, iterP, ↓fComp, wipeP, ↓eSl, ↓oNone, ↓oSome, gSl, ↓eMeth0, ↓eMeth1, ixN, atI0, atI1, atI2, atI3, List.length_cons, List.length_nil, List.map_cons, List.map_nil, List.replicate, List.cons_append, List.nil_append, List.append_nil, List.getElem?_cons_zero, List.getElem?_cons_succ, List.getElem?_nil, List.set_cons_zero, List.set_cons_succ, List.set_nil, List.length_set, List.length_append, Nat.add_sub_cancel, Nat.reduceAdd, Nat.reduceSub, Nat.reduceLT, Nat.reduceEqDiff, Nat.reduceLeDiff, Nat.le_refl, Nat.zero_le, if_true, if_false, ↓reduceIte, decide_eq_true_eq, Bool.false_eq_true, Bool.true_eq_false, Bool.not_true, Bool.not_false, Option.isSome_some, forall_const, not_true_eq_false, not_false_eq_true, imp_self, false_implies, true_implies, implies_true, and_true, true_and, Int.toNat_zero, Nat.zero_add, Int.reduceLE, Int.reduceLT, Int.reduceNeg, Int.reduceToNat, Int.reducePow, Int.reduceGT, Int.cast_ofNat_Int, true_or, or_true, Int.ofNat_eq_natCast, decide_true, decide_false, Int.reduceEq, List.isEmpty_cons, List.isEmpty_nil, eDGet1,  keyP, Option.map_some, Option.map_none, Option.getD_some, Option.isSome_some, reduceCtorEq, and_self,  allPure_nil, allPure_cons, Bool.and_true, Bool.true_and, Bool.false_and, Bool.and_false, Bool.not_eq_true, Bool.not_eq_false, gTupP_nil, gLstP_nil, gTupP_ok, gLstP_ok, isRef_tup, isRef_int, isRef_str, isRef_bl, Bool.or_false, Bool.or_true, Bool.true_or, Bool.false_or] at f
    simp only [wp_ok, wp_no, ↓wp_bind, ↓R.bind_ok, ↓sSeq, ↓sNil, ↓sSet, ↓sAsg, ↓sIf, ↓sRet, ↓sExpr, ↓sPar, ↓sPar3, ↓sFor, ↓nName, ↓nTup, ↓nCons, ↓nNil, ↓nNs, ↓eVar, ↓eC, ↓eOp, ↓eUn, ↓eArgs, ↓eNew, ↓aCons, ↓aNil, ↓tV, ↓tT, toB, truP, ↓tNotE, ↓tAndE, ↓tOrE, ↓tYesE, ↓eAndV, ↓eOrV, ↓eNotV, ↓eNotT, ↓eIf, gAdd_int, gAdd_tup, Py.gSub, gMul_l, gMul_r, gMod, gFdiv, gNeg, gLt, gLe, gGt, gGe, gInt, gIx, gEq_int, gEq_str, gEq_bl, gNe_int, gNe_str, gNe_bl, gIsN, gNotN, getQ, getL, gSetL, ↓nSubL, gDivmod, gMin2, gMax2, ↓mkDef, ↓mkNew, startP, finF, finO, finV_tup, finV_int, finV_bl, finV_lst, finV_non, finV_str, finV_ref, ↓eChain, tyP, gIsi, isiB, ↓iArgs, ↓iSeq, iterP, ↓fComp, wipeP, ↓eSl, ↓oNone, ↓oSome, gSl, ↓eMeth0, ↓eMeth1, ixN, atI0, atI1, atI2, atI3, List.length_cons, List.length_nil, List.map_cons, List.map_nil, List.replicate, List.cons_append, List.nil_append, List.append_nil, List.getElem?_cons_zero, List.getElem?_cons_succ, List.getElem?_nil, List.set_cons_zero, List.set_cons_succ, List.set_nil, List.length_set, List.length_append, Nat.add_sub_cancel, Nat.reduceAdd, Nat.reduceSub, Nat.reduceLT, Nat.reduceEqDiff, Nat.reduceLeDiff, Nat.le_refl, Nat.zero_le, if_true, if_false, ↓reduceIte, decide_eq_true_eq, Bool.false_eq_true, Bool.true_eq_false, Bool.not_true, Bool.not_false, Option.isSome_some, forall_const, not_true_eq_false, not_false_eq_true, imp_self, false_implies, true_implies, implies_true, and_true, true_and, Int.toNat_zero, Nat.zero_add, Int.reduceLE, Int.reduceLT, Int.reduceNeg, Int.reduceToNat, Int.reducePow, Int.reduceGT, Int.cast_ofNat_Int, true_or, or_true, Int.ofNat_eq_natCast, decide_true, decide_false, Int.reduceEq, List.isEmpty_cons, List.isEmpty_nil, eDGet1,  keyP, Option.map_some, Option.map_none, Option.getD_some, Option.isSome_some, reduceCtorEq, and_self,  allPure_nil, allPure_cons, Bool.and_true, Bool.true_and, Bool.false_and, Bool.and_false, Bool.not_eq_true, Bool.not_eq_false, gTupP_nil, gLstP_nil, gTupP_ok, gLstP_ok, isRef_tup, isRef_int, isRef_str, isRef_bl, Bool.or_false, Bool.or_true, Bool.true_or, Bool.false_or]
    exact f
end G80
set_option Elab.async false
set_option maxRecDepth 100000
set_option maxHeartbeats 1000000
set_option linter.all false
namespace G80
open PySem PySem.Spec PyProof.Rows L2 Py
theorem atI_pos {α : Type} {l : List α} {k : Int} (h : 0 ≤ k) : atI l k = l[k.toNat]? := by
  have := atI_nat (l := l) (i := k.toNat)
  rwa [Int.toNat_of_nonneg h] at this
theorem gRange_eq {j : Int} {S : Sto} (h : -1000000 ≤ j) (h2 : j ≤ 1000000) : Py.gRange [.int j] S = .ok (Py.intsFrom 0 j.toNat) S := by
  show (if -(2 ^ 62) ≤ j ∧ j < 2 ^ 62 then R.ok (Py.intsFrom 0 j.toNat) S else .no) = _
  rw [if_pos (by omega)]
theorem ints_cons (a : Int) (n : Nat) : Py.intsFrom a (n + 1) = .int a :: Py.intsFrom (a + 1) n := by
  unfold Py.intsFrom
  rw [List.range_succ_eq_map]
  simp only [List.map_cons, List.map_map]
  congr 1
  · simp
  · apply List.map_congr_left
    intro i _
    simp only [Function.comp]
    congr 1
    omega
theorem ints_zero (a : Int) : Py.intsFrom a 0 = [] := rfl
theorem well_loop {S : Sto} {a0 a1 x4 : Option PV} : ∀ (cs : List Int) (v : Int) (x3 : Option PV),
    WP (forF (nName 3) (sAsg (eOp gMod (eArgs gInt (aCons (eOp gAdd (eOp gAdd (eOp gMul (eVar 2) (eC (.int 47123))) (eOp gMod (eArgs gInt (aCons (eVar 3) aNil)) (eC (.int 2147483587)))) (eC (.int 5))) aNil)) (eC (.int 2147483563))) (nName 2)) (cs.map .int) [a0, a1, some (.int v), x3, x4] S) fun fl S' => S' = S ∧ ∃ (v : Int) (x3 : Option PV), fl = .nx [a0, a1, some (.int v), x3, x4]
  | [], v, x3 => by
    rw [List.map_nil, forF]
    simp only [wp_ok, wp_no, ↓wp_bind, ↓R.bind_ok, ↓sSeq, ↓sNil, ↓sSet, ↓sAsg, ↓sIf, ↓sRet, ↓sExpr, ↓sPar, ↓sPar3, ↓sFor, ↓nName, ↓nTup, ↓nCons, ↓nNil, ↓nNs, ↓eVar, ↓eC, ↓eOp, ↓eUn, ↓eArgs, ↓eNew, ↓aCons, ↓aNil, ↓tV, ↓tT, toB, truP, ↓tNotE, ↓tAndE, ↓tOrE, ↓tYesE, ↓eAndV, ↓eOrV, ↓eNotV, ↓eNotT, ↓eIf, gAdd_int, gAdd_tup, Py.gSub, gMul_l, gMul_r, gMod, gFdiv, gNeg, gLt, gLe, gGt, gGe, gInt, gIx, gEq_int, gEq_str, gEq_bl, gNe_int, gNe_str, gNe_bl, gIsN, gNotN, getQ, getL, gSetL, ↓nSubL, gDivmod, gMin2, gMax2, ↓mkDef, ↓mkNew, startP, finF, finO, finV_tup, finV_int, finV_bl, finV_lst, finV_non, finV_str, finV_ref, ↓eChain, tyP, gIsi, isiB, ↓iArgs, ↓iSeq, iterP, ↓fComp, wipeP, ↓eSl, ↓oNone, ↓oSome, gSl, ↓eMeth0, ↓eMeth1, ixN, atI0, atI1, atI2, atI3, List.length_cons, List.length_nil, List.map_cons, List.map_nil, List.replicate, List.cons_append, List.nil_append, List.append_nil, List.getElem?_cons_zero, List.getElem?_cons_succ, List.getElem?_nil, List.set_cons_zero, List.set_cons_succ, List.set_nil, List.length_set, List.length_append, Nat.add_sub_cancel, Nat.reduceAdd, Nat.reduceSub, Nat.reduceLT, Nat.reduceEqDiff, Nat.reduceLeDiff, Nat.le_refl, Nat.zero_le, if_true, if_false, ↓reduceIte, decide_eq_true_eq, Bool.false_eq_true, Bool.true_eq_false, Bool.not_true, Bool.not_false, Option.isSome_some, forall_const, not_true_eq_false, not_false_eq_true, imp_self, false_implies, true_implies, implies_true, and_true, true_and, Int.toNat_zero, Nat.zero_add, Int.reduceLE, Int.reduceLT, Int.reduceNeg, Int.reduceToNat, Int.reducePow, Int.reduceGT, Int.cast_ofNat_Int, true_or, or_true, Int.ofNat_eq_natCast, decide_true, decide_false, Int.reduceEq, List.isEmpty_cons, List.isEmpty_nil, eDGet1,  keyP, Option.map_some, Option.map_none, Option.getD_some, Option.isSome_some, reduceCtorEq, and_self,  allPure_nil, allPure_cons, Bool.and_true, Bool.true_and, Bool.false_and, Bool.and_false, Bool.not_eq_true, Bool.not_eq_false, gTupP_nil, gLstP_nil, gTupP_ok, gLstP_ok, isRef_tup, isRef_int, isRef_str, isRef_bl, Bool.or_false, Bool.or_true, Bool.true_or, Bool.false_or]
    exact ⟨_, _, rfl⟩
  | c :: cs, v, x3 => by
    rw [List.map_cons, forF]
    simp only [wp_ok, wp_no, ↓wp_bind, ↓R.bind_ok, ↓sSeq, ↓sNil, ↓sSet, ↓sAsg, ↓sIf, ↓sRet, ↓sExpr, ↓sPar, ↓sPar3, ↓sFor, ↓nName, ↓nTup, ↓nCons, ↓nNil, ↓nNs, ↓eVar, ↓eC, ↓eOp, ↓eUn, ↓eArgs, ↓eNew, ↓aCons, ↓aNil, ↓tV, ↓tT, toB, truP, ↓tNotE, ↓tAndE, ↓tOrE, ↓tYesE, ↓eAndV, ↓eOrV, ↓eNotV, ↓eNotT, ↓eIf, gAdd_int, gAdd_tup, Py.gSub, gMul_l, gMul_r, gMod, gFdiv, gNeg, gLt, gLe, gGt, gGe, gInt, gIx, gEq_int, gEq_str, gEq_bl, gNe_int, gNe_str, gNe_bl, gIsN, gNotN, getQ, getL, gSetL, ↓nSubL, gDivmod, gMin2, gMax2, ↓mkDef, ↓mkNew, startP, finF, finO, finV_tup, finV_int, finV_bl, finV_lst, finV_non, finV_str, finV_ref, ↓eChain, tyP, gIsi, isiB, ↓iArgs, ↓iSeq, iterP, ↓fComp, wipeP, ↓eSl, ↓oNone, ↓oSome, gSl, ↓eMeth0, ↓eMeth1, ixN, atI0, atI1, atI2, atI3, List.length_cons, List.length_nil, List.map_cons, List.map_nil, List.replicate, List.cons_append, List.nil_append, List.append_nil, List.getElem?_cons_zero, List.getElem?_cons_succ, List.getElem?_nil, List.set_cons_zero, List.set_cons_succ, List.set_nil, List.length_set, List.length_append, Nat.add_sub_cancel, Nat.reduceAdd, Nat.reduceSub, Nat.reduceLT, Nat.reduceEqDiff, Nat.reduceLeDiff, Nat.le_refl, Nat.zero_le, if_true, if_false, ↓reduceIte, decide_eq_true_eq, Bool.false_eq_true, Bool.true_eq_false, Bool.not_true, Bool.not_false, Option.isSome_some, forall_const, not_true_eq_false, not_false_eq_true, imp_self, false_implies, true_implies, implies_true, and_true, true_and, Int.toNat_zero, Nat.zero_add, Int.reduceLE, Int.reduceLT, Int.reduceNeg, Int.reduceToNat, Int.reducePow, Int.reduceGT, Int.cast_ofNat_Int, true_or, or_true, Int.ofNat_eq_natCast, decide_true, decide_false, Int.reduceEq, List.isEmpty_cons, List.isEmpty_nil, eDGet1,  keyP, Option.map_some, Option.map_none, Option.getD_some, Option.isSome_some, reduceCtorEq, and_self,  allPure_nil, allPure_cons, Bool.and_true, Bool.true_and, Bool.false_and, Bool.and_false, Bool.not_eq_true, Bool.not_eq_false, gTupP_nil, gLstP_nil, gTupP_ok, gLstP_ok, isRef_tup, isRef_int, isRef_str, isRef_bl, Bool.or_false, Bool.or_true, Bool.true_or, Bool.false_or]
    exact well_loop cs _ _
theorem cut_ints (ns : List Int) (lo hi : Option Int) : ∃ cs : List Int, cutP (ns.map .int) lo hi = cs.map .int := by
  refine ⟨(ns.drop (HT.sIx ns.length 0 lo)).take (HT.sIx ns.length ns.length hi - HT.sIx ns.length 0 lo), ?_⟩
  unfold cutP
  rw [List.length_map, List.map_take, List.map_drop]
theorem well_ok {ns : List Int} {t : Int} {S : Sto} (h0 : 0 ≤ t) (ht : t ≤ 10) (hl : ns.length ≤ 63) : WP (m__law_well [.frl (ns.map .int), .int t] S) fun p S' => S' = S ∧ ∃ a b c : Int, p = .lst [.int a, .int b, .int c] := by
  obtain ⟨cs, hcs⟩ := cut_ints ns none (some 9)
  unfold m__law_well b__law_well
  have gl : gLen [.frl (ns.map .int)] S = .ok (.int (ns.length : Nat)) S := by simp [gLen, getQ, getL]
  simp only [wp_ok, wp_no, ↓wp_bind, ↓R.bind_ok, ↓sSeq, ↓sNil, ↓sSet, ↓sAsg, ↓sIf, ↓sRet, ↓sExpr, ↓sPar, ↓sPar3, ↓sFor, ↓nName, ↓nTup, ↓nCons, ↓nNil, ↓nNs, ↓eVar, ↓eC, ↓eOp, ↓eUn, ↓eArgs, ↓eNew, ↓aCons, ↓aNil, ↓tV, ↓tT, toB, truP, ↓tNotE, ↓tAndE, ↓tOrE, ↓tYesE, ↓eAndV, ↓eOrV, ↓eNotV, ↓eNotT, ↓eIf, gAdd_int, gAdd_tup, Py.gSub, gMul_l, gMul_r, gMod, gFdiv, gNeg, gLt, gLe, gGt, gGe, gInt, gIx, gEq_int, gEq_str, gEq_bl, gNe_int, gNe_str, gNe_bl, gIsN, gNotN, getQ, getL, gSetL, ↓nSubL, gDivmod, gMin2, gMax2, ↓mkDef, ↓mkNew, startP, finF, finO, finV_tup, finV_int, finV_bl, finV_lst, finV_non, finV_str, finV_ref, ↓eChain, tyP, gIsi, isiB, ↓iArgs, ↓iSeq, iterP, ↓fComp, wipeP, ↓eSl, ↓oNone, ↓oSome, gSl, ↓eMeth0, ↓eMeth1, ixN, atI0, atI1, atI2, atI3, List.length_cons, List.length_nil, List.map_cons, List.map_nil, List.replicate, List.cons_append, List.nil_append, List.append_nil, List.getElem?_cons_zero, List.getElem?_cons_succ, List.getElem?_nil, List.set_cons_zero, List.set_cons_succ, List.set_nil, List.length_set, List.length_append, Nat.add_sub_cancel, Nat.reduceAdd, Nat.reduceSub, Nat.reduceLT, Nat.reduceEqDiff, Nat.reduceLeDiff, Nat.le_refl, Nat.zero_le, if_true, if_false, ↓reduceIte, decide_eq_true_eq, Bool.false_eq_true, Bool.true_eq_false, Bool.not_true, Bool.not_false, Option.isSome_some, forall_const, not_true_eq_false, not_false_eq_true, imp_self, false_implies, true_implies, implies_true, and_true, true_and, Int.toNat_zero, Nat.zero_add, Int.reduceLE, Int.reduceLT, Int.reduceNeg, Int.reduceToNat, Int.reducePow, Int.reduceGT, Int.cast_ofNat_Int, true_or, or_true, Int.ofNat_eq_natCast, decide_true, decide_false, Int.reduceEq, List.isEmpty_cons, List.isEmpty_nil, eDGet1,  keyP, Option.map_some, Option.map_none, Option.getD_some, Option.isSome_some, reduceCtorEq, and_self,  allPure_nil, allPure_cons, Bool.and_true, Bool.true_and, Bool.false_and, Bool.and_false, Bool.not_eq_true, Bool.not_eq_false, gTupP_nil, gLstP_nil, gTupP_ok, gLstP_ok, isRef_tup, isRef_int, isRef_str, isRef_bl, Bool.or_false, Bool.or_true, Bool.true_or, Bool.false_or, fSl, gSlF, hcs]
  refine wp_of (well_loop cs _ _) fun fl S' ⟨e1, v, x3, e2⟩ => ?_
  subst e1 e2
  have nl : ¬ S'.length < S'.length := by omega
  have fin : ∀ w : Int, WP ((sSeq (sAsg (eOp gMod (eArgs gInt (aCons (eOp gAdd (eOp gAdd (eOp gMul (eVar 2) (eC (.int 43))) (eOp gMul (eOp gMod (eArgs gInt (aCons (eVar 4) aNil)) (eC (.int 2147483587))) (eC (.int 20011)))) (eC (.int 7))) aNil)) (eC (.int 2147483563))) (nName 2)) (sRet (eNew (eArgs gLstP (aCons (eIf (tOrE (tV (eOp gLt (eVar 4) (eC (.int 0)))) (tV (eOp gGe (eVar 4) (eOp gPow (eC (.int 10)) (eC (.int 14)))))) (eArgs gAbs (aCons (eVar 4) aNil)) (eC (.int 0))) (aCons (eVar 2) (aCons (eC (.int 0)) aNil)))))))
      [some (.frl (ns.map .int)), some (.int t), some (.int v), x3, some (.int w)] S') fun fl S2 => WP (finO S'.length fl S2) fun p S2 => S2 = S' ∧ ∃ a b c : Int, p = .lst [.int a, .int b, .int c] := by
    intro w
    have gp : gPow (.int 10) (.int 14) S' = .ok (.int (10 ^ 14)) S' := by
      show (if 0 ≤ (14 : Int) ∧ (14 : Int) ≤ 1000000 ∧ (10 : Int).natAbs < 2 ^ 64 then R.ok (PV.int (10 ^ (14 : Int).toNat)) S' else .no) = _
      rw [if_pos (by decide)]; rfl
    have ga : gAbs [.int w] S' = .ok (.int (if w < 0 then -w else w)) S' := rfl
    by_cases c1 : w < 0
    · simp only [wp_ok, wp_no, ↓wp_bind, ↓R.bind_ok, ↓sSeq, ↓sNil, ↓sSet, ↓sAsg, ↓sIf, ↓sRet, ↓sExpr, ↓sPar, ↓sPar3, ↓sFor, ↓nName, ↓nTup, ↓nCons, ↓nNil, ↓nNs, ↓eVar, ↓eC, ↓eOp, ↓eUn, ↓eArgs, ↓eNew, ↓aCons, ↓aNil, ↓tV, ↓tT, toB, truP, ↓tNotE, ↓tAndE, ↓tOrE, ↓tYesE, ↓eAndV, ↓eOrV, ↓eNotV, ↓eNotT, ↓eIf, gAdd_int, gAdd_tup, Py.gSub, gMul_l, gMul_r, gMod, gFdiv, gNeg, gLt, gLe, gGt, gGe, gInt, gIx, gEq_int, gEq_str, gEq_bl, gNe_int, gNe_str, gNe_bl, gIsN, gNotN, getQ, getL, gSetL, ↓nSubL, gDivmod, gMin2, gMax2, ↓mkDef, ↓mkNew, startP, finF, finO, finV_tup, finV_int, finV_bl, finV_lst, finV_non, finV_str, finV_ref, ↓eChain, tyP, gIsi, isiB, ↓iArgs, ↓iSeq, iterP, ↓fComp, wipeP, ↓eSl, ↓oNone, ↓oSome, gSl, ↓eMeth0, ↓eMeth1, ixN, atI0, atI1, atI2, atI3, List.length_cons, List.length_nil, List.map_cons, List.map_nil, List.replicate, List.cons_append, List.nil_append, List.append_nil, List.getElem?_cons_zero, List.getElem?_cons_succ, List.getElem?_nil, List.set_cons_zero, List.set_cons_succ, List.set_nil, List.length_set, List.length_append, Nat.add_sub_cancel, Nat.reduceAdd, Nat.reduceSub, Nat.reduceLT, Nat.reduceEqDiff, Nat.reduceLeDiff, Nat.le_refl, Nat.zero_le, if_true, if_false, ↓reduceIte, decide_eq_true_eq, Bool.false_eq_true, Bool.true_eq_false, Bool.not_true, Bool.not_false, Option.isSome_some, forall_const, not_true_eq_false, not_false_eq_true, imp_self, false_implies, true_implies, implies_true, and_true, true_and, Int.toNat_zero, Nat.zero_add, Int.reduceLE, Int.reduceLT, Int.reduceNeg, Int.reduceToNat, Int.reducePow, Int.reduceGT, Int.cast_ofNat_Int, true_or, or_true, Int.ofNat_eq_natCast, decide_true, decide_false, Int.reduceEq, List.isEmpty_cons, List.isEmpty_nil, eDGet1,  keyP, Option.map_some, Option.map_none, Option.getD_some, Option.isSome_some, reduceCtorEq, and_self,  allPure_nil, allPure_cons, Bool.and_true, Bool.true_and, Bool.false_and, Bool.and_false, Bool.not_eq_true, Bool.not_eq_false, gTupP_nil, gLstP_nil, gTupP_ok, gLstP_ok, isRef_tup, isRef_int, isRef_str, isRef_bl, Bool.or_false, Bool.or_true, Bool.true_or, Bool.false_or, c1, ga, nl, get_last, take_app]
      exact ⟨_, _, _, rfl⟩
    · by_cases c2 : (10 : Int) ^ 14 ≤ w
      · have c2' : (100000000000000 : Int) ≤ w := by simpa using c2
        simp only [wp_ok, wp_no, ↓wp_bind, ↓R.bind_ok, ↓sSeq, ↓sNil, ↓sSet, ↓sAsg, ↓sIf, ↓sRet, ↓sExpr, ↓sPar, ↓sPar3, ↓sFor, ↓nName, ↓nTup, ↓nCons, ↓nNil, ↓nNs, ↓eVar, ↓eC, ↓eOp, ↓eUn, ↓eArgs, ↓eNew, ↓aCons, ↓aNil, ↓tV, ↓tT, toB, truP, ↓tNotE, ↓tAndE, ↓tOrE, ↓tYesE, ↓eAndV, ↓eOrV, ↓eNotV, ↓eNotT, ↓eIf, gAdd_int, gAdd_tup, Py.gSub, gMul_l, gMul_r, gMod, gFdiv, gNeg, gLt, gLe, gGt, gGe, gInt, gIx, gEq_int, gEq_str, gEq_bl, gNe_int, gNe_str, gNe_bl, gIsN, gNotN, getQ, getL, gSetL, ↓nSubL, gDivmod, gMin2, gMax2, ↓mkDef, ↓mkNew, startP, finF, finO, finV_tup, finV_int, finV_bl, finV_lst, finV_non, finV_str, finV_ref, ↓eChain, tyP, gIsi, isiB, ↓iArgs, ↓iSeq, iterP, ↓fComp, wipeP, ↓eSl, ↓oNone, ↓oSome, gSl, ↓eMeth0, ↓eMeth1, ixN, atI0, atI1, atI2, atI3, List.length_cons, List.length_nil, List.map_cons, List.map_nil, List.replicate, List.cons_append, List.nil_append, List.append_nil, List.getElem?_cons_zero, List.getElem?_cons_succ, List.getElem?_nil, List.set_cons_zero, List.set_cons_succ, List.set_nil, List.length_set, List.length_append, Nat.add_sub_cancel, Nat.reduceAdd, Nat.reduceSub, Nat.reduceLT, Nat.reduceEqDiff, Nat.reduceLeDiff, Nat.le_refl, Nat.zero_le, if_true, if_false, ↓reduceIte, decide_eq_true_eq, Bool.false_eq_true, Bool.true_eq_false, Bool.not_true, Bool.not_false, Option.isSome_some, forall_const, not_true_eq_false, not_false_eq_true, imp_self, false_implies, true_implies, implies_true, and_true, true_and, Int.toNat_zero, Nat.zero_add, Int.reduceLE, Int.reduceLT, Int.reduceNeg, Int.reduceToNat, Int.reducePow, Int.reduceGT, Int.cast_ofNat_Int, true_or, or_true, Int.ofNat_eq_natCast, decide_true, decide_false, Int.reduceEq, List.isEmpty_cons, List.isEmpty_nil, eDGet1,  keyP, Option.map_some, Option.map_none, Option.getD_some, Option.isSome_some, reduceCtorEq, and_self,  allPure_nil, allPure_cons, Bool.and_true, Bool.true_and, Bool.false_and, Bool.and_false, Bool.not_eq_true, Bool.not_eq_false, gTupP_nil, gLstP_nil, gTupP_ok, gLstP_ok, isRef_tup, isRef_int, isRef_str, isRef_bl, Bool.or_false, Bool.or_true, Bool.true_or, Bool.false_or, c1, gp, c2', ga, nl, get_last, take_app]
        exact ⟨_, _, _, rfl⟩
      · have c2' : ¬ (100000000000000 : Int) ≤ w := by simpa using c2
        simp only [wp_ok, wp_no, ↓wp_bind, ↓R.bind_ok, ↓sSeq, ↓sNil, ↓sSet, ↓sAsg, ↓sIf, ↓sRet, ↓sExpr, ↓sPar, ↓sPar3, ↓sFor, ↓nName, ↓nTup, ↓nCons, ↓nNil, ↓nNs, ↓eVar, ↓eC, ↓eOp, ↓eUn, ↓eArgs, ↓eNew, ↓aCons, ↓aNil, ↓tV, ↓tT, toB, truP, ↓tNotE, ↓tAndE, ↓tOrE, ↓tYesE, ↓eAndV, ↓eOrV, ↓eNotV, ↓eNotT, ↓eIf, gAdd_int, gAdd_tup, Py.gSub, gMul_l, gMul_r, gMod, gFdiv, gNeg, gLt, gLe, gGt, gGe, gInt, gIx, gEq_int, gEq_str, gEq_bl, gNe_int, gNe_str, gNe_bl, gIsN, gNotN, getQ, getL, gSetL, ↓nSubL, gDivmod, gMin2, gMax2, ↓mkDef, ↓mkNew, startP, finF, finO, finV_tup, finV_int, finV_bl, finV_lst, finV_non, finV_str, finV_ref, ↓eChain, tyP, gIsi, isiB, ↓iArgs, ↓iSeq, iterP, ↓fComp, wipeP, ↓eSl, ↓oNone, ↓oSome, gSl, ↓eMeth0, ↓eMeth1, ixN, atI0, atI1, atI2, atI3, List.length_cons, List.length_nil, List.map_cons, List.map_nil, List.replicate, List.cons_append, List.nil_append, List.append_nil, List.getElem?_cons_zero, List.getElem?_cons_succ, List.getElem?_nil, List.set_cons_zero, List.set_cons_succ, List.set_nil, List.length_set, List.length_append, Nat.add_sub_cancel, Nat.reduceAdd, Nat.reduceSub, Nat.reduceLT, Nat.reduceEqDiff, Nat.reduceLeDiff, Nat.le_refl, Nat.zero_le, if_true, if_false, ↓reduceIte, decide_eq_true_eq, Bool.false_eq_true, Bool.true_eq_false, Bool.not_true, Bool.not_false, Option.isSome_some, forall_const, not_true_eq_false, not_false_eq_true, imp_self, false_implies, true_implies, implies_true, and_true, true_and, Int.toNat_zero, Nat.zero_add, Int.reduceLE, Int.reduceLT, Int.reduceNeg, Int.reduceToNat, Int.reducePow, Int.reduceGT, Int.cast_ofNat_Int, true_or, or_true, Int.ofNat_eq_natCast, decide_true, decide_false, Int.reduceEq, List.isEmpty_cons, List.isEmpty_nil, eDGet1,  keyP, Option.map_some, Option.map_none, Option.getD_some, Option.isSome_some, reduceCtorEq, and_self,  allPure_nil, allPure_cons, Bool.and_true, Bool.true_and, Bool.false_and, Bool.and_false, Bool.not_eq_true, Bool.not_eq_false, gTupP_nil, gLstP_nil, gTupP_ok, gLstP_ok, isRef_tup, isRef_int, isRef_str, isRef_bl, Bool.or_false, Bool.or_true, Bool.true_or, Bool.false_or, c1, gp, c2', ga, nl, get_last, take_app]
        exact ⟨_, _, _, rfl⟩
  by_cases c : t < (ns.length : Nat)
  · have hk : t.toNat < ns.length := by omega
    have a1 : atI (ns.map PV.int) t = some (.int ns[t.toNat]) := by rw [atI_pos h0]; simp [hk]
    have f := fin ns[t.toNat]
    simp only [wp_ok, wp_no, ↓wp_bind, ↓R.bind_ok, ↓sSeq, ↓sNil, ↓sSet, ↓sAsg, ↓sIf, ↓sRet, ↓sExpr, ↓sPar, ↓sPar3, ↓sFor, ↓nName, ↓nTup, ↓nCons, ↓nNil, ↓nNs, ↓eVar, ↓eC, ↓eOp, ↓eUn, ↓eArgs, ↓eNew, ↓aCons, ↓aNil, ↓tV, ↓tT, toB, truP, ↓tNotE, ↓tAndE, ↓tOrE, ↓tYesE, ↓eAndV, ↓eOrV, ↓eNotV, ↓eNotT, ↓eIf, gAdd_int, gAdd_tup, Py.gSub, gMul_l, gMul_r, gMod, gFdiv, gNeg, gLt, gLe, gGt, gGe, gInt, gIx, gEq_int, gEq_str, gEq_bl, gNe_int, gNe_str, gNe_bl, gIsN, gNotN, getQ, getL, gSetL, ↓nSubL, gDivmod, gMin2, gMax2, ↓mkDef, ↓mkNew, startP, finF, finO, finV_tup, finV_int, finV_bl, finV_lst, finV_non, finV_str, finV_ref, ↓eChain, tyP, gIsi, isiB, ↓iArgs, ↓iSeq, iterP, ↓fComp, wipeP, ↓eSl, ↓oNone, ↓oSome, gSl, ↓eMeth0, ↓eMeth1, ixN, atI0, atI1, atI2, atI3, List.length_cons, List.length_nil, List.map_cons, List.map_nil, List.replicate, List.cons_append, List.nil_append, List.append_nil, List.getElem?_cons_zero, List.getElem?_cons_succ, List.getElem?_nil, List.set_cons_zero, List.set_cons_succ, List.set_nil, List.length_set, List.length_append, Nat.add_sub_cancel, Nat.reduceAdd, Nat.reduceSub, Nat.reduceLT, Nat.reduceEqDiff, Nat.reduceLeDiff, Nat.le_refl, Nat.zero_le, if_true, if_false, ↓reduceIte, decide_eq_true_eq, Bool.false_eq_true, Bool.true_eq_false, Bool.not_true, Bool.not_false, Option.isSome_some, forall_const, not_true_eq_false, not_false_eq_true, imp_self, false_implies, true_implies, implies_true, and_true, true_and, Int.toNat_zero, Nat.zero_add, Int.reduceLE, Int.reduceLT, Int.reduceNeg, Int.reduceToNat, Int.reducePow, Int.reduceGT, Int.cast_ofNat_Int, true_or, or_true, Int.ofNat_eq_natCast, decide_true, decide_false, Int.reduceEq, List.isEmpty_cons, List.isEmpty_nil, eDGet1,  keyP, Option.map_some, Option.map_none, Option.getD_some, Option.isSome_some, reduceCtorEq, and_self,  allPure_nil, allPure_cons, Bool.and_true, Bool.true_and, Bool.false_and, Bool.and_false, Bool.not_eq_true, Bool.not_eq_false, gTupP_nil, gLstP_nil, gTupP_ok, gLstP_ok, isRef_tup, isRef_int, isRef_str, isRef_bl, Bool.or_false, Bool.or_true, Bool.true_or, Bool.false_or, gl, c, a1]
    simp only [wp_ok, wp_no, ↓wp_bind, ↓R.bind_ok, ↓sSeq, ↓sNil, ↓sSet, ↓sAsg, ↓sIf, ↓sRet, ↓sExpr, ↓sPar, ↓sPar3, ↓sFor, ↓nName, ↓nTup, ↓nCons, ↓nNil, ↓nNs, ↓eVar, ↓eC, ↓eOp, ↓eUn, ↓eArgs, ↓eNew, ↓aCons, ↓aNil, ↓tV, ↓tT, toB, truP, ↓tNotE, ↓tAndE, ↓tOrE, ↓tYesE, ↓eAndV, ↓eOrV, ↓eNotV, ↓eNotT, ↓eIf, gAdd_int, gAdd_tup, Py.gSub, gMul_l, gMul_r, gMod, gFdiv, gNeg, gLt, gLe, gGt, gGe, gInt, gIx, gEq_int, gEq_str, gEq_bl, gNe_int, gNe_str, gNe_bl, gIsN, gNotN, getQ, getL, gSetL, ↓nSubL, gDivmod, gMin2, gMax2, ↓mkDef, ↓mkNew, startP, finF, finO, finV_tup, finV_int, finV_bl, finV_lst, finV_non, finV_str, finV_ref, ↓eChain, tyP, gIsi, isiB, ↓iArgs, ↓iSeq, iterP, ↓fComp, wipeP, ↓eSl, ↓oNone, ↓oSome, gSl, ↓eMeth0, ↓eMeth1, ixN, atI0, atI1, atI2, atI3, List.length_cons, List.length_nil, List.map_cons, List.map_nil, List.replicate, List.cons_append, List.nil_append, List.append_nil, List.getElem?_cons_zero, List.getElem?_cons_succ, List.getElem?_nil, List.set_cons_zero, List.set_cons_succ, List.set_nil, List.length_set, List.length_append, Nat.add_sub_cancel, Nat.reduceAdd, Nat.reduceSub, Nat.reduceLT, Nat.reduceEqDiff, Nat.reduceLeDiff, Nat.le_refl, Nat.zero_le, if_true, if_false, ↓reduceIte, decide_eq_true_eq, Bool.false_eq_true, Bool.true_eq_false, Bool.not_true, Bool.not_false, Option.isSome_some, forall_const, not_true_eq_false, not_false_eq_true, imp_self, false_implies, true_implies, implies_true, and_true, true_and, Int.toNat_zero, Nat.zero_add, Int.reduceLE, Int.reduceLT, Int.reduceNeg, Int.reduceToNat, Int.reducePow, Int.reduceGT, Int.cast_ofNat_Int, true_or, or_true, Int.ofNat_eq_natCast, decide_true, decide_false, Int.reduceEq, List.isEmpty_cons, List.isEmpty_nil, eDGet1,  keyP, Option.map_some, Option.map_none, Option.getD_some, Option.isSome_some, reduceCtorEq, and_self,  allPure_nil, allPure_cons, Bool.and_true, Bool.true_and, Bool.false_and, Bool.and_false, Bool.not_eq_true, Bool.not_eq_false, gTupP_nil, gLstP_nil, gTupP_ok, gLstP_ok, isRef_tup, isRef_int, isRef_str, isRef_bl, Bool.or_false, Bool.or_true, Bool.true_or, Bool.false_or] at f
    exact f
  · have f := fin 0
    simp only [wp_ok, wp_no, ↓wp_bind, ↓R.bind_ok, ↓sSeq, ↓sNil, ↓sSet, ↓sAsg, ↓sIf, ↓sRet, ↓sExpr, ↓sPar, ↓sPar3, ↓sFor, ↓nName, ↓nTup, ↓nCons, ↓nNil, ↓nNs, ↓eVar, ↓eC, ↓eOp, ↓eUn, ↓eArgs, ↓eNew, ↓aCons, ↓aNil, ↓tV, ↓tT, toB, truP, ↓tNotE, ↓tAndE, ↓tOrE, ↓tYesE, ↓eAndV, ↓eOrV, ↓eNotV, ↓eNotT, ↓eIf, gAdd_int, gAdd_tup, Py.gSub, gMul_l, gMul_r, gMod, gFdiv, gNeg, gLt, gLe, gGt, gGe, gInt, gIx, gEq_int, gEq_str, gEq_bl, gNe_int, gNe_str, gNe_bl, gIsN, gNotN, getQ, getL, gSetL, ↓nSubL, gDivmod, gMin2, gMax2, ↓mkDef, ↓mkNew, startP, finF, finO, finV_tup, finV_int, finV_bl, finV_lst, finV_non, finV_str, finV_ref, ↓eChain, tyP, gIsi, isiB, ↓iArgs, ↓iSeq, iterP, ↓fComp, wipeP, ↓eSl, ↓oNone, ↓oSome, gSl, ↓eMeth0, ↓eMeth1, ixN, atI0, atI1, atI2, atI3, List.length_cons, List.length_nil, List.map_cons, List.map_nil, List.replicate, List.cons_append, List.nil_append, List.append_nil, List.getElem?_cons_zero, List.getElem?_cons_succ, List.getElem?_nil, List.set_cons_zero, List.set_cons_succ, List.set_nil, List.length_set, List.length_append, Nat.add_sub_cancel, Nat.reduceAdd, Nat.reduceSub, Nat.reduceLT, Nat.reduceEqDiff, Nat.reduceLeDiff, Nat.le_refl, Nat.zero_le, if_true, if_false, ↓reduceIte, decide_eq_true_eq, Bool.false_eq_true, Bool.true_eq_false, Bool.not_true, Bool.not_false, Option.isSome_some, forall_const, not_true_eq_false, not_false_eq_true, imp_self, false_implies, true_implies, implies_true, and_true, true_and, Int.toNat_zero, Nat.zero_add, Int.reduceLE, Int.reduceLT, Int.reduceNeg, Int.reduceToNat, Int.reducePow, Int.reduceGT, Int.cast_ofNat_Int, true_or, or_true, Int.ofNat_eq_natCast, decide_true, decide_false, Int.reduceEq, List.isEmpty_cons, List.isEmpty_nil, eDGet1,  keyP, Option.map_some, Option.map_none, Option.getD_some, Option.isSome_some, reduceCtorEq, and_self,  allPure_nil, allPure_cons, Bool.and_true, Bool.true_and, Bool.false_and, Bool.and_false, Bool.not_eq_true, Bool.not_eq_false, gTupP_nil, gLstP_nil, gTupP_ok, gLstP_ok, isRef_tup, isRef_int, isRef_str, isRef_bl, Bool.or_false, Bool.or_true, Bool.true_or, Bool.false_or, gl, c]
    simp only [wp_ok, wp_no, ↓wp_bind, ↓R.bind_ok, ↓sSeq, ↓sNil, ↓sSet, ↓sAsg, ↓sIf, ↓sRet, ↓sExpr, ↓sPar, ↓sPar3, ↓sFor, ↓nName, ↓nTup, ↓nCons, ↓nNil, ↓nNs, ↓eVar, ↓eC, ↓eOp, ↓eUn, ↓eArgs, ↓eNew, ↓aCons, ↓aNil, ↓tV, ↓tT, toB, truP, ↓tNotE, ↓tAndE, ↓tOrE, ↓tYesE, ↓eAndV, ↓eOrV, ↓eNotV, ↓eNotT, ↓eIf, gAdd_int, gAdd_tup, Py.gSub, gMul_l, gMul_r, gMod, gFdiv, gNeg, gLt, gLe, gGt, gGe, gInt, gIx, gEq_int, gEq_str, gEq_bl, gNe_int, gNe_str, gNe_bl, gIsN, gNotN, getQ, getL, gSetL, ↓nSubL, gDivmod, gMin2, gMax2, ↓mkDef, ↓mkNew, startP, finF, finO, finV_tup, finV_int, finV_bl, finV_lst, finV_non, finV_str, finV_ref, ↓eChain, tyP, gIsi, isiB, ↓iArgs, ↓iSeq, iterP, ↓fComp, wipeP, ↓eSl, ↓oNone, ↓oSome, gSl, ↓eMeth0, ↓eMeth1, ixN, atI0, atI1, atI2, atI3, List.length_cons, List.length_nil, List.map_cons, List.map_nil, List.replicate, List.cons_append, List.nil_append, List.append_nil, List.getElem?_cons_zero, List.getElem?_cons_succ, List.getElem?_nil, List.set_cons_zero, List.set_cons_succ, List.set_nil, List.length_set, List.length_append, Nat.add_sub_cancel, Nat.reduceAdd, Nat.reduceSub, Nat.reduceLT, Nat.reduceEqDiff, Nat.reduceLeDiff, Nat.le_refl, Nat.zero_le, if_true, if_false, ↓reduceIte, decide_eq_true_eq, Bool.false_eq_true, Bool.true_eq_false, Bool.not_true, Bool.not_false, Option.isSome_some, forall_const, not_true_eq_false, not_false_eq_true, imp_self, false_implies, true_implies, implies_true, and_true, true_and, Int.toNat_zero, Nat.zero_add, Int.reduceLE, Int.reduceLT, Int.reduceNeg, Int.reduceToNat, Int.reducePow, Int.reduceGT, Int.cast_ofNat_Int, true_or, or_true, Int.ofNat_eq_natCast, decide_true, decide_false, Int.reduceEq, List.isEmpty_cons, List.isEmpty_nil, eDGet1,  keyP, Option.map_some, Option.map_none, Option.getD_some, Option.isSome_some, reduceCtorEq, and_self,  allPure_nil, allPure_cons, Bool.and_true, Bool.true_and, Bool.false_and, Bool.and_false, Bool.not_eq_true, Bool.not_eq_false, gTupP_nil, gLstP_nil, gTupP_ok, gLstP_ok, isRef_tup, isRef_int, isRef_str, isRef_bl, Bool.or_false, Bool.or_true, Bool.true_or, Bool.false_or] at f
    exact f
theorem body_ok {ns : List Int} (hl : ns.length ≤ 63) {i : Int} (h0 : 0 ≤ i) (h1 : i ≤ 10) {S : Sto} : WP ((eArgs m__law_right (aCons (eNew (eArgs m__law_well (aCons (eVar 0) (aCons (eVar 1) aNil)))) aNil)) [some (.frl (ns.map .int)), some (.int i)] S) fun p S' => p = .bl true := by
  simp only [wp_ok, wp_no, ↓wp_bind, ↓R.bind_ok, ↓sSeq, ↓sNil, ↓sSet, ↓sAsg, ↓sIf, ↓sRet, ↓sExpr, ↓sPar, ↓sPar3, ↓sFor, ↓nName, ↓nTup, ↓nCons, ↓nNil, ↓nNs, ↓eVar, ↓eC, ↓eOp, ↓eUn, ↓eArgs, ↓eNew, ↓aCons, ↓aNil, ↓tV, ↓tT, toB, truP, ↓tNotE, ↓tAndE, ↓tOrE, ↓tYesE, ↓eAndV, ↓eOrV, ↓eNotV, ↓eNotT, ↓eIf, gAdd_int, gAdd_tup, Py.gSub, gMul_l, gMul_r, gMod, gFdiv, gNeg, gLt, gLe, gGt, gGe, gInt, gIx, gEq_int, gEq_str, gEq_bl, gNe_int, gNe_str, gNe_bl, gIsN, gNotN, getQ, getL, gSetL, ↓nSubL, gDivmod, gMin2, gMax2, ↓mkDef, ↓mkNew, startP, finF, finO, finV_tup, finV_int, finV_bl, finV_lst, finV_non, finV_str, finV_ref, ↓eChain, tyP, gIsi, isiB, ↓iArgs, ↓iSeq, iterP, ↓fComp, wipeP, ↓eSl, ↓oNone, ↓oSome, gSl, ↓eMeth0, ↓eMeth1, ixN, atI0, atI1, atI2, atI3, List.length_cons, List.length_nil, List.map_cons, List.map_nil, List.replicate, List.cons_append, List.nil_append, List.append_nil, List.getElem?_cons_zero, List.getElem?_cons_succ, List.getElem?_nil, List.set_cons_zero, List.set_cons_succ, List.set_nil, List.length_set, List.length_append, Nat.add_sub_cancel, Nat.reduceAdd, Nat.reduceSub, Nat.reduceLT, Nat.reduceEqDiff, Nat.reduceLeDiff, Nat.le_refl, Nat.zero_le, if_true, if_false, ↓reduceIte, decide_eq_true_eq, Bool.false_eq_true, Bool.true_eq_false, Bool.not_true, Bool.not_false, Option.isSome_some, forall_const, not_true_eq_false, not_false_eq_true, imp_self, false_implies, true_implies, implies_true, and_true, true_and, Int.toNat_zero, Nat.zero_add, Int.reduceLE, Int.reduceLT, Int.reduceNeg, Int.reduceToNat, Int.reducePow, Int.reduceGT, Int.cast_ofNat_Int, true_or, or_true, Int.ofNat_eq_natCast, decide_true, decide_false, Int.reduceEq, List.isEmpty_cons, List.isEmpty_nil, eDGet1,  keyP, Option.map_some, Option.map_none, Option.getD_some, Option.isSome_some, reduceCtorEq, and_self,  allPure_nil, allPure_cons, Bool.and_true, Bool.true_and, Bool.false_and, Bool.and_false, Bool.not_eq_true, Bool.not_eq_false, gTupP_nil, gLstP_nil, gTupP_ok, gLstP_ok, isRef_tup, isRef_int, isRef_str, isRef_bl, Bool.or_false, Bool.or_true, Bool.true_or, Bool.false_or]
  refine wp_of (well_ok h0 h1 hl) fun p S' ⟨e, a, b, c, ep⟩ => ?_
  subst e ep
  try simp only [wp_ok, wp_no, ↓wp_bind, ↓R.bind_ok, ↓sSeq, ↓sNil, ↓sSet, ↓sAsg, ↓sIf, ↓sRet, ↓sExpr, ↓sPar, ↓sPar3, ↓sFor, ↓nName, ↓nTup, ↓nCons, ↓nNil, ↓nNs, ↓eVar, ↓eC, ↓eOp, ↓eUn, ↓eArgs, ↓eNew, ↓aCons, ↓aNil, ↓tV, ↓tT, toB, truP, ↓tNotE, ↓tAndE, ↓tOrE, ↓tYesE, ↓eAndV, ↓eOrV, ↓eNotV, ↓eNotT, ↓eIf, gAdd_int, gAdd_tup, Py.gSub, gMul_l, gMul_r, gMod, gFdiv, gNeg, gLt, gLe, gGt, gGe, gInt, gIx, gEq_int, gEq_str, gEq_bl, gNe_int, gNe_str, gNe_bl, gIsN, gNotN, getQ, getL, gSetL, ↓nSubL, gDivmod, gMin2, gMax2, ↓mkDef, ↓mkNew, startP, finF, finO, finV_tup, finV_int, finV_bl, finV_lst, finV_non, finV_str, finV_ref, ↓eChain, tyP, gIsi, isiB, ↓iArgs, ↓iSeq, iterP, ↓fComp, wipeP, ↓eSl, ↓oNone, ↓oSome, gSl, ↓eMeth0, ↓eMeth1, ixN, atI0, atI1, atI2, atI3, List.length_cons, List.length_nil, List.map_cons, List.map_nil, List.replicate, List.cons_append, List.nil_append, List.append_nil, List.getElem?_cons_zero, List.getElem?_cons_succ, List.getElem?_nil, List.set_cons_zero, List.set_cons_succ, List.set_nil, List.length_set, List.length_append, Nat.add_sub_cancel, Nat.reduceAdd, Nat.reduceSub, Nat.reduceLT, Nat.reduceEqDiff, Nat.reduceLeDiff, Nat.le_refl, Nat.zero_le, if_true, if_false, ↓reduceIte, decide_eq_true_eq, Bool.false_eq_true, Bool.true_eq_false, Bool.not_true, Bool.not_false, Option.isSome_some, forall_const, not_true_eq_false, not_false_eq_true, imp_self, false_implies, true_implies, implies_true, and_true, true_and, Int.toNat_zero, Nat.zero_add, Int.reduceLE, Int.reduceLT, Int.reduceNeg, Int.reduceToNat, Int.reducePow, Int.reduceGT, Int.cast_ofNat_Int, true_or, or_true, Int.ofNat_eq_natCast, decide_true, decide_false, Int.reduceEq, List.isEmpty_cons, List.isEmpty_nil, eDGet1,  keyP, Option.map_some, Option.map_none, Option.getD_some, Option.isSome_some, reduceCtorEq, and_self,  allPure_nil, allPure_cons, Bool.and_true, Bool.true_and, Bool.false_and, Bool.and_false, Bool.not_eq_true, Bool.not_eq_false, gTupP_nil, gLstP_nil, gTupP_ok, gLstP_ok, isRef_tup, isRef_int, isRef_str, isRef_bl, Bool.or_false, Bool.or_true, Bool.true_or, Bool.false_or]
  exact right_ok ⟨a, b, c, get_last⟩
theorem comp_true {f : Ev} {s : Option PV} (hf : ∀ i : Int, 0 ≤ i → i ≤ 10 → ∀ S, WP (f [s, some (.int i)] S) fun p S' => p = .bl true) : ∀ (c : Nat) (i : Int) (acc : List PV) (x1 : Option PV) (S : Sto), 0 ≤ i → i + c ≤ 10 → acc.length + c ≤ 100 →
    WP (compF (nName 1) tYesE f [s, x1] (Py.intsFrom i c) acc S) fun p S' => p = .lst (acc ++ (Py.intsFrom i c).map fun _ => .bl true)
  | 0, i, acc, x1, S, h0, h1, h2 => by
    rw [ints_zero, compF]
    show PV.lst acc = _
    simp
  | c + 1, i, acc, x1, S, h0, h1, h2 => by
    rw [ints_cons, compF]
    simp only [wp_ok, wp_no, ↓wp_bind, ↓R.bind_ok, ↓sSeq, ↓sNil, ↓sSet, ↓sAsg, ↓sIf, ↓sRet, ↓sExpr, ↓sPar, ↓sPar3, ↓sFor, ↓nName, ↓nTup, ↓nCons, ↓nNil, ↓nNs, ↓eVar, ↓eC, ↓eOp, ↓eUn, ↓eArgs, ↓eNew, ↓aCons, ↓aNil, ↓tV, ↓tT, toB, truP, ↓tNotE, ↓tAndE, ↓tOrE, ↓tYesE, ↓eAndV, ↓eOrV, ↓eNotV, ↓eNotT, ↓eIf, gAdd_int, gAdd_tup, Py.gSub, gMul_l, gMul_r, gMod, gFdiv, gNeg, gLt, gLe, gGt, gGe, gInt, gIx, gEq_int, gEq_str, gEq_bl, gNe_int, gNe_str, gNe_bl, gIsN, gNotN, getQ, getL, gSetL, ↓nSubL, gDivmod, gMin2, gMax2, ↓mkDef, ↓mkNew, startP, finF, finO, finV_tup, finV_int, finV_bl, finV_lst, finV_non, finV_str, finV_ref, ↓eChain, tyP, gIsi, isiB, ↓iArgs, ↓iSeq, iterP, ↓fComp, wipeP, ↓eSl, ↓oNone, ↓oSome, gSl, ↓eMeth0, ↓eMeth1, ixN, atI0, atI1, atI2, atI3, List.length_cons, List.length_nil, List.map_cons, List.map_nil, List.replicate, List.cons_append, List.nil_append, List.append_nil, List.getElem?_cons_zero, List.getElem?_cons_succ, List.getElem?_nil, List.set_cons_zero, List.set_cons_succ, List.set_nil, List.length_set, List.length_append, Nat.add_sub_cancel, Nat.reduceAdd, Nat.reduceSub, Nat.reduceLT, Nat.reduceEqDiff, Nat.reduceLeDiff, Nat.le_refl, Nat.zero_le, if_true, if_false, ↓reduceIte, decide_eq_true_eq, Bool.false_eq_true, Bool.true_eq_false, Bool.not_true, Bool.not_false, Option.isSome_some, forall_const, not_true_eq_false, not_false_eq_true, imp_self, false_implies, true_implies, implies_true, and_true, true_and, Int.toNat_zero, Nat.zero_add, Int.reduceLE, Int.reduceLT, Int.reduceNeg, Int.reduceToNat, Int.reducePow, Int.reduceGT, Int.cast_ofNat_Int, true_or, or_true, Int.ofNat_eq_natCast, decide_true, decide_false, Int.reduceEq, List.isEmpty_cons, List.isEmpty_nil, eDGet1,  keyP, Option.map_some, Option.map_none, Option.getD_some, Option.isSome_some, reduceCtorEq, and_self,  allPure_nil, allPure_cons, Bool.and_true, Bool.true_and, Bool.false_and, Bool.and_false, Bool.not_eq_true, Bool.not_eq_false, gTupP_nil, gLstP_nil, gTupP_ok, gLstP_ok, isRef_tup, isRef_int, isRef_str, isRef_bl, Bool.or_false, Bool.or_true, Bool.true_or, Bool.false_or]
    refine wp_of (hf i h0 (by omega) S) fun p S1 ep => ?_
    subst ep
    have ha : (PV.bl true).isRef = false ∧ acc.length < sizeLine := ⟨rfl, by have := size_1000 (n := acc.length + 1) (by omega); omega⟩
    rw [if_pos ha]
    refine wp_of (comp_true hf c (i + 1) (acc ++ [.bl true]) x1 S1 (by omega) (by omega) (by simp; omega)) fun p S' e => ?_
    rw [e]; simp
theorem law_ok {ns : List Int} (hl : ns.length ≤ 63) : ∃ S', m_law [.frl (ns.map PV.int)] [] = .ok (.bl true) S' := by
  have gl : gLen [.frl (ns.map .int)] [] = .ok (.int (ns.length : Nat)) [] := by simp [gLen, getQ, getL]
  generalize hc : (if 2 < (if (3 : Int) < (ns.length : Nat) then 3 else ((ns.length : Nat) : Int)) then (if (3 : Int) < (ns.length : Nat) then 3 else ((ns.length : Nat) : Int)) else 2) = c
  have c0 : 0 ≤ c := by rw [← hc]; split <;> split <;> omega
  have c3 : c ≤ 3 := by rw [← hc]; split <;> (try split) <;> omega
  have gr := gRange_eq (j := c) (S := []) (by omega) (by omega)
  have main := comp_true (f := eArgs m__law_right (aCons (eNew (eArgs m__law_well (aCons (eVar 0) (aCons (eVar 1) aNil)))) aNil)) (s := some (.frl (ns.map .int))) (fun i h0 h1 S => body_ok hl h0 h1) c.toNat 0 [] none [] (by omega) (by omega) (by simp; omega)
  suffices h : WP (m_law [.frl (ns.map PV.int)] []) fun p S' => p = .bl true by
    obtain ⟨p, S', e, rfl⟩ := h.ex
    exact ⟨S', e⟩
  unfold m_law b_law
  generalize (eArgs m__law_right (aCons (eNew (eArgs m__law_well (aCons (eVar 0) (aCons (eVar 1) aNil)))) aNil)) = f at main ⊢
  simp only [wp_ok, wp_no, ↓wp_bind, ↓R.bind_ok, ↓sSeq, ↓sNil, ↓sSet, ↓sAsg, ↓sIf, ↓sRet, ↓sExpr, ↓sPar, ↓sPar3, ↓sFor, ↓nName, ↓nTup, ↓nCons, ↓nNil, ↓nNs, ↓eVar, ↓eC, ↓eOp, ↓eUn, ↓eArgs, ↓eNew, ↓aCons, ↓aNil, ↓tV, ↓tT, toB, truP, ↓tNotE, ↓tAndE, ↓tOrE, ↓tYesE, ↓eAndV, ↓eOrV, ↓eNotV, ↓eNotT, ↓eIf, gAdd_int, gAdd_tup, Py.gSub, gMul_l, gMul_r, gMod, gFdiv, gNeg, gLt, gLe, gGt, gGe, gInt, gIx, gEq_int, gEq_str, gEq_bl, gNe_int, gNe_str, gNe_bl, gIsN, gNotN, getQ, getL, gSetL, ↓nSubL, gDivmod, gMin2, gMax2, ↓mkDef, ↓mkNew, startP, finF, finO, finV_tup, finV_int, finV_bl, finV_lst, finV_non, finV_str, finV_ref, ↓eChain, tyP, gIsi, isiB, ↓iArgs, ↓iSeq, iterP, ↓fComp, wipeP, ↓eSl, ↓oNone, ↓oSome, gSl, ↓eMeth0, ↓eMeth1, ixN, atI0, atI1, atI2, atI3, List.length_cons, List.length_nil, List.map_cons, List.map_nil, List.replicate, List.cons_append, List.nil_append, List.append_nil, List.getElem?_cons_zero, List.getElem?_cons_succ, List.getElem?_nil, List.set_cons_zero, List.set_cons_succ, List.set_nil, List.length_set, List.length_append, Nat.add_sub_cancel, Nat.reduceAdd, Nat.reduceSub, Nat.reduceLT, Nat.reduceEqDiff, Nat.reduceLeDiff, Nat.le_refl, Nat.zero_le, if_true, if_false, ↓reduceIte, decide_eq_true_eq, Bool.false_eq_true, Bool.true_eq_false, Bool.not_true, Bool.not_false, Option.isSome_some, forall_const, not_true_eq_false, not_false_eq_true, imp_self, false_implies, true_implies, implies_true, and_true, true_and, Int.toNat_zero, Nat.zero_add, Int.reduceLE, Int.reduceLT, Int.reduceNeg, Int.reduceToNat, Int.reducePow, Int.reduceGT, Int.cast_ofNat_Int, true_or, or_true, Int.ofNat_eq_natCast, decide_true, decide_false, Int.reduceEq, List.isEmpty_cons, List.isEmpty_nil, eDGet1,  keyP, Option.map_some, Option.map_none, Option.getD_some, Option.isSome_some, reduceCtorEq, and_self,  allPure_nil, allPure_cons, Bool.and_true, Bool.true_and, Bool.false_and, Bool.and_false, Bool.not_eq_true, Bool.not_eq_false, gTupP_nil, gLstP_nil, gTupP_ok, gLstP_ok, isRef_tup, isRef_int, isRef_str, isRef_bl, Bool.or_false, Bool.or_true, Bool.true_or, Bool.false_or, gl, hc, gr]
  refine wp_of main fun p S' e => ?_
  subst e
  rw [List.nil_append]
  simp only [wp_ok, wp_no, ↓wp_bind, ↓R.bind_ok, ↓sSeq, ↓sNil, ↓sSet, ↓sAsg, ↓sIf, ↓sRet, ↓sExpr, ↓sPar, ↓sPar3, ↓sFor, ↓nName, ↓nTup, ↓nCons, ↓nNil, ↓nNs, ↓eVar, ↓eC, ↓eOp, ↓eUn, ↓eArgs, ↓eNew, ↓aCons, ↓aNil, ↓tV, ↓tT, toB, truP, ↓tNotE, ↓tAndE, ↓tOrE, ↓tYesE, ↓eAndV, ↓eOrV, ↓eNotV, ↓eNotT, ↓eIf, gAdd_int, gAdd_tup, Py.gSub, gMul_l, gMul_r, gMod, gFdiv, gNeg, gLt, gLe, gGt, gGe, gInt, gIx, gEq_int, gEq_str, gEq_bl, gNe_int, gNe_str, gNe_bl, gIsN, gNotN, getQ, getL, gSetL, ↓nSubL, gDivmod, gMin2, gMax2, ↓mkDef, ↓mkNew, startP, finF, finO, finV_tup, finV_int, finV_bl, finV_lst, finV_non, finV_str, finV_ref, ↓eChain, tyP, gIsi, isiB, ↓iArgs, ↓iSeq, iterP, ↓fComp, wipeP, ↓eSl, ↓oNone, ↓oSome, gSl, ↓eMeth0, ↓eMeth1, ixN, atI0, atI1, atI2, atI3, List.length_cons, List.length_nil, List.map_cons, List.map_nil, List.replicate, List.cons_append, List.nil_append, List.append_nil, List.getElem?_cons_zero, List.getElem?_cons_succ, List.getElem?_nil, List.set_cons_zero, List.set_cons_succ, List.set_nil, List.length_set, List.length_append, Nat.add_sub_cancel, Nat.reduceAdd, Nat.reduceSub, Nat.reduceLT, Nat.reduceEqDiff, Nat.reduceLeDiff, Nat.le_refl, Nat.zero_le, if_true, if_false, ↓reduceIte, decide_eq_true_eq, Bool.false_eq_true, Bool.true_eq_false, Bool.not_true, Bool.not_false, Option.isSome_some, forall_const, not_true_eq_false, not_false_eq_true, imp_self, false_implies, true_implies, implies_true, and_true, true_and, Int.toNat_zero, Nat.zero_add, Int.reduceLE, Int.reduceLT, Int.reduceNeg, Int.reduceToNat, Int.reducePow, Int.reduceGT, Int.cast_ofNat_Int, true_or, or_true, Int.ofNat_eq_natCast, decide_true, decide_false, Int.reduceEq, List.isEmpty_cons, List.isEmpty_nil, eDGet1,  keyP, Option.map_some, Option.map_none, Option.getD_some, Option.isSome_some, reduceCtorEq, and_self,  allPure_nil, allPure_cons, Bool.and_true, Bool.true_and, Bool.false_and, Bool.and_false, Bool.not_eq_true, Bool.not_eq_false, gTupP_nil, gLstP_nil, gTupP_ok, gLstP_ok, isRef_tup, isRef_int, isRef_str, isRef_bl, Bool.or_false, Bool.or_true, Bool.true_or, Bool.false_or, gAll_trueA]
end G80
set_option Elab.async false
set_option maxRecDepth 100000
set_option maxHeartbeats 4000000
set_option linter.all false
namespace G80
open PySem PySem.Spec PyProof.Rows L2 Py
namespace Head
def fn : List He.DefD := [⟨("_law_draw", none), "_law_draw", "_law_draw", defArgs s__law_draw, defBody s__law_draw, defScope s__law_draw, [], []⟩, ⟨("_law_pick", none), "_law_pick", "_law_pick", defArgs s__law_pick, defBody s__law_pick, defScope s__law_pick, [], []⟩, ⟨("_law_number", none), "_law_number", "_law_number", defArgs s__law_number, defBody s__law_number, defScope s__law_number, [], []⟩, ⟨("_law_filled", none), "_law_filled", "_law_filled", defArgs s__law_filled, defBody s__law_filled, defScope s__law_filled, [], []⟩, ⟨("_law_turned", none), "_law_turned", "_law_turned", defArgs s__law_turned, defBody s__law_turned, defScope s__law_turned, [], []⟩, ⟨("_law_slot", none), "_law_slot", "_law_slot", defArgs s__law_slot, defBody s__law_slot, defScope s__law_slot, [], []⟩, ⟨("is_whole", none), "is_whole", "is_whole", defArgs s_is_whole, defBody s_is_whole, defScope s_is_whole, [], []⟩, ⟨("is_whole_within", none), "is_whole_within", "is_whole_within", defArgs s_is_whole_within, defBody s_is_whole_within, defScope s_is_whole_within, [], []⟩, ⟨("check_number", none), "check_number", "check_number", defArgs s_check_number, defBody s_check_number, defScope s_check_number, [], []⟩, ⟨("blank_device", none), "blank_device", "blank_device", defArgs s_blank_device, defBody s_blank_device, defScope s_blank_device, [], []⟩, ⟨("blank", none), "blank", "blank", defArgs s_blank, defBody s_blank, defScope s_blank, [], []⟩, ⟨("_law_is_whole", none), "_law_is_whole", "_law_is_whole", defArgs s__law_is_whole, defBody s__law_is_whole, defScope s__law_is_whole, [], []⟩, ⟨("_law_same", none), "_law_same", "_law_same", defArgs s__law_same, defBody s__law_same, defScope s__law_same, [], []⟩, ⟨("_law_held", none), "_law_held", "_law_held", defArgs s__law_held, defBody s__law_held, defScope s__law_held, [], []⟩, ⟨("_law_both", none), "_law_both", "_law_both", defArgs s__law_both, defBody s__law_both, defScope s__law_both, [], []⟩, ⟨("_law_clears", none), "_law_clears", "_law_clears", defArgs s__law_clears, defBody s__law_clears, defScope s__law_clears, [], []⟩, ⟨("check_device", none), "check_device", "check_device", defArgs s_check_device, defBody s_check_device, defScope s_check_device, [], []⟩, ⟨("head_cell", none), "head_cell", "head_cell", defArgs s_head_cell, defBody s_head_cell, defScope s_head_cell, [], []⟩, ⟨("words_cell", none), "words_cell", "words_cell", defArgs s_words_cell, defBody s_words_cell, defScope s_words_cell, [], []⟩, ⟨("tail_cell", none), "tail_cell", "tail_cell", defArgs s_tail_cell, defBody s_tail_cell, defScope s_tail_cell, [], []⟩, ⟨("held_in", none), "held_in", "held_in", defArgs s_held_in, defBody s_held_in, defScope s_held_in, [], []⟩, ⟨("held", none), "held", "held", defArgs s_held, defBody s_held, defScope s_held, [], []⟩, ⟨("current_slot", none), "current_slot", "current_slot", defArgs s_current_slot, defBody s_current_slot, defScope s_current_slot, [], []⟩, ⟨("current", none), "current", "current", defArgs s_current, defBody s_current, defScope s_current, [], []⟩, ⟨("writes_of_mending", none), "writes_of_mending", "writes_of_mending", defArgs s_writes_of_mending, defBody s_writes_of_mending, defScope s_writes_of_mending, [], []⟩, ⟨("is_mended", none), "is_mended", "is_mended", defArgs s_is_mended, defBody s_is_mended, defScope s_is_mended, [], []⟩, ⟨("mending", none), "mending", "mending", defArgs s_mending, defBody s_mending, defScope s_mending, [], []⟩, ⟨("device_behind", none), "device_behind", "device_behind", defArgs s_device_behind, defBody s_device_behind, defScope s_device_behind, [], []⟩, ⟨("mended_device", none), "mended_device", "mended_device", defArgs s_mended_device, defBody s_mended_device, defScope s_mended_device, [], []⟩, ⟨("mended", none), "mended", "mended", defArgs s_mended, defBody s_mended, defScope s_mended, [], []⟩, ⟨("_law_now", none), "_law_now", "_law_now", defArgs s__law_now, defBody s__law_now, defScope s__law_now, [], []⟩, ⟨("_law_put", none), "_law_put", "_law_put", defArgs s__law_put, defBody s__law_put, defScope s__law_put, [], []⟩, ⟨("_law_is_seen", none), "_law_is_seen", "_law_is_seen", defArgs s__law_is_seen, defBody s__law_is_seen, defScope s__law_is_seen, [], []⟩, ⟨("_law_right", none), "_law_right", "_law_right", defArgs s__law_right, defBody s__law_right, defScope s__law_right, [], []⟩, ⟨("_law_well", none), "_law_well", "_law_well", defArgs s__law_well, defBody s__law_well, defScope s__law_well, [], []⟩, ⟨("law", none), "law", "law", defArgs s_law, defBody s_law, defScope s_law, [], []⟩]
def fa : List He.Fa := [.glo "_law_draw", .glo "_law_pick", .glo "_law_number", .glo "_law_filled", .glo "_law_turned", .glo "_law_slot", .glo "is_whole", .glo "is_whole_within", .glo "check_number", .glo "blank_device", .glo "blank", .glo "_law_is_whole", .glo "_law_same", .glo "_law_held", .glo "_law_both", .glo "_law_clears", .glo "check_device", .glo "head_cell", .glo "words_cell", .glo "tail_cell", .glo "held_in", .glo "held", .glo "current_slot", .glo "current", .glo "writes_of_mending", .glo "is_mended", .glo "mending", .glo "device_behind", .glo "mended_device", .glo "mended", .glo "_law_now", .glo "_law_put", .glo "_law_is_seen", .glo "_law_right", .glo "_law_well", .glo "law", .free "abs", .free "all", .free "any", .free "bool", .free "divmod", .free "enumerate", .free "int", .free "isinstance", .free "len", .free "list", .free "max", .free "min", .free "range", .free "str", .free "sum", .free "tuple", .free "zip", .int "LEAST_WIDTH" 26, .int "MORE_CELLS" 4, .int "MOST_WIDTH" 9000]
def ts : List He.Tab := []
def ex (K : PySem.W.Frag) : Bool := true
abbrev hk : PySem.W.Hook := He.hookX 5 fa fn ts [] ex
def ob (s : PySem.W.SharedT) : He.AlX := He.obsX 5 fa fn ts [] ex (HandSHeadRun.getT s)
theorem ob_eq (s : PySem.W.SharedT) : ob s = hk.obs s.abs := He.obsX_eq (HandSHeadRun.getT_eq s)
end Head
theorem txt_of {w : World} {K : PySem.W.Frag} {h : Heap} {mg : Str → Option Value} (X : K.In h) (G : h.Ns mainGlobals mg) (c : He.SaysX Head.fa Head.fn Head.ts [] Head.ex w h K) : Txt K w mg :=
  ⟨He.free_ok X G (c.t.d.fact 36 (f := .free "abs") rfl),
   He.free_ok X G (c.t.d.fact 37 (f := .free "all") rfl),
   He.free_ok X G (c.t.d.fact 38 (f := .free "any") rfl),
   He.free_ok X G (c.t.d.fact 39 (f := .free "bool") rfl),
   He.free_ok X G (c.t.d.fact 40 (f := .free "divmod") rfl),
   He.free_ok X G (c.t.d.fact 41 (f := .free "enumerate") rfl),
   He.free_ok X G (c.t.d.fact 42 (f := .free "int") rfl),
   He.free_ok X G (c.t.d.fact 43 (f := .free "isinstance") rfl),
   He.free_ok X G (c.t.d.fact 44 (f := .free "len") rfl),
   He.free_ok X G (c.t.d.fact 45 (f := .free "list") rfl),
   He.free_ok X G (c.t.d.fact 46 (f := .free "max") rfl),
   He.free_ok X G (c.t.d.fact 47 (f := .free "min") rfl),
   He.free_ok X G (c.t.d.fact 48 (f := .free "range") rfl),
   He.free_ok X G (c.t.d.fact 49 (f := .free "str") rfl),
   He.free_ok X G (c.t.d.fact 50 (f := .free "sum") rfl),
   He.free_ok X G (c.t.d.fact 51 (f := .free "tuple") rfl),
   He.free_ok X G (c.t.d.fact 52 (f := .free "zip") rfl),
   He.int_ok X G (c.t.d.fact 53 (f := .int "LEAST_WIDTH" 26) rfl),
   He.int_ok X G (c.t.d.fact 54 (f := .int "MORE_CELLS" 4) rfl),
   He.int_ok X G (c.t.d.fact 55 (f := .int "MOST_WIDTH" 9000) rfl)⟩
theorem cal_law {P : Program} {w : World} {K : PySem.W.Frag} {h base : Heap} {mg : Str → Option Value} {fd_law : FuncData} (X : K.In h) (G : h.Ns mainGlobals mg) (c : He.SaysX Head.fa Head.fn Head.ts [] Head.ex w h K) (F_law : FunD K "law" "law" (defArgs s_law) (defBody s_law) (defScope s_law) [] [] (He.ga K "law") fd_law) : FnOk P w K mg base CX0 10 (He.ga K "law") fd_law p_law (spM K m_law) := by
  have T := txt_of X G c
  obtain ⟨fd__law_draw, F__law_draw⟩ := c.t.d.def_ 0 (d := ⟨("_law_draw", none), "_law_draw", "_law_draw", defArgs s__law_draw, defBody s__law_draw, defScope s__law_draw, [], []⟩) rfl
  have C__law_draw := c__law_draw (P := P) (base := base) (He.glo_ok X G (c.t.d.fact 0 (f := .glo "_law_draw") rfl)) F__law_draw T
  obtain ⟨fd__law_pick, F__law_pick⟩ := c.t.d.def_ 1 (d := ⟨("_law_pick", none), "_law_pick", "_law_pick", defArgs s__law_pick, defBody s__law_pick, defScope s__law_pick, [], []⟩) rfl
  have C__law_pick := c__law_pick (P := P) (base := base) (He.glo_ok X G (c.t.d.fact 1 (f := .glo "_law_pick") rfl)) F__law_pick T C__law_draw
  obtain ⟨fd__law_number, F__law_number⟩ := c.t.d.def_ 2 (d := ⟨("_law_number", none), "_law_number", "_law_number", defArgs s__law_number, defBody s__law_number, defScope s__law_number, [], []⟩) rfl
  have C__law_number := c__law_number (P := P) (base := base) (He.glo_ok X G (c.t.d.fact 2 (f := .glo "_law_number") rfl)) F__law_number T C__law_draw
  obtain ⟨fd__law_filled, F__law_filled⟩ := c.t.d.def_ 3 (d := ⟨("_law_filled", none), "_law_filled", "_law_filled", defArgs s__law_filled, defBody s__law_filled, defScope s__law_filled, [], []⟩) rfl
  have C__law_filled := c__law_filled (P := P) (base := base) (He.glo_ok X G (c.t.d.fact 3 (f := .glo "_law_filled") rfl)) F__law_filled T C__law_draw C__law_number C__law_pick
  obtain ⟨fd__law_turned, F__law_turned⟩ := c.t.d.def_ 4 (d := ⟨("_law_turned", none), "_law_turned", "_law_turned", defArgs s__law_turned, defBody s__law_turned, defScope s__law_turned, [], []⟩) rfl
  have C__law_turned := c__law_turned (P := P) (base := base) (He.glo_ok X G (c.t.d.fact 4 (f := .glo "_law_turned") rfl)) F__law_turned T C__law_draw C__law_number C__law_pick
  obtain ⟨fd__law_slot, F__law_slot⟩ := c.t.d.def_ 5 (d := ⟨("_law_slot", none), "_law_slot", "_law_slot", defArgs s__law_slot, defBody s__law_slot, defScope s__law_slot, [], []⟩) rfl
  have C__law_slot := c__law_slot (P := P) (base := base) (He.glo_ok X G (c.t.d.fact 5 (f := .glo "_law_slot") rfl)) F__law_slot T C__law_draw C__law_filled C__law_turned
  obtain ⟨fd_is_whole, F_is_whole⟩ := c.t.d.def_ 6 (d := ⟨("is_whole", none), "is_whole", "is_whole", defArgs s_is_whole, defBody s_is_whole, defScope s_is_whole, [], []⟩) rfl
  have C_is_whole := c_is_whole (P := P) (base := base) (He.glo_ok X G (c.t.d.fact 6 (f := .glo "is_whole") rfl)) F_is_whole T
  obtain ⟨fd_is_whole_within, F_is_whole_within⟩ := c.t.d.def_ 7 (d := ⟨("is_whole_within", none), "is_whole_within", "is_whole_within", defArgs s_is_whole_within, defBody s_is_whole_within, defScope s_is_whole_within, [], []⟩) rfl
  have C_is_whole_within := c_is_whole_within (P := P) (base := base) (He.glo_ok X G (c.t.d.fact 7 (f := .glo "is_whole_within") rfl)) F_is_whole_within T C_is_whole
  obtain ⟨fd_check_number, F_check_number⟩ := c.t.d.def_ 8 (d := ⟨("check_number", none), "check_number", "check_number", defArgs s_check_number, defBody s_check_number, defScope s_check_number, [], []⟩) rfl
  have C_check_number := c_check_number (P := P) (base := base) (He.glo_ok X G (c.t.d.fact 8 (f := .glo "check_number") rfl)) F_check_number T C_is_whole_within
  obtain ⟨fd_blank_device, F_blank_device⟩ := c.t.d.def_ 9 (d := ⟨("blank_device", none), "blank_device", "blank_device", defArgs s_blank_device, defBody s_blank_device, defScope s_blank_device, [], []⟩) rfl
  have C_blank_device := c_blank_device (P := P) (base := base) (He.glo_ok X G (c.t.d.fact 9 (f := .glo "blank_device") rfl)) F_blank_device T
  obtain ⟨fd_blank, F_blank⟩ := c.t.d.def_ 10 (d := ⟨("blank", none), "blank", "blank", defArgs s_blank, defBody s_blank, defScope s_blank, [], []⟩) rfl
  have C_blank := c_blank (P := P) (base := base) (He.glo_ok X G (c.t.d.fact 10 (f := .glo "blank") rfl)) F_blank T C_blank_device C_check_number
  obtain ⟨fd__law_is_whole, F__law_is_whole⟩ := c.t.d.def_ 11 (d := ⟨("_law_is_whole", none), "_law_is_whole", "_law_is_whole", defArgs s__law_is_whole, defBody s__law_is_whole, defScope s__law_is_whole, [], []⟩) rfl
  have C__law_is_whole := c__law_is_whole (P := P) (base := base) (He.glo_ok X G (c.t.d.fact 11 (f := .glo "_law_is_whole") rfl)) F__law_is_whole T
  obtain ⟨fd__law_same, F__law_same⟩ := c.t.d.def_ 12 (d := ⟨("_law_same", none), "_law_same", "_law_same", defArgs s__law_same, defBody s__law_same, defScope s__law_same, [], []⟩) rfl
  have C__law_same := c__law_same (P := P) (base := base) (He.glo_ok X G (c.t.d.fact 12 (f := .glo "_law_same") rfl)) F__law_same T C__law_is_whole 6
  obtain ⟨fd__law_held, F__law_held⟩ := c.t.d.def_ 13 (d := ⟨("_law_held", none), "_law_held", "_law_held", defArgs s__law_held, defBody s__law_held, defScope s__law_held, [], []⟩) rfl
  have C__law_held := c__law_held (P := P) (base := base) (He.glo_ok X G (c.t.d.fact 13 (f := .glo "_law_held") rfl)) F__law_held T
  obtain ⟨fd__law_both, F__law_both⟩ := c.t.d.def_ 14 (d := ⟨("_law_both", none), "_law_both", "_law_both", defArgs s__law_both, defBody s__law_both, defScope s__law_both, [], []⟩) rfl
  have C__law_both := c__law_both (P := P) (base := base) (He.glo_ok X G (c.t.d.fact 14 (f := .glo "_law_both") rfl)) F__law_both T C__law_held
  obtain ⟨fd__law_clears, F__law_clears⟩ := c.t.d.def_ 15 (d := ⟨("_law_clears", none), "_law_clears", "_law_clears", defArgs s__law_clears, defBody s__law_clears, defScope s__law_clears, [], []⟩) rfl
  have C__law_clears := c__law_clears (P := P) (base := base) (He.glo_ok X G (c.t.d.fact 15 (f := .glo "_law_clears") rfl)) F__law_clears T C__law_both
  obtain ⟨fd_check_device, F_check_device⟩ := c.t.d.def_ 16 (d := ⟨("check_device", none), "check_device", "check_device", defArgs s_check_device, defBody s_check_device, defScope s_check_device, [], []⟩) rfl
  have C_check_device := c_check_device (P := P) (base := base) (He.glo_ok X G (c.t.d.fact 16 (f := .glo "check_device") rfl)) F_check_device T C_is_whole
  obtain ⟨fd_head_cell, F_head_cell⟩ := c.t.d.def_ 17 (d := ⟨("head_cell", none), "head_cell", "head_cell", defArgs s_head_cell, defBody s_head_cell, defScope s_head_cell, [], []⟩) rfl
  have C_head_cell := c_head_cell (P := P) (base := base) (He.glo_ok X G (c.t.d.fact 17 (f := .glo "head_cell") rfl)) F_head_cell T
  obtain ⟨fd_words_cell, F_words_cell⟩ := c.t.d.def_ 18 (d := ⟨("words_cell", none), "words_cell", "words_cell", defArgs s_words_cell, defBody s_words_cell, defScope s_words_cell, [], []⟩) rfl
  have C_words_cell := c_words_cell (P := P) (base := base) (He.glo_ok X G (c.t.d.fact 18 (f := .glo "words_cell") rfl)) F_words_cell T C_head_cell
  obtain ⟨fd_tail_cell, F_tail_cell⟩ := c.t.d.def_ 19 (d := ⟨("tail_cell", none), "tail_cell", "tail_cell", defArgs s_tail_cell, defBody s_tail_cell, defScope s_tail_cell, [], []⟩) rfl
  have C_tail_cell := c_tail_cell (P := P) (base := base) (He.glo_ok X G (c.t.d.fact 19 (f := .glo "tail_cell") rfl)) F_tail_cell T C_head_cell
  obtain ⟨fd_held_in, F_held_in⟩ := c.t.d.def_ 20 (d := ⟨("held_in", none), "held_in", "held_in", defArgs s_held_in, defBody s_held_in, defScope s_held_in, [], []⟩) rfl
  have C_held_in := c_held_in (P := P) (base := base) (He.glo_ok X G (c.t.d.fact 20 (f := .glo "held_in") rfl)) F_held_in T C_head_cell C_tail_cell C_words_cell
  obtain ⟨fd_held, F_held⟩ := c.t.d.def_ 21 (d := ⟨("held", none), "held", "held", defArgs s_held, defBody s_held, defScope s_held, [], []⟩) rfl
  have C_held := c_held (P := P) (base := base) (He.glo_ok X G (c.t.d.fact 21 (f := .glo "held") rfl)) F_held T C_check_device C_check_number C_held_in
  obtain ⟨fd_current_slot, F_current_slot⟩ := c.t.d.def_ 22 (d := ⟨("current_slot", none), "current_slot", "current_slot", defArgs s_current_slot, defBody s_current_slot, defScope s_current_slot, [], []⟩) rfl
  have C_current_slot := c_current_slot (P := P) (base := base) (He.glo_ok X G (c.t.d.fact 22 (f := .glo "current_slot") rfl)) F_current_slot T C_held_in
  obtain ⟨fd_current, F_current⟩ := c.t.d.def_ 23 (d := ⟨("current", none), "current", "current", defArgs s_current, defBody s_current, defScope s_current, [], []⟩) rfl
  have C_current := c_current (P := P) (base := base) (He.glo_ok X G (c.t.d.fact 23 (f := .glo "current") rfl)) F_current T C_check_device C_current_slot
  obtain ⟨fd_writes_of_mending, F_writes_of_mending⟩ := c.t.d.def_ 24 (d := ⟨("writes_of_mending", none), "writes_of_mending", "writes_of_mending", defArgs s_writes_of_mending, defBody s_writes_of_mending, defScope s_writes_of_mending, [], []⟩) rfl
  have C_writes_of_mending := c_writes_of_mending (P := P) (base := base) (He.glo_ok X G (c.t.d.fact 24 (f := .glo "writes_of_mending") rfl)) F_writes_of_mending T C_head_cell C_held_in
  obtain ⟨fd_is_mended, F_is_mended⟩ := c.t.d.def_ 25 (d := ⟨("is_mended", none), "is_mended", "is_mended", defArgs s_is_mended, defBody s_is_mended, defScope s_is_mended, [], []⟩) rfl
  have C_is_mended := c_is_mended (P := P) (base := base) (He.glo_ok X G (c.t.d.fact 25 (f := .glo "is_mended") rfl)) F_is_mended T C_check_device C_writes_of_mending
  obtain ⟨fd_mending, F_mending⟩ := c.t.d.def_ 26 (d := ⟨("mending", none), "mending", "mending", defArgs s_mending, defBody s_mending, defScope s_mending, [], []⟩) rfl
  have C_mending := c_mending (P := P) (base := base) (He.glo_ok X G (c.t.d.fact 26 (f := .glo "mending") rfl)) F_mending T C_check_device C_writes_of_mending
  obtain ⟨fd_device_behind, F_device_behind⟩ := c.t.d.def_ 27 (d := ⟨("device_behind", none), "device_behind", "device_behind", defArgs s_device_behind, defBody s_device_behind, defScope s_device_behind, [], []⟩) rfl
  have C_device_behind := c_device_behind (P := P) (base := base) (He.glo_ok X G (c.t.d.fact 27 (f := .glo "device_behind") rfl)) F_device_behind T
  obtain ⟨fd_mended_device, F_mended_device⟩ := c.t.d.def_ 28 (d := ⟨("mended_device", none), "mended_device", "mended_device", defArgs s_mended_device, defBody s_mended_device, defScope s_mended_device, [], []⟩) rfl
  have C_mended_device := c_mended_device (P := P) (base := base) (He.glo_ok X G (c.t.d.fact 28 (f := .glo "mended_device") rfl)) F_mended_device T C_device_behind C_writes_of_mending
  obtain ⟨fd_mended, F_mended⟩ := c.t.d.def_ 29 (d := ⟨("mended", none), "mended", "mended", defArgs s_mended, defBody s_mended, defScope s_mended, [], []⟩) rfl
  have C_mended := c_mended (P := P) (base := base) (He.glo_ok X G (c.t.d.fact 29 (f := .glo "mended") rfl)) F_mended T C_check_device C_mended_device
  obtain ⟨fd__law_now, F__law_now⟩ := c.t.d.def_ 30 (d := ⟨("_law_now", none), "_law_now", "_law_now", defArgs s__law_now, defBody s__law_now, defScope s__law_now, [], []⟩) rfl
  have C__law_now := c__law_now (P := P) (base := base) (He.glo_ok X G (c.t.d.fact 30 (f := .glo "_law_now") rfl)) F__law_now T
  obtain ⟨fd__law_put, F__law_put⟩ := c.t.d.def_ 31 (d := ⟨("_law_put", none), "_law_put", "_law_put", defArgs s__law_put, defBody s__law_put, defScope s__law_put, [], []⟩) rfl
  have C__law_put := c__law_put (P := P) (base := base) (He.glo_ok X G (c.t.d.fact 31 (f := .glo "_law_put") rfl)) F__law_put T
  obtain ⟨fd__law_is_seen, F__law_is_seen⟩ := c.t.d.def_ 32 (d := ⟨("_law_is_seen", none), "_law_is_seen", "_law_is_seen", defArgs s__law_is_seen, defBody s__law_is_seen, defScope s__law_is_seen, [], []⟩) rfl
  have C__law_is_seen := c__law_is_seen (P := P) (base := base) (He.glo_ok X G (c.t.d.fact 32 (f := .glo "_law_is_seen") rfl)) F__law_is_seen T C__law_both C__law_clears C__law_now C__law_put C__law_same C_current C_held C_is_mended C_mended C_mending
  obtain ⟨fd__law_right, F__law_right⟩ := c.t.d.def_ 33 (d := ⟨("_law_right", none), "_law_right", "_law_right", defArgs s__law_right, defBody s__law_right, defScope s__law_right, [], []⟩) rfl
  have C__law_right := c__law_right (P := P) (base := base) (He.glo_ok X G (c.t.d.fact 33 (f := .glo "_law_right") rfl)) F__law_right T C__law_clears C__law_draw C__law_is_seen C__law_put C__law_same C__law_slot C_blank
  obtain ⟨fd__law_well, F__law_well⟩ := c.t.d.def_ 34 (d := ⟨("_law_well", none), "_law_well", "_law_well", defArgs s__law_well, defBody s__law_well, defScope s__law_well, [], []⟩) rfl
  have C__law_well := c__law_well (P := P) (base := base) (He.glo_ok X G (c.t.d.fact 34 (f := .glo "_law_well") rfl)) F__law_well T
  exact fn_def F_law sc_law fun cdv A outer s H E hr => e_law T C__law_right C__law_well cdv A outer s H E hr
theorem facts {P : Program} {w : World} {K : PySem.W.Frag} {h : Heap} {mg : Str → Option Value} {f : Addr} (X : K.In h) (G : h.Ns mainGlobals mg) (hfa : mg ("law" : Str) = some (.ref f)) (c : He.SaysX Head.fa Head.fn Head.ts [] Head.ex w h K) :
    ∃ fd : FuncData, (∀ (s : Shared) (v : Value), BindsTo s fd ⟨[v], []⟩ [(p_law.head!, v)]) ∧ ∀ base : Heap, K.In base → base.Ns mainGlobals mg → FnOk P w K mg base CX0 10 f fd p_law (spM K m_law) := by
  obtain ⟨fd, F⟩ := c.t.d.def_ 35 (d := ⟨("law", none), "law", "law", defArgs s_law, defBody s_law, defScope s_law, [], []⟩) rfl
  have e := hfa.symm.trans (He.glo_ok X G (c.t.d.fact 35 (f := .glo "law") rfl))
  cases e
  have b := FunD.bindsA (ps := p_law) F fun _ _ _ _ _ _ us hl => match us, hl with | [_], _ => rfl
  exact ⟨fd, fun s v => b s [v] rfl, fun base _ _ => cal_law X G c F⟩
end G80
namespace G80
open PySem PySem.Spec PyProof.Rows L2 Py
abbrev R0 : PySem.W.OpenRow := PySem.W.OpenLaw.row PySem.Challenge.rw_formstead_k80_devices_by_an_own_look
def lse : List Str := (["__name__", "FormError", "InvalidNumber", "InvalidDevice", "is_whole", "is_whole_within", "check_number", "LEAST_WIDTH", "MOST_WIDTH", "MORE_CELLS", "head_cell", "tail_cell", "words_cell", "held_in", "current_slot", "check_device", "blank_device", "writes_of_mending", "device_behind", "mended_device", "blank", "held", "current", "is_mended", "mending", "mended", "_law_well", "_law_draw", "_law_pick", "_law_is_whole"] : List Str) ++ (["_law_same", "_law_held", "_law_both", "_law_now", "_law_clears", "_law_put", "_law_number", "_law_filled", "_law_turned", "_law_slot", "_law_is_seen", "_law_right"] : List Str)
theorem run_f (w : World) : HandSHeadRun.RunEq R0 (PySem.W.view R0.prog [49]) Head.hk Head.ob 4000 lse (w.withFollow "special-get-raises" false) := by
  intro os
  kernel_rfl
theorem run_t (w : World) : HandSHeadRun.RunEq R0 (PySem.W.view R0.prog [49]) Head.hk Head.ob 4000 lse (w.withFollow "special-get-raises" true) := by
  intro os
  kernel_rfl
theorem run (w : World) : HandSHeadRun.RunEq R0 (PySem.W.view R0.prog [49]) Head.hk Head.ob 4000 lse w :=
  PySem.W.byRow2 "special-get-raises" (P := fun w => HandSHeadRun.RunEq R0 (PySem.W.view R0.prog [49]) Head.hk Head.ob 4000 lse w) run_f run_t w
theorem law_top (math : ∀ ns : List Int, ns.length ≤ 63 → ∃ S', m_law [.frl (ns.map PV.int)] [] = .ok (.bl true) S') {K : PySem.W.Frag} (H : Hp) (a : Addr) (ns : List Int) (hl : ns.length ≤ 63) (hO : Only H) (hS : SqL K H a (ns.map V.int)) :
    spM K m_law [.ref a] H (fun v _ => v = .bl true) fun _ _ _ => False := by
  obtain ⟨S', e⟩ := math ns hl
  refine ⟨⟨[], []⟩, [.frl (ns.map PV.int)], [], .cons (.inl (.frl (vs := ns.map V.int) ?_ ?_)) .nil, ?_, ?_⟩
  · rcases hS with h | h
    · rcases h with h | ⟨o, h⟩
      · rcases hO a with z | ⟨o, xs, z⟩ <;> rw [z] at h <;> cases h
      · exact .inl ⟨⟨o, h⟩, fun q => by rcases q with q | q <;> cases q⟩
    · exact .inr h
  · generalize ns = l
    induction l with
    | nil => exact .nil
    | cons i l ih => exact .cons (.int i) ih
  · exact ⟨rfl, .nil, fun n a o h => by simp at h, fun a h => by cases h⟩
  · rw [e]
    intro H' _ _ v rv
    exact rep_bl rv
end G80
open PySem PySem.W PySem.Calls PyProof.Rows
theorem G80.holds (math : ∀ ns : List Int, ns.length ≤ 63 → ∃ S', G80.m_law [.frl (ns.map Py.PV.int)] [] = .ok (.bl true) S') : PySem.Challenge.rw_formstead_k80_devices_by_an_own_look.Holds := by
  w_on; o_law
  refine HandSHeadRun.head_any (r := OpenLaw.row PySem.Challenge.rw_formstead_k80_devices_by_an_own_look) (q := view (OpenLaw.row PySem.Challenge.rw_formstead_k80_devices_by_an_own_look).prog [49]) (H := G80.Head.hk) (ob := G80.Head.ob) (M := 4000) (loose := G80.lse) (d := HandSHeadRun.topDef (OpenLaw.row PySem.Challenge.rw_formstead_k80_devices_by_an_own_look).prog 49) (kwd := []) G80.Head.ob_eq
    (by kernel_rfl) (fun s => by kernel_rfl) G80.run (by kernel_rfl) (by kernel_rfl) (by kernel_rfl) (by rfl) (by first | assumption | decide +kernel) (by decide +kernel) ⟨rfl, rfl, rfl, rfl, rfl, by decide +kernel⟩ ?hw ?hc
  case hw => w_witness2
  case hc =>
    refine L2.walk_ofE (l := PySem.Challenge.rw_formstead_k80_devices_by_an_own_look) (n := 63) (k := 10) (x := G80.p_law.head!) (CX := L2.CX0) rfl (by decide) (by kernel_rfl) ⟨rfl, by decide, by decide⟩ ?F (fun _ _ _ _ z => z)
    intro w mg fa h Y G hmg0
    obtain ⟨K, KX, c⟩ := Y
    have hmg : mg ("law" : PySem.Str) = some (.ref fa) := by
      have e : (HandSHeadRun.topDef (OpenLaw.row PySem.Challenge.rw_formstead_k80_devices_by_an_own_look).prog 49).name = ("law" : PySem.Str) := by kernel_rfl
      rw [← e]
      exact hmg0
    obtain ⟨fd, hb, hF⟩ := G80.facts (P := (PySem.Challenge.rw_formstead_k80_devices_by_an_own_look).prog) (w := w) KX G hmg c
    exact ⟨K, fd, Py.spM K G80.m_law, KX, hb, fun H a ns hl hO hS => G80.law_top math H a ns hl hO hS, hF⟩
open PySem PySem.W PyProof.Rows
set_option maxRecDepth 100000 in
set_option maxHeartbeats 8000000 in
theorem PySem.Challenge.cw_formstead_k80_devices_by_an_own_look_holds : PySem.Challenge.rw_formstead_k80_devices_by_an_own_look.Holds := by
  exact G80.holds fun ns hl => G80.law_ok hl

import PyProof.Rows.All
import Wide.All
import OpenK.AllK
import Wide.FinOn
import HandS.ForMost
import HandS.Nested
import HandS.TupAny
import HandS.TupMul
import HandS.Wide
import HandS.WideBits
import HandS.IsInst
import HandS.Conv
import HandS.Style
import HandS.Defaults
import HandS.Zip
import KE.GoesMore
import KE.GoesEnum
import HandS.SortInts
import HandS.Star
import HandS.HeadHook4
import HandS.Flow
import HandS.SetFor
import HandS.RevTup
import HandS.More
import PyProof.AutoSeq1
import HandS.List
import HandS.Call
import PyProof.EqAt
import PyProof.EqKinds
import PyProof.NeKinds
import KE.KUnpackStar
import KE.GoesZip
import KE.KStateDown
import HandS.Head0
import HandS.Head1
import HandS.Head2
import HandS.HeadEnd
import HandS.HeadHook1
import HandS.HeadHook2
import HandS.HeadHook3
import HandS.HeadWalk
import PySem.Challenge.RW_formstead_k04_led_by_own_walk_twice_is_o
set_option Elab.async false
set_option maxRecDepth 100000
set_option maxHeartbeats 4000000
set_option linter.all false
namespace Py
open PySem PySem.Spec PyProof.Rows L2

/-! ### values without addresses -/
inductive PV where
  | non | bl (b : Bool) | int (i : Int) | str (x : Str)
  | tup (xs : List PV) | lst (xs : List PV) | frl (xs : List PV) | dic (ks : List Key) (vs : List PV) | ref (n : Nat)
  | adr (a : Nat) | clo (i : Nat) (ps : List PV)
  deriving Inhabited

inductive R (α : Type) where
  | ok (a : α) (S : List PV)
  | er (c : Str) (x : PV) (S : List PV)
  | no

def R.bind {α β : Type} (r : R α) (f : α → List PV → R β) : R β := match r with
  | .ok a S => f a S
  | .er c x S => .er c x S
  | .no => .no
@[simp] theorem R.bind_ok {α β : Type} (a : α) (S : List PV) (f : α → List PV → R β) : (R.ok a S).bind f = f a S := rfl
@[simp] theorem R.bind_no {α β : Type} (f : α → List PV → R β) : (R.no : R α).bind f = .no := rfl
@[simp] theorem R.bind_er {α β : Type} (c : Str) (x : PV) (S : List PV) (f : α → List PV → R β) : (R.er c x S : R α).bind f = .er c x S := rfl

abbrev Env := List (Option PV)
abbrev Sto := List PV
abbrev Ev := Env → Sto → R PV
abbrev Et := Env → Sto → R Bool
abbrev Ea := Env → Sto → R (List PV)

/-- an object that is no table of code objects -/
class NTb (o : HO) : Prop where
  nt : ∀ ps, o ≠ .tbl ps
instance {xs} : NTb (.lst xs) := ⟨fun _ h => by cases h⟩
instance {xs} : NTb (.tup xs) := ⟨fun _ h => by cases h⟩
instance {xs} : NTb (.dK xs) := ⟨fun _ h => by cases h⟩
instance {xs} : NTb (.dT xs) := ⟨fun _ h => by cases h⟩
instance {o u} : NTb (.frz o u) := ⟨fun _ h => by cases h⟩
instance {φ} : NTb (.ext φ) := ⟨fun _ h => by cases h⟩
/-! ### how they lie -/
/-- the addresses of the store's objects; further ones that no value may name -/
structure Mem where
  st : List Addr
  rs : List Addr
instance : Membership Addr Mem := ⟨fun m a => a ∈ m.st ∨ a ∈ m.rs⟩
theorem Mem.mem {m : Mem} {a : Addr} : a ∈ m ↔ a ∈ m.st ∨ a ∈ m.rs := Iff.rfl
def Mem.grow (m : Mem) (ν : List Addr) : Mem := ⟨m.st ++ ν, m.rs⟩
theorem Mem.nst {m : Mem} {a : Addr} (h : a ∉ m) : a ∉ m.st := fun q => h (.inl q)
section
variable (K : PySem.W.Frag)
def KT (a : Addr) (xs : List V) : Prop := ∃ (o : Obj) (its : Array Value) (n : Nat), K.lookup a = some o ∧ o.cls = .type "tuple" ∧ o.data = .seq its n ∧ its.size ≤ sizeLine ∧ Vals xs its.toList
def KL (a : Addr) (xs : List V) : Prop := ∃ (o : Obj) (its : Array Value) (n : Nat), K.lookup a = some o ∧ o.cls = .type "list" ∧ o.dict = none ∧ o.data = .seq its n ∧ its.size ≤ sizeLine ∧ Vals xs its.toList
def TupAt (H : Hp) (μ : Mem) (a : Addr) (xs : List V) : Prop := (Rd H a (.tup xs) ∧ a ∉ μ) ∨ KT K a xs
def FrlAt (H : Hp) (μ : Mem) (a : Addr) (xs : List V) : Prop := ((∃ o, H a = some (.frz o (.lst xs))) ∧ a ∉ μ) ∨ KL K a xs
end
theorem TupAt.sq {K H μ a xs} (h : TupAt K H μ a xs) : SqT K H a xs := h.elim (fun z => .inl z.1) .inr
theorem FrlAt.sq {K H μ a xs} (h : FrlAt K H μ a xs) : SqL K H a xs := h.elim (fun z => .inl (.inr z.1)) .inr

mutual
inductive RepP (K : PySem.W.Frag) (H : Hp) (μ : Mem) : V → PV → Prop
  | non : RepP K H μ .non .non
  | bl (b : Bool) : RepP K H μ (.bl b) (.bl b)
  | int (i : Int) : RepP K H μ (.int i) (.int i)
  | str (x : Str) : RepP K H μ (.str x) (.str x)
  | tup {a : Addr} {vs : List V} {ps : List PV} : TupAt K H μ a vs → RepPs K H μ vs ps → RepP K H μ (.ref a) (.tup ps)
  | lst {a : Addr} {vs : List V} {ps : List PV} : H a = some (.lst vs) → a ∉ μ → RepPs K H μ vs ps → RepP K H μ (.ref a) (.lst ps)
  | frl {a : Addr} {vs : List V} {ps : List PV} : FrlAt K H μ a vs → RepPs K H μ vs ps → RepP K H μ (.ref a) (.frl ps)
  | dic {a : Addr} {kvs : List (Key × V)} {ps : List PV} : H a = some (.dK kvs) → a ∉ μ → RepPs K H μ (kvs.map (·.2)) ps → RepP K H μ (.ref a) (.dic (kvs.map (·.1)) ps)
  | adr (a : Addr) : RepP K H μ (.ref a) (.adr a)
inductive RepPs (K : PySem.W.Frag) (H : Hp) (μ : Mem) : List V → List PV → Prop
  | nil : RepPs K H μ [] []
  | cons {v : V} {vs : List V} {p : PV} {ps : List PV} : RepP K H μ v p → RepPs K H μ vs ps → RepPs K H μ (v :: vs) (p :: ps)
end

/-- a value: pure, or an object of the store -/
def Rep0 (K : PySem.W.Frag) (H : Hp) (μ : Mem) (v : V) (p : PV) : Prop := RepP K H μ v p ∨ ∃ n a, p = .ref n ∧ μ.st[n]? = some a ∧ v = .ref a
/-- the texts of the program's inner defs, by number: the statement, its name, what it captures -/
structure CloC where
  st : Stmt
  name : Str
  fr : List Str
class CT where
  code : Nat → CloC
  tb : List NdefX.NTab
/-- a captured cell that is watched -/
def CellO (c : Addr) (o : Obj) : HO := .ext fun h => h.get? c = some o
instance {c o} : NTb (CellO c o) := ⟨fun _ h => by unfold CellO at h; cases h⟩
instance {f F} : NTb (NdefX.FnO f F) := ⟨fun _ h => by unfold NdefX.FnO at h; cases h⟩
instance {c q} : NTb (LamX.CodeO c q) := ⟨fun _ h => by unfold LamX.CodeO at h; cases h⟩
/-- the watched cells of a closure: what each name's cell holds -/
structure Cells (H : Hp) (μ : Mem) (cl : List (Str × Addr)) (fr : List Str) (vs : List V) : Prop where
  len : vs.length = fr.length
  all : ∀ y c, cl.lookup y = some c → ∃ o v, H c = some (CellO c o) ∧ c ∉ μ ∧ o.data = .cell v
  inj : ∀ x y c, cl.lookup x = some c → cl.lookup y = some c → x = y
  has : ∀ (j : Nat) (y : Str), fr[j]? = some y → ∃ c o u, cl.lookup y = some c ∧ H c = some (CellO c o) ∧ o.data = .cell (some u) ∧ ∀ v, vs[j]? = some v → L2.RelV v u
/-- a closure of another frame's making: its code by number, what it captured -/
def CloR [CT] (K : PySem.W.Frag) (H : Hp) (μ : Mem) (v : V) (p : PV) : Prop := ∃ (i : Nat) (ps : List PV) (f : Addr) (F : NdefX.NF) (vs : List V), p = .clo i ps ∧ v = .ref f ∧ H f = some (NdefX.FnO f F) ∧ f ∉ μ ∧ H F.c = some (LamX.CodeO F.c F.qual) ∧ F.c ∉ μ ∧ F = NdefX.NF.of (CT.code i).st (CT.code i).name F.qual F.cl F.c ∧ Cells H μ F.cl (CT.code i).fr vs ∧ Paired (Rep0 K H μ) vs ps
variable [CT]
def Rep (K : PySem.W.Frag) (H : Hp) (μ : Mem) (v : V) (p : PV) : Prop := RepP K H μ v p ∨ (∃ n a, p = .ref n ∧ μ.st[n]? = some a ∧ v = .ref a) ∨ CloR K H μ v p
def PV.isClo : PV → Bool
  | .clo _ _ => true
  | _ => false
theorem Rep.two {K : PySem.W.Frag} {H : Hp} {μ : Mem} {v : V} {p : PV} (h : Rep K H μ v p) (n : p.isClo = false := by rfl) : RepP K H μ v p ∨ ∃ n a, p = .ref n ∧ μ.st[n]? = some a ∧ v = .ref a := by
  rcases h with h | h | ⟨i, ps, _, _, _, e, _⟩
  · exact .inl h
  · exact .inr h
  · rw [e] at n; cases n
def ObjR (K : PySem.W.Frag) (H : Hp) (μ : Mem) (a : Addr) : PV → Prop
  | .lst ps => ∃ vs, H a = some (.lst vs) ∧ RepPs K H μ vs ps
  | .dic ks ps => ∃ kvs, H a = some (.dK kvs) ∧ kvs.map (·.1) = ks ∧ RepPs K H μ (kvs.map (·.2)) ps
  | _ => False
structure Rel (K : PySem.W.Frag) (H : Hp) (μ : Mem) (S : List PV) : Prop where
  len : μ.st.length = S.length
  nd : μ.st.Nodup
  obj : ∀ (n : Nat) (a : Addr) (o : PV), μ.st[n]? = some a → S[n]? = some o → ObjR K H μ a o
  res : ∀ a, a ∈ μ.rs → a ∉ μ.st ∧ ∃ l, H a = some (.lst l)
  tab : NdefX.TabsN CT.tb H
def ORep (K : PySem.W.Frag) (H : Hp) (μ : Mem) : Option V → Option PV → Prop
  | none, none => True
  | some v, some p => Rep K H μ v p
  | _, _ => False
abbrev ERel (K : PySem.W.Frag) (H : Hp) (μ : Mem) : List (Option V) → Env → Prop := Paired (ORep K H μ)
abbrev Reps (K : PySem.W.Frag) (H : Hp) (μ : Mem) : List V → List PV → Prop := Paired (Rep K H μ)

/-! ### steps -/
structure Step (H : Hp) (μ : Mem) (H' : Hp) (μ' : Mem) : Prop where
  ext : ∀ a o, H a = some o → a ∉ μ.st → NTb o → H' a = some o
  dom : ∀ a, H' a = none → H a = none
  gro : ∃ ν, μ' = μ.grow ν ∧ ∀ a ∈ ν, H a = none
theorem Step.refl (H : Hp) (μ : Mem) : Step H μ H μ := ⟨fun _ _ h _ _ => h, fun _ h => h, [], by simp [Mem.grow], by simp⟩
theorem Step.out {H μ H' μ'} (s : Step H μ H' μ') {a : Addr} {o : HO} (h : H a = some o) (n : a ∉ μ) : a ∉ μ' := by
  obtain ⟨ν, e, f⟩ := s.gro
  subst e
  intro q
  rcases q with q | q
  · rcases List.mem_append.mp q with q | q
    · exact n (.inl q)
    · rw [f a q] at h; cases h
  · exact n (.inr q)
theorem Step.outS {H μ H' μ'} (s : Step H μ H' μ') {a : Addr} {o : HO} (h : H a = some o) (n : a ∉ μ.st) : a ∉ μ'.st := by
  obtain ⟨ν, e, f⟩ := s.gro
  subst e
  intro q
  rcases List.mem_append.mp q with q | q
  · exact n q
  · rw [f a q] at h; cases h
theorem Step.trans {H μ H1 μ1 H2 μ2} (s : Step H μ H1 μ1) (t : Step H1 μ1 H2 μ2) : Step H μ H2 μ2 := by
  refine ⟨fun a o h n z => t.ext a o (s.ext a o h n z) (s.outS h n) z, fun a h => s.dom a (t.dom a h), ?_⟩
  obtain ⟨ν, e, f⟩ := s.gro
  obtain ⟨ν2, e2, f2⟩ := t.gro
  refine ⟨ν ++ ν2, by rw [e2, e, Mem.grow, Mem.grow, Mem.grow, List.append_assoc], fun a q => ?_⟩
  rcases List.mem_append.mp q with q | q
  · exact f a q
  · exact s.dom a (f2 a q)
theorem Step.get {H μ H' μ'} (s : Step H μ H' μ') {n : Nat} {a : Addr} (h : μ.st[n]? = some a) : μ'.st[n]? = some a := by
  obtain ⟨ν, e, _⟩ := s.gro
  subst e
  show (μ.st ++ ν)[n]? = some a
  rw [List.getElem?_append_left (List.getElem?_eq_some_iff.mp h).1]; exact h
theorem Step.tupAt {K H μ H' μ' a xs} (s : Step H μ H' μ') (h : TupAt K H μ a xs) : TupAt K H' μ' a xs := by
  rcases h with ⟨r, n⟩ | h
  · rcases r with r | ⟨o, r⟩
    · exact .inl ⟨.inl (s.ext _ _ r (Mem.nst n) inferInstance), s.out r n⟩
    · exact .inl ⟨.inr ⟨o, s.ext _ _ r (Mem.nst n) inferInstance⟩, s.out r n⟩
  · exact .inr h
theorem Step.frlAt {K H μ H' μ' a xs} (s : Step H μ H' μ') (h : FrlAt K H μ a xs) : FrlAt K H' μ' a xs := by
  rcases h with ⟨⟨o, r⟩, n⟩ | h
  · exact .inl ⟨⟨o, s.ext _ _ r (Mem.nst n) inferInstance⟩, s.out r n⟩
  · exact .inr h
section
variable {K : PySem.W.Frag} {H H' : Hp} {μ μ' : Mem}
mutual
theorem RepP.step (s : Step H μ H' μ') : ∀ {p : PV} {v : V}, RepP K H μ v p → RepP K H' μ' v p
  | .non, _, h => by cases h; exact .non
  | .bl b, _, h => by cases h; exact .bl b
  | .int b, _, h => by cases h; exact .int b
  | .str b, _, h => by cases h; exact .str b
  | .tup ps, _, h => by
    cases h with
    | tup h1 h2 => exact .tup (s.tupAt h1) (RepPs.step s h2)
  | .lst ps, _, h => by
    cases h with
    | lst h1 n h2 => exact .lst (s.ext _ _ h1 (Mem.nst n) inferInstance) (s.out h1 n) (RepPs.step s h2)
  | .frl ps, _, h => by
    cases h with
    | frl h1 h2 => exact .frl (s.frlAt h1) (RepPs.step s h2)
  | .dic ks ps, _, h => by
    cases h with
    | dic h1 n h2 => exact .dic (s.ext _ _ h1 (Mem.nst n) inferInstance) (s.out h1 n) (RepPs.step s h2)
  | .ref n, _, h => by cases h
  | .adr a, _, h => by cases h; exact .adr a
  | .clo i ps, _, h => by cases h
theorem RepPs.step (s : Step H μ H' μ') : ∀ {ps : List PV} {vs : List V}, RepPs K H μ vs ps → RepPs K H' μ' vs ps
  | [], _, h => by cases h; exact .nil
  | p :: ps, _, h => by
    cases h with
    | cons h1 h2 => exact .cons (RepP.step s h1) (RepPs.step s h2)
end
theorem Rep0.step (s : Step H μ H' μ') {v p} (h : Rep0 K H μ v p) : Rep0 K H' μ' v p := by
  rcases h with h | ⟨n, a, e, g, e2⟩
  · exact .inl (h.step s)
  · exact .inr ⟨n, a, e, s.get g, e2⟩
theorem Cells.to {cl : List (Str × Addr)} {fr : List Str} {vs : List V} (s : ∀ a o, H a = some o → a ∉ μ → NTb o → H' a = some o ∧ a ∉ μ') (h : Cells H μ cl fr vs) : Cells H' μ' cl fr vs := by
  refine ⟨h.len, fun y c e => ?_, h.inj, fun j y e => ?_⟩
  · obtain ⟨o, v, g1, g2, g3⟩ := h.all y c e
    exact ⟨o, v, (s _ _ g1 g2 inferInstance).1, (s _ _ g1 g2 inferInstance).2, g3⟩
  · obtain ⟨c, o, u, g1, g2, g3, g4⟩ := h.has j y e
    obtain ⟨_, _, _, n, _⟩ := h.all y c g1
    exact ⟨c, o, u, g1, (s _ _ g2 n inferInstance).1, g3, g4⟩
theorem CloR.to {v p} (s : ∀ a o, H a = some o → a ∉ μ → NTb o → H' a = some o ∧ a ∉ μ') (r : ∀ w q, Rep0 K H μ w q → Rep0 K H' μ' w q) (h : CloR K H μ v p) : CloR K H' μ' v p := by
  obtain ⟨i, ps, f, F, vs, e1, e2, g1, n1, g2, n2, g3, g4, g5⟩ := h
  exact ⟨i, ps, f, F, vs, e1, e2, (s _ _ g1 n1 inferInstance).1, (s _ _ g1 n1 inferInstance).2, (s _ _ g2 n2 inferInstance).1, (s _ _ g2 n2 inferInstance).2, g3, g4.to s, Paired.mono (fun w q z => r w q z) g5⟩
theorem Step.far (s : Step H μ H' μ') : ∀ a o, H a = some o → a ∉ μ → NTb o → H' a = some o ∧ a ∉ μ' := fun a o h n z => ⟨s.ext a o h (Mem.nst n) z, s.out h n⟩
theorem Rep.step (s : Step H μ H' μ') {v p} (h : Rep K H μ v p) : Rep K H' μ' v p := by
  rcases h with h | ⟨n, a, e, g, e2⟩ | h
  · exact .inl (h.step s)
  · exact .inr (.inl ⟨n, a, e, s.get g, e2⟩)
  · exact .inr (.inr (h.to s.far fun _ _ z => z.step s))
theorem ORep.step (s : Step H μ H' μ') {v p} (h : ORep K H μ v p) : ORep K H' μ' v p := by
  cases v <;> cases p <;> first | trivial | exact h.elim | exact Rep.step s h
theorem ERel.step (s : Step H μ H' μ') {σ ρ} (h : ERel K H μ σ ρ) : ERel K H' μ' σ ρ := Paired.mono (fun _ _ q => ORep.step s q) h
theorem Reps.step (s : Step H μ H' μ') {vs ps} (h : Reps K H μ vs ps) : Reps K H' μ' vs ps := Paired.mono (fun _ _ q => Rep.step s q) h

theorem RepPs.length : ∀ {ps : List PV} {vs : List V}, RepPs K H μ vs ps → vs.length = ps.length
  | [], _, h => by cases h; rfl
  | p :: ps, _, h => by
    cases h with
    | cons h1 h2 => simp [RepPs.length h2]
theorem RepPs.get : ∀ {ps : List PV} {vs : List V} {i : Nat} {p : PV}, RepPs K H μ vs ps → ps[i]? = some p → ∃ v, vs[i]? = some v ∧ RepP K H μ v p
  | [], _, _, _, _, e => by simp at e
  | q :: ps, _, 0, p, h, e => by
    cases h with
    | cons h1 h2 => simp at e; subst e; exact ⟨_, rfl, h1⟩
  | q :: ps, _, i + 1, p, h, e => by
    cases h with
    | cons h1 h2 =>
      obtain ⟨v, g, r⟩ := RepPs.get (i := i) h2 (by simpa using e)
      exact ⟨v, by simpa using g, r⟩
theorem RepPs.append : ∀ {ps qs : List PV} {vs ws : List V}, RepPs K H μ vs ps → RepPs K H μ ws qs → RepPs K H μ (vs ++ ws) (ps ++ qs)
  | [], _, _, _, h, h' => by cases h; exact h'
  | p :: ps, _, _, _, h, h' => by
    cases h with
    | cons h1 h2 => exact .cons h1 (RepPs.append h2 h')
theorem RepPs.take : ∀ {ps : List PV} {vs : List V} (n : Nat), RepPs K H μ vs ps → RepPs K H μ (vs.take n) (ps.take n)
  | [], _, n, h => by cases h; simp; exact .nil
  | p :: ps, _, 0, h => by simp; exact .nil
  | p :: ps, _, n + 1, h => by
    cases h with
    | cons h1 h2 => exact .cons h1 (RepPs.take n h2)
theorem RepPs.drop : ∀ {ps : List PV} {vs : List V} (n : Nat), RepPs K H μ vs ps → RepPs K H μ (vs.drop n) (ps.drop n)
  | [], _, n, h => by cases h; simp; exact .nil
  | p :: ps, _, 0, h => h
  | p :: ps, _, n + 1, h => by
    cases h with
    | cons h1 h2 => exact RepPs.drop n h2
theorem RepPs.set : ∀ {ps : List PV} {vs : List V} (i : Nat) {v p}, RepPs K H μ vs ps → RepP K H μ v p → RepPs K H μ (vs.set i v) (ps.set i p)
  | [], _, i, _, _, h, _ => by cases h; exact .nil
  | q :: ps, _, 0, _, _, h, r => by
    cases h with
    | cons h1 h2 => exact .cons r h2
  | q :: ps, _, i + 1, _, _, h, r => by
    cases h with
    | cons h1 h2 => exact .cons h1 (RepPs.set i h2 r)
theorem RepPs.reverse : ∀ {ps : List PV} {vs : List V}, RepPs K H μ vs ps → RepPs K H μ vs.reverse ps.reverse
  | [], _, h => by cases h; exact .nil
  | p :: ps, _, h => by
    cases h with
    | cons h1 h2 =>
      rw [List.reverse_cons, List.reverse_cons]
      exact (RepPs.reverse h2).append (.cons h1 .nil)
theorem RepPs.ints : ∀ {ns : List Int} {vs : List V}, RepPs K H μ vs (ns.map PV.int) → vs = ns.map V.int
  | [], _, h => by cases h; rfl
  | n :: ns, _, h => by
    cases h with
    | cons h1 h2 => cases h1; rw [RepPs.ints h2]; rfl
theorem RepPs.bls : ∀ {ns : List Bool} {vs : List V}, RepPs K H μ vs (ns.map PV.bl) → vs = ns.map V.bl
  | [], _, h => by cases h; rfl
  | n :: ns, _, h => by
    cases h with
    | cons h1 h2 => cases h1; rw [RepPs.bls h2]; rfl
theorem RepPs.of_ints (ns : List Int) : RepPs K H μ (ns.map V.int) (ns.map PV.int) := by
  induction ns with
  | nil => exact .nil
  | cons n ns ih => exact .cons (.int n) ih
theorem RepPs.strs : ∀ {ns : List Str} {vs : List V}, RepPs K H μ vs (ns.map PV.str) → vs = ns.map V.str
  | [], _, h => by cases h; rfl
  | n :: ns, _, h => by
    cases h with
    | cons h1 h2 => cases h1; rw [RepPs.strs h2]; rfl
end
/-- a value that is no object of the store -/
def PV.isRef : PV → Bool
  | .ref _ => true
  | .clo _ _ => true
  | _ => false
theorem Rep.pure {K H μ v p} (h : Rep K H μ v p) (n : p.isRef = false) : RepP K H μ v p := by
  rcases h with h | ⟨n', a, e, _⟩ | ⟨i, ps, _, _, _, e, _⟩
  · exact h
  · subst e; cases n
  · subst e; cases n
theorem Reps.pure {K H μ} : ∀ {ps : List PV} {vs : List V}, Reps K H μ vs ps → ps.all (fun p => !p.isRef) = true → RepPs K H μ vs ps
  | [], _, h, _ => by cases h; exact .nil
  | p :: ps, _, h, n => by
    cases h with
    | cons h1 h2 =>
      simp only [List.all_cons, Bool.and_eq_true, Bool.not_eq_true'] at n
      exact .cons (h1.pure n.1) (Reps.pure h2 n.2)

/-! ### what is asked of an end -/
def FitsG {α : Type} (K : PySem.W.Frag) (H : Hp) (μ : Mem) (r : R α) (k : α → List PV → Hp → Mem → Prop) : Prop := match r with
  | .ok a S' => ∀ H' μ', Step H μ H' μ' → Rel K H' μ' S' → k a S' H' μ'
  | _ => False
section
variable {α β : Type} {K : PySem.W.Frag} {H : Hp} {μ : Mem}
theorem FitsG.imp {r : R α} {k k' : α → List PV → Hp → Mem → Prop} (h : FitsG K H μ r k) (f : ∀ a S' H' μ', Step H μ H' μ' → Rel K H' μ' S' → k a S' H' μ' → k' a S' H' μ') : FitsG K H μ r k' := by
  cases r with
  | ok a S => exact fun H' μ' s t => f a S H' μ' s t (h H' μ' s t)
  | er => exact h
  | no => exact h
theorem FitsG.bind {r : R α} {f : α → List PV → R β} {k : β → List PV → Hp → Mem → Prop} (h : FitsG K H μ (r.bind f) k) : FitsG K H μ r (fun a S' H' μ' => FitsG K H' μ' (f a S') k) := by
  cases r with
  | ok a S =>
    intro H' μ' s t
    have h : FitsG K H μ (f a S) k := h
    revert h
    generalize f a S = r2
    intro h
    cases r2 with
    | ok b S2 => exact fun H2 μ2 s2 t2 => h H2 μ2 (s.trans s2) t2
    | er => exact h
    | no => exact h
  | er => exact h
  | no => exact h
theorem FitsG.here {a : α} {S : List PV} {k : α → List PV → Hp → Mem → Prop} (h : FitsG K H μ (.ok a S) k) (t : Rel K H μ S) : k a S H μ := h H μ (Step.refl _ _) t
end
abbrev VKont (K : PySem.W.Frag) (Q : VK) : PV → List PV → Hp → Mem → Prop := fun p _ H' μ' => ∀ v, Rep K H' μ' v p → Q v H'
abbrev AKont (K : PySem.W.Frag) (Q : List V → Hp → Prop) : List PV → List PV → Hp → Mem → Prop := fun ps _ H' μ' => ∀ vs, Reps K H' μ' vs ps → Q vs H'
abbrev BKont (Q : Bool → Hp → Prop) : Bool → List PV → Hp → Mem → Prop := fun b _ H' _ => Q b H'

/-! ### judgements -/
def tEv (K : PySem.W.Frag) (f : Ev) : TE := fun σ H Q => ∃ μ ρ S, ERel K H μ σ ρ ∧ Rel K H μ S ∧ FitsG K H μ (f ρ S) (VKont K Q)
def tEt (K : PySem.W.Frag) (f : Et) : TT := fun σ H Q => ∃ μ ρ S, ERel K H μ σ ρ ∧ Rel K H μ S ∧ FitsG K H μ (f ρ S) (BKont Q)
def tEa (K : PySem.W.Frag) (f : Ea) : TA := fun σ H Q => ∃ μ ρ S, ERel K H μ σ ρ ∧ Rel K H μ S ∧ FitsG K H μ (f ρ S) (AKont K Q)
def EE (X : Cx) (e : Expr) (f : Ev) : Prop := PE X e (tEv X.K f)
def ET (X : Cx) (e : Expr) (f : Et) : Prop := PT X e (tEt X.K f)
def EW (X : Cx) (e : Expr) (f : Et) : Prop := PW X e (tEt X.K f)
def EA (X : Cx) (es : List Expr) (f : Ea) : Prop := PA X es (tEa X.K f)
theorem pe_mono {X : Cx} {e : Expr} {t t' : TE} (h : PE X e t) (f : ∀ σ H Q, t' σ H Q → t σ H Q) : PE X e t' := ⟨fun pins s σ H Q I q => h.run pins s σ H Q I (f σ H Q q)⟩
theorem pt_mono {X : Cx} {e : Expr} {t t' : TT} (h : PT X e t) (f : ∀ σ H Q, t' σ H Q → t σ H Q) : PT X e t' := ⟨fun pins s σ H Q I q => h.run pins s σ H Q I (f σ H Q q)⟩
theorem pw_mono {X : Cx} {e : Expr} {t t' : TT} (h : PW X e t) (f : ∀ σ H Q, t' σ H Q → t σ H Q) : PW X e t' := ⟨fun whole pins s σ H Q I q => h.run whole pins s σ H Q I (f σ H Q q)⟩
theorem pa_mono {X : Cx} {es : List Expr} {t t' : TA} (h : PA X es t) (f : ∀ σ H Q, t' σ H Q → t σ H Q) : PA X es t' := ⟨fun pos pins s σ H Q I q => h.run pos pins s σ H Q I (f σ H Q q)⟩
theorem ps_mono {X : Cx} {e : Stmt} {t t' : TS} (h : PS X e t) (f : ∀ D σ H, t' D σ H → t D σ H) : PS X e t' := ⟨fun pins s σ H D I q => h.run pins s σ H D I (f D σ H q)⟩
theorem pss_mono {X : Cx} {e : List Stmt} {t t' : TS} (h : PSs X e t) (f : ∀ D σ H, t' D σ H → t D σ H) : PSs X e t' := ⟨fun pins s σ H D I q => h.run pins s σ H D I (f D σ H q)⟩

/-- two expressions in a row, then what is asked of their values -/
theorem two {K : PySem.W.Frag} {fa fb : Ev} {g : PV → PV → Sto → R PV} {σ : L2.St} {H : Hp} {Q : VK} {r : V → V → Hp → VK → Prop}
    (h : tEv K (fun ρ S => (fa ρ S).bind fun x S1 => (fb ρ S1).bind fun y S2 => g x y S2) σ H Q)
    (hr : ∀ H2 μ2 S2 v w p q, Rep K H2 μ2 v p → Rep K H2 μ2 w q → Rel K H2 μ2 S2 → FitsG K H2 μ2 (g p q S2) (VKont K Q) → r v w H2 Q) :
    tEv K fa σ H fun x H1 => tEv K fb σ H1 fun y H2 => r x y H2 Q := by
  obtain ⟨μ, ρ, S, hE, hR, hF⟩ := h
  refine ⟨μ, ρ, S, hE, hR, hF.bind.imp fun p S1 H1 μ1 s1 t1 h1 v rv => ?_⟩
  refine ⟨μ1, ρ, S1, hE.step s1, t1, (FitsG.bind h1).imp fun q S2 H2 μ2 s2 t2 h2 w rw' => ?_⟩
  exact hr H2 μ2 S2 v w p q (rv.step s2) rw' t2 h2
theorem one {K : PySem.W.Frag} {fa : Ev} {g : PV → Sto → R PV} {σ : L2.St} {H : Hp} {Q : VK} {r : V → Hp → VK → Prop}
    (h : tEv K (fun ρ S => (fa ρ S).bind fun x S1 => g x S1) σ H Q)
    (hr : ∀ H2 μ2 S2 v p, Rep K H2 μ2 v p → Rel K H2 μ2 S2 → FitsG K H2 μ2 (g p S2) (VKont K Q) → r v H2 Q) :
    tEv K fa σ H fun x H1 => r x H1 Q := by
  obtain ⟨μ, ρ, S, hE, hR, hF⟩ := h
  exact ⟨μ, ρ, S, hE, hR, hF.bind.imp fun p S1 H1 μ1 s1 t1 h1 v rv => hr H1 μ1 S1 v p rv t1 h1⟩

/-! ### names, constants -/
def eVar (i : Nat) : Ev := fun ρ S => match ρ[i]? with
  | some (some p) => .ok p S
  | _ => .no
def eC (p : PV) : Ev := fun _ S => .ok p S
theorem ERel.get {K H μ} : ∀ {ρ : Env} {σ : List (Option V)} {i : Nat} {p : PV}, ERel K H μ σ ρ → ρ[i]? = some (some p) → ∃ v, σ[i]? = some (some v) ∧ Rep K H μ v p
  | [], _, _, _, _, e => by simp at e
  | q :: ρ, _, 0, p, h, e => by
    cases h with
    | cons h1 h2 =>
      simp at e; subst e
      rename_i x _
      cases x with
      | none => exact h1.elim
      | some v => exact ⟨v, rfl, h1⟩
  | q :: ρ, _, i + 1, p, h, e => by
    cases h with
    | cons h1 h2 =>
      obtain ⟨v, g, r⟩ := ERel.get (i := i) h2 (by simpa using e)
      exact ⟨v, by simpa using g, r⟩
theorem ERel.set {K H μ} {v : Option V} {p : Option PV} : ∀ {ρ : Env} {σ : List (Option V)} (i : Nat), ERel K H μ σ ρ → ORep K H μ v p → ERel K H μ (σ.set i v) (ρ.set i p)
  | [], _, _, h, _ => by cases h; exact .nil
  | q :: ρ, _, 0, h, r => by
    cases h with
    | cons h1 h2 => exact .cons r h2
  | q :: ρ, _, i + 1, h, r => by
    cases h with
    | cons h1 h2 => exact .cons h1 (ERel.set i h2 r)
section
variable {X : Cx} {pos : Pos}
theorem ee_var (i : Nat) {x : Str} (h : PE X (.Name x pos) (tVar i)) : EE X (.Name x pos) (eVar i) := pe_mono h fun σ H Q ⟨μ, ρ, S, hE, hR, hF⟩ => by
  unfold eVar at hF
  split at hF
  · rename_i p e
    obtain ⟨v, g, r⟩ := hE.get e
    exact ⟨v, g, FitsG.here hF hR v r⟩
  · exact hF.elim
theorem ee_c {e : Expr} {v : V} {p : PV} (h : PE X e (tC v)) (r : ∀ H, RepP X.K H ⟨[], []⟩ v p) (r2 : ∀ H μ, RepP X.K H μ v p) : EE X e (eC p) := pe_mono h fun σ H Q ⟨μ, ρ, S, hE, hR, hF⟩ => FitsG.here hF hR v (.inl (r2 H μ))
theorem ee_int {i j} : EE X (.Constant (.int i) j pos) (eC (.int i)) := ee_c pe_int (fun _ => .int i) fun _ _ => .int i
theorem ee_bl {i j} : EE X (.Constant (.bool i) j pos) (eC (.bl i)) := ee_c pe_bl (fun _ => .bl i) fun _ _ => .bl i
theorem ee_str {i j} : EE X (.Constant (.str i) j pos) (eC (.str i)) := ee_c pe_str (fun _ => .str i) fun _ _ => .str i
theorem ee_non {j} : EE X (.Constant .none j pos) (eC .non) := ee_c pe_non (fun _ => .non) fun _ _ => .non

/-! ### operators -/
def eOp (g : PV → PV → Sto → R PV) (a b : Ev) : Ev := fun ρ S => (a ρ S).bind fun x S1 => (b ρ S1).bind fun y S2 => g x y S2
def eUn (g : PV → Sto → R PV) (a : Ev) : Ev := fun ρ S => (a ρ S).bind fun x S1 => g x S1
def L2R (K : PySem.W.Frag) (r : R2) (g : PV → PV → Sto → R PV) : Prop := ∀ Q H μ S v w p q, Rep K H μ v p → Rep K H μ w q → Rel K H μ S → FitsG K H μ (g p q S) (VKont K Q) → r v w H Q
def L1R (K : PySem.W.Frag) (r : V → Hp → VK → Prop) (g : PV → Sto → R PV) : Prop := ∀ Q H μ S v p, Rep K H μ v p → Rel K H μ S → FitsG K H μ (g p S) (VKont K Q) → r v H Q
variable {a b : Expr} {fa fb : Ev} {g : PV → PV → Sto → R PV} {r : R2}
theorem ee_op {op : Operator} (ho : OpR X (binaryOp op) r) (hr : L2R X.K r g) (ha : EE X a fa) (hb : EE X b fb) : EE X (.BinOp a op b pos) (eOp g fa fb) :=
  pe_mono (pe_op ho ha hb) fun σ H Q h => two h fun H2 μ2 S2 v w p q rv rw' t h2 => hr Q H2 μ2 S2 v w p q rv rw' t h2
theorem ee_un {op : UnaryOp} {r : V → Hp → VK → Prop} {g : PV → Sto → R PV} (ho : UnR X (unaryOp op) r) (hr : L1R X.K r g) (ha : EE X a fa) : EE X (.UnaryOp op a pos) (eUn g fa) :=
  pe_mono (pe_un ho ha) fun σ H Q h => one h fun H2 μ2 S2 v p rv t h2 => hr Q H2 μ2 S2 v p rv t h2
theorem ee_cmp {op : CmpOp} (ho : OpR X (compareOp op) r) (hr : L2R X.K r g) (ha : EE X a fa) (hb : EE X b fb) (hm : behindInMarks op b = false) : EE X (.Compare a [op] [b] pos) (eOp g fa fb) :=
  pe_mono (pe_cmpR ho ha hb hm) fun σ H Q h => two h fun H2 μ2 S2 v w p q rv rw' t h2 => hr Q H2 μ2 S2 v w p q rv rw' t h2

/-! ### tests -/
def toB (p : PV) (S : Sto) : R Bool := match p with
  | .bl b => .ok b S
  | _ => .no
def tV (a : Ev) : Et := fun ρ S => (a ρ S).bind toB
def tNotE (a : Et) : Et := fun ρ S => (a ρ S).bind fun b S1 => .ok (!b) S1
def tAndE (a b : Et) : Et := fun ρ S => (a ρ S).bind fun c S1 => if c = true then b ρ S1 else .ok false S1
def tOrE (a b : Et) : Et := fun ρ S => (a ρ S).bind fun c S1 => if c = true then .ok true S1 else b ρ S1
theorem toB_of {K H μ} {p : PV} {S : Sto} {k : Bool → List PV → Hp → Mem → Prop} (h : FitsG K H μ (toB p S) k) : ∃ b, p = .bl b ∧ FitsG K H μ (.ok b S) k := by
  unfold toB at h
  split at h
  · exact ⟨_, rfl, h⟩
  · exact h.elim
theorem rep_bl {K H μ v b} (h : Rep K H μ v (.bl b)) : v = .bl b := by
  rcases h.two with h | ⟨_, _, e, _⟩
  · cases h; rfl
  · cases e
theorem rep_int {K H μ v b} (h : Rep K H μ v (.int b)) : v = .int b := by
  rcases h.two with h | ⟨_, _, e, _⟩
  · cases h; rfl
  · cases e
theorem rep_str {K H μ v b} (h : Rep K H μ v (.str b)) : v = .str b := by
  rcases h.two with h | ⟨_, _, e, _⟩
  · cases h; rfl
  · cases e
theorem rep_non {K H μ v} (h : Rep K H μ v .non) : v = .non := by
  rcases h.two with h | ⟨_, _, e, _⟩
  · cases h; rfl
  · cases e
theorem tv_tB {K fa σ H Q} (h : tEt K (tV fa) σ H Q) : tB (tEv K fa) σ H Q := by
  obtain ⟨μ, ρ, S, hE, hR, hF⟩ := h
  refine ⟨μ, ρ, S, hE, hR, (FitsG.bind hF).imp fun p S1 H1 μ1 s1 t1 h1 v rv => ?_⟩
  obtain ⟨b, rfl, h2⟩ := toB_of h1
  exact ⟨b, rep_bl rv, FitsG.here h2 t1⟩
theorem et_val {e : Expr} (h : EE X e fa) (he : ∀ whole, isTrue e X.env whole = (do let v ← whole; standAt e.pos; holding [v] (truthy v)) := by intro _; rfl) : ET X e (tV fa) :=
  pt_mono (pt_val h he) fun σ H Q h => tv_tB h
theorem et_cmp {op : CmpOp} (ho : OpR X (compareOp op) r) (hr : L2R X.K r g) (ha : EE X a fa) (hb : EE X b fb) (hm : behindInMarks op b = false) : ET X (.Compare a [op] [b] pos) (tV (eOp g fa fb)) :=
  pt_mono (pt_cmpR ho ha hb hm) fun σ H Q h => by
    have h' := tv_tB h
    have h2 : tEv X.K (eOp g fa fb) σ H (fun x H' => ∃ k, x = .bl k ∧ Q k H') := h'
    exact two h2 fun H2 μ2 S2 v w p q rv rw' t h2 => hr _ H2 μ2 S2 v w p q rv rw' t h2
variable {ta tb : Et}
theorem et_not (h : ET X a ta) : ET X (.UnaryOp .Not a pos) (tNotE ta) := pt_mono (pt_not h) fun σ H Q ⟨μ, ρ, S, hE, hR, hF⟩ =>
  ⟨μ, ρ, S, hE, hR, (FitsG.bind hF).imp fun b S1 H1 μ1 s1 t1 h1 => FitsG.here h1 t1⟩
theorem ew_and1 (h : ET X a ta) : EW X (.BoolOp .And [a] pos) ta := pw_mono (pw_and1 h) fun _ _ _ h => h
theorem ew_or1 (h : ET X a ta) : EW X (.BoolOp .Or [a] pos) ta := pw_mono (pw_or1 h) fun _ _ _ h => h
theorem ew_and {rest : List Expr} (h : ET X a ta) (h2 : EW X (.BoolOp .And (b :: rest) pos) tb) : EW X (.BoolOp .And (a :: b :: rest) pos) (tAndE ta tb) := pw_mono (pw_and h h2) fun σ H Q ⟨μ, ρ, S, hE, hR, hF⟩ =>
  ⟨μ, ρ, S, hE, hR, (FitsG.bind hF).imp fun c S1 H1 μ1 s1 t1 h1 => by
    show if c = true then _ else _
    split
    · rename_i hc
      subst hc
      exact ⟨μ1, ρ, S1, hE.step s1, t1, h1⟩
    · rename_i hc
      have : c = false := by cases c <;> simp_all
      subst this
      exact FitsG.here h1 t1⟩
theorem ew_or {rest : List Expr} (h : ET X a ta) (h2 : EW X (.BoolOp .Or (b :: rest) pos) tb) : EW X (.BoolOp .Or (a :: b :: rest) pos) (tOrE ta tb) := pw_mono (pw_or h h2) fun σ H Q ⟨μ, ρ, S, hE, hR, hF⟩ =>
  ⟨μ, ρ, S, hE, hR, (FitsG.bind hF).imp fun c S1 H1 μ1 s1 t1 h1 => by
    show if c = true then _ else _
    split
    · rename_i hc
      subst hc
      exact FitsG.here h1 t1
    · rename_i hc
      have : c = false := by cases c <;> simp_all
      subst this
      exact ⟨μ1, ρ, S1, hE.step s1, t1, h1⟩⟩
theorem et_w {e : Expr} (h : EW X e ta) : ET X e ta := PW.pt h
end
end Py
set_option Elab.async false
set_option maxRecDepth 100000
set_option maxHeartbeats 4000000
set_option linter.all false
namespace Py
open PySem PySem.Spec PyProof.Rows L2
variable [CT]

section
variable {K : PySem.W.Frag} {H H' : Hp} {μ μ' : Mem}
/-- what is needed of a change, for values to stay -/
def Keep (H : Hp) (μ : Mem) (H' : Hp) (μ' : Mem) : Prop := ∀ a o, H a = some o → a ∉ μ → NTb o → H' a = some o ∧ a ∉ μ'
theorem Keep.tupAt {a xs} (s : Keep H μ H' μ') (h : TupAt K H μ a xs) : TupAt K H' μ' a xs := by
  rcases h with ⟨r, n⟩ | h
  · rcases r with r | ⟨o, r⟩
    · exact .inl ⟨.inl (s _ _ r n inferInstance).1, (s _ _ r n inferInstance).2⟩
    · exact .inl ⟨.inr ⟨o, (s _ _ r n inferInstance).1⟩, (s _ _ r n inferInstance).2⟩
  · exact .inr h
theorem Keep.frlAt {a xs} (s : Keep H μ H' μ') (h : FrlAt K H μ a xs) : FrlAt K H' μ' a xs := by
  rcases h with ⟨⟨o, r⟩, n⟩ | h
  · exact .inl ⟨⟨o, (s _ _ r n inferInstance).1⟩, (s _ _ r n inferInstance).2⟩
  · exact .inr h
mutual
theorem RepP.keep (s : Keep H μ H' μ') : ∀ {p : PV} {v : V}, RepP K H μ v p → RepP K H' μ' v p
  | .non, _, h => by cases h; exact .non
  | .bl b, _, h => by cases h; exact .bl b
  | .int b, _, h => by cases h; exact .int b
  | .str b, _, h => by cases h; exact .str b
  | .tup ps, _, h => by
    cases h with
    | tup h1 h2 => exact .tup (s.tupAt h1) (RepPs.keep s h2)
  | .lst ps, _, h => by
    cases h with
    | lst h1 n h2 => exact .lst (s _ _ h1 n inferInstance).1 (s _ _ h1 n inferInstance).2 (RepPs.keep s h2)
  | .frl ps, _, h => by
    cases h with
    | frl h1 h2 => exact .frl (s.frlAt h1) (RepPs.keep s h2)
  | .dic ks ps, _, h => by
    cases h with
    | dic h1 n h2 => exact .dic (s _ _ h1 n inferInstance).1 (s _ _ h1 n inferInstance).2 (RepPs.keep s h2)
  | .ref n, _, h => by cases h
  | .adr a, _, h => by cases h; exact .adr a
theorem RepPs.keep (s : Keep H μ H' μ') : ∀ {ps : List PV} {vs : List V}, RepPs K H μ vs ps → RepPs K H' μ' vs ps
  | [], _, h => by cases h; exact .nil
  | p :: ps, _, h => by
    cases h with
    | cons h1 h2 => exact .cons (RepP.keep s h1) (RepPs.keep s h2)
end
theorem Rep0.keep {v p} (s : Keep H μ H' μ') (e : μ'.st = μ.st) (h : Rep0 K H μ v p) : Rep0 K H' μ' v p := by
  rcases h with h | ⟨n, a, h1, h2, h3⟩
  · exact .inl (h.keep s)
  · exact .inr ⟨n, a, h1, by rw [e]; exact h2, h3⟩
theorem Rep.keep {v p} (s : Keep H μ H' μ') (e : μ'.st = μ.st) (h : Rep K H μ v p) : Rep K H' μ' v p := by
  rcases h with h | ⟨n, a, h1, h2, h3⟩ | h
  · exact .inl (h.keep s)
  · exact .inr (.inl ⟨n, a, h1, by rw [e]; exact h2, h3⟩)
  · exact .inr (.inr (h.to s fun _ _ z => z.keep s e))
theorem ORep.keep {v p} (s : Keep H μ H' μ') (e : μ'.st = μ.st) (h : ORep K H μ v p) : ORep K H' μ' v p := by
  cases v <;> cases p <;> first | trivial | exact h.elim | exact Rep.keep s e h
theorem ERel.keep {σ : List (Option V)} {ρ : Env} (s : Keep H μ H' μ') (e : μ'.st = μ.st) (h : ERel K H μ σ ρ) : ERel K H' μ' σ ρ := Paired.mono (fun _ _ q => ORep.keep s e q) h
theorem Rel.keep {S : List PV} (s : Keep H μ H' μ') (e : μ'.st = μ.st) (t : Rel K H μ S) (h : ∀ a ∈ μ.st, H' a = H a) (hr : ∀ a ∈ μ'.rs, a ∉ μ'.st ∧ ∃ l, H' a = some (.lst l)) (ht : NdefX.TabsN CT.tb H') : Rel K H' μ' S := by
  refine ⟨by rw [e]; exact t.len, by rw [e]; exact t.nd, fun n a o e1 e2 => ?_, hr, ht⟩
  rw [e] at e1
  have ob := t.obj n a o e1 e2
  have ha := h a (List.mem_of_getElem? e1)
  revert ob
  cases o <;> intro ob <;> first | exact ob.elim | skip
  · obtain ⟨vs, g, r⟩ := ob; exact ⟨vs, ha.trans g, r.keep s⟩
  · obtain ⟨kvs, g, g2, r⟩ := ob; exact ⟨kvs, ha.trans g, g2, r.keep s⟩
end
theorem code_fr {c q o u} : LamX.CodeO c q ≠ .frz o u := fun z => by unfold LamX.CodeO at z; cases z
/-- tables stay where none of theirs is changed -/
theorem tabs_upd {T : List NdefX.NTab} {H : Hp} {p : Addr} {o : HO} (t : NdefX.TabsN T H) (h : ∀ u, H p = some u → (∀ ps, u ≠ .tbl ps) ∧ ∀ φ, u ≠ .ext φ) : NdefX.TabsN T (upd H p o) := fun q hq => by
  obtain ⟨ps, h1, h2, h3⟩ := t q hq
  have n1 : q.1 ≠ p := fun z => by rw [z] at h1; exact (h _ h1).1 ps rfl
  refine ⟨ps, by rw [upd_ne n1]; exact h1, h2, fun pos cv hc => ?_⟩
  obtain ⟨c, e1, e2⟩ := h3 pos cv hc
  have n2 : c ≠ p := fun z => by rw [z] at e2; exact (h _ e2).2 _ rfl
  exact ⟨c, e1, by rw [upd_ne n2]; exact e2⟩
theorem Step.keep {H μ H' μ'} (s : Step H μ H' μ') : Keep H μ H' μ' := fun a o h n z => ⟨s.ext a o h (Mem.nst n) z, s.out h n⟩

/-! ### fewer forbidden addresses -/
section
variable {K : PySem.W.Frag} {H : Hp} {μ μ' : Mem}
mutual
theorem RepP.sub (s : ∀ a, a ∈ μ' → a ∈ μ) : ∀ {p : PV} {v : V}, RepP K H μ v p → RepP K H μ' v p
  | .non, _, h => by cases h; exact .non
  | .bl b, _, h => by cases h; exact .bl b
  | .int b, _, h => by cases h; exact .int b
  | .str b, _, h => by cases h; exact .str b
  | .tup ps, _, h => by
    cases h with
    | tup h1 h2 => exact .tup (h1.elim (fun z => .inl ⟨z.1, fun q => z.2 (s _ q)⟩) .inr) (RepPs.sub s h2)
  | .lst ps, _, h => by
    cases h with
    | lst h1 n h2 => exact .lst h1 (fun q => n (s _ q)) (RepPs.sub s h2)
  | .frl ps, _, h => by
    cases h with
    | frl h1 h2 => exact .frl (h1.elim (fun z => .inl ⟨z.1, fun q => z.2 (s _ q)⟩) .inr) (RepPs.sub s h2)
  | .dic ks ps, _, h => by
    cases h with
    | dic h1 n h2 => exact .dic h1 (fun q => n (s _ q)) (RepPs.sub s h2)
  | .ref n, _, h => by cases h
  | .adr a, _, h => by cases h; exact .adr a
theorem RepPs.sub (s : ∀ a, a ∈ μ' → a ∈ μ) : ∀ {ps : List PV} {vs : List V}, RepPs K H μ vs ps → RepPs K H μ' vs ps
  | [], _, h => by cases h; exact .nil
  | p :: ps, _, h => by
    cases h with
    | cons h1 h2 => exact .cons (RepP.sub s h1) (RepPs.sub s h2)
end
theorem ObjR.sub (s : ∀ a, a ∈ μ' → a ∈ μ) {a : Addr} {o : PV} (h : ObjR K H μ a o) : ObjR K H μ' a o := by
  cases o <;> first | exact h.elim | skip
  · obtain ⟨vs, e, r⟩ := h; exact ⟨vs, e, r.sub s⟩
  · obtain ⟨kvs, e, e2, r⟩ := h; exact ⟨kvs, e, e2, r.sub s⟩
theorem ObjR.step {H' : Hp} {μ2 : Mem} (s : Step H μ H' μ2) {a : Addr} {o : PV} (h : ObjR K H μ a o) (e : H' a = H a) : ObjR K H' μ2 a o := by
  cases o <;> first | exact h.elim | skip
  · obtain ⟨vs, e1, r⟩ := h; exact ⟨vs, e.trans e1, r.step s⟩
  · obtain ⟨kvs, e1, e2, r⟩ := h; exact ⟨kvs, e.trans e1, e2, r.step s⟩
theorem Rel.tracked {S : List PV} (t : Rel K H μ S) {p : Addr} (q : p ∈ μ.st) : H p ≠ none := fun h => by
  obtain ⟨n, hn, e⟩ := List.mem_iff_getElem.mp q
  have hS : n < S.length := by rw [← t.len]; exact hn
  have o := t.obj n p S[n] (by rw [List.getElem?_eq_getElem hn, e]) (List.getElem?_eq_getElem hS)
  revert o
  cases S[n] <;> intro o <;> first | exact o.elim | skip
  · obtain ⟨vs, e1, _⟩ := o; rw [h] at e1; cases e1
  · obtain ⟨kvs, e1, _⟩ := o; rw [h] at e1; cases e1
theorem Rel.resn {S : List PV} (t : Rel K H μ S) {p : Addr} (q : p ∈ μ.rs) : H p ≠ none := fun h => by
  obtain ⟨l, e⟩ := (t.res p q).2
  rw [h] at e; cases e
theorem Rel.out {S : List PV} (t : Rel K H μ S) {p : Addr} (h : H p = none) : p ∉ μ := fun q => q.elim (fun q => t.tracked q h) fun q => t.resn q h
theorem Rel.resU {S : List PV} (t : Rel K H μ S) {p : Addr} (h : H p = none) (o : HO) : ∀ a, a ∈ μ.rs → a ∉ μ.st ∧ ∃ l, upd H p o a = some (.lst l) := fun a q =>
  ⟨(t.res a q).1, (t.res a q).2.imp fun l e => (upd_ne (ne_of_none e h)).trans e⟩
theorem Rel.resG {S : List PV} (t : Rel K H μ S) {p : Addr} (h : H p = none) (o : HO) : ∀ a, a ∈ (μ.grow [p]).rs → a ∉ (μ.grow [p]).st ∧ ∃ l, upd H p o a = some (.lst l) := fun a q =>
  ⟨fun z => (List.mem_append.mp z).elim (t.res a q).1 fun z => t.resn q (by rw [List.mem_singleton.mp z]; exact h), (t.resU h o a q).2⟩
/-- a new object is laid -/
theorem Step.laid (H : Hp) (μ : Mem) {p : Addr} (h : H p = none) (o : HO) : Step H μ (upd H p o) μ :=
  ⟨fun a u e _ _ => by rw [upd_ne (ne_of_none e h)]; exact e, fun a e => by
    by_cases q : a = p
    · subst q; exact h
    · rw [upd_ne q] at e; exact e, [], by simp [Mem.grow], by simp⟩
theorem Rel.laid {S : List PV} (t : Rel K H μ S) {p : Addr} (h : H p = none) (o : HO) : Rel K (upd H p o) μ S :=
  ⟨t.len, t.nd, fun n a ob e1 e2 => (t.obj n a ob e1 e2).step (Step.laid H μ h o) (upd_ne fun z => (Mem.nst (t.out h)) (by rw [← z]; exact List.mem_of_getElem? e1)), t.resU h o, tabs_upd t.tab fun u e => by rw [h] at e; cases e⟩
/-- .. and becomes an object of the store -/
theorem Rel.alloc {S : List PV} (t : Rel K H μ S) {p : Addr} (h : H p = none) {vs : List V} {ps : List PV} (r : RepPs K H μ vs ps) : Rel K (upd H p (.lst vs)) (μ.grow [p]) (S ++ [.lst ps]) := by
  have l := Step.laid H μ h (.lst vs)
  have s : Step H μ (upd H p (.lst vs)) (μ.grow [p]) := ⟨l.ext, l.dom, [p], rfl, fun a q => by rw [List.mem_singleton.mp q]; exact h⟩
  refine ⟨by simp [Mem.grow, t.len], ?_, fun n a ob e1 e2 => ?_, t.resG h _, tabs_upd t.tab fun u e => by rw [h] at e; cases e⟩
  · exact List.nodup_append.mpr ⟨t.nd, by simp, fun a ha b hb => by
      rw [List.mem_singleton.mp hb]; intro z; rw [z] at ha; exact Mem.nst (t.out h) ha⟩
  · have e1 : (μ.st ++ [p])[n]? = some a := e1
    by_cases hn : n < μ.st.length
    · rw [List.getElem?_append_left hn] at e1
      rw [List.getElem?_append_left (by rw [← t.len]; exact hn)] at e2
      exact (t.obj n a ob e1 e2).step s (upd_ne fun z => Mem.nst (t.out h) (by rw [← z]; exact List.mem_of_getElem? e1))
    · have e : n = μ.st.length := by
        have := (List.getElem?_eq_some_iff.mp e1).1
        simp at this; omega
      subst e
      rw [List.getElem?_append_right (Nat.le_refl _)] at e1
      rw [List.getElem?_append_right (by rw [t.len]; exact Nat.le_refl _)] at e2
      simp [t.len] at e1 e2
      subst e1 e2
      exact ⟨vs, upd_same, r.step s⟩
theorem ObjR.repP {a : Addr} {o : PV} (h : ObjR K H μ a o) (n : a ∉ μ) : RepP K H μ (.ref a) o := by
  cases o <;> first | exact h.elim | skip
  · obtain ⟨vs, e, r⟩ := h; exact .lst e n r
  · obtain ⟨kvs, e, e2, r⟩ := h; subst e2; exact .dic e n r
theorem Rel.last {S : List PV} {p : Addr} {o : PV} (t : Rel K H (μ.grow [p]) (S ++ [o])) : Rel K H μ S ∧ p ∉ μ.st ∧ ObjR K H μ p o := by
  have sub : ∀ a, a ∈ μ → a ∈ μ.grow [p] := fun a h => h.elim (fun h => .inl (List.mem_append_left _ h)) .inr
  have len : μ.st.length = S.length := by have := t.len; simpa [Mem.grow] using this
  have nd := List.nodup_append.mp t.nd
  refine ⟨⟨len, nd.1, fun n a ob e1 e2 => ?_, fun a q => ⟨fun z => (t.res a q).1 (List.mem_append_left _ z), (t.res a q).2⟩, t.tab⟩, fun q => nd.2.2 p q p (List.mem_singleton.mpr rfl) rfl, ?_⟩
  · refine (t.obj n a ob ?_ ?_).sub sub
    · show (μ.st ++ [p])[n]? = some a
      rw [List.getElem?_append_left (List.getElem?_eq_some_iff.mp e1).1]; exact e1
    · rw [List.getElem?_append_left (List.getElem?_eq_some_iff.mp e2).1]; exact e2
  · exact (t.obj μ.st.length p o (by simp [Mem.grow]) (by simp [len])).sub sub
/-- an object of the store is changed -/
theorem Step.write (H : Hp) (μ : Mem) {p : Addr} (m : p ∈ μ.st) (o : HO) : Step H μ (upd H p o) μ :=
  ⟨fun a u e n _ => by rw [upd_ne fun z => n (by rw [z]; exact m)]; exact e, fun a e => by
    by_cases q : a = p
    · subst q; rw [upd_same] at e; cases e
    · rw [upd_ne q] at e; exact e, [], by simp [Mem.grow], by simp⟩
theorem Rel.write {S : List PV} (t : Rel K H μ S) {n : Nat} {p : Addr} (m : μ.st[n]? = some p) {o : HO} {ob : PV} (r : ObjR K (upd H p o) μ p ob) : Rel K (upd H p o) μ (S.set n ob) := by
  have hn := (List.getElem?_eq_some_iff.mp m).1
  have hS : n < S.length := by rw [← t.len]; exact hn
  refine ⟨by simp [t.len], t.nd, fun k a u e1 e2 => ?_, fun a q => ⟨(t.res a q).1, (t.res a q).2.imp fun l e => (upd_ne fun z => (t.res a q).1 (by rw [z]; exact List.mem_of_getElem? m)).trans e⟩, tabs_upd t.tab fun u e => ?_⟩
  rotate_left
  · have ob := t.obj n p S[n] m (List.getElem?_eq_getElem hS)
    revert ob
    cases S[n] <;> intro ob <;> first | exact ob.elim | skip
    · obtain ⟨vs, h1, _⟩ := ob
      rw [e] at h1; cases h1
      exact ⟨fun ps z => (by cases z), fun φ z => (by cases z)⟩
    · obtain ⟨kvs, h1, _⟩ := ob
      rw [e] at h1; cases h1
      exact ⟨fun ps z => (by cases z), fun φ z => (by cases z)⟩
  by_cases hk : k = n
  · subst hk
    rw [m] at e1; cases e1
    have hlt : k < S.length := by rw [← t.len]; exact (List.getElem?_eq_some_iff.mp m).1
    rw [List.getElem?_set_self hlt] at e2
    cases e2
    exact r
  · rw [List.getElem?_set_ne (Ne.symm hk)] at e2
    refine (t.obj k a u e1 e2).step (Step.write H μ (List.mem_of_getElem? m) o) (upd_ne fun z => hk ?_)
    have h1 := List.getElem?_eq_some_iff.mp e1
    have h2 := List.getElem?_eq_some_iff.mp m
    exact (List.getElem_inj t.nd).mp (by rw [h1.2, h2.2, z])
end

/-! ### fresh lists -/
def FitsF (K : PySem.W.Frag) (H : Hp) (μ : Mem) (r : R PV) (Q : VK) : Prop := match r with
  | .ok o S' => ∀ H' μ' a, H a = none → a ∉ μ.rs → Step H μ H' μ' → Rel K H' (μ'.grow [a]) (S' ++ [o]) → Q (.ref a) H'
  | _ => False
def tEf (K : PySem.W.Frag) (f : Ev) : TE := fun σ H Q => ∃ μ ρ S, ERel K H μ σ ρ ∧ Rel K H μ S ∧ FitsF K H μ (f ρ S) Q
/-- an expression that makes a new list or dict -/
def EF (X : Cx) (e : Expr) (f : Ev) : Prop := PE X e (tEf X.K f)
/-- .. which is put into the store -/
def eNew (f : Ev) : Ev := fun ρ S => (f ρ S).bind fun o S1 => .ok (.ref S1.length) (S1 ++ [o])
theorem tEf_pure {K : PySem.W.Frag} {f : Ev} {σ : List (Option V)} {H : Hp} {Q : VK} (h : tEv K f σ H Q) : tEf K f σ H Q := by
  obtain ⟨μ, ρ, S, hE, hR, hF⟩ := h
  refine ⟨μ, ρ, S, hE, hR, ?_⟩
  revert hF
  cases f ρ S with
  | ok o S1 =>
    intro hF H' μ' a ha hrs st t
    obtain ⟨t1, n1, r1⟩ := t.last
    have n2 : a ∉ μ' := fun q => q.elim n1 fun q => by
      obtain ⟨ν, e, _⟩ := st.gro
      subst e
      exact hrs q
    exact (show FitsG K H μ (.ok o S1) (VKont K Q) from hF) H' μ' st t1 _ (.inl (r1.repP n2))
  | er => exact fun z => z
  | no => exact fun z => z
theorem tEf_new {K : PySem.W.Frag} {f : Ev} {σ : List (Option V)} {H : Hp} {Q : VK} (h : tEv K (eNew f) σ H Q) : tEf K f σ H Q := by
  obtain ⟨μ, ρ, S, hE, hR, hF⟩ := h
  refine ⟨μ, ρ, S, hE, hR, ?_⟩
  unfold eNew at hF
  revert hF
  cases f ρ S with
  | ok o S1 =>
    intro hF H' μ' a ha hrs st t
    have len : μ'.st.length = S1.length := by have := t.len; simpa [Mem.grow] using this
    have st2 : Step H μ H' (μ'.grow [a]) := by
      obtain ⟨ν, e, f⟩ := st.gro
      refine ⟨st.ext, st.dom, ν ++ [a], by rw [e, Mem.grow, Mem.grow, Mem.grow, List.append_assoc], fun b q => ?_⟩
      rcases List.mem_append.mp q with q | q
      · exact f b q
      · rw [List.mem_singleton.mp q]; exact ha
    exact (show FitsG K H μ (.ok (.ref S1.length) (S1 ++ [o])) (VKont K Q) from hF) H' (μ'.grow [a]) st2 t _ (.inr (.inl ⟨_, a, rfl, by rw [← len]; simp [Mem.grow], rfl⟩))
  | er => exact fun z => z
  | no => exact fun z => z
theorem ee_pure {X : Cx} {e : Expr} {f : Ev} (h : EF X e f) : EE X e f := pe_mono h fun σ H Q h => tEf_pure h
theorem ee_new {X : Cx} {e : Expr} {f : Ev} (h : EF X e f) : EE X e (eNew f) := pe_mono h fun σ H Q h => tEf_new h
theorem Step.rse {H0 H : Hp} {μ0 μ : Mem} (st : Step H0 μ0 H μ) : μ.rs = μ0.rs := by
  obtain ⟨ν, e, _⟩ := st.gro
  subst e
  rfl
theorem Step.nrs {H0 H : Hp} {μ0 μ : Mem} (st : Step H0 μ0 H μ) {p : Addr} (h : p ∉ μ.rs) : p ∉ μ0.rs := by
  obtain ⟨ν, e, _⟩ := st.gro
  subst e
  exact h
/-- a rule that lays a new list -/
theorem FitsF.lay {K : PySem.W.Frag} {H0 H : Hp} {μ0 μ : Mem} {ps : List PV} {S : List PV} {Q : VK} (h : FitsF K H0 μ0 (.ok (.lst ps) S) Q) (st : Step H0 μ0 H μ) (t : Rel K H μ S) {vs : List V} (r : RepPs K H μ vs ps) : ∀ p, H p = none → Q (.ref p) (upd H p (.lst vs)) := fun p hp =>
  h (upd H p (.lst vs)) μ p (st.dom p hp) (st.nrs fun q => t.resn q hp) (st.trans (Step.laid H μ hp _)) (t.alloc hp r)
theorem FitsF.bind {α : Type} {K : PySem.W.Frag} {H : Hp} {μ : Mem} {r : R α} {f : α → List PV → R PV} {Q : VK} (h : FitsF K H μ (r.bind f) Q) : FitsG K H μ r (fun a S' H' μ' => FitsF K H' μ' (f a S') Q) := by
  cases r with
  | ok a S =>
    intro H' μ' s t
    have h : FitsF K H μ (f a S) Q := h
    revert h
    generalize f a S = r2
    intro h
    cases r2 with
    | ok b S2 => exact fun H2 μ2 p hp hrs s2 t2 => h H2 μ2 p (s.dom p hp) (s.nrs hrs) (s.trans s2) t2
    | er => exact h
    | no => exact h
  | er => exact h
  | no => exact h

/-! ### argument lists -/
def aNil : Ea := fun _ S => .ok [] S
def aCons (a : Ev) (r : Ea) : Ea := fun ρ S => (a ρ S).bind fun x S1 => (r ρ S1).bind fun xs S2 => .ok (x :: xs) S2
theorem ea_nil {X : Cx} : EA X [] aNil := pa_mono pa_nil fun σ H Q ⟨μ, ρ, S, hE, hR, hF⟩ => FitsG.here hF hR [] .nil
theorem ea_cons {X : Cx} {e : Expr} {es : List Expr} {fa : Ev} {fr : Ea} (ha : EE X e fa) (hr : EA X es fr) (hs : starEach (e :: es) X.env = (false, eval e X.env) :: starEach es X.env := by rfl) : EA X (e :: es) (aCons fa fr) :=
  pa_mono (pa_cons ha hr hs) fun σ H Q ⟨μ, ρ, S, hE, hR, hF⟩ => ⟨μ, ρ, S, hE, hR, (FitsG.bind hF).imp fun p S1 H1 μ1 s1 t1 h1 v rv =>
    ⟨μ1, ρ, S1, hE.step s1, t1, (FitsG.bind h1).imp fun qs S2 H2 μ2 s2 t2 h2 ws rw' => FitsG.here h2 t2 (v :: ws) (.cons (rv.step s2) rw')⟩⟩

def allPure (ps : List PV) : Bool := ps.all fun p => !p.isRef
/-- what a list of values is put to -/
def eArgs (g : List PV → Sto → R PV) (a : Ea) : Ev := fun ρ S => (a ρ S).bind fun xs S1 => g xs S1
theorem args {K : PySem.W.Frag} {fa : Ea} {g : List PV → Sto → R PV} {σ : List (Option V)} {H : Hp} {Q : VK} {r : List V → Hp → VK → Prop}
    (h : tEv K (eArgs g fa) σ H Q) (hr : ∀ H2 μ2 S2 vs ps, Reps K H2 μ2 vs ps → Rel K H2 μ2 S2 → FitsG K H2 μ2 (g ps S2) (VKont K Q) → r vs H2 Q) :
    tEa K fa σ H fun xs H1 => r xs H1 Q := by
  obtain ⟨μ, ρ, S, hE, hR, hF⟩ := h
  exact ⟨μ, ρ, S, hE, hR, (FitsG.bind hF).imp fun ps S1 H1 μ1 s1 t1 h1 vs rv => hr H1 μ1 S1 vs ps rv t1 h1⟩
theorem argsF {K : PySem.W.Frag} {fa : Ea} {g : List PV → Sto → R PV} {σ : List (Option V)} {H : Hp} {Q : VK} {r : List V → Hp → VK → Prop}
    (h : tEf K (eArgs g fa) σ H Q) (hr : ∀ H2 μ2 S2 vs ps, Reps K H2 μ2 vs ps → Rel K H2 μ2 S2 → FitsF K H2 μ2 (g ps S2) Q → r vs H2 Q) :
    tEa K fa σ H fun xs H1 => r xs H1 Q := by
  obtain ⟨μ, ρ, S, hE, hR, hF⟩ := h
  exact ⟨μ, ρ, S, hE, hR, (FitsF.bind hF).imp fun ps S1 H1 μ1 s1 t1 h1 vs rv => hr H1 μ1 S1 vs ps rv t1 h1⟩

def gTupP (ps : List PV) (S : Sto) : R PV := if allPure ps ∧ ps.length ≤ sizeLine then .ok (.tup ps) S else .no
def gLstP (ps : List PV) (S : Sto) : R PV := if allPure ps ∧ ps.length ≤ sizeLine then .ok (.lst ps) S else .no
section
variable {X : Cx} {pos : Pos} {es : List Expr} {fa : Ea}
theorem ee_tup {x1} (h : EA X es fa) : EE X (.Tuple es x1 pos) (eArgs gTupP fa) := pe_mono (pe_tup h) fun σ H Q hw => by
  refine args (r := fun xs H1 Q => xs.length ≤ sizeLine ∧ ∀ p, H1 p = none → Q (.ref p) (upd H1 p (.tup xs))) hw fun H2 μ2 S2 vs ps rv t hF => ?_
  unfold gTupP at hF
  split at hF
  · rename_i hc
    have rp := rv.pure hc.1
    refine ⟨by rw [rp.length]; exact hc.2, fun p hp => ?_⟩
    have s := Step.laid H2 μ2 hp (.tup vs)
    exact hF _ μ2 s (t.laid hp _) _ (.inl (.tup (.inl ⟨.inl upd_same, t.out hp⟩) (rp.step s)))
  · exact hF.elim
theorem ef_lst (h : EA X es fa) : EF X (.List es pos) (eArgs gLstP fa) := pe_mono (pe_lst h) fun σ H Q hw => by
  refine argsF (r := fun xs H1 Q => xs.length ≤ sizeLine ∧ ∀ p, H1 p = none → Q (.ref p) (upd H1 p (.lst xs))) hw fun H2 μ2 S2 vs ps rv t hF => ?_
  unfold gLstP at hF
  split at hF
  · rename_i hc
    have rp := rv.pure hc.1
    exact ⟨by rw [rp.length]; exact hc.2, FitsF.lay hF (Step.refl _ _) t rp⟩
  · exact hF.elim
end

/-! ### values of operators -/
def getL (p : PV) (S : Sto) : Option (List PV) := match p with
  | .lst xs => some xs
  | .frl xs => some xs
  | .ref n => match S[n]? with
    | some (.lst xs) => some xs
    | _ => none
  | _ => none
theorem getL_of {K H μ S v p xs} (t : Rel K H μ S) (r : Rep K H μ v p) (e : getL p S = some xs) : ∃ a vs, v = .ref a ∧ SqL K H a vs ∧ RepPs K H μ vs xs := by
  unfold getL at e
  split at e
  · cases e
    replace r := r.two
    rcases r with r | ⟨_, _, e, _⟩
    · cases r with
      | lst h1 n h2 => exact ⟨_, _, rfl, .inl (.inl h1), h2⟩
    · cases e
  · cases e
    replace r := r.two
    rcases r with r | ⟨_, _, e, _⟩
    · cases r with
      | frl h1 h2 => exact ⟨_, _, rfl, h1.sq, h2⟩
    · cases e
  · rename_i n
    split at e
    · rename_i ys e2
      cases e
      replace r := r.two
      rcases r with r | ⟨_, a, e3, e4, e5⟩
      · cases r
      · cases e3
        subst e5
        obtain ⟨vs, e6, r6⟩ := t.obj _ _ _ e4 e2
        exact ⟨a, vs, rfl, .inl (.inl e6), r6⟩
    · cases e
  · cases e
theorem Rep.tup_inv {K H μ v ps} (r : Rep K H μ v (.tup ps)) : ∃ a vs, v = .ref a ∧ TupAt K H μ a vs ∧ RepPs K H μ vs ps := by
  replace r := r.two
  rcases r with r | ⟨_, _, e, _⟩
  · cases r with
    | tup h1 h2 => exact ⟨_, _, rfl, h1, h2⟩
  · cases e
theorem Rep.lst_inv {K H μ v ps} (r : Rep K H μ v (.lst ps)) : ∃ a vs, v = .ref a ∧ H a = some (.lst vs) ∧ RepPs K H μ vs ps := by
  replace r := r.two
  rcases r with r | ⟨_, _, e, _⟩
  · cases r with
    | lst h1 n h2 => exact ⟨_, _, rfl, h1, h2⟩
  · cases e
/-- a tuple that is laid -/
theorem lay_tup {K H μ S ps vs} {k : PV → List PV → Hp → Mem → Prop} {Q : VK} (hk : ∀ p S H' μ', k p S H' μ' → ∀ v, Rep K H' μ' v p → Q v H') (hF : FitsG K H μ (.ok (.tup ps) S) k) (t : Rel K H μ S) (r : RepPs K H μ vs ps) : ∀ p, H p = none → Q (.ref p) (upd H p (.tup vs)) := fun p hp => by
  have s := Step.laid H μ hp (.tup vs)
  exact hk _ _ _ _ (hF _ μ s (t.laid hp _)) _ (.inl (.tup (.inl ⟨.inl upd_same, t.out hp⟩) (r.step s)))
/-- the answer is there already -/
theorem FitsG.val {K H μ S p v} {Q : VK} (hF : FitsG K H μ (.ok p S) (VKont K Q)) (t : Rel K H μ S) (r : Rep K H μ v p) : Q v H := FitsG.here hF t v r

def gAdd (p q : PV) (S : Sto) : R PV := match p, q with
  | .int i, .int j => .ok (.int (i + j)) S
  | .str a, .str b => if a.length + b.length ≤ sizeLine then .ok (.str (a ++ b)) S else .no
  | .tup xs, .tup ys => if xs.length + ys.length ≤ sizeLine then .ok (.tup (xs ++ ys)) S else .no
  | _, _ => .no
def gCat (p q : PV) (S : Sto) : R PV := match p, q with
  | .frl _, _ => .no
  | _, .frl _ => .no
  | p, q => match getL p S, getL q S with
    | some xs, some ys => if xs.length + ys.length ≤ sizeLine then .ok (.lst (xs ++ ys)) S else .no
    | _, _ => .no
def gSub (p q : PV) (S : Sto) : R PV := match p, q with
  | .int i, .int j => .ok (.int (i - j)) S
  | _, _ => .no
def gMul (p q : PV) (S : Sto) : R PV := match p, q with
  | .int i, .int j => if (-(2 ^ 64) < i ∧ i < 2 ^ 64) ∨ (-(2 ^ 64) < j ∧ j < 2 ^ 64) then .ok (.int (i * j)) S else .no
  | _, _ => .no
def gFdiv (p q : PV) (S : Sto) : R PV := match p, q with
  | .int i, .int j => if 0 < j ∧ j < 1073741824 then .ok (.int (i / j)) S else .no
  | _, _ => .no
def gMod (p q : PV) (S : Sto) : R PV := match p, q with
  | .int i, .int j => if 0 < j then .ok (.int (i % j)) S else .no
  | _, _ => .no
def gPow (p q : PV) (S : Sto) : R PV := match p, q with
  | .int i, .int j => if 0 ≤ j ∧ j ≤ 1000000 ∧ i.natAbs < 2 ^ 64 then .ok (.int (i ^ j.toNat)) S else .no
  | _, _ => .no
def gNeg (p : PV) (S : Sto) : R PV := match p with
  | .int i => .ok (.int (-i)) S
  | _ => .no
section
variable {X : Cx}
theorem op_addA : OpR X (binaryOp .Add) (fun x y H Q => (rI0 (fun i j => V.int (i + j)) x y H Q ∨ (∃ i j, x = .str i ∧ y = .str j ∧ i.length + j.length ≤ sizeLine ∧ Q (.str (i ++ j)) H)) ∨ rCatA X.K x y H Q) :=
  OpR.or (OpR.or op_add op_add_str) op_catA
theorem l_add {K : PySem.W.Frag} : L2R K (fun x y H Q => (rI0 (fun i j => V.int (i + j)) x y H Q ∨ (∃ i j, x = .str i ∧ y = .str j ∧ i.length + j.length ≤ sizeLine ∧ Q (.str (i ++ j)) H)) ∨ rCatA K x y H Q) gAdd := by
  intro Q H μ S v w p q rv rw' t hF
  unfold gAdd at hF
  split at hF
  · cases rep_int rv
    cases rep_int rw'
    exact .inl (.inl ⟨_, _, rfl, rfl, hF.val t (.inl (.int _))⟩)
  · split at hF
    · rename_i hc
      cases rep_str rv
      cases rep_str rw'
      exact .inl (.inr ⟨_, _, rfl, rfl, hc, hF.val t (.inl (.str _))⟩)
    · exact hF.elim
  · split at hF
    · rename_i xs ys hc
      obtain ⟨a, vs, rfl, h1, h2⟩ := rv.tup_inv
      obtain ⟨b, ws, rfl, g1, g2⟩ := rw'.tup_inv
      refine .inr ⟨a, b, vs, ws, rfl, rfl, h1.sq, g1.sq, by rw [h2.length, g2.length]; exact hc, fun e => ?_, fun e e2 => ?_, fun e e2 => ?_⟩
      · subst e
        have : xs = [] := List.eq_nil_of_length_eq_zero h2.length.symm
        subst this
        exact hF.val t rw'
      · subst e2
        have : ys = [] := List.eq_nil_of_length_eq_zero g2.length.symm
        subst this
        rw [List.append_nil] at hF
        exact hF.val t rv
      · exact lay_tup (fun p S H' μ' h => h) hF t (h2.append g2)
    · exact hF.elim
  · exact hF.elim
theorem l_sub {K : PySem.W.Frag} : L2R K (rI0 fun i j => .int (i - j)) gSub := by
  intro Q H μ S v w p q rv rw' t hF
  unfold gSub at hF
  split at hF
  · cases rep_int rv
    cases rep_int rw'
    exact ⟨_, _, rfl, rfl, hF.val t (.inl (.int _))⟩
  · exact hF.elim
theorem l_mul {K : PySem.W.Frag} : L2R K (rI CMul fun i j => .int (i * j)) gMul := by
  intro Q H μ S v w p q rv rw' t hF
  unfold gMul at hF
  split at hF
  · split at hF
    · rename_i hc
      cases rep_int rv
      cases rep_int rw'
      exact ⟨_, _, rfl, rfl, hc, hF.val t (.inl (.int _))⟩
    · exact hF.elim
  · exact hF.elim
theorem l_fdiv {K : PySem.W.Frag} : L2R K (rI CDivW fun i j => .int (i / j)) gFdiv := by
  intro Q H μ S v w p q rv rw' t hF
  unfold gFdiv at hF
  split at hF
  · split at hF
    · rename_i hc
      cases rep_int rv
      cases rep_int rw'
      exact ⟨_, _, rfl, rfl, wide_div (b := 30) hc.1 (by have := hc.2; omega) (by decide) (by decide), hF.val t (.inl (.int _))⟩
    · exact hF.elim
  · exact hF.elim
theorem l_mod {K : PySem.W.Frag} : L2R K (rI (fun _ j => 0 < j) fun i j => .int (i % j)) gMod := by
  intro Q H μ S v w p q rv rw' t hF
  unfold gMod at hF
  split at hF
  · split at hF
    · rename_i hc
      cases rep_int rv
      cases rep_int rw'
      exact ⟨_, _, rfl, rfl, hc, hF.val t (.inl (.int _))⟩
    · exact hF.elim
  · exact hF.elim
theorem l_pow {K : PySem.W.Frag} : L2R K (rI CPow fun i j => .int (i ^ j.toNat)) gPow := by
  intro Q H μ S v w p q rv rw' t hF
  unfold gPow at hF
  split at hF
  · split at hF
    · rename_i hc
      cases rep_int rv
      cases rep_int rw'
      exact ⟨_, _, rfl, rfl, hc, hF.val t (.inl (.int _))⟩
    · exact hF.elim
  · exact hF.elim
theorem l_neg {K : PySem.W.Frag} : L1R K (rU fun i => .int (-i)) gNeg := by
  intro Q H μ S v p rv t hF
  unfold gNeg at hF
  split at hF
  · cases rep_int rv
    exact ⟨_, rfl, hF.val t (.inl (.int _))⟩
  · exact hF.elim
theorem getL_trk {K H μ S v p xs} (t : Rel K H μ S) (r : Rep K H μ v p) (e : getL p S = some xs) (hn : ∀ ys, p ≠ .frl ys) : ∃ a vs, v = .ref a ∧ H a = some (.lst vs) ∧ RepPs K H μ vs xs := by
  unfold getL at e
  split at e
  · cases e
    exact r.lst_inv
  · exact absurd rfl (hn _)
  · split at e
    · rename_i ys e2
      cases e
      replace r := r.two
      rcases r with r | ⟨_, a, e3, e4, e5⟩
      · cases r
      · cases e3
        subst e5
        obtain ⟨vs, e6, r6⟩ := t.obj _ _ _ e4 e2
        exact ⟨a, vs, rfl, e6, r6⟩
    · cases e
  · cases e
/-- xs + ys of lists: a new one -/
theorem ef_cat {a b : Expr} {fa fb : Ev} {pos : Pos} (ha : EE X a fa) (hb : EE X b fb) : EF X (.BinOp a .Add b pos) (eOp gCat fa fb) :=
  pe_mono (pe_op op_cat ha hb) fun σ H Q ⟨μ, ρ, S, hE, hR, hF⟩ => ⟨μ, ρ, S, hE, hR, (FitsF.bind hF).imp fun p S1 H1 μ1 s1 t1 h1 v rv =>
    ⟨μ1, ρ, S1, hE.step s1, t1, (FitsF.bind h1).imp fun q S2 H2 μ2 s2 t2 h2 w rw' => by
      unfold gCat at h2
      split at h2
      · exact h2.elim
      · exact h2.elim
      · rename_i n1 n2
        split at h2
        · rename_i xs ys e1 e2
          split at h2
          · rename_i hc
            obtain ⟨x, vs, rfl, g1, g2⟩ := getL_trk t2 (rv.step s2) e1 n1
            obtain ⟨y, ws, rfl, k1, k2⟩ := getL_trk t2 rw' e2 n2
            exact ⟨x, y, vs, ws, rfl, rfl, g1, k1, by rw [g2.length, k2.length]; exact hc, FitsF.lay h2 (Step.refl _ _) t2 (g2.append k2)⟩
          · exact h2.elim
        · exact h2.elim⟩⟩

/-! ### comparisons -/
def gLt (p q : PV) (S : Sto) : R PV := match p, q with
  | .int i, .int j => .ok (.bl (decide (i < j))) S
  | _, _ => .no
def gLe (p q : PV) (S : Sto) : R PV := match p, q with
  | .int i, .int j => .ok (.bl (decide (i ≤ j))) S
  | _, _ => .no
def gGt (p q : PV) (S : Sto) : R PV := match p, q with
  | .int i, .int j => .ok (.bl (decide (j < i))) S
  | _, _ => .no
def gGe (p q : PV) (S : Sto) : R PV := match p, q with
  | .int i, .int j => .ok (.bl (decide (j ≤ i))) S
  | _, _ => .no
def gIsN (p q : PV) (S : Sto) : R PV := match q, p with
  | .non, .non => .ok (.bl true) S
  | .non, _ => .ok (.bl false) S
  | _, _ => .no
def gNotN (p q : PV) (S : Sto) : R PV := match q, p with
  | .non, .non => .ok (.bl false) S
  | .non, _ => .ok (.bl true) S
  | _, _ => .no
end
end Py
set_option Elab.async false
set_option maxRecDepth 100000
set_option maxHeartbeats 4000000
set_option linter.all false
namespace Py
open PySem PySem.Spec PyProof.Rows L2
variable [CT]

/-! ### data of values -/
mutual
def toD : PV → PyData
  | .non => .none
  | .bl b => .bool b
  | .int i => .int i
  | .str x => .str x
  | .tup xs => .tuple (toDs xs)
  | .lst xs => .list (toDs xs)
  | .frl xs => .list (toDs xs)
  | .dic _ _ => .dict []
  | .ref _ => .dict []
  | .adr _ => .dict []
  | .clo _ _ => .dict []
def toDs : List PV → List PyData
  | [] => []
  | x :: xs => toD x :: toDs xs
end
section
variable {K : PySem.W.Frag} {H : Hp} {μ : Mem}
mutual
theorem RepP.dp : ∀ {p : PV} {v : V}, RepP K H μ v p → (toD p).canLay0 = true → Dp K H v (toD p)
  | .non, _, h, _ => by cases h; exact .non
  | .bl b, _, h, _ => by cases h; exact .bl b
  | .int b, _, h, _ => by cases h; exact .int b
  | .str b, _, h, _ => by cases h; exact .str b
  | .tup ps, _, h, c => by
    cases h with
    | tup h1 h2 =>
      rw [toD] at c ⊢
      simp only [PyData.canLay0] at c
      exact .tup h1.sq (RepPs.dps h2 c)
  | .lst ps, _, h, c => by
    cases h with
    | lst h1 n h2 =>
      rw [toD] at c ⊢
      simp only [PyData.canLay0] at c
      exact .lst (.inl (.inl h1)) (RepPs.dps h2 c)
  | .frl ps, _, h, c => by
    cases h with
    | frl h1 h2 =>
      rw [toD] at c ⊢
      simp only [PyData.canLay0] at c
      exact .lst h1.sq (RepPs.dps h2 c)
  | .dic ks ps, _, h, c => by
    rw [toD] at c
    simp [PyData.canLay0] at c
  | .ref n, _, h, c => by cases h
theorem RepPs.dps : ∀ {ps : List PV} {vs : List V}, RepPs K H μ vs ps → PyData.canLayAll0 (toDs ps) = true → DpAll K H vs (toDs ps)
  | [], _, h, _ => by cases h; rw [toDs]; exact .nil
  | p :: ps, _, h, c => by
    cases h with
    | cons h1 h2 =>
      rw [toDs] at c ⊢
      simp only [PyData.canLayAll0, Bool.and_eq_true] at c
      exact .cons (RepP.dp h1 c.1) (RepPs.dps h2 c.2)
end
end
/-- == of two values -/
def gEq (p q : PV) (S : Sto) : R PV := match p, q with
  | .int i, .int j => .ok (.bl (decide (i = j))) S
  | .str i, .str j => .ok (.bl (decide (i = j))) S
  | .bl i, .bl j => .ok (.bl (decide (i = j))) S
  | .ref _, _ => .no
  | _, .ref _ => .no
  | p, q => if SeqAt.shaped (toD p) = true ∧ SeqAt.shaped (toD q) = true then .ok (.bl (PyData.eqv (toD p) (toD q))) S else .no
def gNe (p q : PV) (S : Sto) : R PV := match p, q with
  | .int i, .int j => .ok (.bl (!decide (i = j))) S
  | .str i, .str j => .ok (.bl (!decide (i = j))) S
  | .bl i, .bl j => .ok (.bl (!decide (i = j))) S
  | .ref _, _ => .no
  | _, .ref _ => .no
  | p, q => if SeqAt.shaped (toD p) = true ∧ SeqAt.shaped (toD q) = true then .ok (.bl (!PyData.eqv (toD p) (toD q))) S else .no
theorem noref {p : PV} (h : ∀ n, p = .ref n → False) (h2 : p.isClo = false) : p.isRef = false := by
  cases p <;> first | rfl | exact (h _ rfl).elim | cases h2
theorem nclo_of {p : PV} (c : SeqAt.shaped (toD p) = true) : p.isClo = false := by
  cases p <;> first | rfl | (have c := SeqAt.canLay_of_shaped c; simp [toD, PyData.canLay0] at c)
theorem Rep.dp {K H μ v p} (r : Rep K H μ v p) (n : ∀ n, p = .ref n → False) (c : SeqAt.shaped (toD p) = true) : Dp K H v (toD p) :=
  (r.pure (noref n (nclo_of c))).dp (SeqAt.canLay_of_shaped c)
theorem l_eq {K : PySem.W.Frag} : L2R K (fun x y H Q => rEq x y H Q ∨ rEqD K x y H Q) gEq := by
  intro Q H μ S v w p q rv rw' t hF
  unfold gEq at hF
  split at hF
  · cases rep_int rv; cases rep_int rw'
    refine .inl ⟨rfl, ?_⟩
    have := hF.val t (.inl (.bl _))
    rw [show decide (V.int _ = V.int _) = _ from by rw [dec_int, Bool.beq_eq_decide_eq]]
    exact this
  · cases rep_str rv; cases rep_str rw'
    refine .inl ⟨rfl, ?_⟩
    have := hF.val t (.inl (.bl _))
    rw [show decide (V.str _ = V.str _) = _ from by rw [dec_str, Bool.beq_eq_decide_eq]]
    exact this
  · cases rep_bl rv; cases rep_bl rw'
    refine .inl ⟨rfl, ?_⟩
    have := hF.val t (.inl (.bl _))
    rw [show decide (V.bl _ = V.bl _) = _ from by rw [dec_bl, Bool.beq_eq_decide_eq]]
    exact this
  · exact hF.elim
  · exact hF.elim
  · rename_i n1 n2
    split at hF
    · rename_i hc
      exact .inr ⟨_, _, rv.dp (by assumption) hc.1, rw'.dp (by assumption) hc.2, hc.1, hc.2, hF.val t (.inl (.bl _))⟩
    · exact hF.elim
theorem l_ne {K : PySem.W.Frag} : L2R K (fun x y H Q => rNe x y H Q ∨ rNeD K x y H Q) gNe := by
  intro Q H μ S v w p q rv rw' t hF
  unfold gNe at hF
  split at hF
  · cases rep_int rv; cases rep_int rw'
    refine .inl ⟨rfl, ?_⟩
    have := hF.val t (.inl (.bl _))
    rw [show decide (V.int _ = V.int _) = _ from by rw [dec_int, Bool.beq_eq_decide_eq]]
    exact this
  · cases rep_str rv; cases rep_str rw'
    refine .inl ⟨rfl, ?_⟩
    have := hF.val t (.inl (.bl _))
    rw [show decide (V.str _ = V.str _) = _ from by rw [dec_str, Bool.beq_eq_decide_eq]]
    exact this
  · cases rep_bl rv; cases rep_bl rw'
    refine .inl ⟨rfl, ?_⟩
    have := hF.val t (.inl (.bl _))
    rw [show decide (V.bl _ = V.bl _) = _ from by rw [dec_bl, Bool.beq_eq_decide_eq]]
    exact this
  · exact hF.elim
  · exact hF.elim
  · rename_i n1 n2
    split at hF
    · rename_i hc
      exact .inr ⟨_, _, rv.dp (by assumption) hc.1, rw'.dp (by assumption) hc.2, hc.1, hc.2, hF.val t (.inl (.bl _))⟩
    · exact hF.elim
theorem op_eqA {X : Cx} (hu : X.A.units + 64 < cLine) : OpR X (compareOp .Eq) (fun x y H Q => rEq x y H Q ∨ rEqD X.K x y H Q) := OpR.or op_eq (op_eqD hu)
theorem op_neA {X : Cx} (hu : X.A.units + 64 < cLine) : OpR X (compareOp .NotEq) (fun x y H Q => rNe x y H Q ∨ rNeD X.K x y H Q) := OpR.or op_ne (op_neD hu)

section
variable {K : PySem.W.Frag}
theorem l_lt : L2R K (rI0 fun i j => .bl (decide (i < j))) gLt := by
  intro Q H μ S v w p q rv rw' t hF
  unfold gLt at hF
  split at hF
  · cases rep_int rv; cases rep_int rw'
    exact ⟨_, _, rfl, rfl, hF.val t (.inl (.bl _))⟩
  · exact hF.elim
theorem l_le : L2R K (rI0 fun i j => .bl (decide (i ≤ j))) gLe := by
  intro Q H μ S v w p q rv rw' t hF
  unfold gLe at hF
  split at hF
  · cases rep_int rv; cases rep_int rw'
    exact ⟨_, _, rfl, rfl, hF.val t (.inl (.bl _))⟩
  · exact hF.elim
theorem l_gt : L2R K (rI0 fun i j => .bl (decide (j < i))) gGt := by
  intro Q H μ S v w p q rv rw' t hF
  unfold gGt at hF
  split at hF
  · cases rep_int rv; cases rep_int rw'
    exact ⟨_, _, rfl, rfl, hF.val t (.inl (.bl _))⟩
  · exact hF.elim
theorem l_ge : L2R K (rI0 fun i j => .bl (decide (j ≤ i))) gGe := by
  intro Q H μ S v w p q rv rw' t hF
  unfold gGe at hF
  split at hF
  · cases rep_int rv; cases rep_int rw'
    exact ⟨_, _, rfl, rfl, hF.val t (.inl (.bl _))⟩
  · exact hF.elim
theorem rep_notnon {H μ v p} (r : Rep K H μ v p) (h : p = .non → False) : decide (v = V.non) = false := by
  refine decide_eq_false fun e => ?_
  subst e
  rcases r with r | ⟨_, _, _, _, e⟩ | ⟨_, _, _, _, _, _, e, _⟩
  · cases r; exact h rfl
  · cases e
  · cases e
theorem l_isN : L2R K (fun x y H Q => y = .non ∧ Q (.bl (decide (x = .non))) H) gIsN := by
  intro Q H μ S v w p q rv rw' t hF
  unfold gIsN at hF
  split at hF
  · cases rep_non rv; cases rep_non rw'
    exact ⟨rfl, hF.val t (.inl (.bl _))⟩
  · rename_i h
    cases rep_non rw'
    refine ⟨rfl, ?_⟩
    rw [rep_notnon rv h]
    exact hF.val t (.inl (.bl _))
  · exact hF.elim
theorem l_notN : L2R K (fun x y H Q => y = .non ∧ Q (.bl (!decide (x = .non))) H) gNotN := by
  intro Q H μ S v w p q rv rw' t hF
  unfold gNotN at hF
  split at hF
  · cases rep_non rv; cases rep_non rw'
    exact ⟨rfl, hF.val t (.inl (.bl _))⟩
  · rename_i h
    cases rep_non rw'
    refine ⟨rfl, ?_⟩
    rw [rep_notnon rv h]
    exact hF.val t (.inl (.bl _))
  · exact hF.elim
end

/-! ### in -/
def flatP : PV → Bool
  | .non => true
  | .bl _ => true
  | .int _ => true
  | .str _ => true
  | _ => false
def eqF : PV → PV → Bool
  | .non, .non => true
  | .bl a, .bl b => a == b
  | .bl a, .int b => (if a then 1 else 0) == b
  | .int a, .bl b => a == (if b then 1 else 0)
  | .int a, .int b => a == b
  | .str a, .str b => a == b
  | _, _ => false
def getQ (p : PV) (S : Sto) : Option (List PV) := match p with
  | .tup xs => some xs
  | p => getL p S
def gIn (neg : Bool) (p q : PV) (S : Sto) : R PV := match p, q with
  | .str a, .str b => if a.cps.size = 1 then .ok (.bl (if neg then !decide (a.cps.getD 0 0 ∈ b.cps.toList) else decide (a.cps.getD 0 0 ∈ b.cps.toList))) S else .no
  | p, q => match getQ q S with
    | some xs => if flatP p = true ∧ xs.all flatP = true then .ok (.bl (if neg then !xs.any (fun y => eqF y p) else xs.any (fun y => eqF y p))) S else .no
    | none => .no
section
variable {K : PySem.W.Frag} {H : Hp} {μ : Mem}
theorem Rep.flat {v p} (r : Rep K H μ v p) (f : flatP p = true) : flatV v = true ∧ (∀ w q, Rep K H μ w q → flatP q = true → eqV w v = eqF q p) := by
  cases p <;> first | (cases f; done) | skip
  · cases rep_non r
    refine ⟨rfl, fun w q rq fq => ?_⟩
    cases q <;> first | (cases fq; done) | (cases rep_non rq; rfl) | (cases rep_bl rq; rfl) | (cases rep_int rq; rfl) | (cases rep_str rq; rfl)
  · cases rep_bl r
    refine ⟨rfl, fun w q rq fq => ?_⟩
    cases q <;> first | (cases fq; done) | (cases rep_non rq; rfl) | (cases rep_bl rq; rfl) | (cases rep_int rq; rfl) | (cases rep_str rq; rfl)
  · cases rep_int r
    refine ⟨rfl, fun w q rq fq => ?_⟩
    cases q <;> first | (cases fq; done) | (cases rep_non rq; rfl) | (cases rep_bl rq; rfl) | (cases rep_int rq; rfl) | (cases rep_str rq; rfl)
  · cases rep_str r
    refine ⟨rfl, fun w q rq fq => ?_⟩
    cases q <;> first | (cases fq; done) | (cases rep_non rq; rfl) | (cases rep_bl rq; rfl) | (cases rep_int rq; rfl) | (cases rep_str rq; rfl)
theorem RepPs.flat {v p} (r : Rep K H μ v p) (f : flatP p = true) : ∀ {ps : List PV} {vs : List V}, RepPs K H μ vs ps → ps.all flatP = true → vs.all flatV = true ∧ inV v vs = ps.any (fun y => eqF y p)
  | [], _, h, _ => by cases h; exact ⟨rfl, rfl⟩
  | q :: ps, _, h, c => by
    cases h with
    | cons h1 h2 =>
      simp only [List.all_cons, Bool.and_eq_true] at c
      obtain ⟨a, b⟩ := RepPs.flat r f h2 c.2
      refine ⟨by simp only [List.all_cons, (Rep.flat (.inl h1) c.1).1, a, Bool.and_self], ?_⟩
      unfold inV at b ⊢
      rw [List.any_cons, List.any_cons, b, (r.flat f).2 _ _ (.inl h1) c.1]
end
theorem getQ_of {K H μ S v p xs} (t : Rel K H μ S) (r : Rep K H μ v p) (e : getQ p S = some xs) : ∃ a vs, v = .ref a ∧ (SqL K H a vs ∨ SqT K H a vs) ∧ RepPs K H μ vs xs := by
  unfold getQ at e
  split at e
  · cases e
    obtain ⟨a, vs, e, h1, h2⟩ := r.tup_inv
    exact ⟨a, vs, e, .inr h1.sq, h2⟩
  · obtain ⟨a, vs, e, h1, h2⟩ := getL_of t r e
    exact ⟨a, vs, e, .inl h1, h2⟩
theorem single {a : Str} (h : a.cps.size = 1) : a = ⟨#[a.cps.getD 0 0]⟩ := by
  cases a with
  | mk c =>
    congr 1
    apply Array.ext
    · simpa using h
    · intro i h1 h2
      have : i = 0 := by simp at h2; omega
      subst this
      simp [Array.getD, h1]
theorem op_inA {X : Cx} : OpR X (compareOp .In) (fun x y H Q => (∃ (c : Nat) (z : Str), x = .str ⟨#[c]⟩ ∧ y = .str z ∧ Q (.bl (decide (c ∈ z.cps.toList))) H) ∨ rIn X.K false x y H Q) := OpR.or op_in_sign op_in_seq
theorem op_ninA {X : Cx} : OpR X (compareOp .NotIn) (fun x y H Q => (∃ (c : Nat) (z : Str), x = .str ⟨#[c]⟩ ∧ y = .str z ∧ Q (.bl (!decide (c ∈ z.cps.toList))) H) ∨ rIn X.K true x y H Q) := OpR.or op_notIn_sign op_notIn_seq
theorem l_in {K : PySem.W.Frag} : L2R K (fun x y H Q => (∃ (c : Nat) (z : Str), x = .str ⟨#[c]⟩ ∧ y = .str z ∧ Q (.bl (decide (c ∈ z.cps.toList))) H) ∨ rIn K false x y H Q) (gIn false) := by
  intro Q H μ S v w p q rv rw' t hF
  unfold gIn at hF
  split at hF
  · split at hF
    · rename_i a b hc
      cases rep_str rv; cases rep_str rw'
      exact .inl ⟨a.cps.getD 0 0, b, by rw [← single hc], rfl, hF.val t (.inl (.bl _))⟩
    · exact hF.elim
  · split at hF
    · rename_i xs e
      split at hF
      · rename_i hc
        obtain ⟨a, vs, rfl, h1, h2⟩ := getQ_of t rw' e
        obtain ⟨f1, f2⟩ := RepPs.flat rv hc.1 h2 hc.2
        refine .inr ⟨a, vs, rfl, h1, (rv.flat hc.1).1, f1, ?_⟩
        rw [f2]
        exact hF.val t (.inl (.bl _))
      · exact hF.elim
    · exact hF.elim
theorem l_nin {K : PySem.W.Frag} : L2R K (fun x y H Q => (∃ (c : Nat) (z : Str), x = .str ⟨#[c]⟩ ∧ y = .str z ∧ Q (.bl (!decide (c ∈ z.cps.toList))) H) ∨ rIn K true x y H Q) (gIn true) := by
  intro Q H μ S v w p q rv rw' t hF
  unfold gIn at hF
  split at hF
  · split at hF
    · rename_i a b hc
      cases rep_str rv; cases rep_str rw'
      exact .inl ⟨a.cps.getD 0 0, b, by rw [← single hc], rfl, hF.val t (.inl (.bl _))⟩
    · exact hF.elim
  · split at hF
    · rename_i xs e
      split at hF
      · rename_i hc
        obtain ⟨a, vs, rfl, h1, h2⟩ := getQ_of t rw' e
        obtain ⟨f1, f2⟩ := RepPs.flat rv hc.1 h2 hc.2
        refine .inr ⟨a, vs, rfl, h1, (rv.flat hc.1).1, f1, ?_⟩
        rw [f2]
        exact hF.val t (.inl (.bl _))
      · exact hF.elim
    · exact hF.elim

/-! ### subscripts -/
def gIx (p q : PV) (S : Sto) : R PV := match p, q with
  | .str z, .int i => if z.length ≤ sizeLine then match atI z.cps.toList i with
    | some c => .ok (.str ⟨#[c]⟩) S
    | none => .no
    else .no
  | p, .int i => match getQ p S with
    | some xs => match atI xs i with
      | some x => .ok x S
      | none => .no
    | none => .no
  | _, _ => .no
theorem atI_rep {K H μ} {ps : List PV} {vs : List V} {i : Int} {p : PV} (r : RepPs K H μ vs ps) (e : atI ps i = some p) : ∃ v, atI vs i = some v ∧ RepP K H μ v p := by
  unfold atI at e ⊢
  rw [r.length]
  cases h : ixN ps.length i with
  | none => rw [h] at e; cases e
  | some j =>
    rw [h] at e
    exact r.get (i := j) e
theorem l_ix {K : PySem.W.Frag} : L2R K (rIx K) gIx := by
  intro Q H μ S v w p q rv rw' t hF
  unfold gIx at hF
  split at hF
  · split at hF
    · rename_i hc
      split at hF
      · rename_i c e
        cases rep_str rv; cases rep_int rw'
        exact .inr (.inr ⟨_, _, c, rfl, rfl, hc, e, hF.val t (.inl (.str _))⟩)
      · exact hF.elim
    · exact hF.elim
  · split at hF
    · rename_i xs e
      split at hF
      · rename_i x e2
        cases rep_int rw'
        obtain ⟨a, vs, rfl, h1, h2⟩ := getQ_of t rv e
        obtain ⟨u, e3, r3⟩ := atI_rep h2 e2
        have q := hF.val t (.inl r3)
        rcases h1 with h1 | h1
        · exact .inl ⟨a, vs, _, u, rfl, rfl, h1, e3, q⟩
        · exact .inr (.inl ⟨a, vs, _, u, rfl, rfl, h1, e3, q⟩)
      · exact hF.elim
    · exact hF.elim
  · exact hF.elim
theorem ee_ix {X : Cx} {a b : Expr} {fa fb : Ev} {pos : Pos} (ha : EE X a fa) (hb : EE X b fb) (hs : PlainIx b) : EE X (.Subscript a b pos) (eOp gIx fa fb) :=
  pe_mono (pe_ix ix_seq ha hb hs) fun σ H Q h => two h fun H2 μ2 S2 v w p q rv rw' t h2 => l_ix Q H2 μ2 S2 v w p q rv rw' t h2

/-! ### slices -/
abbrev Eo := Env → Sto → R (Option Int)
def oNone : Eo := fun _ S => .ok none S
def oSome (a : Ev) : Eo := fun ρ S => (a ρ S).bind fun p S1 => match p with
  | .int i => .ok (some i) S1
  | _ => .no
def tEo (K : PySem.W.Frag) (f : Eo) : L2.St → Hp → (Option Int → Hp → Prop) → Prop := fun σ H Q => ∃ μ ρ S, ERel K H μ σ ρ ∧ Rel K H μ S ∧ FitsG K H μ (f ρ S) (fun o _ H' _ => Q o H')
def EO (X : Cx) (e : Option Expr) (f : Eo) : Prop := PO X e (tEo X.K f)
end Py
set_option Elab.async false
set_option maxRecDepth 100000
set_option maxHeartbeats 4000000
set_option linter.all false
namespace Py
open PySem PySem.Spec PyProof.Rows L2
variable [CT]

theorem po_mono {X : Cx} {e : Option Expr} {t t' : TO} (h : PO X e t) (f : ∀ σ H Q, t' σ H Q → t σ H Q) : PO X e t' := ⟨fun pins s σ H Q I q => h.run pins s σ H Q I (f σ H Q q)⟩
theorem eo_none {X : Cx} : EO X none oNone := po_mono po_none fun σ H Q ⟨μ, ρ, S, hE, hR, hF⟩ => FitsG.here hF hR
theorem eo_some {X : Cx} {e : Expr} {fa : Ev} (h : EE X e fa) : EO X (some e) (oSome fa) := po_mono (po_some h) fun σ H Q ⟨μ, ρ, S, hE, hR, hF⟩ =>
  ⟨μ, ρ, S, hE, hR, (FitsG.bind hF).imp fun p S1 H1 μ1 s1 t1 h1 v rv => by
    split at h1
    · rename_i i
      cases rep_int rv
      exact ⟨i, rfl, FitsG.here h1 t1⟩
    · exact h1.elim⟩
/-- the items of xs[lo:hi] -/
def cutP (xs : List PV) (lo hi : Option Int) : List PV := (xs.drop (HT.sIx xs.length 0 lo)).take (HT.sIx xs.length xs.length hi - HT.sIx xs.length 0 lo)
def gSl (p : PV) (lo hi : Option Int) (S : Sto) : R PV := match p with
  | .tup xs => .ok (.tup (cutP xs lo hi)) S
  | .str z => if z.length ≤ sizeLine then .ok (.str (cutS z lo hi)) S else .no
  | _ => .no
def gSlF (p : PV) (lo hi : Option Int) (S : Sto) : R PV := match getL p S with
  | some xs => .ok (.lst (cutP xs lo hi)) S
  | none => .no
def eSl (a : Ev) (l u : Eo) : Ev := fun ρ S => (a ρ S).bind fun p S1 => (l ρ S1).bind fun lo S2 => (u ρ S2).bind fun hi S3 => gSl p lo hi S3
def fSl (a : Ev) (l u : Eo) : Ev := fun ρ S => (a ρ S).bind fun p S1 => (l ρ S1).bind fun lo S2 => (u ρ S2).bind fun hi S3 => gSlF p lo hi S3
theorem RepPs.cut {K H μ ps vs} (r : RepPs K H μ vs ps) (lo hi : Option Int) : RepPs K H μ (cutV vs lo hi) (cutP ps lo hi) := by
  unfold cutV cutP
  rw [r.length]
  exact (r.drop _).take _
theorem cutP_all {xs : List PV} {lo hi : Option Int} (h : HT.sIx xs.length 0 lo = 0 ∧ HT.sIx xs.length xs.length hi = xs.length) : cutP xs lo hi = xs := by
  unfold cutP
  rw [h.1, h.2]
  simp
section
variable {X : Cx} {e : Expr} {lo hi : Option Expr} {fa : Ev} {fl fu : Eo} {pos p2 : Pos}
theorem ee_sl (ha : EE X e fa) (hl : EO X lo fl) (hu : EO X hi fu) : EE X (.Subscript e (.Slice lo hi none p2) pos) (eSl fa fl fu) :=
  pe_mono (pe_slice (SlR.or sl_tupA sl_str) ha hl hu) fun σ H Q ⟨μ, ρ, S, hE, hR, hF⟩ => ⟨μ, ρ, S, hE, hR, (FitsG.bind hF).imp fun p S1 H1 μ1 s1 t1 h1 v rv =>
    ⟨μ1, ρ, S1, hE.step s1, t1, (FitsG.bind h1).imp fun l S2 H2 μ2 s2 t2 h2 =>
      ⟨μ2, ρ, S2, (hE.step s1).step s2, t2, (FitsG.bind h2).imp fun u S3 H3 μ3 s3 t3 h3 => by
        have rv := (rv.step s2).step s3
        unfold gSl at h3
        split at h3
        · rename_i xs
          obtain ⟨a, vs, rfl, g1, g2⟩ := rv.tup_inv
          refine .inl ⟨a, vs, rfl, g1.sq, fun hw => ?_, fun hw => ?_⟩
          · rw [g2.length] at hw
            rw [cutP_all hw] at h3
            exact h3.val t3 rv
          · exact lay_tup (fun p S H' μ' h => h) h3 t3 (g2.cut l u)
        · split at h3
          · rename_i hc
            cases rep_str rv
            exact .inr ⟨_, rfl, hc, h3.val t3 (.inl (.str _))⟩
          · exact h3.elim
        · exact h3.elim⟩⟩⟩
theorem ef_sl (ha : EE X e fa) (hl : EO X lo fl) (hu : EO X hi fu) : EF X (.Subscript e (.Slice lo hi none p2) pos) (fSl fa fl fu) :=
  pe_mono (pe_slice sl_list ha hl hu) fun σ H Q ⟨μ, ρ, S, hE, hR, hF⟩ => ⟨μ, ρ, S, hE, hR, (FitsF.bind hF).imp fun p S1 H1 μ1 s1 t1 h1 v rv =>
    ⟨μ1, ρ, S1, hE.step s1, t1, (FitsF.bind h1).imp fun l S2 H2 μ2 s2 t2 h2 =>
      ⟨μ2, ρ, S2, (hE.step s1).step s2, t2, (FitsF.bind h2).imp fun u S3 H3 μ3 s3 t3 h3 => by
        have rv := (rv.step s2).step s3
        unfold gSlF at h3
        split at h3
        · rename_i xs e
          obtain ⟨a, vs, rfl, g1, g2⟩ := getL_of t3 rv e
          exact ⟨a, vs, rfl, g1, FitsF.lay h3 (Step.refl _ _) t3 (g2.cut l u)⟩
        · exact h3.elim⟩⟩⟩
def gRev (p : PV) (S : Sto) : R PV := match getL p S with
  | some xs => .ok (.lst xs.reverse) S
  | none => .no
theorem ef_rev {p1 p3 : Pos} {k : Nat} (ha : EE X e fa) (h : PE X (.Subscript e (.Slice none none (some (.UnaryOp .USub (.Constant (.int 1) k p1) p2)) p3) pos) (tRevL X.K (tEv X.K fa))) : EF X (.Subscript e (.Slice none none (some (.UnaryOp .USub (.Constant (.int 1) k p1) p2)) p3) pos) (eUn gRev fa) :=
  pe_mono h fun σ H Q ⟨μ, ρ, S, hE, hR, hF⟩ => ⟨μ, ρ, S, hE, hR, (FitsF.bind hF).imp fun p S1 H1 μ1 s1 t1 h1 v rv => by
    unfold gRev at h1
    split at h1
    · rename_i xs e
      obtain ⟨a, vs, rfl, g1, g2⟩ := getL_of t1 rv e
      exact ⟨a, vs, rfl, g1, FitsF.lay h1 (Step.refl _ _) t1 g2.reverse⟩
    · exact h1.elim⟩
end

/-! ### truth, and, or, if as values -/
def truP (p : PV) (S : Sto) : R Bool := match p with
  | .bl b => .ok b S
  | .non => .ok false S
  | .int i => .ok (i != 0) S
  | .str y => if y.length ≤ sizeLine then .ok ((y.length : Int) != 0) S else .no
  | p => match getQ p S with
    | some xs => .ok (!xs.isEmpty) S
    | none => .no
theorem RepPs.emp {K H μ vs ps} (r : RepPs K H μ vs ps) : vs.isEmpty = ps.isEmpty := by
  cases r <;> rfl
def tT (a : Ev) : Et := fun ρ S => (a ρ S).bind truP
def eAndV (a b : Ev) : Ev := fun ρ S => (a ρ S).bind fun p S1 => (toB p S1).bind fun c S2 => if c = true then b ρ S2 else .ok (.bl false) S2
def eOrV (a b : Ev) : Ev := fun ρ S => (a ρ S).bind fun p S1 => (toB p S1).bind fun c S2 => if c = true then .ok (.bl true) S2 else b ρ S2
def eNotV (a : Ev) : Ev := fun ρ S => (a ρ S).bind fun p S1 => (toB p S1).bind fun c S2 => .ok (.bl (!c)) S2
def eNotT (a : Ev) : Ev := fun ρ S => (a ρ S).bind fun p S1 => (truP p S1).bind fun c S2 => .ok (.bl (!c)) S2
def eIf (t : Et) (a b : Ev) : Ev := fun ρ S => (t ρ S).bind fun c S1 => if c = true then a ρ S1 else b ρ S1
theorem truP_of {K H μ S p v} {k : Bool → List PV → Hp → Mem → Prop} (t : Rel K H μ S) (r : Rep K H μ v p) (h : FitsG K H μ (truP p S) k) : ∃ b, TruV K v H b ∧ k b S H μ ∧ truP p S = .ok b S := by
  unfold truP at h ⊢
  split at h
  · cases rep_bl r; exact ⟨_, rfl, FitsG.here h t, rfl⟩
  · cases rep_non r; exact ⟨_, rfl, FitsG.here h t, rfl⟩
  · cases rep_int r; exact ⟨_, rfl, FitsG.here h t, rfl⟩
  · split at h
    · rename_i hc
      cases rep_str r; exact ⟨_, ⟨hc, rfl⟩, FitsG.here h t, by simp only [hc, if_true]⟩
    · exact h.elim
  · split at h
    · rename_i xs e
      obtain ⟨a, vs, rfl, g1, g2⟩ := getQ_of t r e
      refine ⟨!xs.isEmpty, ?_, FitsG.here h t, by simp only [e]⟩
      rw [← g2.emp]
      rcases g1 with g1 | g1
      · exact .inl ⟨vs, g1, rfl⟩
      · exact .inr (.inl ⟨vs, g1, rfl⟩)
    · exact h.elim
section
variable {X : Cx} {a b c : Expr} {fa fb : Ev} {ft : Et} {pos : Pos}
theorem et_truth (ha : EE X a fa) (he : ∀ whole, isTrue a X.env whole = (do let v ← whole; standAt a.pos; holding [v] (truthy v)) := by intro _; rfl) : ET X a (tT fa) :=
  pt_mono (pt_truth ha he) fun σ H Q ⟨μ, ρ, S, hE, hR, hF⟩ => ⟨μ, ρ, S, hE, hR, (FitsG.bind hF).imp fun p S1 H1 μ1 s1 t1 h1 v rv => by
    obtain ⟨b, h2, h3, _⟩ := truP_of t1 rv h1
    exact ⟨b, h2, h3⟩⟩
theorem ee_one {op} (h : EE X a fa) : EE X (.BoolOp op [a] pos) fa := pe_mono (pe_one h) fun _ _ _ h => h
theorem ee_and {rest : List Expr} (ha : EE X a fa) (hb : EE X (.BoolOp .And (b :: rest) pos) fb) : EE X (.BoolOp .And (a :: b :: rest) pos) (eAndV fa fb) :=
  pe_mono (pe_and ha hb) fun σ H Q ⟨μ, ρ, S, hE, hR, hF⟩ => ⟨μ, ρ, S, hE, hR, (FitsG.bind hF).imp fun p S1 H1 μ1 s1 t1 h1 v rv => by
    obtain ⟨d, rfl, h2⟩ := toB_of (FitsG.bind h1)
    have h3 := FitsG.here h2 t1
    refine ⟨d, rep_bl rv, ?_⟩
    cases d with
    | true => exact iteT ⟨μ1, ρ, S1, hE.step s1, t1, h3⟩
    | false => exact iteF (FitsG.val h3 t1 (.inl (.bl _)))⟩
theorem ee_or {rest : List Expr} (ha : EE X a fa) (hb : EE X (.BoolOp .Or (b :: rest) pos) fb) : EE X (.BoolOp .Or (a :: b :: rest) pos) (eOrV fa fb) :=
  pe_mono (pe_or ha hb) fun σ H Q ⟨μ, ρ, S, hE, hR, hF⟩ => ⟨μ, ρ, S, hE, hR, (FitsG.bind hF).imp fun p S1 H1 μ1 s1 t1 h1 v rv => by
    obtain ⟨d, rfl, h2⟩ := toB_of (FitsG.bind h1)
    have h3 := FitsG.here h2 t1
    refine ⟨d, rep_bl rv, ?_⟩
    cases d with
    | true => exact iteT (FitsG.val h3 t1 (.inl (.bl _)))
    | false => exact iteF ⟨μ1, ρ, S1, hE.step s1, t1, h3⟩⟩
theorem ee_not (ha : EE X a fa) : EE X (.UnaryOp .Not a pos) (eNotV fa) :=
  pe_mono (pe_not ha) fun σ H Q ⟨μ, ρ, S, hE, hR, hF⟩ => ⟨μ, ρ, S, hE, hR, (FitsG.bind hF).imp fun p S1 H1 μ1 s1 t1 h1 v rv => by
    obtain ⟨d, rfl, h2⟩ := toB_of (FitsG.bind h1)
    exact ⟨d, rep_bl rv, FitsG.val (FitsG.here h2 t1) t1 (.inl (.bl _))⟩⟩
theorem ee_if (hc : ET X c ft) (ha : EE X a fa) (hb : EE X b fb) : EE X (.IfExp c a b pos) (eIf ft fa fb) :=
  pe_mono (pe_ifExp hc ha hb) fun σ H Q ⟨μ, ρ, S, hE, hR, hF⟩ => ⟨μ, ρ, S, hE, hR, (FitsG.bind hF).imp fun d S1 H1 μ1 s1 t1 h1 => by
    show if d = true then _ else _
    cases d with
    | true => exact iteT ⟨μ1, ρ, S1, hE.step s1, t1, h1⟩
    | false => exact iteF ⟨μ1, ρ, S1, hE.step s1, t1, h1⟩⟩
/-- a op b op c -/
def eChain (g g' : PV → PV → Sto → R PV) (a b c : Ev) : Ev := fun ρ S => (a ρ S).bind fun x S1 => (b ρ S1).bind fun y S2 => (g x y S2).bind fun z S3 => (toB z S3).bind fun k S4 => if k = true then (c ρ S4).bind fun u S5 => g' y u S5 else .ok (.bl false) S4
variable {fc : Ev} {op op' : CmpOp} {r r' : R2} {g g' : PV → PV → Sto → R PV}
theorem FitsG.bind' {α β : Type} {K : PySem.W.Frag} {H : Hp} {μ : Mem} {r : R α} {f : α → List PV → R β} {k : β → List PV → Hp → Mem → Prop} (h : FitsG K H μ (r.bind f) k) : FitsG K H μ r (fun a S' H' μ' => FitsG K H' μ' (f a S') k) := FitsG.bind h
theorem ee_chain (ho : OpR X (compareOp op) r) (hr : L2R X.K r g) (ho' : OpR X (compareOp op') r') (hr' : L2R X.K r' g') (ha : EE X a fa) (hb : EE X b fb) (hc : EE X c fc)
    (hm : lastMarks [op, op'] [b, c] = false := by with_unfolding_all rfl)
    (hg : ∀ p q S z S', g p q S = .ok z S' → S' = S) : EE X (.Compare a [op, op'] [b, c] pos) (eChain g g' fa fb fc) :=
  pe_mono (pe_chain ho ho' ha hb hc hm) fun σ H Q ⟨μ, ρ, S, hE, hR, hF⟩ => ⟨μ, ρ, S, hE, hR, (FitsG.bind hF).imp fun p S1 H1 μ1 s1 t1 h1 v rv =>
    ⟨μ1, ρ, S1, hE.step s1, t1, (FitsG.bind h1).imp fun q S2 H2 μ2 s2 t2 h2 w rw' => by
      refine hr _ H2 μ2 S2 v w p q (rv.step s2) rw' t2 ((FitsG.bind h2).imp fun z S3 H3 μ3 s3 t3 h3 u ru => ?_)
      obtain ⟨k, rfl, h4⟩ := toB_of (FitsG.bind h3)
      have h5 := FitsG.here h4 t3
      refine ⟨k, rep_bl ru, ?_⟩
      cases k with
      | true => exact iteT ⟨μ3, ρ, S3, ((hE.step s1).step s2).step s3, t3, (FitsG.bind h5).imp fun y S4 H4 μ4 s4 t4 h6 w' rw2 => hr' _ H4 μ4 S4 w w' q y ((rw'.step s3).step s4) rw2 t4 h6⟩
      | false => exact iteF (FitsG.val h5 t3 (.inl (.bl _)))⟩⟩
end

/-! ### built-in functions by values -/
def LAR (K : PySem.W.Frag) (r : List V → Hp → VK → Prop) (g : List PV → Sto → R PV) : Prop := ∀ Q H μ S vs ps, Reps K H μ vs ps → Rel K H μ S → FitsG K H μ (g ps S) (VKont K Q) → r vs H Q
def LAF (K : PySem.W.Frag) (r : List V → Hp → VK → Prop) (g : List PV → Sto → R PV) : Prop := ∀ Q H μ S vs ps, Reps K H μ vs ps → Rel K H μ S → FitsF K H μ (g ps S) Q → r vs H Q
section
variable {X : Cx} {x : Str} {p pos : Pos} {e : Expr} {es : List Expr} {fa : Ea} {id T : String} {r : List V → Hp → VK → Prop} {g : List PV → Sto → R PV} {gf : List PV → Sto → R PV}
theorem ee_callB (hc : CallR X (.builtin id) r) (hr : LAR X.K r g) (hg : Gl X x) (hm : X.mg x = none) (hv : bootBuiltins x = some (.builtin id)) (ha : EA X (e :: es) fa) (hn : x ≠ "__name__" := by decide) (hdb : (x == ("__debug__" : Str)) = false := by decide)
    (he : starEach (e :: es) X.env = (false, eval e X.env) :: starEach es X.env := by rfl) (hpl : (backTo pos (starEach es X.env)).any (·.1) = false := by rfl) : EE X (.Call (.Name x p) (e :: es) [] pos) (eArgs g fa) :=
  pe_mono (pe_callB hc hg hm hv ha hn hdb he hpl) fun σ H Q h => args h fun H2 μ2 S2 vs ps rv t h2 => hr Q H2 μ2 S2 vs ps rv t h2
theorem ee_callTy (hc : CallR X (.type T) r) (hr : LAR X.K r g) (hg : Gl X x) (hm : X.mg x = none) (hv : bootBuiltins x = some (.type T)) (ha : EA X (e :: es) fa) (hn : x ≠ "__name__" := by decide) (hdb : (x == ("__debug__" : Str)) = false := by decide)
    (he : starEach (e :: es) X.env = (false, eval e X.env) :: starEach es X.env := by rfl) (hpl : (backTo pos (starEach es X.env)).any (·.1) = false := by rfl) : EE X (.Call (.Name x p) (e :: es) [] pos) (eArgs g fa) :=
  pe_mono (pe_callTy hc hg hm hv ha hn hdb he hpl) fun σ H Q h => args h fun H2 μ2 S2 vs ps rv t h2 => hr Q H2 μ2 S2 vs ps rv t h2
theorem ef_callB (hc : CallR X (.builtin id) r) (hr : LAF X.K r gf) (hg : Gl X x) (hm : X.mg x = none) (hv : bootBuiltins x = some (.builtin id)) (ha : EA X (e :: es) fa) (hn : x ≠ "__name__" := by decide) (hdb : (x == ("__debug__" : Str)) = false := by decide)
    (he : starEach (e :: es) X.env = (false, eval e X.env) :: starEach es X.env := by rfl) (hpl : (backTo pos (starEach es X.env)).any (·.1) = false := by rfl) : EF X (.Call (.Name x p) (e :: es) [] pos) (eArgs gf fa) :=
  pe_mono (pe_callB hc hg hm hv ha hn hdb he hpl) fun σ H Q h => argsF h fun H2 μ2 S2 vs ps rv t h2 => hr Q H2 μ2 S2 vs ps rv t h2
theorem ef_callTy (hc : CallR X (.type T) r) (hr : LAF X.K r gf) (hg : Gl X x) (hm : X.mg x = none) (hv : bootBuiltins x = some (.type T)) (ha : EA X (e :: es) fa) (hn : x ≠ "__name__" := by decide) (hdb : (x == ("__debug__" : Str)) = false := by decide)
    (he : starEach (e :: es) X.env = (false, eval e X.env) :: starEach es X.env := by rfl) (hpl : (backTo pos (starEach es X.env)).any (·.1) = false := by rfl) : EF X (.Call (.Name x p) (e :: es) [] pos) (eArgs gf fa) :=
  pe_mono (pe_callTy hc hg hm hv ha hn hdb he hpl) fun σ H Q h => argsF h fun H2 μ2 S2 vs ps rv t h2 => hr Q H2 μ2 S2 vs ps rv t h2
end
theorem Reps.one {K H μ vs p} (h : Reps K H μ vs [p]) : ∃ v, vs = [v] ∧ Rep K H μ v p := by
  cases h with
  | cons h1 h2 => cases h2; exact ⟨_, rfl, h1⟩
theorem Reps.two {K H μ vs p q} (h : Reps K H μ vs [p, q]) : ∃ v w, vs = [v, w] ∧ Rep K H μ v p ∧ Rep K H μ w q := by
  cases h with
  | cons h1 h2 =>
    obtain ⟨w, rfl, h3⟩ := Reps.one h2
    exact ⟨_, w, rfl, h1, h3⟩
def gLen (ps : List PV) (S : Sto) : R PV := match ps with
  | [.str z] => if z.length ≤ sizeLine then .ok (.int z.length) S else .no
  | [.dic ks _] => .ok (.int ks.length) S
  | [p] => match getQ p S with
    | some xs => .ok (.int xs.length) S
    | none => .no
  | _ => .no
theorem call_lenA {X : Cx} : CallR X (.builtin "len") (fun xs H Q => (∃ x n, xs = [x] ∧ LenV X.K x H n ∧ Q (.int n) H) ∨ (∃ a kvs, xs = [V.ref a] ∧ H a = some (.dK kvs) ∧ Q (.int kvs.length) H)) := CallR.or call_len call_lenD
theorem l_len {K : PySem.W.Frag} : LAR K (fun xs H Q => (∃ x n, xs = [x] ∧ LenV K x H n ∧ Q (.int n) H) ∨ (∃ a kvs, xs = [V.ref a] ∧ H a = some (.dK kvs) ∧ Q (.int kvs.length) H)) gLen := by
  intro Q H μ S vs ps rv t hF
  unfold gLen at hF
  split at hF
  · split at hF
    · rename_i hc
      obtain ⟨v, rfl, h1⟩ := rv.one
      cases rep_str h1
      exact .inl ⟨_, _, rfl, ⟨hc, rfl⟩, hF.val t (.inl (.int _))⟩
    · exact hF.elim
  · obtain ⟨v, rfl, h1⟩ := rv.one
    replace h1 := h1.two
    rcases h1 with h1 | ⟨_, _, e, _⟩
    · cases h1 with
      | dic h1 n h2 =>
        refine .inr ⟨_, _, rfl, h1, ?_⟩
        have := hF.val t (.inl (.int _))
        simpa using this
    · cases e
  · split at hF
    · rename_i xs e
      obtain ⟨v, rfl, h1⟩ := rv.one
      obtain ⟨a, vs, rfl, g1, g2⟩ := getQ_of t h1 e
      refine .inl ⟨_, vs.length, rfl, ?_, by rw [g2.length]; exact hF.val t (.inl (.int _))⟩
      rcases g1 with g1 | g1
      · exact .inl ⟨vs, g1, rfl⟩
      · exact .inr ⟨vs, g1, rfl⟩
    · exact hF.elim
  · exact hF.elim
def gInt (ps : List PV) (S : Sto) : R PV := match ps with
  | [.int i] => .ok (.int i) S
  | _ => .no
theorem l_int {K : PySem.W.Frag} : LAR K (fun xs H Q => (∃ i, xs = [.int i] ∧ Q (.int i) H) ∨ ∃ k, xs = [.bl k] ∧ Q (.int (if k then 1 else 0)) H) gInt := by
  intro Q H μ S vs ps rv t hF
  unfold gInt at hF
  split at hF
  · obtain ⟨v, rfl, h1⟩ := rv.one
    cases rep_int h1
    exact .inl ⟨_, rfl, hF.val t (.inl (.int _))⟩
  · exact hF.elim
def gAbs (ps : List PV) (S : Sto) : R PV := match ps with
  | [.int i] => .ok (.int (if i < 0 then -i else i)) S
  | _ => .no
theorem l_abs {K : PySem.W.Frag} : LAR K (fun xs H Q => ∃ i, xs = [.int i] ∧ Q (.int (if i < 0 then -i else i)) H) gAbs := by
  intro Q H μ S vs ps rv t hF
  unfold gAbs at hF
  split at hF
  · obtain ⟨v, rfl, h1⟩ := rv.one
    cases rep_int h1
    exact ⟨_, rfl, hF.val t (.inl (.int _))⟩
  · exact hF.elim
def gMax2 (ps : List PV) (S : Sto) : R PV := match ps with
  | [.int i, .int j] => .ok (.int (if j > i then j else i)) S
  | _ => .no
theorem l_max2 {K : PySem.W.Frag} : LAR K (fun xs H Q => ∃ i j, xs = [.int i, .int j] ∧ Q (.int (if j > i then j else i)) H) gMax2 := by
  intro Q H μ S vs ps rv t hF
  unfold gMax2 at hF
  split at hF
  · obtain ⟨v, w, rfl, h1, h2⟩ := rv.two
    cases rep_int h1; cases rep_int h2
    exact ⟨_, _, rfl, hF.val t (.inl (.int _))⟩
  · exact hF.elim
def gMin2 (ps : List PV) (S : Sto) : R PV := match ps with
  | [.int i, .int j] => .ok (.int (if j < i then j else i)) S
  | _ => .no
theorem l_min2 {K : PySem.W.Frag} : LAR K (fun xs H Q => ∃ i j, xs = [.int i, .int j] ∧ Q (.int (if j < i then j else i)) H) gMin2 := by
  intro Q H μ S vs ps rv t hF
  unfold gMin2 at hF
  split at hF
  · obtain ⟨v, w, rfl, h1, h2⟩ := rv.two
    cases rep_int h1; cases rep_int h2
    exact ⟨_, _, rfl, hF.val t (.inl (.int _))⟩
  · exact hF.elim
def gDivmod (ps : List PV) (S : Sto) : R PV := match ps with
  | [.int i, .int j] => if 0 < j ∧ j < 2 ^ 60 then .ok (.tup [.int (i / j), .int (i % j)]) S else .no
  | _ => .no
theorem divp_small {i j : Int} (h0 : 0 < j) (h1 : j < 2 ^ 60) : CDivP i j := by
  refine ⟨h0, ?_⟩
  have hn : j.natAbs < 2 ^ 60 := by omega
  have hl : j.natAbs.log2 < 60 := PySem.Flt.log2_lt_of (by decide) hn
  show (decide ((if j == 0 then 0 else j.natAbs.log2 / 30 + 1) > 300) && _) = false
  rw [decide_eq_false (by split <;> omega), Bool.false_and]
theorem l_divmod {K : PySem.W.Frag} : LAR K (fun xs H Q => ∃ i j, xs = [.int i, .int j] ∧ CDivP i j ∧ ∀ p, H p = none → Q (.ref p) (upd H p (.tup [.int (i / j), .int (i % j)]))) gDivmod := by
  intro Q H μ S vs ps rv t hF
  unfold gDivmod at hF
  split at hF
  · split at hF
    · rename_i hc
      obtain ⟨v, w, rfl, h1, h2⟩ := rv.two
      cases rep_int h1; cases rep_int h2
      exact ⟨_, _, rfl, divp_small hc.1 hc.2, lay_tup (fun p S H' μ' h => h) hF t (.cons (.int _) (.cons (.int _) .nil))⟩
    · exact hF.elim
  · exact hF.elim
/-- whole numbers of a list -/
def intsOf : List PV → Option (List Int)
  | [] => some []
  | .int i :: r => (intsOf r).map (i :: ·)
  | _ => none
def blsOf : List PV → Option (List Bool)
  | [] => some []
  | .bl i :: r => (blsOf r).map (i :: ·)
  | _ => none
theorem intsOf_eq : ∀ {ps : List PV} {ns : List Int}, intsOf ps = some ns → ps = ns.map PV.int
  | [], _, h => by cases h; rfl
  | .int i :: r, _, h => by
    rw [intsOf] at h
    cases e : intsOf r with
    | none => rw [e] at h; cases h
    | some ns => rw [e] at h; cases h; rw [intsOf_eq e]; rfl
  | .non :: r, _, h => by cases h
  | .bl _ :: r, _, h => by cases h
  | .str _ :: r, _, h => by cases h
  | .tup _ :: r, _, h => by cases h
  | .lst _ :: r, _, h => by cases h
  | .frl _ :: r, _, h => by cases h
  | .dic _ _ :: r, _, h => by cases h
  | .ref _ :: r, _, h => by cases h
theorem blsOf_eq : ∀ {ps : List PV} {ns : List Bool}, blsOf ps = some ns → ps = ns.map PV.bl
  | [], _, h => by cases h; rfl
  | .bl i :: r, _, h => by
    rw [blsOf] at h
    cases e : blsOf r with
    | none => rw [e] at h; cases h
    | some ns => rw [e] at h; cases h; rw [blsOf_eq e]; rfl
  | .non :: r, _, h => by cases h
  | .int _ :: r, _, h => by cases h
  | .str _ :: r, _, h => by cases h
  | .tup _ :: r, _, h => by cases h
  | .lst _ :: r, _, h => by cases h
  | .frl _ :: r, _, h => by cases h
  | .dic _ _ :: r, _, h => by cases h
  | .ref _ :: r, _, h => by cases h
@[simp] theorem intsOf_map (ns : List Int) : intsOf (ns.map PV.int) = some ns := by
  induction ns with
  | nil => rfl
  | cons n ns ih => simp [intsOf, ih]
@[simp] theorem blsOf_map (ns : List Bool) : blsOf (ns.map PV.bl) = some ns := by
  induction ns with
  | nil => rfl
  | cons n ns ih => simp [blsOf, ih]
def gSum (ps : List PV) (S : Sto) : R PV := match ps with
  | [p] => match (getL p S).bind intsOf with
    | some ns => .ok (.int ns.sum) S
    | none => .no
  | _ => .no
/-- sum takes tuples, too, by a list made of them: see gSumT -/
theorem getInts {K H μ S v p ns} (t : Rel K H μ S) (r : Rep K H μ v p) (e : (getL p S).bind intsOf = some ns) : ∃ a, v = .ref a ∧ SqL K H a (ns.map V.int) := by
  cases e1 : getL p S with
  | none => rw [e1] at e; cases e
  | some xs =>
    rw [e1] at e
    obtain ⟨a, vs, rfl, g1, g2⟩ := getL_of t r e1
    rw [intsOf_eq e] at g2
    rw [g2.ints] at g1
    exact ⟨a, rfl, g1⟩
theorem getBls {K H μ S v p ns} (t : Rel K H μ S) (r : Rep K H μ v p) (e : (getL p S).bind blsOf = some ns) : ∃ a, v = .ref a ∧ SqL K H a (ns.map V.bl) := by
  cases e1 : getL p S with
  | none => rw [e1] at e; cases e
  | some xs =>
    rw [e1] at e
    obtain ⟨a, vs, rfl, g1, g2⟩ := getL_of t r e1
    rw [blsOf_eq e] at g2
    rw [g2.bls] at g1
    exact ⟨a, rfl, g1⟩
theorem l_sum {K : PySem.W.Frag} : LAR K (rSum K) gSum := by
  intro Q H μ S vs ps rv t hF
  unfold gSum at hF
  split at hF
  · split at hF
    · rename_i ns e
      obtain ⟨v, rfl, h1⟩ := rv.one
      obtain ⟨a, rfl, g⟩ := getInts t h1 e
      exact ⟨a, ns, rfl, g, hF.val t (.inl (.int _))⟩
    · exact hF.elim
  · exact hF.elim
def gAll (ps : List PV) (S : Sto) : R PV := match ps with
  | [p] => match (getL p S).bind blsOf with
    | some ns => .ok (.bl (ns.all id)) S
    | none => .no
  | _ => .no
theorem l_all {K : PySem.W.Frag} : LAR K (rAll K) gAll := by
  intro Q H μ S vs ps rv t hF
  unfold gAll at hF
  split at hF
  · split at hF
    · rename_i ns e
      obtain ⟨v, rfl, h1⟩ := rv.one
      obtain ⟨a, rfl, g⟩ := getBls t h1 e
      exact ⟨a, ns, rfl, g, hF.val t (.inl (.bl _))⟩
    · exact hF.elim
  · exact hF.elim
def maxI : List Int → Int
  | [] => 0
  | [x] => x
  | x :: y :: r => max x (maxI (y :: r))
theorem maxI_spec : ∀ {ns : List Int} {m : Int}, m ∈ ns → (∀ y ∈ ns, y ≤ m) → maxI ns = m
  | [], _, h, _ => by cases h
  | [x], m, h, _ => by simp at h; simp [maxI, h]
  | x :: y :: r, m, h, g => by
    have gx := g x (by simp)
    rw [maxI]
    rcases List.mem_cons.mp h with rfl | h
    · have : maxI (y :: r) ≤ m := by
        have key : ∀ ns : List Int, ns ≠ [] → (∀ z ∈ ns, z ≤ m) → maxI ns ≤ m := by
          intro ns
          induction ns with
          | nil => intro h; exact absurd rfl h
          | cons a b ih =>
            intro _ hz
            cases b with
            | nil => simpa [maxI] using hz a (by simp)
            | cons c d =>
              rw [maxI]
              have h1 := hz a (by simp)
              have h2 := ih (by simp) fun z q => hz z (List.mem_cons_of_mem _ q)
              omega
        exact key _ (by simp) fun z q => g z (List.mem_cons_of_mem _ q)
      omega
    · have := maxI_spec h fun z q => g z (List.mem_cons_of_mem _ q)
      omega
def gMax1 (ps : List PV) (S : Sto) : R PV := match ps with
  | [p] => match (getL p S).bind intsOf with
    | some ns => if 0 < ns.length then .ok (.int (maxI ns)) S else .no
    | none => .no
  | _ => .no
theorem l_max1 {K : PySem.W.Frag} : LAR K (rMax K) gMax1 := by
  intro Q H μ S vs ps rv t hF
  unfold gMax1 at hF
  split at hF
  · split at hF
    · rename_i ns e
      split at hF
      · rename_i hc
        obtain ⟨v, rfl, h1⟩ := rv.one
        obtain ⟨a, rfl, g⟩ := getInts t h1 e
        refine ⟨a, ns, rfl, g, hc, fun m hm hy => ?_⟩
        rw [← maxI_spec hm hy]
        exact hF.val t (.inl (.int _))
      · exact hF.elim
    · exact hF.elim
  · exact hF.elim
end Py
set_option Elab.async false
set_option maxRecDepth 100000
set_option maxHeartbeats 4000000
set_option linter.all false
namespace Py
open PySem PySem.Spec PyProof.Rows L2
variable [CT]

inductive Fl where
  | nx (ρ : Env) | rt (p : PV) | bk (ρ : Env) | ct (ρ : Env)
abbrev Es := Env → Sto → R Fl
def FinD (K : PySem.W.Frag) (D : Ends) : Fl → List PV → Hp → Mem → Prop := fun fl _ H' μ' => match fl with
  | .nx ρ => ∀ σ, ERel K H' μ' σ ρ → D.nx σ H'
  | .bk ρ => ∀ σ, ERel K H' μ' σ ρ → D.bk σ H'
  | .ct ρ => ∀ σ, ERel K H' μ' σ ρ → D.ct σ H'
  | .rt p => ∀ v, Rep K H' μ' v p → D.rt v H'
def tEs (K : PySem.W.Frag) (g : Es) : TS := fun D σ H => ∃ μ ρ S, ERel K H μ σ ρ ∧ Rel K H μ S ∧ FitsG K H μ (g ρ S) (FinD K D)
def ES (X : Cx) (st : Stmt) (g : Es) : Prop := PS X st (tEs X.K g)
def ESs (X : Cx) (st : List Stmt) (g : Es) : Prop := PSs X st (tEs X.K g)

def sNil : Es := fun ρ S => .ok (.nx ρ) S
def sSeq (a b : Es) : Es := fun ρ S => (a ρ S).bind fun fl S1 => match fl with
  | .nx ρ1 => b ρ1 S1
  | fl => .ok fl S1
section
variable {X : Cx} {st : Stmt} {rest : List Stmt} {ga gb : Es} {pos : Pos}
theorem es_nil : ESs X [] sNil := pss_mono pss_nil fun D σ H ⟨μ, ρ, S, hE, hR, hF⟩ => FitsG.here hF hR σ hE
theorem es_cons (ha : ES X st ga) (hb : ESs X rest gb) : ESs X (st :: rest) (sSeq ga gb) :=
  pss_mono (pss_cons ha hb) fun D σ H ⟨μ, ρ, S, hE, hR, hF⟩ => ⟨μ, ρ, S, hE, hR, (FitsG.bind hF).imp fun fl S1 H1 μ1 s1 t1 h1 => by
    cases fl with
    | nx ρ1 => exact fun σ1 e1 => ⟨μ1, ρ1, S1, e1, t1, h1⟩
    | rt p => exact FitsG.here h1 t1
    | bk ρ1 => exact FitsG.here h1 t1
    | ct ρ1 => exact FitsG.here h1 t1⟩
theorem es_one (ha : ES X st ga) : ESs X [st] ga := pss_mono (pss_one ha) fun _ _ _ h => h
def sPass : Es := fun ρ S => .ok (.nx ρ) S
def sBreak : Es := fun ρ S => .ok (.bk ρ) S
def sCont : Es := fun ρ S => .ok (.ct ρ) S
def sNever : Es := fun _ _ => .no
def sExpr (a : Ev) : Es := fun ρ S => (a ρ S).bind fun _ S1 => .ok (.nx ρ) S1
def sRet (a : Ev) : Es := fun ρ S => (a ρ S).bind fun p S1 => .ok (.rt p) S1
def sRetN : Es := fun _ S => .ok (.rt .non) S
def sIf (t : Et) (a b : Es) : Es := fun ρ S => (t ρ S).bind fun c S1 => if c = true then a ρ S1 else b ρ S1
theorem es_pass : ES X (.Pass pos) sPass := ps_mono ps_pass fun D σ H ⟨μ, ρ, S, hE, hR, hF⟩ => FitsG.here hF hR σ hE
theorem es_break : ES X (.Break pos) sBreak := ps_mono ps_break fun D σ H ⟨μ, ρ, S, hE, hR, hF⟩ => FitsG.here hF hR σ hE
theorem es_cont : ES X (.Continue pos) sCont := ps_mono ps_continue fun D σ H ⟨μ, ρ, S, hE, hR, hF⟩ => FitsG.here hF hR σ hE
theorem es_never : ES X st sNever := ps_mono ps_never fun D σ H ⟨μ, ρ, S, hE, hR, hF⟩ => hF
theorem ess_never {sts : List Stmt} : ESs X sts sNever := pss_mono pss_never fun D σ H ⟨μ, ρ, S, hE, hR, hF⟩ => hF
variable {e : Expr} {fa : Ev} {ft : Et}
theorem es_doc {x : Str} {j pos'} : ES X (.Expr (.Constant (.str x) j pos) pos') sPass := ps_mono ps_doc fun D σ H ⟨μ, ρ, S, hE, hR, hF⟩ => FitsG.here hF hR σ hE
theorem es_expr (he : EE X e fa) (hs : swapsWith e none pos.line X.env = pure false := by rfl) : ES X (.Expr e pos) (sExpr fa) :=
  ps_mono (ps_expr he hs) fun D σ H ⟨μ, ρ, S, hE, hR, hF⟩ => ⟨μ, ρ, S, hE, hR, (FitsG.bind hF).imp fun p S1 H1 μ1 s1 t1 h1 v rv => FitsG.here h1 t1 σ (hE.step s1)⟩
theorem es_ret (he : EE X e fa) : ES X (.Return (some e) pos) (sRet fa) :=
  ps_mono (ps_ret he) fun D σ H ⟨μ, ρ, S, hE, hR, hF⟩ => ⟨μ, ρ, S, hE, hR, (FitsG.bind hF).imp fun p S1 H1 μ1 s1 t1 h1 v rv => FitsG.here h1 t1 v rv⟩
theorem es_retN : ES X (.Return none pos) sRetN := ps_mono ps_retN fun D σ H ⟨μ, ρ, S, hE, hR, hF⟩ => FitsG.here hF hR _ (.inl .non)
theorem es_if {c : Expr} {a b : List Stmt} (hc : ET X c ft) (ha : ESs X a ga) (hb : ESs X b gb) : ES X (.If c a b pos) (sIf ft ga gb) :=
  ps_mono (ps_if hc ha hb) fun D σ H ⟨μ, ρ, S, hE, hR, hF⟩ => ⟨μ, ρ, S, hE, hR, (FitsG.bind hF).imp fun d S1 H1 μ1 s1 t1 h1 => by
    show if d = true then _ else _
    cases d with
    | true => exact iteT ⟨μ1, ρ, S1, hE.step s1, t1, h1⟩
    | false => exact iteF ⟨μ1, ρ, S1, hE.step s1, t1, h1⟩⟩

/-! ### targets -/
abbrev Eg := PV → Env → Sto → R Env
def tEg (K : PySem.W.Frag) (g : Eg) : TG := fun v σ H Q => ∃ p μ ρ S, Rep K H μ v p ∧ ERel K H μ σ ρ ∧ Rel K H μ S ∧ FitsG K H μ (g p ρ S) (fun ρ' _ H' μ' => ∀ σ', ERel K H' μ' σ' ρ' → Q σ' H')
def EG (X : Cx) (tg : Expr) (g : Eg) : Prop := PG X tg (tEg X.K g)
abbrev Egs := List PV → Env → Sto → R Env
def tEgs (K : PySem.W.Frag) (g : Egs) : TGs := fun vs σ H Q => ∃ ps μ ρ S, Reps K H μ vs ps ∧ ERel K H μ σ ρ ∧ Rel K H μ S ∧ FitsG K H μ (g ps ρ S) (fun ρ' _ H' μ' => ∀ σ', ERel K H' μ' σ' ρ' → Q σ' H')
def EGs (X : Cx) (tgs : List Expr) (g : Egs) : Prop := PGs X tgs (tEgs X.K g)
theorem pg_mono {e : Expr} {t t' : TG} (h : PG X e t) (f : ∀ v σ H Q, t' v σ H Q → t v σ H Q) : PG X e t' := ⟨fun pins s σ H v u Q I r q => h.run pins s σ H v u Q I r (f v σ H Q q)⟩
theorem pgs_mono {e : List Expr} {t t' : TGs} (h : PGs X e t) (f : ∀ v σ H Q, t' v σ H Q → t v σ H Q) : PGs X e t' := ⟨fun pins s σ H v u Q I r q => h.run pins s σ H v u Q I r (f v σ H Q q)⟩
def nName (i : Nat) : Eg := fun p ρ S => .ok (ρ.set i (some p)) S
theorem eg_name {i : Nat} {x : Str} (h : PG X (.Name x pos) (gName i)) : EG X (.Name x pos) (nName i) :=
  pg_mono h fun v σ H Q ⟨p, μ, ρ, S, rv, hE, hR, hF⟩ => FitsG.here hF hR _ (hE.set i (show ORep X.K H μ (some v) (some p) from rv))
def nNil : Egs := fun ps ρ S => match ps with
  | [] => .ok ρ S
  | _ => .no
def nCons (a : Eg) (r : Egs) : Egs := fun ps ρ S => match ps with
  | p :: ps => (a p ρ S).bind fun ρ1 S1 => r ps ρ1 S1
  | [] => .no
theorem egs_nil : EGs X [] nNil := pgs_mono pgs_nil fun vs σ H Q ⟨ps, μ, ρ, S, rv, hE, hR, hF⟩ => by
  unfold nNil at hF
  split at hF
  · cases rv
    exact ⟨rfl, FitsG.here hF hR σ hE⟩
  · exact hF.elim
theorem egs_cons {es : List Expr} {g1 : Eg} {g2 : Egs} (h1 : EG X e g1) (h2 : EGs X es g2) (hs : (assignEach (e :: es) X.env).map (·.2) = assign e X.env :: (assignEach es X.env).map (·.2) := by rfl) : EGs X (e :: es) (nCons g1 g2) :=
  pgs_mono (pgs_cons h1 h2 hs) fun vs σ H Q ⟨ps, μ, ρ, S, rv, hE, hR, hF⟩ => by
    unfold nCons at hF
    split at hF
    · rename_i p ps
      cases rv with
      | cons r1 r2 =>
        exact ⟨_, _, rfl, p, μ, ρ, S, r1, hE, hR, (FitsG.bind hF).imp fun ρ1 S1 H1 μ1 s1 t1 h1 σ1 e1 => ⟨ps, μ1, ρ1, S1, Reps.step s1 r2, e1, t1, h1⟩⟩
    · exact hF.elim
def nTup (n : Nat) (g : Egs) : Eg := fun p ρ S => match p with
  | .tup ps => if ps.length = n then g ps ρ S else .no
  | _ => .no
theorem RepPs.reps {K H μ} : ∀ {ps : List PV} {vs : List V}, RepPs K H μ vs ps → Reps K H μ vs ps
  | [], _, h => by cases h; exact .nil
  | p :: ps, _, h => by
    cases h with
    | cons h1 h2 => exact .cons (.inl h1) (RepPs.reps h2)
theorem eg_tup {es : List Expr} {k n : Nat} {g : Egs} (hc : X.calm = true) (h : EGs X es g) (hn : (assignEach es X.env).length = n := by rfl) (hst : (assignEach es X.env).findIdx? (·.1) = none := by rfl) : EG X (.Tuple es k pos) (nTup n g) :=
  pg_mono (pg_tup hc h hn hst) fun v σ H Q ⟨p, μ, ρ, S, rv, hE, hR, hF⟩ => by
    unfold nTup at hF
    split at hF
    · split at hF
      · rename_i ps hn
        obtain ⟨a, vs, rfl, g1, g2⟩ := rv.tup_inv
        exact ⟨a, vs, rfl, g1.sq, by rw [g2.length]; exact hn, ps, μ, ρ, S, g2.reps, hE, hR, hF⟩
      · exact hF.elim
    · exact hF.elim
/-- o[i] = v, a list of the store -/
def gSetL (o i v : PV) (S : Sto) : R PV := match o, i with
  | .ref n, .int k => match S[n]? with
    | some (.lst xs) => match ixN xs.length k with
      | some j => if v.isRef = false then .ok .non (S.set n (.lst (xs.set j v))) else .no
      | none => .no
    | _ => .no
  | _, _ => .no
def nSubL (o i : Ev) : Eg := fun p ρ S => (o ρ S).bind fun x S1 => (i ρ S1).bind fun y S2 => (gSetL x y p S2).bind fun _ S3 => .ok ρ S3
theorem write_lst {K H μ S n xs ys a} (t : Rel K H μ S) (m : μ.st[n]? = some a) (e : S[n]? = some (.lst xs)) : ∃ vs, H a = some (.lst vs) ∧ RepPs K H μ vs xs ∧ ∀ ws, (∀ H' μ', Step H μ H' μ' → RepPs K H' μ' ws ys) → Step H μ (upd H a (.lst ws)) μ ∧ Rel K (upd H a (.lst ws)) μ (S.set n (.lst ys)) := by
  obtain ⟨vs, e1, r1⟩ := t.obj _ _ _ m e
  refine ⟨vs, e1, r1, fun ws hw => ?_⟩
  have s := Step.write H μ (List.mem_of_getElem? m) (.lst ws)
  exact ⟨s, t.write m ⟨ws, upd_same, hw _ _ s⟩⟩
theorem eg_subL {o i : Expr} {fo fi : Ev} (ho : EE X o fo) (hi : EE X i fi) (h : PG X (.Subscript o i pos) (L2.gSub (tEv X.K fo) (tEv X.K fi) rSetL)) : EG X (.Subscript o i pos) (nSubL fo fi) :=
  pg_mono h fun v σ H Q ⟨p, μ, ρ, S, rv, hE, hR, hF⟩ => ⟨μ, ρ, S, hE, hR, (FitsG.bind hF).imp fun x S1 H1 μ1 s1 t1 h1 vo ro =>
    ⟨μ1, ρ, S1, hE.step s1, t1, (FitsG.bind h1).imp fun y S2 H2 μ2 s2 t2 h2 vi ri => by
      have h2 := FitsG.bind h2
      unfold gSetL at h2
      split at h2
      · rename_i n k
        split at h2
        · rename_i xs e
          split at h2
          · rename_i j ej
            split at h2
            · rename_i hp
              cases rep_int ri
              have ro := ro.step s2
              replace ro := ro.two
              rcases ro with ro | ⟨n', a, e1, e2, e3⟩
              · cases ro
              cases e1
              subst e3
              obtain ⟨vs, g1, g2, g3⟩ := write_lst (ys := xs.set j p) t2 e2 e
              have rp := ((rv.step s1).step s2).pure hp
              obtain ⟨s3, t3⟩ := g3 (vs.set j v) fun H' μ' s => (g2.set j rp).step s
              refine ⟨a, vs, _, j, rfl, rfl, g1, by rw [g2.length]; exact ej, ?_⟩
              have h4 := h2 _ _ s3 t3
              exact FitsG.here h4 t3 σ (((hE.step s1).step s2).step s3)
            · exact h2.elim
          · exact h2.elim
        · exact h2.elim
      · exact h2.elim⟩⟩
/-- target = value -/
def sAsg (a : Ev) (g : Eg) : Es := fun ρ S => (a ρ S).bind fun p S1 => (g p ρ S1).bind fun ρ1 S2 => .ok (.nx ρ1) S2
theorem tEs_asg {K fa g D σ H} (h : tEs K (sAsg fa g) D σ H) : tAsg (tEv K fa) (tEg K g) D σ H := by
  obtain ⟨μ, ρ, S, hE, hR, hF⟩ := h
  exact ⟨μ, ρ, S, hE, hR, (FitsG.bind hF).imp fun p S1 H1 μ1 s1 t1 h1 v rv => ⟨p, μ1, ρ, S1, rv, hE.step s1, t1, (FitsG.bind h1).imp fun ρ1 S2 H2 μ2 s2 t2 h2 => FitsG.here h2 t2⟩⟩
theorem es_asg {tg : Expr} {g : Eg} (he : EE X e fa) (hg : EG X tg g) (hs : swapsWithSole [tg] e pos.line X.env = pure false := by rfl) (hw : swappedStores [tg] e X.env = pure none := by rfl)
    (h1 : (assignEach [tg] X.env).map (·.2) = [assign tg X.env] := by rfl) : ES X (.Assign [tg] e pos) (sAsg fa g) :=
  ps_mono (ps_asg he hg hs hw h1) fun D σ H h => tEs_asg h
def sSet (i : Nat) (a : Ev) : Es := sAsg a (nName i)
theorem tEs_set {K fa D σ H} {i : Nat} (h : tEs K (sSet i fa) D σ H) : tAsg (tEv K fa) (gName i) D σ H := by
  obtain ⟨μ, ρ, S, hE, hR, hF⟩ := h
  exact ⟨μ, ρ, S, hE, hR, (FitsG.bind hF).imp fun p S1 H1 μ1 s1 t1 h1 v rv => by
    have z : FitsG K H1 μ1 (.ok (.nx (ρ.set i (some p))) S1) (FinD K D) := h1
    exact FitsG.here z t1 _ ((hE.step s1).set i (show ORep K H1 μ1 (some v) (some p) from rv))⟩
theorem es_set {i : Nat} {x : Str} {pos' : Pos} (h : PS X (.Assign [.Name x pos'] e pos) (tAsg (tEv X.K fa) (gName i))) : ES X (.Assign [.Name x pos'] e pos) (sSet i fa) :=
  ps_mono h fun D σ H h => tEs_set h
/-- a, b = x, y -/
def sPar (i j : Nat) (a b : Ev) : Es := fun ρ S => (a ρ S).bind fun p S1 => (b ρ S1).bind fun q S2 => .ok (.nx ((ρ.set i (some p)).set j (some q))) S2
theorem es_par {i j : Nat} {st : Stmt} {a b : Expr} {fb : Ev} (ha : EE X a fa) (hb : EE X b fb) (h : PS X st (tPar i j (tCons (tEv X.K fa) (tCons (tEv X.K fb) tNil)))) : ES X st (sPar i j fa fb) :=
  ps_mono h fun D σ H ⟨μ, ρ, S, hE, hR, hF⟩ => ⟨μ, ρ, S, hE, hR, (FitsG.bind hF).imp fun p S1 H1 μ1 s1 t1 h1 v rv =>
    ⟨μ1, ρ, S1, hE.step s1, t1, (FitsG.bind h1).imp fun q S2 H2 μ2 s2 t2 h2 w rw' => ⟨v, w, rfl, FitsG.here h2 t2 _ ((((hE.step s1).step s2).set i (show ORep X.K H2 μ2 (some v) (some p) from rv.step s2)).set j (show ORep X.K H2 μ2 (some w) (some q) from rw'))⟩⟩⟩
/-- x += e of a whole number -/
def sAugI (i : Nat) (a : Ev) : Es := fun ρ S => match ρ[i]? with
  | some (some (.int k)) => (a ρ S).bind fun p S1 => match p with
    | .int m => .ok (.nx (ρ.set i (some (.int (k + m))))) S1
    | _ => .no
  | _ => .no
theorem es_augI {i : Nat} {st : Stmt} (h : PS X st (tAug i (tEv X.K fa) (ipI (· + ·)))) : ES X st (sAugI i fa) :=
  ps_mono h fun D σ H ⟨μ, ρ, S, hE, hR, hF⟩ => by
    unfold sAugI at hF
    split at hF
    · rename_i k e
      obtain ⟨v, g, r⟩ := hE.get e
      cases rep_int r
      refine ⟨_, g, μ, ρ, S, hE, hR, (FitsG.bind hF).imp fun p S1 H1 μ1 s1 t1 h1 w rw' => ?_⟩
      split at h1
      · cases rep_int rw'
        exact ⟨_, _, rfl, rfl, FitsG.here h1 t1 _ ((hE.step s1).set i (show ORep X.K H1 μ1 (some _) (some _) from .inl (.int _)))⟩
      · exact h1.elim
    · exact hF.elim

/-! ### while -/
def whileF (t : Et) (b : Es) : Nat → Es
  | 0 => fun _ _ => .no
  | n + 1 => fun ρ S => (t ρ S).bind fun c S1 => if c = true then (b ρ S1).bind fun fl S2 => match fl with
      | .nx ρ2 => whileF t b n ρ2 S2
      | .ct ρ2 => whileF t b n ρ2 S2
      | .bk ρ2 => .ok (.nx ρ2) S2
      | .rt p => .ok (.rt p) S2
    else .ok (.nx ρ) S1
theorem es_while {c : Expr} {body : List Stmt} (hp : PassesOwn (model X.prog X.w) X.A X.env X.xe) (hc : ET X c ft) (hb : ESs X body gb) (n : Nat) : ES X (.While c body [] pos) (whileF ft gb n) :=
  ps_mono (ps_while hp hc hb) fun D σ H h => by
    refine ⟨fun m σ H => tEs X.K (whileF ft gb m) D σ H, ⟨n, h⟩, fun m σ H hw => ?_⟩
    obtain ⟨μ, ρ, S, hE, hR, hF⟩ := hw
    cases m with
    | zero => exact hF.elim
    | succ m =>
      refine ⟨μ, ρ, S, hE, hR, (FitsG.bind hF).imp fun d S1 H1 μ1 s1 t1 h1 => ?_⟩
      show if d = true then _ else _
      cases d with
      | false => exact iteF (FitsG.here (show FitsG X.K H1 μ1 (.ok (.nx ρ) S1) (FinD X.K D) from h1) t1 σ (hE.step s1))
      | true =>
        refine iteT ⟨fun σ' H' => tEs X.K (whileF ft gb m) D σ' H', fun σ' H' z => ⟨m, Nat.lt_succ_self m, z⟩, μ1, ρ, S1, hE.step s1, t1, (FitsG.bind (show FitsG X.K H1 μ1 ((gb ρ S1).bind _) (FinD X.K D) from h1)).imp fun fl S2 H2 μ2 s2 t2 h2 => ?_⟩
        cases fl with
        | nx ρ2 => exact fun σ2 e2 => ⟨μ2, ρ2, S2, e2, t2, h2⟩
        | ct ρ2 => exact fun σ2 e2 => ⟨μ2, ρ2, S2, e2, t2, h2⟩
        | bk ρ2 => exact FitsG.here h2 t2
        | rt p => exact FitsG.here h2 t2

/-! ### what is walked -/
/-- how many turns, and the item of each (a new tuple, or one that stands) -/
abbrev Ei := Env → Sto → R (List PV)
structure Walk (K : PySem.W.Frag) (J : It) (H : Hp) (μ : Mem) (ps : List PV) : Prop where
  go : ∀ (i : Nat) (H' : Hp) (μ' : Mem), Keep H μ H' μ' → i < ps.length → J.go i H'
  yld : ∀ (i : Nat) (H' : Hp) (μ' : Mem) (S : List PV) (x : V) (H2 : Hp), Keep H μ H' μ' → Rel K H' μ' S → i < ps.length → J.yld i H' x H2 → ∃ p, ps[i]? = some p ∧ Step H' μ' H2 μ' ∧ Rel K H2 μ' S ∧ Rep K H2 μ' x p
  stop : ∀ (H' : Hp) (μ' : Mem), Keep H μ H' μ' → J.stop ps.length H'
def tEi (K : PySem.W.Frag) (f : Ei) : TI := fun σ H R => ∃ μ ρ S, ERel K H μ σ ρ ∧ Rel K H μ S ∧ FitsG K H μ (f ρ S) (fun ps _ H' μ' => ∀ J, Walk K J H' μ' ps → R J H')
def EI (X : Cx) (tg iter : Expr) (f : Ei) : Prop := PI X tg iter (tEi X.K f)
theorem pi_mono {tg iter : Expr} {t t' : TI} (h : PI X tg iter t) (f : ∀ σ H R, t' σ H R → t σ H R) : PI X tg iter t' := ⟨fun pins s σ H R I q => h.run pins s σ H R I (f σ H R q)⟩

def forF (g : Eg) (b : Es) : List PV → Es
  | [] => fun ρ S => .ok (.nx ρ) S
  | p :: ps => fun ρ S => (g p ρ S).bind fun ρ1 S1 => (b ρ1 S1).bind fun fl S2 => match fl with
      | .nx ρ2 => forF g b ps ρ2 S2
      | .ct ρ2 => forF g b ps ρ2 S2
      | .bk ρ2 => .ok (.nx ρ2) S2
      | .rt p => .ok (.rt p) S2
def sFor (it : Ei) (g : Eg) (b : Es) : Es := fun ρ S => (it ρ S).bind fun ps S1 => forF g b ps ρ S1
theorem es_for {tg iter : Expr} {body : List Stmt} {it : Ei} {g : Eg} (hp : PassesOwn (model X.prog X.w) X.A X.env X.xe) (hc : X.calm = true) (hi : EI X tg iter it) (hg : EG X tg g) (hb : ESs X body gb)
    (hs : ∀ x, foldedSetIterable iter X.env x = pure x := by intro _; rfl) : ES X (.For tg iter body [] pos) (sFor it g gb) :=
  ps_mono (ps_for hp hc hi hg hb hs) fun D σ H ⟨μ, ρ, S, hE, hR, hF⟩ => ⟨μ, ρ, S, hE, hR, (FitsG.bind hF).imp fun ps S1 H1 μ1 s1 t1 h1 J hJ => by
    refine ⟨fun i m σ' H' => m = ps.length - i ∧ i ≤ ps.length ∧ ∃ μ' ρ' S', Step H1 μ1 H' μ' ∧ ERel X.K H' μ' σ' ρ' ∧ Rel X.K H' μ' S' ∧ FitsG X.K H' μ' (forF g gb (ps.drop i) ρ' S') (FinD X.K D),
      ⟨ps.length, by simp, Nat.zero_le _, μ1, ρ, S1, Step.refl _ _, hE.step s1, t1, by simpa using h1⟩, ?_⟩
    rintro i m σ' H' ⟨rfl, hi, μ', ρ', S', st, e', t', h'⟩
    by_cases hlt : i < ps.length
    · refine .inr ⟨hJ.go i H' μ' st.keep hlt, fun σ2 H2 => i + 1 ≤ ps.length ∧ ∃ μ' ρ' S', Step H1 μ1 H2 μ' ∧ ERel X.K H2 μ' σ2 ρ' ∧ Rel X.K H2 μ' S' ∧ FitsG X.K H2 μ' (forF g gb (ps.drop (i + 1)) ρ' S') (FinD X.K D), fun σ2 H2 z => ⟨ps.length - (i + 1), by omega, rfl, z.1, z.2⟩, fun x H2 hy => ?_⟩
      obtain ⟨p, ep, s2, t2, rx⟩ := hJ.yld i H' μ' S' x H2 st.keep t' hlt hy
      have ed : ps.drop i = p :: ps.drop (i + 1) := by
        rw [List.drop_eq_getElem_cons hlt]
        rw [List.getElem?_eq_getElem hlt] at ep
        rw [Option.some.inj ep]
      rw [ed] at h'
      have h' : FitsG X.K H' μ' ((g p ρ' S').bind fun ρ1 S1 => (gb ρ1 S1).bind fun fl S2 => match fl with
        | .nx ρ2 => forF g gb (ps.drop (i + 1)) ρ2 S2
        | .ct ρ2 => forF g gb (ps.drop (i + 1)) ρ2 S2
        | .bk ρ2 => .ok (.nx ρ2) S2
        | .rt p => .ok (.rt p) S2) (FinD X.K D) := h'
      -- the target, then the body
      have h2 : FitsG X.K H2 μ' ((g p ρ' S').bind fun ρ1 S1 => (gb ρ1 S1).bind fun fl S2 => match fl with
        | .nx ρ2 => forF g gb (ps.drop (i + 1)) ρ2 S2
        | .ct ρ2 => forF g gb (ps.drop (i + 1)) ρ2 S2
        | .bk ρ2 => .ok (.nx ρ2) S2
        | .rt p => .ok (.rt p) S2) (FinD X.K D) := by
        revert h'
        generalize ((g p ρ' S').bind fun ρ1 S1 => (gb ρ1 S1).bind fun fl S2 => match fl with
          | .nx ρ2 => forF g gb (ps.drop (i + 1)) ρ2 S2
          | .ct ρ2 => forF g gb (ps.drop (i + 1)) ρ2 S2
          | .bk ρ2 => .ok (.nx ρ2) S2
          | .rt p => .ok (.rt p) S2) = r
        intro h'
        cases r with
        | ok a S => exact fun H3 μ3 s3 t3 => h' H3 μ3 (s2.trans s3) t3
        | er => exact h'
        | no => exact h'
      refine ⟨p, μ', ρ', S', rx, e'.step s2, t2, (FitsG.bind h2).imp fun ρ3 S3 H3 μ3 s3 t3 h3 σ3 e3 => ⟨μ3, ρ3, S3, e3, t3, (FitsG.bind h3).imp fun fl S4 H4 μ4 s4 t4 h4 => ?_⟩⟩
      cases fl with
      | nx ρ4 => exact fun σ4 e4 => ⟨hlt, μ4, ρ4, S4, ((st.trans s2).trans s3).trans s4, e4, t4, h4⟩
      | ct ρ4 => exact fun σ4 e4 => ⟨hlt, μ4, ρ4, S4, ((st.trans s2).trans s3).trans s4, e4, t4, h4⟩
      | bk ρ4 => exact FitsG.here h4 t4
      | rt p => exact FitsG.here h4 t4
    · have e : i = ps.length := by omega
      subst e
      refine .inl ⟨hJ.stop H' μ' st.keep, ?_⟩
      rw [List.drop_length] at h'
      exact FitsG.here (show FitsG X.K H' μ' (.ok (.nx ρ') S') (FinD X.K D) from h') t' σ' e'⟩
end
end Py
set_option Elab.async false
set_option maxRecDepth 100000
set_option maxHeartbeats 4000000
set_option linter.all false
namespace Py
open PySem PySem.Spec PyProof.Rows L2
variable [CT]

section
variable {K : PySem.W.Frag} {H : Hp} {μ : Mem} {a : Addr} {vs : List V} {ps : List PV}
theorem walk_list (hs : ∀ H' μ', Keep H μ H' μ' → SqL K H' a vs) (r : RepPs K H μ vs ps) : Walk K (Itl K a) H μ ps where
  go := fun i H' μ' st hi => by
    have hv : i < vs.length := by rw [r.length]; exact hi
    exact ⟨vs, vs[i], hs H' μ' st, List.getElem?_eq_getElem hv⟩
  yld := fun i H' μ' S x H2 st t hi hy => by
    obtain ⟨e, hx⟩ := hy
    subst e
    have hx := hx vs (hs _ μ' st)
    obtain ⟨v, g, rv⟩ := (r.keep st).get (List.getElem?_eq_getElem hi)
    rw [hx] at g
    cases g
    exact ⟨ps[i], List.getElem?_eq_getElem hi, Step.refl _ _, t, .inl rv⟩
  stop := fun H' μ' st => ⟨vs, hs H' μ' st, by rw [r.length]; exact Nat.le_refl _⟩
theorem walk_tup (hs : ∀ H' μ', Keep H μ H' μ' → SqT K H' a vs) (r : RepPs K H μ vs ps) : Walk K (Itt K a) H μ ps where
  go := fun i H' μ' st hi => by
    have hv : i < vs.length := by rw [r.length]; exact hi
    exact ⟨vs, vs[i], hs H' μ' st, List.getElem?_eq_getElem hv⟩
  yld := fun i H' μ' S x H2 st t hi hy => by
    obtain ⟨e, hx⟩ := hy
    subst e
    have hx := hx vs (hs _ μ' st)
    obtain ⟨v, g, rv⟩ := (r.keep st).get (List.getElem?_eq_getElem hi)
    rw [hx] at g
    cases g
    exact ⟨ps[i], List.getElem?_eq_getElem hi, Step.refl _ _, t, .inl rv⟩
  stop := fun H' μ' st => ⟨vs, hs H' μ' st, by rw [r.length]; exact Nat.le_refl _⟩
def signs (z : Str) : List PV := z.cps.toList.map fun c => .str ⟨#[c]⟩
theorem walk_str (z : Str) : Walk K (Its z) H μ (signs z) where
  go := fun i H' μ' st hi => by
    show i < z.cps.size
    simpa [signs] using hi
  yld := fun i H' μ' S x H2 st t hi hy => by
    obtain ⟨e, c, hc, hx⟩ := hy
    subst e hx
    refine ⟨.str ⟨#[c]⟩, ?_, Step.refl _ _, t, .inl (.str _)⟩
    unfold signs
    rw [List.getElem?_map]
    rw [show z.cps.toList[i]? = some c by simpa using hc]
    rfl
  stop := fun H' μ' st => by
    show z.cps.size ≤ (signs z).length
    simp [signs]
def intsFrom (lo : Int) (n : Nat) : List PV := (List.range n).map fun i => .int (lo + (i : Nat))
theorem walk_range (lo : Int) (n : Nat) : Walk K (Itr lo n) H μ (intsFrom lo n) where
  go := fun i H' μ' st hi => by
    show i < n
    simpa [intsFrom] using hi
  yld := fun i H' μ' S x H2 st t hi hy => by
    obtain ⟨e, hx⟩ := hy
    subst e hx
    have hi' : i < n := by simpa [intsFrom] using hi
    refine ⟨.int (lo + (i : Nat)), ?_, Step.refl _ _, t, .inl (.int _)⟩
    unfold intsFrom
    rw [List.getElem?_map, List.getElem?_range hi']
    rfl
  stop := fun H' μ' st => by
    show n ≤ (intsFrom lo n).length
    simp [intsFrom]

/-- pairs of a walk's place and its item -/
def enumP : Nat → List PV → List PV
  | _, [] => []
  | n, p :: ps => .tup [.int (n : Nat), p] :: enumP (n + 1) ps
theorem enumP_length : ∀ (ps : List PV) (n : Nat), (enumP n ps).length = ps.length
  | [], _ => rfl
  | p :: ps, n => by simp [enumP, enumP_length ps]
theorem enumP_get : ∀ (ps : List PV) (n i : Nat) (p : PV), ps[i]? = some p → (enumP n ps)[i]? = some (.tup [.int ((n + i : Nat) : Int), p])
  | [], _, _, _, h => by simp at h
  | q :: ps, n, 0, p, h => by simp at h; subst h; simp [enumP]
  | q :: ps, n, i + 1, p, h => by
    rw [enumP, List.getElem?_cons_succ, enumP_get ps (n + 1) i p (by simpa using h)]
    congr 4
    omega
theorem Rel.fresh {S : List PV} (t : Rel K H μ S) {p : Addr} (hp : H p = none) {xs : List V} {qs : List PV} (r : RepPs K H μ xs qs) : Step H μ (upd H p (.tup xs)) μ ∧ Rel K (upd H p (.tup xs)) μ S ∧ Rep K (upd H p (.tup xs)) μ (.ref p) (.tup qs) := by
  have s := Step.laid H μ hp (.tup xs)
  exact ⟨s, t.laid hp _, .inl (.tup (.inl ⟨.inl upd_same, t.out hp⟩) (r.step s))⟩
theorem walk_enum (hs : ∀ H' μ', Keep H μ H' μ' → SqL K H' a vs) (r : RepPs K H μ vs ps) : Walk K (Ite K a) H μ (enumP 0 ps) where
  go := fun i H' μ' st hi => by
    rw [enumP_length] at hi
    have hv : i < vs.length := by rw [r.length]; exact hi
    exact ⟨vs, vs[i], hs H' μ' st, List.getElem?_eq_getElem hv⟩
  yld := fun i H' μ' S x H2 st t hi hy => by
    rw [enumP_length] at hi
    obtain ⟨T, y, rfl, hT, rfl, hx⟩ := hy
    have hx := hx vs (hs _ μ' st)
    obtain ⟨v, g, rv⟩ := (r.keep st).get (List.getElem?_eq_getElem hi)
    rw [hx] at g
    cases g
    obtain ⟨s2, t2, r2⟩ := t.fresh hT (xs := [.int (i : Nat), y]) (.cons (.int _) (.cons rv .nil))
    refine ⟨_, enumP_get ps 0 i ps[i] (List.getElem?_eq_getElem hi), s2, t2, ?_⟩
    rw [Nat.zero_add]
    exact r2
  stop := fun H' μ' st => ⟨vs, hs H' μ' st, by rw [enumP_length, r.length]; exact Nat.le_refl _⟩
/-- the tuple at a, each item in a new pair with its place -/
def IteT (K : PySem.W.Frag) (a : Addr) : It where
  go := fun i H => ∃ (xs : List V) (x : V), SqT K H a xs ∧ xs[i]? = some x
  yld := fun i H v H' => ∃ T x, v = .ref T ∧ H T = none ∧ H' = upd H T (.tup [.int (i : Nat), x]) ∧ ∀ xs, SqT K H a xs → xs[i]? = some x
  stop := fun i H => ∃ xs : List V, SqT K H a xs ∧ xs.length ≤ i
theorem walk_enumT (hs : ∀ H' μ', Keep H μ H' μ' → SqT K H' a vs) (r : RepPs K H μ vs ps) : Walk K (IteT K a) H μ (enumP 0 ps) where
  go := fun i H' μ' st hi => by
    rw [enumP_length] at hi
    have hv : i < vs.length := by rw [r.length]; exact hi
    exact ⟨vs, vs[i], hs H' μ' st, List.getElem?_eq_getElem hv⟩
  yld := fun i H' μ' S x H2 st t hi hy => by
    rw [enumP_length] at hi
    obtain ⟨T, y, rfl, hT, rfl, hx⟩ := hy
    have hx := hx vs (hs _ μ' st)
    obtain ⟨v, g, rv⟩ := (r.keep st).get (List.getElem?_eq_getElem hi)
    rw [hx] at g
    cases g
    obtain ⟨s2, t2, r2⟩ := t.fresh hT (xs := [.int (i : Nat), y]) (.cons (.int _) (.cons rv .nil))
    refine ⟨_, enumP_get ps 0 i ps[i] (List.getElem?_eq_getElem hi), s2, t2, ?_⟩
    rw [Nat.zero_add]
    exact r2
  stop := fun H' μ' st => ⟨vs, hs H' μ' st, by rw [enumP_length, r.length]; exact Nat.le_refl _⟩
def zipP : List PV → List PV → List PV
  | p :: ps, q :: qs => .tup [p, q] :: zipP ps qs
  | _, _ => []
theorem zipP_get : ∀ (ps qs : List PV) (i : Nat), i < (zipP ps qs).length → ∃ p q, ps[i]? = some p ∧ qs[i]? = some q ∧ (zipP ps qs)[i]? = some (.tup [p, q])
  | [], _, _, h => by simp [zipP] at h
  | _ :: _, [], _, h => by simp [zipP] at h
  | p :: ps, q :: qs, 0, h => ⟨p, q, rfl, rfl, rfl⟩
  | p :: ps, q :: qs, i + 1, h => by
    obtain ⟨x, y, h1, h2, h3⟩ := zipP_get ps qs i (by simpa [zipP] using h)
    exact ⟨x, y, by simpa using h1, by simpa using h2, by simpa [zipP] using h3⟩
theorem zipP_length : ∀ (ps qs : List PV), (zipP ps qs).length = min ps.length qs.length
  | [], _ => by simp [zipP]
  | _ :: _, [] => by simp [zipP]
  | p :: ps, q :: qs => by simp [zipP, zipP_length ps qs]
theorem walk_zipT {b : Addr} {ws : List V} {qs : List PV} (hs : ∀ H' μ', Keep H μ H' μ' → SqT K H' a vs) (hs2 : ∀ H' μ', Keep H μ H' μ' → SqT K H' b ws) (r : RepPs K H μ vs ps) (r2 : RepPs K H μ ws qs) : Walk K (RZ.ItzT K a b) H μ (zipP ps qs) where
  go := fun i H' μ' st hi => by
    rw [zipP_length] at hi
    have hv : i < vs.length := by rw [r.length]; omega
    have hw : i < ws.length := by rw [r2.length]; omega
    exact ⟨vs, ws, vs[i], ws[i], hs H' μ' st, hs2 H' μ' st, List.getElem?_eq_getElem hv, List.getElem?_eq_getElem hw⟩
  yld := fun i H' μ' S x H2 st t hi hy => by
    obtain ⟨p, q, hp, hq, hz⟩ := zipP_get ps qs i hi
    obtain ⟨T, y, z, rfl, hT, rfl, hx, hx2⟩ := hy
    have hx := hx vs (hs _ μ' st)
    have hx2 := hx2 ws (hs2 _ μ' st)
    obtain ⟨v, g, rv⟩ := (r.keep st).get hp
    obtain ⟨v2, g2, rv2⟩ := (r2.keep st).get hq
    rw [hx] at g
    rw [hx2] at g2
    cases g
    cases g2
    obtain ⟨s2, t2, r3⟩ := t.fresh hT (xs := [y, z]) (.cons rv (.cons rv2 .nil))
    exact ⟨_, hz, s2, t2, r3⟩
  stop := fun H' μ' st => ⟨vs, ws, hs H' μ' st, hs2 H' μ' st, by rw [zipP_length, r.length, r2.length]; omega⟩
end

/-! ### enumerate of a tuple -/
section
variable {prog : Program} {w : World} {A : Around} {E : Value → Shared → Prop} {s : Shared}
set_option maxHeartbeats 1000000 in
theorem meets_enumT {v : Value} {o : Obj} {H : Heap → Prop} (B : Begins v o H) :
    Meets (Builtin.«enumerate.__new__» ⟨[.type "enumerate", v], []⟩) (fun _ R s => H s.heap ∧
      R (.ok (.ret (.ref (s.heap.push o).objs.size))) { s with heap := (s.heap.push o).push { cls := .type "enumerate", data := .fields #[.none, .bool false, .ref s.heap.objs.size, rawInt 0, .none, .none] } }) :=
  .of_wp fun prog w A R s h => by
    obtain ⟨hp, g, d, tk, os⟩ := s
    obtain ⟨h1, h⟩ := h
    have hsub := sub_enumerate
    have q1 : ∀ {A' : Around} {E : Value → Shared → Prop} {Q : Value → Shared → Prop}, Q (.ref hp.objs.size) ⟨hp.push o, g, d, tk, os⟩ → wpAny (model prog w) A' (pyIter v) Q E ⟨hp, g, d, tk, os⟩ := fun q => B.iter prog w _ _ ⟨hp, g, d, tk, os⟩ _ h1 q
    wp_walk using q1
    refine wpAny_stack_any fun st => wpAny_pure ?_
    split
    · rename_i c _ _ _ _ _
      cases (c == Value.type "enumerate")
      · wp_walk using q1
        exact ⟨_, rfl, h⟩
      · wp_walk using q1
        exact ⟨_, rfl, h⟩
    · wp_walk using q1
      exact ⟨_, rfl, h⟩
theorem call_enumT {v : Value} {o : Obj} {H : Heap → Prop} {Q : Value → Shared → Prop} (B : Begins v o H) (h1 : H s.heap)
    (h : ∀ h', IsEnum h' (s.heap.objs.size + 1) s.heap.objs.size 0 .none → h'.get? s.heap.objs.size = some o → (∀ b o, s.heap.get? b = some o → h'.get? b = some o) → Q (.ref (s.heap.objs.size + 1)) { s with heap := h' }) :
    wpAny (model prog w) A (call (.type "enumerate") [v]) Q E s := by
  refine callType_new F.called_enumerate (by decide) (F.typeCall_enumerate_1 _) (F.newCall_enumerate_1 _) (fun obj => F.args_object_init_2 obj _) F.entry_enumerate_new (meets_enumT B) ⟨h1, ?_⟩
  have hz : (s.heap.push o).objs.size = s.heap.objs.size + 1 := Heap.size_push ..
  show _ ∧ _
  rw [hz]
  have he : IsEnum ((s.heap.push o).push { cls := .type "enumerate", data := .fields #[.none, .bool false, .ref s.heap.objs.size, rawInt 0, .none, .none] }) (s.heap.objs.size + 1) s.heap.objs.size 0 .none := by
    have := Heap.get?_push_size (s.heap.push o) (o := { cls := .type "enumerate", data := .fields #[.none, .bool false, .ref s.heap.objs.size, rawInt 0, .none, .none] }) rfl
    rw [hz] at this
    exact this
  exact ⟨⟨_, he, rfl⟩, h _ he (Heap.get?_push_of_some _ (Heap.get?_push_size _ B.free)) fun b o x => Heap.get?_push_of_some _ (Heap.get?_push_of_some _ x)⟩
end

section
variable {prog : Program} {w : World} {A : Around} {E : Value → Shared → Prop} {s : Shared}
theorem enum_endT {e it : Addr} {i : Int} {old : Value} {Q : Option Value → Shared → Prop} (he : IsEnum s.heap e it i old)
    (done : ∀ {Q : Value → Shared → Prop} {E : Value → Shared → Prop}, (∀ h' x, Heap.ExtBut it s.heap h' → (∃ o, h'.get? x = some o ∧ o.cls = .type "StopIteration") → E (.ref x) { s with heap := h' }) → wpAny (model prog w) A.in1 (Builtin.SmallTypes.nextOf (.ref it)) Q E s)
    (hQ : ∀ h', Heap.ExtBut it s.heap h' → Q none { s with heap := h' }) : wpAny (model prog w) A (pyNext (.ref e)) Q E s := by
  have hT : s.TypeIs (.ref e) "enumerate" := ⟨_, he, rfl⟩
  unfold pyNext
  refine wpAny_bind (wpAny_attempt (wpAny_callSpecial?_slot (name := Str.ofString "__next__") hT F.slot_enumerate_next (wpAny_call_entry F.slot_enumerate_next hT F.entry_enumerate_next ?_ (F.args_enumerate_next_1 _))))
  show wpAny _ _ (field (.ref e) 2 >>= _) _ _ _
  refine wpAny_bind (wpAny_field he rfl (x := .ref it) rfl ?_)
  refine wpAny_bind (done fun h' x he' hx' => ?_)
  obtain ⟨o, ho, hc⟩ := hx'
  refine wpAny_bind (wpAny_isInstance (T := "StopIteration") (b := true) ⟨o, ho, hc⟩ isSubtype_stop ?_)
  exact wpAny_pure (hQ _ he')
end
theorem turn_enumT {P : Program} {w : World} {K : PySem.W.Frag} {elts : List Expr} {kk : Nat} {tpos : Pos} (a e it : Addr) :
    Turn P w K (.Tuple elts kk tpos) (IteT K a) [e, it] e (fun i h => (∃ old, IsEnum h e it ((i : Nat) : Int) old) ∧ h.IsTupleIter it a i ∧ e ≠ it) where
  mem := by simp
  obj := fun i h st b hb => by
    obtain ⟨⟨old, he⟩, ⟨o, ho, _, hd⟩, _⟩ := st
    rcases (show b = e ∨ b = it by simpa using hb) with z | z
    · subst z; exact ⟨_, he, fun v q => nomatch q⟩
    · subst z; exact ⟨o, ho, fun v q => by rw [hd] at q; cases q⟩
  keep := fun i h h' st k => by
    obtain ⟨⟨old, he⟩, hi, hne⟩ := st
    exact ⟨⟨old, k e (by simp) _ he⟩, hi.at (fun o q => k it (by simp) o q), hne⟩
  item := by
    intro X hP hw hK hc i pins s σ H E I hf st hg
    subst hP hw hK
    obtain ⟨⟨old, he⟩, hit, hne⟩ := st
    obtain ⟨xs, x, hq, hx⟩ := hg
    obtain ⟨its, rv, pt, _⟩ := I.tuple hq
    obtain ⟨u, hu, ru⟩ := rv.get hx
    have el : e < s.heap.objs.size := Heap.lt_size he
    obtain ⟨oi, hoi, hci, hdi⟩ := id hit
    have il : it < s.heap.objs.size := Heap.lt_size hoi
    have hT : s.heap.IsTuple a its.toArray := pt
    obtain ⟨ot, hot, hct, nt, hdt⟩ := id hT
    have hai : a ≠ it := fun z => by
      rw [z, hoi] at hot
      cases hot
      rw [hci] at hct
      exact absurd hct (by decide)
    have hea : e ≠ a := fun z => by
      rw [← z, he] at hot
      cases hot
      injection hct with h1
      exact absurd h1 (by decide)
    have D := Draws.tuple (prog := X.prog) (w := X.w) (A := X.A.in1) (show X.A.in1.handled = none from I.ok.hd hc) it a hai its.toArray
    have hlt : i < its.toArray.size := by
      have := (List.getElem?_eq_some_iff.mp hu).1
      simpa using this
    refine wpAny_pyNext_enum_itemD D he ⟨hit, hT⟩ hlt hne (by simp [hne, hea]) fun y h' tk hy ho st' hT' hsz hk => ?_
    have ey : y = u := by
      have h1 : its[i]? = some y := by simpa using hy
      rw [hu] at h1
      exact (Option.some.inj h1).symm
    subst ey
    refine ⟨_, rfl, wpAny_letOwnedTupleGo_enum (s := { s with heap := h', toks := tk + 1 }) ho fun h'' he' sb => ?_⟩
    have hT2 : h''.get? s.heap.objs.size = some { cls := .type "tuple", data := .seq #[.int i tk, y] } := (sb.2 _ (Nat.ne_of_gt el)).trans hT'
    have new : ObjOk X.prog X.w (upd H s.heap.objs.size (.tup [.int (i : Nat), x])) h'' s.heap.objs.size (.tup [.int (i : Nat), x]) :=
      ⟨(by show 2 ≤ sizeLine; decide), [.int i tk, y], .cons ⟨_, rfl⟩ (.cons ru .nil), ⟨_, hT2, rfl, _, rfl⟩⟩
    have I1 : Inv X pins σ (upd H s.heap.objs.size (.tup [.int (i : Nat), x])) { s with heap := h'', toks := tk + 1 } := by
      refine I.turnedNew (ch := [e, it]) (fun b ob hb q => ?_) hf (Nat.le_refl _) new
      have hb1 : b ≠ e := fun z => hb (by simp [z])
      have hb2 : b ≠ it := fun z => hb (by simp [z])
      exact (sb.2 b hb1).trans (hk b ob hb1 hb2 q)
    refine ⟨.ref s.heap.objs.size, _, I1, rfl, ⟨_, x, rfl, I.hok.fresh (Nat.le_refl _), rfl, fun ys hy => ?_⟩, ⟨⟨y, ?_⟩, ?_, hne⟩, fun b hb => ?_⟩
    · rw [I.tuple_inj hy hq]
      exact hx
    · rw [show ((i + 1 : Nat) : Int) = (i : Int) + 1 by omega]
      exact he'
    · exact st'.1.at fun o q => (sb.2 it (Ne.symm hne)).trans q
    · have hb' : b < s.heap.objs.size := by
        rcases (show b = e ∨ b = it by simpa using hb) with z | z
        · subst z; exact el
        · subst z; exact il
      rw [upd_ne (Nat.ne_of_lt hb')]
      exact (hf b hb).1
  done := by
    intro X hP hw hK hc i pins s σ H E I hf st hg
    subst hP hw hK
    obtain ⟨⟨old, he⟩, hit, hne⟩ := st
    obtain ⟨xs, hq, hx⟩ := hg
    obtain ⟨its, rv, pt, _⟩ := I.tuple hq
    obtain ⟨f0, f1, f2, f3, f4, f5⟩ := hf it (by simp)
    have hl := rv.length
    obtain ⟨oi, hoi, hci, hdi⟩ := id hit
    have hT : s.heap.IsTuple a its.toArray := pt
    obtain ⟨ot, hot, hct, nt, hdt⟩ := id hT
    have hT' : X.A.in1.handled = none := I.ok.hd hc
    have hnone : its.toArray[i]? = none := by
      have : its[i]? = none := List.getElem?_eq_none_iff.mpr (by omega)
      simpa using this
    exact enum_endT (prog := X.prog) (w := X.w) he (fun hE => wpAny_nextOf_tuple_end (prog := X.prog) (w := X.w) (A := X.A.in1) hT' hit hT hnone hE) fun h' eb => ⟨rfl, I.turned (t' := s.toks) (fun b o hb q => eb b o hb q) f0 f1 f3 f4 f5⟩
  self := fun A i s Q E st h => by
    obtain ⟨⟨_, he⟩, _⟩ := st
    exact wpAny_pyIter_enum he h
end Py
set_option Elab.async false
set_option maxRecDepth 100000
set_option maxHeartbeats 4000000
set_option linter.all false
namespace Py
open PySem PySem.Spec PyProof.Rows L2
variable [CT]

section
variable {X : Cx} {tg e e2 : Expr} {fa fb : Ev} {p pos tpos : Pos}
def iEnumT (K : PySem.W.Frag) (ta : TA) : TI := fun σ H R => ta σ H fun vs H1 => ∃ a xs, vs = [.ref a] ∧ SqT K H1 a xs ∧ R (IteT K a) H1
theorem pi_enumT {ta : TA} {elts : List Expr} {kk : Nat} (hg : Gl X "enumerate") (hm : X.mg "enumerate" = none) (ha : PA X [e] ta) (hs : starEach [e] X.env = [(false, eval e X.env)] := by rfl) :
    PI X (.Tuple elts kk tpos) (.Call (.Name "enumerate" p) [e] [] pos) (iEnumT X.K ta) := by
  refine ⟨fun pins s σ H R I h => ?_⟩
  refine Call_ (ld_blt I hg hm boot_enumerate (PyProof.Rows.callWith_type1 (thn (ha.run pos pins s σ H _ I h) fun us s1 ⟨vs, H1, I1, r1, q1⟩ => ?_) hs rfl))
  obtain ⟨a, xs, ex, hq, q⟩ := q1
  subst ex
  cases r1 with
  | cons r rr =>
    cases rr
    cases r
    obtain ⟨its, rv, pt, _⟩ := I1.tuple hq
    have hT : s1.heap.IsTuple a its.toArray := pt
    refine call_enumT (begins_tuple a its.toArray) hT fun h' he hit hk => wpAny_pyIter_enum he ?_
    have I2 : Inv X pins σ H1 { s1 with heap := h' } := I1.kept (t' := s1.toks) hk
    refine ⟨s1.heap.objs.size + 1, [s1.heap.objs.size + 1, s1.heap.objs.size], _, _, H1, rfl, I2, turn_enumT a (s1.heap.objs.size + 1) s1.heap.objs.size, ⟨⟨.none, he⟩, ⟨_, hit, rfl, rfl⟩, Nat.succ_ne_self _⟩, fun b hb => ?_, q⟩
    have hle : s1.heap.objs.size ≤ b := by
      rcases (show b = s1.heap.objs.size + 1 ∨ b = s1.heap.objs.size by simpa using hb) with z | z
      · rw [z]; exact Nat.le_succ _
      · rw [z]; exact Nat.le_refl _
    exact I1.fpOk hle (I1.hok.fresh hle)
theorem pi_or {iter : Expr} {t1 t2 : TI} (h1 : PI X tg iter t1) (h2 : PI X tg iter t2) : PI X tg iter (fun σ H R => t1 σ H R ∨ t2 σ H R) := ⟨fun pins s σ H R I q => q.elim (h1.run pins s σ H R I) (h2.run pins s σ H R I)⟩

/-- what a for walks of a value -/
def iterP (p : PV) (S : Sto) : R (List PV) := match p with
  | .tup xs => .ok xs S
  | .lst xs => .ok xs S
  | .frl xs => .ok xs S
  | .str z => .ok (signs z) S
  | _ => .no
def iSeq (a : Ev) : Ei := fun ρ S => (a ρ S).bind iterP
theorem ei_seq (ha : EE X e fa) : EI X tg e (iSeq fa) :=
  pi_mono (pi_or (pi_or (pi_list ha) (pi_tup ha)) (pi_str ha)) fun σ H R ⟨μ, ρ, S, hE, hR, hF⟩ => by
    have hF := FitsG.bind hF
    revert hF
    cases hr : fa ρ S with
    | er => exact fun z => z.elim
    | no => exact fun z => z.elim
    | ok q S1 =>
      intro hF
      have mk : ∀ {kk : VK}, (∀ H1 μ1, Step H μ H1 μ1 → Rel X.K H1 μ1 S1 → FitsG X.K H1 μ1 (iterP q S1) (fun ps _ H' μ' => ∀ J, Walk X.K J H' μ' ps → R J H') → ∀ v, Rep X.K H1 μ1 v q → kk v H1) → tEv X.K fa σ H kk :=
        fun {kk} hk => ⟨μ, ρ, S, hE, hR, by rw [hr]; exact fun H1 μ1 s1 t1 v rv => hk H1 μ1 s1 t1 (hF H1 μ1 s1 t1) v rv⟩
      cases q with
      | tup xs =>
        refine .inl (.inr (mk fun H1 μ1 s1 t1 h1 v rv => ?_))
        obtain ⟨a, vs, rfl, g1, g2⟩ := rv.tup_inv
        exact ⟨a, rfl, ⟨vs, g1.sq⟩, FitsG.here h1 t1 _ (walk_tup (fun H' μ' st => (Keep.tupAt st g1).sq) g2)⟩
      | lst xs =>
        refine .inl (.inl (mk fun H1 μ1 s1 t1 h1 v rv => ?_))
        replace rv := rv.two
        rcases rv with rv | ⟨_, _, e, _⟩
        · cases rv with
          | lst h2 n h3 => exact ⟨_, rfl, ⟨_, .inl (.inl h2)⟩, FitsG.here h1 t1 _ (walk_list (fun H' μ' st => .inl (.inl (st _ _ h2 n inferInstance).1)) h3)⟩
        · cases e
      | frl xs =>
        refine .inl (.inl (mk fun H1 μ1 s1 t1 h1 v rv => ?_))
        replace rv := rv.two
        rcases rv with rv | ⟨_, _, e, _⟩
        · cases rv with
          | frl h2 h3 => exact ⟨_, rfl, ⟨_, h2.sq⟩, FitsG.here h1 t1 _ (walk_list (fun H' μ' st => (Keep.frlAt st h2).sq) h3)⟩
        · cases e
      | str z =>
        refine .inr (mk fun H1 μ1 s1 t1 h1 v rv => ?_)
        cases rep_str rv
        exact ⟨z, rfl, FitsG.here h1 t1 _ (walk_str z)⟩
      | non => exact .inl (.inl (mk fun H1 μ1 s1 t1 h1 v rv => h1.elim))
      | bl => exact .inl (.inl (mk fun H1 μ1 s1 t1 h1 v rv => h1.elim))
      | adr => exact .inl (.inl (mk fun H1 μ1 s1 t1 h1 v rv => h1.elim))
      | clo => exact .inl (.inl (mk fun H1 μ1 s1 t1 h1 v rv => h1.elim))
      | int => exact .inl (.inl (mk fun H1 μ1 s1 t1 h1 v rv => h1.elim))
      | dic => exact .inl (.inl (mk fun H1 μ1 s1 t1 h1 v rv => h1.elim))
      | ref => exact .inl (.inl (mk fun H1 μ1 s1 t1 h1 v rv => h1.elim))
/-- range(b), range(a, b) -/
def gRange (ps : List PV) (S : Sto) : R (List PV) := match ps with
  | [.int j] => if -(2 ^ 62) ≤ j ∧ j < 2 ^ 62 then .ok (intsFrom 0 j.toNat) S else .no
  | [.int i, .int j] => if -(2 ^ 62) ≤ i ∧ i < 2 ^ 62 ∧ -(2 ^ 62) ≤ j ∧ j < 2 ^ 62 then .ok (intsFrom i (j - i).toNat) S else .no
  | _ => .no
def iArgs (g : List PV → Sto → R (List PV)) (a : Ea) : Ei := fun ρ S => (a ρ S).bind g
variable {a b : Expr} {ea : Ea}
theorem ei_range1 (hg : Gl X "range") (hm : X.mg "range" = none) (ha : EA X [a] ea) (hn : ∀ ρ S ps S', ea ρ S = .ok ps S' → ps.length = 1) (hs : starEach [a] X.env = [(false, eval a X.env)] := by rfl) : EI X tg (.Call (.Name "range" p) [a] [] pos) (iArgs gRange ea) :=
  pi_mono (pi_range1 hg hm ha hs) fun σ H R ⟨μ, ρ, S, hE, hR, hF⟩ => by
    refine ⟨μ, ρ, S, hE, hR, ?_⟩
    have hl := hn ρ S
    revert hF hl
    unfold iArgs
    cases ea ρ S with
    | er => exact fun z _ => z.elim
    | no => exact fun z _ => z.elim
    | ok ps S1 =>
      intro hF hl H1 μ1 s1 t1 vs rv
      have h1 : FitsG X.K H1 μ1 (gRange ps S1) (fun ps _ H' μ' => ∀ J, Walk X.K J H' μ' ps → R J H') := hF.bind H1 μ1 s1 t1
      have hl := hl ps S1 rfl
      unfold gRange at h1
      split at h1
      · split at h1
        · rename_i hc
          obtain ⟨v, rfl, r1⟩ := rv.one
          cases rep_int r1
          exact ⟨_, rfl, hc.1, hc.2, FitsG.here h1 t1 _ (walk_range 0 _)⟩
        · exact h1.elim
      · simp at hl
      · exact h1.elim
theorem ei_range2 (hg : Gl X "range") (hm : X.mg "range" = none) (ha : EA X [a, b] ea) (hn : ∀ ρ S ps S', ea ρ S = .ok ps S' → ps.length = 2) (hs : starEach [a, b] X.env = [(false, eval a X.env), (false, eval b X.env)] := by rfl) (hs2 : starEach [b] X.env = [(false, eval b X.env)] := by rfl) : EI X tg (.Call (.Name "range" p) [a, b] [] pos) (iArgs gRange ea) :=
  pi_mono (pi_range2 hg hm ha hs hs2) fun σ H R ⟨μ, ρ, S, hE, hR, hF⟩ => by
    refine ⟨μ, ρ, S, hE, hR, ?_⟩
    have hl := hn ρ S
    revert hF hl
    unfold iArgs
    cases ea ρ S with
    | er => exact fun z _ => z.elim
    | no => exact fun z _ => z.elim
    | ok ps S1 =>
      intro hF hl H1 μ1 s1 t1 vs rv
      have h1 : FitsG X.K H1 μ1 (gRange ps S1) (fun ps _ H' μ' => ∀ J, Walk X.K J H' μ' ps → R J H') := hF.bind H1 μ1 s1 t1
      have hl := hl ps S1 rfl
      unfold gRange at h1
      split at h1
      · simp at hl
      · split at h1
        · rename_i hc
          obtain ⟨v, w, rfl, r1, r2⟩ := rv.two
          cases rep_int r1; cases rep_int r2
          exact ⟨_, _, rfl, hc, FitsG.here h1 t1 _ (walk_range _ _)⟩
        · exact h1.elim
      · exact h1.elim
def gEnum (ps : List PV) (S : Sto) : R (List PV) := match ps with
  | [.tup xs] => .ok (enumP 0 xs) S
  | [.lst xs] => .ok (enumP 0 xs) S
  | [.frl xs] => .ok (enumP 0 xs) S
  | _ => .no
theorem ei_enum {elts : List Expr} {kk : Nat} (hg : Gl X "enumerate") (hm : X.mg "enumerate" = none) (ha : EA X [a] ea) (hs : starEach [a] X.env = [(false, eval a X.env)] := by rfl) : EI X (.Tuple elts kk tpos) (.Call (.Name "enumerate" p) [a] [] pos) (iArgs gEnum ea) :=
  pi_mono (pi_or (pi_enum hg hm ha hs) (pi_enumT hg hm ha hs)) fun σ H R ⟨μ, ρ, S, hE, hR, hF⟩ => by
    have hF := FitsG.bind hF
    revert hF
    cases hr : ea ρ S with
    | er => exact fun z => z.elim
    | no => exact fun z => z.elim
    | ok ps S1 =>
      intro hF
      have mk : ∀ {kk : List V → Hp → Prop}, (∀ H1 μ1, Step H μ H1 μ1 → Rel X.K H1 μ1 S1 → FitsG X.K H1 μ1 (gEnum ps S1) (fun ps _ H' μ' => ∀ J, Walk X.K J H' μ' ps → R J H') → ∀ vs, Reps X.K H1 μ1 vs ps → kk vs H1) → tEa X.K ea σ H kk :=
        fun {kk} hk => ⟨μ, ρ, S, hE, hR, by rw [hr]; exact fun H1 μ1 s1 t1 v rv => hk H1 μ1 s1 t1 (hF H1 μ1 s1 t1) v rv⟩
      by_cases ht : ∃ xs, ps = [.tup xs]
      · obtain ⟨xs, rfl⟩ := ht
        refine .inr (mk fun H1 μ1 s1 t1 h1 vs rv => ?_)
        obtain ⟨v, rfl, r1⟩ := rv.one
        obtain ⟨a, ws, rfl, g1, g2⟩ := r1.tup_inv
        exact ⟨a, ws, rfl, g1.sq, FitsG.here h1 t1 _ (walk_enumT (fun H' μ' st => (Keep.tupAt st g1).sq) g2)⟩
      · refine .inl (mk fun H1 μ1 s1 t1 h1 vs rv => ?_)
        unfold gEnum at h1
        split at h1
        · exact absurd ⟨_, rfl⟩ ht
        · obtain ⟨v, rfl, r1⟩ := rv.one
          replace r1 := r1.two
          rcases r1 with r1 | ⟨_, _, e, _⟩
          · cases r1 with
            | lst h2 n h3 => exact ⟨_, _, rfl, .inl (.inl h2), FitsG.here h1 t1 _ (walk_enum (fun H' μ' st => .inl (.inl (st _ _ h2 n inferInstance).1)) h3)⟩
          · cases e
        · obtain ⟨v, rfl, r1⟩ := rv.one
          replace r1 := r1.two
          rcases r1 with r1 | ⟨_, _, e, _⟩
          · cases r1 with
            | frl h2 h3 => exact ⟨_, _, rfl, h2.sq, FitsG.here h1 t1 _ (walk_enum (fun H' μ' st => (Keep.frlAt st h2).sq) h3)⟩
          · cases e
        · exact h1.elim
def gZip (ps : List PV) (S : Sto) : R (List PV) := match ps with
  | [.tup xs, .tup ys] => .ok (zipP xs ys) S
  | _ => .no
theorem ei_zip {elts : List Expr} {kk : Nat} (hg : Gl X "zip") (hm : X.mg "zip" = none) (ha : EA X [a, b] ea) (hs : starEach [a, b] X.env = (false, eval a X.env) :: starEach [b] X.env := by rfl) (hpl : (backTo pos (starEach [b] X.env)).any (·.1) = false := by rfl) : EI X (.Tuple elts kk tpos) (.Call (.Name "zip" p) [a, b] [] pos) (iArgs gZip ea) :=
  pi_mono (RZ.pi_zipA hg hm ha hs hpl) fun σ H R ⟨μ, ρ, S, hE, hR, hF⟩ => ⟨μ, ρ, S, hE, hR, (FitsG.bind hF).imp fun ps S1 H1 μ1 s1 t1 h1 vs rv => by
    unfold gZip at h1
    split at h1
    · obtain ⟨v, w, rfl, r1, r2⟩ := rv.two
      obtain ⟨a, ws, rfl, g1, g2⟩ := r1.tup_inv
      obtain ⟨b, zs, rfl, k1, k2⟩ := r2.tup_inv
      exact ⟨a, b, ws, zs, rfl, .inr ⟨g1.sq, k1.sq, FitsG.here h1 t1 _ (walk_zipT (fun H' μ' st => (Keep.tupAt st g1).sq) (fun H' μ' st => (Keep.tupAt st k1).sq) g2 k2)⟩⟩
    · exact h1.elim⟩
end

/-! ### comprehensions -/
def wipeP (ρ : Env) : List Nat → Env
  | [] => ρ
  | v :: vs => (wipeP ρ vs).set v none
theorem ERel.wipe {K H μ} {σ : List (Option V)} {ρ : Env} (h : ERel K H μ σ ρ) : ∀ vs : List Nat, ERel K H μ (L2.wipe σ vs) (wipeP ρ vs)
  | [] => h
  | v :: vs => by
    show ERel K H μ ((L2.wipe σ vs).set v none) ((wipeP ρ vs).set v none)
    exact (ERel.wipe h vs).set v (show ORep K H μ none none from trivial)
def compF (g : Eg) (t : Et) (f : Ev) (ρ : Env) : List PV → List PV → Sto → R PV
  | [], acc, S => .ok (.lst acc) S
  | p :: ps, acc, S => (g p ρ S).bind fun ρ1 S1 => (t ρ1 S1).bind fun c S2 => if c = true then (f ρ1 S2).bind fun y S3 => if y.isRef = false ∧ acc.length < sizeLine then compF g t f ρ ps (acc ++ [y]) S3 else .no
    else compF g t f ρ ps acc S2
def fComp (it : Ei) (g : Eg) (t : Et) (f : Ev) (vs : List Nat) : Ev := fun ρ S => (it ρ S).bind fun ps S1 => compF g t f (wipeP ρ vs) ps [] S1
def tYesE : Et := fun _ S => .ok true S
theorem wipe_comm {σ : L2.St} {i : Nat} {x : Option V} : ∀ {vs : List Nat}, i ∉ vs → wipe (σ.set i x) vs = (wipe σ vs).set i x
  | [], _ => rfl
  | v :: vs, h => by
    have h1 : i ≠ v := fun e => h (by simp [e])
    show (wipe (σ.set i x) vs).set v none = ((wipe σ vs).set v none).set i x
    rw [wipe_comm fun q => h (List.mem_cons_of_mem _ q), List.set_comm _ _ h1]
theorem wipe_set {σ : L2.St} {i : Nat} {x : Option V} : ∀ {vs : List Nat}, i ∈ vs → wipe (σ.set i x) vs = wipe σ vs
  | [], h => by cases h
  | v :: vs, h => by
    show (wipe (σ.set i x) vs).set v none = (wipe σ vs).set v none
    by_cases hv : i ∈ vs
    · rw [wipe_set hv]
    · have : i = v := by
        rcases List.mem_cons.mp h with h | h
        · exact h
        · exact absurd h hv
      subst this
      rw [wipe_comm hv, List.set_set]
theorem wipe_wipe {σ : L2.St} : ∀ {us vs : List Nat}, (∀ i ∈ us, i ∈ vs) → wipe (wipe σ us) vs = wipe σ vs
  | [], _, _ => rfl
  | u :: us, vs, h => by
    show wipe ((wipe σ us).set u none) vs = wipe σ vs
    rw [wipe_set (h u (by simp)), wipe_wipe fun i q => h i (List.mem_cons_of_mem _ q)]

def Mem.resv (m : Mem) (D : Addr) : Mem := ⟨m.st, D :: m.rs⟩
end Py
set_option Elab.async false
set_option maxRecDepth 100000
set_option maxHeartbeats 4000000
set_option linter.all false
namespace Py
open PySem PySem.Spec PyProof.Rows L2
variable [CT]

section
variable {X : Cx}
/-- a target of a comprehension: it stores the item's parts into own slots -/
structure Tgt (K : PySem.W.Frag) (g : TG) (gP : Eg) (vs : List Nat) : Prop where
  ok : ∀ (v : V) (p : PV) (σ : L2.St) (ρ ρ' : Env) (S S' : Sto) (H : Hp) (μ : Mem) (Q : L2.St → Hp → Prop), Rep K H μ v p → ERel K H μ σ ρ → gP p ρ S = .ok ρ' S' → (∀ σ', ERel K H μ σ' ρ' → wipe σ' vs = wipe σ vs → S' = S → Q σ' H) → g v σ H Q
theorem tgt_name {K : PySem.W.Frag} {i : Nat} {vs : List Nat} (h : i ∈ vs) : Tgt K (gName i) (nName i) vs := ⟨fun v p σ ρ ρ' S S' H μ Q rv hE hg q => by
  unfold nName at hg
  cases hg
  exact q _ (hE.set i (show ORep K H μ (some v) (some p) from rv)) (wipe_set h) rfl⟩
/-- the names of a tuple's target -/
def gNs : List Nat → TGs
  | [] => gNil
  | i :: is => gCons (gName i) (gNs is)
def nNs : List Nat → Egs
  | [] => nNil
  | i :: is => nCons (nName i) (nNs is)
theorem tgts {K : PySem.W.Frag} {vs : List Nat} : ∀ {is : List Nat}, (∀ i ∈ is, i ∈ vs) → ∀ (us : List V) (ps : List PV) (σ : L2.St) (ρ ρ' : Env) (S S' : Sto) (H : Hp) (μ : Mem) (Q : L2.St → Hp → Prop), Reps K H μ us ps → ERel K H μ σ ρ → nNs is ps ρ S = .ok ρ' S' → (∀ σ', ERel K H μ σ' ρ' → wipe σ' vs = wipe σ vs → S' = S → Q σ' H) → gNs is us σ H Q
  | [], _, us, ps, σ, ρ, ρ', S, S', H, μ, Q, rv, hE, hg, q => by
    unfold nNs nNil at hg
    split at hg
    · cases rv
      cases hg
      exact ⟨rfl, q σ hE rfl rfl⟩
    · cases hg
  | i :: is, hm, us, ps, σ, ρ, ρ', S, S', H, μ, Q, rv, hE, hg, q => by
    unfold nNs nCons at hg
    split at hg
    · rename_i p qs
      cases rv with
      | cons r1 r2 =>
        rename_i u us
        refine ⟨u, us, rfl, ?_⟩
        have hg2 : nNs is qs (ρ.set i (some p)) S = .ok ρ' S' := hg
        exact tgts (fun j hj => hm j (List.mem_cons_of_mem _ hj)) us qs _ _ ρ' S S' H μ Q r2 (hE.set i (show ORep K H μ (some u) (some p) from r1)) hg2 fun σ' e w z => q σ' e (w.trans (wipe_set (hm i (by simp)))) z
    · cases hg
theorem tgt_tup {K : PySem.W.Frag} {n : Nat} {is vs : List Nat} (h : ∀ i ∈ is, i ∈ vs) : Tgt K (gTup K n (gNs is)) (nTup n (nNs is)) vs := ⟨fun v p σ ρ ρ' S S' H μ Q rv hE hg q => by
  unfold nTup at hg
  split at hg
  · split at hg
    · rename_i ps hn
      obtain ⟨a, us, rfl, g1, g2⟩ := rv.tup_inv
      exact ⟨a, us, rfl, g1.sq, by rw [g2.length]; exact hn, tgts h us ps σ ρ ρ' S S' H μ Q g2.reps hE hg q⟩
    · cases hg
  · cases hg⟩

theorem reserve {K : PySem.W.Frag} {H : Hp} {μ : Mem} {S : Sto} (t : Rel K H μ S) {D : Addr} (hD : H D = none) (o : List V) : Keep H μ (upd H D (.lst o)) (μ.resv D) ∧ Rel K (upd H D (.lst o)) (μ.resv D) S := by
  have k : Keep H μ (upd H D (.lst o)) (μ.resv D) := fun a u e n _ => by
    have ne : a ≠ D := ne_of_none e hD
    refine ⟨by rw [upd_ne ne]; exact e, fun q => ?_⟩
    rcases q with q | q
    · exact n (.inl q)
    · rcases List.mem_cons.mp q with q | q
      · exact ne q
      · exact n (.inr q)
  refine ⟨k, t.keep k rfl (fun a ha => upd_ne fun z => t.tracked ha (by rw [z]; exact hD)) (fun a ha => ?_) ?_⟩
  rotate_left
  · exact tabs_upd t.tab fun u e => by rw [hD] at e; cases e
  rcases List.mem_cons.mp ha with q | q
  · subst q; exact ⟨fun z => t.tracked z hD, o, upd_same⟩
  · exact t.resU hD _ a q

/-- at a turn: the new list holds what is made so far -/
structure CompAt (K : PySem.W.Frag) (H1 : Hp) (μ1 : Mem) (σ : L2.St) (ρ : Env) (D : Addr) (H' : Hp) (S' : Sto) (qs : List PV) (μ' : Mem) (acc : List V) : Prop where
  at_ : H' D = some (.lst acc)
  reps : RepPs K H' (μ'.resv D) acc qs
  rel : Rel K H' (μ'.resv D) S'
  stp : Step H1 μ1 H' μ'
  env : ERel K H' (μ'.resv D) σ ρ
  out : D ∉ μ'.st
section
variable {K : PySem.W.Frag} {H1 : Hp} {μ1 : Mem} {σ : L2.St} {ρ : Env} {D : Addr} {H' : Hp} {S' : Sto} {qs : List PV} {μ' : Mem} {acc : List V}
theorem CompAt.more (c : CompAt K H1 μ1 σ ρ D H' S' qs μ' acc) {H4 : Hp} {μ4 : Mem} (s : Step H' (μ'.resv D) H4 μ4) {S4 : Sto} (t : Rel K H4 μ4 S4) : ∃ μ5 : Mem, μ4 = μ5.resv D ∧ CompAt K H1 μ1 σ ρ D H4 S4 qs μ5 acc := by
  obtain ⟨ν, e, f⟩ := s.gro
  have e2 : μ4 = (μ'.grow ν).resv D := e
  refine ⟨μ'.grow ν, e2, s.ext _ _ c.at_ c.out inferInstance, by rw [← e2]; exact c.reps.step s, by rw [← e2]; exact t, ⟨fun a o h n z => ?_, fun a h => c.stp.dom a (s.dom a h), ?_⟩, by rw [← e2]; exact c.env.step s, ?_⟩
  · exact s.ext a o (c.stp.ext a o h n z) (c.stp.outS h n) z
  · obtain ⟨ν1, e1, f1⟩ := c.stp.gro
    refine ⟨ν1 ++ ν, by rw [e1, Mem.grow, Mem.grow, Mem.grow, List.append_assoc], fun a q => ?_⟩
    rcases List.mem_append.mp q with q | q
    · exact f1 a q
    · exact c.stp.dom a (f a q)
  · intro q
    rcases List.mem_append.mp q with q | q
    · exact c.out q
    · have := f D q
      rw [c.at_] at this
      cases this
theorem CompAt.push (c : CompAt K H1 μ1 σ ρ D H' S' qs μ' acc) (hD : H1 D = none) {y : V} {p : PV} (r : RepP K H' (μ'.resv D) y p) : CompAt K H1 μ1 σ ρ D (upd H' D (.lst (acc ++ [y]))) S' (qs ++ [p]) μ' (acc ++ [y]) := by
  have ne : ∀ a, a ∉ μ'.resv D → a ≠ D := fun a n z => n (by subst z; exact .inr (List.mem_cons_self ..))
  have k : Keep H' (μ'.resv D) (upd H' D (.lst (acc ++ [y]))) (μ'.resv D) := fun a o h n _ => ⟨by rw [upd_ne (ne a n)]; exact h, n⟩
  refine ⟨upd_same, (c.reps.keep k).append (.cons (r.keep k) .nil), c.rel.keep k rfl (fun a ha => upd_ne fun z => c.out (by rw [← z]; exact ha)) (fun a ha => ?_) (tabs_upd c.rel.tab fun u e => by rw [c.at_] at e; cases e; exact ⟨fun ps z => (by cases z), fun φ z => (by cases z)⟩), ⟨fun a o h n z => ?_, fun a h => ?_, c.stp.gro⟩, c.env.keep k rfl, c.out⟩
  · by_cases e : a = D
    · subst e; exact ⟨(c.rel.res a ha).1, _, upd_same⟩
    · exact ⟨(c.rel.res a ha).1, (c.rel.res a ha).2.imp fun l z => (upd_ne e).trans z⟩
  · rw [upd_ne (ne_of_none h hD)]
    exact c.stp.ext a o h n z
  · by_cases e : a = D
    · subst e; exact hD
    · rw [upd_ne e] at h; exact c.stp.dom a h
end

theorem FitsF.gone {K : PySem.W.Frag} {H : Hp} {μ : Mem} {α : Type} {r : R α} {f : α → List PV → R PV} {Q : VK} (h : FitsF K H μ (r.bind f) Q) : ∃ a S, r = .ok a S ∧ FitsF K H μ (f a S) Q := by
  cases r with
  | ok a S => exact ⟨a, S, rfl, h⟩
  | er => exact h.elim
  | no => exact h.elim
theorem FitsG.of_ok {K : PySem.W.Frag} {H : Hp} {μ : Mem} {α : Type} {r : R α} {a : α} {S : List PV} (e : r = .ok a S) {k : α → List PV → Hp → Mem → Prop} (h : ∀ H' μ', Step H μ H' μ' → Rel K H' μ' S → k a S H' μ') : FitsG K H μ r k := by
  subst e
  exact h

variable {elt tg iter : Expr} {ifs : List Expr} {scope : Scope} {own : List (Str × Nat)} {pos : Pos} {g : TG} {gP : Eg} {it : Ei} {ft : Et} {fe : Ev}
def EIfs (X : Cx) (ifs : List Expr) (f : Et) : Prop := PTs X ifs (tEt X.K f)
theorem ei_none {X : Cx} : EIfs X [] tYesE := ⟨fun pins s σ H Q I ⟨μ, ρ, S, hE, hR, hF⟩ => pts_nil.run pins s σ H Q I (FitsG.here hF hR)⟩
theorem ei_one {X : Cx} {c : Expr} {f : Et} (h : ET X c f) : EIfs X [c] f := pts_one h
theorem tLc_of (T : Tgt X.K g gP (own.map (·.2))) {σ : L2.St} {H : Hp} {Q : VK} (h : tEf X.K (fComp it gP ft fe (own.map (·.2))) σ H Q) : tLc (tEi X.K it) g (tEt X.K ft) (tEv X.K fe) (own.map (·.2)) σ H Q := by
  obtain ⟨μ, ρ, S, hE, hR, hF⟩ := h
  obtain ⟨ps, S1, eit, hF⟩ := FitsF.gone hF
  refine ⟨μ, ρ, S, hE, hR, FitsG.of_ok eit fun H1 μ1 s1 t1 J hJ D hD => ?_⟩
  have hF : FitsF X.K H1 μ1 (compF gP ft fe (wipeP ρ (own.map (·.2))) ps [] S1) Q := by
    have : FitsF X.K H μ (compF gP ft fe (wipeP ρ (own.map (·.2))) ps [] S1) Q := hF
    revert this
    generalize compF gP ft fe (wipeP ρ (own.map (·.2))) ps [] S1 = r
    intro h
    cases r with
    | ok b S2 =>
      intro H2 μ2 p hp hrs s2 t2
      refine h H2 μ2 p (s1.dom p hp) ?_ (s1.trans s2) t2
      obtain ⟨ν, e, _⟩ := s1.gro
      subst e
      exact hrs
    | er => exact h
    | no => exact h
  obtain ⟨k0, r0⟩ := reserve t1 hD []
  have e0 : ERel X.K (upd H1 D (.lst [])) (μ1.resv D) (wipe σ (own.map (·.2))) (wipeP ρ (own.map (·.2))) := ((hE.step s1).wipe _).keep k0 rfl
  refine ⟨fun i m H' => m = ps.length - i ∧ i ≤ ps.length ∧ ∃ S' qs μ' acc, CompAt X.K H1 μ1 (wipe σ (own.map (·.2))) (wipeP ρ (own.map (·.2))) D H' S' qs μ' acc ∧ FitsF X.K H1 μ1 (compF gP ft fe (wipeP ρ (own.map (·.2))) (ps.drop i) qs S') Q,
    ⟨ps.length, by simp, Nat.zero_le _, S1, [], μ1, [], ⟨upd_same, .nil, r0, ⟨(Step.laid H1 μ1 hD _).ext, (Step.laid H1 μ1 hD _).dom, [], by simp [Mem.grow], by simp⟩, e0, Mem.nst (t1.out hD)⟩, by simpa using hF⟩, ?_⟩
  rintro i m H' ⟨rfl, hi, S', qs, μ', acc, c, h'⟩
  by_cases hlt : i < ps.length
  · refine .inr ⟨hJ.go i H' μ' c.stp.keep hlt, fun H2 => i + 1 ≤ ps.length ∧ ∃ S' qs μ' acc, CompAt X.K H1 μ1 (wipe σ (own.map (·.2))) (wipeP ρ (own.map (·.2))) D H2 S' qs μ' acc ∧ FitsF X.K H1 μ1 (compF gP ft fe (wipeP ρ (own.map (·.2))) (ps.drop (i + 1)) qs S') Q, fun H2 z => ⟨ps.length - (i + 1), by omega, rfl, z.1, z.2⟩, fun x H2 hy => ?_⟩
    have kp : Keep H1 μ1 H' (μ'.resv D) := fun a o h n nt => by
      obtain ⟨h1, h2⟩ := c.stp.keep a o h n nt
      refine ⟨h1, fun q => ?_⟩
      rcases q with q | q
      · exact h2 (.inl q)
      · rcases List.mem_cons.mp q with q | q
        · rw [q, hD] at h; cases h
        · exact h2 (.inr q)
    obtain ⟨p, ep, s2, t2, rx⟩ := hJ.yld i H' (μ'.resv D) S' x H2 kp c.rel hlt hy
    have ed : ps.drop i = p :: ps.drop (i + 1) := by
      rw [List.drop_eq_getElem_cons hlt]
      rw [List.getElem?_eq_getElem hlt] at ep
      rw [Option.some.inj ep]
    rw [ed] at h'
    obtain ⟨μ2, em, c2⟩ := c.more s2 t2
    have em2 : μ2.resv D = μ'.resv D := em.symm
    rw [compF] at h'
    obtain ⟨ρ1, Sa, eg, h'⟩ := FitsF.gone h'
    obtain ⟨b, Sb, et, h'⟩ := FitsF.gone h'
    refine T.ok x p _ _ ρ1 S' Sa H2 (μ2.resv D) _ (by rw [em2]; exact rx) c2.env eg fun σ1 e1 w1 eS => ?_
    subst eS
    refine ⟨w1.trans (wipe_wipe fun i q => q), μ2.resv D, ρ1, Sa, e1, c2.rel, FitsG.of_ok et fun H3 μ3 s3 t3 => ?_⟩
    obtain ⟨μ4, rfl, c3⟩ := c2.more s3 t3
    show if b = true then _ else _
    cases b with
    | false =>
      exact iteF ⟨hlt, Sb, qs, μ4, acc, c3, by simpa using h'⟩
    | true =>
      rw [if_pos rfl] at h'
      obtain ⟨y, Sc, ey, h'⟩ := FitsF.gone h'
      split at h'
      · rename_i hc
        refine iteT ⟨μ4.resv D, ρ1, Sb, e1.step s3, c3.rel, FitsG.of_ok ey fun H5 μ5 s5 t5 v rv => ?_⟩
        obtain ⟨μ6, rfl, c5⟩ := c3.more s5 t5
        exact ⟨acc, c5.at_, by rw [c5.reps.length]; exact hc.2, hlt, Sc, qs ++ [y], μ6, acc ++ [v], c5.push hD (rv.pure hc.1), h'⟩
      · exact h'.elim
  · have e : i = ps.length := by omega
    subst e
    rw [List.drop_length] at h'
    refine .inl ⟨hJ.stop H' μ' c.stp.keep, ?_⟩
    have h2 : FitsF X.K H1 μ1 (.ok (.lst qs) S') Q := h'
    refine h2 H' μ' D hD (fun q => t1.resn q hD) c.stp ?_
    have sub : ∀ a, a ∈ μ'.grow [D] → a ∈ μ'.resv D := fun a q => by
      rcases q with q | q
      · rcases List.mem_append.mp q with q | q
        · exact .inl q
        · rw [List.mem_singleton.mp q]; exact .inr (List.mem_cons_self ..)
      · exact .inr (List.mem_cons_of_mem _ q)
    refine ⟨by have := c.rel.len; simpa [Mem.grow, Mem.resv] using this, List.nodup_append.mpr ⟨c.rel.nd, by simp, fun a ha b hb => ?_⟩, fun n a ob e1 e2 => ?_, fun a q => ⟨fun z => (List.mem_append.mp z).elim (c.rel.res a (List.mem_cons_of_mem _ q)).1 fun z => t1.resn (by rw [← c.stp.rse, ← List.mem_singleton.mp z]; exact q) hD, (c.rel.res a (List.mem_cons_of_mem _ q)).2⟩, c.rel.tab⟩
    · rw [List.mem_singleton.mp hb]
      intro z
      exact c.out (by rw [← z]; exact ha)
    · have e1 : (μ'.st ++ [D])[n]? = some a := e1
      have len : μ'.st.length = S'.length := c.rel.len
      by_cases hn : n < μ'.st.length
      · rw [List.getElem?_append_left hn] at e1
        rw [List.getElem?_append_left (by rw [← len]; exact hn)] at e2
        exact (c.rel.obj n a ob e1 e2).sub sub
      · have e : n = μ'.st.length := by
          have := (List.getElem?_eq_some_iff.mp e1).1
          simp at this; omega
        subst e
        rw [List.getElem?_append_right (Nat.le_refl _)] at e1
        rw [List.getElem?_append_right (by rw [len]; exact Nat.le_refl _)] at e2
        simp [len] at e1 e2
        subst e1 e2
        exact ⟨acc, c.at_, c.reps.sub sub⟩
end
end Py
set_option Elab.async false
set_option maxRecDepth 100000
set_option maxHeartbeats 4000000
set_option linter.all false
namespace Py
open PySem PySem.Spec PyProof.Rows L2
variable [CT]

/-! ### a comprehension, as a value; as a statement -/
section
variable {X : Cx} {elt tg iter : Expr} {ifs : List Expr} {scope : Scope} {own : List (Str × Nat)} {pos : Pos} {g : TG} {gP : Eg} {it : Ei} {ft : Et} {fe : Ev}
theorem ef_comp (hc : X.calm = true) (hN : X.N.Nodup) (ok : BlkOk X.N X.env.scope scope own) (T : Tgt X.K g gP (own.map (·.2))) (hi : EI X tg iter it)
    (hg : ∀ (s : Shared) (H : Hp) (C : Addr) (cl : List (Str × Addr)) (fp : List Addr), PG (X.blk s H scope (compEnvC scope cl C X.env) fp) tg g)
    (ht : ∀ (s : Shared) (H : Hp) (C : Addr) (cl : List (Str × Addr)) (fp : List Addr), EIfs (X.blk s H scope (compEnvC scope cl C X.env) fp) ifs ft)
    (he : ∀ (s : Shared) (H : Hp) (C : Addr) (cl : List (Str × Addr)) (fp : List Addr), EE (X.blk s H scope (compEnvC scope cl C X.env) fp) elt fe)
    (hs : ∀ x, foldedSetIterable iter X.env x = pure x := by intro _; rfl) : EF X (.ListComp elt [⟨tg, iter, ifs, 0⟩] scope pos) (fComp it gP ft fe (own.map (·.2))) :=
  pe_mono (pe_lc (tt := tEt X.K ft) (te := tEv X.K fe) hc hN hi ok hg ht he hs) fun σ H Q h => tLc_of T h
theorem tEs_setP {K : PySem.W.Frag} {f : Ev} {t : TE} {i : Nat} {D : Ends} {σ : L2.St} {H : Hp} (hf : ∀ σ H Q, tEf K f σ H Q → t σ H Q) (h : tEs K (sSet i f) D σ H) : tAsg t (gName i) D σ H :=
  hf σ H _ (tEf_pure (tEs_set h))
theorem tEs_setN {K : PySem.W.Frag} {f : Ev} {t : TE} {i : Nat} {D : Ends} {σ : L2.St} {H : Hp} (hf : ∀ σ H Q, tEf K f σ H Q → t σ H Q) (h : tEs K (sSet i (eNew f)) D σ H) : tAsg t (gName i) D σ H :=
  hf σ H _ (tEf_new (tEs_set h))
theorem es_comp {i : Nat} {st : Stmt} (T : Tgt X.K g gP (own.map (·.2))) (h : PS X st (tAsg (tLc (tEi X.K it) g (tEt X.K ft) (tEv X.K fe) (own.map (·.2))) (gName i))) : ES X st (sSet i (fComp it gP ft fe (own.map (·.2)))) :=
  ps_mono h fun D σ H h => tEs_setP (fun σ H Q z => tLc_of T z) h
theorem es_compN {i : Nat} {st : Stmt} (T : Tgt X.K g gP (own.map (·.2))) (h : PS X st (tAsg (tLc (tEi X.K it) g (tEt X.K ft) (tEv X.K fe) (own.map (·.2))) (gName i))) : ES X st (sSet i (eNew (fComp it gP ft fe (own.map (·.2))))) :=
  ps_mono h fun D σ H h => tEs_setN (fun σ H Q z => tLc_of T z) h
end

/-! ### calls of defs -/
abbrev Fn := List PV → Sto → R PV
def FitsC (K : PySem.W.Frag) (H : Hp) (μ : Mem) (r : R PV) (Q : VK) : Prop := match r with
  | .ok p S' => ∀ H', Step H μ H' μ → Rel K H' μ S' → ∀ v, Rep K H' μ v p → Q v H'
  | _ => False
def FitsN (K : PySem.W.Frag) (H : Hp) (μ : Mem) (r : R PV) (Q : VK) : Prop := match r with
  | .ok o S' => ∀ H' a, H a = none → a ∉ μ.rs → Step H μ H' μ → Rel K H' (μ.grow [a]) (S' ++ [o]) → Q (.ref a) H'
  | _ => False
/-- what a def promises: its value; a new list or dict -/
def spM (K : PySem.W.Frag) (m : Fn) : Sp := fun vs H Q _ => ∃ μ ps S, Reps K H μ vs ps ∧ Rel K H μ S ∧ FitsC K H μ (m ps S) Q
def spN (K : PySem.W.Frag) (m : Fn) : Sp := fun vs H Q _ => ∃ μ ps S, Reps K H μ vs ps ∧ Rel K H μ S ∧ FitsN K H μ (m ps S) Q
section
variable {X : Cx} {k : Nat} {f : Addr} {fd : FuncData} {ps : List Str} {m : Fn} {x : Str} {p pos : Pos} {e : Expr} {es : List Expr} {fa : Ea}
theorem ee_call (F : FnOk X.prog X.w X.K X.mg X.base CX0 k f fd ps (spM X.K m)) (hr : Room k X.A) (hg : Gl X x) (hm : X.mg x = some (.ref f)) (hk : PySem.W.keepIn X.K (.ref f) = true) (hb : Binds X.K fd ps [])
    (ha : EA X (e :: es) fa) (hdb : (x == ("__debug__" : Str)) = false := by decide) (he : starEach (e :: es) X.env = (false, eval e X.env) :: starEach es X.env := by rfl) (hpl : (backTo pos (starEach es X.env)).any (·.1) = false := by rfl) : EE X (.Call (.Name x p) (e :: es) [] pos) (eArgs m fa) :=
  pe_mono (pe_call F hr hg hm hk hb .nil pass0 ha hdb he hpl) fun σ H Q h => args (r := fun vs H1 Q => spM X.K m (vs ++ []) H1 Q E0) h fun H2 μ2 S2 vs ps rv t hF => by
    refine ⟨μ2, ps, S2, by rw [List.append_nil]; exact rv, t, ?_⟩
    revert hF
    cases m ps S2 with
    | ok q S3 => exact fun hF H' st t' v r => hF H' μ2 st t' v r
    | er => exact fun z => z
    | no => exact fun z => z
theorem ef_call (F : FnOk X.prog X.w X.K X.mg X.base CX0 k f fd ps (spN X.K m)) (hr : Room k X.A) (hg : Gl X x) (hm : X.mg x = some (.ref f)) (hk : PySem.W.keepIn X.K (.ref f) = true) (hb : Binds X.K fd ps [])
    (ha : EA X (e :: es) fa) (hdb : (x == ("__debug__" : Str)) = false := by decide) (he : starEach (e :: es) X.env = (false, eval e X.env) :: starEach es X.env := by rfl) (hpl : (backTo pos (starEach es X.env)).any (·.1) = false := by rfl) : EF X (.Call (.Name x p) (e :: es) [] pos) (eArgs m fa) :=
  pe_mono (pe_call F hr hg hm hk hb .nil pass0 ha hdb he hpl) fun σ H Q h => argsF (r := fun vs H1 Q => spN X.K m (vs ++ []) H1 Q E0) h fun H2 μ2 S2 vs ps rv t hF => by
    refine ⟨μ2, ps, S2, by rw [List.append_nil]; exact rv, t, ?_⟩
    revert hF
    cases m ps S2 with
    | ok q S3 => exact fun hF H' a h1 h2 st t' => hF H' μ2 a h1 h2 st t'
    | er => exact fun z => z
    | no => exact fun z => z
theorem ef_call0 (F : FnOk X.prog X.w X.K X.mg X.base CX0 k f fd ps (spN X.K m)) (hr : Room k X.A) (hg : Gl X x) (hm : X.mg x = some (.ref f)) (hk : PySem.W.keepIn X.K (.ref f) = true) (hb : Binds X.K fd ps [])
    (hdb : (x == ("__debug__" : Str)) = false := by decide) : EF X (.Call (.Name x p) [] [] pos) (fun _ S => m [] S) :=
  pe_mono (pe_call0 F hr hg hm hk hb .nil pass0 hdb) fun σ H Q ⟨μ, ρ, S, hE, hR, hF⟩ => by
    refine ⟨μ, [], S, .nil, hR, ?_⟩
    have hF : FitsF X.K H μ (m [] S) Q := hF
    revert hF
    cases m [] S with
    | ok q S3 => exact fun hF H' a h1 h2 st t' => hF H' μ a h1 h2 st t'
    | er => exact fun z => z
    | no => exact fun z => z
end

/-! ### a def's body -/
def finV (n : Nat) (p : PV) (S : Sto) : R PV := match p with
  | .ref m => if m < n then .ok (.ref m) (S.take n) else match S[m]? with
    | some o => .ok o (S.take n)
    | none => .no
  | .clo _ _ => .no
  | p => .ok p (S.take n)
def finF (n : Nat) (fl : Fl) (S : Sto) : R PV := match fl with
  | .rt p => finV n p S
  | .nx _ => finV n .non S
  | _ => .no
/-- its end where a new object is promised -/
def finO (n : Nat) (fl : Fl) (S : Sto) : R PV := match fl with
  | .rt (.ref m) => if m < n then .no else match S[m]? with
    | some o => .ok o (S.take n)
    | none => .no
  | _ => .no
def startP (N : Nat) (ps : List PV) : Env := ps.map some ++ List.replicate (N - ps.length) none
def mkDef (n N : Nat) (g : Es) : Fn := fun ps S => if ps.length = n then (g (startP N ps) S).bind (finF S.length) else .no
def mkNew (n N : Nat) (g : Es) : Fn := fun ps S => if ps.length = n then (g (startP N ps) S).bind (finO S.length) else .no
theorem ERel.append {K : PySem.W.Frag} {H : Hp} {μ : Mem} {σ τ : List (Option V)} {ρ π : Env} (h : ERel K H μ σ ρ) (g : ERel K H μ τ π) : ERel K H μ (σ ++ τ) (ρ ++ π) := by
  induction h with
  | nil => exact g
  | cons h _ ih => exact .cons h ih
theorem Reps.somes {K : PySem.W.Frag} {H : Hp} {μ : Mem} {vs : List V} {ps : List PV} (r : Reps K H μ vs ps) : ERel K H μ (vs.map some) (ps.map some) := by
  induction r with
  | nil => exact .nil
  | cons h _ ih => exact .cons h ih
theorem ERel.nones {K : PySem.W.Frag} {H : Hp} {μ : Mem} : ∀ n : Nat, ERel K H μ (List.replicate n none) (List.replicate n none)
  | 0 => .nil
  | n + 1 => .cons (show ORep K H μ none none from trivial) (ERel.nones n)
theorem ERel.start {K : PySem.W.Frag} {H : Hp} {μ : Mem} {vs : List V} {ps : List PV} (r : Reps K H μ vs ps) (N : List Str) : ERel K H μ (L2.start N vs) (startP N.length ps) := by
  unfold L2.start startP
  rw [Paired.length r]
  exact r.somes.append (ERel.nones _)
section
variable {K : PySem.W.Frag} {H H' : Hp} {μ μ' : Mem} {S S1 : Sto}
theorem Mem.sub_grow (μ : Mem) (ν : List Addr) : ∀ a, a ∈ μ → a ∈ μ.grow ν := fun a q => q.elim (fun q => .inl (List.mem_append_left _ q)) .inr
theorem trunc (t : Rel K H μ S) (s : Step H μ H' μ') (t1 : Rel K H' μ' S1) : Step H μ H' μ ∧ Rel K H' μ (S1.take S.length) := by
  obtain ⟨ν, e, f⟩ := s.gro
  subst e
  have le : μ.st.length ≤ S1.length := by have := t1.len; simp [Mem.grow] at this; omega
  refine ⟨⟨s.ext, s.dom, [], by simp [Mem.grow], by simp⟩, ⟨by simp [← t.len]; omega, t.nd, fun n a o e1 e2 => ?_, fun a q => ⟨fun z => (t1.res a q).1 (List.mem_append_left _ z), (t1.res a q).2⟩, t1.tab⟩⟩
  have hn := (List.getElem?_eq_some_iff.mp e1).1
  refine (t1.obj n a o ?_ ?_).sub (μ.sub_grow ν)
  · show (μ.st ++ ν)[n]? = some a
    rw [List.getElem?_append_left hn]; exact e1
  · rw [← t.len, List.getElem?_take_of_lt hn] at e2; exact e2
theorem late (t : Rel K H μ S) (s : Step H μ H' μ') (t1 : Rel K H' μ' S1) {m : Nat} {o : PV} (hm : ¬ m < S.length) (e : S1[m]? = some o) {a : Addr} (ea : μ'.st[m]? = some a) : H a = none ∧ a ∉ μ ∧ ObjR K H' μ a o := by
  obtain ⟨ν, e0, f⟩ := s.gro
  subst e0
  have ea : (μ.st ++ ν)[m]? = some a := ea
  rw [List.getElem?_append_right (by rw [t.len]; omega)] at ea
  have hν := List.mem_of_getElem? ea
  have ha := f a hν
  refine ⟨ha, t.out ha, (t1.obj m a o ?_ e).sub (μ.sub_grow ν)⟩
  show (μ.st ++ ν)[m]? = some a
  rw [List.getElem?_append_right (by rw [t.len]; omega)]
  exact ea
theorem finV_ok {Q : VK} {p : PV} {v : V} (t : Rel K H μ S) (s : Step H μ H' μ') (t1 : Rel K H' μ' S1) (r : Rep K H' μ' v p) (h : FitsC K H μ (finV S.length p S1) Q) : Q v H' := by
  obtain ⟨s2, t2⟩ := trunc t s t1
  have sub : ∀ b, b ∈ μ → b ∈ μ' := fun b q => by
    obtain ⟨ν, e, f⟩ := s.gro
    subst e
    exact q.elim (fun q => .inl (List.mem_append_left _ q)) .inr
  rcases r with r | ⟨m, a, e1, e2, e3⟩ | ⟨_, _, _, _, _, e1, _⟩
  · unfold finV at h
    split at h
    · cases r
    · exact h.elim
    · exact (show FitsC K H μ (.ok _ _) Q from h) H' s2 t2 v (.inl (r.sub sub))
  · subst e1 e3
    unfold finV at h
    simp only at h
    split at h
    · rename_i hm
      refine (show FitsC K H μ (.ok _ _) Q from h) H' s2 t2 _ (.inr (.inl ⟨m, a, rfl, ?_, rfl⟩))
      obtain ⟨ν, e0, f⟩ := s.gro
      subst e0
      have e2 : (μ.st ++ ν)[m]? = some a := e2
      rw [List.getElem?_append_left (by rw [t.len]; exact hm)] at e2
      exact e2
    · rename_i hm
      split at h
      · rename_i o eo
        obtain ⟨_, n1, o1⟩ := late t s t1 hm eo e2
        exact (show FitsC K H μ (.ok _ _) Q from h) H' s2 t2 _ (.inl (o1.repP n1))
      · exact h.elim
  · subst e1
    exact h.elim
theorem finO_ok {Q : VK} {fl : Fl} {v : V} {m : Nat} (t : Rel K H μ S) (s : Step H μ H' μ') (t1 : Rel K H' μ' S1) (r : Rep K H' μ' v (.ref m)) (h : FitsN K H μ (finO S.length (.rt (.ref m)) S1) Q) : Q v H' := by
  obtain ⟨s2, t2⟩ := trunc t s t1
  replace r := r.two
  rcases r with r | ⟨m', a, e1, e2, e3⟩
  · cases r
  · cases e1
    subst e3
    unfold finO at h
    simp only at h
    split at h
    · exact h.elim
    · rename_i hm
      split at h
      · rename_i o eo
        obtain ⟨h0, n1, o1⟩ := late t s t1 hm eo e2
        have sub : ∀ b, b ∈ μ.grow [a] → b ∈ μ' := fun b q => by
          rcases q with q | q
          · rcases List.mem_append.mp q with q | q
            · obtain ⟨ν, e, f⟩ := s.gro
              subst e
              exact .inl (List.mem_append_left _ q)
            · rw [List.mem_singleton.mp q]
              exact .inl (List.mem_of_getElem? e2)
          · obtain ⟨ν, e, f⟩ := s.gro
            subst e
            exact .inr q
        refine (show FitsN K H μ (.ok o (S1.take S.length)) Q from h) H' a h0 (fun q => n1 (.inr q)) s2 ⟨?_, ?_, fun n b ob e1 e4 => ?_, fun b q => ?_, t1.tab⟩
        · simp [Mem.grow, t2.len]
        · exact List.nodup_append.mpr ⟨t.nd, by simp, fun b hb c hc => by
            rw [List.mem_singleton.mp hc]; intro z; rw [z] at hb; exact n1 (.inl hb)⟩
        · have e1 : (μ.st ++ [a])[n]? = some b := e1
          have l2 := t2.len
          obtain ⟨ν, e5, f⟩ := s.gro
          subst e5
          by_cases hn : n < μ.st.length
          · rw [List.getElem?_append_left hn] at e1
            rw [List.getElem?_append_left (by rw [← l2]; exact hn), ← t.len, List.getElem?_take_of_lt hn] at e4
            refine (t1.obj n b ob ?_ e4).sub sub
            show (μ.st ++ ν)[n]? = some b
            rw [List.getElem?_append_left hn]; exact e1
          · have en : n = μ.st.length := by
              have := (List.getElem?_eq_some_iff.mp e1).1
              simp at this; omega
            subst en
            rw [List.getElem?_append_right (Nat.le_refl _)] at e1
            rw [List.getElem?_append_right (by rw [← l2]; exact Nat.le_refl _)] at e4
            simp [← l2] at e1 e4
            subst e1 e4
            exact (t1.obj m a o e2 eo).sub sub
        · obtain ⟨ν, e5, f⟩ := s.gro
          subst e5
          refine ⟨fun z => (t1.res b q).1 ?_, (t1.res b q).2⟩
          rcases List.mem_append.mp z with z | z
          · exact List.mem_append_left _ z
          · rw [List.mem_singleton.mp z]; exact List.mem_of_getElem? e2
      · exact h.elim
end
section
variable {P : Program} {w : World} {K : PySem.W.Frag} {mg : Str → Option Value} {base : Heap} {x qual : Str} {params : Arguments} {body : List Stmt} {scope : Scope} {f : Addr} {fd : FuncData} {N pn : List Str} {k : Nat} {g : Es}
theorem fn_def (F : FunD K x qual params body scope [] [] f fd) (S : FnScope N pn scope)
    (hbody : ∀ (cdv : Value) (A : Around) (outer : List PySem.Env) (s : Shared) (H : Hp) (E : XK), Room k (A.deeper (envOfC qual scope s.heap.objs.size f cdv)) → ESs (cxOf CX0 P w K mg base N qual scope f cdv A outer s H E).nox body g) :
    FnOk P w K mg base CX0 (k + 1) f fd pn (spM K (mkDef pn.length N.length g)) := by
  refine F.ok S (fun vs H Q E ⟨μ, ps, S, rv, t, hF⟩ => ?_) (fun cdv A outer s H vs Q E hr ⟨μ, ps, S, rv, t, hF⟩ => ⟨_, (hbody cdv A outer s H E hr).nox, ?_⟩)
  · unfold mkDef at hF
    split at hF
    · rename_i h
      rw [Paired.length rv]; exact h
    · exact hF.elim
  · unfold mkDef at hF
    split at hF
    · refine ⟨μ, startP N.length ps, S, ERel.start rv N, t, ?_⟩
      revert hF
      cases g (startP N.length ps) S with
      | er => exact fun z => z
      | no => exact fun z => z
      | ok fl S1 =>
        intro hF H' μ' s1 t1
        have hF : FitsC K H μ (finF S.length fl S1) Q := hF
        cases fl with
        | rt p => exact fun v r => finV_ok t s1 t1 r hF
        | nx ρ => exact fun σ _ => finV_ok t s1 t1 (.inl .non) hF
        | bk ρ => exact hF.elim
        | ct ρ => exact hF.elim
    · exact hF.elim
theorem fn_new (F : FunD K x qual params body scope [] [] f fd) (S : FnScope N pn scope)
    (hbody : ∀ (cdv : Value) (A : Around) (outer : List PySem.Env) (s : Shared) (H : Hp) (E : XK), Room k (A.deeper (envOfC qual scope s.heap.objs.size f cdv)) → ESs (cxOf CX0 P w K mg base N qual scope f cdv A outer s H E).nox body g) :
    FnOk P w K mg base CX0 (k + 1) f fd pn (spN K (mkNew pn.length N.length g)) := by
  refine F.ok S (fun vs H Q E ⟨μ, ps, S, rv, t, hF⟩ => ?_) (fun cdv A outer s H vs Q E hr ⟨μ, ps, S, rv, t, hF⟩ => ⟨_, (hbody cdv A outer s H E hr).nox, ?_⟩)
  · unfold mkNew at hF
    split at hF
    · rename_i h
      rw [Paired.length rv]; exact h
    · exact hF.elim
  · unfold mkNew at hF
    split at hF
    · refine ⟨μ, startP N.length ps, S, ERel.start rv N, t, ?_⟩
      revert hF
      cases g (startP N.length ps) S with
      | er => exact fun z => z
      | no => exact fun z => z
      | ok fl S1 =>
        intro hF H' μ' s1 t1
        have hF : FitsN K H μ (finO S.length fl S1) Q := hF
        cases fl with
        | rt p =>
          cases p with
          | ref m => exact fun v r => finO_ok (fl := .nx []) t s1 t1 r hF
          | _ => exact hF.elim
        | nx ρ => exact hF.elim
        | bk ρ => exact hF.elim
        | ct ρ => exact hF.elim
    · exact hF.elim
end
end Py
set_option Elab.async false
set_option maxRecDepth 100000
set_option maxHeartbeats 4000000
set_option linter.all false
namespace Py
open PySem PySem.Spec PyProof.Rows L2
variable [CT]

/-! ### methods of lists -/
def gApp (x y : PV) (S : Sto) : R PV := match x with
  | .ref n => match S[n]? with
    | some (.lst xs) => if y.isRef = false ∧ xs.length < sizeLine then .ok .non (S.set n (.lst (xs ++ [y]))) else .no
    | _ => .no
  | _ => .no
def gExt (x y : PV) (S : Sto) : R PV := match x, y with
  | .ref n, .lst ys => match S[n]? with
    | some (.lst xs) => if xs.length + ys.length ≤ sizeLine then .ok .non (S.set n (.lst (xs ++ ys))) else .no
    | _ => .no
  | _, _ => .no
def gPop (x : PV) (S : Sto) : R PV := match x with
  | .ref n => match S[n]? with
    | some (.lst xs) => match xs[xs.length - 1]? with
      | some y => .ok y (S.set n (.lst xs.dropLast))
      | none => .no
    | _ => .no
  | _ => .no
def gPopAt (x y : PV) (S : Sto) : R PV := match x, y with
  | .ref n, .int i => match S[n]? with
    | some (.lst xs) => if -(2 ^ 63) ≤ i ∧ i < 2 ^ 63 then match seqIndex? i xs.length with
      | some k => match xs[k]? with
        | some y => .ok y (S.set n (.lst (xs.eraseIdx k)))
        | none => .no
      | none => .no
      else .no
    | _ => .no
  | _, _ => .no
def isLst (p : PV) (S : Sto) : Bool := (getL p S).isSome
def eMeth0 (g : PV → Sto → R PV) (a : Ev) : Ev := fun ρ S => (a ρ S).bind fun x S1 => if isLst x S1 = true then g x S1 else .no
def eMeth1 (g : PV → PV → Sto → R PV) (a b : Ev) : Ev := fun ρ S => (a ρ S).bind fun x S1 => if isLst x S1 = true then (b ρ S1).bind fun y S2 => g x y S2 else .no
def LMR (K : PySem.W.Frag) (r : V → List V → Hp → VK → Prop) (g : PV → PV → Sto → R PV) : Prop := ∀ Q H μ S v w p q, Rep K H μ v p → Rep K H μ w q → Rel K H μ S → FitsG K H μ (g p q S) (VKont K Q) → r v [w] H Q
def LM0 (K : PySem.W.Frag) (r : V → List V → Hp → VK → Prop) (g : PV → Sto → R PV) : Prop := ∀ Q H μ S v p, Rep K H μ v p → Rel K H μ S → FitsG K H μ (g p S) (VKont K Q) → r v [] H Q
theorem isLst_ty {K H μ S v p} (t : Rel K H μ S) (r : Rep K H μ v p) (h : isLst p S = true) : tyV K "list" v H := by
  unfold isLst at h
  cases e : getL p S with
  | none => rw [e] at h; cases h
  | some xs =>
    obtain ⟨a, vs, rfl, g1, g2⟩ := getL_of t r e
    exact .inl ⟨rfl, vs, g1⟩
section
variable {X : Cx} {o e : Expr} {fo fe : Ev} {name : Str} {apos cpos : Pos} {id : String} {r : V → List V → Hp → VK → Prop}
theorem ee_meth1 {g : PV → PV → Sto → R PV} (hr : LMR X.K r g) (h : PE X (.Call (.Attribute o name apos) [e] [] cpos) (tBM X.K "list" r (tEv X.K fo) (tCons (tEv X.K fe) tNil))) : EE X (.Call (.Attribute o name apos) [e] [] cpos) (eMeth1 g fo fe) :=
  pe_mono h fun σ H Q ⟨μ, ρ, S, hE, hR, hF⟩ => ⟨μ, ρ, S, hE, hR, (FitsG.bind hF).imp fun x S1 H1 μ1 s1 t1 h1 v rv => by
    split at h1
    · rename_i hl
      exact ⟨isLst_ty t1 rv hl, μ1, ρ, S1, hE.step s1, t1, (FitsG.bind h1).imp fun y S2 H2 μ2 s2 t2 h2 w rw' => hr Q H2 μ2 S2 v w x y (rv.step s2) rw' t2 h2⟩
    · exact h1.elim⟩
theorem ee_meth0 {g : PV → Sto → R PV} (hr : LM0 X.K r g) (h : PE X (.Call (.Attribute o name apos) [] [] cpos) (tBM0 X.K "list" r (tEv X.K fo))) : EE X (.Call (.Attribute o name apos) [] [] cpos) (eMeth0 g fo) :=
  pe_mono h fun σ H Q ⟨μ, ρ, S, hE, hR, hF⟩ => ⟨μ, ρ, S, hE, hR, (FitsG.bind hF).imp fun x S1 H1 μ1 s1 t1 h1 v rv => by
    split at h1
    · rename_i hl
      exact ⟨isLst_ty t1 rv hl, hr Q H1 μ1 S1 v x rv t1 h1⟩
    · exact h1.elim⟩
end
section
variable {K : PySem.W.Frag}
theorem l_app : LMR K rAppend gApp := by
  intro Q H μ S v w p q rv rw' t hF
  unfold gApp at hF
  split at hF
  · split at hF
    · rename_i xs e
      split at hF
      · rename_i hc
        replace rv := rv.two
        rcases rv with rv | ⟨m, a, e1, e2, e3⟩
        · cases rv
        cases e1
        subst e3
        obtain ⟨vs, g1, g2, g3⟩ := write_lst (ys := xs ++ [q]) t e2 e
        have rp := rw'.pure hc.1
        obtain ⟨s3, t3⟩ := g3 (vs ++ [w]) fun H' μ' s => (g2.append (.cons rp .nil)).step s
        exact ⟨a, vs, w, rfl, rfl, g1, by rw [g2.length]; exact hc.2, hF _ _ s3 t3 _ (.inl .non)⟩
      · exact hF.elim
    · exact hF.elim
  · exact hF.elim
theorem l_ext : LMR K rExtend gExt := by
  intro Q H μ S v w p q rv rw' t hF
  unfold gExt at hF
  split at hF
  · split at hF
    · rename_i xs e
      split at hF
      · rename_i hc
        replace rv := rv.two
        rcases rv with rv | ⟨m, a, e1, e2, e3⟩
        · cases rv
        cases e1
        subst e3
        obtain ⟨b, ws, rfl, k1, k2⟩ := rw'.lst_inv
        obtain ⟨vs, g1, g2, g3⟩ := write_lst (ys := xs ++ _) t e2 e
        obtain ⟨s3, t3⟩ := g3 (vs ++ ws) fun H' μ' s => (g2.append k2).step s
        exact ⟨a, b, vs, ws, rfl, rfl, g1, k1, by rw [g2.length, k2.length]; exact hc, hF _ _ s3 t3 _ (.inl .non)⟩
      · exact hF.elim
    · exact hF.elim
  · exact hF.elim
theorem RepPs.dropLast {H : Hp} {μ : Mem} {ps : List PV} {vs : List V} (r : RepPs K H μ vs ps) : RepPs K H μ vs.dropLast ps.dropLast := by
  rw [List.dropLast_eq_take, List.dropLast_eq_take, r.length]
  exact r.take _
theorem RepPs.erase {H : Hp} {μ : Mem} {ps : List PV} {vs : List V} (r : RepPs K H μ vs ps) (k : Nat) : RepPs K H μ (vs.eraseIdx k) (ps.eraseIdx k) := by
  rw [List.eraseIdx_eq_take_drop_succ, List.eraseIdx_eq_take_drop_succ]
  exact (r.take _).append (r.drop _)
theorem l_pop : LM0 K rPop gPop := by
  intro Q H μ S v p rv t hF
  unfold gPop at hF
  split at hF
  · split at hF
    · rename_i xs e
      split at hF
      · rename_i y ey
        replace rv := rv.two
        rcases rv with rv | ⟨m, a, e1, e2, e3⟩
        · cases rv
        cases e1
        subst e3
        obtain ⟨vs, g1, g2, g3⟩ := write_lst (ys := xs.dropLast) t e2 e
        obtain ⟨u, h1, h2⟩ := g2.get ey
        obtain ⟨s3, t3⟩ := g3 vs.dropLast fun H' μ' s => g2.dropLast.step s
        exact ⟨a, vs, u, rfl, rfl, g1, by rw [g2.length]; exact h1, hF _ _ s3 t3 _ (.inl (h2.step s3))⟩
      · exact hF.elim
    · exact hF.elim
  · exact hF.elim
theorem l_popAt : LMR K rPopAt gPopAt := by
  intro Q H μ S v w p q rv rw' t hF
  unfold gPopAt at hF
  split at hF
  · split at hF
    · rename_i xs e
      split at hF
      · rename_i hc
        split at hF
        · rename_i k ek
          split at hF
          · rename_i y ey
            replace rv := rv.two
            rcases rv with rv | ⟨m, a, e1, e2, e3⟩
            · cases rv
            cases e1
            subst e3
            cases rep_int rw'
            obtain ⟨vs, g1, g2, g3⟩ := write_lst (ys := xs.eraseIdx k) t e2 e
            obtain ⟨u, h1, h2⟩ := g2.get ey
            obtain ⟨s3, t3⟩ := g3 (vs.eraseIdx k) fun H' μ' s => (g2.erase k).step s
            exact ⟨a, vs, _, k, u, rfl, rfl, g1, hc.1, hc.2, by rw [g2.length]; exact ek, h1, hF _ _ s3 t3 _ (.inl (h2.step s3))⟩
          · exact hF.elim
        · exact hF.elim
      · exact hF.elim
    · exact hF.elim
  · exact hF.elim

/-! ### tuple(x), list(x), list(range), sorted -/
def gTupOf (ps : List PV) (S : Sto) : R PV := match ps with
  | [.tup xs] => .ok (.tup xs) S
  | [p] => match getL p S with
    | some xs => .ok (.tup xs) S
    | none => .no
  | _ => .no
theorem l_tupOf : LAR K (fun xs H Q => ∃ p ys, xs = [V.ref p] ∧ ((SqL K H p ys ∧ ∀ l, H l = none → Q (.ref l) (upd H l (.tup ys))) ∨ (SqT K H p ys ∧ Q (.ref p) H))) gTupOf := by
  intro Q H μ S vs ps rv t hF
  unfold gTupOf at hF
  split at hF
  · obtain ⟨v, rfl, r1⟩ := rv.one
    obtain ⟨a, ws, rfl, g1, g2⟩ := r1.tup_inv
    exact ⟨a, ws, rfl, .inr ⟨g1.sq, hF.val t r1⟩⟩
  · split at hF
    · rename_i xs e
      obtain ⟨v, rfl, r1⟩ := rv.one
      obtain ⟨a, ws, rfl, g1, g2⟩ := getL_of t r1 e
      exact ⟨a, ws, rfl, .inl ⟨g1, lay_tup (fun p S H' μ' h => h) hF t g2⟩⟩
    · exact hF.elim
  · exact hF.elim
def gLstOf (ps : List PV) (S : Sto) : R PV := match ps with
  | [p] => match getQ p S with
    | some xs => .ok (.lst xs) S
    | none => .no
  | _ => .no
theorem l_lstOf : LAF K (fun xs H Q => ∃ p ys, xs = [V.ref p] ∧ (SqL K H p ys ∨ SqT K H p ys) ∧ ∀ l, H l = none → Q (.ref l) (upd H l (.lst ys))) gLstOf := by
  intro Q H μ S vs ps rv t hF
  unfold gLstOf at hF
  split at hF
  · split at hF
    · rename_i xs e
      obtain ⟨v, rfl, r1⟩ := rv.one
      obtain ⟨a, ws, rfl, g1, g2⟩ := getQ_of t r1 e
      exact ⟨a, ws, rfl, g1, FitsF.lay hF (Step.refl _ _) t g2⟩
    · exact hF.elim
  · exact hF.elim
def insI (x : Int) : List Int → List Int
  | [] => [x]
  | y :: r => if x ≤ y then x :: y :: r else y :: insI x r
def sortI : List Int → List Int
  | [] => []
  | x :: r => insI x (sortI r)
theorem insI_perm (x : Int) : ∀ r : List Int, (insI x r).Perm (x :: r)
  | [] => List.Perm.refl _
  | y :: r => by
    rw [insI]
    split
    · exact List.Perm.refl _
    · exact ((insI_perm x r).cons y).trans (List.Perm.swap x y r)
theorem sortI_perm : ∀ r : List Int, (sortI r).Perm r
  | [] => List.Perm.refl _
  | x :: r => (insI_perm x (sortI r)).trans ((sortI_perm r).cons x)
theorem insI_sorted (x : Int) : ∀ r : List Int, r.Pairwise (· ≤ ·) → (insI x r).Pairwise (· ≤ ·)
  | [], _ => by simp [insI]
  | y :: r, h => by
    rw [insI]
    have h' := List.pairwise_cons.mp h
    split
    · rename_i hxy
      refine List.pairwise_cons.mpr ⟨fun z hz => ?_, h⟩
      rcases List.mem_cons.mp hz with rfl | hz
      · exact hxy
      · exact Int.le_trans hxy (h'.1 z hz)
    · rename_i hxy
      refine List.pairwise_cons.mpr ⟨fun z hz => ?_, insI_sorted x r h'.2⟩
      rcases List.mem_cons.mp ((insI_perm x r).mem_iff.mp hz) with rfl | hz
      · omega
      · exact h'.1 z hz
theorem sortI_sorted : ∀ r : List Int, (sortI r).Pairwise (· ≤ ·)
  | [] => List.Pairwise.nil
  | x :: r => insI_sorted x _ (sortI_sorted r)
theorem sorted_unique : ∀ {a b : List Int}, a.Perm b → a.Pairwise (· ≤ ·) → b.Pairwise (· ≤ ·) → a = b
  | [], b, p, _, _ => (List.nil_perm.mp p).symm
  | x :: a, [], p, _, _ => absurd p.symm (by simp)
  | x :: a, y :: b, p, ha, hb => by
    have ha' := List.pairwise_cons.mp ha
    have hb' := List.pairwise_cons.mp hb
    have h1 : x ∈ y :: b := p.mem_iff.mp (by simp)
    have h2 : y ∈ x :: a := p.mem_iff.mpr (by simp)
    have e : x = y := by
      rcases List.mem_cons.mp h1 with e | h1
      · exact e
      · rcases List.mem_cons.mp h2 with e | h2
        · exact e.symm
        · have := ha'.1 y h2
          have := hb'.1 x h1
          omega
    subst e
    rw [sorted_unique (List.Perm.cons_inv p) ha'.2 hb'.2]
def gSorted (ps : List PV) (S : Sto) : R PV := match ps with
  | [p] => match (getL p S).bind intsOf with
    | some ns => .ok (.lst ((sortI ns).map PV.int)) S
    | none => .no
  | _ => .no
theorem l_sorted : LAF K (rSortedI K) gSorted := by
  intro Q H μ S vs ps rv t hF
  unfold gSorted at hF
  split at hF
  · split at hF
    · rename_i ns e
      obtain ⟨v, rfl, h1⟩ := rv.one
      obtain ⟨a, rfl, g⟩ := getInts t h1 e
      refine ⟨a, ns, rfl, g, fun ns' p hp hs h0 => ?_⟩
      rw [sorted_unique (hp.trans (sortI_perm ns).symm) hs (sortI_sorted ns)]
      exact FitsF.lay hF (Step.refl _ _) t (RepPs.of_ints _) p h0
    · exact hF.elim
  · exact hF.elim

/-! ### isinstance -/
inductive Ty where
  | non | bool | int | str | tuple | list | dict
  deriving DecidableEq
def Ty.name : Ty → String
  | .non => "NoneType"
  | .bool => "bool"
  | .int => "int"
  | .str => "str"
  | .tuple => "tuple"
  | .list => "list"
  | .dict => "dict"
def tyP (p : PV) (S : Sto) : Option Ty := match p with
  | .non => some .non
  | .bl _ => some .bool
  | .int _ => some .int
  | .str _ => some .str
  | .tup _ => some .tuple
  | .lst _ => some .list
  | .frl _ => some .list
  | .dic _ _ => some .dict
  | .ref n => match S[n]? with
    | some (.lst _) => some .list
    | some (.dic _ _) => some .dict
    | _ => none
  | .adr _ => none
  | .clo _ _ => none
def isiB (a T : Ty) : Bool := match a, T with
  | .bool, .int => true
  | a, T => decide (a = T)
theorem kit_isi (a T : Ty) : PySem.W.kitOne K (.type a.name) (.type T.name) = some (isiB a T) := by
  cases a <;> cases T <;> exact kit_ty (by decide +kernel)
theorem TupAt.ty {H μ a xs} (h : TupAt K H μ a xs) : TyX K H (.ref a) (.type "tuple") := by
  rcases h with ⟨r, _⟩ | ⟨o, its, n, e, c, _⟩
  · rcases r with r | ⟨o, r⟩
    · exact .base (.tup r)
    · exact .fTuple r
  · exact .kTuple e c
theorem tyP_of {H μ S v p a} (t : Rel K H μ S) (r : Rep K H μ v p) (e : tyP p S = some a) : TyX K H v (.type a.name) := by
  unfold tyP at e
  split at e
  · cases e; cases rep_non r; exact .base .non
  · cases e; cases rep_bl r; exact .base (.bl _)
  · cases e; cases rep_int r; exact .base (.int _)
  · cases e; cases rep_str r; exact .base (.str _)
  · cases e
    obtain ⟨a, vs, rfl, g, _⟩ := r.tup_inv
    exact g.ty
  · cases e
    obtain ⟨a, vs, rfl, g, _⟩ := r.lst_inv
    exact .base (.lst g)
  · cases e
    replace r := r.two
    rcases r with r | ⟨_, _, e, _⟩
    · cases r with
      | frl h1 h2 =>
        rcases h1 with ⟨⟨o, h1⟩, _⟩ | ⟨o, its, n, e, c, _⟩
        · exact .base (.frz h1)
        · exact .kList e c
    · cases e
  · cases e
    replace r := r.two
    rcases r with r | ⟨_, _, e, _⟩
    · cases r with
      | dic h1 n h2 => exact .base (.dK h1)
    · cases e
  · replace r := r.two
    rcases r with r | ⟨m, a, e1, e2, e3⟩
    · cases r
    cases e1
    subst e3
    split at e
    · rename_i xs eo
      cases e
      obtain ⟨vs, g, _⟩ := t.obj _ _ _ e2 eo
      exact .base (.lst g)
    · rename_i ks xs eo
      cases e
      obtain ⟨vs, g, _⟩ := t.obj _ _ _ e2 eo
      exact .base (.dK g)
    · cases e
  · cases e
  · cases e
def gIsi (T : Ty) (p : PV) (S : Sto) : R PV := match tyP p S with
  | some a => .ok (.bl (isiB a T)) S
  | none => .no
end
theorem ee_isi {X : Cx} {e : Expr} {fe : Ev} {x : Str} (T : Ty) {p p2 pos : Pos} (hg : Gl X "isinstance") (hm : X.mg "isinstance" = none) (he : EE X e fe) (hT : PE X (.Name x p2) (tC (.ty T.name)))
    (hv : bootBuiltins "isinstance" = some (.builtin "isinstance") := by decide +kernel) (h1 : starEach (e :: [.Name x p2]) X.env = (false, eval e X.env) :: starEach [.Name x p2] X.env := by rfl) (h2 : starEach [.Name x p2] X.env = (false, eval (.Name x p2) X.env) :: starEach [] X.env := by rfl) (hpl : (backTo pos (starEach [.Name x p2] X.env)).any (·.1) = false := by rfl) :
    EE X (.Call (.Name "isinstance" p) [e, .Name x p2] [] pos) (eUn (gIsi T) fe) :=
  pe_mono (pe_callB call_isi hg hm hv (pa_cons he (pa_cons hT pa_nil h2) h1) (by decide) (by decide) h1 hpl) fun σ H Q ⟨μ, ρ, S, hE, hR, hF⟩ => ⟨μ, ρ, S, hE, hR, (FitsG.bind hF).imp fun q S1 H1 μ1 s1 t1 h1 v rv => by
    unfold gIsi at h1
    split at h1
    · rename_i a ea
      exact ⟨v, .ty T.name, _, _, _, rfl, .ty _, tyP_of t1 rv ea, kit_isi a T, h1.val t1 (.inl (.bl _))⟩
    · exact h1.elim⟩

/-! ### (*xs, ..) -/
def aStar (a : Ev) (r : Ea) : Ea := fun ρ S => (a ρ S).bind fun x S1 => match getQ x S1 with
  | some xs => (r ρ S1).bind fun ys S2 => .ok (xs ++ ys) S2
  | none => .no
theorem Paired.append {α β : Type} {F : α → β → Prop} : ∀ {a b : List α} {c d : List β}, Paired F a c → Paired F b d → Paired F (a ++ b) (c ++ d)
  | _, _, _, _, .nil, h => h
  | _, _, _, _, .cons r t, h => .cons r (Paired.append t h)
theorem ea_star {X : Cx} {e : Expr} {es : List Expr} {p : Pos} {fe : Ev} {fr : Ea} (he : EE X e fe) (hr : EA X es fr) (hs : starEach (.Starred e p :: es) X.env = (true, eval e X.env) :: starEach es X.env := by rfl) : EA X (.Starred e p :: es) (aStar fe fr) :=
  pa_mono (StX.pa_star he hr hs) fun σ H Q ⟨μ, ρ, S, hE, hR, hF⟩ => ⟨μ, ρ, S, hE, hR, (FitsG.bind hF).imp fun q S1 H1 μ1 s1 t1 h1 v rv => by
    split at h1
    · rename_i xs e
      obtain ⟨a, vs, rfl, g1, g2⟩ := getQ_of t1 rv e
      exact ⟨a, vs, rfl, g1.symm, μ1, ρ, S1, hE.step s1, t1, (FitsG.bind h1).imp fun ys S2 H2 μ2 s2 t2 h2 ws rw' => FitsG.here h2 t2 _ (Paired.append ((g2.step s2).reps) rw')⟩
    · exact h1.elim⟩
end Py
set_option Elab.async false
set_option maxRecDepth 100000
set_option maxHeartbeats 4000000
set_option linter.all false
namespace Py
open PySem PySem.Spec PyProof.Rows L2
variable [CT]

def keyP : PV → Option Key
  | .int i => some (.inl i)
  | .str z => some (.inr z)
  | _ => none
def dgetP : List Key → List PV → Key → Option PV
  | k :: ks, v :: vs, j => if k = j then some v else dgetP ks vs j
  | _, _, _ => none
def dsetP : List Key → List PV → Key → PV → List PV
  | k :: ks, v :: vs, j, p => (if k = j then p else v) :: dsetP ks vs j p
  | _, vs, _, _ => vs
def dputP (ks : List Key) (vs : List PV) (k : Key) (p : PV) : PV := if ks.any (fun j => decide (j = k)) = true then .dic ks (dsetP ks vs k p) else .dic (ks ++ [k]) (vs ++ [p])
def getD (p : PV) (S : Sto) : Option (List Key × List PV) := match p with
  | .dic ks vs => some (ks, vs)
  | .ref n => match S[n]? with
    | some (.dic ks vs) => some (ks, vs)
    | _ => none
  | _ => none
section
variable {K : PySem.W.Frag} {H : Hp} {μ : Mem}
theorem getD_of {S : Sto} {v : V} {p : PV} {ks : List Key} {ps : List PV} (t : Rel K H μ S) (r : Rep K H μ v p) (e : getD p S = some (ks, ps)) : ∃ a kvs, v = .ref a ∧ H a = some (.dK kvs) ∧ kvs.map (·.1) = ks ∧ RepPs K H μ (kvs.map (·.2)) ps := by
  unfold getD at e
  split at e
  · cases e
    replace r := r.two
    rcases r with r | ⟨_, _, e, _⟩
    · cases r with
      | dic h1 n h2 => exact ⟨_, _, rfl, h1, rfl, h2⟩
    · cases e
  · split at e
    · rename_i eo
      cases e
      replace r := r.two
      rcases r with r | ⟨m, a, e1, e2, e3⟩
      · cases r
      cases e1
      subst e3
      obtain ⟨kvs, g1, g2, g3⟩ := t.obj _ _ _ e2 eo
      exact ⟨a, kvs, rfl, g1, g2, g3⟩
    · cases e
  · cases e
theorem keyP_of {v : V} {p : PV} {k : Key} (r : Rep K H μ v p) (e : keyP p = some k) : v = kV k := by
  cases p <;> first | (cases e; done) | skip
  · cases e; exact rep_int r
  · cases e; exact rep_str r
theorem dget_of : ∀ {kvs : List (Key × V)} {ps : List PV} (k : Key), RepPs K H μ (kvs.map (·.2)) ps → (valV kvs k = none ∧ dgetP (kvs.map (·.1)) ps k = none) ∨ ∃ v p, valV kvs k = some v ∧ dgetP (kvs.map (·.1)) ps k = some p ∧ RepP K H μ v p
  | [], _, k, h => by cases h; exact .inl ⟨rfl, rfl⟩
  | q :: kvs, ps, k, h => by
    cases h with
    | cons h1 h2 =>
      rename_i p ps
      rw [List.map_cons, dgetP]
      by_cases e : q.1 = k
      · rw [valV_pos e, if_pos e]
        exact .inr ⟨_, _, rfl, rfl, h1⟩
      · rw [valV_neg e, if_neg e]
        exact dget_of k h2
theorem dset_of {v : V} {p : PV} (k : Key) (r : RepP K H μ v p) : ∀ {kvs : List (Key × V)} {ps : List PV}, RepPs K H μ (kvs.map (·.2)) ps → RepPs K H μ ((kvs.map fun kv => if kv.1 = k then (kv.1, v) else kv).map (·.2)) (dsetP (kvs.map (·.1)) ps k p)
  | [], _, h => by cases h; exact .nil
  | q :: kvs, ps, h => by
    cases h with
    | cons h1 h2 =>
      rw [List.map_cons, List.map_cons, List.map_cons, dsetP]
      refine .cons ?_ (dset_of k r h2)
      by_cases e : q.1 = k
      · rw [if_pos e, if_pos e]; exact r
      · rw [if_neg e, if_neg e]; exact h1
theorem dput_of {a : Addr} {kvs : List (Key × V)} {ps : List PV} {v : V} {p : PV} (k : Key) (h : RepPs K H μ (kvs.map (·.2)) ps) (r : RepP K H μ v p) (e : H a = some (.dK (putK kvs k v))) : ObjR K H μ a (dputP (kvs.map (·.1)) ps k p) := by
  have any : (kvs.map (·.1)).any (fun j => decide (j = k)) = kvs.any fun kv => decide (kv.1 = k) := by
    rw [List.any_map]; rfl
  unfold putK at e
  unfold dputP
  rw [any]
  split at e
  · rename_i c
    rw [if_pos c]
    refine ⟨_, e, ?_, dset_of k r h⟩
    rw [List.map_map]
    refine List.map_congr_left fun q _ => ?_
    show (if q.1 = k then (q.1, v) else q).1 = q.1
    split <;> rfl
  · rename_i c
    rw [if_neg c]
    refine ⟨_, e, by simp, ?_⟩
    rw [List.map_append]
    exact h.append (.cons r .nil)
end
def gDGet1 (x y : PV) (S : Sto) : R PV := match getD x S, keyP y with
  | some (ks, vs), some k => .ok ((dgetP ks vs k).getD .non) S
  | _, _ => .no
def gDIx (x y : PV) (S : Sto) : R PV := match getD x S, keyP y with
  | some (ks, vs), some k => match dgetP ks vs k with
    | some p => .ok p S
    | none => .no
  | _, _ => .no
def gDIn (neg : Bool) (y x : PV) (S : Sto) : R PV := match getD x S, keyP y with
  | some (ks, vs), some k => .ok (.bl (if neg then !(dgetP ks vs k).isSome else (dgetP ks vs k).isSome)) S
  | _, _ => .no
def isDic (p : PV) (S : Sto) : Bool := (getD p S).isSome
def eDGet1 (a b : Ev) : Ev := fun ρ S => (a ρ S).bind fun x S1 => if isDic x S1 = true then (b ρ S1).bind fun y S2 => gDGet1 x y S2 else .no
section
variable {X : Cx} {o i e value : Expr} {fo fi fv : Ev} {pos pos' apos cpos : Pos}
theorem ee_dget1 (hu : X.A.units + 1 < cLine) (ho : EE X o fo) (hi : EE X i fi) (m : M1 X o "get" apos i cpos) : EE X (.Call (.Attribute o "get" apos) [i] [] cpos) (eDGet1 fo fi) :=
  pe_mono (pe_dget1 hu ho hi m) fun σ H Q ⟨μ, ρ, S, hE, hR, hF⟩ => ⟨μ, ρ, S, hE, hR, (FitsG.bind hF).imp fun x S1 H1 μ1 s1 t1 h1 v rv => by
    split at h1
    · rename_i hd
      unfold isDic at hd
      cases ed : getD x S1 with
      | none => rw [ed] at hd; cases hd
      | some q =>
        obtain ⟨ks, ps⟩ := q
        obtain ⟨a, kvs, rfl, g1, _, _⟩ := getD_of t1 rv ed
        refine ⟨a, rfl, .inl ⟨kvs, .inl g1⟩, μ1, ρ, S1, hE.step s1, t1, (FitsG.bind h1).imp fun y S2 H2 μ2 s2 t2 h2 w rw' => ?_⟩
        unfold gDGet1 at h2
        split at h2
        · rename_i ks ps k e1 e2
          obtain ⟨b, kvs2, eb, k1, k2, k3⟩ := getD_of t2 (rv.step s2) e1
          cases eb
          rw [keyP_of rw' e2]
          refine ⟨_, .k k1, ?_⟩
          rw [← k2] at h2
          rcases dget_of k k3 with ⟨z1, z2⟩ | ⟨u, p, z1, z2, z3⟩
          · rw [z1]; rw [z2] at h2; exact h2.val t2 (.inl .non)
          · rw [z1]; rw [z2] at h2; exact h2.val t2 (.inl z3)
        · exact h2.elim
    · exact h1.elim⟩
theorem ee_dix (hu : X.A.units + 1 < cLine) (ho : EE X o fo) (hi : EE X i fi) (hs : NoSl i) : EE X (.Subscript o i pos) (eOp gDIx fo fi) :=
  pe_mono (pe_dget hu ho hi hs) fun σ H Q h => two (r := fun x y H2 Q => ∃ a v, x = .ref a ∧ DGet H2 a y (some v) ∧ Q v H2) h fun H2 μ2 S2 v w p q rv rw' t h2 => by
    unfold gDIx at h2
    split at h2
    · rename_i ks ps k e1 e2
      obtain ⟨b, kvs2, rfl, k1, k2, k3⟩ := getD_of t rv e1
      rw [keyP_of rw' e2]
      subst k2
      rcases dget_of k k3 with ⟨z1, z2⟩ | ⟨u, p, z1, z2, z3⟩
      · rw [z2] at h2; exact h2.elim
      · rw [z2] at h2
        exact ⟨b, u, rfl, .inl ⟨kvs2, k, .inl k1, rfl, z1.symm⟩, h2.val t (.inl z3)⟩
    · exact h2.elim
theorem din {K : PySem.W.Frag} {H : Hp} {μ : Mem} {S : Sto} {v w : V} {p q : PV} {Q : VK} {neg : Bool} (rw' : Rep K H μ w q) (rv : Rep K H μ v p) (t : Rel K H μ S) (h : FitsG K H μ (gDIn neg q p S) (VKont K Q)) : ∃ a o, v = V.ref a ∧ DGet H a w o ∧ Q (.bl (if neg then !o.isSome else o.isSome)) H := by
  unfold gDIn at h
  split at h
  · rename_i ks ps k e1 e2
    obtain ⟨b, kvs2, rfl, k1, k2, k3⟩ := getD_of t rv e1
    rw [keyP_of rw' e2]
    subst k2
    refine ⟨b, _, rfl, .k k1, ?_⟩
    rcases dget_of k k3 with ⟨z1, z2⟩ | ⟨u, p, z1, z2, z3⟩
    · rw [z1]; rw [z2] at h; exact h.val t (.inl (.bl _))
    · rw [z1]; rw [z2] at h; exact h.val t (.inl (.bl _))
  · exact h.elim
theorem ec_din (hu : X.A.units + 1 < cLine) (hi : EE X i fi) (ho : EE X o fo) : PC X .In i o (tEv X.K (eOp (gDIn false) fi fo)) :=
  ⟨fun pins s σ H Q I h => (pc_din hu hi ho).run pins s σ H Q I (two (r := fun y x H2 Q => ∃ a o, x = V.ref a ∧ DGet H2 a y o ∧ Q (.bl o.isSome) H2) h fun H2 μ2 S2 v w p q rv rw' t h2 => din rv rw' t h2)⟩
theorem ec_dnin (hu : X.A.units + 1 < cLine) (hi : EE X i fi) (ho : EE X o fo) : PC X .NotIn i o (tEv X.K (eOp (gDIn true) fi fo)) :=
  ⟨fun pins s σ H Q I h => (pc_dnotin hu hi ho).run pins s σ H Q I (two (r := fun y x H2 Q => ∃ a o, x = V.ref a ∧ DGet H2 a y o ∧ Q (.bl (!o.isSome)) H2) h fun H2 μ2 S2 v w p q rv rw' t h2 => din rv rw' t h2)⟩
theorem ee_pc {op : CmpOp} {f : Ev} (h : PC X op i o (tEv X.K f)) (h1 : behindInMarks op o = false) : EE X (.Compare i [op] [o] pos) f := pe_cmp h h1
theorem et_pc {op : CmpOp} {f : Ev} (h : PC X op i o (tEv X.K f)) (h1 : behindInMarks op o = false) : ET X (.Compare i [op] [o] pos) (tV f) := pt_mono (pt_cmp h h1) fun σ H Q h => tv_tB h
/-- d[k] = v -/
def gDPut (x y v : PV) (S : Sto) : R PV := match x, keyP y with
  | .ref n, some k => match S[n]? with
    | some (.dic ks vs) => if v.isRef = false ∧ ks.length < sizeLine then .ok .non (S.set n (dputP ks vs k v)) else .no
    | _ => .no
  | _, _ => .no
def sDPutE (o i v : Ev) : Es := fun ρ S => (v ρ S).bind fun z S1 => (o ρ S1).bind fun x S2 => (i ρ S2).bind fun y S3 => (gDPut x y z S3).bind fun _ S4 => .ok (.nx ρ) S4
theorem es_dput (hu : X.A.units + 1 < cLine) (ho : EE X o fo) (hi : EE X i fi) (hv : EE X value fv) (hs : swapsWith value (some (.Subscript o i pos')) pos.line X.env = pure false) : ES X (.Assign [.Subscript o i pos'] value pos) (sDPutE fo fi fv) :=
  ps_mono (ps_dput hu ho hi hv hs) fun D σ H ⟨μ, ρ, S, hE, hR, hF⟩ => ⟨μ, ρ, S, hE, hR, (FitsG.bind hF).imp fun z S1 H1 μ1 s1 t1 h1 vz rz =>
    ⟨μ1, ρ, S1, hE.step s1, t1, (FitsG.bind h1).imp fun x S2 H2 μ2 s2 t2 h2 vx rx =>
      ⟨μ2, ρ, S2, (hE.step s1).step s2, t2, (FitsG.bind h2).imp fun y S3 H3 μ3 s3 t3 h3 vy ry => by
        have h3 := FitsG.bind h3
        unfold gDPut at h3
        split at h3
        · rename_i n k ek _
          have ek := keyP_of ry ek
          split at h3
          · rename_i ks ps eo
            split at h3
            · rename_i hc
              have rx := rx.step s3
              replace rx := rx.two
              rcases rx with rx | ⟨m, a, e1, e2, e3⟩
              · cases rx
              cases e1
              subst e3
              obtain ⟨kvs, g1, g2, g3⟩ := t3.obj _ _ _ e2 eo
              subst g2
              subst ek
              have rp := ((rz.step s2).step s3).pure hc.1
              have s4 := Step.write H3 μ3 (List.mem_of_getElem? e2) (.dK (putK kvs k vz))
              have t4 := t3.write e2 (o := .dK (putK kvs k vz)) (dput_of k (g3.step s4) (rp.step s4) upd_same)
              refine ⟨a, _, rfl, .k g1 (by have := hc.2; simpa using this), ?_⟩
              exact FitsG.here (h3 _ _ s4 t4) t4 σ ((((hE.step s1).step s2).step s3).step s4)
            · exact h3.elim
          · exact h3.elim
        · exact h3.elim⟩⟩⟩
theorem ef_dnew : EF X (.Dict [] [] pos) (fun _ S => .ok (.dic [] []) S) := pe_mono pe_dnewK fun σ H Q ⟨μ, ρ, S, hE, hR, hF⟩ p hp => by
  have l := Step.laid H μ hp (.dK [])
  refine hF (upd H p (.dK [])) μ p hp (fun q => hR.resn q hp) l ⟨by simp [Mem.grow, hR.len], ?_, fun n a ob e1 e2 => ?_, hR.resG hp _, tabs_upd hR.tab fun u e => by rw [hp] at e; cases e⟩
  · exact List.nodup_append.mpr ⟨hR.nd, by simp, fun a ha b hb => by
      rw [List.mem_singleton.mp hb]; intro z; rw [z] at ha; exact Mem.nst (hR.out hp) ha⟩
  · have s : Step H μ (upd H p (.dK [])) (μ.grow [p]) := ⟨l.ext, l.dom, [p], rfl, fun a q => by rw [List.mem_singleton.mp q]; exact hp⟩
    have e1 : (μ.st ++ [p])[n]? = some a := e1
    by_cases hn : n < μ.st.length
    · rw [List.getElem?_append_left hn] at e1
      rw [List.getElem?_append_left (by rw [← hR.len]; exact hn)] at e2
      exact (hR.obj n a ob e1 e2).step s (upd_ne fun z => Mem.nst (hR.out hp) (by rw [← z]; exact List.mem_of_getElem? e1))
    · have e : n = μ.st.length := by
        have := (List.getElem?_eq_some_iff.mp e1).1
        simp at this; omega
      subst e
      rw [List.getElem?_append_right (Nat.le_refl _)] at e1
      rw [List.getElem?_append_right (by rw [hR.len]; exact Nat.le_refl _)] at e2
      simp [hR.len] at e1 e2
      subst e1 e2
      exact ⟨[], upd_same, rfl, .nil⟩
end
end Py
set_option Elab.async false
set_option maxRecDepth 100000
set_option maxHeartbeats 4000000
set_option linter.all false
namespace Py
open PySem PySem.Spec PyProof.Rows L2
variable [CT]

section
variable {X : Cx} {a b c : Expr} {fa fb fc : Ev} {pos : Pos}
theorem ee_notT (ha : EE X a fa) : EE X (.UnaryOp .Not a pos) (eNotT fa) :=
  pe_mono (pe_notT ha) fun σ H Q ⟨μ, ρ, S, hE, hR, hF⟩ => ⟨μ, ρ, S, hE, hR, (FitsG.bind hF).imp fun p S1 H1 μ1 s1 t1 h1 v rv => by
    obtain ⟨k, h2, h3, h4⟩ := truP_of t1 rv (FitsG.bind h1)
    exact ⟨k, h2, FitsG.val h3 t1 (.inl (.bl _))⟩⟩
theorem et_chain {op op' : CmpOp} {r r' : R2} {g g' : PV → PV → Sto → R PV} (ho : OpR X (compareOp op) r) (hr : L2R X.K r g) (ho' : OpR X (compareOp op') r') (hr' : L2R X.K r' g') (ha : EE X a fa) (hb : EE X b fb) (hc : EE X c fc)
    (hm : lastMarks [op, op'] [b, c] = false := by with_unfolding_all rfl) : ET X (.Compare a [op, op'] [b, c] pos) (tV (eChain g g' fa fb fc)) :=
  pt_mono (pt_chain ho ho' ha hb hc hm) fun σ H Q h => by
    obtain ⟨μ, ρ, S, hE, hR, hF⟩ := tv_tB h
    refine ⟨μ, ρ, S, hE, hR, (FitsG.bind hF).imp fun p S1 H1 μ1 s1 t1 h1 v rv => ?_⟩
    refine ⟨μ1, ρ, S1, hE.step s1, t1, (FitsG.bind h1).imp fun q S2 H2 μ2 s2 t2 h2 w rw' => ?_⟩
    refine hr _ H2 μ2 S2 v w p q (rv.step s2) rw' t2 ((FitsG.bind h2).imp fun z S3 H3 μ3 s3 t3 h3 u ru => ?_)
    obtain ⟨k, rfl, h4⟩ := toB_of (FitsG.bind h3)
    have h5 := FitsG.here h4 t3
    refine ⟨k, rep_bl ru, ?_⟩
    cases k with
    | true => exact iteT ⟨μ3, ρ, S3, ((hE.step s1).step s2).step s3, t3, (FitsG.bind h5).imp fun y S4 H4 μ4 s4 t4 h6 w' rw2 => hr' _ H4 μ4 S4 w w' q y ((rw'.step s3).step s4) rw2 t4 h6⟩
    | false => exact iteF (FitsG.val (p := .bl false) (v := .bl false) h5 t3 (.inl (.bl _)))
end

/-! ### constants of the module -/
def HasInt (mg : Str → Option Value) (x : Str) (i : Int) : Prop := ∃ t, mg x = some (.int i t)
def HasStr (mg : Str → Option Value) (x : Str) (z : Str) : Prop := ∃ t, mg x = some (.str z t)
inductive KRep (K : PySem.W.Frag) : V → PV → Prop
  | int (i : Int) : KRep K (.int i) (.int i)
  | str (x : Str) : KRep K (.str x) (.str x)
inductive KReps (K : PySem.W.Frag) : List V → List PV → Prop
  | nil : KReps K [] []
  | cons {v p vs ps} : KRep K v p → KReps K vs ps → KReps K (v :: vs) (p :: ps)
theorem KReps.reps {K : PySem.W.Frag} {vs : List V} {ps : List PV} (h : KReps K vs ps) (H : Hp) (μ : Mem) : RepPs K H μ vs ps := by
  induction h with
  | nil => exact .nil
  | cons h _ ih =>
    refine .cons ?_ ih
    cases h with
    | int i => exact .int i
    | str x => exact .str x
def HasTup (K : PySem.W.Frag) (mg : Str → Option Value) (x : Str) (ps : List PV) : Prop := ∃ a vs, mg x = some (.ref a) ∧ KT K a vs ∧ KReps K vs ps
section
variable {X : Cx} {x : Str} {pos : Pos}
theorem ee_gint {i : Int} (h : HasInt X.mg x i) (hg : Gl X x) (hd : (x == ("__debug__" : Str)) = false := by decide) : EE X (.Name x pos) (eC (.int i)) := by
  obtain ⟨t, h⟩ := h
  exact ee_c (v := .int i) (pe_glob hg h ⟨t, rfl⟩ hd) (fun _ => .int i) fun _ _ => .int i
theorem ee_gstr {z : Str} (h : HasStr X.mg x z) (hg : Gl X x) (hd : (x == ("__debug__" : Str)) = false := by decide) : EE X (.Name x pos) (eC (.str z)) := by
  obtain ⟨t, h⟩ := h
  exact ee_c (v := .str z) (pe_glob hg h ⟨t, rfl⟩ hd) (fun _ => .str z) fun _ _ => .str z
theorem ee_gtup {ps : List PV} (h : HasTup X.K X.mg x ps) (hg : Gl X x) (hd : (x == ("__debug__" : Str)) = false := by decide) : EE X (.Name x pos) (eC (.tup ps)) := by
  obtain ⟨a, vs, h, k, r⟩ := h
  exact ee_c (v := .ref a) (pe_glob hg h rfl hd) (fun H => .tup (.inr k) (r.reps H _)) fun H μ => .tup (.inr k) (r.reps H μ)
end

/-! ### a def that may be called -/
/-- all parameters by their names, in order -/
def KB0 (K : PySem.W.Frag) (fd : FuncData) (pn : List Str) : Prop := ∀ (s : Shared) (ws : List Value), K.In s.heap → ws.length = pn.length → BindsTo s fd ⟨[], pn.zip ws⟩ (pn.zip ws)
structure Cal (P : Program) (w : World) (K : PySem.W.Frag) (mg : Str → Option Value) (base : Heap) (k : Nat) (x : Str) (pn : List Str) (sp : Sp) : Prop where
  ex : ∃ f fd, mg x = some (.ref f) ∧ PySem.W.keepIn K (.ref f) = true ∧ Binds K fd pn [] ∧ KB0 K fd pn ∧ FnOk P w K mg base CX0 k f fd pn sp
section
variable {X : Cx} {k j : Nat} {pn : List Str} {m : Fn} {x : Str} {p pos : Pos} {e : Expr} {es : List Expr} {fa : Ea}
theorem ee_callC (C : Cal X.prog X.w X.K X.mg X.base k x pn (spM X.K m)) (hr : Room j X.A) (hk : k ≤ j) (hg : Gl X x) (ha : EA X (e :: es) fa) (hdb : (x == ("__debug__" : Str)) = false := by decide)
    (he : starEach (e :: es) X.env = (false, eval e X.env) :: starEach es X.env := by rfl) (hpl : (backTo pos (starEach es X.env)).any (·.1) = false := by rfl) : EE X (.Call (.Name x p) (e :: es) [] pos) (eArgs m fa) := by
  obtain ⟨f, fd, h1, h2, h3, _, F⟩ := C.ex
  exact ee_call F (hr.mono hk) hg h1 h2 h3 ha hdb he hpl
theorem ef_callC (C : Cal X.prog X.w X.K X.mg X.base k x pn (spN X.K m)) (hr : Room j X.A) (hk : k ≤ j) (hg : Gl X x) (ha : EA X (e :: es) fa) (hdb : (x == ("__debug__" : Str)) = false := by decide)
    (he : starEach (e :: es) X.env = (false, eval e X.env) :: starEach es X.env := by rfl) (hpl : (backTo pos (starEach es X.env)).any (·.1) = false := by rfl) : EF X (.Call (.Name x p) (e :: es) [] pos) (eArgs m fa) := by
  obtain ⟨f, fd, h1, h2, h3, _, F⟩ := C.ex
  exact ef_call F (hr.mono hk) hg h1 h2 h3 ha hdb he hpl
def eCall0 (m : Fn) : Ev := fun _ S => m [] S
theorem ef_callC0 (C : Cal X.prog X.w X.K X.mg X.base k x pn (spN X.K m)) (hr : Room j X.A) (hk : k ≤ j) (hg : Gl X x) (hdb : (x == ("__debug__" : Str)) = false := by decide) : EF X (.Call (.Name x p) [] [] pos) (eCall0 m) := by
  obtain ⟨f, fd, h1, h2, h3, _, F⟩ := C.ex
  exact ef_call0 F (hr.mono hk) hg h1 h2 h3 hdb
/-- keywords alone, in the parameters' order -/
def EK (X : Cx) (kws : List Keyword) (f : Ea) : Prop := PK X kws (tEa X.K f)
theorem pk_mono {kws : List Keyword} {t t' : TA} (h : PK X kws t) (f : ∀ σ H Q, t' σ H Q → t σ H Q) : PK X kws t' := ⟨fun pos pins s σ H Q I q => h.run pos pins s σ H Q I (f σ H Q q)⟩
theorem ek_nil : EK X [] aNil := pk_mono pk_nil fun σ H Q ⟨μ, ρ, S, hE, hR, hF⟩ => FitsG.here hF hR [] .nil
theorem ek_cons {nm : Option Str} {kpos : Pos} {kws : List Keyword} {f1 : Ev} {fr : Ea} (ha : EE X e f1) (hr : EK X kws fr) : EK X (⟨nm, e, kpos⟩ :: kws) (aCons f1 fr) :=
  pk_mono (pk_cons ha hr) fun σ H Q ⟨μ, ρ, S, hE, hR, hF⟩ => ⟨μ, ρ, S, hE, hR, (FitsG.bind hF).imp fun p S1 H1 μ1 s1 t1 h1 v rv =>
    ⟨μ1, ρ, S1, hE.step s1, t1, (FitsG.bind h1).imp fun qs S2 H2 μ2 s2 t2 h2 ws rw' => FitsG.here h2 t2 (v :: ws) (.cons (rv.step s2) rw')⟩⟩
theorem pe_callK0 {f : Addr} {fd : FuncData} {ps : List Str} {sp : Sp} {kws : List Keyword} {tk : TA}
    (F : FnOk X.prog X.w X.K X.mg X.base CX0 k f fd ps sp) (hr : Room k X.A) (hg : Gl X x) (hm : X.mg x = some (.ref f)) (hk : PySem.W.keepIn X.K (.ref f) = true) (hb : KB0 X.K fd ps)
    (hkw : PK X kws tk) (hall : (backToKw pos (keywordEach kws X.env)).all (·.1.isSome) = true := by rfl) (hks : (backToKw pos (keywordEach kws X.env)).filterMap (·.1) = ps := by rfl) (hdb : (x == ("__debug__" : Str)) = false := by decide)
    (hpl : ((backTo pos (starEach [] X.env)).any (·.1) || (backToKw pos (keywordEach kws X.env)).any (·.1.isNone)) = false := by rfl) :
    PE X (.Call (.Name x p) [] kws pos) (fun σ H Q => tk σ H fun zs H2 => sp zs H2 Q E0) := by
  refine ⟨fun pins s σ H Q I h => ?_⟩
  refine wpAny_Call_Name_kw (ld_glob I hg hm ?_ hdb)
  refine PySem.W.callWith_KW0 (h₀ := X.base) I.ok.mod.kin hk hall (thn (hkw.run pos pins s σ H _ I h) fun ws s2 ⟨zs, H2, I2, rz, q2⟩ => ⟨I2.kIn, ?_⟩) hpl
  rw [hks]
  have hl : ws.length = ps.length := by rw [← rz.length]; exact F.len _ _ _ _ q2
  refine wpAny_call (codeAny_mono (F.run X.A X.stack s2 H2 ⟨[], ps.zip ws⟩ ws zs Q E0 hr I2.env0 (hb s2 ws I2.kIn hl) rz q2) fun r s' hq => ?_)
  cases r with
  | error e => exact hq.elim
  | ok fl =>
    cases fl with
    | ret u => exact I2.after hq
    | next => exact hq.elim
    | brk => exact hq.elim
    | cont => exact hq.elim
theorem ee_callKC {kws : List Keyword} (C : Cal X.prog X.w X.K X.mg X.base k x pn (spM X.K m)) (hr : Room j X.A) (hk : k ≤ j) (hg : Gl X x) (ha : EK X kws fa) (hks : (backToKw pos (keywordEach kws X.env)).filterMap (·.1) = pn := by rfl) (hall : (backToKw pos (keywordEach kws X.env)).all (·.1.isSome) = true := by rfl)
    (hdb : (x == ("__debug__" : Str)) = false := by decide) (hpl : ((backTo pos (starEach [] X.env)).any (·.1) || (backToKw pos (keywordEach kws X.env)).any (·.1.isNone)) = false := by rfl) : EE X (.Call (.Name x p) [] kws pos) (eArgs m fa) := by
  obtain ⟨f, fd, h1, h2, _, h3, F⟩ := C.ex
  refine pe_mono (pe_callK0 F (hr.mono hk) hg h1 h2 h3 ha hall hks hdb hpl) fun σ H Q h => args (r := fun vs H1 Q => spM X.K m vs H1 Q E0) h fun H2 μ2 S2 vs ps rv t hF => ?_
  refine ⟨μ2, ps, S2, rv, t, ?_⟩
  revert hF
  cases m ps S2 with
  | ok q S3 => exact fun hF H' st t' v r => hF H' μ2 st t' v r
  | er => exact fun z => z
  | no => exact fun z => z
end
section
variable {P : Program} {w : World} {K : PySem.W.Frag} {mg : Str → Option Value} {base : Heap} {x qual : Str} {params : Arguments} {body : List Stmt} {scope : Scope} {f : Addr} {fd : FuncData} {N pn : List Str} {k : Nat} {g : Es} {sp : Sp}
theorem cal_of (hm : mg x = some (.ref f)) (F : FunD K x qual params body scope [] [] f fd)
    (h : ∀ (kV doc pm : Value) (an : Option Addr) (cdv ct : Value) (us : List Value), us.length = pn.length → bindArgs (PySem.W.fnOf x qual params body scope .none kV doc pm an cdv ct) ⟨us, []⟩ = pure (pn.zip us))
    (hk : ∀ (kV doc pm : Value) (an : Option Addr) (cdv ct : Value) (us : List Value), us.length = pn.length → bindArgs (PySem.W.fnOf x qual params body scope .none kV doc pm an cdv ct) ⟨[], pn.zip us⟩ = pure (pn.zip us))
    (G : FnOk P w K mg base CX0 k f fd pn sp) : Cal P w K mg base k x pn sp := by
  refine ⟨f, fd, hm, F.kp, F.bindsN h, fun s ws hK hl => ?_, G⟩
  obtain ⟨oc, od, dV, kV, doc, pm, an, cdv, ct, osl, rfl, lk, hcd, hD, hK⟩ := F.ex
  rcases hD with ⟨_, rfl⟩ | ⟨e, _⟩
  · exact .of_eq (hk kV doc pm an cdv ct ws hl)
  · exact absurd rfl e
theorem fn_zero (hpn : True) : FnOk P w K mg base CX0 k f fd pn (spM K (fun _ _ => .no)) := ⟨fun vs H Q E ⟨μ, ps, S, rv, t, hF⟩ => hF.elim, fun A outer s H args us vs Q E _ _ _ _ ⟨μ, ps, S, rv, t, hF⟩ => hF.elim⟩
end
end Py
set_option Elab.async false
set_option maxRecDepth 100000
set_option maxHeartbeats 4000000
set_option linter.all false
namespace Py
open PySem PySem.Spec PyProof.Rows L2
variable [CT]

theorem hu64 {A : Around} {k : Nat} (hr : Room k A) : A.units + 64 < cLine := hr.units
/-- turns of a while, more than any -/
def fuel : Nat := 10 ^ 9
theorem aLen1 {a : Ev} {ρ : Env} {S : Sto} {ps S' : List PV} (h : aCons a aNil ρ S = .ok ps S') : ps.length = 1 := by
  unfold aCons at h
  cases e : a ρ S with
  | ok x S1 => rw [e] at h; cases h; rfl
  | er => rw [e] at h; cases h
  | no => rw [e] at h; cases h
theorem aLen2 {a b : Ev} {ρ : Env} {S : Sto} {ps S' : List PV} (h : aCons a (aCons b aNil) ρ S = .ok ps S') : ps.length = 2 := by
  unfold aCons at h
  cases e : a ρ S with
  | ok x S1 =>
    rw [e] at h
    have h : ((aCons b aNil ρ S1).bind fun xs S2 => .ok (x :: xs) S2) = R.ok ps S' := h
    cases e2 : aCons b aNil ρ S1 with
    | ok ys S2 =>
      rw [e2] at h
      cases h
      simp [aLen1 e2]
    | er => rw [e2] at h; cases h
    | no => rw [e2] at h; cases h
  | er => rw [e] at h; cases h
  | no => rw [e] at h; cases h
theorem fn_zero0 {P : Program} {w : World} {K : PySem.W.Frag} {mg : Str → Option Value} {base : Heap} {k : Nat} {f : Addr} {fd : FuncData} {pn : List Str} : FnOk P w K mg base CX0 k f fd pn (spN K (fun _ _ => .no)) :=
  ⟨fun vs H Q E ⟨μ, ps, S, rv, t, hF⟩ => hF.elim, fun A outer s H args us vs Q E _ _ _ _ ⟨μ, ps, S, rv, t, hF⟩ => hF.elim⟩

/-! ### sum of a tuple -/
section
variable {prog : Program} {w : World} {A : Around} {E : Value → Shared → Prop} {s : Shared}
theorem sum_tupG {t : Addr} {xs : Array (Int × Tok)} {Q : Value → Shared → Prop} (hh : A.handled = none) (ht : s.heap.IsTuple t (intItems xs))
    (h : ∀ h' tk t', (∀ b o, s.heap.get? b = some o → h'.get? b = some o) → Q (.int (preSum (numAt xs) xs.size) t') { s with heap := h', toks := tk }) :
    wpAny (model prog w) A (call (.builtin "sum") [.ref t]) Q E s := by
  have lt : t < s.heap.objs.size := by
    obtain ⟨_, e, _⟩ := ht
    exact Heap.lt_size e
  refine call_sum_walkG (wpAny_pyIter_tuple ht ?_)
  have st : (s.heap.push { cls := .type "tuple_iterator", data := .fields #[.ref t, .int 0 0] }).IsTupleIter s.heap.objs.size t 0 := ⟨_, Heap.get?_push_size _ rfl, rfl, rfl⟩
  have tp : (s.heap.push { cls := .type "tuple_iterator", data := .fields #[.ref t, .int 0 0] }).IsTuple t (intItems xs) := ht.push _
  refine ⟨_, _, _, _, _, _, numAt xs, rfl, Walks.tuple (A := A.in1) hh _ t (Nat.ne_of_lt lt) (intItems xs), ⟨st, tp⟩, fun b hb => ?_, fun _ _ => intItems_at, fun h' tk t' hk => ?_⟩
  · show b < (s.heap.push _).objs.size
    rw [Heap.size_push]
    rcases (show b = s.heap.objs.size ∨ b = t by simpa using hb) with z | z
    · rw [z]; exact Nat.lt_succ_self _
    · rw [z]; exact Nat.lt_succ_of_lt lt
  · have := h h' tk t' fun b o e => hk b o (fun hm => absurd (by rw [List.mem_singleton.mp hm] at e; exact Heap.lt_size e) (Nat.lt_irrefl _)) (Heap.get?_push_of_some _ e)
    simpa [intItems] using this
end
def rSumT (K : PySem.W.Frag) : List V → Hp → VK → Prop := fun vs H Q => ∃ (a : Addr) (ns : List Int), vs = [V.ref a] ∧ SqT K H a (ns.map V.int) ∧ Q (.int ns.sum) H
theorem call_sumT {X : Cx} (hc : X.calm = true) : CallR X (.builtin "sum") (rSumT X.K) := by
  intro pins s σ H xs us Q I r q
  obtain ⟨a, ns, ex, hq, q⟩ := q
  subst ex
  cases r with
  | cons r rr =>
    cases rr
    cases r
    obtain ⟨its, rv, pt, _⟩ := I.tuple hq
    have hi : IntsAre its ns := RZ.intsAre_vals rv
    obtain ⟨ys, ey⟩ := hi.allInts.items
    have hn : numsOf (intItems ys).toList = ns := by rw [← ey]; exact hi.numsOf
    rw [nums_intItems] at hn
    have hT : s.heap.IsTuple a (intItems ys) := by rw [← ey]; exact pt
    refine sum_tupG (I.ok.hd hc) hT fun h' tk t' hk => ?_
    rw [preSum_eq, List.take_of_length_le (by simp), hn]
    exact ⟨.int ns.sum, H, I.kept hk, ⟨_, rfl⟩, q⟩
theorem call_sumA {X : Cx} (hc : X.calm = true) : CallR X (.builtin "sum") (fun vs H Q => rSum X.K vs H Q ∨ rSumT X.K vs H Q) := CallR.or (cr_sum hc) (call_sumT hc)
def gSumA (ps : List PV) (S : Sto) : R PV := match ps with
  | [p] => match (getQ p S).bind intsOf with
    | some ns => .ok (.int ns.sum) S
    | none => .no
  | _ => .no
theorem l_sumA {K : PySem.W.Frag} : LAR K (fun vs H Q => rSum K vs H Q ∨ rSumT K vs H Q) gSumA := by
  intro Q H μ S vs ps rv t hF
  unfold gSumA at hF
  split at hF
  · split at hF
    · rename_i ns e
      obtain ⟨v, rfl, h1⟩ := rv.one
      cases e1 : getQ _ S with
      | none => rw [e1] at e; cases e
      | some xs =>
        rw [e1] at e
        obtain ⟨a, vs, rfl, g1, g2⟩ := getQ_of t h1 e1
        rw [intsOf_eq e] at g2
        rw [g2.ints] at g1
        rcases g1 with g1 | g1
        · exact .inl ⟨a, ns, rfl, g1, hF.val t (.inl (.int _))⟩
        · exact .inr ⟨a, ns, rfl, g1, hF.val t (.inl (.int _))⟩
    · exact hF.elim
  · exact hF.elim

/-! ### len(set(t)), t a tuple of whole numbers -/
def ddI : List Int → List Int
  | [] => []
  | x :: r => if x ∈ r then ddI r else x :: ddI r
theorem ddI_mem {k : Int} : ∀ {r : List Int}, k ∈ ddI r ↔ k ∈ r
  | [] => Iff.rfl
  | x :: r => by
    rw [ddI]
    split
    · rename_i h
      rw [ddI_mem, List.mem_cons]
      exact ⟨.inr, fun q => q.elim (fun e => by rw [e]; exact h) fun q => q⟩
    · rw [List.mem_cons, List.mem_cons, ddI_mem]
theorem ddI_nd : ∀ r : List Int, (ddI r).Nodup
  | [] => List.nodup_nil
  | x :: r => by
    rw [ddI]
    split
    · exact ddI_nd r
    · rename_i h
      exact List.nodup_cons.mpr ⟨fun q => h (ddI_mem.mp q), ddI_nd r⟩
theorem ddI_of : ∀ {r : List Int}, r.Nodup → ddI r = r
  | [], _ => rfl
  | x :: r, h => by
    have h' := List.nodup_cons.mp h
    rw [ddI, if_neg h'.1, ddI_of h'.2]
def tLenSetT (K : PySem.W.Frag) (ta : TE) : TE := fun σ H Q => ta σ H fun x H1 => ∃ (l : Addr) (ns : List Int), x = .ref l ∧ SqT K H1 l (ns.map V.int) ∧ ns.length < 64 ∧ Q (.int (((ddI ns).length : Nat) : Int)) H1
theorem pe_lenSetT {X : Cx} {a : Expr} {ta : TE} {p p2 q pos : Pos} (hg : Gl X "len") (hm : X.mg "len" = none) (hg2 : Gl X "set") (hm2 : X.mg "set" = none) (ha : PE X a ta) (hc : X.calm = true := by rfl)
    (na : starEach [a] X.env = (false, eval a X.env) :: starEach [] X.env := by rfl) : PE X (.Call (.Name "len" p) [.Call (.Name "set" p2) [a] [] q] [] pos) (tLenSetT X.K ta) := by
  refine ⟨fun pins s σ H Q I h => Call_ (ld_blt I hg hm boot_len (PyProof.Rows.callWith_builtin1 (PyProof.Rows.args_cons (Call_ (ld_blt I hg2 hm2 PyProof.Rows.boot_set (PyProof.Rows.callWith_type1 (PyProof.Rows.args_cons (thn (ha.run pins s σ H _ I h) fun v s1 ⟨x, H1, I1, r1, q1⟩ => PyProof.Rows.args_nil ?_) na) na rfl))) rfl) rfl rfl))⟩
  obtain ⟨l, ns, ex, hq, h64, q1⟩ := q1
  subst ex
  cases r1
  obtain ⟨its, rv, pt, _⟩ := I1.tuple hq
  have hT : s1.heap.IsTuple l its.toArray := pt
  refine call_set_tupI (P := X.prog) (w := X.w) ns (I1.ok.hd hc) hT (by simpa using RZ.intsAre_vals rv) (by unfold scanBound; omega) fun h' tk c hS hcn hk => PyProof.Rows.args_nil ?_
  obtain ⟨o, es, ep, t, ho, hex, hd, _, nd, mem, _, hf, hn, _⟩ := hS
  have ec : c = (ddI ns).length := by
    rw [← hn]
    have hp : (es.toList.map keyOf).Perm (ddI ns) := (List.perm_ext_iff_of_nodup nd (ddI_nd ns)).mpr fun k => by
      rw [ddI_mem, ← mem k, decide_eq_true_iff]
    have := hp.length_eq
    simpa using this
  have I2 : Inv X pins σ H1 { s1 with heap := h', toks := tk } := I1.kept hk
  exact call_len_set ho hex hd hf (by rw [hn]; omega) ⟨.int ((ddI ns).length : Nat), H1, I2.tok _, ⟨_, by rw [hn, ec]⟩, q1⟩
def gLenSet (p : PV) (S : Sto) : R PV := match p with
  | .tup xs => match intsOf xs with
    | some ns => if ns.length < 64 then .ok (.int (((ddI ns).length : Nat) : Int)) S else .no
    | none => .no
  | _ => .no
theorem ee_lenSet {X : Cx} {a : Expr} {fa : Ev} {p p2 q pos : Pos} (hg : Gl X "len") (hg2 : Gl X "set") (hm : X.mg "len" = none) (hm2 : X.mg "set" = none) (ha : EE X a fa) (hc : X.calm = true := by rfl)
    (na : starEach [a] X.env = (false, eval a X.env) :: starEach [] X.env := by rfl) : EE X (.Call (.Name "len" p) [.Call (.Name "set" p2) [a] [] q] [] pos) (eUn gLenSet fa) :=
  pe_mono (pe_lenSetT hg hm hg2 hm2 ha hc na) fun σ H Q ⟨μ, ρ, S, hE, hR, hF⟩ => ⟨μ, ρ, S, hE, hR, (FitsG.bind hF).imp fun x S1 H1 μ1 s1 t1 h1 v rv => by
    unfold gLenSet at h1
    split at h1
    · split at h1
      · rename_i ns e
        split at h1
        · rename_i hc
          obtain ⟨b, ws, rfl, g1, g2⟩ := rv.tup_inv
          rw [intsOf_eq e] at g2
          rw [g2.ints] at g1
          exact ⟨b, ns, rfl, g1.sq, hc, h1.val t1 (.inl (.int _))⟩
        · exact h1.elim
      · exact h1.elim
    · exact h1.elim⟩

/-! ### list(range(n)) -/
def gLstRg (p : PV) (S : Sto) : R PV := match p with
  | .int n => if -(2 ^ 62) ≤ n ∧ n ≤ 16777216 then .ok (.lst (intsFrom 0 n.toNat)) S else .no
  | _ => .no
theorem rg_reps {K : PySem.W.Frag} {H : Hp} {μ : Mem} (n : Int) : RepPs K H μ (rgV 0 n) (intsFrom 0 n.toNat) := by
  have h : ∀ l : List Nat, RepPs K H μ (l.map fun i => V.int (0 + (i : Nat))) (l.map fun i => PV.int (0 + (i : Nat))) := fun l => by
    induction l with
    | nil => exact .nil
    | cons x l ih => exact .cons (.int _) ih
  unfold rgV intsFrom
  rw [Int.sub_zero]
  exact h _
theorem ef_listRg {X : Cx} {e : Expr} {fe : Ev} {p p2 pos pos2 : Pos} (hc : X.calm = true) (hg : Gl X "list") (hm : X.mg "list" = none) (hg2 : Gl X "range") (hm2 : X.mg "range" = none) (he : EE X e fe) (na : starEach [e] X.env = (false, eval e X.env) :: starEach [] X.env := by rfl)
    (na2 : starEach [.Call (.Name "range" p2) [e] [] pos2] X.env = (false, eval (.Call (.Name "range" p2) [e] [] pos2) X.env) :: starEach [] X.env := by rfl) : EF X (.Call (.Name "list" p) [.Call (.Name "range" p2) [e] [] pos2] [] pos) (eUn gLstRg fe) :=
  pe_mono (pe_listRg hc hg hm (prg_1 hg2 hm2 he na) na2) fun σ H Q ⟨μ, ρ, S, hE, hR, hF⟩ => ⟨μ, ρ, S, hE, hR, (FitsF.bind hF).imp fun q S1 H1 μ1 s1 t1 h1 v rv => by
    unfold gLstRg at h1
    split at h1
    · split at h1
      · rename_i hc
        cases rep_int rv
        exact ⟨_, rfl, ⟨by decide, by decide, hc.1, by omega, by omega⟩, FitsF.lay h1 (Step.refl _ _) t1 (rg_reps _)⟩
      · exact h1.elim
    · exact h1.elim⟩

/-! ### tuple * n -/
theorem tuple_mul0 (l : Addr) (n : Nat) (dd : Option Addr) (sl : Array (Option Value)) (x : Int) (u : Tok) (c0 : (decide (x < -(2 ^ 63)) || decide (x ≥ 2 ^ 63)) = false) :
    Meets (Builtin.«tuple.__mul__» ⟨[.ref l, .int x u], []⟩) (fun _ R s => s.heap.get? l = some { cls := .type "tuple", dict := dd, data := .seq #[] n, slots := sl } ∧ R (.ok (.ret (Value.ref l))) s) :=
  .of_wp fun prog w A R s h => by
    obtain ⟨hp, g, d, tk, os⟩ := s
    obtain ⟨hl, h⟩ := h
    have f1 := AutoSeq1.idx_int
    wp_walk using wpAny_loadPart' hl
    repeat (first
      | (refine wpAny_ite_false (decide_eq_false (by rw [c0]; exact Bool.false_ne_true)) ?_; wp_walk using wpAny_loadPart' hl)
      | (refine wpAny_ite_true (decide_eq_true (by rfl)) ?_; wp_walk using wpAny_loadPart' hl))
    exact ⟨_, rfl, h⟩
def rRep0 (K : PySem.W.Frag) : R2 := fun x y H Q => ∃ l k, x = .ref l ∧ y = .int k ∧ SqT K H l [] ∧ 0 ≤ k ∧ k ≤ 1000 ∧ Q (.ref l) H
theorem op_rep0 {X : Cx} : OpR X (binaryOp .Mult) (rRep0 X.K) := by
  intro pins s σ H x y v u Q I rx ry h
  obtain ⟨l, k, ex, ey, hT, h1, h2, q⟩ := h
  subst ex ey
  cases rx
  obtain ⟨t, et⟩ := ry
  subst et
  obtain ⟨its, r, ⟨⟨cls, dd, data, sl⟩, ho, hc, n, hd⟩, hs⟩ := I.tuple hT
  simp only at hc hd
  subst hc hd
  cases r
  have c0 : (decide (k < -(2 ^ 63)) || decide (k ≥ 2 ^ 63)) = false := by
    rw [decide_eq_false (by omega), decide_eq_false (by omega)]
    rfl
  refine wpAny_binaryOp_repeat_ref (T := "tuple") (U := "int") (by decide) ⟨_, ho, rfl⟩ (fun s' => typeIs_int s' k t) noFill_tuple_mul F.fills_int_mul F.slot_int_rmul repeat_tuple F.slot_int_index.lookup (call_meets F.slot_int_rmul (typeIs_int s k t) F.entry_int_rmul (F.args_int_rmul_2 _ _) (int_rmul_tuple k t l #[] n dd sl) ⟨ho, rfl, ⟨_, ho, rfl⟩, ?_⟩)
  exact call_meets F.slot_tuple_mul ⟨_, ho, rfl⟩ F.entry_tuple_mul (F.args_tuple_mul_2 _ _) (tuple_mul0 l n dd sl k t c0) ⟨ho, ⟨.ref l, H, I, rfl, q⟩⟩
theorem op_repA {X : Cx} : OpR X (binaryOp .Mult) (fun x y H Q => rRepT X.K x y H Q ∨ rRep0 X.K x y H Q) := OpR.or op_repT op_rep0
def gRep (p q : PV) (S : Sto) : R PV := match p, q with
  | .tup [], .int k => if 0 ≤ k ∧ k ≤ 1000 then .ok (.tup []) S else .no
  | .tup xs, .int k => if 2 ≤ k ∧ k ≤ 1000 ∧ xs.length ≤ 1000 then .ok (.tup (List.replicate k.toNat xs).flatten) S else .no
  | _, _ => .no
theorem RepPs.rep {K : PySem.W.Frag} {H : Hp} {μ : Mem} {ps : List PV} {vs : List V} (r : RepPs K H μ vs ps) : ∀ n : Nat, RepPs K H μ (List.replicate n vs).flatten (List.replicate n ps).flatten
  | 0 => .nil
  | n + 1 => by
    rw [List.replicate_succ, List.replicate_succ, List.flatten_cons, List.flatten_cons]
    exact r.append (RepPs.rep r n)
theorem l_rep {K : PySem.W.Frag} : L2R K (fun x y H Q => rRepT K x y H Q ∨ rRep0 K x y H Q) gRep := by
  intro Q H μ S v w p q rv rw' t hF
  unfold gRep at hF
  split at hF
  · split at hF
    · rename_i hc
      obtain ⟨a, vs, rfl, g1, g2⟩ := rv.tup_inv
      cases rep_int rw'
      cases g2
      exact .inr ⟨a, _, rfl, rfl, g1.sq, hc.1, hc.2, hF.val t rv⟩
    · exact hF.elim
  · rename_i xs k hne
    split at hF
    · rename_i hc
      obtain ⟨a, vs, rfl, g1, g2⟩ := rv.tup_inv
      cases rep_int rw'
      refine .inl ⟨a, _, vs, rfl, rfl, g1.sq, fun e => ?_, hc.1, hc.2.1, by rw [g2.length]; exact hc.2.2, lay_tup (fun p S H' μ' h => h) hF t (g2.rep _)⟩
      subst e
      exact hne (List.eq_nil_of_length_eq_zero g2.length.symm) 
    · exact hF.elim
  · exact hF.elim

/-! ### a dict of the module: texts to tuples of whole numbers -/
def DEnt (K : PySem.W.Frag) (e : DictEntry) (q : Str × List Int) : Prop := (∃ t, e.key = .str q.1 t) ∧ ∃ b vs, e.val = .ref b ∧ KT K b vs ∧ vs = q.2.map V.int
structure HasD (K : PySem.W.Frag) (w : World) (mg : Str → Option Value) (x : Str) (d : List (Str × List Int)) : Prop where
  ex : ∃ a es n, mg x = some (.ref a) ∧ KDict K w a es n ∧ Paired (DEnt K) es.toList d
  nd : (d.map (·.1)).Nodup
  sz : d.length ≤ sizeLine
def dKeys (d : List (Str × List Int)) : List Key := d.map fun q => .inr q.1
def dVals (d : List (Str × List Int)) : List PV := d.map fun q => .tup (q.2.map PV.int)
def gKIn (neg : Bool) (ks : List Str) (p : PV) (S : Sto) : R PV := match p with
  | .str z => .ok (.bl (if neg then !decide (z ∈ ks) else decide (z ∈ ks))) S
  | _ => .no
theorem find_d {K : PySem.W.Frag} (z : Str) : ∀ {l : List DictEntry} {d : List (Str × List Int)}, Paired (DEnt K) l d → (l.find? (·.key.isStr z)).isSome = decide (z ∈ d.map (·.1)) ∧ l.any (·.refKey) = false
  | [], _, h => by cases h; exact ⟨rfl, rfl⟩
  | e :: l, _, h => by
    cases h with
    | cons h1 h2 =>
      rename_i q d
      obtain ⟨⟨t, ek⟩, _⟩ := h1
      obtain ⟨g1, g2⟩ := find_d z h2
      have hk : e.key.isStr z = decide (q.1 = z) := by
        rw [ek]
        show (q.1 == z) = _
        exact Bool.beq_eq_decide_eq _ _
      refine ⟨?_, ?_⟩
      · rw [List.find?_cons, hk]
        by_cases hz : q.1 = z
        · rw [decide_eq_true hz]
          exact (decide_eq_true (by rw [List.map_cons, hz]; exact List.mem_cons_self ..)).symm
        · rw [decide_eq_false hz]
          show (l.find? _).isSome = _
          rw [g1, List.map_cons]
          exact decide_eq_decide.mpr ⟨fun m => List.mem_cons_of_mem _ m, fun m => (List.mem_cons.mp m).elim (fun e => absurd e.symm hz) fun m => m⟩
      · rw [List.any_cons, g2, Bool.or_false]
        unfold DictEntry.refKey
        rw [ek]
theorem nsIn_d {K : PySem.W.Frag} {w : World} {a : Addr} {es : Array DictEntry} {n : Nat} {d : List (Str × List Int)} (D : KDict K w a es n) (r : Paired (DEnt K) es.toList d) (z : Str) : ∃ o, PySem.W.nsIn K a z = some o ∧ o.isSome = decide (z ∈ d.map (·.1)) := by
  obtain ⟨g1, g2⟩ := find_d z r
  unfold PySem.W.nsIn
  rw [D.at_]
  show ∃ o, (match es.toList.find? (·.key.isStr z) with
      | some e => some (some e.val)
      | none => if es.toList.any (·.refKey) then none else some none) = some o ∧ _
  rw [g2]
  revert g1
  cases es.toList.find? (·.key.isStr z) with
  | none => exact fun g1 => ⟨none, rfl, g1⟩
  | some e => exact fun g1 => ⟨some e.val, rfl, g1⟩
section
variable {X : Cx} {x : Str} {e : Expr} {fe : Ev} {d : List (Str × List Int)} {ks : List Str} {pos p2 : Pos}
theorem kin {K : PySem.W.Frag} {w : World} {mg : Str → Option Value} {neg : Bool} {σ : L2.St} {H : Hp} {Q : VK} (hk : ks = d.map (·.1)) {a : Addr} {es : Array DictEntry} {n : Nat} (D : KDict K w a es n) (r : Paired (DEnt K) es.toList d) (h : tEv K (eUn (gKIn neg ks) fe) σ H Q) :
    tEv K fe σ H fun v H1 => ∃ (z : Str) (o : Option Value), v = .str z ∧ V.ref a = V.ref a ∧ PySem.W.nsIn K a z = some o ∧ Q (.bl (if neg then !o.isSome else o.isSome)) H1 := by
  obtain ⟨μ, ρ, S, hE, hR, hF⟩ := h
  refine ⟨μ, ρ, S, hE, hR, (FitsG.bind hF).imp fun q S1 H1 μ1 s1 t1 h1 v rv => ?_⟩
  unfold gKIn at h1
  split at h1
  · rename_i z
    cases rep_str rv
    obtain ⟨o, o1, o2⟩ := nsIn_d D r z
    refine ⟨z, o, rfl, rfl, o1, ?_⟩
    rw [o2, ← hk]
    exact h1.val t1 (.inl (.bl _))
  · exact h1.elim
theorem HasD.in_ (h : HasD X.K X.w X.mg x d) (hk : ks = d.map (·.1)) (he : EE X e fe) (hg : Gl X x) (hd : (x == ("__debug__" : Str)) = false := by decide) (hm : behindInMarks .In (.Name x p2) = false := by rfl) : EE X (.Compare e [.In] [.Name x p2] pos) (eUn (gKIn false ks) fe) ∧ ET X (.Compare e [.In] [.Name x p2] pos) (tV (eUn (gKIn false ks) fe)) := by
  obtain ⟨a, es, n, h1, D, r⟩ := h.ex
  refine ⟨pe_mono (pe_cmpR (op_in_kd D) he (pe_glob (v := .ref a) hg h1 rfl hd) hm) fun σ H Q h => kin (mg := X.mg) (neg := false) hk D r h, pt_mono (pt_cmpR (op_in_kd D) he (pe_glob (v := .ref a) hg h1 rfl hd) hm) fun σ H Q h => ?_⟩
  exact kin (mg := X.mg) (neg := false) (Q := fun x H' => ∃ k, x = .bl k ∧ Q k H') hk D r (tv_tB h)
theorem HasD.nin (h : HasD X.K X.w X.mg x d) (hk : ks = d.map (·.1)) (he : EE X e fe) (hg : Gl X x) (hd : (x == ("__debug__" : Str)) = false := by decide) (hm : behindInMarks .NotIn (.Name x p2) = false := by rfl) : EE X (.Compare e [.NotIn] [.Name x p2] pos) (eUn (gKIn true ks) fe) ∧ ET X (.Compare e [.NotIn] [.Name x p2] pos) (tV (eUn (gKIn true ks) fe)) := by
  obtain ⟨a, es, n, h1, D, r⟩ := h.ex
  refine ⟨pe_mono (pe_cmpR (op_notIn_kd D) he (pe_glob (v := .ref a) hg h1 rfl hd) hm) fun σ H Q h => kin (mg := X.mg) (neg := true) hk D r h, pt_mono (pt_cmpR (op_notIn_kd D) he (pe_glob (v := .ref a) hg h1 rfl hd) hm) fun σ H Q h => ?_⟩
  exact kin (mg := X.mg) (neg := true) (Q := fun x H' => ∃ k, x = .bl k ∧ Q k H') hk D r (tv_tB h)
end
/-! ### dict(d) of such a dict -/
theorem kvs_d {P : Program} {w : World} {K : PySem.W.Frag} : ∀ {l : List DictEntry} {d : List (Str × List Int)}, Paired (DEnt K) l d → ∃ (kvs : List (Key × V)) (vs : List (Key × Value)), KV kvs vs ∧ Pairs (mixKind P w) l vs ∧ kvs.map (·.1) = dKeys d ∧ vs.map (·.1) = dKeys d ∧ ∀ H μ, RepPs K H μ (kvs.map (·.2)) (dVals d)
  | [], _, h => by cases h; exact ⟨[], [], .nil, .nil, rfl, rfl, fun _ _ => .nil⟩
  | e :: l, _, h => by
    cases h with
    | cons h1 h2 =>
      rename_i q d
      obtain ⟨⟨t, ek⟩, b, us, ev, kt, eu⟩ := h1
      obtain ⟨kvs, vs, a1, a2, a3, a4, a5⟩ := kvs_d (P := P) (w := w) h2
      refine ⟨(.inr q.1, .ref b) :: kvs, (.inr q.1, e.val) :: vs, .cons ⟨rfl, ev⟩ a1, .cons ?_ rfl a2, ?_, ?_, fun H μ => .cons (.tup (.inr kt) ?_) (a5 H μ)⟩
      · rw [ek]
        exact mixKind_str P w q.1 t
      · rw [List.map_cons, a3]; rfl
      · rw [List.map_cons, a4]; rfl
      · rw [eu]; exact RepPs.of_ints _
theorem dkeys_nd {d : List (Str × List Int)} (h : (d.map (·.1)).Nodup) : (dKeys d).Nodup := by
  have e : dKeys d = (d.map (·.1)).map Sum.inr := by unfold dKeys; rw [List.map_map]; rfl
  rw [e]
  exact List.Pairwise.map _ (fun a b n z => n (Sum.inr.inj z)) h
theorem call_dictK {X : Cx} {a : Addr} {es : Array DictEntry} {n : Nat} {d : List (Str × List Int)} (D : KDict X.K X.w a es n) (r : Paired (DEnt X.K) es.toList d) (nd : (d.map (·.1)).Nodup) (sz : d.length ≤ sizeLine) :
    ∃ kvs : List (Key × V), kvs.map (·.1) = dKeys d ∧ (∀ H μ, RepPs X.K H μ (kvs.map (·.2)) (dVals d)) ∧ CallR X (.type "dict") (fun xs H Q => xs = [.ref a] ∧ ∀ p, H p = none → Q (.ref p) (upd H p (.dK kvs))) := by
  obtain ⟨kvs, vs, a1, a2, a3, a4, a5⟩ := kvs_d (P := X.prog) (w := X.w) r
  refine ⟨kvs, a3, a5, fun pins s σ H xs us Q I rr q => ?_⟩
  obtain ⟨ex, q⟩ := q
  subst ex
  obtain ⟨u, eu, rx⟩ := vals1 rr
  subst eu
  cases rx
  have hl : kvs.length = d.length := by have := congrArg List.length a3; simpa [dKeys] using this
  have dd : s.heap.DictOf (mixKind X.prog X.w) a vs := by
    refine ⟨_, es, n, I.kIn _ _ D.at_, ⟨rfl, rfl, rfl⟩, rfl, fun e he => ?_, a2, by rw [a4]; exact dkeys_nd nd⟩
    obtain ⟨z, t, h1, h2⟩ := D.lit.all e (Array.mem_toList_iff.mpr he)
    exact ⟨.inr z, by rw [h1]; exact mixKind_str X.prog X.w z t, h2⟩
  have hlv : vs.length = kvs.length := (Paired.length a1).symm
  refine kt_call_dict D.low dd (by rw [hlv, hl]; exact sz) fun h' d' hs => ?_
  have hm : (s.heap.objs.size == sysModules) = false := beq_eq_false_iff_ne.mpr (Nat.ne_of_gt I.big)
  refine ⟨.ref s.heap.objs.size, upd H s.heap.objs.size (.dK kvs), I.laid (t' := s.toks) (fun b u e => ?_) (Nat.le_refl _) (show ObjOk X.prog X.w _ _ _ (.dK kvs) from ⟨by rw [hl]; exact sz, hm, vs, a1, d'⟩), rfl, q _ (I.hok.fresh (Nat.le_refl _))⟩
  exact (hs.2 b (Nat.ne_of_lt (Heap.lt_size e))).trans (Heap.get?_push_of_some _ e)
theorem Rel.allocD {K : PySem.W.Frag} {H : Hp} {μ : Mem} {S : List PV} (hR : Rel K H μ S) {p : Addr} (hp : H p = none) {kvs : List (Key × V)} {ps : List PV} (r : RepPs K H μ (kvs.map (·.2)) ps) : Rel K (upd H p (.dK kvs)) (μ.grow [p]) (S ++ [.dic (kvs.map (·.1)) ps]) := by
  have l := Step.laid H μ hp (.dK kvs)
  have s : Step H μ (upd H p (.dK kvs)) (μ.grow [p]) := ⟨l.ext, l.dom, [p], rfl, fun a q => by rw [List.mem_singleton.mp q]; exact hp⟩
  refine ⟨by simp [Mem.grow, hR.len], ?_, fun n a ob e1 e2 => ?_, hR.resG hp _, tabs_upd hR.tab fun u e => by rw [hp] at e; cases e⟩
  · exact List.nodup_append.mpr ⟨hR.nd, by simp, fun a ha b hb => by
      rw [List.mem_singleton.mp hb]; intro z; rw [z] at ha; exact Mem.nst (hR.out hp) ha⟩
  · have e1 : (μ.st ++ [p])[n]? = some a := e1
    by_cases hn : n < μ.st.length
    · rw [List.getElem?_append_left hn] at e1
      rw [List.getElem?_append_left (by rw [← hR.len]; exact hn)] at e2
      exact (hR.obj n a ob e1 e2).step s (upd_ne fun z => Mem.nst (hR.out hp) (by rw [← z]; exact List.mem_of_getElem? e1))
    · have e : n = μ.st.length := by
        have := (List.getElem?_eq_some_iff.mp e1).1
        simp at this; omega
      subst e
      rw [List.getElem?_append_right (Nat.le_refl _)] at e1
      rw [List.getElem?_append_right (by rw [hR.len]; exact Nat.le_refl _)] at e2
      simp [hR.len] at e1 e2
      subst e1 e2
      exact ⟨kvs, upd_same, rfl, r.step s⟩
def eKD (d : List (Str × List Int)) : Ev := fun _ S => .ok (.dic (dKeys d) (dVals d)) S
theorem HasD.copy {X : Cx} {x : Str} {d : List (Str × List Int)} {pos p2 p : Pos} (h : HasD X.K X.w X.mg x d) (hm : X.mg "dict" = none) (hg2 : Gl X "dict") (hg : Gl X x) (hd : (x == ("__debug__" : Str)) = false := by decide)
    (he : starEach [.Name x p2] X.env = (false, eval (.Name x p2) X.env) :: starEach [] X.env := by rfl) (hpl : (backTo pos (starEach [] X.env)).any (·.1) = false := by rfl) : EF X (.Call (.Name "dict" p) [.Name x p2] [] pos) (eKD d) := by
  obtain ⟨a, es, n, h1, D, r⟩ := h.ex
  obtain ⟨kvs, k1, k2, C⟩ := call_dictK D r h.nd h.sz
  refine pe_mono (pe_callTy C hg2 hm (by decide +kernel) (pa_cons (pe_glob (v := .ref a) hg h1 rfl hd) pa_nil he) (by decide) (by decide) he hpl) fun σ H Q ⟨μ, ρ, S, hE, hR, hF⟩ => ⟨rfl, fun p hp => ?_⟩
  have s := Step.laid H μ hp (.dK kvs)
  have t := hR.allocD hp (k2 H μ)
  rw [k1] at t
  exact (show FitsF X.K H μ (.ok (.dic (dKeys d) (dVals d)) S) Q from hF) (upd H p (.dK kvs)) μ p hp (fun q => hR.resn q hp) s t

theorem es_par2 {i j : Nat} {x y : Str} {a b : Expr} {px py pt pos : Pos} {kt k2 pt2} {fa fb : Ev} (hc : X.calm = true) (hN : X.N.Nodup) (hi : X.N[i]? = some x) (hj : X.N[j]? = some y) (hij : i ≠ j)
    (hx : X.env.scope.names.lookup x = some .local) (hy : X.env.scope.names.lookup y = some .local) (ha : EE X a fa) (hb : EE X b fb)
    (hw : swappedStores [.Tuple [.Name x px, .Name y py] kt pt] (.Tuple [a, b] k2 pt2) X.env = pure (some [x, y]))
    (hs : swapsWithSole [.Tuple [.Name x px, .Name y py] kt pt] (.Tuple [a, b] k2 pt2) pos.line X.env = pure false)
    (hp : starEach [a, b] X.env = (false, eval a X.env) :: starEach [b] X.env := by rfl) (hq : starEach [b] X.env = (false, eval b X.env) :: starEach [] X.env := by rfl) :
    ES X (.Assign [.Tuple [.Name x px, .Name y py] kt pt] (.Tuple [a, b] k2 pt2) pos) (sPar i j fa fb) :=
  es_par ha hb (ps_par hc hN hi hj hij hx hy (pa_cons ha (pa_cons hb pa_nil hq) hp) hw hs)
theorem pure_gLe : ∀ p q S z S', gLe p q S = .ok z S' → S' = S := by
  intro p q S z S' h; unfold gLe at h; split at h <;> cases h; rfl
theorem pure_gLt : ∀ p q S z S', gLt p q S = .ok z S' → S' = S := by
  intro p q S z S' h; unfold gLt at h; split at h <;> cases h; rfl
theorem pure_gGt : ∀ p q S z S', gGt p q S = .ok z S' → S' = S := by
  intro p q S z S' h; unfold gGt at h; split at h <;> cases h; rfl
theorem pure_gGe : ∀ p q S z S', gGe p q S = .ok z S' → S' = S := by
  intro p q S z S' h; unfold gGe at h; split at h <;> cases h; rfl
theorem pure_gEq : ∀ p q S z S', gEq p q S = .ok z S' → S' = S := by
  intro p q S z S' h; unfold gEq at h
  repeat' split at h
  all_goals first | (cases h; rfl) | cases h
end Py
set_option Elab.async false
set_option maxRecDepth 100000
set_option maxHeartbeats 4000000
set_option linter.all false
namespace RT
open PySem PySem.Spec PyProof.Rows
section
variable {prog : Program} {w : World} {A : Around} {E : Value → Shared → Prop} {s : Shared} {r d : Addr} {n : Nat} {P : Nat → Value → Prop} {OK : Heap → Prop}
theorem code_tuple_new_src {Q₁ : Value → Shared → Prop} (K : W.KdlSrc prog w "dict" r d n P OK) (hh : A.handled = none) (hok : OK s.heap) (hn : n ≤ sizeLine)
    (h : ∀ (h' : Heap) (tk : Nat) (acc : Array Value), (∀ b o, s.heap.get? b = some o → h'.get? b = some o) → ItemsOf P acc n →
      Q₁ (.ref h'.objs.size) { s with heap := h'.push { cls := .type "tuple", data := .seq acc }, toks := tk }) :
    codeAny (model prog w) A (.call (.builtin "tuple.__new__") ⟨[.type "tuple", .ref r], []⟩) (wants Q₁ E) s := by
  refine codeAny_of_tree ?_
  show wpAny _ A.in1 (do checkBuiltinCall "tuple.__new__" ⟨[.type "tuple", .ref r], []⟩; again (.builtin "tuple.__new__" ⟨[.type "tuple", .ref r], []⟩)) _ _ s
  refine wpAny_bind (wpAny_of_eq (F.newCall_tuple_1 _) (wpAny_pure ⟨plainId_quiet F.plain_tuple_new _, codeAny_builtin F.entry_tuple_new ?_⟩))
  rw [Around.under_plainId F.plain_tuple_new _]
  have hsub := sub_tuple_self
  have hinit := init_tuple_lookup
  have hmh := madeHere_tuple
  have hTI : s.TypeIs (.ref r) "dict" := K.type _ hok
  have hh1 : A.in1.handled = none := hh
  wp_walk using wpAny_typeOf hTI, W.kdu_collect (A := A.in1) K hh1 hok hn
  intro h' tk acc hk hacc
  show wpAny _ _ (Builtin.Tuple.tupleExact acc.toList.toArray >>= fun v => ret v) _ _ _
  unfold Builtin.Tuple.tupleExact
  refine wpAny_bind (wpAny_newObj_type ?_ (by show acc.toList.toArray.size ≤ sizeLine; simp only [Array.toArray_toList]; rw [hacc.1]; exact hn))
  refine wpAny_pure ?_
  have e : acc.toList.toArray = acc := by simp
  rw [e]
  exact h h' tk acc hk hacc
theorem call_tuple_src {Q : Value → Shared → Prop} (K : W.KdlSrc prog w "dict" r d n P OK) (hh : A.handled = none) (hok : OK s.heap) (hn : n ≤ sizeLine)
    (hQ : ∀ (h' : Heap) (tk : Nat) (acc : Array Value), (∀ b o, s.heap.get? b = some o → h'.get? b = some o) → ItemsOf P acc n →
      Q (.ref h'.objs.size) { s with heap := h'.push { cls := .type "tuple", data := .seq acc }, toks := tk }) :
    wpAny (model prog w) A (call (.type "tuple") [.ref r]) Q E s := by
  refine callType_codes (Q₁ := fun obj s₁ => s₁.TypeIs obj "tuple" ∧ Q obj s₁) F.called_tuple (F.typeCall_tuple_1 _) F.entry_object_init
    (code_tuple_new_src (A := A.in1) K hh hok hn fun h' tk acc hk hacc => ⟨⟨_, Heap.get?_push_size _ rfl, rfl⟩, hQ h' tk acc hk hacc⟩) fun obj s₁ h₁ => ?_
  exact ⟨h₁.1, F.args_object_init_2 obj _, object_init_meets F.called_tuple.init.lookup F.called_tuple.made (by decide) prog w A.in1 _ s₁ ⟨h₁.1, rfl, h₁.2⟩⟩
end
end RT
namespace L2
open PySem PySem.Spec PyProof.Rows
variable {X : Cx}
/-- tuple(d): its keys -/
theorem call_tupleD (hcalm : X.calm = true) : CallR X (.type "tuple") (fun xs H Q => ∃ (a : Addr) (kvs : List (Key × V)), xs = [.ref a] ∧ Rd H a (.dK kvs) ∧ ∀ p, H p = none → Q (.ref p) (upd H p (.tup (kvs.map fun kv => kV kv.1)))) := by
  intro pins s σ H xs us Q I r q
  obtain ⟨a, kvs, ex, hd, q⟩ := q
  subst ex
  obtain ⟨u, eu, rx⟩ := vals1 r
  subst eu
  cases rx
  obtain ⟨z, lo, vs, rel, dd⟩ := dk_rd I.hok hd
  obtain ⟨ep, hat⟩ := dd.dictAt
  have ek : (kvs.map fun kv => kV kv.1) = vs.map fun p => kV p.1 := by
    have e := congrArg (List.map kV) rel.keys
    rw [List.map_map, List.map_map] at e
    exact e
  refine RT.call_tuple_src (PySem.W.kdl_dict (knd := mixKind X.prog X.w) (kvs := vs) (ep := ep) lo) (I.ok.hd hcalm) hat (by rw [← rel.length]; exact z) fun h' tk acc hk hacc => ?_
  have hv : Vals (vs.map fun p => kV p.1) acc.toList := keys_at (by rw [Array.length_toList]; exact hacc.1) fun j v e => hacc.2 j v (by rw [← Array.getElem?_toList]; exact e)
  have I1 : Inv X pins σ H { s with heap := h', toks := tk } := I.kept (t' := tk) hk
  have I2 : Inv X pins σ (upd H h'.objs.size (.tup (kvs.map fun kv => kV kv.1))) { s with heap := h'.push { cls := .type "tuple", data := .seq acc }, toks := tk } :=
    I1.laid (t' := tk) (fun b o e => Heap.get?_push_of_some _ e) (Nat.le_refl _) (show ObjOk X.prog X.w _ _ _ (.tup (kvs.map fun kv => kV kv.1)) from ⟨by rw [List.length_map]; exact z, acc.toList, by rw [ek]; exact hv, by rw [Array.toArray_toList]; exact IsTup.new _ _⟩)
  exact ⟨.ref h'.objs.size, _, I2, rfl, q _ (I1.hok.fresh (Nat.le_refl _))⟩
end L2
namespace Py
open PySem PySem.Spec PyProof.Rows L2
variable [CT]
variable {K : PySem.W.Frag}
def kPV : Key → PV
  | .inl i => .int i
  | .inr z => .str z
theorem rep_keys {H : Hp} {μ : Mem} : ∀ ks : List Key, RepPs K H μ (ks.map kV) (ks.map kPV)
  | [] => .nil
  | .inl i :: ks => .cons (.int i) (rep_keys ks)
  | .inr z :: ks => .cons (.str z) (rep_keys ks)
/-- tuple(d) -/
def gTupKs (ps : List PV) (S : Sto) : R PV := match ps with
  | [p] => match getD p S with
    | some (ks, _) => .ok (.tup (ks.map kPV)) S
    | none => .no
  | _ => .no
theorem l_tupKs : LAR K (fun xs H Q => ∃ (a : Addr) (kvs : List (Key × V)), xs = [.ref a] ∧ Rd H a (.dK kvs) ∧ ∀ p, H p = none → Q (.ref p) (upd H p (.tup (kvs.map fun kv => kV kv.1)))) gTupKs := by
  intro Q H μ S vs ps rv t hF
  unfold gTupKs at hF
  split at hF
  · split at hF
    · rename_i ks ws e
      obtain ⟨v, rfl, r1⟩ := rv.one
      obtain ⟨a, kvs, rfl, g1, g2, g3⟩ := getD_of t r1 e
      subst g2
      refine ⟨a, kvs, rfl, .inl g1, ?_⟩
      have e1 : (kvs.map fun kv => kV kv.1) = (kvs.map (·.1)).map kV := by rw [List.map_map]; rfl
      rw [e1]
      exact lay_tup (fun p S H' μ' h => h) hF t (rep_keys _)
    · exact hF.elim
  · exact hF.elim
def keyInts : List Key → Option (List Int)
  | [] => some []
  | .inl i :: ks => (keyInts ks).map (i :: ·)
  | .inr _ :: _ => none
theorem keyInts_of : ∀ {ks : List Key} {ns : List Int}, keyInts ks = some ns → ks = ns.map Sum.inl
  | [], ns, h => by cases h; rfl
  | .inl i :: ks, ns, h => by
    rw [keyInts] at h
    cases e : keyInts ks with
    | none => rw [e] at h; cases h
    | some ms =>
      rw [e] at h; cases h
      rw [keyInts_of e]; rfl
  | .inr _ :: _, ns, h => by cases h
/-- sorted(d), whose keys are fewer than 64 whole numbers -/
def gSortKs (ps : List PV) (S : Sto) : R PV := match ps with
  | [p] => match getD p S with
    | some (ks, _) => match keyInts ks with
      | some ns => if ns.length < 64 then .ok (.lst ((sortI ns).map PV.int)) S else .no
      | none => .no
    | none => .no
  | _ => .no
theorem l_sortKs : LAF K (fun xs H Q => ∃ (a : Addr) (kvs : List (Key × V)) (ks : List Int), xs = [.ref a] ∧ Rd H a (.dK kvs) ∧ kvs.map (·.1) = ks.map Sum.inl ∧ ks.length < 64 ∧
    ∀ (ys : List Int) (p : Addr), ys.Perm ks → ys.Pairwise (· ≤ ·) → H p = none → Q (.ref p) (upd H p (.lst (ys.map V.int)))) gSortKs := by
  intro Q H μ S vs ps rv t hF
  unfold gSortKs at hF
  split at hF
  · split at hF
    · rename_i ks ws e
      split at hF
      · rename_i ns e2
        split at hF
        · rename_i hl
          obtain ⟨v, rfl, r1⟩ := rv.one
          obtain ⟨a, kvs, rfl, g1, g2, g3⟩ := getD_of t r1 e
          refine ⟨a, kvs, ns, rfl, .inl g1, by rw [g2]; exact keyInts_of e2, hl, fun ys p hp hs h0 => ?_⟩
          rw [sorted_unique (hp.trans (sortI_perm ns).symm) hs (sortI_sorted ns)]
          exact FitsF.lay hF (Step.refl _ _) t (RepPs.of_ints _) p h0
        · exact hF.elim
      · exact hF.elim
    · exact hF.elim
  · exact hF.elim
end Py
set_option Elab.async false
set_option maxRecDepth 100000
set_option maxHeartbeats 4000000
set_option linter.all false
namespace PySem
namespace AutoSeq1
open Spec PyProof.Rows
theorem list_extend_list_tuple_any (l : Addr) (items : Array Value) (n : Nat) (b : Addr) (items2 : Array Value) (n2 : Nat) (d2 : Option Addr) (sl2 : Array (Option Value)) (hs0 : ¬(!items.isEmpty && Builtin.List.listTooLong (items.size + items2.size)) = true) (hs1 : items.size ≤ sizeLine) (hs2 : items.size + items2.size ≤ sizeLine + 1) :
    Meets (Builtin.«list.extend» ⟨[.ref l, .ref b], []⟩) (fun _ R s => s.heap.get? l = some { cls := .type "list", dict := none, data := .seq items n, slots := #[] } ∧ s.heap.get? b = some { cls := .type "tuple", dict := d2, data := .seq items2 n2, slots := sl2 } ∧ R (.ok (.ret Value.none)) { s with heap := s.heap.update l (Obj.mapSeq fun x => x ++ items2), toks := s.toks }) :=
  .of_wp fun prog w A R s h => by
    obtain ⟨hp, g, d, tk, os⟩ := s; obtain ⟨hl, hb, h⟩ := h; have f1 := idx_int; have f2 := sub_tuple_tuple; have f3 := sub_list_list; have f4 := sub_tuple_list; have f5 := sub_list_tuple;
    have hz' : (items ++ items2).size ≤ sizeLine + 1 := by rw [Array.size_append]; exact hs2
    wp_walk using (wpAny_updateSeq hl rfl (hz := hs1) (_hz' := hz')), wpAny_loadPart' hl, wpAny_loadPart' hb; exact ⟨_, rfl, h⟩
end AutoSeq1
end PySem
namespace L2
open PySem PySem.Spec PyProof.Rows
variable {X : Cx}
def rExtendT (K : PySem.W.Frag) : V → List V → Hp → VK → Prop := fun x vs H Q => ∃ l b xs zs, x = .ref l ∧ vs = [.ref b] ∧ H l = some (.lst xs) ∧ SqT K H b zs ∧ xs.length + zs.length ≤ sizeLine ∧ Q .non (upd H l (.lst (xs ++ zs)))
theorem mt_extendT : MtM X "list.extend" (rExtendT X.K) := by
  intro pins s σ H x vs v us Q I rx rv h
  obtain ⟨l, b, xs, zs, rfl, rfl, hH, hB, hz, q⟩ := h
  cases rx
  obtain ⟨u, rfl, ru⟩ := rv.one
  cases ru
  obtain ⟨z, its, n, r, hl, e⟩ := I.lstM hH
  obtain ⟨its2, r2, ⟨⟨cls, d2, dat, sl2⟩, e2, hc2, n2, hd2⟩, z2⟩ := I.tuple hB
  have hl2 := r2.length
  cases hc2; cases hd2
  have hsz : its.toArray.size + its2.toArray.size ≤ sizeLine := by rw [List.size_toArray, List.size_toArray]; omega
  have hlong : ¬ (!its.toArray.isEmpty && Builtin.List.listTooLong (its.toArray.size + its2.toArray.size)) = true := by
    rw [notLongL hsz, Bool.and_false]
    exact Bool.false_ne_true
  refine call_meets F.slot_list_extend ⟨_, e, rfl⟩ F.entry_list_extend (F.args_list_extend_2 _ _)
    (AutoSeq1.list_extend_list_tuple_any l its.toArray n b its2.toArray n2 d2 sl2 hlong (by rw [List.size_toArray]; omega) (by omega)) ⟨e, e2, ?_⟩
  refine ⟨.non, _, I.lset (its' := its ++ its2) hH e (by simp) (r.append r2) ?_, rfl, q⟩
  rw [List.length_append]
  omega
end L2
namespace Py
open PySem PySem.Spec PyProof.Rows L2
variable [CT]
variable {K : PySem.W.Frag}
/-- xs.extend(t), t a tuple -/
def gExtT (x y : PV) (S : Sto) : R PV := match x, y with
  | .ref n, .tup ys => match S[n]? with
    | some (.lst xs) => if xs.length + ys.length ≤ sizeLine then .ok .non (S.set n (.lst (xs ++ ys))) else .no
    | _ => .no
  | _, _ => .no
theorem l_extT : LMR K (rExtendT K) gExtT := by
  intro Q H μ S v w p q rv rw' t hF
  unfold gExtT at hF
  split at hF
  · split at hF
    · rename_i xs e
      split at hF
      · rename_i hc
        replace rv := rv.two
        rcases rv with rv | ⟨m, a, e1, e2, e3⟩
        · cases rv
        cases e1
        subst e3
        obtain ⟨b, ws, rfl, k1, k2⟩ := rw'.tup_inv
        obtain ⟨vs, g1, g2, g3⟩ := write_lst (ys := xs ++ _) t e2 e
        obtain ⟨s3, t3⟩ := g3 (vs ++ ws) fun H' μ' s => (g2.append k2).step s
        exact ⟨a, b, vs, ws, rfl, rfl, g1, k1.sq, by rw [g2.length, k2.length]; exact hc, hF _ _ s3 t3 _ (.inl .non)⟩
      · exact hF.elim
    · exact hF.elim
  · exact hF.elim
end Py
set_option Elab.async false
set_option maxRecDepth 100000
set_option maxHeartbeats 4000000
set_option linter.all false
namespace Py
open PySem PySem.Spec PyProof.Rows L2
variable [CT]
variable {K : PySem.W.Frag}
/-! ### any -/
def gAny (ps : List PV) (S : Sto) : R PV := match ps with
  | [p] => match (getL p S).bind blsOf with
    | some ns => .ok (.bl (ns.any id)) S
    | none => .no
  | _ => .no
theorem l_any : LAR K (rAny K) gAny := by
  intro Q H μ S vs ps rv t hF
  unfold gAny at hF
  split at hF
  · split at hF
    · rename_i ns e
      obtain ⟨v, rfl, h1⟩ := rv.one
      obtain ⟨a, rfl, g⟩ := getBls t h1 e
      exact ⟨a, ns, rfl, g, hF.val t (.inl (.bl _))⟩
    · exact hF.elim
  · exact hF.elim
/-! ### xs * n of a list -/
def gRepL (p q : PV) (S : Sto) : R PV := match p, q with
  | .frl _, _ => .no
  | p, .int k => match getL p S with
    | some xs => if -(2 ^ 62) ≤ k ∧ k ≤ 2 ^ 62 ∧ xs.length * k.toNat ≤ sizeLine then .ok (.lst (List.replicate k.toNat xs).flatten) S else .no
    | none => .no
  | _, _ => .no
theorem ef_repL {X : Cx} {a b : Expr} {fa fb : Ev} {pos : Pos} (ha : EE X a fa) (hb : EE X b fb) : EF X (.BinOp a .Mult b pos) (eOp gRepL fa fb) :=
  pe_mono (pe_op op_rep ha hb) fun σ H Q ⟨μ, ρ, S, hE, hR, hF⟩ => ⟨μ, ρ, S, hE, hR, (FitsF.bind hF).imp fun p S1 H1 μ1 s1 t1 h1 v rv =>
    ⟨μ1, ρ, S1, hE.step s1, t1, (FitsF.bind h1).imp fun q S2 H2 μ2 s2 t2 h2 w rw' => by
      unfold gRepL at h2
      split at h2
      · exact h2.elim
      · rename_i n1
        split at h2
        · rename_i xs e1
          split at h2
          · rename_i hc
            obtain ⟨x, vs, rfl, g1, g2⟩ := getL_trk t2 (rv.step s2) e1 n1
            cases rep_int rw'
            exact ⟨x, _, vs, rfl, rfl, g1, by omega, by omega, by rw [g2.length]; exact hc.2.2, FitsF.lay h2 (Step.refl _ _) t2 (g2.rep _)⟩
          · exact h2.elim
        · exact h2.elim
      · exact h2.elim⟩⟩
/-! ### a, b, c = x, y, z -/
def sPar3 (i j l : Nat) (a b c : Ev) : Es := fun ρ S => (a ρ S).bind fun p S1 => (b ρ S1).bind fun q S2 => (c ρ S2).bind fun r S3 => .ok (.nx (((ρ.set i (some p)).set j (some q)).set l (some r))) S3
theorem es_par3' {X : Cx} {i j l : Nat} {st : Stmt} {a b c : Expr} {fa fb fc : Ev} (h : PS X st (tPar3 i j l (tCons (tEv X.K fa) (tCons (tEv X.K fb) (tCons (tEv X.K fc) tNil))))) : ES X st (sPar3 i j l fa fb fc) :=
  ps_mono h fun D σ H ⟨μ, ρ, S, hE, hR, hF⟩ => ⟨μ, ρ, S, hE, hR, (FitsG.bind hF).imp fun p S1 H1 μ1 s1 t1 h1 v rv =>
    ⟨μ1, ρ, S1, hE.step s1, t1, (FitsG.bind h1).imp fun q S2 H2 μ2 s2 t2 h2 w rw' =>
      ⟨μ2, ρ, S2, (hE.step s1).step s2, t2, (FitsG.bind h2).imp fun r S3 H3 μ3 s3 t3 h3 u ru => ⟨v, w, u, rfl, FitsG.here h3 t3 _ (((((hE.step s1).step s2).step s3).set i (show ORep X.K H3 μ3 (some v) (some p) from (rv.step s2).step s3)).set j (show ORep X.K H3 μ3 (some w) (some q) from rw'.step s3) |>.set l (show ORep X.K H3 μ3 (some u) (some r) from ru))⟩⟩⟩⟩
theorem es_par3 {X : Cx} {i j l : Nat} {x y z : Str} {a b c : Expr} {px py pz pt pos : Pos} {kt k2 pt2} {fa fb fc : Ev} (hc : X.calm = true) (hN : X.N.Nodup) (hi : X.N[i]? = some x) (hj : X.N[j]? = some y) (hl : X.N[l]? = some z) (hij : i ≠ j) (hil : i ≠ l) (hjl : j ≠ l)
    (hx : X.env.scope.names.lookup x = some .local) (hy : X.env.scope.names.lookup y = some .local) (hz : X.env.scope.names.lookup z = some .local) (ha : EE X a fa) (hb : EE X b fb) (hcc : EE X c fc)
    (hw : swappedStores [.Tuple [.Name x px, .Name y py, .Name z pz] kt pt] (.Tuple [a, b, c] k2 pt2) X.env = pure (some [x, y, z]))
    (hs : swapsWithSole [.Tuple [.Name x px, .Name y py, .Name z pz] kt pt] (.Tuple [a, b, c] k2 pt2) pos.line X.env = pure false)
    (hp : starEach [a, b, c] X.env = (false, eval a X.env) :: starEach [b, c] X.env := by rfl) (hq : starEach [b, c] X.env = (false, eval b X.env) :: starEach [c] X.env := by rfl) (hr : starEach [c] X.env = (false, eval c X.env) :: starEach [] X.env := by rfl) :
    ES X (.Assign [.Tuple [.Name x px, .Name y py, .Name z pz] kt pt] (.Tuple [a, b, c] k2 pt2) pos) (sPar3 i j l fa fb fc) :=
  es_par3' (a := a) (b := b) (c := c) (ps_par3 hc hN hi hj hl hij hil hjl hx hy hz (pa_cons ha (pa_cons hb (pa_cons hcc pa_nil hr) hq) hp) hw hs)
end Py
set_option Elab.async false
set_option maxRecDepth 100000
set_option maxHeartbeats 4000000
set_option linter.all false
namespace HT
open PySem PySem.Spec PyProof.Rows L2
section
variable {prog : Program} {w : World} {A : Around} {E : Value → Shared → Prop} {s : Shared}
theorem sliceApplied_rev {sl : Addr} {vl vu vs : Value} {n : Nat} {Q : Int × Int × Nat → Shared → Prop} (hs : s.heap.IsSliceOf sl vl vu vs) (pl : IsPart vl none) (pu : IsPart vu none) (pk : IsPart vs (some (-1)))
    (h : Q ((n : Int) - 1, -1, n) s) : wpAny (model prog w) A (Builtin.Slice.sliceApplied (.ref sl) (pure (n : Int))) Q E s := by
  obtain ⟨os, hos, hcs, hds⟩ := id hs
  unfold Builtin.Slice.sliceApplied Builtin.Slice.sliceFields
  refine wpAny_bind (wpAny_bind (wpAny_field hos hds (x := vl) rfl (wpAny_bind (wpAny_field hos hds (x := vu) rfl (wpAny_bind (wpAny_field hos hds (x := vs) rfl (wpAny_pure ?_)))))))
  refine wpAny_bind (slicePart_ pk ?_)
  show wpAny _ _ (if ((-1 : Int) == 0) = true then _ else _) _ _ s
  rw [if_neg (by decide)]
  refine wpAny_bind (slicePart_ pl (wpAny_bind (slicePart_ pu (wpAny_bind (wpAny_pure ?_)))))
  have ha : Builtin.Slice.sliceAdjust none none (-1) (n : Int) = ((n : Int) - 1, -1) := by
    unfold Builtin.Slice.sliceAdjust
    simp
  show wpAny _ _ (match Builtin.Slice.sliceAdjust none none (-1) (n : Int) with | (lo, hi) => pure (lo, (-1 : Int), Builtin.Slice.slicePlaces lo hi (-1))) _ _ s
  rw [ha]
  have hp : Builtin.Slice.slicePlaces ((n : Int) - 1) (-1) (-1) = n := by
    unfold Builtin.Slice.slicePlaces
    rw [if_neg (by decide)]
    by_cases hn : n = 0
    · subst hn; rfl
    · rw [if_pos (by omega)]
      have : -(-1 : Int) = 1 := rfl
      rw [this, Int.ediv_one]
      omega
  show wpAny _ _ (pure ((n : Int) - 1, (-1 : Int), Builtin.Slice.slicePlaces ((n : Int) - 1) (-1) (-1))) _ _ s
  rw [hp]
  exact wpAny_pure h
theorem pick_rev (xs : Array Value) : ((List.range xs.size).filterMap fun (m : Nat) => xs[(((xs.size : Nat) : Int) - 1 + (m : Int) * (-1)).toNat]?).toArray = xs.toList.reverse.toArray := by
  have e : (List.range xs.size).filterMap (fun (m : Nat) => xs[(((xs.size : Nat) : Int) - 1 + (m : Int) * (-1)).toNat]?) = ((List.range xs.size).map fun k => xs.size - 1 - k).filterMap fun k => xs[k]? := by
    rw [List.filterMap_map]
    have fc : ∀ (f g : Nat → Option Value) (l : List Nat), (∀ m ∈ l, f m = g m) → l.filterMap f = l.filterMap g := fun f g l => by
      induction l with
      | nil => exact fun _ => rfl
      | cons x l ih =>
        intro h
        rw [List.filterMap_cons, List.filterMap_cons, h x (by simp), ih fun m hm => h m (by simp [hm])]
    refine fc _ _ _ fun m hm => ?_
    have := List.mem_range.mp hm
    have e3 : (((xs.size : Nat) : Int) - 1 + (m : Int) * (-1)).toNat = xs.size - 1 - m := by omega
    show xs[(((xs.size : Nat) : Int) - 1 + (m : Int) * (-1)).toNat]? = xs[xs.size - 1 - m]?
    rw [e3]
  rw [e, PySem.W.krv_range, List.filterMap_reverse, PySem.W.krv_all]
theorem getItem_tuple_rev {t sl : Addr} {items : Array Value} {vl vu vs : Value} {Q : Value → Shared → Prop} (ht : IsTup s.heap t items) (hs : s.heap.IsSliceOf sl vl vu vs) (pl : IsPart vl none) (pu : IsPart vu none) (pk : IsPart vs (some (-1)))
    (h : Q (.ref s.heap.objs.size) { s with heap := s.heap.push { cls := .type "tuple", data := .seq items.toList.reverse.toArray } })
    (hsz : items.size ≤ sizeLine) : wpAny (model prog w) A (getItem (.ref t) (.ref sl)) Q E s := by
  have htake : sizeOk (.seq items.toList.reverse.toArray) := by
    show items.toList.reverse.toArray.size ≤ sizeLine
    rw [List.size_toArray, List.length_reverse, Array.length_toList]
    omega
  obtain ⟨os, hos, hcs, hds⟩ := id hs
  have hTs : s.TypeIs (.ref sl) "slice" := ⟨os, hos, hcs⟩
  unfold getItem
  try with_reducible refine wpAny_holding ?_
  first | refine wpAny_bind (wpAny_pure ?_) | skip
  refine wpAny_bind (wpAny_sequenceKey ht.typeIs (by decide) ?_)
  refine wpAny_bind (wpAny_callSpecial?_slot (name := Str.ofString "__getitem__") ht.typeIs PyProof.Rows.slot_tuple_getitem
    (wpAny_call_entry PyProof.Rows.slot_tuple_getitem ht.typeIs entry_tuple_getitem ?_ (args_tuple_getitem _ _)))
  show wpAny _ _ (Builtin.Tuple.tupleItemsOf (.ref t) >>= _) _ _ s
  refine wpAny_bind (tupleItemsOf_ ht ?_)
  refine wpAny_bind (wpAny_typeOf hTs ?_)
  rw [if_pos (by decide)]
  refine wpAny_bind (sliceApplied_rev hs pl pu pk ?_)
  have hno : ¬ ((((items.size : Nat) : Int) - 1 == 0 && (-1 : Int) == 1 && items.size == items.size) = true) := by
    intro q
    rw [Bool.and_eq_true, Bool.and_eq_true] at q
    exact absurd q.1.2 (by decide)
  show wpAny _ _ (if (((items.size : Nat) : Int) - 1 == 0 && (-1 : Int) == 1 && items.size == items.size) = true then _ else _) _ _ s
  rw [if_neg hno, pick_rev]
  first
    | exact wpAny_bind (m := Builtin.Tuple.tupleExact _) (wpAny_newObj_type (wpAny_pure ⟨_, rfl, wpAny_pure h⟩) htake)
    | exact wpAny_bind (m := Builtin.Tuple.tupleExact _) (wpAny_newObj_type (wpAny_bind (wpAny_pure (wpAny_pure ⟨_, rfl, wpAny_pure h⟩))) htake)
    | exact wpAny_bind (wpAny_bind (m := Builtin.Tuple.tupleExact _) (wpAny_newObj_type (wpAny_pure (wpAny_pure ⟨_, rfl, wpAny_pure h⟩)) htake))
    | exact wpAny_bind (wpAny_bind (m := Builtin.Tuple.tupleExact _) (wpAny_newObj_type (wpAny_pure ⟨_, rfl, wpAny_pure h⟩) htake))
end
end HT
namespace L2
open PySem PySem.Spec PyProof.Rows
variable {X : Cx}
def tRevT (K : PySem.W.Frag) (te : TE) : TE := fun σ H Q => te σ H fun x H1 => ∃ a xs, x = .ref a ∧ SqT K H1 a xs ∧ ∀ p, H1 p = none → Q (.ref p) (upd H1 p (.tup xs.reverse))
theorem pe_revT {e : Expr} {te : TE} {k : Nat} {p1 p2 p3 pos : Pos} (he : PE X e te) : PE X (.Subscript e (.Slice none none (some (.UnaryOp .USub (.Constant (.int 1) k p1) p2)) p3) pos) (tRevT X.K te) := by
  refine ⟨fun pins s σ H Q I h => ?_⟩
  refine Subscript_ (thn (he.run pins s σ H _ I h) fun v s1 ⟨x, H1, I1, r1, q1⟩ => ?_)
  obtain ⟨a, xs, ex, hx, q⟩ := q1
  subst ex
  cases r1
  have hst : PO X (some (.UnaryOp .USub (.Constant (.int 1) k p1) p2)) (tPart (tUn (rU fun i => .int (-i)) (tC (.int 1)))) := po_some (pe_un un_neg pe_int)
  refine wpAny_Slice (thn (po_none.run pins s1 σ H1 (fun o H2 => o = none ∧ H2 = H1) I1 ⟨rfl, rfl⟩) fun vl s2 ⟨l, H2, I2, pl, el, e2⟩ => ?_)
  subst el e2
  refine thn (po_none.run pins s2 σ H2 (fun o H3 => o = none ∧ H3 = H2) I2 ⟨rfl, rfl⟩) fun vu s3 ⟨u, H3, I3, pu, eu, e3⟩ => ?_
  subst eu e3
  refine thn (hst.run pins s3 σ H3 (fun o H4 => o = some (-1) ∧ H4 = H3) I3 ⟨1, rfl, -1, rfl, rfl, rfl⟩) fun vs s4 ⟨o, H4, I4, ps, eo, e4⟩ => ?_
  subst eo e4
  have I5 : Inv X pins σ H4 { s4 with heap := s4.heap.push { cls := .type "slice", data := .fields #[vl, vu, vs] } } := I4.kept (t' := s4.toks) fun b ob q => Heap.get?_push_of_some _ q
  obtain ⟨its, r, ht, hz⟩ := I5.tuple hx
  have hlen := r.length
  show wpAny (model X.prog X.w) X.A (subscriptTail e (.Slice none none (some (.UnaryOp .USub (.Constant (.int 1) k p1) p2)) p3) (.ref a) (.ref s4.heap.objs.size)) (EP X pins σ Q) X.xe { s4 with heap := s4.heap.push { cls := .type "slice", data := .fields #[vl, vu, vs] } }
  refine tail_any (ops := [.ref a, .ref s4.heap.objs.size]) ht.typeIs (PyProof.Rows.slot_tuple_getitem.lookup) ?_ (by with_unfolding_all rfl)
  refine HT.getItem_tuple_rev ht (Heap.IsSliceOf.new _ vl vu vs) pl pu ps ?_ (by rw [List.size_toArray]; omega)
  refine ⟨.ref _, _, I5.laid (t' := s4.toks) (o := .tup xs.reverse) (fun b ob q => Heap.get?_push_of_some _ q) (Nat.le_refl _) ?_, rfl, q _ (I5.hok.fresh (Nat.le_refl _))⟩
  exact ⟨by rw [List.length_reverse]; omega, its.reverse, r.reverse, _, Heap.get?_push_size _ rfl, rfl, 0, rfl⟩
end L2
namespace Py
open PySem PySem.Spec PyProof.Rows L2
variable [CT]
/-- t[::-1], t a tuple -/
def gRevT (p : PV) (S : Sto) : R PV := match p with
  | .tup xs => .ok (.tup xs.reverse) S
  | _ => .no
theorem ee_revT {X : Cx} {e : Expr} {fa : Ev} {p1 p2 p3 pos : Pos} {k : Nat} (ha : EE X e fa) : EE X (.Subscript e (.Slice none none (some (.UnaryOp .USub (.Constant (.int 1) k p1) p2)) p3) pos) (eUn gRevT fa) :=
  pe_mono (pe_revT ha) fun σ H Q ⟨μ, ρ, S, hE, hR, hF⟩ => ⟨μ, ρ, S, hE, hR, (FitsG.bind hF).imp fun p S1 H1 μ1 s1 t1 h1 v rv => by
    unfold gRevT at h1
    split at h1
    · obtain ⟨a, vs, rfl, g1, g2⟩ := rv.tup_inv
      exact ⟨a, vs, rfl, g1.sq, lay_tup (fun p S H' μ' h => h) h1 t1 g2.reverse⟩
    · exact h1.elim⟩
/-- str(i) -/
def gStrI (ps : List PV) (S : Sto) : R PV := match ps with
  | [.int i] => if i.natAbs.log2 < 1920 then .ok (.str (toString i)) S else .no
  | _ => .no
theorem l_strI {K : PySem.W.Frag} : LAR K (fun xs H Q => ∃ i, xs = [.int i] ∧ i.natAbs.log2 < 1920 ∧ Q (.str (toString i)) H) gStrI := by
  intro Q H μ S vs ps rv t hF
  unfold gStrI at hF
  split at hF
  · split at hF
    · rename_i hc
      obtain ⟨v, rfl, r1⟩ := rv.one
      cases rep_int r1
      exact ⟨_, rfl, hc, hF.val t (.inl (.str _))⟩
    · exact hF.elim
  · exact hF.elim
end Py
set_option Elab.async false
set_option maxRecDepth 100000
set_option maxHeartbeats 4000000
set_option linter.all false
namespace PySem
namespace SeqAt
open Spec PyProof.Rows
section
variable {A : Around} {s : Shared}
theorem dict_eq_declines_str (l : Addr) (es : Array DictEntry) (ep : Nat) (dd : Option Addr) (sl : Array (Option Value)) (b : Str) (u : Tok) :
    Meets (Builtin.«dict.__eq__» ⟨[.ref l, .str b u], []⟩) (fun _ R s => s.heap.get? l = some { cls := .type "dict", dict := dd, data := .dict es ep, slots := sl } ∧ R (.ok (.ret .notImplemented)) s) :=
  .of_wp fun prog w A R s h => by obtain ⟨hp, g, d, tk, os⟩ := s; obtain ⟨hl, h⟩ := h; have f1 := F.sub_str_dict; wp_walk using wpAny_loadPart' hl, wpAny_load hl; exact ⟨_, rfl, h⟩
theorem str_eq_declines_dict (b : Str) (u : Tok) (l : Addr) (es : Array DictEntry) (ep : Nat) (dd : Option Addr) (sl : Array (Option Value)) :
    Meets (Builtin.«str.__eq__» ⟨[.str b u, .ref l], []⟩) (fun _ R s => s.heap.get? l = some { cls := .type "dict", dict := dd, data := .dict es ep, slots := sl } ∧ R (.ok (.ret .notImplemented)) s) :=
  .of_wp fun prog w A R s h => by obtain ⟨hp, g, d, tk, os⟩ := s; obtain ⟨hl, h⟩ := h; wp_walk using wpAny_loadPart' hl, wpAny_load hl; exact ⟨_, rfl, h⟩
theorem RcAt.dict_str {l : Addr} {o : Obj} (b : Str) (u : Tok) (ho : s.heap.get? l = some o) (hc : o.cls = .type "dict") {es : Array DictEntry} {ep : Nat} (hdt : o.data = .dict es ep) (hu : A.units < cLine) : RcAt A s (.ref l) (.str b u) false := fun prog w E Q h => by
  obtain ⟨cls, dd, data, sl⟩ := o
  simp only at hc hdt
  subst hc hdt
  exact rc_eq_decline_or (k := false) ⟨_, ho, rfl⟩ (typeIs_str s b u) (by decide) F.sub_str_dict F.slot_dict_eq F.slot_str_eq_refl
    (fun _ hq => call_meets F.slot_dict_eq ⟨_, ho, rfl⟩ F.entry_dict_eq (F.args_dict_eq_2 _ _) (dict_eq_declines_str l es ep dd sl b u) ⟨ho, hq⟩)
    (fun _ hq => call_meets F.slot_str_eq_refl (typeIs_str s b u) F.entry_str_eq (F.args_str_eq_2 _ _) (str_eq_declines_dict b u l es ep dd sl) ⟨ho, hq⟩)
    (fun _ hq => wpAny_of_eq (rfl : isSame (.ref l) (.str b u) = pure false) hq) (.inr hu) h
theorem RcAt.str_dict {l : Addr} {o : Obj} (b : Str) (u : Tok) (ho : s.heap.get? l = some o) (hc : o.cls = .type "dict") {es : Array DictEntry} {ep : Nat} (hdt : o.data = .dict es ep) (hu : A.units < cLine) : RcAt A s (.str b u) (.ref l) false := fun prog w E Q h => by
  obtain ⟨cls, dd, data, sl⟩ := o
  simp only at hc hdt
  subst hc hdt
  exact rc_eq_decline_or (k := false) (typeIs_str s b u) ⟨_, ho, rfl⟩ (by decide) F.sub_dict_str F.slot_str_eq F.slot_dict_eq_refl
    (fun _ hq => call_meets F.slot_str_eq (typeIs_str s b u) F.entry_str_eq (F.args_str_eq_2 _ _) (str_eq_declines_dict b u l es ep dd sl) ⟨ho, hq⟩)
    (fun _ hq => call_meets F.slot_dict_eq_refl ⟨_, ho, rfl⟩ F.entry_dict_eq (F.args_dict_eq_2 _ _) (dict_eq_declines_str l es ep dd sl b u) ⟨ho, hq⟩)
    (fun _ hq => wpAny_of_eq (rfl : isSame (.str b u) (.ref l) = pure false) hq) (.inr hu) h
theorem EqAt.str_dict {l : Addr} {o : Obj} (b : Str) (u : Tok) (ho : s.heap.get? l = some o) (hc : o.cls = .type "dict") {es : Array DictEntry} {ep : Nat} (hdt : o.data = .dict es ep) (hu : A.units < cLine) : EqAt A s (.str b u) (.ref l) false := fun prog w E Q h => by
  unfold eqBool
  refine wpAny_holding ?_
  refine wpAny_ite_split (fun hab => absurd (eq_of_beq hab) nofun) (fun _ => ?_)
  exact wpAny_bind (RcAt.str_dict b u ho hc hdt hu prog w E _ (wpAny_truthy_bool h))
end
end SeqAt
end PySem
namespace L2
open PySem PySem.Spec PyProof.Rows
/-- an object that is no text -/
def NoS (K : PySem.W.Frag) (H : Hp) (a : Addr) : Prop := (∃ kvs, H a = some (.dK kvs)) ∨ (∃ xs, SqT K H a xs) ∨ ∃ xs, SqL K H a xs
variable {X : Cx}
theorem nos_eq {pins : List (Addr × Obj)} {σ : St} {H : Hp} {s : Shared} {a : Addr} (I : Inv X pins σ H s) (n : NoS X.K H a) {A : Around} (hu : A.units < cLine) (b : Str) (u : Tok) :
    SeqAt.EqAt A s (.str b u) (.ref a) false ∧ SeqAt.RcAt A s (.str b u) (.ref a) false ∧ SeqAt.RcAt A s (.ref a) (.str b u) false := by
  rcases n with ⟨kvs, e⟩ | ⟨xs, h⟩ | ⟨xs, h⟩
  · obtain ⟨_, _, vs, _, d⟩ := (show ObjOk X.prog X.w H s.heap a (.dK kvs) from I.hok a _ e)
    obtain ⟨o, es, ep, ho, ⟨hc, _⟩, hdt, _⟩ := d
    exact ⟨SeqAt.EqAt.str_dict b u ho hc hdt hu, SeqAt.RcAt.str_dict b u ho hc hdt hu, SeqAt.RcAt.dict_str b u ho hc hdt hu⟩
  · obtain ⟨its, r, ht, _⟩ := I.tuple h
    exact ⟨SeqAt.EqAt.str_tuple b u ht hu, SeqAt.RcAt.str_tuple b u ht hu, SeqAt.RcAt.tuple_str b u ht hu⟩
  · obtain ⟨its, r, hl, _⟩ := I.list h
    exact ⟨SeqAt.EqAt.str_list b u hl.isList hu, SeqAt.RcAt.str_list b u hl.isList hu, SeqAt.RcAt.list_str b u hl.isList hu⟩
/-- == of a text and such an object -/
def rEqSO (K : PySem.W.Frag) : R2 := fun x y H Q => ∃ (a : Addr) (z : Str), ((x = .str z ∧ y = .ref a) ∨ (x = .ref a ∧ y = .str z)) ∧ NoS K H a ∧ Q (.bl false) H
theorem op_eqSO (hu : X.A.units < cLine) : OpR X (compareOp .Eq) (rEqSO X.K) := by
  intro pins s σ H x y v w Q I rx ry h
  obtain ⟨a, z, hxy, n, q⟩ := h
  rcases hxy with ⟨rfl, rfl⟩ | ⟨rfl, rfl⟩
  · obtain ⟨t, rfl⟩ := rx
    cases ry
    exact (nos_eq I n hu z t).2.1 _ _ _ _ ⟨.bl false, H, I, rfl, q⟩
  · obtain ⟨t, rfl⟩ := ry
    cases rx
    exact (nos_eq I n hu z t).2.2 _ _ _ _ ⟨.bl false, H, I, rfl, q⟩
/-- such an object in a tuple of texts -/
def rInSO (K : PySem.W.Frag) : R2 := fun x y H Q => ∃ (a l : Addr) (zs : List Str), x = .ref a ∧ y = .ref l ∧ NoS K H a ∧ SqT K H l (zs.map V.str) ∧ Q (.bl false) H
theorem op_inSO (hu : X.A.in1.units < cLine) : OpR X (compareOp .In) (rInSO X.K) := by
  intro pins s σ H x y v w Q I rx ry h
  obtain ⟨a, l, zs, rfl, rfl, n, ht, q⟩ := h
  cases rx
  cases ry
  obtain ⟨its, r, hl, _⟩ := I.tuple ht
  refine SeqAt.in_tupleAt (fun _ => false) hl (fun y hy => ?_) ?_
  · have key : ∀ (zs : List Str) (its : List Value), Vals (zs.map V.str) its → ∀ y ∈ its, ∃ z t, y = .str z t := by
      intro zs
      induction zs with
      | nil => intro its r y hy; cases r; cases hy
      | cons z zs ih =>
        intro its r y hy
        rw [List.map_cons] at r
        cases r with
        | cons r1 r2 =>
          obtain ⟨t, e⟩ := r1
          rcases List.mem_cons.mp hy with q | q
          · exact ⟨z, t, q.trans e⟩
          · exact ih _ r2 y q
    obtain ⟨z, t, rfl⟩ := key zs its r y (by simpa using hy)
    exact (nos_eq I n hu z t).1
  · have : (its.toArray.any fun _ => false) = false := by simp
    rw [this]
    exact ⟨.bl false, H, I, rfl, q⟩
/-- t != () -/
def rNeE (K : PySem.W.Frag) : R2 := fun x y H Q => ∃ (a b : Addr) (xs : List V), x = .ref a ∧ y = .ref b ∧ SqT K H a xs ∧ SqT K H b [] ∧ Q (.bl (!xs.isEmpty)) H
theorem op_neE (hu : X.A.units < cLine) : OpR X (compareOp .NotEq) (rNeE X.K) := by
  intro pins s σ H x y v w Q I rx ry h
  obtain ⟨a, b, xs, rfl, rfl, h1, h2, q⟩ := h
  cases rx
  cases ry
  obtain ⟨its, r1, t1, _⟩ := I.tuple h1
  obtain ⟨its2, r2, t2, _⟩ := I.tuple h2
  cases r2
  have := SeqAt.RcNeAt.tuples (A := X.A) (s := s) (e := fun _ => true) t1 t2 hu (fun j h1 h2 => absurd h2 (by simp))
  refine this _ _ _ _ ?_
  have e : (!((List.range (min its.toArray.size ([] : List Value).toArray.size)).all (fun _ => true) && its.toArray.size == ([] : List Value).toArray.size)) = !xs.isEmpty := by
    have hl := r1.length
    cases xs with
    | nil =>
      have : its = [] := List.eq_nil_of_length_eq_zero (by simpa using hl.symm)
      subst this; rfl
    | cons x xs =>
      cases its with
      | nil => simp at hl
      | cons => simp
  rw [e]
  exact ⟨.bl _, H, I, rfl, q⟩
end L2
namespace Py
open PySem PySem.Spec PyProof.Rows L2
variable [CT]
def strsOf : List PV → Option (List Str)
  | [] => some []
  | .str z :: r => (strsOf r).map (z :: ·)
  | _ => none
def isObj : PV → Bool
  | .tup _ => true
  | .lst _ => true
  | .dic _ _ => true
  | _ => false
/-- == where a text may meet any value -/
def gEqO (p q : PV) (S : Sto) : R PV := match p, q with
  | .str _, .dic _ _ => .ok (.bl false) S
  | .dic _ _, .str _ => .ok (.bl false) S
  | p, q => gEq p q S
/-- any value in a tuple of texts -/
def gInO (p q : PV) (S : Sto) : R PV := match q with
  | .tup ys => match isObj p, strsOf ys with
    | true, some _ => .ok (.bl false) S
    | _, _ => gIn false p (.tup ys) S
  | q => gIn false p q S
/-- != where a tuple of anything meets () -/
def gNeO (p q : PV) (S : Sto) : R PV := match p, q with
  | .tup xs, .tup [] => .ok (.bl (!xs.isEmpty)) S
  | p, q => gNe p q S
section
variable {K : PySem.W.Frag}
theorem strsOf_eq : ∀ {ys : List PV} {zs : List Str}, strsOf ys = some zs → ys = zs.map PV.str
  | [], _, h => by cases h; rfl
  | .str z :: r, zs, h => by
    rw [strsOf] at h
    cases e : strsOf r with
    | none => rw [e] at h; cases h
    | some ws =>
      rw [e] at h
      cases h
      rw [strsOf_eq e]; rfl
  | .non :: _, _, h => by cases h
  | .bl _ :: _, _, h => by cases h
  | .int _ :: _, _, h => by cases h
  | .tup _ :: _, _, h => by cases h
  | .lst _ :: _, _, h => by cases h
  | .frl _ :: _, _, h => by cases h
  | .dic _ _ :: _, _, h => by cases h
  | .ref _ :: _, _, h => by cases h
theorem Rep.nos {H : Hp} {μ : Mem} {v : V} {p : PV} (r : Rep K H μ v p) (h : isObj p = true) : ∃ a, v = .ref a ∧ NoS K H a := by
  replace r := r.two (by cases p <;> first | rfl | cases h)
  rcases r with r | ⟨n, a, e, _⟩
  · cases r with
    | tup h1 _ => exact ⟨_, rfl, .inr (.inl ⟨_, h1.sq⟩)⟩
    | lst h1 _ _ => exact ⟨_, rfl, .inr (.inr ⟨_, .inl (.inl h1)⟩)⟩
    | dic h1 _ _ => exact ⟨_, rfl, .inl ⟨_, h1⟩⟩
    | _ => cases h
  · subst e; cases h
theorem l_eqO : L2R K (fun x y H Q => (rEq x y H Q ∨ rEqD K x y H Q) ∨ rEqSO K x y H Q) gEqO := by
  intro Q H μ S v w p q rv rw' t hF
  unfold gEqO at hF
  split at hF
  · obtain ⟨a, rfl, n⟩ := rw'.nos rfl
    cases rep_str rv
    exact .inr ⟨a, _, .inl ⟨rfl, rfl⟩, n, hF.val t (.inl (.bl _))⟩
  · obtain ⟨a, rfl, n⟩ := rv.nos rfl
    cases rep_str rw'
    exact .inr ⟨a, _, .inr ⟨rfl, rfl⟩, n, hF.val t (.inl (.bl _))⟩
  · exact .inl (l_eq Q H μ S v w p q rv rw' t hF)
theorem op_eqO {X : Cx} (hu : X.A.units + 64 < cLine) : OpR X (compareOp .Eq) (fun x y H Q => (rEq x y H Q ∨ rEqD X.K x y H Q) ∨ rEqSO X.K x y H Q) := OpR.or (op_eqA hu) (op_eqSO (by omega))
theorem l_neO : L2R K (fun x y H Q => (rNe x y H Q ∨ rNeD K x y H Q) ∨ rNeE K x y H Q) gNeO := by
  intro Q H μ S v w p q rv rw' t hF
  unfold gNeO at hF
  split at hF
  · obtain ⟨a, vs, rfl, g1, g2⟩ := rv.tup_inv
    obtain ⟨b, ws, rfl, k1, k2⟩ := rw'.tup_inv
    cases k2
    have := g2.emp
    refine .inr ⟨a, b, vs, rfl, rfl, g1.sq, k1.sq, ?_⟩
    rw [this]
    exact hF.val t (.inl (.bl _))
  · exact .inl (l_ne Q H μ S v w p q rv rw' t hF)
theorem op_neO {X : Cx} (hu : X.A.units + 64 < cLine) : OpR X (compareOp .NotEq) (fun x y H Q => (rNe x y H Q ∨ rNeD X.K x y H Q) ∨ rNeE X.K x y H Q) := OpR.or (op_neA hu) (op_neE (by omega))
theorem RepPs.strsMap {H : Hp} {μ : Mem} : ∀ {zs : List Str} {vs : List V}, RepPs K H μ vs (zs.map PV.str) → vs = zs.map V.str := RepPs.strs
theorem l_inO : L2R K (fun x y H Q => ((∃ (c : Nat) (z : Str), x = .str ⟨#[c]⟩ ∧ y = .str z ∧ Q (.bl (decide (c ∈ z.cps.toList))) H) ∨ rIn K false x y H Q) ∨ rInSO K x y H Q) gInO := by
  intro Q H μ S v w p q rv rw' t hF
  unfold gInO at hF
  split at hF
  · rename_i ys
    split at hF
    · rename_i zs h1 h2
      obtain ⟨a, rfl, n⟩ := rv.nos h1
      obtain ⟨l, vs, rfl, g1, g2⟩ := rw'.tup_inv
      rw [strsOf_eq h2] at g2
      rw [g2.strs] at g1
      exact .inr ⟨a, l, zs, rfl, rfl, n, g1.sq, hF.val t (.inl (.bl _))⟩
    · exact .inl (l_in Q H μ S v w p _ rv rw' t hF)
  · exact .inl (l_in Q H μ S v w p _ rv rw' t hF)
theorem op_inO {X : Cx} (hu : X.A.units + 64 < cLine) (h2 : X.A.in1.units ≤ X.A.units + 1 := by exact Nat.le_refl _) : OpR X (compareOp .In) (fun x y H Q => ((∃ (c : Nat) (z : Str), x = .str ⟨#[c]⟩ ∧ y = .str z ∧ Q (.bl (decide (c ∈ z.cps.toList))) H) ∨ rIn X.K false x y H Q) ∨ rInSO X.K x y H Q) := OpR.or op_inA (op_inSO (by omega))
end
end Py
set_option Elab.async false
set_option maxRecDepth 100000
set_option maxHeartbeats 4000000
set_option linter.all false
/-! a, *b = a tuple -/
namespace L2
open PySem PySem.Spec PySem.Calls PyProof.Rows PySem.W
section
variable {prog : Program} {w : World} {A : Around} {E : Value → Shared → Prop} {s : Shared}
/-- one name and a star, a tuple of one item at least -/
theorem star_one {l : Addr} {u : Value} {us : List Value} {Q : List Value → Shared → Prop} (tl : IsTup s.heap l (u :: us).toArray) (calm : A.handled = none) (few : us.length ≤ 16000)
    (k : ∀ (g : Heap) (tk : Nat), (∀ b o, s.heap.get? b = some o → g.get? b = some o) → Q [u, .ref g.objs.size] { s with heap := g.push { cls := .type "list", data := .seq us.toArray }, toks := tk }) :
    wpAny (model prog w) A (unpackItems (.ref l) 2 (some 1)) Q E s := by
  have old : ∀ {b : Addr} {o : Obj}, s.heap.get? b = some o → b ≠ s.heap.objs.size := fun e => Nat.ne_of_lt (Heap.lt_size e)
  have far : l ≠ s.heap.objs.size := by
    obtain ⟨o, e, _⟩ := tl
    exact old e
  have one : (u :: us).toArray.toList.take 1 = [u] := rfl
  have rest : (u :: us).toArray.toList.drop 1 = us := rfl
  have size : (u :: us).toArray.size = us.length + 1 := rfl
  unfold unpackItems notIterableAtAll
  apply wpAny_bind
  apply wpAny_bind
  apply wpAny_specialOf tl.typeIs slot_tuple_iter.lookup
  apply wpAny_pure
  rw [if_neg Bool.false_ne_true]
  apply wpAny_bind
  apply wpAny_holding
  apply iter_tuple tl
  apply wpAny_bind
  apply wpAny_holding
  refine draw_tuple far 1 0 _ _ ⟨_, Heap.get?_push_size _ rfl, rfl, rfl⟩ (tl.push _) (by rw [size]; omega) fun g1 turn same => ?_
  have tl1 : IsTup g1 l (u :: us).toArray := (tl.push _).extBut same.extBut far
  rw [List.drop_zero, one, if_neg (show ¬ [u].length < 1 by simp)]
  have oi : s.heap.objs.size < g1.objs.size := by
    obtain ⟨o, e, _⟩ := id turn
    exact Heap.lt_size e
  have ol : l < g1.objs.size := by
    obtain ⟨o, e, _⟩ := id tl1
    exact Heap.lt_size e
  apply wpAny_bind
  apply wpAny_holding
  refine kun_collect (s := { s with heap := g1 }) (.inr (.inr (.inr rfl))) (Walks.tuple (A := A.in1) calm s.heap.objs.size l far (u :: us).toArray) (fun j v st => st.1.typeIs) (k := 1) (by rw [size]; omega) ⟨turn, tl1⟩ oi ol (fun g2 tk kept => ?_) (by rw [size, sizeLine_eq]; omega)
  rw [rest]
  show wpAny _ _ (if us.length < 0 then _ else newList (us.take (us.length - 0)) >>= fun d => pure ([u] ++ [d] ++ us.drop (us.length - 0))) _ _ _
  rw [if_neg (Nat.not_lt_zero _), Nat.sub_zero, List.take_length, List.drop_length]
  have up : ∀ b o, s.heap.get? b = some o → g2.get? b = some o := fun b o e => kept b o (old e) (same.extBut b o (old e) (Heap.get?_push_of_some _ e))
  exact wpAny_bind (wpAny_newList (s := { s with heap := g2, toks := tk }) (wpAny_pure (k g2 tk up)) (by rw [sizeLine_eq]; omega))
end
def gStr (K : PySem.W.Frag) (t : TGs) : TG := fun v σ H Q => ∃ a x xs, v = .ref a ∧ SqT K H a (x :: xs) ∧ xs.length ≤ 10000 ∧ ∀ d, H d = none → t [x, .ref d] σ (upd H d (.lst xs)) Q
section
variable {X : Cx} {pos : Pos}
theorem pg_str {es : List Expr} {k : Nat} {t : TGs} (hc : X.calm = true) (h : PGs X es t)
    (hn : (assignEach es X.env).length = 2 := by rfl) (hst : (assignEach es X.env).findIdx? (·.1) = some 1 := by rfl) : PG X (.Tuple es k pos) (gStr X.K t) := by
  refine ⟨fun pins s σ H v u Q I r hw => ?_⟩
  obtain ⟨a, x, xs, e1, hq, hl, hw⟩ := hw
  subst e1
  cases r
  obtain ⟨its, rv, ht, hz⟩ := I.tuple hq
  obtain ⟨u0, us, rfl, ru, rs⟩ : ∃ u0 us, its = u0 :: us ∧ RelV x u0 ∧ Vals xs us := by
    cases rv with
    | cons a b => exact ⟨_, _, rfl, a, b⟩
  have hlen := rs.length
  rw [PyProof.Rows.assign_Tuple]
  refine wpAny_bind (wpAny_standAt ?_)
  unfold unpack
  rw [hn, hst]
  refine wpAny_bind (wpAny_holding (star_one ht (I.ok.hd hc) (by omega) fun h₂ tk he => ?_))
  have I1 : Inv X pins σ H { s with heap := h₂, toks := tk } := I.kept he
  have nF : H h₂.objs.size = none := I1.hok.fresh (Nat.le_refl _)
  have I2 : Inv X pins σ (upd H h₂.objs.size (.lst xs)) { s with heap := h₂.push { cls := .type "list", data := .seq us.toArray }, toks := tk } :=
    I1.laid (t' := tk) (fun b u e => Heap.get?_push_of_some _ e) (Nat.le_refl _) (show ObjOk X.prog X.w _ _ _ (.lst xs) from ⟨by rw [sizeLine_eq]; omega, us, 0, rs, Heap.get?_push_size _ rfl⟩)
  exact h.run pins _ σ _ [x, .ref h₂.objs.size] _ Q I2 (.cons ru (.cons rfl .nil)) (hw _ nF)
end
end L2
namespace Py
open PySem PySem.Spec PyProof.Rows L2
variable [CT]
theorem FitsG_pre {α : Type} {K : PySem.W.Frag} {H H1 : Hp} {μ μ1 : Mem} {r : R α} {k : α → List PV → Hp → Mem → Prop} (h : FitsG K H μ r k) (s : Step H μ H1 μ1) : FitsG K H1 μ1 r k := by
  cases r with
  | ok a S' => exact fun H' μ' st t => (show FitsG K H μ (.ok a S') k from h) H' μ' (s.trans st) t
  | er => exact h
  | no => exact h
/-- a, *b = a tuple: b is a new list -/
def nStr (g : Egs) : Eg := fun p ρ S => match p with
  | .tup (q :: qs) => if qs.length ≤ 10000 then g [q, .lst qs] ρ S else .no
  | _ => .no
section
variable {X : Cx} {pos : Pos}
theorem eg_str {es : List Expr} {k : Nat} {g : Egs} (hc : X.calm = true) (h : EGs X es g) (hn : (assignEach es X.env).length = 2 := by rfl) (hst : (assignEach es X.env).findIdx? (·.1) = some 1 := by rfl) : EG X (.Tuple es k pos) (nStr g) :=
  pg_mono (pg_str hc h hn hst) fun v σ H Q ⟨p, μ, ρ, S, rv, hE, hR, hF⟩ => by
    unfold nStr at hF
    split at hF
    · split at hF
      · rename_i q qs hl
        obtain ⟨a, vs, rfl, g1, g2⟩ := rv.tup_inv
        cases g2 with
        | @cons x xs _ _ r1 r2 =>
        refine ⟨a, x, xs, rfl, g1.sq, by rw [r2.length]; exact hl, fun d hd => ?_⟩
        have st := Step.laid H μ hd (.lst xs)
        exact ⟨[q, .lst qs], μ, ρ, S, .cons (.inl (r1.step st)) (.cons (.inl (.lst (by simp [upd]) (hR.out hd) (r2.step st))) .nil), hE.step st, hR.laid hd _, FitsG_pre (show FitsG X.K H μ (g [q, .lst qs] ρ S) _ from hF) st⟩
      · exact hF.elim
    · exact hF.elim
end
end Py
namespace Py
open PySem PySem.Spec PyProof.Rows L2
variable [CT]
def idxI (i : Int) : List Int → Option Nat
  | [] => none
  | x :: r => if x = i then some 0 else (idxI i r).map (· + 1)
theorem idxI_spec {i : Int} : ∀ {ns : List Int} {j : Nat}, idxI i ns = some j → ns[j]? = some i ∧ ∀ (m : Nat) (z : Int), m < j → ns[m]? = some z → z ≠ i
  | [], j, h => by cases h
  | x :: r, j, h => by
    rw [idxI] at h
    by_cases c : x = i
    · rw [if_pos c] at h
      cases h
      exact ⟨by rw [c]; rfl, fun m z hm => by omega⟩
    · rw [if_neg c] at h
      cases e : idxI i r with
      | none => rw [e] at h; cases h
      | some k =>
        rw [e] at h
        cases h
        obtain ⟨h1, h2⟩ := idxI_spec e
        refine ⟨h1, fun m z hm hz => ?_⟩
        cases m with
        | zero => cases hz; exact c
        | succ m =>
          have hm : m + 1 < k + 1 := hm
          exact h2 m z (by omega) hz
/-- xs.index(i), a list of whole numbers -/
def gIdx (x y : PV) (S : Sto) : R PV := match (getL x S).bind intsOf, y with
  | some ns, .int i => match idxI i ns with
    | some j => .ok (.int (j : Nat)) S
    | none => .no
  | _, _ => .no
theorem l_idx {K : PySem.W.Frag} : LMR K (rIndex K) gIdx := by
  intro Q H μ S v w p q rv rw' t hF
  unfold gIdx at hF
  cases e : (getL p S).bind intsOf with
  | none => rw [e] at hF; exact hF.elim
  | some ns =>
    rw [e] at hF
    cases q with
    | int i =>
      simp only at hF
      cases ej : idxI i ns with
      | none => rw [ej] at hF; exact hF.elim
      | some j =>
        rw [ej] at hF
        obtain ⟨a, rfl, hs⟩ := getInts t rv e
        cases rep_int rw'
        obtain ⟨h1, h2⟩ := idxI_spec ej
        refine ⟨a, ns.map V.int, .int i, j, .int i, rfl, rfl, hs, rfl, ?_, by rw [List.getElem?_map, h1]; rfl, ?_, fun m z hm hz => ?_, (FitsG.here hF t) _ (.inl (.int _))⟩
        · rw [List.all_eq_true]
          intro x hx
          obtain ⟨n, _, rfl⟩ := List.mem_map.mp hx
          rfl
        · show (i == i) = true
          simp
        · rw [List.getElem?_map] at hz
          cases en : ns[m]? with
          | none => rw [en] at hz; cases hz
          | some n =>
            rw [en] at hz
            cases hz
            have := h2 m n hm en
            show (n == i) = false
            simpa using this
    | _ => exact hF.elim
end Py
set_option Elab.async false
set_option maxRecDepth 100000
set_option maxHeartbeats 4000000
set_option linter.all false
/-! D.get(x, y), D a dict of the module -/
namespace L2
open PySem PySem.Spec PyProof.Rows
section
variable {X : Cx} {o e f : Expr} {apos cpos : Pos} {ty tx : TE} {d : Addr} {es : Array DictEntry} {n : Nat}
theorem pe_kget2 (D : KDict X.K X.w d es n) (ho : PE X o (tC (.ref d))) (he : PE X e ty) (hf : PE X f tx) (m : M2 X o "get" apos e f cpos) : PE X (.Call (.Attribute o "get" apos) [e, f] [] cpos)
    (fun σ H Q => ty σ H fun y H2 => tx σ H2 fun z H3 => ∃ (k : Str) (u : Option Value) (r : Option V), y = .str k ∧ PySem.W.nsIn X.K d k = some u ∧ RelO r u ∧ Q (r.getD z) H3) := by
  refine ⟨fun pins s σ H Q I h => ?_⟩
  refine wpAny_Call_method m.base m.few m.line PySem.F.plainAttrs_dict PySem.F.slot_dict_get PySem.F.type_dict_get (thn (ho.run pins s σ H (fun x H1 => x = .ref d ∧ ty σ H1 fun y H2 => tx σ H2 fun z H3 => ∃ (k : Str) (u : Option Value) (r : Option V), y = .str k ∧ PySem.W.nsIn X.K d k = some u ∧ RelO r u ∧ Q (r.getD z) H3) I ⟨rfl, h⟩) fun u s1 ⟨x, H1, I1, rx, ex, q1⟩ => ?_)
  subst ex
  obtain rfl : u = Value.ref d := rx
  refine ⟨kd_type D I1, fun b q => by cases q; exact ⟨_, I1.kIn _ _ D.at_, rfl⟩, ?_⟩
  rw [m.trees]
  refine Calls.callWith_builtin rfl (Calls.evalArgs_plain (Calls.spliced_cons (thn (he.run pins s1 σ H1 _ I1 q1) fun iv s2 ⟨y, H2, I2, ry, q2⟩ =>
    Calls.spliced_cons (thn (hf.run pins s2 σ H2 _ I2 q2) fun fv s3 ⟨z, H3, I3, rz, k, u, r, ey, eu, ru, q3⟩ => Calls.spliced_nil ?_))))
  subst ey
  obtain ⟨t, rfl⟩ := ry
  have mp := PySem.W.mapOf_K (prog := X.prog) (w := X.w) I3.kIn D.at_ D.lit
  refine call_meetsIn PySem.F.slot_dict_get (kd_type D I3) PySem.F.entry_dict_get (PySem.F.args_dict_get_3 _ _ _) (meets_dict_get_default (PySem.strKind X.prog X.w) d (PySem.strKind_is X.prog X.w k t) D.low fv) ⟨_, mp, ?_⟩
  rw [PySem.W.find_K D.at_ eu]
  refine ⟨r.getD z, H3, I3.tok _, ?_, q3⟩
  cases r with
  | none => cases u with
    | none => exact rz
    | some u => exact ru.elim
  | some r => cases u with
    | none => exact ru.elim
    | some u => exact ru
end
end L2
namespace Py
open PySem PySem.Spec PyProof.Rows L2
variable [CT]
/-! ### a dict of the module: texts to values -/
def WEnt (K : PySem.W.Frag) (e : DictEntry) (q : Str × PV) : Prop := (∃ t, e.key = .str q.1 t) ∧ ∃ v, RelV v e.val ∧ ∀ H μ, RepP K H μ v q.2
structure HasW (K : PySem.W.Frag) (w : World) (mg : Str → Option Value) (x : Str) (d : List (Str × PV)) : Prop where
  ex : ∃ a es n, mg x = some (.ref a) ∧ KDict K w a es n ∧ Paired (WEnt K) es.toList d
def wget : List (Str × PV) → Str → Option PV
  | [], _ => none
  | (k, v) :: d, z => if k = z then some v else wget d z
theorem find_w {K : PySem.W.Frag} (z : Str) : ∀ {l : List DictEntry} {d : List (Str × PV)}, Paired (WEnt K) l d → l.any (·.refKey) = false ∧ match wget d z with
    | some p => ∃ e v, l.find? (·.key.isStr z) = some e ∧ RelV v e.val ∧ ∀ H μ, RepP K H μ v p
    | none => l.find? (·.key.isStr z) = none
  | [], _, h => by cases h; exact ⟨rfl, rfl⟩
  | e :: l, _, h => by
    cases h with
    | cons h1 h2 =>
      rename_i q d
      obtain ⟨⟨t, ek⟩, v, rv, rp⟩ := h1
      obtain ⟨g2, g1⟩ := find_w z h2
      have hk : e.key.isStr z = decide (q.1 = z) := by
        rw [ek]
        show (q.1 == z) = _
        exact Bool.beq_eq_decide_eq _ _
      refine ⟨?_, ?_⟩
      · rw [List.any_cons, g2, Bool.or_false]
        unfold DictEntry.refKey
        rw [ek]
      · obtain ⟨q1, q2⟩ := q
        rw [wget, List.find?_cons, hk]
        by_cases hz : q1 = z
        · rw [if_pos hz, decide_eq_true hz]
          exact ⟨e, v, rfl, rv, rp⟩
        · rw [if_neg hz, decide_eq_false hz]
          exact g1
theorem nsIn_w {K : PySem.W.Frag} {w : World} {a : Addr} {es : Array DictEntry} {n : Nat} {d : List (Str × PV)} (D : KDict K w a es n) (r : Paired (WEnt K) es.toList d) (z : Str) : ∃ u v, PySem.W.nsIn K a z = some u ∧ RelO v u ∧ match wget d z with
    | some p => ∃ x, v = some x ∧ ∀ H μ, RepP K H μ x p
    | none => v = none := by
  obtain ⟨g2, g1⟩ := find_w z r
  unfold PySem.W.nsIn
  rw [D.at_]
  show ∃ u v, (match es.toList.find? (·.key.isStr z) with
      | some e => some (some e.val)
      | none => if es.toList.any (·.refKey) then none else some none) = some u ∧ RelO v u ∧ _
  rw [g2]
  revert g1
  cases wget d z with
  | none =>
    intro g1
    rw [g1]
    exact ⟨none, none, rfl, trivial, rfl⟩
  | some p =>
    rintro ⟨e, v, e1, e2, e3⟩
    rw [e1]
    exact ⟨some e.val, some v, rfl, e2, v, rfl, e3⟩
def eWGet (d : List (Str × PV)) (a b : Ev) : Ev := fun ρ S => (a ρ S).bind fun x S1 => (b ρ S1).bind fun y S2 => match x with
  | .str z => .ok ((wget d z).getD y) S2
  | _ => .no
section
variable {X : Cx} {x : Str} {e f : Expr} {fe ff : Ev} {d : List (Str × PV)} {pos p2 apos cpos : Pos}
theorem HasW.get (h : HasW X.K X.w X.mg x d) (he : EE X e fe) (hf : EE X f ff) (hg : Gl X x) (m : M2 X (.Name x p2) "get" apos e f cpos) (hd : (x == ("__debug__" : Str)) = false := by decide) : EE X (.Call (.Attribute (.Name x p2) "get" apos) [e, f] [] cpos) (eWGet d fe ff) := by
  obtain ⟨a, es, n, h1, D, r⟩ := h.ex
  refine pe_mono (pe_kget2 D (pe_glob (v := .ref a) hg h1 rfl hd) he hf m) fun σ H Q ⟨μ, ρ, S, hE, hR, hF⟩ => ?_
  refine ⟨μ, ρ, S, hE, hR, (FitsG.bind hF).imp fun p S1 H1 μ1 s1 t1 h1 v rv => ⟨μ1, ρ, S1, hE.step s1, t1, (FitsG.bind h1).imp fun q S2 H2 μ2 s2 t2 h2 w' rw' => ?_⟩⟩
  cases p with
  | str z =>
    cases rep_str rv
    obtain ⟨u, v', e1, e2, e3⟩ := nsIn_w D r z
    refine ⟨z, u, v', rfl, e1, e2, ?_⟩
    revert e3
    cases ew : wget d z with
    | none =>
      intro e3
      subst e3
      have h2 : FitsG X.K H2 μ2 (.ok ((wget d z).getD q) S2) (VKont X.K Q) := h2
      rw [ew] at h2
      exact FitsG.here h2 t2 w' rw'
    | some p =>
      rintro ⟨y, rfl, e4⟩
      have h2 : FitsG X.K H2 μ2 (.ok ((wget d z).getD q) S2) (VKont X.K Q) := h2
      rw [ew] at h2
      exact FitsG.here h2 t2 y (.inl (e4 H2 μ2))
  | _ => exact h2.elim
end
end Py
namespace Py
open PySem PySem.Spec PyProof.Rows L2
variable [CT]
theorem egs_star {X : Cx} {e : Expr} {es : List Expr} {p : Pos} {g : Egs} (h : EGs X (e :: es) g) (hs : (assignEach (.Starred e p :: es) X.env).map (·.2) = (assignEach (e :: es) X.env).map (·.2) := by rfl) : EGs X (.Starred e p :: es) g :=
  ⟨fun pins s σ H vs us Q I r q => by
    have := h.run pins s σ H vs us Q I r q
    rw [hs]
    exact this⟩
end Py
namespace Py
open PySem PySem.Spec PyProof.Rows L2
variable [CT]
/-- a, b = x, y with a name that a comprehension holds: a tuple is made and unpacked -/
theorem es_parC {X : Cx} {i j : Nat} {x y : Str} {a b : Expr} {px py pt pos : Pos} {kt k2 pt2} {fa fb : Ev} (hc : X.calm = true) (gx : PG X (.Name x px) (gName i)) (gy : PG X (.Name y py) (gName j)) (ha : EE X a fa) (hb : EE X b fb)
    (hs : swapsWithSole [.Tuple [.Name x px, .Name y py] kt pt] (.Tuple [a, b] k2 pt2) pos.line X.env = pure false) (hw : swappedStores [.Tuple [.Name x px, .Name y py] kt pt] (.Tuple [a, b] k2 pt2) X.env = pure none)
    (hp : starEach [a, b] X.env = (false, eval a X.env) :: starEach [b] X.env := by rfl) (hq : starEach [b] X.env = (false, eval b X.env) :: starEach [] X.env := by rfl) :
    ES X (.Assign [.Tuple [.Name x px, .Name y py] kt pt] (.Tuple [a, b] k2 pt2) pos) (sPar i j fa fb) :=
  ps_mono (ps_asg (pe_tup (pa_cons ha (pa_cons hb pa_nil hq) hp)) (pg_tup (n := 2) hc (pgs_cons gx (pgs_cons gy pgs_nil))) hs hw rfl) fun D σ H ⟨μ, ρ, S, hE, hR, hF⟩ => ⟨μ, ρ, S, hE, hR, (FitsG.bind hF).imp fun p S1 H1 μ1 s1 t1 h1 v rv =>
    ⟨μ1, ρ, S1, hE.step s1, t1, (FitsG.bind h1).imp fun q S2 H2 μ2 s2 t2 h2 w rw' => ⟨by rw [sizeLine_eq]; simp, fun d hd => by
      have st := Step.laid H2 μ2 hd (.tup [v, w])
      exact ⟨d, [v, w], rfl, (show TupAt X.K (upd H2 d (.tup [v, w])) μ2 d [v, w] from .inl ⟨.inl upd_same, t2.out hd⟩).sq, rfl, v, [w], rfl, w, [], rfl, rfl,
        (show FitsG X.K H2 μ2 (.ok (.nx ((ρ.set i (some p)).set j (some q))) S2) (FinD X.K D) from h2) _ μ2 st (t2.laid hd _) _ (((((hE.step s1).step s2).step st).set i (show ORep X.K _ μ2 (some v) (some p) from (rv.step s2).step st)).set j (show ORep X.K _ μ2 (some w) (some q) from rw'.step st))⟩⟩⟩⟩
end Py
set_option Elab.async false
set_option maxRecDepth 100000
set_option maxHeartbeats 4000000
set_option linter.all false
namespace Py
open PySem PySem.Spec PyProof.Rows L2
variable [CT]
/-! ### a comprehension over a list of the store: each turn reads the list as it then is -/
def compFD (n : Nat) (g : Eg) (t : Et) (f : Ev) (ρ : Env) : Nat → Nat → List PV → Sto → R PV
  | 0, _, _, _ => .no
  | m + 1, i, acc, S => match S[n]? with
    | some (.lst xs) => match xs[i]? with
      | none => .ok (.lst acc) S
      | some p => (g p ρ S).bind fun ρ1 S1 => (t ρ1 S1).bind fun c S2 => if c = true then (f ρ1 S2).bind fun y S3 => if y.isRef = false ∧ acc.length < sizeLine then compFD n g t f ρ m (i + 1) (acc ++ [y]) S3 else .no
        else compFD n g t f ρ m (i + 1) acc S2
    | _ => .no
def fCompD (a : Ev) (g : Eg) (t : Et) (f : Ev) (vs : List Nat) : Ev := fun ρ S => (a ρ S).bind fun q S1 => match q with
  | .ref n => compFD n g t f (wipeP ρ vs) 5001 0 [] S1
  | _ => .no
section
variable {X : Cx} {elt tg iter : Expr} {ifs : List Expr} {scope : Scope} {own : List (Str × Nat)} {pos : Pos} {g : TG} {gP : Eg} {fa : Ev} {ft : Et} {fe : Ev}
theorem store_at {K : PySem.W.Frag} {H : Hp} {μ : Mem} {S : Sto} (t : Rel K H μ S) {n : Nat} {a : Addr} (e : μ.st[n]? = some a) {xs : List PV} (h : S[n]? = some (.lst xs)) : ∃ vs, H a = some (.lst vs) ∧ RepPs K H μ vs xs := t.obj n a (.lst xs) e h
theorem tLcD_of (T : Tgt X.K g gP (own.map (·.2))) {σ : L2.St} {H : Hp} {Q : VK} (h : tEf X.K (fCompD fa gP ft fe (own.map (·.2))) σ H Q) : tLc (iList X.K (tEv X.K fa)) g (tEt X.K ft) (tEv X.K fe) (own.map (·.2)) σ H Q := by
  obtain ⟨μ, ρ, S, hE, hR, hF⟩ := h
  obtain ⟨q, S1, eit, hF⟩ := FitsF.gone hF
  refine ⟨μ, ρ, S, hE, hR, FitsG.of_ok eit fun H1 μ1 s1 t1 v rv => ?_⟩
  cases q with
  | ref n =>
    replace rv := rv.two
    rcases rv with rv | ⟨n', a, e1, ea, e3⟩
    · cases rv
    cases e1
    subst e3
    have hF : FitsF X.K H1 μ1 (compFD n gP ft fe (wipeP ρ (own.map (·.2))) 5001 0 [] S1) Q := by
      have : FitsF X.K H μ (compFD n gP ft fe (wipeP ρ (own.map (·.2))) 5001 0 [] S1) Q := hF
      revert this
      generalize compFD n gP ft fe (wipeP ρ (own.map (·.2))) 5001 0 [] S1 = r
      intro h
      cases r with
      | ok b S2 =>
        intro H2 μ2 p hp hrs s2 t2
        refine h H2 μ2 p (s1.dom p hp) ?_ (s1.trans s2) t2
        obtain ⟨ν, e, _⟩ := s1.gro
        subst e
        exact hrs
      | er => exact h
      | no => exact h
    have first : ∃ xs, S1[n]? = some (.lst xs) := by
      rw [compFD] at hF
      split at hF
      · rename_i xs e; exact ⟨xs, e⟩
      · exact hF.elim
    obtain ⟨xs0, ex0⟩ := first
    obtain ⟨vs0, h0, _⟩ := store_at t1 ea ex0
    refine ⟨a, rfl, ⟨vs0, .inl (.inl h0)⟩, fun D hD => ?_⟩
    obtain ⟨k0, r0⟩ := reserve t1 hD []
    have e0 : ERel X.K (upd H1 D (.lst [])) (μ1.resv D) (wipe σ (own.map (·.2))) (wipeP ρ (own.map (·.2))) := ((hE.step s1).wipe _).keep k0 rfl
    refine ⟨fun i m H' => ∃ S' qs μ' acc, CompAt X.K H1 μ1 (wipe σ (own.map (·.2))) (wipeP ρ (own.map (·.2))) D H' S' qs μ' acc ∧ FitsF X.K H1 μ1 (compFD n gP ft fe (wipeP ρ (own.map (·.2))) m i qs S') Q,
      ⟨5001, S1, [], μ1, [], ⟨upd_same, .nil, r0, ⟨(Step.laid H1 μ1 hD _).ext, (Step.laid H1 μ1 hD _).dom, [], by simp [Mem.grow], by simp⟩, e0, Mem.nst (t1.out hD)⟩, hF⟩, ?_⟩
    rintro i m H' ⟨S', qs, μ', acc, c, h'⟩
    cases m with
    | zero => exact h'.elim
    | succ m =>
    rw [compFD] at h'
    split at h'
    · rename_i xs ex
      obtain ⟨vs, hv, rvs⟩ := store_at c.rel (show (μ'.resv D).st[n]? = some a from c.stp.get ea) ex
      split at h'
      · rename_i ei
        have hl : xs.length ≤ i := List.getElem?_eq_none_iff.mp ei
        refine .inl ⟨⟨vs, .inl (.inl hv), by rw [rvs.length]; exact hl⟩, ?_⟩
        have h2 : FitsF X.K H1 μ1 (.ok (.lst qs) S') Q := h'
        refine h2 H' μ' D hD (fun q => t1.resn q hD) c.stp ?_
        have sub : ∀ a, a ∈ μ'.grow [D] → a ∈ μ'.resv D := fun a q => by
          rcases q with q | q
          · rcases List.mem_append.mp q with q | q
            · exact .inl q
            · rw [List.mem_singleton.mp q]; exact .inr (List.mem_cons_self ..)
          · exact .inr (List.mem_cons_of_mem _ q)
        refine ⟨by have := c.rel.len; simpa [Mem.grow, Mem.resv] using this, List.nodup_append.mpr ⟨c.rel.nd, by simp, fun a ha b hb => ?_⟩, fun n a ob e1 e2 => ?_, fun a q => ⟨fun z => (List.mem_append.mp z).elim (c.rel.res a (List.mem_cons_of_mem _ q)).1 fun z => t1.resn (by rw [← c.stp.rse, ← List.mem_singleton.mp z]; exact q) hD, (c.rel.res a (List.mem_cons_of_mem _ q)).2⟩, c.rel.tab⟩
        · rw [List.mem_singleton.mp hb]
          intro z
          exact c.out (by rw [← z]; exact ha)
        · have e1 : (μ'.st ++ [D])[n]? = some a := e1
          have len : μ'.st.length = S'.length := c.rel.len
          by_cases hn : n < μ'.st.length
          · rw [List.getElem?_append_left hn] at e1
            rw [List.getElem?_append_left (by rw [← len]; exact hn)] at e2
            exact (c.rel.obj n a ob e1 e2).sub sub
          · have e : n = μ'.st.length := by
              have := (List.getElem?_eq_some_iff.mp e1).1
              simp at this; omega
            subst e
            rw [List.getElem?_append_right (Nat.le_refl _)] at e1
            rw [List.getElem?_append_right (by rw [len]; exact Nat.le_refl _)] at e2
            simp [len] at e1 e2
            subst e1 e2
            exact ⟨acc, c.at_, c.reps.sub sub⟩
      · rename_i p ep
        obtain ⟨u, eu, ru⟩ := rvs.get ep
        refine .inr ⟨⟨vs, u, .inl (.inl hv), eu⟩, fun H2 => ∃ S' qs μ' acc, CompAt X.K H1 μ1 (wipe σ (own.map (·.2))) (wipeP ρ (own.map (·.2))) D H2 S' qs μ' acc ∧ FitsF X.K H1 μ1 (compFD n gP ft fe (wipeP ρ (own.map (·.2))) m (i + 1) qs S') Q, fun H2 z => ⟨m, Nat.lt_succ_self m, z⟩, fun x H2 hy => ?_⟩
        obtain ⟨eH, hx⟩ := hy
        subst eH
        have hx := hx vs (.inl (.inl hv))
        rw [eu] at hx
        cases hx
        obtain ⟨ρ1, Sa, eg, h'⟩ := FitsF.gone h'
        obtain ⟨b, Sb, et, h'⟩ := FitsF.gone h'
        refine T.ok u p _ _ ρ1 S' Sa _ (μ'.resv D) _ (.inl ru) c.env eg fun σ1 e1 w1 eS => ?_
        subst eS
        refine ⟨w1.trans (wipe_wipe fun i q => q), μ'.resv D, ρ1, Sa, e1, c.rel, FitsG.of_ok et fun H3 μ3 s3 t3 => ?_⟩
        obtain ⟨μ4, rfl, c3⟩ := c.more s3 t3
        show if b = true then _ else _
        cases b with
        | false =>
          exact iteF ⟨Sb, qs, μ4, acc, c3, by simpa using h'⟩
        | true =>
          rw [if_pos rfl] at h'
          obtain ⟨y, Sc, ey, h'⟩ := FitsF.gone h'
          split at h'
          · rename_i hc
            refine iteT ⟨μ4.resv D, ρ1, Sb, e1.step s3, c3.rel, FitsG.of_ok ey fun H5 μ5 s5 t5 v rv => ?_⟩
            obtain ⟨μ6, rfl, c5⟩ := c3.more s5 t5
            exact ⟨acc, c5.at_, by rw [c5.reps.length]; exact hc.2, Sc, qs ++ [y], μ6, acc ++ [v], c5.push hD (rv.pure hc.1), h'⟩
          · exact h'.elim
    · exact h'.elim
  | _ => exact hF.elim
theorem ef_compD (hc : X.calm = true) (hN : X.N.Nodup) (ok : BlkOk X.N X.env.scope scope own) (T : Tgt X.K g gP (own.map (·.2))) (hi : EE X iter fa)
    (hg : ∀ (s : Shared) (H : Hp) (C : Addr) (cl : List (Str × Addr)) (fp : List Addr), PG (X.blk s H scope (compEnvC scope cl C X.env) fp) tg g)
    (ht : ∀ (s : Shared) (H : Hp) (C : Addr) (cl : List (Str × Addr)) (fp : List Addr), EIfs (X.blk s H scope (compEnvC scope cl C X.env) fp) ifs ft)
    (he : ∀ (s : Shared) (H : Hp) (C : Addr) (cl : List (Str × Addr)) (fp : List Addr), EE (X.blk s H scope (compEnvC scope cl C X.env) fp) elt fe)
    (hs : ∀ x, foldedSetIterable iter X.env x = pure x := by intro _; rfl) : EF X (.ListComp elt [⟨tg, iter, ifs, 0⟩] scope pos) (fCompD fa gP ft fe (own.map (·.2))) :=
  pe_mono (pe_lc (tt := tEt X.K ft) (te := tEv X.K fe) hc hN (pi_list hi) ok hg ht he hs) fun σ H Q h => tLcD_of T h
end
end Py
set_option Elab.async false
set_option maxRecDepth 100000
set_option maxHeartbeats 4000000
set_option linter.all false
/-! zip of a tuple and a list -/
namespace L2
open PySem PySem.Spec PyProof.Rows
/-- the five new objects of a zip made when the heap has n -/
def zFive (n : Nat) : List Addr := [n + 4, n + 2, n + 3, n, n + 1]
def zAt (n : Nat) (a b : Addr) (i : Nat) (h : Heap) : Prop :=
  IsZip h (n + 4) (n + 2) (n + 3) .none ∧ IsTupOf2 h (n + 2) (.ref n) (.ref (n + 1)) ∧ (∃ x y, IsTupOf2 h (n + 3) x y) ∧ h.IsTupleIter n a i ∧ h.IsListIter (n + 1) b i
def ItzM (K : PySem.W.Frag) (a b : Addr) : It where
  go := fun i H => ∃ xs ys x y, (SqT K H a xs ∧ xs[i]? = some x) ∧ SqL K H b ys ∧ ys[i]? = some y
  yld := fun i H v H' => ∃ T x y, v = .ref T ∧ H T = none ∧ H' = upd H T (.tup [x, y]) ∧ (∀ xs, SqT K H a xs → xs[i]? = some x) ∧ ∀ ys, SqL K H b ys → ys[i]? = some y
  stop := fun i H => ∃ xs ys, SqT K H a xs ∧ SqL K H b ys ∧ (xs.length = i ∧ i ≤ ys.length ∨ ys.length = i ∧ i ≤ xs.length)
theorem zSep (n : Nat) {a b : Addr} (ha : a < n) (hb : b < n) : ZipSep2 (n + 4) (n + 2) (n + 3) n (n + 1) [n, a] [n + 1, b] := by
  have fa : ∀ k, ¬ n + k = a := fun k e => Nat.not_lt.mpr (Nat.le_add_right n k) (by rw [e]; exact ha)
  have fb : ∀ k, ¬ n + k = b := fun k e => Nat.not_lt.mpr (Nat.le_add_right n k) (by rw [e]; exact hb)
  have f0 := fa 0
  have g0 := fb 0
  rw [Nat.add_zero] at f0 g0
  constructor <;> first | omega | (simp [fa, fb, f0, g0]; done) | (simp; exact fa _) | (simp; exact fb _)
theorem turnM {P : Program} {w : World} {K : PySem.W.Frag} {elts : List Expr} {kk : Nat} {tpos : Pos} {n : Nat} {a b : Addr} (ha : a < n) (hb : b < n) : Turn P w K (.Tuple elts kk tpos) (ItzM K a b) (zFive n) (n + 4) (zAt n a b) := by
  have sep := zSep n ha hb
  have na : a ≠ n := Nat.ne_of_lt ha
  have nb : b ≠ n + 1 := Nat.ne_of_lt (Nat.lt_succ_of_lt hb)
  have mem : ∀ {c : Addr}, c ∈ zFive n ↔ c = n + 4 ∨ c = n + 2 ∨ c = n + 3 ∨ c = n ∨ c = n + 1 := by intro c; simp [zFive]
  have lives : ∀ {i : Nat} {h : Heap}, zAt n a b i h → ∀ c ∈ zFive n, ∃ o, h.get? c = some o ∧ ∀ v, o.data ≠ .cell v := by
    rintro i h ⟨k1, k2, ⟨x, y, k3⟩, ⟨o4, k4, _, d4⟩, o5, k5, _, d5⟩ c hc
    rcases mem.mp hc with e | e | e | e | e <;> subst e
    · exact ⟨_, k1, nofun⟩
    · exact ⟨_, k2, nofun⟩
    · exact ⟨_, k3, nofun⟩
    · exact ⟨o4, k4, fun v q => by rw [d4] at q; cases q⟩
    · exact ⟨o5, k5, fun v q => by rw [d5] at q; cases q⟩
  constructor
  · exact mem.mpr (.inl rfl)
  · exact fun i h st => lives st
  · rintro i h h' ⟨k1, k2, ⟨x, y, k3⟩, k4, k5⟩ up
    have u := fun {c : Addr} (q : c ∈ zFive n) => up c q
    exact ⟨u (mem.mpr (.inl rfl)) _ k1, u (mem.mpr (.inr (.inl rfl))) _ k2, ⟨x, y, u (mem.mpr (.inr (.inr (.inl rfl)))) _ k3⟩, k4.at fun o q => u (mem.mpr (.inr (.inr (.inr (.inl rfl))))) o q, k5.at fun o q => u (mem.mpr (.inr (.inr (.inr (.inr rfl))))) o q⟩
  · rintro X rfl rfl rfl calm i pins s σ H E I free st ⟨xs, ys, x, y, ⟨qx, ex⟩, qy, ey⟩
    have lv := lives st
    obtain ⟨k1, k2, ⟨x0, y0, k3⟩, k4, k5⟩ := st
    obtain ⟨us, rx, px, _⟩ := I.tuple qx
    obtain ⟨ws, ry, py, _⟩ := I.list qy
    obtain ⟨u, eu, ru⟩ := rx.get ex
    obtain ⟨t, et, rt⟩ := ry.get ey
    have hd : X.A.in1.handled = none := I.ok.hd calm
    have iu : i < us.toArray.size := by simpa using (List.getElem?_eq_some_iff.mp eu).1
    have iw : i < ws.toArray.size := by simpa using (List.getElem?_eq_some_iff.mp et).1
    refine wpAny_pyNext_zipD2_item sep (Draws.tuple hd n a na us.toArray) (Draws.list hd (n + 1) b nb ws.toArray) k1 k2 k3 ⟨k4, px⟩ ⟨k5, py.isList⟩ iu iw fun v1 v2 g tk e1 e2 z1 z3 z4 z5 zT zs keep => ?_
    refine ⟨_, rfl, wpAny_letOwnedTupleGo_zip (s := { s with heap := g, toks := tk }) z1 fun g2 z1' same => ?_⟩
    have e1 : v1 = u := by
      have : us[i]? = some v1 := by simpa using e1
      rw [eu] at this; exact (Option.some.inj this).symm
    have e2 : v2 = t := by
      have : ws[i]? = some v2 := by simpa using e2
      rw [et] at this; exact (Option.some.inj this).symm
    subst e1 e2
    have nz : ∀ c ∈ zFive n, c ≠ s.heap.objs.size := fun c hc => by
      obtain ⟨o, eo, _⟩ := lv c hc
      exact Nat.ne_of_lt (Heap.lt_size eo)
    have zT2 : g2.get? s.heap.objs.size = some { cls := .type "tuple", data := .seq #[v1, v2] } := (same.2 _ (nz _ (mem.mpr (.inl rfl))).symm).trans zT
    have laid : ObjOk X.prog X.w (upd H s.heap.objs.size (.tup [x, y])) g2 s.heap.objs.size (.tup [x, y]) := ⟨by show 2 ≤ sizeLine; decide, [v1, v2], .cons ru (.cons rt .nil), ⟨_, zT2, rfl, _, rfl⟩⟩
    have I2 : Inv X pins σ (upd H s.heap.objs.size (.tup [x, y])) { s with heap := g2, toks := tk } :=
      I.turnedNew (t' := tk) (ch := zFive n) (fun c o out e => (same.2 c fun q => out (mem.mpr (.inl q))).trans (keep c o (fun q => out (mem.mpr (.inl q))) (fun q => out (mem.mpr (.inr (.inr (.inl q))))) (fun q => out (mem.mpr (.inr (.inr (.inr (.inl q)))))) (fun q => out (mem.mpr (.inr (.inr (.inr (.inr q)))))) e)) free (Nat.le_refl _) laid
    refine ⟨.ref s.heap.objs.size, _, I2, rfl, ⟨_, x, y, rfl, I.hok.fresh (Nat.le_refl _), rfl, fun l hl => ?_, fun l hl => ?_⟩, ⟨z1', ?_, ⟨v1, v2, ?_⟩, ?_, ?_⟩, fun c hc => ?_⟩
    · rw [I.tuple_inj hl qx]; exact ex
    · rw [I.list_inj hl qy]; exact ey
    · exact (same.2 _ sep.TIz).trans (keep _ _ sep.TIz sep.TITO sep.TIi1 sep.TIi2 k2)
    · exact (same.2 _ sep.TOz).trans z3
    · exact z4.1.at fun o q => (same.2 _ sep.zi1.symm).trans q
    · exact z5.1.at fun o q => (same.2 _ sep.zi2.symm).trans q
    · rw [upd_ne (nz c hc)]
      exact (free c hc).1
  · rintro X rfl rfl rfl calm i pins s σ H E I free ⟨k1, k2, ⟨x0, y0, k3⟩, k4, k5⟩ ⟨xs, ys, qx, qy, fin⟩
    obtain ⟨us, rx, px, _⟩ := I.tuple qx
    obtain ⟨ws, ry, py, _⟩ := I.list qy
    have hd : X.A.in1.handled = none := I.ok.hd calm
    have l1 := rx.length
    have l2 := ry.length
    have s1 : us.toArray.size = us.length := by simp
    have s2 : ws.toArray.size = ws.length := by simp
    refine wpAny_pyNext_zipD2_end sep (Draws.tuple hd n a na us.toArray) (Draws.list hd (n + 1) b nb ws.toArray) k1 k2 k3 ⟨k4, px⟩ ⟨k5, py.isList⟩ (by omega) (by omega) (by omega) fun g tk keep => ?_
    exact ⟨rfl, I.turnedL (t' := tk) (ch := zFive n) (fun c o out e => keep c o (fun q => out (mem.mpr (.inl q))) (fun q => out (mem.mpr (.inr (.inr (.inl q))))) (fun q => out (mem.mpr (.inr (.inr (.inr (.inl q)))))) (fun q => out (mem.mpr (.inr (.inr (.inr (.inr q)))))) e) free⟩
  · exact fun A i s Q E st h => wpAny_pyIter_zip st.1 h
end L2
namespace L2
open PySem PySem.Spec PyProof.Rows
/-- the heap with the five objects of a new zip of a tuple and a list -/
def zMade (h : Heap) (a b : Addr) : Heap :=
  ((((h.push { cls := .type "tuple_iterator", data := .fields #[.ref a, .int 0 0] }).push { cls := .type "list_iterator", data := .fields #[.ref b, .int 0 0] }).push
    { cls := .type "tuple", data := .seq #[.ref h.objs.size, .ref (h.push { cls := .type "tuple_iterator", data := .fields #[.ref a, .int 0 0] }).objs.size] }).push { cls := .type "tuple", data := .seq #[.none, .none] }).push
    { cls := .type "zip", data := .fields #[.none, .bool false, .bool false, .ref (h.objs.size + 2), .ref (h.objs.size + 3)] }
theorem zMade_at (h : Heap) (a b : Addr) : zAt h.objs.size a b 0 (zMade h a b) ∧ ∀ c o, h.get? c = some o → (zMade h a b).get? c = some o := by
  unfold zMade
  generalize e1 : h.push { cls := .type "tuple_iterator", data := .fields #[.ref a, .int 0 0] } = h1
  generalize e2 : h1.push { cls := .type "list_iterator", data := .fields #[.ref b, .int 0 0] } = h2
  generalize e3 : h2.push { cls := .type "tuple", data := .seq #[.ref h.objs.size, .ref h1.objs.size] } = h3
  generalize e4 : h3.push { cls := .type "tuple", data := .seq #[.none, .none] } = h4
  have s1 : h1.objs.size = h.objs.size + 1 := by rw [← e1, Heap.size_push]
  have s2 : h2.objs.size = h.objs.size + 2 := by rw [← e2, Heap.size_push, s1]
  have s3 : h3.objs.size = h.objs.size + 3 := by rw [← e3, Heap.size_push, s2]
  have s4 : h4.objs.size = h.objs.size + 4 := by rw [← e4, Heap.size_push, s3]
  have u1 : ∀ c o, h.get? c = some o → h1.get? c = some o := fun c o e => by rw [← e1]; exact Heap.get?_push_of_some _ e
  have u2 : ∀ c o, h1.get? c = some o → h2.get? c = some o := fun c o e => by rw [← e2]; exact Heap.get?_push_of_some _ e
  have u3 : ∀ c o, h2.get? c = some o → h3.get? c = some o := fun c o e => by rw [← e3]; exact Heap.get?_push_of_some _ e
  have u4 : ∀ c o, h3.get? c = some o → h4.get? c = some o := fun c o e => by rw [← e4]; exact Heap.get?_push_of_some _ e
  have p1 : h1.get? h.objs.size = some { cls := .type "tuple_iterator", data := .fields #[.ref a, .int 0 0] } := by rw [← e1]; exact Heap.get?_push_size _ rfl
  have p2 : h2.get? (h.objs.size + 1) = some { cls := .type "list_iterator", data := .fields #[.ref b, .int 0 0] } := by rw [← e2, ← s1]; exact Heap.get?_push_size _ rfl
  have p3 : h3.get? (h.objs.size + 2) = some { cls := .type "tuple", data := .seq #[.ref h.objs.size, .ref (h.objs.size + 1)] } := by
    have : h3.get? h2.objs.size = some { cls := .type "tuple", data := .seq #[.ref h.objs.size, .ref h1.objs.size] } := by rw [← e3]; exact Heap.get?_push_size _ rfl
    rwa [s2, s1] at this
  have p4 : h4.get? (h.objs.size + 3) = some { cls := .type "tuple", data := .seq #[.none, .none] } := by rw [← e4, ← s3]; exact Heap.get?_push_size _ rfl
  have up := fun {o : Obj} {c : Addr} (e : h4.get? c = some o) => Heap.get?_push_of_some (o := { cls := .type "zip", data := .fields #[.none, .bool false, .bool false, .ref (h.objs.size + 2), .ref (h.objs.size + 3)] }) (h := h4) e
  refine ⟨⟨?_, up (u4 _ _ p3), ⟨_, _, up p4⟩, ⟨_, up (u4 _ _ (u3 _ _ (u2 _ _ p1))), rfl, rfl⟩, ⟨_, up (u4 _ _ (u3 _ _ p2)), rfl, rfl⟩⟩, fun c o e => up (u4 _ _ (u3 _ _ (u2 _ _ (u1 _ _ e))))⟩
  rw [← s4]
  exact Heap.get?_push_size _ rfl
end L2
namespace L2
open PySem PySem.Spec PyProof.Rows
abbrev zRa (h : Heap) (a b : Addr) : Heap := (h.push { cls := .type "tuple_iterator", data := .fields #[.ref a, .int 0 0] }).push { cls := .type "list_iterator", data := .fields #[.ref b, .int 0 0] }
abbrev zRb (h : Heap) (a b : Addr) : Heap := (zRa h a b).push { cls := .type "tuple", data := .seq #[.ref h.objs.size, .ref (h.push { cls := .type "tuple_iterator", data := .fields #[.ref a, .int 0 0] }).objs.size] }
abbrev zRc (h : Heap) (a b : Addr) : Heap := (zRb h a b).push { cls := .type "tuple", data := .seq #[.none, .none] }
abbrev zRd (h : Heap) (a b : Addr) : Heap := (zRc h a b).push { cls := .type "zip", data := .fields #[.none, .bool false, .bool false, .ref (zRa h a b).objs.size, .ref (zRb h a b).objs.size] }
theorem zR_size (h : Heap) (a b : Addr) : (zRa h a b).objs.size = h.objs.size + 2 ∧ (zRb h a b).objs.size = h.objs.size + 3 ∧ (zRc h a b).objs.size = h.objs.size + 4 := by
  refine ⟨?_, ?_, ?_⟩ <;> simp only [Heap.size_push]
theorem zRd_eq (h : Heap) (a b : Addr) : zRd h a b = zMade h a b := by
  obtain ⟨e1, e2, _⟩ := zR_size h a b
  unfold zMade zRd
  rw [e1, e2]
theorem meets_zipM (a b : Addr) (xs ys : Array Value) :
    Meets (Builtin.«zip.__new__» ⟨[.type "zip", .ref a, .ref b], []⟩) (fun _ R s => (s.heap.IsTuple a xs ∧ s.heap.IsList b ys) ∧ R (.ok (.ret (.ref (zRc s.heap a b).objs.size))) { s with heap := zRd s.heap a b }) :=
  .of_wp fun prog w A R s ⟨⟨ta, lb⟩, r⟩ => by
    obtain ⟨heap, gens, drawn, toks, os⟩ := s
    have below := sub_zip
    have one : Heap.IsTuple (Shared.heap ⟨heap, gens, drawn, toks, os⟩) a xs := ta
    have two : Heap.IsList (Shared.heap ⟨heap.push { cls := .type "tuple_iterator", data := .fields #[.ref a, .int 0 0] }, gens, drawn, toks, os⟩) b ys := Heap.IsList.push lb _
    wp_walk using wpAny_pyIter_tuple one, wpAny_pyIter_list two
    exact ⟨_, rfl, r⟩
theorem call_zipM {prog : Program} {w : World} {A : Around} {E : Value → Shared → Prop} {s : Shared} {a b : Addr} {xs ys : Array Value} {Q : Value → Shared → Prop} (ta : s.heap.IsTuple a xs) (lb : s.heap.IsList b ys)
    (k : zAt s.heap.objs.size a b 0 (zMade s.heap a b) → (∀ c o, s.heap.get? c = some o → (zMade s.heap a b).get? c = some o) → Q (.ref (s.heap.objs.size + 4)) { s with heap := zMade s.heap a b }) :
    wpAny (model prog w) A (call (.type "zip") [.ref a, .ref b]) Q E s := by
  refine callType_new F.called_zip (by decide) (F.typeCall_zip_2 _ _) (F.newCall_zip_2 _ _) (fun obj => F.args_object_init_3 obj _ _) F.entry_zip_new (meets_zipM a b xs ys) ⟨⟨ta, lb⟩, ?_⟩
  obtain ⟨h1, h2⟩ := zMade_at s.heap a b
  rw [(zR_size s.heap a b).2.2, zRd_eq]
  exact ⟨⟨_, h1.1, rfl⟩, k h1 h2⟩
/-- zip(a, b): two tuples, or a tuple and a list -/
def iZipM (K : PySem.W.Frag) (ta : TA) : TI := fun σ H R => ta σ H fun vs H1 => ∃ a b xs ys, vs = [.ref a, .ref b] ∧ SqT K H1 a xs ∧ SqL K H1 b ys ∧ R (ItzM K a b) H1
theorem pi_zipM {X : Cx} {e e2 : Expr} {ta : TA} {p pos tpos : Pos} {elts : List Expr} {kk : Nat} (hg : Gl X "zip") (hm : X.mg "zip" = none) (ha : PA X [e, e2] ta)
    (hs : starEach [e, e2] X.env = (false, eval e X.env) :: starEach [e2] X.env := by rfl) (hpl : (backTo pos (starEach [e2] X.env)).any (·.1) = false := by rfl) :
    PI X (.Tuple elts kk tpos) (.Call (.Name "zip" p) [e, e2] [] pos) (iZipM X.K ta) :=
  ⟨fun pins s σ H R I h => by
    refine Call_ (ld_blt I hg hm PyProof.Rows.boot_zip (PyProof.Rows.callWith_type1 (thn (ha.run pos pins s σ H _ I h) fun us s1 ⟨vs, H1, I1, r1, a, b, xs, ys, ev, qx, qy, q⟩ => ?_) hs hpl))
    subst ev
    obtain ⟨u, t, rfl, ru, rt⟩ : ∃ u t, us = [u, t] ∧ RelV (.ref a) u ∧ RelV (.ref b) t := by
      cases r1 with
      | cons r rr => cases rr with
        | cons r' rr => cases rr; exact ⟨_, _, rfl, r, r'⟩
    cases ru
    cases rt
    obtain ⟨us, rx, px, _⟩ := I1.tuple qx
    obtain ⟨ws, ry, py, _⟩ := I1.list qy
    have la : a < s1.heap.objs.size := by
      obtain ⟨o, e, _⟩ := id px
      exact Heap.lt_size e
    refine call_zipM (show s1.heap.IsTuple a us.toArray from px) py.isList fun at0 up => wpAny_pyIter_zip at0.1 ?_
    have I2 : Inv X pins σ H1 { s1 with heap := zMade s1.heap a b } := I1.kept (t' := s1.toks) up
    refine ⟨s1.heap.objs.size + 4, zFive s1.heap.objs.size, zAt s1.heap.objs.size a b, ItzM X.K a b, H1, rfl, I2, turnM la py.lt, at0, fun c hc => ?_, q⟩
    have le : s1.heap.objs.size ≤ c := by
      have : c = s1.heap.objs.size + 4 ∨ c = s1.heap.objs.size + 2 ∨ c = s1.heap.objs.size + 3 ∨ c = s1.heap.objs.size ∨ c = s1.heap.objs.size + 1 := by simpa [zFive] using hc
      rcases this with e | e | e | e | e <;> rw [e] <;> first | exact Nat.le_refl _ | exact Nat.le_add_right _ _
    exact I1.fpOk le (I1.hok.fresh le)⟩
end L2
set_option Elab.async false
set_option maxRecDepth 100000
set_option maxHeartbeats 4000000
set_option linter.all false
namespace Py
open PySem PySem.Spec PyProof.Rows L2
variable [CT]
theorem walk_zipM {K : PySem.W.Frag} {H : Hp} {μ : Mem} {a b : Addr} {vs ws : List V} {ps qs : List PV} (hs : ∀ H' μ', Keep H μ H' μ' → SqT K H' a vs) (hs2 : ∀ H' μ', Keep H μ H' μ' → SqL K H' b ws) (r : RepPs K H μ vs ps) (r2 : RepPs K H μ ws qs) : Walk K (ItzM K a b) H μ (zipP ps qs) where
  go := fun i H' μ' st hi => by
    rw [zipP_length] at hi
    have hv : i < vs.length := by rw [r.length]; omega
    have hw : i < ws.length := by rw [r2.length]; omega
    exact ⟨vs, ws, vs[i], ws[i], ⟨hs H' μ' st, List.getElem?_eq_getElem hv⟩, hs2 H' μ' st, List.getElem?_eq_getElem hw⟩
  yld := fun i H' μ' S x H2 st t hi hy => by
    obtain ⟨p, q, hp, hq, hz⟩ := zipP_get ps qs i hi
    obtain ⟨T, y, z, rfl, hT, rfl, hx, hx2⟩ := hy
    have hx := hx vs (hs _ μ' st)
    have hx2 := hx2 ws (hs2 _ μ' st)
    obtain ⟨v, g, rv⟩ := (r.keep st).get hp
    obtain ⟨v2, g2, rv2⟩ := (r2.keep st).get hq
    rw [hx] at g
    rw [hx2] at g2
    cases g
    cases g2
    obtain ⟨s2, t2, r3⟩ := t.fresh hT (xs := [y, z]) (.cons rv (.cons rv2 .nil))
    exact ⟨_, hz, s2, t2, r3⟩
  stop := fun H' μ' st => ⟨vs, ws, hs H' μ' st, hs2 H' μ' st, by rw [zipP_length, r.length, r2.length]; omega⟩
/-- zip of a tuple and a list -/
def gZipL (ps : List PV) (S : Sto) : R (List PV) := match ps with
  | [.tup xs, .lst ys] => .ok (zipP xs ys) S
  | _ => .no
theorem ei_zipL {X : Cx} {a b : Expr} {ea : Ea} {p pos tpos : Pos} {elts : List Expr} {kk : Nat} (hg : Gl X "zip") (hm : X.mg "zip" = none) (ha : EA X [a, b] ea) (hs : starEach [a, b] X.env = (false, eval a X.env) :: starEach [b] X.env := by rfl) (hpl : (backTo pos (starEach [b] X.env)).any (·.1) = false := by rfl) : EI X (.Tuple elts kk tpos) (.Call (.Name "zip" p) [a, b] [] pos) (iArgs gZipL ea) :=
  pi_mono (pi_zipM hg hm ha hs hpl) fun σ H R ⟨μ, ρ, S, hE, hR, hF⟩ => ⟨μ, ρ, S, hE, hR, (FitsG.bind hF).imp fun ps S1 H1 μ1 s1 t1 h1 vs rv => by
    unfold gZipL at h1
    split at h1
    · obtain ⟨v, w, rfl, r1, r2⟩ := rv.two
      obtain ⟨a, ws, rfl, g1, g2⟩ := r1.tup_inv
      replace r2 := r2.two
      rcases r2 with r2 | ⟨_, _, e, _⟩
      · cases r2 with
        | lst k1 k2 k3 => exact ⟨a, _, ws, _, rfl, g1.sq, .inl (.inl k1), FitsG.here h1 t1 _ (walk_zipM (fun H' μ' st => (Keep.tupAt st g1).sq) (fun H' μ' st => .inl (.inl (st _ _ k1 k2 inferInstance).1)) g2 k3)⟩
      · cases e
    · exact h1.elim⟩
end Py
set_option Elab.async false
set_option maxRecDepth 100000
set_option maxHeartbeats 4000000
set_option linter.all false
namespace Py
open PySem PySem.Spec PyProof.Rows L2
variable [CT]

def toV : PV → V
  | .int i => .int i
  | .str x => .str x
  | _ => .non
def flatB : PV → Bool
  | .int _ => true
  | .str _ => true
  | _ => false
def pairB : List V → List Value → Bool
  | [], [] => true
  | v :: vs, u :: us => He.relB v u && pairB vs us
  | _, _ => false
theorem pairB_ok : ∀ {vs : List V} {us : List Value}, pairB vs us = true → Vals vs us
  | [], [], _ => .nil
  | v :: vs, u :: us, h => .cons (He.relB_ok (He.ba h).1) (pairB_ok (He.ba h).2)
  | [], _ :: _, h => by cases h
  | _ :: _, [], h => by cases h
def seqB (K : PySem.W.Frag) (a : Addr) (vs : List V) : Bool := match K.lookup a with
  | some ⟨.type c, _, .seq its n, _⟩ => decide (c = "tuple") && (decide (its.size ≤ sizeLine) && pairB vs its.toList)
  | _ => false
theorem seqB_ok {K : PySem.W.Frag} {a : Addr} {vs : List V} (h : seqB K a vs = true) : KT K a vs := by
  unfold seqB at h
  split at h
  · rename_i c d its n sl e
    obtain ⟨h1, h2⟩ := He.ba h
    obtain ⟨h3, h4⟩ := He.ba h2
    have h1 := of_decide_eq_true h1
    subst h1
    exact ⟨_, its, n, e, rfl, rfl, of_decide_eq_true h3, pairB_ok h4⟩
  · cases h
def kTupB (K : PySem.W.Frag) (x : Str) (ps : List PV) : Bool := seqB K (He.ga K x) (ps.map toV) && ps.all flatB
theorem kreps_of {K : PySem.W.Frag} : ∀ {ps : List PV}, ps.all flatB = true → KReps K (ps.map toV) ps
  | [], _ => .nil
  | p :: ps, h => by
      have h := He.ba h
      refine .cons ?_ (kreps_of h.2)
      revert h
      cases p with
      | int i => intro _; exact .int i
      | str x => intro _; exact .str x
      | _ => intro h; cases h.1
theorem hasTup_of {K : PySem.W.Frag} {mg : Str → Option Value} {x : Str} {ps : List PV} (g : mg x = some (.ref (He.ga K x))) (h : kTupB K x ps = true) : HasTup K mg x ps :=
  ⟨_, _, g, seqB_ok (He.ba h).1, kreps_of (He.ba h).2⟩
def entB (K : PySem.W.Frag) (e : DictEntry) (q : Str × List Int) : Bool := (match e.key with
  | .str y _ => decide (y = q.1)
  | _ => false) && (match e.val with
  | .ref b => seqB K b (q.2.map V.int)
  | _ => false)
theorem entB_ok {K : PySem.W.Frag} {e : DictEntry} {q : Str × List Int} (h : entB K e q = true) : DEnt K e q := by
  obtain ⟨h1, h2⟩ := He.ba h
  constructor
  · revert h1
    cases e1 : e.key <;> intro h1 <;> try cases h1
    rename_i y t
    exact ⟨t, by rw [of_decide_eq_true h1]⟩
  · revert h2
    cases e2 : e.val <;> intro h2 <;> try cases h2
    exact ⟨_, _, rfl, seqB_ok h2, rfl⟩
def entsB (K : PySem.W.Frag) : List DictEntry → List (Str × List Int) → Bool
  | [], [] => true
  | e :: es, q :: qs => entB K e q && entsB K es qs
  | _, _ => false
theorem entsB_ok {K : PySem.W.Frag} : ∀ {es : List DictEntry} {qs : List (Str × List Int)}, entsB K es qs = true → Paired (DEnt K) es qs
  | [], [], _ => .nil
  | _ :: _, _ :: _, h => .cons (entB_ok (He.ba h).1) (entsB_ok (He.ba h).2)
  | [], _ :: _, h => by cases h
  | _ :: _, [], h => by cases h
def kDicB (K : PySem.W.Frag) (x : Str) (d : List (Str × List Int)) : Bool := match K.lookup (He.ga K x) with
  | some ⟨_, _, .dict es n, _⟩ => entsB K es.toList d
  | _ => false
theorem hasD_of {K : PySem.W.Frag} {w : World} {mg : Str → Option Value} {x : Str} {d : List (Str × List Int)} (g : mg x = some (.ref (He.ga K x))) (t : ∃ es n, KDict K w (He.ga K x) es n) (h : kDicB K x d = true) (nd : (d.map (·.1)).Nodup) (sz : d.length ≤ sizeLine) : HasD K w mg x d := by
  obtain ⟨es, n, D⟩ := t
  refine ⟨⟨_, es, n, g, D, ?_⟩, nd, sz⟩
  unfold kDicB at h
  rw [D.at_] at h
  exact entsB_ok h
theorem tab_of {fa : List He.Fa} {fn : List He.DefD} {ts : List He.Tab} {w : World} {K : PySem.W.Frag} (c : He.SaysT fa fn ts w K) (i : Nat) {t : He.Tab} (h : ts[i]? = some t) : ∃ es n, KDict K w (t.1 K) es n := c.tab i h
end Py
set_option Elab.async false
set_option maxRecDepth 100000
set_option maxHeartbeats 4000000
set_option linter.all false
namespace Py
open PySem PySem.Spec PyProof.Rows L2
variable [CT]
mutual
def valB (K : PySem.W.Frag) : Nat → PV → Value → Bool
  | _, .int i, u => He.relB (.int i) u
  | _, .str x, u => He.relB (.str x) u
  | n + 1, .tup ps, .ref a => match K.lookup a with
    | some ⟨.type c, _, .seq its _, _⟩ => decide (c = "tuple") && (decide (its.size ≤ sizeLine) && valsB K n ps its.toList)
    | _ => false
  | _, _, _ => false
def valsB (K : PySem.W.Frag) : Nat → List PV → List Value → Bool
  | _, [], [] => true
  | n, p :: ps, u :: us => valB K n p u && valsB K n ps us
  | _, _, _ => false
end
mutual
theorem valB_ok {K : PySem.W.Frag} : ∀ {n : Nat} {p : PV} {u : Value}, valB K n p u = true → ∃ v, RelV v u ∧ ∀ H μ, RepP K H μ v p
  | n, .int i, u, h => ⟨.int i, He.relB_ok (by cases n <;> exact h), fun _ _ => .int i⟩
  | n, .str x, u, h => ⟨.str x, He.relB_ok (by cases n <;> exact h), fun _ _ => .str x⟩
  | n + 1, .tup ps, .ref a, h => by
    rw [valB] at h
    split at h
    · rename_i c d its m sl e
      obtain ⟨h1, h2⟩ := He.ba h
      obtain ⟨h3, h4⟩ := He.ba h2
      have h1 := of_decide_eq_true h1
      subst h1
      obtain ⟨vs, rv, rp⟩ := valsB_ok h4
      exact ⟨.ref a, rfl, fun H μ => .tup (.inr ⟨_, its, m, e, rfl, rfl, of_decide_eq_true h3, rv⟩) (rp H μ)⟩
    · cases h
  | 0, .tup _, _, h => by simp [valB] at h
  | n + 1, .tup _, .none, h => by simp [valB] at h
  | n + 1, .tup _, .int _ _, h => by simp [valB] at h
  | n + 1, .tup _, .bool _, h => by simp [valB] at h
  | n + 1, .tup _, .str _ _, h => by simp [valB] at h
  | n + 1, .tup _, .type _, h => by simp [valB] at h
  | n + 1, .tup _, .builtin _, h => by simp [valB] at h
theorem valsB_ok {K : PySem.W.Frag} : ∀ {n : Nat} {ps : List PV} {us : List Value}, valsB K n ps us = true → ∃ vs, Vals vs us ∧ ∀ H μ, RepPs K H μ vs ps
  | _, [], [], _ => ⟨[], .nil, fun _ _ => .nil⟩
  | n, p :: ps, u :: us, h => by
    rw [valsB] at h
    obtain ⟨h1, h2⟩ := He.ba h
    obtain ⟨v, rv, rp⟩ := valB_ok h1
    obtain ⟨vs, rvs, rps⟩ := valsB_ok h2
    exact ⟨v :: vs, .cons rv rvs, fun H μ => .cons (rp H μ) (rps H μ)⟩
  | n, [], _ :: _, h => by simp [valsB] at h
  | n, _ :: _, [], h => by simp [valsB] at h
end
def entW (K : PySem.W.Frag) (e : DictEntry) (q : Str × PV) : Bool := (match e.key with
  | .str y _ => decide (y = q.1)
  | _ => false) && valB K 8 q.2 e.val
theorem entW_ok {K : PySem.W.Frag} {e : DictEntry} {q : Str × PV} (h : entW K e q = true) : WEnt K e q := by
  obtain ⟨h1, h2⟩ := He.ba h
  refine ⟨?_, valB_ok h2⟩
  revert h1
  cases e1 : e.key <;> intro h1 <;> try cases h1
  rename_i y t
  exact ⟨t, by rw [of_decide_eq_true h1]⟩
def entsW (K : PySem.W.Frag) : List DictEntry → List (Str × PV) → Bool
  | [], [] => true
  | e :: es, q :: qs => entW K e q && entsW K es qs
  | _, _ => false
theorem entsW_ok {K : PySem.W.Frag} : ∀ {es : List DictEntry} {qs : List (Str × PV)}, entsW K es qs = true → Paired (WEnt K) es qs
  | [], [], _ => .nil
  | _ :: _, _ :: _, h => .cons (entW_ok (He.ba h).1) (entsW_ok (He.ba h).2)
  | [], _ :: _, h => by cases h
  | _ :: _, [], h => by cases h
def kWB (K : PySem.W.Frag) (x : Str) (d : List (Str × PV)) : Bool := match K.lookup (He.ga K x) with
  | some ⟨_, _, .dict es n, _⟩ => entsW K es.toList d
  | _ => false
theorem hasW_of {K : PySem.W.Frag} {w : World} {mg : Str → Option Value} {x : Str} {d : List (Str × PV)} (g : mg x = some (.ref (He.ga K x))) (t : ∃ es n, KDict K w (He.ga K x) es n) (h : kWB K x d = true) : HasW K w mg x d := by
  obtain ⟨es, n, D⟩ := t
  refine ⟨⟨_, es, n, g, D, ?_⟩⟩
  unfold kWB at h
  rw [D.at_] at h
  exact entsW_ok h
end Py
set_option Elab.async false
set_option maxRecDepth 100000
set_option maxHeartbeats 4000000
set_option linter.all false
/-! A nested def whose frame has cells of its own beside the captured ones. -/
namespace NdO
open PySem PySem.Spec PyProof.Rows L2 NdefX LamX

abbrev Cells := List (Str × Addr)
theorem look_two {α : Type} (a b : List (Str × α)) (x : Str) : (a ++ b).lookup x = ((a.lookup x).or (b.lookup x)) := by
  induction a with
  | nil => simp
  | cons p r ih =>
    rw [List.cons_append, List.lookup, List.lookup]
    split
    · rfl
    · exact ih
theorem look_fst {α : Type} {a b : List (Str × α)} {x : Str} {v : α} (h : a.lookup x = some v) : (a ++ b).lookup x = some v := by rw [look_two, h]; rfl
theorem look_snd {α : Type} {a b : List (Str × α)} {x : Str} (h : a.lookup x = none) : (a ++ b).lookup x = b.lookup x := by rw [look_two, h]; rfl
theorem look_either {α : Type} {a b : List (Str × α)} {x : Str} {v : α} (h : (a ++ b).lookup x = some v) : a.lookup x = some v ∨ b.lookup x = some v := by
  cases e : a.lookup x with
  | some u => rw [look_fst e] at h; exact .inl h
  | none => rw [look_snd e] at h; exact .inr h
/-- the cells that a scope lays, from the address n on -/
abbrev ownC (n : Nat) (sc : Scope) : Cells := cellsFrom n sc.names []
theorem lay_onto (l : List (Str × NameKind)) : ∀ (n : Nat) (b : Cells), cellsFrom n l b = cellsFrom n l [] ++ b := by
  induction l with
  | nil => intro n b; rfl
  | cons p r ih =>
    intro n b
    obtain ⟨y, kd⟩ := p
    show (if kd == .cell then cellsFrom (n + 1) r ((y, n) :: b) else cellsFrom n r b) = (if kd == .cell then cellsFrom (n + 1) r [(y, n)] else cellsFrom n r []) ++ b
    split
    · rw [ih (n + 1) ((y, n) :: b), ih (n + 1) [(y, n)]]; simp
    · exact ih n b
theorem laid_kind {l : List (Str × NameKind)} : ∀ {n : Nat} {x : Str} {c : Addr}, (x, c) ∈ cellsFrom n l [] → (x, NameKind.cell) ∈ l := by
  induction l with
  | nil => intro n x c h; cases h
  | cons p r ih =>
    intro n x c h
    obtain ⟨y, kd⟩ := p
    by_cases hk : (kd == .cell) = true
    · have h : (x, c) ∈ cellsFrom (n + 1) r [(y, n)] := by
        have e : cellsFrom n ((y, kd) :: r) [] = cellsFrom (n + 1) r [(y, n)] := if_pos hk
        rwa [e] at h
      rw [lay_onto] at h
      rcases List.mem_append.mp h with q | q
      · exact .tail _ (ih q)
      · cases List.mem_singleton.mp q
        rw [eq_of_beq hk]
        exact .head _
    · have e : cellsFrom n ((y, kd) :: r) [] = cellsFrom n r [] := if_neg hk
      rw [e] at h
      exact .tail _ (ih h)

/-! ### the parameters are bound as if there were no captured cells -/
theorem store_alike {E1 E2 : Env} {x : Str} {v : Value} (hs : E1.scope = E2.scope) (hl : E1.locals = E2.locals) (hf : E1.scope.kind = .function) (h : E1.kindOf x = some .local ∨ (E1.kindOf x = some .cell ∧ E1.cells.lookup x = E2.cells.lookup x)) :
    storeName E1 x v = storeName E2 x v := by
  have k2 : E2.kindOf x = E1.kindOf x := by unfold Env.kindOf; rw [hs]
  have f2 : E2.scope.kind = .function := by rw [← hs]; exact hf
  rcases h with h | ⟨h, hc⟩
  · rw [storeName_local h (by rw [hf]; rfl), storeName_local (k2.trans h) (by rw [f2]; rfl), hl]
  · have c1 : PySem.cellOf E1 x = PySem.cellOf E2 x := by unfold PySem.cellOf; rw [hc]
    unfold storeName
    simp only [k2, h, hf, f2, c1]
    rfl
theorem forIn_alike {α β : Type} {f g : α → β → Sem (ForInStep β)} : ∀ (l : List α), (∀ a ∈ l, ∀ b, f a b = g a b) → ∀ b : β, forIn l b f = forIn l b g
  | [], _, b => by rw [List.forIn_nil, List.forIn_nil]
  | a :: l, h, b => by
    rw [List.forIn_cons, List.forIn_cons, h a (.head _)]
    congr 1
    funext z
    cases z with
    | done c => rfl
    | yield c => exact forIn_alike l (fun x hx => h x (.tail _ hx)) c
/-- what is known when the frame begins -/
abbrev Began (s : Shared) (L : Addr) (sc : Scope) (ps : List (Str × Value)) (kd : Str → Option NameKind) (s1 : Shared) : Prop :=
  InCallC s L (bindL kd ps fun _ => none) (ownC (s.heap.objs.size + 1) sc) (bindC kd ps fun _ => none) s1
theorem begin_frame {M : Model} {A : Around} {E : Value → Shared → Prop} {s : Shared} {sc : Scope} {gl : Addr} {cl : Cells} {ps : List (Str × Value)} {qual : Str} {fn : Option Addr} {code : Value} {blt : Addr} {Q : Env → Shared → Prop} (hf : sc.kind = .function)
    (hp : ∀ z ∈ ps, sc.names.lookup z.1 = some .local ∨ (sc.names.lookup z.1 = some .cell ∧ ((ownC (s.heap.objs.size + 1) sc).lookup z.1).isSome = true))
    (hQ : ∀ s1, Began s s.heap.objs.size sc ps (fun x => sc.names.lookup x) s1 → Q (newEnv sc s.heap.objs.size gl (ownC (s.heap.objs.size + 1) sc ++ cl) qual fn code none blt) s1) :
    wpAny M A (newFunctionEnv sc gl cl ps qual fn code none blt) Q E s := by
  have size1 : ∀ o : Obj, (s.heap.push o).objs.size = s.heap.objs.size + 1 := fun o => Heap.size_push ..
  unfold newFunctionEnv
  simp only [Option.isSome_none, Bool.false_eq_true, if_false]
  refine wpAny_bind (wpAny_alloc (wpAny_bind ?_))
  refine wpAny_layCells _ (fun y kd cs => ?_) _ _ _ _ ?_
  · cases h : kd == NameKind.cell <;> simp [h]
  have lo := size1 { cls := .type "frame", data := .dict #[] }
  have fine := cellsFrom_ok sc.names (s.heap.push { cls := .type "frame", data := .dict #[] }) (s.heap.objs.size + 1) [] ⟨nofun, .nil⟩ (Nat.le_of_eq lo.symm)
  rw [lo] at fine
  show wpAny M A _ Q E _
  simp only [lo]
  rw [lay_onto]
  let E2 := newEnv sc s.heap.objs.size gl (ownC (s.heap.objs.size + 1) sc) qual fn code none blt
  refine wpAny_bind ?_
  rw [forIn_alike (g := fun z _ => do storeName E2 z.1 z.2; pure (.yield ⟨⟩)) ps fun z hz _ => ?_]
  · refine wpAny_bindParams (s₀ := s) (env := E2) (fun z _ => do storeName E2 z.1 z.2; pure (.yield ⟨⟩)) (fun _ _ _ => rfl) hf ps (fun _ => none) (fun _ => none) _ _ ⟨⟨⟨_, _, rfl⟩, ?_, ?_, Nat.le_refl _⟩, ?_, fine.apart, ?_⟩ hp fun s1 b => wpAny_pure (hQ s1 b)
    · exact (Heap.Ns.new s.heap (.type "frame")).keeps (pushCells_keeps _ _)
    · intro b o e
      exact pushCells_keeps _ _ b o (Heap.get?_push_of_some _ e)
    · intro y c e
      exact (fine.empty y c (PySem.mem_of_lookup e)).1
    · intro y c e
      exact (fine.empty y c e).2
  · obtain ⟨y, v⟩ := z
    have same : storeName (newEnv sc s.heap.objs.size gl (ownC (s.heap.objs.size + 1) sc ++ cl) qual fn code none blt) y v = storeName E2 y v := by
      refine store_alike rfl rfl hf ((hp (y, v) hz).imp id fun ⟨k, o⟩ => ⟨k, ?_⟩)
      obtain ⟨c, e⟩ := Option.isSome_iff_exists.mp o
      exact (look_fst e).trans e.symm
    exact congrArg (fun p : Sem Unit => p >>= fun _ => pure (ForInStep.yield PUnit.unit)) same

/-! ### what is asked of the scope -/
structure OScope (N ps fr : List Str) (sc : Scope) : Prop where
  isFn : sc.kind = .function
  plain : sc.isCoroutine = false ∧ sc.isGenerator = false
  nd : N.Nodup
  front : N.take (ps.length + fr.length) = ps ++ fr
  params : ∀ x ∈ ps, sc.names.lookup x = some .local ∨ sc.names.lookup x = some .cell
  once : ∀ y ∈ sc.names, sc.names.lookup y.1 = some y.2
  caught : ∀ y ∈ sc.names, y.2 = .free → y.1 ∈ fr
  isFree : ∀ x ∈ fr, sc.names.lookup x = some .free
def oscL (N ps fr : List Str) (sc : Scope) : List Bool :=
  [decide (sc.kind = .function), !sc.isCoroutine, !sc.isGenerator, decide N.Nodup, decide (N.take (ps.length + fr.length) = ps ++ fr),
   ps.all fun x => decide (sc.names.lookup x = some .local ∨ sc.names.lookup x = some .cell), sc.names.all fun y => decide (sc.names.lookup y.1 = some y.2),
   sc.names.all fun y => decide (y.2 = .free → y.1 ∈ fr), fr.all fun x => decide (sc.names.lookup x = some .free)]
theorem oscope_by {N ps fr : List Str} {sc : Scope} (h : (oscL N ps fr sc).all id = true) : OScope N ps fr sc := by
  simp only [oscL, List.all_cons, List.all_nil, id, Bool.and_eq_true, and_true, decide_eq_true_eq, List.all_eq_true, Bool.not_eq_true'] at h
  obtain ⟨a, b, c, d, e, f, g, i, j⟩ := h
  exact ⟨a, ⟨b, c⟩, d, e, f, g, i, j⟩
/-- the frame of a call: its own cells ahead of the captured ones -/
abbrev envG (F : NF) (f L : Addr) : Env := PySem.W.envX F.qual F.scope L f (.ref F.c) (ownC (L + 1) F.scope ++ F.cl)
def ncxG (CX : CXT) (P : Program) (w : World) (K : PySem.W.Frag) (mg : Str → Option Value) (base : Heap) (N : List Str) (F : NF) (f : Addr) (A : Around) (outer : List Env) (s : Shared) (H : Hp) (E : XK) : Cx :=
  let e := envG F f s.heap.objs.size
  let B := A.deeper e
  { prog := P, w := w, K := K, mg := mg, base := base, A := B, N := N, s_0 := s, H_0 := H, env := e, outer := outer, stack := e :: outer, ex := [], fn := fun x => decide (F.scope.names.lookup x = some .cell), calm := true, pn := [],
    xe := fun v s2 => wpAny (model P w) B (leaving e v) (fun _ s3 => CX outer H s E v s3) (fun v3 s3 => CX outer H s E v3 s3) s2 }
/-- a slot that is full at the beginning -/
theorem slot_full {N : List Str} {vs : List V} {ws : List (Option V)} {i : Nat} {v : V} (h : (startF N vs ws)[i]? = some (some v)) : vs[i]? = some v ∨ (vs.length ≤ i ∧ ws[i - vs.length]? = some (some v)) := by
  unfold startF at h
  rcases Nat.lt_or_ge i vs.length with c | c
  · left
    have c2 : i < (vs.map some).length := by simpa using c
    rw [List.getElem?_append_left c2, List.getElem?_map, List.getElem?_eq_getElem c] at h
    rw [List.getElem?_eq_getElem c]
    exact Option.some.inj h
  · right
    refine ⟨c, ?_⟩
    rw [List.getElem?_append_right (by simpa using c), List.length_map] at h
    rcases Nat.lt_or_ge (i - vs.length) ws.length with c3 | c3
    · rwa [List.getElem?_append_left c3] at h
    · rw [List.getElem?_append_right c3, List.getElem?_replicate] at h
      split at h <;> cases h
section
variable {CX : CXT} {P : Program} {w : World} {K : PySem.W.Frag} {mg : Str → Option Value} {base : Heap} {N ps fr : List Str} {F : NF} {f : Addr} {A : Around} {outer : List Env} {s s1 : Shared} {H : Hp} {E : XK} {us : List Value} {vs : List V} {ws : List (Option V)} {k : Nat} {sp : List (Option V) → Sp}
theorem OScope.name {sc : Scope} (S : OScope N ps fr sc) {i : Nat} {y : Str} (h : N[i]? = some y) (hi : i < ps.length + fr.length) : (ps ++ fr)[i]? = some y := by
  rw [← S.front, List.getElem?_take]
  simp [hi, h]
theorem OScope.many {sc : Scope} (S : OScope N ps fr sc) : ps.length + fr.length ≤ N.length := by
  have := congrArg List.length S.front
  simp only [List.length_take, List.length_append] at this
  omega
theorem OScope.freeOwn {sc : Scope} (S : OScope N ps fr sc) {n : Nat} {y : Str} (h : sc.names.lookup y = some .free) : (ownC n sc).lookup y = none := by
  rcases e : (ownC n sc).lookup y with _ | c
  · rfl
  · exfalso
    have q : sc.names.lookup y = some NameKind.cell := S.once (y, .cell) (laid_kind (PySem.mem_of_lookup e))
    rw [h] at q
    cases q
theorem begun (S : OScope N ps fr F.scope) (calm : A.handled = none) (e0 : Env0 P w K mg base A outer s H) (hl : vs.length = ps.length) (r : Vals vs us) (C : CellsAt F.cl fr ws s.heap H)
    (b : Began s s.heap.objs.size F.scope (ps.zip us) (fun x => F.scope.names.lookup x) s1) : Inv (ncxG CX P w K mg base N F f A outer s H E) [] (startF N vs ws) H s1 := by
  obtain ⟨h1, tk, es, old⟩ := b.done
  have mine : ∀ {y c}, (ownC (s.heap.objs.size + 1) F.scope).lookup y = some c → s.heap.objs.size < c := fun {y c} e => b.above y c (PySem.mem_of_lookup e)
  have theirs : ∀ {y c}, F.cl.lookup y = some c → c < s.heap.objs.size := fun {y c} e => (C.all y c e).2.elim fun _ z => z.lt
  have fresh : ∀ {c}, s.heap.objs.size ≤ c → H c = none := fun {c} q => e0.hok.fresh q
  have stays : ∀ {c v}, s.heap.IsCell c v → s1.heap.IsCell c v := fun {c v} q => by
    rw [es]
    exact q.keeps old
  have ndP : ps.Nodup := by
    have q : (N.take (ps.length + fr.length)).Nodup := S.nd.sublist (List.take_sublist _ _)
    rw [S.front] at q
    exact (List.nodup_append.mp q).1
  have ok : (ncxG CX P w K mg base N F f A outer s H E).Ok := {
    mod := e0.mod, kind := S.isFn, glob := rfl, blt := rfl, above := Nat.le_refl _
    inj := fun x y c ex ey => by
      rcases look_either ex with p | p <;> rcases look_either ey with q | q
      · exact name_of_addr b.apart (PySem.mem_of_lookup p) (PySem.mem_of_lookup q)
      · exact absurd (mine p) (Nat.not_lt.mpr (Nat.le_of_lt (theirs q)))
      · exact absurd (mine q) (Nat.not_lt.mpr (Nat.le_of_lt (theirs p)))
      · exact C.inj x y c p q
    has := fun x hx => by
      rcases (show F.scope.names.lookup x = some .cell ∨ F.scope.names.lookup x = some .free from hx) with q | q
      · obtain ⟨c, e⟩ := cell_has (n := s.heap.objs.size + 1) q
        exact ⟨c, look_fst e⟩
      · obtain ⟨i, hi⟩ := List.mem_iff_getElem?.mp (S.caught _ (PySem.mem_of_lookup q) rfl)
        obtain ⟨c, e, _⟩ := C.has i x hi
        exact ⟨c, (look_snd (S.freeOwn q)).trans e⟩
    cab := fun x c hx ec => by
      obtain ⟨c2, e⟩ := cell_has (n := s.heap.objs.size + 1) (of_decide_eq_true hx)
      have same : some c2 = some c := (look_fst e).symm.trans ec
      cases same
      exact Nat.le_of_lt (mine e)
    hd := fun _ => calm, frames := Around.frames_deeper e0.frames, stk := .inr ⟨rfl, rfl⟩
    exf := fun b hb => nomatch hb
    bs := e0.bs, bsz := e0.bsz
    noex := fun _ _ _ => List.not_mem_nil
    exfs := fun b hb => nomatch hb
    funs := e0.funs, frf := e0.frf }
  have at_ : ∀ (i : Nat) (y : Str) (v : V), N[i]? = some y → (startF N vs ws)[i]? = some (some v) → ∃ u, RelV v u ∧ Look (envG F f s.heap.objs.size) s1.heap (bindL (fun x => F.scope.names.lookup x) (ps.zip us) fun _ => none) y u := by
    intro i y v hy hv
    rcases slot_full hv with q | ⟨hi, q⟩
    · have hi : i < ps.length := by rw [← hl]; exact (List.getElem?_eq_some_iff.mp q).1
      have hp : ps[i]? = some y := by
        have z := S.name hy (by omega)
        rwa [List.getElem?_append_left hi] at z
      obtain ⟨u, hu, ru⟩ := r.get q
      refine ⟨u, ru, ?_⟩
      rcases S.params y (List.mem_of_getElem? hp) with kd | kd
      · exact .inl ⟨kd, bindL_get ndP hp hu kd⟩
      · obtain ⟨c, e⟩ := cell_has (n := s.heap.objs.size + 1) kd
        have held := b.cell y c e
        rw [bindC_get ndP hp hu (by rw [kd]; exact fun z => by cases z)] at held
        exact .inr ⟨.inl kd, c, look_fst e, held⟩
    · have hw : i - vs.length < fr.length := by
        have := (List.getElem?_eq_some_iff.mp q).1
        have := C.len
        omega
      have hf : fr[i - vs.length]? = some y := by
        have z := S.name hy (by omega)
        rwa [List.getElem?_append_right (by omega), ← hl] at z
      obtain ⟨c, e, held⟩ := C.has _ y hf
      obtain ⟨u, ru, hu⟩ := held v q
      have kd := S.isFree y (List.mem_of_getElem? hf)
      exact ⟨u, ru, .inr ⟨.inr kd, c, (look_snd (S.freeOwn kd)).trans e, stays hu⟩⟩
  exact {
    ok := ok, os := by rw [es]; rfl, bare := by rw [es]; exact e0.bare
    base := by rw [es]; exact Un.kept old
    loc := ⟨_, b.toInCall.ns, fun i y v h2 h3 _ => at_ i y v h2 h3⟩
    cell := fun y c e => (look_either e).elim (fun q => ⟨_, b.cell y c q⟩) fun q => (C.all y c q).2.elim fun v z => ⟨v, stays z⟩
    free := fresh (Nat.le_refl _)
    freeC := fun y c e => (look_either e).elim (fun q => fresh (Nat.le_of_lt (mine q))) fun q => (C.all y c q).1
    pin := fun p hp => nomatch hp
    hok := by rw [es]; exact e0.hok.kept old
    len := by
      have := S.many
      have := C.len
      show (startF N vs ws).length = N.length
      simp only [startF, List.length_append, List.length_map, List.length_replicate]
      omega }
/-- the promise of such a def, by its body -/
theorem nok_ofG (S : OScope N ps fr F.scope) (hb : ∀ (doc pm ctv : Value) (us : List Value), us.length = ps.length → bindArgs (F.fd doc pm ctv) ⟨us, []⟩ = pure (ps.zip us)) (hlen : ∀ ws vs H Q E, sp ws vs H Q E → vs.length = ps.length)
    (body : ∀ (A : Around) (outer : List Env) (s : Shared) (H : Hp) (vs : List V) (ws : List (Option V)) (Q : VK) (E : XK), Room k (A.deeper (envG F f s.heap.objs.size)) → sp ws vs H Q E →
      ∃ t, PSs (ncxG CX P w K mg base N F f A outer s H E) F.body t ∧ t { nx := fun _ H' => Q .non H', rt := Q } (startF N vs ws) H) : NOk P w K mg base CX (k + 1) f F ps fr sp where
  len := hlen
  run A outer s H us vs ws Q E room e0 hf hc C r hsp := by
    have many := hlen _ _ _ _ _ hsp
    obtain ⟨t, ht, hq⟩ := body A outer s H vs ws Q E (room.deeper _) hsp
    obtain ⟨od, sl, doc, pm, ctv, ho⟩ := fnO_at e0.hok hf
    refine codeAny_call_function room.depth ho rfl S.plain.1 S.plain.2 rfl (codeO_at e0.hok hc) ?_
    rw [hb doc pm ctv us (r.length.symm.trans many)]
    refine wpAny_pure (begin_frame S.isFn (fun z hz => ?_) fun s1 b => ⟨?_, ?_⟩)
    · rcases S.params z.1 (List.of_mem_zip hz).1 with q | q
      · exact .inl q
      · exact .inr ⟨q, PySem.W.cellsFrom_some _ _ _ (.inl q)⟩
    · exact (e0.mod.nolimit.keeps fun a o e => (e0.bs a o e).1).keeps b.toInCall.keep
    · have I : Inv (ncxG CX P w K mg base N F f A outer s H E) [] (startF N vs ws) H s1 := begun S room.hd e0 many r C b
      refine codeAny_func (wpAny_mono (ht.run [] s1 (startF N vs ws) H _ I hq) (fun fl s2 out => ?_) fun _ _ out => out)
      have done : ∀ {σ2 H2 v u}, Inv (ncxG CX P w K mg base N F f A outer s H E) [] σ2 H2 s2 → L2.RelV v u → Q v H2 → CE outer P w H s Q u s2 := fun {_ H2 v _} J ru q => ⟨v, H2, J.os, J.bare, J.base, J.hok, ru, q⟩
      cases fl with
      | brk => exact out.elim fun _ z => z.elim fun _ z => z.2.elim
      | cont => exact out.elim fun _ z => z.elim fun _ z => z.2.elim
      | next => exact out.elim fun σ2 z => z.elim fun H2 z => done (v := V.non) (u := Value.none) z.1 rfl z.2
      | ret u => exact out.elim fun v z => z.elim fun σ2 z => z.elim fun H2 z => done z.1 z.2.1 z.2.2
end
end NdO
set_option Elab.async false
set_option maxRecDepth 100000
set_option maxHeartbeats 4000000
set_option linter.all false
namespace Py
open PySem PySem.Spec PyProof.Rows L2
variable [CT]

/-! ### watched cells, put to a heap's tale and taken from it -/
abbrev CTab := Addr → Option Obj
def addC (H : Hp) (T : CTab) : Hp := fun b => match T b with
  | some o => some (CellO b o)
  | none => H b
def dropC (H : Hp) (T : CTab) : Hp := fun b => match T b with
  | some _ => none
  | none => H b
theorem addC_in {H : Hp} {T : CTab} {b : Addr} {o : Obj} (h : T b = some o) : addC H T b = some (CellO b o) := by simp only [addC, h]
theorem addC_out {H : Hp} {T : CTab} {b : Addr} (h : T b = none) : addC H T b = H b := by simp only [addC, h]
theorem dropC_in {H : Hp} {T : CTab} {b : Addr} {o : Obj} (h : T b = some o) : dropC H T b = none := by simp only [dropC, h]
theorem dropC_out {H : Hp} {T : CTab} {b : Addr} (h : T b = none) : dropC H T b = H b := by simp only [dropC, h]
/-- two tales agree where no bare predicate is told -/
def Agree (H H2 : Hp) : Prop := ∀ b o, H b = some o → (∀ φ, o ≠ .ext φ) → H2 b = some o
theorem cellO_ext {c : Addr} {o : Obj} : ¬ ∀ φ, CellO c o ≠ .ext φ := fun h => h _ rfl
theorem objOk_agree {P : Program} {w : World} {H H2 : Hp} {h : Heap} {a : Addr} (g : Agree H H2) : ∀ {o : HO}, ObjOk P w H h a o → ObjOk P w H2 h a o
  | .lst _, x => x
  | .tup _, x => x
  | .dK _, x => x
  | .dT kvs, x => by
    obtain ⟨x1, x2, xs, x3, x4⟩ := x
    exact ⟨x1, x2, xs, Paired.mono (fun p q z => ⟨z.1, g _ _ z.2.1 (fun φ => by intro e; cases e), z.2.2⟩) x3, x4⟩
  | .set _ _, x => x
  | .ins _ _ _, x => ⟨g _ _ x.1 (fun φ => by intro e; cases e), x.2⟩
  | .own _, x => x
  | .xd _, x => x
  | .rng _ _, x => x
  | .frz o u, x => ⟨x.1, objOk_agree g x.2⟩
  | .tbl _, x => x
  | .met _ _, x => x
  | .ext _, x => x
theorem agree_drop {H : Hp} {T : CTab} (hT : ∀ b o, T b = some o → H b = some (CellO b o)) : Agree H (dropC H T) := fun b o e n => by
  cases q : T b with
  | none => rw [dropC_out q]; exact e
  | some o' => rw [hT b o' q] at e; cases e; exact absurd n cellO_ext
theorem agree_add {H : Hp} {T : CTab} (hT : ∀ b o, T b = some o → H b = none) : Agree H (addC H T) := fun b o e n => by
  cases q : T b with
  | none => rw [addC_out q]; exact e
  | some o' => rw [hT b o' q] at e; cases e
theorem cellOk {P : Program} {w : World} {H : Hp} {h : Heap} {b : Addr} {o : Obj} (e : h.get? b = some o) : ObjOk P w H h b (CellO b o) := ⟨e, ⟨o, e⟩, fun _ _ z st => st _ z⟩
theorem cell_at {P : Program} {w : World} {H : Hp} {h : Heap} {b : Addr} {o : Obj} (k : HOk P w H h) (e : H b = some (CellO b o)) : h.get? b = some o := (k b _ e).1
section
variable {P : Program} {w : World} {H : Hp} {h : Heap} {T : CTab}
theorem hok_drop (hT : ∀ b o, T b = some o → H b = some (CellO b o)) (k : HOk P w H h) : HOk P w (dropC H T) h := fun a o e => by
  cases q : T a with
  | none => rw [dropC_out q] at e; exact objOk_agree (agree_drop hT) (k a o e)
  | some o' => rw [dropC_in q] at e; cases e
theorem hok_add (hT : ∀ b o, T b = some o → H b = none ∧ h.get? b = some o) (k : HOk P w H h) : HOk P w (addC H T) h := fun a o e => by
  cases q : T a with
  | none => rw [addC_out q] at e; exact objOk_agree (agree_add fun b o z => (hT b o z).1) (k a o e)
  | some o' => rw [addC_in q] at e; cases e; exact cellOk (hT a o' q).2
end
section
variable {P : Program} {w : World} {A : Around} {outer : List PySem.Env} {s : Shared} {H : Hp} {T : CTab} {Q : VK} {code : Code}
/-- a call told without the cells' tale, told with it -/
theorem code_with (hT : ∀ b o, T b = some o → H b = some (CellO b o)) (hok : HOk P w H s.heap) (nf : ∀ b ∈ frs outer, H b = none)
    (h : codeAny (model P w) A code (CR CX0 outer P w (dropC H T) s (fun v H' => (∀ b o, T b = some o → H' b = none) → Q v (addC H' T)) E0) s) : codeAny (model P w) A code (CR CX0 outer P w H s Q E0) s := by
  refine codeAny_mono h fun r s' hq => ?_
  have nfr : ∀ b o, T b = some o → b ∉ frs outer := fun b o e q => by
    have := nf b q
    rw [hT b o e] at this; cases this
  have core : ∀ u, CE outer P w (dropC H T) s (fun v H' => (∀ b o, T b = some o → H' b = none) → Q v (addC H' T)) u s' → CE outer P w H s Q u s' := by
    rintro u ⟨v, H', os, bare, un, hk, rv, q⟩
    have gone : ∀ b o, T b = some o → H' b = none ∧ s'.heap.get? b = some o := fun b o e => by
      have e1 := cell_at hok (hT b o e)
      exact ⟨un.free b o e1 (dropC_in e) (by simp), un.keep b o e1 (dropC_in e) (nfr b o e) (by simp)⟩
    have out : ∀ b, H b = none → T b = none := fun b e => by
      cases z : T b with
      | none => rfl
      | some o => rw [hT b o z] at e; cases e
    refine ⟨v, addC H' T, os, bare, ⟨fun b o e n => un.keep b o e (by rw [dropC_out (out b n)]; exact n), fun b o e n => un.slot b o e (by rw [dropC_out (out b n)]; exact n), fun b o e n nx => ?_, fun b o e nx => un.there b o e nx, fun b xs e => ?_, fun b o u e => ?_, fun b ps e => ?_⟩, hok_add gone hk, rv, q fun b o e => (gone b o e).1⟩
    · rw [addC_out (out b n)]
      exact un.free b o e (by rw [dropC_out (out b n)]; exact n) nx
    all_goals
      have z : T b = none := by
        cases z : T b with
        | none => rfl
        | some o => rw [hT b o z] at e; exact absurd (Option.some.inj e) (fun y => nomatch (y : HO.ext _ = _))
      rw [addC_out z]
    · exact un.tups b xs (by rw [dropC_out z]; exact e)
    · exact un.frzs b o u (by rw [dropC_out z]; exact e)
    · exact un.tbls b ps (by rw [dropC_out z]; exact e)
  cases r with
  | error e => exact (show False from hq).elim
  | ok fl =>
    cases fl with
    | ret u => exact core u hq
    | next => exact (show False from hq).elim
    | brk => exact (show False from hq).elim
    | cont => exact (show False from hq).elim
/-- a call told with the cells' tale, told without it -/
theorem code_less (hT : ∀ b o, T b = some o → H b = none ∧ s.heap.get? b = some o)
    (h : codeAny (model P w) A code (CR CX0 outer P w (addC H T) s (fun v H' => (∀ b o, T b = some o → H' b = some (CellO b o)) ∧ Q v (dropC H' T)) E0) s) : codeAny (model P w) A code (CR CX0 outer P w H s Q E0) s := by
  refine codeAny_mono h fun r s' hq => ?_
  have core : ∀ u, CE outer P w (addC H T) s (fun v H' => (∀ b o, T b = some o → H' b = some (CellO b o)) ∧ Q v (dropC H' T)) u s' → CE outer P w H s Q u s' := by
    rintro u ⟨v, H', os, bare, un, hk, rv, w1, q⟩
    refine ⟨v, dropC H' T, os, bare, ⟨fun b o e n nf nx => ?_, fun b o e n hf nx => ?_, fun b o e n nx => ?_, fun b o e nx => un.there b o e nx, fun b xs e => ?_, fun b o u e => ?_, fun b ps e => ?_⟩, hok_drop w1 hk, rv, q⟩
    · cases z : T b with
      | none => exact un.keep b o e (by rw [addC_out z]; exact n) nf nx
      | some o' =>
        have e2 := (hT b o' z).2
        rw [e] at e2
        cases e2
        exact cell_at hk (w1 b o z)
    · cases z : T b with
      | none => exact un.slot b o e (by rw [addC_out z]; exact n) hf nx
      | some o' =>
        have e2 := (hT b o' z).2
        rw [e] at e2
        cases e2
        exact ⟨o.slots, cell_at hk (w1 b o z)⟩
    · cases z : T b with
      | none => rw [dropC_out z]; exact un.free b o e (by rw [addC_out z]; exact n) nx
      | some o' => exact dropC_in z
    all_goals
      have z : T b = none := by
        cases z : T b with
        | none => rfl
        | some o => rw [(hT b o z).1] at e; cases e
      rw [dropC_out z]
    · exact un.tups b xs (by rw [addC_out z]; exact e)
    · exact un.frzs b o u (by rw [addC_out z]; exact e)
    · exact un.tbls b ps (by rw [addC_out z]; exact e)
  cases r with
  | error e => exact (show False from hq).elim
  | ok fl =>
    cases fl with
    | ret u => exact core u hq
    | next => exact (show False from hq).elim
    | brk => exact (show False from hq).elim
    | cont => exact (show False from hq).elim
end
end Py
set_option Elab.async false
set_option maxRecDepth 100000
set_option maxHeartbeats 4000000
set_option linter.all false
namespace Py
open PySem PySem.Spec PyProof.Rows L2
variable [CT]

/-! ### values over tales that agree -/
section
variable {K : PySem.W.Frag} {H H2 : Hp} {μ : Mem}
theorem TupAt.agree {a xs} (g : Agree H H2) (h : TupAt K H μ a xs) : TupAt K H2 μ a xs := by
  rcases h with ⟨r | ⟨o, r⟩, n⟩ | h
  · exact .inl ⟨.inl (g _ _ r (fun φ => by intro e; cases e)), n⟩
  · exact .inl ⟨.inr ⟨o, g _ _ r (fun φ => by intro e; cases e)⟩, n⟩
  · exact .inr h
theorem FrlAt.agree {a xs} (g : Agree H H2) (h : FrlAt K H μ a xs) : FrlAt K H2 μ a xs := by
  rcases h with ⟨⟨o, r⟩, n⟩ | h
  · exact .inl ⟨⟨o, g _ _ r (fun φ => by intro e; cases e)⟩, n⟩
  · exact .inr h
mutual
theorem RepP.agree (g : Agree H H2) : ∀ {p : PV} {v : V}, RepP K H μ v p → RepP K H2 μ v p
  | .non, _, h => by cases h; exact .non
  | .bl b, _, h => by cases h; exact .bl b
  | .int b, _, h => by cases h; exact .int b
  | .str b, _, h => by cases h; exact .str b
  | .tup ps, _, h => by
    cases h with
    | tup h1 h2 => exact .tup (h1.agree g) (RepPs.agree g h2)
  | .lst ps, _, h => by
    cases h with
    | lst h1 n h2 => exact .lst (g _ _ h1 (fun φ => by intro e; cases e)) n (RepPs.agree g h2)
  | .frl ps, _, h => by
    cases h with
    | frl h1 h2 => exact .frl (h1.agree g) (RepPs.agree g h2)
  | .dic ks ps, _, h => by
    cases h with
    | dic h1 n h2 => exact .dic (g _ _ h1 (fun φ => by intro e; cases e)) n (RepPs.agree g h2)
  | .ref n, _, h => by cases h
  | .adr a, _, h => by cases h; exact .adr a
  | .clo i ps, _, h => by cases h
theorem RepPs.agree (g : Agree H H2) : ∀ {ps : List PV} {vs : List V}, RepPs K H μ vs ps → RepPs K H2 μ vs ps
  | [], _, h => by cases h; exact .nil
  | p :: ps, _, h => by
    cases h with
    | cons h1 h2 => exact .cons (RepP.agree g h1) (RepPs.agree g h2)
end
theorem Rep0.agree (g : Agree H H2) {v p} (h : Rep0 K H μ v p) : Rep0 K H2 μ v p := by
  rcases h with h | h
  · exact .inl (h.agree g)
  · exact .inr h
theorem caps_of {vs : List V} {ps : List PV} (g : Agree H H2) (h : Paired (Rep0 K H μ) vs ps) : Paired (fun (o : Option V) p => ∃ v, o = some v ∧ Rep0 K H2 μ v p) (vs.map some) ps := by
  induction h with
  | nil => exact .nil
  | cons h _ ih => exact .cons ⟨_, rfl, h.agree g⟩ ih
theorem tabs_agree {T : List NdefX.NTab} (g : Agree H H2) (c : ∀ c q, H c = some (LamX.CodeO c q) → H2 c = some (LamX.CodeO c q)) (t : NdefX.TabsN T H) : NdefX.TabsN T H2 := fun p hp => by
  obtain ⟨ps, h1, h2, h3⟩ := t p hp
  refine ⟨ps, g _ _ h1 (fun φ => by intro e; cases e), h2, fun pos cv hc => ?_⟩
  obtain ⟨c', e1, e2⟩ := h3 pos cv hc
  exact ⟨c', e1, c _ _ e2⟩
theorem Rel.agree {S : Sto} (g : Agree H H2) (r : ∀ a ∈ μ.rs, H2 a ≠ none) (c : ∀ c q, H c = some (LamX.CodeO c q) → H2 c = some (LamX.CodeO c q)) (t : Rel K H μ S) : Rel K H2 μ S := by
  refine ⟨t.len, t.nd, fun n a o e1 e2 => ?_, fun a q => ⟨(t.res a q).1, (t.res a q).2.imp fun l e => g _ _ e (fun φ => by intro z; cases z)⟩, tabs_agree g c t.tab⟩
  have ob := t.obj n a o e1 e2
  revert ob
  cases o <;> intro ob <;> first | exact ob.elim | skip
  · obtain ⟨vs, h1, h2⟩ := ob
    exact ⟨vs, g _ _ h1 (fun φ => by intro e; cases e), h2.agree g⟩
  · obtain ⟨kvs, h1, h2, h3⟩ := ob
    exact ⟨kvs, g _ _ h1 (fun φ => by intro e; cases e), h2, h3.agree g⟩
theorem reps_pure {ps : List PV} {vs : List V} (h : allPure ps = true) (r : Reps K H μ vs ps) : RepPs K H μ vs ps := by
  induction r with
  | nil => exact .nil
  | @cons v p vs ps h1 _ ih =>
    have h : (!p.isRef && allPure ps) = true := h
    rw [Bool.and_eq_true, Bool.not_eq_true'] at h
    exact .cons (h1.pure h.1) (ih h.2)
end

/-! ### the promise of a closure -/
/-- its body's mirror tells of what was captured and of the arguments -/
def spC (K : PySem.W.Frag) (m : List PV → Fn) : List (Option V) → Sp := fun ws vs H Q _ => ∃ μ cps ps S, Paired (fun (o : Option V) p => ∃ v, o = some v ∧ Rep0 K H μ v p) ws cps ∧ Reps K H μ vs ps ∧ Rel K H μ S ∧ FitsC K H μ (m cps ps S) Q
def CloOk (P : Program) (w : World) (K : PySem.W.Frag) (mg : Str → Option Value) (base : Heap) (k i : Nat) (m : List PV → Fn) : Prop :=
  ∃ ps : List Str, ∀ (f : Addr) (F : NdefX.NF), F = NdefX.NF.of (CT.code i).st (CT.code i).name F.qual F.cl F.c → NdefX.NOk P w K mg base CX0 k f F ps (CT.code i).fr (spC K m)
/-- the watched cells of a closure as a table -/
noncomputable def tabOf (H : Hp) (cl : List (Str × Addr)) : CTab := fun b =>
  open Classical in if h : ∃ o, (∃ y, cl.lookup y = some b) ∧ H b = some (CellO b o) then some h.choose else none
theorem tabOf_at {H : Hp} {cl : List (Str × Addr)} {b : Addr} {o : Obj} (h : tabOf H cl b = some o) : (∃ y, cl.lookup y = some b) ∧ H b = some (CellO b o) := by
  unfold tabOf at h
  split at h
  · rename_i z
    cases h
    exact z.choose_spec
  · cases h
theorem tabOf_has {H : Hp} {cl : List (Str × Addr)} {b : Addr} {o : Obj} {y : Str} (h1 : cl.lookup y = some b) (h2 : H b = some (CellO b o)) : ∃ o', tabOf H cl b = some o' := by
  have z : ∃ o, (∃ y, cl.lookup y = some b) ∧ H b = some (CellO b o) := ⟨o, ⟨y, h1⟩, h2⟩
  exact ⟨z.choose, by unfold tabOf; rw [dif_pos z]⟩
section
variable {X : Cx} {pins : List (Addr × Obj)} {σ : L2.St} {H : Hp} {s : Shared} {Q : VK} {μ : Mem} {S : Sto} {k i : Nat} {m : List PV → Fn} {f : Addr} {cps ps : List PV} {us : List Value} {vs : List V}
theorem run_clo (C : CloOk X.prog X.w X.K X.mg X.base k i m) (hr : Room k X.A) (I : Inv X pins σ H s) (hc : CloR X.K H μ (.ref f) (.clo i cps)) (r : Vals vs us) (rv : Reps X.K H μ vs ps) (hp : allPure ps = true) (t : Rel X.K H μ S) (hF : FitsC X.K H μ (m cps ps S) Q) :
    wpAny (model X.prog X.w) X.A (call (.ref f) us) (EP X pins σ Q) X.xe s := by
  obtain ⟨i', cps', f', F, cv, e1, e2, g1, n1, g2, n2, g3, g4, g5⟩ := hc
  cases e1
  cases e2
  obtain ⟨pn, hN⟩ := C
  have N := hN f F g3
  have hok := I.hok
  have at_ : ∀ b o, tabOf H F.cl b = some o → H b = some (CellO b o) := fun b o e => (tabOf_at e).2
  have nμ : ∀ b o, tabOf H F.cl b = some o → b ∉ μ := fun b o e => by
    obtain ⟨⟨y, hy⟩, _⟩ := tabOf_at e
    obtain ⟨_, _, _, n, _⟩ := g4.all y b hy
    exact n
  have notf : ∀ b, (∀ v, ∀ o : Obj, s.heap.get? b = some o → o.data ≠ .cell v) → tabOf H F.cl b = none := fun b hb => by
    cases z : tabOf H F.cl b with
    | none => rfl
    | some o =>
      obtain ⟨⟨y, hy⟩, _⟩ := tabOf_at z
      obtain ⟨o2, v, h1, _, h3⟩ := g4.all y b hy
      exact absurd h3 (hb v o2 (cell_at hok h1))
  have f0 : tabOf H F.cl f = none := notf f fun v o e => by
    obtain ⟨od, sl, doc, pm, ctv, e'⟩ := NdefX.fnO_at hok g1
    rw [e'] at e
    cases e
    intro z; cases z
  have c0 : tabOf H F.cl F.c = none := notf F.c fun v o e => by
    obtain ⟨⟨oc, vs, tk, h1, h2, h3⟩, _, _⟩ := hok _ _ g2
    rw [h1] at e
    cases e
    rw [h2]
    intro z; cases z
  have ag := agree_drop at_
  have codes : ∀ c q, H c = some (LamX.CodeO c q) → dropC H (tabOf H F.cl) c = some (LamX.CodeO c q) := fun c q e => by
    have z : tabOf H F.cl c = none := notf c fun v o e' => by
      obtain ⟨⟨oc, vs, tk, h1, h2, h3⟩, _, _⟩ := hok _ _ e
      rw [h1] at e'
      cases e'
      rw [h2]
      intro z; cases z
    rw [dropC_out z]; exact e
  have env := I.env0
  have none_ : ∀ b, H b = none → dropC H (tabOf H F.cl) b = none := fun b e => by
    cases z : tabOf H F.cl b with
    | none => rw [dropC_out z]; exact e
    | some o => exact dropC_in z
  have rs : ∀ a ∈ μ.rs, dropC H (tabOf H F.cl) a ≠ none := fun a ha => by
    cases z : tabOf H F.cl a with
    | none => rw [dropC_out z]; exact t.resn ha
    | some o => exact absurd (Or.inr ha) (nμ a o z)
  have env' : Env0 X.prog X.w X.K X.mg X.base X.A X.stack s (dropC H (tabOf H F.cl)) :=
    ⟨env.frames, env.mod, fun b o e => ⟨(env.bs b o e).1, none_ b (env.bs b o e).2⟩, env.bsz, env.funs, fun b hb => none_ b (env.frf b hb), hok_drop at_ hok, env.bare⟩
  have cells : NdefX.CellsAt F.cl (CT.code i).fr (cv.map some) s.heap (dropC H (tabOf H F.cl)) := by
    refine ⟨by rw [List.length_map]; exact g4.len, fun y c e => ?_, g4.inj, fun j y e => ?_⟩
    · obtain ⟨o, v, h1, _, h3⟩ := g4.all y c e
      obtain ⟨o', h4⟩ := tabOf_has e h1
      exact ⟨dropC_in h4, v, o, cell_at hok h1, h3⟩
    · obtain ⟨c, o, u, h1, h2, h3, h4⟩ := g4.has j y e
      refine ⟨c, h1, fun v ev => ⟨u, h4 v ?_, o, cell_at hok h2, h3⟩⟩
      rw [List.getElem?_map] at ev
      cases z : cv[j]? with
      | none => rw [z] at ev; cases ev
      | some w => rw [z] at ev; cases ev; rfl
  have caps : Paired (fun (o : Option V) p => ∃ v, o = some v ∧ Rep0 X.K (dropC H (tabOf H F.cl)) μ v p) (cv.map some) cps := caps_of ag g5
  have fits : FitsC X.K (dropC H (tabOf H F.cl)) μ (m cps ps S) (fun v H' => (∀ b o, tabOf H F.cl b = some o → H' b = none) → Q v (addC H' (tabOf H F.cl))) := by
    revert hF
    cases m cps ps S with
    | er => exact fun z => z
    | no => exact fun z => z
    | ok q S3 =>
      intro hF H' st t3 v rq gone
      have ga := agree_add (H := H') (T := tabOf H F.cl) gone
      have stay : ∀ a o, H' a = some o → addC H' (tabOf H F.cl) a = some o := fun a o e => by
        cases z : tabOf H F.cl a with
        | none => rw [addC_out z]; exact e
        | some o' => rw [gone a o' z] at e; cases e
      refine hF (addC H' (tabOf H F.cl)) ⟨fun a o e n nt => ?_, fun a e => ?_, [], by simp [Mem.grow], by simp⟩ (t3.agree ga (fun a ha => ?_) fun c q e => stay _ _ e) v ?_
      · cases z : tabOf H F.cl a with
        | none => rw [addC_out z]; exact st.ext a o (by rw [dropC_out z]; exact e) n nt
        | some o' => rw [addC_in z, ← at_ a o' z]; exact e
      · cases z : tabOf H F.cl a with
        | none =>
          rw [addC_out z] at e
          have := st.dom a e
          rwa [dropC_out z] at this
        | some o' => rw [addC_in z] at e; cases e
      · intro e
        cases z : tabOf H F.cl a with
        | none => rw [addC_out z] at e; exact t3.resn ha e
        | some o' => rw [addC_in z] at e; cases e
      · rcases rq with h | h | h
        · exact .inl (h.agree ga)
        · exact .inr (.inl h)
        · exact .inr (.inr (h.to (fun a o e n _ => ⟨stay a o e, n⟩) fun w q z => z.agree ga))
  have run := N.run X.A X.stack s (dropC H (tabOf H F.cl)) us vs (cv.map some) _ E0 hr env' (by rw [dropC_out f0]; exact g1) (by rw [dropC_out c0]; exact g2) cells r ⟨μ, cps, ps, S, caps, ((reps_pure hp rv).agree ag).reps, t.agree ag rs codes, fits⟩
  refine wpAny_call (codeAny_mono (code_with at_ hok env.frf run) fun res s' hq => ?_)
  cases res with
  | error e => exact (show False from hq).elim
  | ok fl =>
    cases fl with
    | ret u => exact I.after hq
    | next => exact (show False from hq).elim
    | brk => exact (show False from hq).elim
    | cont => exact (show False from hq).elim
end
/-- a call of a closure that a slot holds -/
def eClo (m : Nat → List PV → Fn) (i : Nat) (a : Ea) : Ev := fun ρ S => match ρ[i]? with
  | some (some (.clo c cps)) => (a ρ S).bind fun ps S1 => if allPure ps = true then m c cps ps S1 else .no
  | _ => .no
end Py
set_option Elab.async false
set_option maxRecDepth 100000
set_option maxHeartbeats 4000000
set_option linter.all false
namespace Py
open PySem PySem.Spec PyProof.Rows L2
variable [CT]

section
variable {X : Cx} {k i : Nat} {m : Nat → List PV → Fn} {x : Str} {e : Expr} {es : List Expr} {p pos : Pos} {fa : Ea}
theorem slot_clo {K : PySem.W.Frag} {H : Hp} {μ : Mem} {σ : L2.St} {ρ : Env} {c : Nat} {cps : List PV} (hE : ERel K H μ σ ρ) (h : ρ[i]? = some (some (.clo c cps))) : ∃ f, σ[i]? = some (some (.ref f)) ∧ CloR K H μ (.ref f) (.clo c cps) := by
  obtain ⟨v, h1, h2⟩ := hE.get h
  rcases h2 with z | ⟨_, _, z, _⟩ | z
  · cases z
  · cases z
  · have z' := z
    obtain ⟨_, _, f, _, _, _, e2, _⟩ := z'
    subst e2
    exact ⟨f, h1, z⟩
theorem ee_clo (C : ∀ c, CloOk X.prog X.w X.K X.mg X.base k c (m c)) (hr : Room k X.A) (hN : X.N[i]? = some x) (hv : Vis X.env.scope x) (ha : EA X (e :: es) fa)
    (hd : (x == ("__debug__" : Str)) = false := by decide) (hcd : (x == ("__classdict__" : Str)) = false := by decide)
    (he : starEach (e :: es) X.env = (false, eval e X.env) :: starEach es X.env := by rfl) (hpl : (backTo pos (starEach es X.env)).any (·.1) = false := by rfl) : EE X (.Call (.Name x p) (e :: es) [] pos) (eClo m i fa) := by
  refine ⟨fun pins s σ H Q I h => ?_⟩
  obtain ⟨μ, ρ, S, hE, hR, hF⟩ := h
  unfold eClo at hF
  split at hF
  · rename_i c cps hs
    obtain ⟨f, hσ, hc⟩ := slot_clo hE hs
    refine wpAny_Call_Name_kw (thn ((pe_var (pos := p) hN hv hd hcd).run pins s σ H (fun v H1 => v = .ref f ∧ H1 = H) I ⟨.ref f, hσ, rfl, rfl⟩) fun u s1 ⟨v, H1, J, rv, ev, eH⟩ => ?_)
    subst ev
    rw [eH] at J
    obtain rfl : u = Value.ref f := rv
    have isF : ∀ {H : Hp} {μ : Mem} {s : Shared}, CloR X.K H μ (.ref f) (.clo c cps) → Inv X pins σ H s → PySem.W.FnAt f s.heap := fun z J => by
      obtain ⟨_, _, _, F, _, _, e2, g, _⟩ := z
      cases e2
      exact NdefX.fnAt_of J g
    have args : tEa X.K fa σ H fun vs H2 => ∃ μ2 S2 ps, CloR X.K H2 μ2 (.ref f) (.clo c cps) ∧ Rel X.K H2 μ2 S2 ∧ Reps X.K H2 μ2 vs ps ∧ allPure ps = true ∧ FitsC X.K H2 μ2 (m c cps ps S2) Q :=
      ⟨μ, ρ, S, hE, hR, (FitsG.bind hF).imp fun ps S2 H2 μ2 st t2 h2 vs rvs => by
        split at h2
        · rename_i hp
          refine ⟨μ2, S2, ps, hc.to st.far (fun _ _ z => z.step st), t2, rvs, hp, ?_⟩
          revert h2
          cases m c cps ps S2 with
          | ok q S3 => exact fun h2 H' st' t' v r => h2 H' μ2 st' t' v r
          | er => exact fun z => z
          | no => exact fun z => z
        · exact h2.elim⟩
    refine PySem.W.callWith_F (first := []) (isF hc J) (thn (ha.run pos pins s1 σ H _ J args) fun us s2 ⟨vs, H2, J2, r, μ2, S2, ps, c2, t2, r2, hp, f2⟩ => ⟨isF c2 J2, ?_⟩) he hpl
    exact run_clo (C c) hr J2 c2 r r2 hp t2 f2
  · exact hF.elim
end
end Py
set_option Elab.async false
set_option maxRecDepth 100000
set_option maxHeartbeats 4000000
set_option linter.all false
namespace Py
open PySem PySem.Spec PyProof.Rows L2
variable [CT]

/-! ### a closure's body -/
def startC (N : Nat) (ps cps : List PV) : Env := ps.map some ++ (cps.map some ++ List.replicate (N - ps.length - cps.length) none)
def mkClo (n N : Nat) (g : Es) : List PV → Fn := fun cps ps S => if ps.length = n then (g (startC N ps cps) S).bind (finF S.length) else .no
theorem caps_env {K : PySem.W.Frag} {H : Hp} {μ : Mem} {ws : List (Option V)} {cps : List PV} (h : Paired (fun (o : Option V) p => ∃ v, o = some v ∧ Rep0 K H μ v p) ws cps) : ERel K H μ ws (cps.map some) := by
  induction h with
  | nil => exact .nil
  | cons h _ ih =>
    obtain ⟨v, rfl, r⟩ := h
    refine .cons (show Rep K H μ v _ from ?_) ih
    rcases r with r | r
    · exact .inl r
    · exact .inr (.inl r)
theorem startC_rel {K : PySem.W.Frag} {H : Hp} {μ : Mem} {N : List Str} {vs : List V} {ps cps : List PV} {ws : List (Option V)} (r : Reps K H μ vs ps) (h : Paired (fun (o : Option V) p => ∃ v, o = some v ∧ Rep0 K H μ v p) ws cps) : ERel K H μ (NdefX.startF N vs ws) (startC N.length ps cps) := by
  unfold NdefX.startF startC
  rw [Paired.length r, Paired.length h]
  exact r.somes.append ((caps_env h).append (ERel.nones _))
section
variable {P : Program} {w : World} {K : PySem.W.Frag} {mg : Str → Option Value} {base : Heap} {i k : Nat} {N pn : List Str} {g : Es}
theorem clo_def (S : NdO.OScope N pn (CT.code i).fr (C8.fnScope (CT.code i).st))
    (hb : ∀ (qual : Str) (cl : List (Str × Addr)) (c : Addr) (doc pm ctv : Value) (us : List Value), us.length = pn.length → bindArgs ((NdefX.NF.of (CT.code i).st (CT.code i).name qual cl c).fd doc pm ctv) ⟨us, []⟩ = pure (pn.zip us))
    (hbody : ∀ (qual : Str) (cl : List (Str × Addr)) (c f : Addr) (A : Around) (outer : List PySem.Env) (s : Shared) (H : Hp) (E : XK), Room k (A.deeper (NdO.envG (NdefX.NF.of (CT.code i).st (CT.code i).name qual cl c) f s.heap.objs.size)) → ESs (NdO.ncxG CX0 P w K mg base N (NdefX.NF.of (CT.code i).st (CT.code i).name qual cl c) f A outer s H E).nox (C8.fnBody (CT.code i).st) g) :
    CloOk P w K mg base (k + 1) i (mkClo pn.length N.length g) := by
  refine ⟨pn, fun f F hF => ?_⟩
  rw [hF]
  refine NdO.nok_ofG S (fun doc pm ctv us h => hb _ _ _ doc pm ctv us h) (fun ws vs H Q E ⟨μ, cps, ps, S, _, rv, _, hf⟩ => ?_) fun A outer s H vs ws Q E hr ⟨μ, cps, ps, S0, hcp, rv, t, hf⟩ => ⟨_, (hbody _ _ _ f A outer s H E hr).nox, ?_⟩
  · unfold mkClo at hf
    split at hf
    · rename_i h
      rw [Paired.length rv]; exact h
    · exact hf.elim
  · unfold mkClo at hf
    split at hf
    · refine ⟨μ, startC N.length ps cps, S0, startC_rel rv hcp, t, ?_⟩
      revert hf
      cases g (startC N.length ps cps) S0 with
      | er => exact fun z => z
      | no => exact fun z => z
      | ok fl S1 =>
        intro hf H' μ' s1 t1
        have hf : FitsC K H μ (finF S0.length fl S1) Q := hf
        cases fl with
        | rt p => exact fun v r => finV_ok t s1 t1 r hf
        | nx ρ => exact fun σ _ => finV_ok t s1 t1 (.inl .non) hf
        | bk ρ => exact hf.elim
        | ct ρ => exact hf.elim
    · exact hf.elim
end

/-! ### a call that hands a closure of the frame's own on -/
def capsOf (ρ : Env) : List Nat → Option (List PV)
  | [] => some []
  | j :: js => match ρ[j]? with
    | some (some p) => if p.isClo = true then none else (capsOf ρ js).map (p :: ·)
    | _ => none
theorem caps_rep {K : PySem.W.Frag} {H : Hp} {μ : Mem} {σ : L2.St} {ρ : Env} (hE : ERel K H μ σ ρ) : ∀ {js : List Nat} {cps : List PV}, capsOf ρ js = some cps → ∃ vs : List V, js.map (NdefX.slotAt σ) = vs.map some ∧ Paired (Rep0 K H μ) vs cps
  | [], cps, h => by cases h; exact ⟨[], rfl, .nil⟩
  | j :: js, cps, h => by
    rw [capsOf] at h
    split at h
    · rename_i p e
      split at h
      · cases h
      · rename_i hn
        cases z : capsOf ρ js with
        | none => rw [z] at h; cases h
        | some qs =>
          rw [z] at h
          cases h
          obtain ⟨vs, h1, h2⟩ := caps_rep hE z
          obtain ⟨v, g1, g2⟩ := hE.get e
          refine ⟨v :: vs, by rw [List.map_cons, List.map_cons, h1, NdefX.slotAt_of g1], .cons ?_ h2⟩
          exact g2.two (by simpa using hn)
    · cases h
def eHof (m : Fn) (cid : Nat) (js : List Nat) (a : Ea) : Ev := fun ρ S => match capsOf ρ js with
  | some cps => (a ρ S).bind fun ps S1 => (m (ps ++ [.clo cid cps]) S1).bind fun p S2 => if p.isClo = true then .no else .ok p S2
  | none => .no
end Py
set_option Elab.async false
set_option maxRecDepth 100000
set_option maxHeartbeats 4000000
set_option linter.all false
namespace Py
open PySem PySem.Spec PyProof.Rows L2
variable [CT]

theorem stay_add {H : Hp} {T : CTab} (hT : ∀ b o, T b = some o → H b = none) {a : Addr} {o : HO} (e : H a = some o) : addC H T a = some o := by
  cases z : T a with
  | none => rw [addC_out z]; exact e
  | some o' => rw [hT a o' z] at e; cases e
theorem Rep.add {K : PySem.W.Frag} {H : Hp} {μ : Mem} {T : CTab} (hT : ∀ b o, T b = some o → H b = none) {v : V} {p : PV} (h : Rep K H μ v p) : Rep K (addC H T) μ v p := by
  have g := agree_add hT
  rcases h with h | h | h
  · exact .inl (h.agree g)
  · exact .inr (.inl h)
  · exact .inr (.inr (h.to (fun a o e n _ => ⟨stay_add hT e, n⟩) fun _ _ z => z.agree g))
section
variable {X : Cx} {pins : List (Addr × Obj)} {σ : L2.St} {H : Hp} {s : Shared} {Q : VK} {μ : Mem} {S : Sto} {k cid : Nat} {m : Fn} {g f c' : Addr} {fd : FuncData} {pn : List Str} {qual : Str} {cl : List (Str × Addr)} {js : List Nat} {cps ps : List PV} {us : List Value} {vs cvs : List V}
/-- the cells as they are -/
noncomputable def tabH (h : Heap) (cl : List (Str × Addr)) : CTab := fun b => open Classical in if ∃ y, cl.lookup y = some b then h.get? b else none
theorem tabH_at {h : Heap} {cl : List (Str × Addr)} {b : Addr} {o : Obj} (e : tabH h cl b = some o) : (∃ y, cl.lookup y = some b) ∧ h.get? b = some o := by
  unfold tabH at e
  split at e
  · rename_i z; exact ⟨z, e⟩
  · cases e
theorem tabH_has {h : Heap} {cl : List (Str × Addr)} {b : Addr} {y : Str} (e : cl.lookup y = some b) : tabH h cl b = h.get? b := by
  unfold tabH
  rw [if_pos ⟨y, e⟩]
theorem run_hof (F : FnOk X.prog X.w X.K X.mg X.base CX0 k g fd pn (spM X.K m)) (hr : Room k X.A) (hb : Binds X.K fd pn []) (I : Inv X pins σ H s) (cp : NdefX.Caps X cl (CT.code cid).fr js) (hfn : ∀ y, X.fn y = true)
    (hf : H f = some (NdefX.FnO f (NdefX.NF.of (CT.code cid).st (CT.code cid).name qual cl c'))) (nf : f ∉ μ) (hc : H c' = some (LamX.CodeO c' qual)) (nc : c' ∉ μ)
    (hs : js.map (NdefX.slotAt σ) = cvs.map some) (hcv : Paired (Rep0 X.K H μ) cvs cps) (r : Vals (vs ++ [.ref f]) us) (rv : Reps X.K H μ vs ps) (t : Rel X.K H μ S)
    (hF : FitsC X.K H μ ((m (ps ++ [.clo cid cps]) S).bind fun p S2 => if p.isClo = true then .no else .ok p S2) Q) :
    wpAny (model X.prog X.w) X.A (call (.ref g) us) (EP X pins σ Q) X.xe s := by
  have C := NdefX.cells_of I cp
  have hT : ∀ b o, tabH s.heap cl b = some o → H b = none ∧ s.heap.get? b = some o := fun b o e => by
    obtain ⟨⟨y, hy⟩, e2⟩ := tabH_at e
    exact ⟨(C.all y b hy).1, e2⟩
  have hT1 : ∀ b o, tabH s.heap cl b = some o → H b = none := fun b o e => (hT b o e).1
  have isCell : ∀ b o, tabH s.heap cl b = some o → ∃ v, o.data = .cell v := fun b o e => by
    obtain ⟨⟨y, hy⟩, e2⟩ := tabH_at e
    obtain ⟨v, o', h1, h2⟩ := (C.all y b hy).2
    rw [h1] at e2; cases e2
    exact ⟨v, h2⟩
  have far : ∀ b o, tabH s.heap cl b = some o → X.s_0.heap.objs.size ≤ b := fun b o e => by
    obtain ⟨⟨y, hy⟩, _⟩ := tabH_at e
    exact I.ok.cab y b (hfn y) (cp.sub y b hy)
  have nμ : ∀ b o, tabH s.heap cl b = some o → b ∉ μ := fun b o e => t.out (hT1 b o e)
  have ag := agree_add hT1
  have env := I.env0
  have none_ : ∀ b, (∀ o, tabH s.heap cl b ≠ some o) → H b = none → addC H (tabH s.heap cl) b = none := fun b n e => by
    cases z : tabH s.heap cl b with
    | none => rw [addC_out z]; exact e
    | some o => exact absurd z (n o)
  have notFr : ∀ b ∈ frs X.stack, ∀ o, tabH s.heap cl b ≠ some o := fun b hb o z => by
    rcases List.mem_cons.mp (I.stkSub b hb) with e | hb
    · subst e
      obtain ⟨m', ⟨o', es, ep, h1, h2, _⟩, _⟩ := I.loc
      obtain ⟨v, hv⟩ := isCell _ o z
      rw [(hT _ o z).2] at h1
      cases h1
      rw [hv] at h2; cases h2
    · obtain ⟨_, o', ho, _⟩ := I.ok.funs.mem hb
      exact absurd (Heap.lt_size ho) (Nat.not_lt.mpr (far b o z))
  have env' : Env0 X.prog X.w X.K X.mg X.base X.A X.stack s (addC H (tabH s.heap cl)) :=
    ⟨env.frames, env.mod, fun b o e => ⟨(env.bs b o e).1, none_ b (fun o' z => by
      exact absurd (Heap.lt_size e) (Nat.not_lt.mpr (Nat.le_trans I.ok.bsz (far b o' z)))) (env.bs b o e).2⟩, env.bsz, env.funs, fun b hb => none_ b (notFr b hb) (env.frf b hb), hok_add hT I.hok, env.bare⟩
  have clo : CloR X.K (addC H (tabH s.heap cl)) μ (.ref f) (.clo cid cps) := by
    refine ⟨cid, cps, f, NdefX.NF.of (CT.code cid).st (CT.code cid).name qual cl c', cvs, rfl, rfl, stay_add hT1 hf, nf, stay_add hT1 hc, nc, rfl, ⟨?_, fun y c e => ?_, C.inj, fun j y e => ?_⟩, Paired.mono (fun _ _ z => z.agree ag) hcv⟩
    · have := C.len
      rw [hs, List.length_map] at this
      exact this
    · have e : cl.lookup y = some c := e
      obtain ⟨n, v, o, h1, h2⟩ := C.all y c e
      exact ⟨o, v, addC_in (by rw [tabH_has e]; exact h1), t.out n, h2⟩
    · obtain ⟨c, h1, h2⟩ := C.has j y e
      have hj := (List.getElem?_eq_some_iff.mp e).1
      have hl := C.len
      rw [hs, List.length_map] at hl
      have hv : cvs[j]? = some (cvs[j]'(by omega)) := List.getElem?_eq_getElem _
      obtain ⟨u, ru, o, g1, g2⟩ := h2 (cvs[j]'(by omega)) (by rw [hs, List.getElem?_map, hv]; rfl)
      exact ⟨c, o, u, h1, addC_in (by rw [tabH_has h1]; exact g1), g2, fun v ev => by rw [hv] at ev; cases ev; exact ru⟩
  have codes : ∀ c q, H c = some (LamX.CodeO c q) → addC H (tabH s.heap cl) c = some (LamX.CodeO c q) := fun c q e => stay_add hT1 e
  have rs : ∀ a ∈ μ.rs, addC H (tabH s.heap cl) a ≠ none := fun a ha e => by
    cases z : tabH s.heap cl a with
    | none => rw [addC_out z] at e; exact t.resn ha e
    | some o => rw [addC_in z] at e; cases e
  have reps : Reps X.K (addC H (tabH s.heap cl)) μ (vs ++ [.ref f]) (ps ++ [.clo cid cps]) := by
    clear hF r
    induction rv with
    | nil => exact .cons (.inr (.inr clo)) .nil
    | cons h _ ih => exact .cons (h.add hT1) ih
  have fits : FitsC X.K (addC H (tabH s.heap cl)) μ (m (ps ++ [.clo cid cps]) S) (fun v H' => (∀ b o, tabH s.heap cl b = some o → H' b = some (CellO b o)) ∧ Q v (dropC H' (tabH s.heap cl))) := by
    revert hF
    cases m (ps ++ [.clo cid cps]) S with
    | er => exact fun z => z
    | no => exact fun z => z
    | ok q S3 =>
      intro hF H' st t3 v rq
      have w1 : ∀ b o, tabH s.heap cl b = some o → H' b = some (CellO b o) := fun b o e => st.ext b _ (addC_in e) (Mem.nst (nμ b o e)) inferInstance
      refine ⟨w1, ?_⟩
      have hF : FitsC X.K H μ (if q.isClo = true then .no else .ok q S3) Q := hF
      split at hF
      · exact hF.elim
      · rename_i nq
        have ga := agree_drop w1
        have out : ∀ a, H a ≠ none → tabH s.heap cl a = none := fun a n => by
          cases z : tabH s.heap cl a with
          | none => rfl
          | some o => exact absurd (hT1 a o z) n
        refine hF (dropC H' (tabH s.heap cl)) ⟨fun a o e n nt => ?_, fun a e => ?_, [], by simp [Mem.grow], by simp⟩ (t3.agree ga (fun a ha e => ?_) fun c q e => ?_) v ?_
        · have z := out a (by rw [e]; simp)
          rw [dropC_out z]
          exact st.ext a o (by rw [addC_out z]; exact e) n nt
        · cases z : tabH s.heap cl a with
          | none =>
            rw [dropC_out z] at e
            have := st.dom a e
            rwa [addC_out z] at this
          | some o => exact hT1 a o z
        · have z := out a (t.resn ha)
          rw [dropC_out z] at e
          exact t3.resn ha e
        · cases z : tabH s.heap cl c with
          | none => rw [dropC_out z]; exact e
          | some o =>
            have h1 := w1 c o z
            rw [e] at h1
            have h2 : (fun h : Heap => ∃ (oc : Obj) (vs : Array Value) (t : Tok), h.get? c = some oc ∧ oc.data = .fields vs ∧ vs[1]? = some (.str q t)) = fun h => h.get? c = some o := by
              have h3 : LamX.CodeO c q = CellO c o := Option.some.inj h1
              unfold LamX.CodeO CellO at h3
              injection h3
            have h4 := congrFun h2 s.heap
            obtain ⟨oc, vs', tk, h5, h6, _⟩ := h4.mpr (hT c o z).2
            rw [(hT c o z).2] at h5
            cases h5
            obtain ⟨v', h7⟩ := isCell c o z
            rw [h6] at h7; cases h7
        · rcases rq.two (by simpa using nq) with h | h
          · exact .inl (h.agree ga)
          · exact .inr (.inl h)
  have hl : us.length = pn.length := by
    rw [← r.length]
    exact F.len _ _ _ E0 ⟨μ, ps ++ [.clo cid cps], S, reps, t.agree ag rs codes, fits⟩
  have run := F.run X.A X.stack s (addC H (tabH s.heap cl)) ⟨us, []⟩ us (vs ++ [.ref f]) _ E0 hr env' (by have := hb s us I.kIn (by rw [List.append_nil]; exact hl); rwa [List.append_nil] at this) r ⟨μ, ps ++ [.clo cid cps], S, reps, t.agree ag rs codes, fits⟩
  refine wpAny_call (codeAny_mono (code_less hT run) fun res s' hq => ?_)
  cases res with
  | error e => exact (show False from hq).elim
  | ok fl =>
    cases fl with
    | ret u => exact I.after hq
    | next => exact (show False from hq).elim
    | brk => exact (show False from hq).elim
    | cont => exact (show False from hq).elim
end
end Py
set_option Elab.async false
set_option maxRecDepth 100000
set_option maxHeartbeats 4000000
set_option linter.all false
namespace Py
open PySem PySem.Spec PyProof.Rows L2
variable [CT]

theorem FitsG.pre {K : PySem.W.Frag} {H H1 : Hp} {μ μ1 : Mem} {α : Type} {r : R α} {k : α → List PV → Hp → Mem → Prop} (st : Step H μ H1 μ1) (h : FitsG K H μ r k) : FitsG K H1 μ1 r k := by
  cases r with
  | ok a S => exact fun H' μ' s t => h H' μ' (st.trans s) t
  | er => exact h
  | no => exact h
/-- what a call that hands the closure on makes of its arguments -/
def hofK (m : Fn) (cid : Nat) (cps ps : List PV) (S : Sto) : R PV := (m (ps ++ [.clo cid cps]) S).bind fun p S2 => if p.isClo = true then .no else .ok p S2
def tHof (K : PySem.W.Frag) (fa : Ea) (js : List Nat) (cid : Nat) (cl : List (Str × Addr)) (m : Fn) : TE := fun σ H Q => ∃ f c' qual μ ρ S cps, capsOf ρ js = some cps ∧ H f = some (NdefX.FnO f (NdefX.NF.of (CT.code cid).st (CT.code cid).name qual cl c')) ∧ f ∉ μ ∧ H c' = some (LamX.CodeO c' qual) ∧ c' ∉ μ ∧
  ERel K H μ σ ρ ∧ Rel K H μ S ∧ FitsG K H μ (fa ρ S) (fun psf S1 H1 μ1 => ∃ ps, psf = ps ++ [.adr f] ∧ FitsC K H1 μ1 (hofK m cid cps ps S1) Q)
theorem reps_last {K : PySem.W.Frag} {H : Hp} {μ : Mem} {f : Addr} : ∀ {ps : List PV} {vs : List V}, Reps K H μ vs (ps ++ [.adr f]) → ∃ vs0, vs = vs0 ++ [.ref f] ∧ Reps K H μ vs0 ps
  | [], _, h => by
    obtain _ | ⟨h1, h2⟩ := h
    cases h2
    refine ⟨[], ?_, .nil⟩
    rcases h1 with z | ⟨_, _, z, _⟩ | ⟨_, _, _, _, _, z, _⟩
    · cases z; rfl
    · cases z
    · cases z
  | p :: ps, _, h => by
    obtain _ | ⟨h1, h2⟩ := h
    obtain ⟨vs0, e, r⟩ := reps_last h2
    subst e
    exact ⟨_ :: vs0, rfl, .cons h1 r⟩
section
variable {X : Cx} {k j cid : Nat} {pn : List Str} {m : Fn} {x : Str} {p pos : Pos} {e : Expr} {es : List Expr} {fa : Ea} {cl : List (Str × Addr)} {js : List Nat}
theorem pe_hof (C : Cal X.prog X.w X.K X.mg X.base k x pn (spM X.K m)) (hr : Room j X.A) (hk : k ≤ j) (hg : Gl X x) (ha : EA X (e :: es) fa) (cp : X.Ok → NdefX.Caps X cl (CT.code cid).fr js) (hfn : ∀ y, X.fn y = true) (hdb : (x == ("__debug__" : Str)) = false := by decide)
    (he : starEach (e :: es) X.env = (false, eval e X.env) :: starEach es X.env := by rfl) (hpl : (backTo pos (starEach es X.env)).any (·.1) = false := by rfl) : PE X (.Call (.Name x p) (e :: es) [] pos) (tHof X.K fa js cid cl m) := by
  refine ⟨fun pins s σ H Q I h => ?_⟩
  obtain ⟨f, c', qual, μ, ρ, S, cps, hcap, hf, nf, hc, nc, hE, hR, hF⟩ := h
  obtain ⟨g, fd, h1, h2, h3, _, F⟩ := C.ex
  have args : tEa X.K fa σ H fun vs H2 => ∃ μ2 S2 ps vs0 cvs, vs = vs0 ++ [.ref f] ∧ Reps X.K H2 μ2 vs0 ps ∧ Rel X.K H2 μ2 S2 ∧ H2 f = some (NdefX.FnO f (NdefX.NF.of (CT.code cid).st (CT.code cid).name qual cl c')) ∧ f ∉ μ2 ∧ H2 c' = some (LamX.CodeO c' qual) ∧ c' ∉ μ2 ∧
      js.map (NdefX.slotAt σ) = cvs.map some ∧ Paired (Rep0 X.K H2 μ2) cvs cps ∧ FitsC X.K H2 μ2 (hofK m cid cps ps S2) Q :=
    ⟨μ, ρ, S, hE, hR, hF.imp fun psf S2 H2 μ2 st t2 ⟨ps, e, h2⟩ vs rvs => by
      subst e
      obtain ⟨vs0, e, r0⟩ := reps_last rvs
      obtain ⟨cvs, g1, g2⟩ := caps_rep (hE.step st) hcap
      obtain ⟨f1, f2⟩ := st.far f _ hf nf inferInstance
      obtain ⟨d1, d2⟩ := st.far c' _ hc nc inferInstance
      exact ⟨μ2, S2, ps, vs0, cvs, e, r0, t2, f1, f2, d1, d2, g1, g2, h2⟩⟩
  refine wpAny_Call_Name_kw (ld_glob I hg h1 ?_ hdb)
  refine PySem.W.callWith_K (h₀ := X.base) I.ok.mod.kin h2 (thn (ha.run pos pins s σ H _ I args) fun us s1 ⟨vs, H2, I2, r, μ2, S2, ps, vs0, cvs, e, r0, t2, f1, f2, d1, d2, g1, g2, hF2⟩ => ⟨I2.kIn, ?_⟩) he hpl
  subst e
  exact run_hof F (hr.mono hk) h3 I2 (cp I2.ok) hfn f1 f2 d1 d2 g1 g2 r r0 t2 hF2
end
theorem capsOf_set {i : Nat} {o : Option PV} : ∀ {js : List Nat} {ρ : Env}, i ∉ js → capsOf (ρ.set i o) js = capsOf ρ js
  | [], _, _ => rfl
  | j :: js, ρ, h => by
    have h1 : i ≠ j := fun z => h (by rw [z]; exact List.mem_cons_self ..)
    rw [capsOf, capsOf, List.getElem?_set_ne h1, capsOf_set fun z => h (List.mem_cons_of_mem _ z)]
/-- what stands behind «def inner» -/
structure Made (K : PySem.W.Frag) (H : Hp) (μ : Mem) (σ : L2.St) (ρ : Env) (S : Sto) (i cid : Nat) (qual : Str) (cl : List (Str × Addr)) (f c' : Addr) (H1 : Hp) : Prop where
  stp : Step H μ H1 μ
  rel : Rel K H1 μ S
  env : ERel K H1 μ (σ.set i (some (.ref f))) (ρ.set i (some (.adr f)))
  fn : H1 f = some (NdefX.FnO f (NdefX.NF.of (CT.code cid).st (CT.code cid).name qual cl c'))
  nf : f ∉ μ
  code : H1 c' = some (LamX.CodeO c' qual)
  nc : c' ∉ μ
theorem made {K : PySem.W.Frag} {H H1 : Hp} {μ : Mem} {σ : L2.St} {ρ : Env} {S : Sto} {i cid : Nat} {qual : Str} {cl : List (Str × Addr)} {f c' : Addr} (hE : ERel K H μ σ ρ) (hR : Rel K H μ S) (eN : LamX.ExtN H H1) (nn : ∀ b, H1 b = none → H b = none) (T1 : NdefX.TabsN CT.tb H1) (f0 : H f = none)
    (f1 : H1 f = some (NdefX.FnO f (NdefX.NF.of (CT.code cid).st (CT.code cid).name qual cl c'))) (c1 : H1 c' = some (LamX.CodeO c' qual)) : Made K H μ σ ρ S i cid qual cl f c' H1 := by
  have lst : ∀ a xs, H a = some (.lst xs) → H1 a = H a := fun a xs e => by rw [e]; exact eN a _ e (fun ps z => by cases z)
  have stp : Step H μ H1 μ := ⟨fun a o e _ nt => eN a o e nt.nt, nn, [], by simp [Mem.grow], by simp⟩
  have same : ∀ (n : Nat) (a : Addr) (o : PV), ObjR K H μ a o → H1 a = H a ∧ ∀ q, H a ≠ some (LamX.CodeO a q) := fun n a o ob => by
    revert ob
    cases o <;> intro ob <;> first | exact ob.elim | skip
    · obtain ⟨vs, g, _⟩ := ob
      exact ⟨by rw [g]; exact eN a _ g (fun ps z => by cases z), fun q z => by rw [g] at z; unfold LamX.CodeO at z; cases z⟩
    · obtain ⟨vs, g, _⟩ := ob
      exact ⟨by rw [g]; exact eN a _ g (fun ps z => by cases z), fun q z => by rw [g] at z; unfold LamX.CodeO at z; cases z⟩
  refine ⟨stp, ⟨hR.len, hR.nd, fun n a ob e1 e2 => (hR.obj n a ob e1 e2).step stp (same n a ob (hR.obj n a ob e1 e2)).1, fun a q => ⟨(hR.res a q).1, (hR.res a q).2.imp fun l e => (lst a l e).trans e⟩, T1⟩, (hE.step stp).set i (show ORep K H1 μ (some (.ref f)) (some (.adr f)) from .inl (.adr f)), f1, hR.out f0, c1, fun q => ?_⟩
  rcases q with q | q
  · obtain ⟨n, hn, e⟩ := List.mem_iff_getElem.mp q
    have hS : n < S.length := by rw [← hR.len]; exact hn
    have ob := hR.obj n c' S[n] (by rw [List.getElem?_eq_getElem hn, e]) (List.getElem?_eq_getElem hS)
    obtain ⟨z1, z2⟩ := same n c' _ ob
    exact z2 _ (z1.symm.trans c1)
  · obtain ⟨_, l, e⟩ := hR.res c' q
    have := (lst c' l e).trans e
    rw [c1] at this
    unfold LamX.CodeO at this
    cases this

/-! ### «def inner(..): ..; return g(.., inner)» -/
def sHof (i : Nat) (js : List Nat) (cid : Nat) (m : Fn) (a : Ea) : Es := fun ρ S =>
  if i < ρ.length ∧ i ∉ js then match capsOf ρ js with
    | some cps => (a ρ S).bind fun ps S1 => (hofK m cid cps ps S1).bind fun p S2 => .ok (.rt p) S2
    | none => .no
  else .no
section
variable {X : Cx} {k j cid i : Nat} {pn : List Str} {m : Fn} {a fa : Ea} {cl : List (Str × Addr)} {js : List Nat} {st : Stmt} {call : Expr} {rpos : Pos} {qual : Str}
theorem ess_hof (h1 : PS X st (NdefX.tNdefM CT.tb i (NdefX.NF.of (CT.code cid).st (CT.code cid).name qual cl))) (h2 : PE X call (tHof X.K fa js cid cl m))
    (hInd : ∀ (ρ : Env) (S : Sto) (f : Addr), i < ρ.length → fa (ρ.set i (some (.adr f))) S = (a ρ S).bind fun ps S1 => .ok (ps ++ [.adr f]) S1) : ESs X [st, .Return (some call) rpos] (sHof i js cid m a) :=
  pss_mono (pss_cons h1 (pss_one (ps_ret h2))) fun D σ H ⟨μ, ρ, S, hE, hR, hF⟩ => by
    unfold sHof at hF
    split at hF
    · rename_i hc
      split at hF
      · rename_i cps hcap
        refine ⟨hR.tab, fun f c' H1 eN nn T1 f0 f1 c1 => ?_⟩
        have M := made (σ := σ) (i := i) hE hR eN nn T1 f0 f1 c1
        refine ⟨f, c', qual, μ, ρ.set i (some (.adr f)), S, cps, by rw [capsOf_set hc.2]; exact hcap, M.fn, M.nf, M.code, M.nc, M.env, M.rel, ?_⟩
        rw [hInd ρ S f hc.1]
        have hF := FitsG.pre M.stp hF
        revert hF
        cases a ρ S with
        | er => exact fun z => z
        | no => exact fun z => z
        | ok ps S1 =>
          intro hF H2 μ2 s2 t2
          have hF : FitsG X.K H1 μ ((hofK m cid cps ps S1).bind fun p S2 => .ok (.rt p) S2) (FinD X.K D) := hF
          refine ⟨ps, rfl, ?_⟩
          revert hF
          cases hofK m cid cps ps S1 with
          | er => exact fun z => z
          | no => exact fun z => z
          | ok p S3 => exact fun hF H' s3 t3 v rv => hF H' μ2 (s2.trans s3) t3 v rv
      · exact hF.elim
    · exact hF.elim
end
end Py
set_option Elab.async false
set_option maxRecDepth 100000
set_option maxHeartbeats 4000000
set_option linter.all false
namespace Py
open PySem PySem.Spec PyProof.Rows L2
variable [CT]

/-! ### a def that makes closures: its code object is told -/
section
variable {P : Program} {w : World} {K : PySem.W.Frag} {mg : Str → Option Value} {base : Heap} {x qual : Str} {params : Arguments} {body : List Stmt} {scope : Scope} {f : Addr} {fd : FuncData} {N pn : List Str} {k : Nat} {g : Es} {p : Str × Option Str}
theorem FunD.okT {sp : Sp} (F : FunD K x qual params body scope [] [] f fd) (hf : He.fAd K p = f) (S : FnScope N pn scope) (len : ∀ vs H Q E, sp vs H Q E → vs.length = pn.length)
    (hbody : ∀ (A : Around) (outer : List PySem.Env) (s : Shared) (H : Hp) (vs : List V) (Q : VK) (E : XK), Room k (A.deeper (envOfC qual scope s.heap.objs.size f (.ref (He.codeOf K p)))) → sp vs H Q E →
      ∃ t, PSs (cxOf CX0 P w K mg base N qual scope f (.ref (He.codeOf K p)) A outer s H E) body t ∧ t { nx := fun _ H' => Q .non H', rt := Q } (start N vs) H) : FnOk P w K mg base CX0 (k + 1) f fd pn sp := by
  obtain ⟨oc, od, dV, kV, doc, pm, an, cdv, ct, osl, rfl, lk, hcd, _, _⟩ := F.ex
  obtain ⟨c, rfl⟩ := He.codeIn_ref hcd
  have e : He.codeOf K p = c := He.codeOf_eq (by rw [hf]; exact lk) rfl
  rw [e] at hbody
  exact fn_of lk hcd S len fun A outer s H vs Q E hr hsp => hbody A outer s H vs Q E hr hsp
theorem fn_defT (F : FunD K x qual params body scope [] [] f fd) (hf : He.fAd K p = f) (S : FnScope N pn scope)
    (hbody : ∀ (A : Around) (outer : List PySem.Env) (s : Shared) (H : Hp) (E : XK), Room k (A.deeper (envOfC qual scope s.heap.objs.size f (.ref (He.codeOf K p)))) → ESs (cxOf CX0 P w K mg base N qual scope f (.ref (He.codeOf K p)) A outer s H E).nox body g) :
    FnOk P w K mg base CX0 (k + 1) f fd pn (spM K (mkDef pn.length N.length g)) := by
  refine FunD.okT F hf S (fun vs H Q E ⟨μ, ps, S, rv, t, hF⟩ => ?_) (fun A outer s H vs Q E hr ⟨μ, ps, S, rv, t, hF⟩ => ⟨_, (hbody A outer s H E hr).nox, ?_⟩)
  · unfold mkDef at hF
    split at hF
    · rename_i h
      rw [Paired.length rv]; exact h
    · exact hF.elim
  · unfold mkDef at hF
    split at hF
    · refine ⟨μ, startP N.length ps, S, ERel.start rv N, t, ?_⟩
      revert hF
      cases g (startP N.length ps) S with
      | er => exact fun z => z
      | no => exact fun z => z
      | ok fl S1 =>
        intro hF H' μ' s1 t1
        have hF : FitsC K H μ (finF S.length fl S1) Q := hF
        cases fl with
        | rt p => exact fun v r => finV_ok t s1 t1 r hF
        | nx ρ => exact fun σ _ => finV_ok t s1 t1 (.inl .non) hF
        | bk ρ => exact hF.elim
        | ct ρ => exact hF.elim
    · exact hF.elim
end
/-- what is told of such a def -/
structure Own (K : PySem.W.Frag) (mg : Str → Option Value) (base : Heap) (x : Str) (nm : Nat → Nat → Str) : Prop where
  tb : LamX.TabB base mg (He.codeOf K (x, none)) (He.cT K (x, none)).2
  mem : ((He.cT K (x, none)).2, nm) ∈ CT.tb
  uni : ∀ p ∈ CT.tb, p.1 = (He.cT K (x, none)).2 → p.2 = nm

/-! ### arguments that do not look at the slot -/
def IndV (i : Nat) (f : Ev) : Prop := ∀ (ρ : Env) (S : Sto) (a : Addr), f (ρ.set i (some (.adr a))) S = f ρ S
def IndA (i : Nat) (fa a : Ea) : Prop := ∀ (ρ : Env) (S : Sto) (f : Addr), i < ρ.length → fa (ρ.set i (some (.adr f))) S = (a ρ S).bind fun ps S1 => .ok (ps ++ [.adr f]) S1
def IndS (i : Nat) (g : Es) : Prop := ∀ (ρ : Env) (S : Sto) (a : Addr), g (ρ.set i (some (.adr a))) S = g ρ S
def IndL (i : Nat) (f : Ea) : Prop := ∀ (ρ : Env) (S : Sto) (a : Addr), f (ρ.set i (some (.adr a))) S = f ρ S
theorem ind_var {i j : Nat} (h : i ≠ j) : IndV i (eVar j) := fun ρ S a => by
  unfold eVar
  rw [List.getElem?_set_ne h]
theorem ind_c {i : Nat} {p : PV} : IndV i (eC p) := fun _ _ _ => rfl
theorem ind_last {i : Nat} : IndA i (aCons (eVar i) aNil) aNil := fun ρ S f h => by
  unfold aCons eVar
  rw [List.getElem?_set_self h]
  rfl
theorem ind_cons {i : Nat} {e : Ev} {fa a : Ea} (h : IndV i e) (g : IndA i fa a) : IndA i (aCons e fa) (aCons e a) := fun ρ S f hi => by
  unfold aCons
  rw [h ρ S f]
  cases e ρ S with
  | er => rfl
  | no => rfl
  | ok p S1 =>
    show (fa (ρ.set i (some (.adr f))) S1).bind _ = ((a ρ S1).bind _).bind _
    rw [g ρ S1 f hi]
    cases a ρ S1 with
    | er => rfl
    | no => rfl
    | ok ps S2 => rfl
theorem indL_nil {i : Nat} : IndL i aNil := fun _ _ _ => rfl
theorem indL_cons {i : Nat} {e : Ev} {a : Ea} (h : IndV i e) (g : IndL i a) : IndL i (aCons e a) := fun ρ S f => by
  unfold aCons
  rw [h ρ S f]
  congr 1
  funext x S1
  rw [g ρ S1 f]
theorem ind_args {i : Nat} {m : Fn} {a : Ea} (h : IndL i a) : IndV i (eArgs m a) := fun ρ S f => by
  unfold eArgs
  rw [h ρ S f]
theorem ind_ret {i : Nat} {e : Ev} (h : IndV i e) : IndS i (sRet e) := fun ρ S f => by
  unfold sRet
  rw [h ρ S f]

/-! ### the two forms -/
section
variable {X : Cx} {k j cid i : Nat} {pn : List Str} {m : Fn} {a fa : Ea} {js : List Nat} {st : Stmt} {rpos pos p cpos : Pos} {name ow x : Str} {fr : List Str} {nm : Nat → Nat → Str} {e : Expr} {es : List Expr}
theorem ps_inner (hc : CT.code cid = ⟨st, name, fr⟩) (O : Own X.K X.mg X.base ow nm) (hcode : X.env.code = .ref (He.codeOf X.K (ow, none))) (hst : st = .FunctionDef name (C8.fnArgs st) (C8.fnBody st) [] none [] (C8.fnScope st) none name pos)
    (hn : nm pos.line pos.col = X.env.qual ++ name) (hB : NdefX.ndefB X.env.scope (C8.fnScope st) fr = true) (hd0 : (C8.fnArgs st).defaults = []) (hk0 : (C8.fnArgs st).kw_defaults = []) (han : annTrees (C8.fnArgs st) none X.env = [])
    (hN : X.N.Nodup) (hi : X.N[i]? = some name) (hx : Loc X.env.scope name) (hf : X.fn name = true ∨ X.env.scope.names.lookup name = some .local) :
    PS X st (NdefX.tNdefM CT.tb i (NdefX.NF.of (CT.code cid).st (CT.code cid).name (X.env.qual ++ name) (cloFrom X.env.cells (C8.fnScope st).names []))) := by
  have h := NdefX.ps_ndefMS (X := X) (T := CT.tb) (i := i) hst O.tb hcode O.mem hn O.uni (NdefX.ndef_free hB) hd0 hk0 han hN hi hx hf
  rw [hc]
  exact h
theorem pe_hand (hc : CT.code cid = ⟨st, name, fr⟩) (hB : NdefX.ndefB X.env.scope (C8.fnScope st) fr = true) (hjs : js.map (fun j => X.N[j]?) = fr.map some) (hfn : ∀ y, X.fn y = true)
    (C : Cal X.prog X.w X.K X.mg X.base k x pn (spM X.K m)) (hr : Room j X.A) (hk : k ≤ j) (hg : Gl X x) (ha : EA X (e :: es) fa) (hdb : (x == ("__debug__" : Str)) = false := by decide)
    (he : starEach (e :: es) X.env = (false, eval e X.env) :: starEach es X.env := by rfl) (hpl : (backTo cpos (starEach es X.env)).any (·.1) = false := by rfl) :
    PE X (.Call (.Name x p) (e :: es) [] cpos) (tHof X.K fa js cid (cloFrom X.env.cells (C8.fnScope st).names []) m) :=
  pe_hof C hr hk hg ha (fun ok => by rw [hc]; exact NdefX.Caps.made ok (NdefX.ndef_free hB) (NdefX.ndef_fr hB) hjs) hfn hdb he hpl
/-- «def inner; t = g(.., inner); rest» -/
def sHof2 (i : Nat) (js : List Nat) (cid : Nat) (m : Fn) (a : Ea) (n : Eg) (gb : Es) : Es := fun ρ S =>
  if i < ρ.length ∧ i ∉ js then match capsOf ρ js with
    | some cps => (a ρ S).bind fun ps S1 => (hofK m cid cps ps S1).bind fun p S2 => (n p ρ S2).bind fun ρ1 S3 => gb ρ1 S3
    | none => .no
  else .no
def IndT (i : Nat) (n : Eg) : Prop := ∀ (p : PV) (ρ : Env) (S : Sto) (f : Addr), n p (ρ.set i (some (.adr f))) S = (n p ρ S).bind fun ρ1 S1 => .ok (ρ1.set i (some (.adr f))) S1
def IndTs (i : Nat) (n : Egs) : Prop := ∀ (ps : List PV) (ρ : Env) (S : Sto) (f : Addr), n ps (ρ.set i (some (.adr f))) S = (n ps ρ S).bind fun ρ1 S1 => .ok (ρ1.set i (some (.adr f))) S1
theorem indT_name {i j : Nat} (h : i ≠ j) : IndT i (nName j) := fun p ρ S f => by
  unfold nName
  rw [List.set_comm _ _ h]
  rfl
theorem indT_nil {i : Nat} : IndTs i nNil := fun ps ρ S f => by
  unfold nNil
  split <;> rfl
theorem indT_cons {i : Nat} {n : Eg} {r : Egs} (h : IndT i n) (g : IndTs i r) : IndTs i (nCons n r) := fun ps ρ S f => by
  unfold nCons
  split
  · rename_i p ps
    rw [h p ρ S f]
    cases n p ρ S with
    | er => rfl
    | no => rfl
    | ok ρ1 S1 => exact g ps ρ1 S1 f
  · rfl
theorem indT_tup {i k : Nat} {r : Egs} (g : IndTs i r) : IndT i (nTup k r) := fun p ρ S f => by
  unfold nTup
  split
  · split
    · exact g _ ρ S f
    · rfl
  · rfl
theorem ess_hof2 {n : Eg} {gb : Es} {rest : List Stmt} {st st2 : Stmt} {cl : List (Str × Addr)} {qual : Str} (h1 : PS X st (NdefX.tNdefM CT.tb i (NdefX.NF.of (CT.code cid).st (CT.code cid).name qual cl)))
    (h2 : PS X st2 (tAsg (tHof X.K fa js cid cl m) (tEg X.K n))) (h3 : ESs X rest gb) (hInd : IndA i fa a) (hT : IndT i n) (hG : IndS i gb) : ESs X (st :: st2 :: rest) (sHof2 i js cid m a n gb) :=
  pss_mono (pss_cons h1 (pss_cons h2 h3)) fun D σ H ⟨μ, ρ, S, hE, hR, hF⟩ => by
    unfold sHof2 at hF
    split at hF
    · rename_i hc
      split at hF
      · rename_i cps hcap
        refine ⟨hR.tab, fun f c' H1 eN nn T1 f0 f1 c1 => ?_⟩
        have M := made (σ := σ) (i := i) hE hR eN nn T1 f0 f1 c1
        refine ⟨f, c', qual, μ, ρ.set i (some (.adr f)), S, cps, by rw [capsOf_set hc.2]; exact hcap, M.fn, M.nf, M.code, M.nc, M.env, M.rel, ?_⟩
        rw [hInd ρ S f hc.1]
        have hF := FitsG.pre M.stp hF
        have hEM := M.env
        revert hF
        cases a ρ S with
        | er => exact fun z => z
        | no => exact fun z => z
        | ok ps S1 =>
          intro hF H2 μ2 s2 t2
          have hF : FitsG X.K H1 μ ((hofK m cid cps ps S1).bind fun p S2 => (n p ρ S2).bind fun ρ1 S3 => gb ρ1 S3) (FinD X.K D) := hF
          refine ⟨ps, rfl, ?_⟩
          revert hF
          cases hofK m cid cps ps S1 with
          | er => exact fun z => z
          | no => exact fun z => z
          | ok p S3 =>
            intro hF H' s3 t3 v rv
            have hF : FitsG X.K H1 μ ((n p ρ S3).bind fun ρ1 S3 => gb ρ1 S3) (FinD X.K D) := hF
            have hF := FitsG.pre (s2.trans s3) hF
            refine ⟨p, μ2, ρ.set i (some (.adr f)), S3, rv, hEM.step (s2.trans s3), t3, ?_⟩
            rw [hT p ρ S3 f]
            revert hF
            cases n p ρ S3 with
            | er => exact fun z => z
            | no => exact fun z => z
            | ok ρ1 S4 =>
              intro hF H4 μ4 s4 t4 σ' e4
              refine ⟨μ4, _, S4, e4, t4, ?_⟩
              rw [hG ρ1 S4 f]
              exact FitsG.pre s4 hF
      · exact hF.elim
    · exact hF.elim
end

/-! ### tables of closures' bodies -/
def cloNo : List PV → Fn := fun _ _ _ => .no
def clo1 (c : Nat) (m : List PV → Fn) : Nat → List PV → Fn := fun i => if i = c then m else cloNo
section
variable {P : Program} {w : World} {K : PySem.W.Frag} {mg : Str → Option Value} {base : Heap} {k : Nat}
theorem clo_no {i : Nat} : CloOk P w K mg base k i cloNo := ⟨[], fun f F hF => ⟨fun ws vs H Q E ⟨_, _, _, _, _, _, _, h⟩ => h.elim, fun A outer s H us vs ws Q E _ _ _ _ _ _ ⟨_, _, _, _, _, _, _, h⟩ => h.elim⟩⟩
theorem clo_1 {c : Nat} {m : List PV → Fn} (h : CloOk P w K mg base k c m) : ∀ i, CloOk P w K mg base k i (clo1 c m i) := fun i => by
  unfold clo1
  split
  · rename_i e
    rw [e]; exact h
  · exact clo_no
theorem CloOk.mono {j i : Nat} {m : List PV → Fn} (h : CloOk P w K mg base j i m) (hk : j ≤ k) : CloOk P w K mg base k i m := by
  obtain ⟨ps, h⟩ := h
  exact ⟨ps, fun f F e => (h f F e).mono hk⟩
end
end Py
namespace Py
open PySem PySem.Spec PyProof.Rows L2
variable [CT]
section
variable {P : Program} {w : World} {K : PySem.W.Frag} {mg : Str → Option Value} {base : Heap} {i k : Nat} {N pn fr : List Str} {g : Es} {st : Stmt} {name : Str}
theorem clo_defC (hc : CT.code i = ⟨st, name, fr⟩) (S : NdO.OScope N pn fr (C8.fnScope st))
    (hb : ∀ (qual : Str) (cl : List (Str × Addr)) (c : Addr) (doc pm ctv : Value) (us : List Value), us.length = pn.length → bindArgs ((NdefX.NF.of st name qual cl c).fd doc pm ctv) ⟨us, []⟩ = pure (pn.zip us))
    (hbody : ∀ (qual : Str) (cl : List (Str × Addr)) (c f : Addr) (A : Around) (outer : List PySem.Env) (s : Shared) (H : Hp) (E : XK), Room k (A.deeper (NdO.envG (NdefX.NF.of st name qual cl c) f s.heap.objs.size)) → ESs (NdO.ncxG CX0 P w K mg base N (NdefX.NF.of st name qual cl c) f A outer s H E).nox (C8.fnBody st) g) :
    CloOk P w K mg base (k + 1) i (mkClo pn.length N.length g) := by
  have e1 : (CT.code i).st = st := by rw [hc]
  have e2 : (CT.code i).name = name := by rw [hc]
  have e3 : (CT.code i).fr = fr := by rw [hc]
  refine clo_def (i := i) ?_ ?_ ?_
  · rw [e1, e3]; exact S
  · rw [e1, e2]; exact hb
  · rw [e1, e2]; exact hbody
end
end Py
namespace Py
open PySem PySem.Spec PyProof.Rows L2
abbrev OwnL := List (He.Defn × (Nat → Nat → Str))
def tabsOf (K : PySem.W.Frag) (own : OwnL) : List NdefX.NTab := own.map fun z => ((He.cT K z.1).2, z.2)
def ndOwn (K : PySem.W.Frag) (own : OwnL) : Bool := decide ((own.map fun z => (He.cT K z.1).2).Nodup)
theorem uni_own {α β : Type} {f : α → Addr} : ∀ {own : List (α × β)}, (own.map fun z => f z.1).Nodup → ∀ {z : α × β}, z ∈ own → ∀ p ∈ own.map (fun z => (f z.1, z.2)), p.1 = f z.1 → p.2 = z.2
  | [], _, _, hz, _, _, _ => by cases hz
  | y :: r, nd, z, hz, p, hp, e => by
    rw [List.map_cons, List.nodup_cons] at nd
    rcases List.mem_cons.mp hz with h1 | h1
    · subst h1
      rcases List.mem_cons.mp hp with h2 | h2
      · rw [h2]
      · obtain ⟨z', hz', rfl⟩ := List.mem_map.mp h2
        exact absurd (List.mem_map.mpr ⟨z', hz', e⟩) nd.1
    · rcases List.mem_cons.mp hp with h2 | h2
      · subst h2
        exact absurd (List.mem_map.mpr ⟨z, h1, e.symm⟩) nd.1
      · exact uni_own nd.2 h1 p h2 e
theorem own_of [CT] {K : PySem.W.Frag} {mg : Str → Option Value} {base : Heap} {own : OwnL} (hCT : CT.tb = tabsOf K own) (nd : ndOwn K own = true) {x : Str} {nm : Nat → Nat → Str} (hz : ((x, none), nm) ∈ own) (tb : LamX.TabB base mg (He.cT K (x, none)).1 (He.cT K (x, none)).2) : Own K mg base x nm :=
  ⟨tb, by rw [hCT]; exact List.mem_map.mpr ⟨_, hz, rfl⟩, by rw [hCT]; exact uni_own (f := fun d => (He.cT K d).2) (of_decide_eq_true nd) hz⟩
theorem tabs_nil {K : PySem.W.Frag} {own : OwnL} {H : Hp} (h : ∀ p ∈ (own.map (·.1)).map (He.cT K), H p.2 = some (.tbl #[])) : NdefX.TabsN (tabsOf K own) H := fun p hp => by
  obtain ⟨z, hz, rfl⟩ := List.mem_map.mp hp
  exact NdefX.TabN.nil (h (He.cT K z.1) (List.mem_map.mpr ⟨z.1, List.mem_map.mpr ⟨z, hz, rfl⟩, rfl⟩))
/-- the script as the law is handed it -/
def Scr (ns : List Int) (sc : PV) : Prop := sc = .frl (ns.map PV.int) ∨ sc = .lst (ns.map PV.int)
theorem ints_rep [CT] {K : PySem.W.Frag} {H : Hp} {μ : Mem} : ∀ l : List Int, RepPs K H μ (l.map V.int) (l.map PV.int)
  | [] => .nil
  | i :: l => .cons (.int i) (ints_rep l)
theorem law_start [CT] {K : PySem.W.Frag} {m : Fn} {ns : List Int} (math : ∀ sc, Scr ns sc → ∃ S', m [sc] [] = .ok (.bl true) S') {H : Hp} {a : Addr} (hT : NdefX.TabsN CT.tb H) (hS : SqL K H a (ns.map V.int)) : spM K m [.ref a] H (fun v _ => v = .bl true) fun _ _ _ => False := by
  have fin : ∀ sc, Scr ns sc → RepP K H ⟨[], []⟩ (.ref a) sc → spM K m [.ref a] H (fun v _ => v = .bl true) fun _ _ _ => False := fun sc hs r => by
    obtain ⟨S', e⟩ := math sc hs
    refine ⟨⟨[], []⟩, [sc], [], .cons (.inl r) .nil, ⟨rfl, .nil, fun n a o h => by simp at h, fun a h => (by cases h), hT⟩, ?_⟩
    rw [e]
    intro H' _ _ v rv
    exact rep_bl rv
  have no : a ∉ (⟨[], []⟩ : Mem) := fun q => by rcases q with q | q <;> cases q
  rcases hS with (h | ⟨o, h⟩) | h
  · exact fin _ (.inr rfl) (.lst h no (ints_rep ns))
  · exact fin _ (.inl rfl) (.frl (.inl ⟨⟨o, h⟩, no⟩) (ints_rep ns))
  · exact fin _ (.inl rfl) (.frl (.inr h) (ints_rep ns))
end Py
set_option Elab.async false
set_option maxRecDepth 100000
set_option maxHeartbeats 4000000
set_option linter.all false
namespace G04
open PySem PySem.Spec PyProof.Rows L2 Py
def top (i : Nat) : Stmt := PySem.Challenge.pw_formstead_k04_led_by_own_walk_twice_is_o.main.body.getD i (.Pass ⟨0, 0, 0, 0⟩)
def c_LEAF_WORDS : List PV := [(.str "number"), (.str "name"), (.str "at"), (.str "hole")]
def c_RESERVED : List PV := [(.str "number"), (.str "name"), (.str "at"), (.str "hole"), (.str "boxes"), (.str "form")]
def d_CORE_WORDS : List (Str × List Int) := [("fn", [1]), ("again", [2]), ("call", [0, 0]), ("pair", [0, 0]), ("plus", [0, 0]), ("minus", [0, 0]), ("times", [0, 0]), ("put", [0, 0]), ("first", [0]), ("second", [0]), ("box", [0]), ("look", [0]), ("say", [0]), ("test", [0, 0, 0])]
def ks_CORE_WORDS : List Str := ["fn", "again", "call", "pair", "plus", "minus", "times", "put", "first", "second", "box", "look", "say", "test"]
def nm_led_pattern : Nat → Nat → Str := fun _ _ => "led_pattern.<locals>.lead"
abbrev s__law_draw : Stmt := top 60
abbrev s__law_names : Stmt := top 63
abbrev s__law_pick : Stmt := top 61
abbrev s__law_word : Stmt := top 69
abbrev s__law_leaves : Stmt := top 71
abbrev s__law_told : Stmt := top 72
abbrev s__law_replaced : Stmt := top 67
abbrev s__law_length : Stmt := top 64
abbrev s__law_number : Stmt := top 68
abbrev s__law_tree : Stmt := top 70
abbrev s__law_form : Stmt := top 73
abbrev s__law_book : Stmt := top 74
abbrev s__law_holed : Stmt := top 75
abbrev s__law_way : Stmt := top 65
abbrev s__law_led : Stmt := top 66
abbrev s__law_same : Stmt := top 62
abbrev s__law_ways : Stmt := top 76
abbrev s_core_words : Stmt := top 19
abbrev s_is_tuple_up_to : Stmt := top 13
abbrev s_is_leaf : Stmt := top 26
abbrev s_is_whole : Stmt := top 10
abbrev s_is_count : Stmt := top 12
abbrev s_is_whole_within : Stmt := top 11
abbrev s_is_hole_well_made : Stmt := top 28
abbrev s_is_leaf_well_made : Stmt := top 27
abbrev s_own_length : Stmt := top 29
abbrev s_fits : Stmt := top 30
abbrev s_part_rows : Stmt := top 32
abbrev s_nodes : Stmt := top 31
abbrev s_are_holes_of : Stmt := top 51
abbrev s_is_length_of_template : Stmt := top 50
abbrev s_length_in : Stmt := top 33
abbrev s_is_told_inside : Stmt := top 49
abbrev s_is_template : Stmt := top 48
abbrev s_is_word_of_letters : Stmt := top 14
abbrev s_is_own_word : Stmt := top 20
abbrev s_are_part_names : Stmt := top 47
abbrev s_is_form : Stmt := top 46
abbrev s_words_of : Stmt := top 45
abbrev s_check_pattern : Stmt := top 37
abbrev s_check_ways : Stmt := top 38
abbrev s_check_by : Stmt := top 39
abbrev s_names_begin : Stmt := top 34
abbrev s_led_name : Stmt := top 54
abbrev s_exchangedZ0 : Stmt := top 53
abbrev s_led_pattern : Stmt := top 55
abbrev s_led : Stmt := top 57
abbrev s__law_right : Stmt := top 77
abbrev s__law_well : Stmt := top 59
abbrev s_law : Stmt := top 78
namespace Head
def fn : List He.DefD := [⟨("_law_draw", none), "_law_draw", "_law_draw", defArgs s__law_draw, defBody s__law_draw, defScope s__law_draw, [], []⟩, ⟨("_law_names", none), "_law_names", "_law_names", defArgs s__law_names, defBody s__law_names, defScope s__law_names, [], []⟩, ⟨("_law_pick", none), "_law_pick", "_law_pick", defArgs s__law_pick, defBody s__law_pick, defScope s__law_pick, [], []⟩, ⟨("_law_word", none), "_law_word", "_law_word", defArgs s__law_word, defBody s__law_word, defScope s__law_word, [], []⟩, ⟨("_law_leaves", none), "_law_leaves", "_law_leaves", defArgs s__law_leaves, defBody s__law_leaves, defScope s__law_leaves, [], []⟩, ⟨("_law_told", none), "_law_told", "_law_told", defArgs s__law_told, defBody s__law_told, defScope s__law_told, [], []⟩, ⟨("_law_replaced", none), "_law_replaced", "_law_replaced", defArgs s__law_replaced, defBody s__law_replaced, defScope s__law_replaced, [], []⟩, ⟨("_law_length", none), "_law_length", "_law_length", defArgs s__law_length, defBody s__law_length, defScope s__law_length, [], []⟩, ⟨("_law_number", none), "_law_number", "_law_number", defArgs s__law_number, defBody s__law_number, defScope s__law_number, [], []⟩, ⟨("_law_tree", none), "_law_tree", "_law_tree", defArgs s__law_tree, defBody s__law_tree, defScope s__law_tree, [], []⟩, ⟨("_law_form", none), "_law_form", "_law_form", defArgs s__law_form, defBody s__law_form, defScope s__law_form, [], []⟩, ⟨("_law_book", none), "_law_book", "_law_book", defArgs s__law_book, defBody s__law_book, defScope s__law_book, [], []⟩, ⟨("_law_holed", none), "_law_holed", "_law_holed", defArgs s__law_holed, defBody s__law_holed, defScope s__law_holed, [], []⟩, ⟨("_law_way", none), "_law_way", "_law_way", defArgs s__law_way, defBody s__law_way, defScope s__law_way, [], []⟩, ⟨("_law_led", none), "_law_led", "_law_led", defArgs s__law_led, defBody s__law_led, defScope s__law_led, [], []⟩, ⟨("_law_same", none), "_law_same", "_law_same", defArgs s__law_same, defBody s__law_same, defScope s__law_same, [], []⟩, ⟨("_law_ways", none), "_law_ways", "_law_ways", defArgs s__law_ways, defBody s__law_ways, defScope s__law_ways, [], []⟩, ⟨("core_words", none), "core_words", "core_words", defArgs s_core_words, defBody s_core_words, defScope s_core_words, [], []⟩, ⟨("is_tuple_up_to", none), "is_tuple_up_to", "is_tuple_up_to", defArgs s_is_tuple_up_to, defBody s_is_tuple_up_to, defScope s_is_tuple_up_to, [], []⟩, ⟨("is_leaf", none), "is_leaf", "is_leaf", defArgs s_is_leaf, defBody s_is_leaf, defScope s_is_leaf, [], []⟩, ⟨("is_whole", none), "is_whole", "is_whole", defArgs s_is_whole, defBody s_is_whole, defScope s_is_whole, [], []⟩, ⟨("is_count", none), "is_count", "is_count", defArgs s_is_count, defBody s_is_count, defScope s_is_count, [], []⟩, ⟨("is_whole_within", none), "is_whole_within", "is_whole_within", defArgs s_is_whole_within, defBody s_is_whole_within, defScope s_is_whole_within, [], []⟩, ⟨("is_hole_well_made", none), "is_hole_well_made", "is_hole_well_made", defArgs s_is_hole_well_made, defBody s_is_hole_well_made, defScope s_is_hole_well_made, [], []⟩, ⟨("is_leaf_well_made", none), "is_leaf_well_made", "is_leaf_well_made", defArgs s_is_leaf_well_made, defBody s_is_leaf_well_made, defScope s_is_leaf_well_made, [], []⟩, ⟨("own_length", none), "own_length", "own_length", defArgs s_own_length, defBody s_own_length, defScope s_own_length, [], []⟩, ⟨("fits", none), "fits", "fits", defArgs s_fits, defBody s_fits, defScope s_fits, [], []⟩, ⟨("part_rows", none), "part_rows", "part_rows", defArgs s_part_rows, defBody s_part_rows, defScope s_part_rows, [], []⟩, ⟨("nodes", none), "nodes", "nodes", defArgs s_nodes, defBody s_nodes, defScope s_nodes, [], []⟩, ⟨("are_holes_of", none), "are_holes_of", "are_holes_of", defArgs s_are_holes_of, defBody s_are_holes_of, defScope s_are_holes_of, [], []⟩, ⟨("is_length_of_template", none), "is_length_of_template", "is_length_of_template", defArgs s_is_length_of_template, defBody s_is_length_of_template, defScope s_is_length_of_template, [], []⟩, ⟨("length_in", none), "length_in", "length_in", defArgs s_length_in, defBody s_length_in, defScope s_length_in, [], []⟩, ⟨("is_told_inside", none), "is_told_inside", "is_told_inside", defArgs s_is_told_inside, defBody s_is_told_inside, defScope s_is_told_inside, [], []⟩, ⟨("is_template", none), "is_template", "is_template", defArgs s_is_template, defBody s_is_template, defScope s_is_template, [], []⟩, ⟨("is_word_of_letters", none), "is_word_of_letters", "is_word_of_letters", defArgs s_is_word_of_letters, defBody s_is_word_of_letters, defScope s_is_word_of_letters, [], []⟩, ⟨("is_own_word", none), "is_own_word", "is_own_word", defArgs s_is_own_word, defBody s_is_own_word, defScope s_is_own_word, [], []⟩, ⟨("are_part_names", none), "are_part_names", "are_part_names", defArgs s_are_part_names, defBody s_are_part_names, defScope s_are_part_names, [], []⟩, ⟨("is_form", none), "is_form", "is_form", defArgs s_is_form, defBody s_is_form, defScope s_is_form, [], []⟩, ⟨("words_of", none), "words_of", "words_of", defArgs s_words_of, defBody s_words_of, defScope s_words_of, [], []⟩, ⟨("check_pattern", none), "check_pattern", "check_pattern", defArgs s_check_pattern, defBody s_check_pattern, defScope s_check_pattern, [], []⟩, ⟨("check_ways", none), "check_ways", "check_ways", defArgs s_check_ways, defBody s_check_ways, defScope s_check_ways, [], []⟩, ⟨("check_by", none), "check_by", "check_by", defArgs s_check_by, defBody s_check_by, defScope s_check_by, [], []⟩, ⟨("names_begin", none), "names_begin", "names_begin", defArgs s_names_begin, defBody s_names_begin, defScope s_names_begin, [], []⟩, ⟨("led_name", none), "led_name", "led_name", defArgs s_led_name, defBody s_led_name, defScope s_led_name, [], []⟩, ⟨("exchanged", none), "exchanged", "exchanged", defArgs s_exchangedZ0, defBody s_exchangedZ0, defScope s_exchangedZ0, [], []⟩, ⟨("led_pattern", none), "led_pattern", "led_pattern", defArgs s_led_pattern, defBody s_led_pattern, defScope s_led_pattern, [], []⟩, ⟨("led", none), "led", "led", defArgs s_led, defBody s_led, defScope s_led, [], []⟩, ⟨("_law_right", none), "_law_right", "_law_right", defArgs s__law_right, defBody s__law_right, defScope s__law_right, [], []⟩, ⟨("_law_well", none), "_law_well", "_law_well", defArgs s__law_well, defBody s__law_well, defScope s__law_well, [], []⟩, ⟨("law", none), "law", "law", defArgs s_law, defBody s_law, defScope s_law, [], []⟩]
def fa : List He.Fa := [.glo "_law_draw", .glo "_law_names", .glo "_law_pick", .glo "_law_word", .glo "_law_leaves", .glo "_law_told", .glo "_law_replaced", .glo "_law_length", .glo "_law_number", .glo "_law_tree", .glo "_law_form", .glo "_law_book", .glo "_law_holed", .glo "_law_way", .glo "_law_led", .glo "_law_same", .glo "_law_ways", .glo "core_words", .glo "is_tuple_up_to", .glo "is_leaf", .glo "is_whole", .glo "is_count", .glo "is_whole_within", .glo "is_hole_well_made", .glo "is_leaf_well_made", .glo "own_length", .glo "fits", .glo "part_rows", .glo "nodes", .glo "are_holes_of", .glo "is_length_of_template", .glo "length_in", .glo "is_told_inside", .glo "is_template", .glo "is_word_of_letters", .glo "is_own_word", .glo "are_part_names", .glo "is_form", .glo "words_of", .glo "check_pattern", .glo "check_ways", .glo "check_by", .glo "names_begin", .glo "led_name", .glo "exchanged", .glo "led_pattern", .glo "led", .glo "_law_right", .glo "_law_well", .glo "law", .free "abs", .free "all", .free "bool", .free "dict", .free "divmod", .free "enumerate", .free "int", .free "isinstance", .free "len", .free "list", .free "max", .free "min", .free "range", .free "set", .free "sorted", .free "str", .free "sum", .free "tuple", .free "zip", .int "GREATEST_HOLE" 99, .int "GREATEST_NUMBER" 999999999, .glo "LEAF_WORDS", .str "LETTERS" "abcdefghijklmnopqrstuvwxyz", .int "MAX_DEPTH" 60, .int "MAX_FORMS" 8, .int "MAX_LENGTH" 1500, .int "MAX_NAMES" 2, .int "MAX_PARTS" 4, .int "MAX_PUT_IN" 8, .int "MAX_TEMPLATE" 24, .int "NAME_SIGNS" 8, .glo "RESERVED", .int "WORD_SIGNS" 2, .glo "CORE_WORDS"]
def ts : List He.Tab := [(fun K => He.ga K "CORE_WORDS", ks_CORE_WORDS)]
def own : OwnL := [(("led_pattern", none), nm_led_pattern)]
def tf : List He.Defn := own.map (·.1)
def ex (K : PySem.W.Frag) : Bool := ndOwn K own && kTupB K "LEAF_WORDS" c_LEAF_WORDS && kTupB K "RESERVED" c_RESERVED && kDicB K "CORE_WORDS" d_CORE_WORDS
abbrev hk : PySem.W.Hook := He.hookX 5 fa fn ts tf ex
def ob (s : PySem.W.SharedT) : He.AlX := He.obsX 5 fa fn ts tf ex (HandSHeadRun.getT s)
theorem ob_eq (s : PySem.W.SharedT) : ob s = hk.obs s.abs := He.obsX_eq (HandSHeadRun.getT_eq s)
end Head
abbrev R0 : PySem.W.OpenRow := PySem.W.OpenLaw.row PySem.Challenge.rw_formstead_k04_led_by_own_walk_twice_is_o
def lse : List Str := (["__name__", "FormError", "InvalidTerm", "InvalidNumber", "InvalidBook", "InvalidWays", "LETTERS", "NAME_SIGNS", "WORD_SIGNS", "is_whole", "is_whole_within", "is_count", "is_tuple_up_to", "is_word_of_letters", "CORE_WORDS", "RESERVED", "LEAF_WORDS", "core_words", "is_own_word", "MAX_LENGTH", "MAX_DEPTH", "GREATEST_NUMBER", "GREATEST_HOLE", "is_leaf", "is_leaf_well_made", "is_hole_well_made", "own_length", "fits", "nodes", "part_rows"] : List Str) ++ (["length_in", "names_begin", "MAX_PUT_IN", "check_pattern", "check_ways", "check_by", "MAX_FORMS", "MAX_PARTS", "MAX_NAMES", "MAX_TEMPLATE", "words_of", "is_form", "are_part_names", "is_template", "is_told_inside", "is_length_of_template", "are_holes_of", "exchanged", "led_name", "led_pattern", "led", "_law_well", "_law_draw", "_law_pick", "_law_same", "_law_names", "_law_length", "_law_way", "_law_led", "_law_replaced"] : List Str) ++ (["_law_number", "_law_word", "_law_tree", "_law_leaves", "_law_told", "_law_form", "_law_book", "_law_holed", "_law_ways", "_law_right"] : List Str)
theorem run_f (w : World) : HandSHeadRun.RunEq R0 (PySem.W.view R0.prog [78]) Head.hk Head.ob 4000 lse (w.withFollow "special-get-raises" false) := by
  intro os
  kernel_rfl
theorem run_t (w : World) : HandSHeadRun.RunEq R0 (PySem.W.view R0.prog [78]) Head.hk Head.ob 4000 lse (w.withFollow "special-get-raises" true) := by
  intro os
  kernel_rfl
theorem run (w : World) : HandSHeadRun.RunEq R0 (PySem.W.view R0.prog [78]) Head.hk Head.ob 4000 lse w :=
  PySem.W.byRow2 "special-get-raises" (P := fun w => HandSHeadRun.RunEq R0 (PySem.W.view R0.prog [78]) Head.hk Head.ob 4000 lse w) run_f run_t w
end G04
set_option Elab.async false
set_option maxRecDepth 100000
set_option maxHeartbeats 4000000
set_option linter.all false
namespace G04
open PySem PySem.Spec PyProof.Rows L2 Py
abbrev s_cloZ0 : Stmt := (defBody (top 55)).getD 0 (.Pass ⟨0, 0, 0, 0⟩)
structure Txt [CT] (K : PySem.W.Frag) (w : World) (mg : Str → Option Value) : Prop where
  code0 : CT.code 0 = ⟨s_cloZ0, "lead", ["by", "ways"]⟩
  abs : mg "abs" = none
  all : mg "all" = none
  bool : mg "bool" = none
  dict : mg "dict" = none
  divmod : mg "divmod" = none
  enumerate : mg "enumerate" = none
  int : mg "int" = none
  isinstance : mg "isinstance" = none
  len : mg "len" = none
  list : mg "list" = none
  max : mg "max" = none
  min : mg "min" = none
  range : mg "range" = none
  set : mg "set" = none
  sorted : mg "sorted" = none
  str : mg "str" = none
  sum : mg "sum" = none
  tuple : mg "tuple" = none
  zip : mg "zip" = none
  kGREATEST_HOLE : HasInt mg "GREATEST_HOLE" 99
  kGREATEST_NUMBER : HasInt mg "GREATEST_NUMBER" 999999999
  kLEAF_WORDS : HasTup K mg "LEAF_WORDS" c_LEAF_WORDS
  kLETTERS : HasStr mg "LETTERS" "abcdefghijklmnopqrstuvwxyz"
  kMAX_DEPTH : HasInt mg "MAX_DEPTH" 60
  kMAX_FORMS : HasInt mg "MAX_FORMS" 8
  kMAX_LENGTH : HasInt mg "MAX_LENGTH" 1500
  kMAX_NAMES : HasInt mg "MAX_NAMES" 2
  kMAX_PARTS : HasInt mg "MAX_PARTS" 4
  kMAX_PUT_IN : HasInt mg "MAX_PUT_IN" 8
  kMAX_TEMPLATE : HasInt mg "MAX_TEMPLATE" 24
  kNAME_SIGNS : HasInt mg "NAME_SIGNS" 8
  kRESERVED : HasTup K mg "RESERVED" c_RESERVED
  kWORD_SIGNS : HasInt mg "WORD_SIGNS" 2
  kCORE_WORDS : HasD K w mg "CORE_WORDS" d_CORE_WORDS
section
variable {P : Program} {w : World} {K : PySem.W.Frag} {mg : Str → Option Value} {base : Heap} [CT]
abbrev N__law_draw : List Str := ["_law_well_here", "_law_many", "_law_seed", "_law_figure"]
abbrev p__law_draw : List Str := ["_law_well_here", "_law_many"]
theorem sc__law_draw : FnScope N__law_draw p__law_draw (defScope s__law_draw) := ⟨rfl, rfl, rfl, by decide +kernel, rfl, by decide +kernel, by decide +kernel⟩
def b__law_draw : Es := (sSeq (sIf (tV (eOp gGt (eOp gIx (eVar 0) (eC (.int 0))) (eC (.int 0)))) (sSeq (sAsg (eArgs gDivmod (aCons (eOp gIx (eVar 0) (eC (.int 0))) (aCons (eVar 1) aNil))) (nTup 2 (nCons (nSubL (eVar 0) (eC (.int 0))) (nCons (nName 3) nNil)))) (sRet (eVar 3))) sNil) (sSeq (sAsg (eOp gAdd (eOp gIx (eVar 0) (eC (.int 2))) (eC (.int 1))) (nSubL (eVar 0) (eC (.int 2)))) (sSeq (sSet 2 (eOp gMod (eArgs gInt (aCons (eOp gAdd (eOp gIx (eVar 0) (eC (.int 1))) (eOp gMul (eC (.int 77003)) (eOp gIx (eVar 0) (eC (.int 2))))) aNil)) (eC (.int 2147483579)))) (sSeq (sAsg (eOp gMod (eArgs gInt (aCons (eOp gAdd (eOp gMul (eVar 2) (eOp gAdd (eOp gMod (eArgs gInt (aCons (eVar 2) aNil)) (eC (.int 6007))) (eC (.int 30011)))) (eOp gMul (eC (.int 17)) (eOp gIx (eVar 0) (eC (.int 2))))) aNil)) (eC (.int 2147483579))) (nSubL (eVar 0) (eC (.int 1)))) (sRet (eOp gMod (eArgs gInt (aCons (eOp gFdiv (eOp gIx (eVar 0) (eC (.int 1))) (eC (.int 719))) aNil)) (eVar 1)))))))
def m__law_draw : Fn := mkDef 2 4 b__law_draw
set_option maxHeartbeats 4000000 in
theorem e__law_draw {f : Addr} (T : Txt K w mg) (cdv : Value) (A : Around) (outer : List PySem.Env) (s : Shared) (H : Hp) (E : XK) (hr : Room 0 (A.deeper (envOfC "_law_draw" (defScope s__law_draw) s.heap.objs.size f cdv))) :
    ESs (cxOf CX0 P w K mg base N__law_draw "_law_draw" (defScope s__law_draw) f cdv A outer s H E).nox (defBody s__law_draw) b__law_draw :=
  have S := sc__law_draw
  (es_cons (es_if (et_cmp (op_gt) l_gt (ee_ix (ee_var 0 (pv 0)) ee_int (fun _ _ => rfl)) ee_int (nomark _)) (es_cons (es_asg (ee_callB call_divmodW l_divmod (by rfl) T.divmod (by decide +kernel) (ea_cons (ee_ix (ee_var 0 (pv 0)) ee_int (fun _ _ => rfl)) (ea_cons (ee_var 1 (pv 1)) ea_nil))) (eg_tup rfl (egs_cons (eg_subL (ee_var 0 (pv 0)) ee_int (pg_sub (ee_var 0 (pv 0)) ee_int set_list)) (egs_cons (eg_name (pg_name (i := 3) S.nd rfl (Or.inl rfl))) egs_nil)))) (es_one (es_ret (ee_var 3 (pv 3))))) es_nil) (es_cons (es_asg (ee_op op_addA l_add (ee_ix (ee_var 0 (pv 0)) ee_int (fun _ _ => rfl)) ee_int) (eg_subL (ee_var 0 (pv 0)) ee_int (pg_sub (ee_var 0 (pv 0)) ee_int set_list))) (es_cons (es_set (ps_set (i := 2) S.nd rfl (Or.inl rfl) (ee_op op_mod l_mod (ee_callTy call_int1 l_int (by rfl) T.int (by decide +kernel) (ea_cons (ee_op op_addA l_add (ee_ix (ee_var 0 (pv 0)) ee_int (fun _ _ => rfl)) (ee_op op_mul l_mul ee_int (ee_ix (ee_var 0 (pv 0)) ee_int (fun _ _ => rfl)))) ea_nil)) ee_int))) (es_cons (es_asg (ee_op op_mod l_mod (ee_callTy call_int1 l_int (by rfl) T.int (by decide +kernel) (ea_cons (ee_op op_addA l_add (ee_op op_mul l_mul (ee_var 2 (pv 2)) (ee_op op_addA l_add (ee_op op_mod l_mod (ee_callTy call_int1 l_int (by rfl) T.int (by decide +kernel) (ea_cons (ee_var 2 (pv 2)) ea_nil)) ee_int) ee_int)) (ee_op op_mul l_mul ee_int (ee_ix (ee_var 0 (pv 0)) ee_int (fun _ _ => rfl)))) ea_nil)) ee_int) (eg_subL (ee_var 0 (pv 0)) ee_int (pg_sub (ee_var 0 (pv 0)) ee_int set_list))) (es_one (es_ret (ee_op op_mod l_mod (ee_callTy call_int1 l_int (by rfl) T.int (by decide +kernel) (ea_cons (ee_op op_fdivW l_fdiv (ee_ix (ee_var 0 (pv 0)) ee_int (fun _ _ => rfl)) ee_int) ea_nil)) (ee_var 1 (pv 1)))))))))
theorem c__law_draw {f : Addr} {fd : FuncData} (hm : mg "_law_draw" = some (.ref f)) (F : FunD K "_law_draw" "_law_draw" (defArgs s__law_draw) (defBody s__law_draw) (defScope s__law_draw) [] [] f fd) (T : Txt K w mg) : Cal P w K mg base 1 "_law_draw" p__law_draw (spM K m__law_draw) :=
  cal_of hm F (fun _ _ _ _ _ _ us hl => match us, hl with | [_, _], _ => rfl) (fun _ _ _ _ _ _ us hl => match us, hl with | [_, _], _ => rfl) (fn_def F sc__law_draw fun cdv A outer s H E hr => e__law_draw T  cdv A outer s H E hr)
abbrev N__law_names : List Str := ["_law_book_here", "_law_word_here", "_law_form_here"]
abbrev p__law_names : List Str := ["_law_book_here", "_law_word_here"]
theorem sc__law_names : FnScope N__law_names p__law_names (defScope s__law_names) := ⟨rfl, rfl, rfl, by decide +kernel, rfl, by decide +kernel, by decide +kernel⟩
def b__law_names : Es := (sSeq (sIf (tV (eOp (gIn false) (eVar 1) (eArgs gTupP (aCons (eC (.str "call")) (aCons (eC (.str "pair")) (aCons (eC (.str "plus")) (aCons (eC (.str "minus")) (aCons (eC (.str "times")) (aCons (eC (.str "put")) aNil))))))))) (sRet (eArgs gTupP (aCons (eC (.int 0)) (aCons (eC (.int 0)) aNil)))) sNil) (sSeq (sIf (tV (eOp (gIn false) (eVar 1) (eArgs gTupP (aCons (eC (.str "first")) (aCons (eC (.str "second")) (aCons (eC (.str "box")) (aCons (eC (.str "look")) (aCons (eC (.str "say")) aNil)))))))) (sRet (eArgs gTupP (aCons (eC (.int 0)) aNil))) sNil) (sSeq (sIf (tV (eOp gEq (eVar 1) (eC (.str "fn")))) (sRet (eArgs gTupP (aCons (eC (.int 1)) aNil))) sNil) (sSeq (sIf (tV (eOp gEq (eVar 1) (eC (.str "again")))) (sRet (eArgs gTupP (aCons (eC (.int 2)) aNil))) sNil) (sSeq (sIf (tV (eOp gEq (eVar 1) (eC (.str "test")))) (sRet (eArgs gTupP (aCons (eC (.int 0)) (aCons (eC (.int 0)) (aCons (eC (.int 0)) aNil))))) sNil) (sSeq (sFor (iSeq (eVar 0)) (nName 2) (sIf (tV (eOp gEq (eOp gIx (eVar 2) (eC (.int 0))) (eVar 1))) (sRet (eOp gIx (eVar 2) (eC (.int 1)))) sNil)) (sRet (eC .non))))))))
def m__law_names : Fn := mkDef 2 3 b__law_names
set_option maxHeartbeats 4000000 in
theorem e__law_names {f : Addr} (T : Txt K w mg) (cdv : Value) (A : Around) (outer : List PySem.Env) (s : Shared) (H : Hp) (E : XK) (hr : Room 0 (A.deeper (envOfC "_law_names" (defScope s__law_names) s.heap.objs.size f cdv))) :
    ESs (cxOf CX0 P w K mg base N__law_names "_law_names" (defScope s__law_names) f cdv A outer s H E).nox (defBody s__law_names) b__law_names :=
  have S := sc__law_names
  (es_cons (es_if (et_cmp (op_inA) l_in (ee_var 1 (pv 1)) (ee_tup (ea_cons ee_str (ea_cons ee_str (ea_cons ee_str (ea_cons ee_str (ea_cons ee_str (ea_cons ee_str ea_nil))))))) rfl) (es_one (es_ret (ee_tup (ea_cons ee_int (ea_cons ee_int ea_nil))))) es_nil) (es_cons (es_if (et_cmp (op_inA) l_in (ee_var 1 (pv 1)) (ee_tup (ea_cons ee_str (ea_cons ee_str (ea_cons ee_str (ea_cons ee_str (ea_cons ee_str ea_nil)))))) rfl) (es_one (es_ret (ee_tup (ea_cons ee_int ea_nil)))) es_nil) (es_cons (es_if (et_cmp (op_eqA (hu64 hr)) l_eq (ee_var 1 (pv 1)) ee_str (nomark _)) (es_one (es_ret (ee_tup (ea_cons ee_int ea_nil)))) es_nil) (es_cons (es_if (et_cmp (op_eqA (hu64 hr)) l_eq (ee_var 1 (pv 1)) ee_str (nomark _)) (es_one (es_ret (ee_tup (ea_cons ee_int ea_nil)))) es_nil) (es_cons (es_if (et_cmp (op_eqA (hu64 hr)) l_eq (ee_var 1 (pv 1)) ee_str (nomark _)) (es_one (es_ret (ee_tup (ea_cons ee_int (ea_cons ee_int (ea_cons ee_int ea_nil)))))) es_nil) (es_cons (es_for PassesOwn.never rfl (ei_seq (ee_var 0 (pv 0))) (eg_name (pg_name (i := 2) S.nd rfl (Or.inl rfl))) (es_one (es_if (et_cmp (op_eqA (hu64 hr)) l_eq (ee_ix (ee_var 2 (pv 2)) ee_int (fun _ _ => rfl)) (ee_var 1 (pv 1)) (nomark _)) (es_one (es_ret (ee_ix (ee_var 2 (pv 2)) ee_int (fun _ _ => rfl)))) es_nil))) (es_one (es_ret ee_non))))))))
theorem c__law_names {f : Addr} {fd : FuncData} (hm : mg "_law_names" = some (.ref f)) (F : FunD K "_law_names" "_law_names" (defArgs s__law_names) (defBody s__law_names) (defScope s__law_names) [] [] f fd) (T : Txt K w mg) : Cal P w K mg base 1 "_law_names" p__law_names (spM K m__law_names) :=
  cal_of hm F (fun _ _ _ _ _ _ us hl => match us, hl with | [_, _], _ => rfl) (fun _ _ _ _ _ _ us hl => match us, hl with | [_, _], _ => rfl) (fn_def F sc__law_names fun cdv A outer s H E hr => e__law_names T  cdv A outer s H E hr)
abbrev N__law_pick : List Str := ["_law_well_here", "_law_some"]
abbrev p__law_pick : List Str := ["_law_well_here", "_law_some"]
theorem sc__law_pick : FnScope N__law_pick p__law_pick (defScope s__law_pick) := ⟨rfl, rfl, rfl, by decide +kernel, rfl, by decide +kernel, by decide +kernel⟩
def b__law_pick : Es := (sRet (eOp gIx (eVar 1) (eArgs m__law_draw (aCons (eVar 0) (aCons (eArgs gLen (aCons (eVar 1) aNil)) aNil)))))
def m__law_pick : Fn := mkDef 2 2 b__law_pick
set_option maxHeartbeats 4000000 in
theorem e__law_pick {f : Addr} (T : Txt K w mg) (C__law_draw : Cal P w K mg base 1 "_law_draw" p__law_draw (spM K m__law_draw)) (cdv : Value) (A : Around) (outer : List PySem.Env) (s : Shared) (H : Hp) (E : XK) (hr : Room 1 (A.deeper (envOfC "_law_pick" (defScope s__law_pick) s.heap.objs.size f cdv))) :
    ESs (cxOf CX0 P w K mg base N__law_pick "_law_pick" (defScope s__law_pick) f cdv A outer s H E).nox (defBody s__law_pick) b__law_pick :=
  have S := sc__law_pick
  (es_one (es_ret (ee_ix (ee_var 1 (pv 1)) (ee_callC C__law_draw hr (by first | decide | omega) (by rfl) (ea_cons (ee_var 0 (pv 0)) (ea_cons (ee_callB call_lenA l_len (by rfl) T.len (by decide +kernel) (ea_cons (ee_var 1 (pv 1)) ea_nil)) ea_nil))) (fun _ _ => rfl))))
theorem c__law_pick {f : Addr} {fd : FuncData} (hm : mg "_law_pick" = some (.ref f)) (F : FunD K "_law_pick" "_law_pick" (defArgs s__law_pick) (defBody s__law_pick) (defScope s__law_pick) [] [] f fd) (T : Txt K w mg) (C__law_draw : Cal P w K mg base 1 "_law_draw" p__law_draw (spM K m__law_draw)) : Cal P w K mg base 2 "_law_pick" p__law_pick (spM K m__law_pick) :=
  cal_of hm F (fun _ _ _ _ _ _ us hl => match us, hl with | [_, _], _ => rfl) (fun _ _ _ _ _ _ us hl => match us, hl with | [_, _], _ => rfl) (fn_def F sc__law_pick fun cdv A outer s H E hr => e__law_pick T C__law_draw cdv A outer s H E hr)
abbrev N__law_word : List Str := ["_law_well_here", "_law_taken", "_law_word_here", "_law_turn", "_law_spare", "_law_x"]
abbrev p__law_word : List Str := ["_law_well_here", "_law_taken"]
theorem sc__law_word : FnScope N__law_word p__law_word (defScope s__law_word) := ⟨rfl, rfl, rfl, by decide +kernel, rfl, by decide +kernel, by decide +kernel⟩
def b__law_word : Es := (sSeq (sSet 2 (eC (.str ""))) (sSeq (sFor (iArgs gRange (aCons (eOp gAdd (eC (.int 2)) (eArgs m__law_draw (aCons (eVar 0) (aCons (eC (.int 4)) aNil)))) aNil)) (nName 3) (sSet 2 (eOp gAdd (eVar 2) (eOp gIx (eC (.str "abcdefghijklmnopqrstuvwxyz")) (eArgs m__law_draw (aCons (eVar 0) (aCons (eC (.int 26)) aNil))))))) (sSeq (sIf (tOrE (tV (eOp (gIn false) (eVar 2) (eVar 1))) (tOrE (tV (eOp (gIn false) (eVar 2) (eArgs gTupP (aCons (eC (.str "at")) (aCons (eC (.str "hole")) (aCons (eC (.str "form")) (aCons (eC (.str "name")) (aCons (eC (.str "boxes")) (aCons (eC (.str "number")) aNil))))))))) (tV (eOp gNotN (eArgs m__law_names (aCons (eArgs gTupP aNil) (aCons (eVar 2) aNil))) (eC .non))))) (sSeq (sSet 4 (fComp (iSeq (eC (.str "abcdefghijklmnopqrstuvwxyz"))) (nName 5) (tV (eOp (gIn true) (eOp gAdd (eOp gAdd (eSl (eVar 2) oNone (oSome (eC (.int 3)))) (eC (.str "z"))) (eVar 5)) (eVar 1))) (eVar 5) [5])) (sSet 2 (eOp gAdd (eOp gAdd (eSl (eVar 2) oNone (oSome (eC (.int 3)))) (eC (.str "z"))) (eArgs m__law_pick (aCons (eVar 0) (aCons (eVar 4) aNil)))))) sNil) (sRet (eVar 2)))))
def m__law_word : Fn := mkDef 2 6 b__law_word
set_option maxHeartbeats 4000000 in
theorem e__law_word {f : Addr} (T : Txt K w mg) (C__law_draw : Cal P w K mg base 1 "_law_draw" p__law_draw (spM K m__law_draw)) (C__law_names : Cal P w K mg base 1 "_law_names" p__law_names (spM K m__law_names)) (C__law_pick : Cal P w K mg base 2 "_law_pick" p__law_pick (spM K m__law_pick)) (cdv : Value) (A : Around) (outer : List PySem.Env) (s : Shared) (H : Hp) (E : XK) (hr : Room 2 (A.deeper (envOfC "_law_word" (defScope s__law_word) s.heap.objs.size f cdv))) :
    ESs (cxOf CX0 P w K mg base N__law_word "_law_word" (defScope s__law_word) f cdv A outer s H E).nox (defBody s__law_word) b__law_word :=
  have S := sc__law_word
  (es_cons (es_set (ps_set (i := 2) S.nd rfl (Or.inr rfl) ee_str)) (es_cons (es_for PassesOwn.never rfl (ei_range1 (by rfl) T.range (ea_cons (ee_op op_addA l_add ee_int (ee_callC C__law_draw hr (by first | decide | omega) (by rfl) (ea_cons (ee_var 0 (pv 0)) (ea_cons ee_int ea_nil)))) ea_nil) (by intro ρ S ps S' h; exact aLen1 h)) (eg_name (pg_name (i := 3) S.nd rfl (Or.inl rfl))) (es_one (es_set (ps_set (i := 2) S.nd rfl (Or.inr rfl) (ee_op op_addA l_add (ee_var 2 (pv 2)) (ee_ix ee_str (ee_callC C__law_draw hr (by first | decide | omega) (by rfl) (ea_cons (ee_var 0 (pv 0)) (ea_cons ee_int ea_nil))) (fun _ _ => rfl))))))) (es_cons (es_if (et_w (ew_or (et_cmp (op_inA) l_in (ee_var 2 (pv 2)) (ee_var 1 (pv 1)) rfl) (ew_or (et_cmp (op_inA) l_in (ee_var 2 (pv 2)) (ee_tup (ea_cons ee_str (ea_cons ee_str (ea_cons ee_str (ea_cons ee_str (ea_cons ee_str (ea_cons ee_str ea_nil))))))) rfl) (ew_or1 (et_cmp (op_notN) l_notN (ee_callC C__law_names hr (by first | decide | omega) (by rfl) (ea_cons (ee_tup ea_nil) (ea_cons (ee_var 2 (pv 2)) ea_nil))) ee_non (nomark _)))))) (es_cons (es_comp (i := 4) (own := [("_law_x", 5)]) (g := (gName 5)) (gP := (nName 5)) (it := (iSeq (eC (.str "abcdefghijklmnopqrstuvwxyz")))) (ft := (tV (eOp (gIn true) (eOp gAdd (eOp gAdd (eSl (eVar 2) oNone (oSome (eC (.int 3)))) (eC (.str "z"))) (eVar 5)) (eVar 1)))) (fe := (eVar 5)) (tgt_name (by decide)) (ps_setLc (i := 4) (own := [("_law_x", 5)]) (g := (gName 5)) (tt := tEt _ (tV (eOp (gIn true) (eOp gAdd (eOp gAdd (eSl (eVar 2) oNone (oSome (eC (.int 3)))) (eC (.str "z"))) (eVar 5)) (eVar 1)))) (te := tEv _ (eVar 5)) rfl S.nd rfl rfl (sw_true rfl rfl rfl (by decide +kernel)) (ei_seq ee_str) (blkOk_by (N := N__law_word) (sc := defScope s__law_word) (by decide +kernel)) (fun _ _ _ _ _ => pg_name (i := 5) S.nd rfl (Or.inl rfl)) (fun _ _ _ _ _ => ei_one (et_cmp (op_ninA) l_nin (ee_op op_addA l_add (ee_op op_addA l_add (ee_sl (ee_var 2 (pv 2)) eo_none (eo_some ee_int)) ee_str) (ee_var 5 (pv 5))) (ee_var 1 (pv 1)) rfl)) (fun _ _ _ _ _ => (ee_var 5 (pv 5))))) (es_one (es_set (ps_set (i := 2) S.nd rfl (Or.inr rfl) (ee_op op_addA l_add (ee_op op_addA l_add (ee_sl (ee_var 2 (pv 2)) eo_none (eo_some ee_int)) ee_str) (ee_callC C__law_pick hr (by first | decide | omega) (by rfl) (ea_cons (ee_var 0 (pv 0)) (ea_cons (ee_var 4 (pv 4)) ea_nil)))))))) es_nil) (es_one (es_ret (ee_var 2 (pv 2)))))))
theorem c__law_word {f : Addr} {fd : FuncData} (hm : mg "_law_word" = some (.ref f)) (F : FunD K "_law_word" "_law_word" (defArgs s__law_word) (defBody s__law_word) (defScope s__law_word) [] [] f fd) (T : Txt K w mg) (C__law_draw : Cal P w K mg base 1 "_law_draw" p__law_draw (spM K m__law_draw)) (C__law_names : Cal P w K mg base 1 "_law_names" p__law_names (spM K m__law_names)) (C__law_pick : Cal P w K mg base 2 "_law_pick" p__law_pick (spM K m__law_pick)) : Cal P w K mg base 3 "_law_word" p__law_word (spM K m__law_word) :=
  cal_of hm F (fun _ _ _ _ _ _ us hl => match us, hl with | [_, _], _ => rfl) (fun _ _ _ _ _ _ us hl => match us, hl with | [_, _], _ => rfl) (fn_def F sc__law_word fun cdv A outer s H E hr => e__law_word T C__law_draw C__law_names C__law_pick cdv A outer s H E hr)
abbrev N__law_leaves : List Str := ["_law_book_here", "_law_term", "_law_place", "_law_deep", "_law_found", "_law_at", "_law_b"]
abbrev p__law_leaves : List Str := ["_law_book_here", "_law_term", "_law_place", "_law_deep"]
theorem sc__law_leaves : FnScope N__law_leaves p__law_leaves (defScope s__law_leaves) := ⟨rfl, rfl, rfl, by decide +kernel, rfl, by decide +kernel, by decide +kernel⟩
def b__law_leaves (m_self : Fn) : Es := (sSeq (sIf (tV (eOp (gIn false) (eOp gIx (eVar 1) (eC (.int 0))) (eArgs gTupP (aCons (eC (.str "number")) (aCons (eC (.str "name")) (aCons (eC (.str "at")) (aCons (eC (.str "hole")) aNil))))))) (sRet (eNew (eArgs gLstP (aCons (eArgs gTupP (aCons (eVar 2) (aCons (eVar 3) aNil))) aNil)))) sNil) (sSeq (sSet 4 (eNew (eArgs gLstP aNil))) (sSeq (sFor (iArgs gEnum (aCons (eArgs m__law_names (aCons (eVar 0) (aCons (eOp gIx (eVar 1) (eC (.int 0))) aNil))) aNil)) (nTup 2 (nCons (nName 5) (nCons (nName 6) nNil))) (sSet 4 (eNew (eOp gCat (eVar 4) (eArgs m_self (aCons (eVar 0) (aCons (eOp gIx (eVar 1) (eOp gAdd (eVar 5) (eC (.int 1)))) (aCons (eOp gAdd (eVar 2) (eArgs gTupP (aCons (eVar 5) aNil))) (aCons (eOp gAdd (eVar 3) (eVar 6)) aNil))))))))) (sRet (eVar 4)))))
def m__law_leaves : Nat → Fn
  | 0 => fun _ _ => .no
  | n + 1 => mkNew 4 7 (b__law_leaves (m__law_leaves n))
set_option maxHeartbeats 4000000 in
theorem e__law_leaves {f : Addr} (T : Txt K w mg) (C__law_names : Cal P w K mg base 1 "_law_names" p__law_names (spM K m__law_names)) {n : Nat} (C__law_leaves : Cal P w K mg base (1 + n) "_law_leaves" p__law_leaves (spN K (m__law_leaves n))) (cdv : Value) (A : Around) (outer : List PySem.Env) (s : Shared) (H : Hp) (E : XK) (hr : Room (1 + n) (A.deeper (envOfC "_law_leaves" (defScope s__law_leaves) s.heap.objs.size f cdv))) :
    ESs (cxOf CX0 P w K mg base N__law_leaves "_law_leaves" (defScope s__law_leaves) f cdv A outer s H E).nox (defBody s__law_leaves) (b__law_leaves (m__law_leaves n)) :=
  have S := sc__law_leaves
  (es_cons (es_if (et_cmp (op_inA) l_in (ee_ix (ee_var 1 (pv 1)) ee_int (fun _ _ => rfl)) (ee_tup (ea_cons ee_str (ea_cons ee_str (ea_cons ee_str (ea_cons ee_str ea_nil))))) rfl) (es_one (es_ret (ee_new (ef_lst (ea_cons (ee_tup (ea_cons (ee_var 2 (pv 2)) (ea_cons (ee_var 3 (pv 3)) ea_nil))) ea_nil))))) es_nil) (es_cons (es_set (ps_set (i := 4) S.nd rfl (Or.inl rfl) (ee_new (ef_lst ea_nil)))) (es_cons (es_for PassesOwn.never rfl (ei_enum (by rfl) T.enumerate (ea_cons (ee_callC C__law_names hr (by first | decide | omega) (by rfl) (ea_cons (ee_var 0 (pv 0)) (ea_cons (ee_ix (ee_var 1 (pv 1)) ee_int (fun _ _ => rfl)) ea_nil))) ea_nil)) (eg_tup rfl (egs_cons (eg_name (pg_name (i := 5) S.nd rfl (Or.inl rfl))) (egs_cons (eg_name (pg_name (i := 6) S.nd rfl (Or.inl rfl))) egs_nil))) (es_one (es_set (ps_set (i := 4) S.nd rfl (Or.inl rfl) (ee_new (ef_cat (ee_var 4 (pv 4)) (ee_pure (ef_callC C__law_leaves hr (by first | decide | omega) (by rfl) (ea_cons (ee_var 0 (pv 0)) (ea_cons (ee_ix (ee_var 1 (pv 1)) (ee_op op_addA l_add (ee_var 5 (pv 5)) ee_int) (fun _ _ => rfl)) (ea_cons (ee_op op_addA l_add (ee_var 2 (pv 2)) (ee_tup (ea_cons (ee_var 5 (pv 5)) ea_nil))) (ea_cons (ee_op op_addA l_add (ee_var 3 (pv 3)) (ee_var 6 (pv 6))) ea_nil)))))))))))) (es_one (es_ret (ee_var 4 (pv 4)))))))
theorem c__law_leaves {f : Addr} {fd : FuncData} (hm : mg "_law_leaves" = some (.ref f)) (F : FunD K "_law_leaves" "_law_leaves" (defArgs s__law_leaves) (defBody s__law_leaves) (defScope s__law_leaves) [] [] f fd) (T : Txt K w mg) (C__law_names : Cal P w K mg base 1 "_law_names" p__law_names (spM K m__law_names)) : ∀ n : Nat, Cal P w K mg base (1 + n) "_law_leaves" p__law_leaves (spN K (m__law_leaves n))
  | 0 => cal_of hm F (fun _ _ _ _ _ _ us hl => match us, hl with | [_, _, _, _], _ => rfl) (fun _ _ _ _ _ _ us hl => match us, hl with | [_, _, _, _], _ => rfl) fn_zero0
  | n + 1 => cal_of hm F (fun _ _ _ _ _ _ us hl => match us, hl with | [_, _, _, _], _ => rfl) (fun _ _ _ _ _ _ us hl => match us, hl with | [_, _, _, _], _ => rfl) (fn_new F sc__law_leaves fun cdv A outer s H E hr => e__law_leaves T C__law_names (c__law_leaves hm F T C__law_names n) cdv A outer s H E hr)
abbrev N__law_told : List Str := ["_law_well_here", "_law_deep", "_law_most", "_law_left", "_law_found", "_law_turn"]
abbrev p__law_told : List Str := ["_law_well_here", "_law_deep", "_law_most"]
theorem sc__law_told : FnScope N__law_told p__law_told (defScope s__law_told) := ⟨rfl, rfl, rfl, by decide +kernel, rfl, by decide +kernel, by decide +kernel⟩
def b__law_told : Es := (sSeq (sPar 3 4 (eNew (eUn gLstRg (eVar 1))) (eNew (eArgs gLstP aNil))) (sSeq (sFor (iArgs gRange (aCons (eArgs gMin2 (aCons (eVar 2) (aCons (eVar 1) aNil))) aNil)) (nName 5) (sExpr (eMeth1 gApp (eVar 4) (eMeth1 gPopAt (eVar 3) (eArgs m__law_draw (aCons (eVar 0) (aCons (eArgs gLen (aCons (eVar 3) aNil)) aNil))))))) (sRet (eArgs gTupOf (aCons (eVar 4) aNil)))))
def m__law_told : Fn := mkDef 3 6 b__law_told
set_option maxHeartbeats 4000000 in
theorem e__law_told {f : Addr} (T : Txt K w mg) (C__law_draw : Cal P w K mg base 1 "_law_draw" p__law_draw (spM K m__law_draw)) (cdv : Value) (A : Around) (outer : List PySem.Env) (s : Shared) (H : Hp) (E : XK) (hr : Room 1 (A.deeper (envOfC "_law_told" (defScope s__law_told) s.heap.objs.size f cdv))) :
    ESs (cxOf CX0 P w K mg base N__law_told "_law_told" (defScope s__law_told) f cdv A outer s H E).nox (defBody s__law_told) b__law_told :=
  have S := sc__law_told
  (es_cons (es_par2 (i := 3) (j := 4) (by rfl) S.nd rfl rfl (by decide) rfl rfl (ee_new (ef_listRg rfl (by rfl) T.list (by rfl) T.range (ee_var 1 (pv 1)))) (ee_new (ef_lst ea_nil)) (by rfl) (by rfl)) (es_cons (es_for PassesOwn.never rfl (ei_range1 (by rfl) T.range (ea_cons (ee_callB (call_min2 rfl) l_min2 (by rfl) T.min (by decide +kernel) (ea_cons (ee_var 2 (pv 2)) (ea_cons (ee_var 1 (pv 1)) ea_nil))) ea_nil) (by intro ρ S ps S' h; exact aLen1 h)) (eg_name (pg_name (i := 5) S.nd rfl (Or.inl rfl))) (es_one (es_expr (ee_meth1 l_app (pe_bm PySem.F.plainAttrs_list PySem.F.slot_list_append PySem.F.type_list_append mt_append (ee_var 4 (pv 4)) (pa_cons (ee_meth1 l_popAt (pe_bm PySem.F.plainAttrs_list PySem.F.slot_list_pop PySem.F.type_list_pop mt_popAt (ee_var 3 (pv 3)) (pa_cons (ee_callC C__law_draw hr (by first | decide | omega) (by rfl) (ea_cons (ee_var 0 (pv 0)) (ea_cons (ee_callB call_lenA l_len (by rfl) T.len (by decide +kernel) (ea_cons (ee_var 3 (pv 3)) ea_nil)) ea_nil))) pa_nil))) pa_nil)))))) (es_one (es_ret (ee_callTy call_tuple_of l_tupOf (by rfl) T.tuple (by decide +kernel) (ea_cons (ee_var 4 (pv 4)) ea_nil))))))
theorem c__law_told {f : Addr} {fd : FuncData} (hm : mg "_law_told" = some (.ref f)) (F : FunD K "_law_told" "_law_told" (defArgs s__law_told) (defBody s__law_told) (defScope s__law_told) [] [] f fd) (T : Txt K w mg) (C__law_draw : Cal P w K mg base 1 "_law_draw" p__law_draw (spM K m__law_draw)) : Cal P w K mg base 2 "_law_told" p__law_told (spM K m__law_told) :=
  cal_of hm F (fun _ _ _ _ _ _ us hl => match us, hl with | [_, _, _], _ => rfl) (fun _ _ _ _ _ _ us hl => match us, hl with | [_, _, _], _ => rfl) (fn_def F sc__law_told fun cdv A outer s H E hr => e__law_told T C__law_draw cdv A outer s H E hr)
abbrev N__law_replaced : List Str := ["_law_term", "_law_place", "_law_part", "_law_at"]
abbrev p__law_replaced : List Str := ["_law_term", "_law_place", "_law_part"]
theorem sc__law_replaced : FnScope N__law_replaced p__law_replaced (defScope s__law_replaced) := ⟨rfl, rfl, rfl, by decide +kernel, rfl, by decide +kernel, by decide +kernel⟩
def b__law_replaced (m_self : Fn) : Es := (sSeq (sIf (tV (eOp gEq (eVar 1) (eArgs gTupP aNil))) (sRet (eVar 2)) sNil) (sSeq (sSet 3 (eOp gAdd (eOp gIx (eVar 1) (eC (.int 0))) (eC (.int 1)))) (sRet (eOp gAdd (eOp gAdd (eSl (eVar 0) oNone (oSome (eVar 3))) (eArgs gTupP (aCons (eArgs m_self (aCons (eOp gIx (eVar 0) (eVar 3)) (aCons (eSl (eVar 1) (oSome (eC (.int 1))) oNone) (aCons (eVar 2) aNil)))) aNil))) (eSl (eVar 0) (oSome (eOp gAdd (eVar 3) (eC (.int 1)))) oNone)))))
def m__law_replaced : Nat → Fn
  | 0 => fun _ _ => .no
  | n + 1 => mkDef 3 4 (b__law_replaced (m__law_replaced n))
set_option maxHeartbeats 4000000 in
theorem e__law_replaced {f : Addr} (T : Txt K w mg) {n : Nat} (C__law_replaced : Cal P w K mg base (0 + n) "_law_replaced" p__law_replaced (spM K (m__law_replaced n))) (cdv : Value) (A : Around) (outer : List PySem.Env) (s : Shared) (H : Hp) (E : XK) (hr : Room (0 + n) (A.deeper (envOfC "_law_replaced" (defScope s__law_replaced) s.heap.objs.size f cdv))) :
    ESs (cxOf CX0 P w K mg base N__law_replaced "_law_replaced" (defScope s__law_replaced) f cdv A outer s H E).nox (defBody s__law_replaced) (b__law_replaced (m__law_replaced n)) :=
  have S := sc__law_replaced
  (es_cons (es_if (et_cmp (op_eqA (hu64 hr)) l_eq (ee_var 1 (pv 1)) (ee_tup ea_nil) (nomark _)) (es_one (es_ret (ee_var 2 (pv 2)))) es_nil) (es_cons (es_set (ps_set (i := 3) S.nd rfl (Or.inl rfl) (ee_op op_addA l_add (ee_ix (ee_var 1 (pv 1)) ee_int (fun _ _ => rfl)) ee_int))) (es_one (es_ret (ee_op op_addA l_add (ee_op op_addA l_add (ee_sl (ee_var 0 (pv 0)) eo_none (eo_some (ee_var 3 (pv 3)))) (ee_tup (ea_cons (ee_callC C__law_replaced hr (by first | decide | omega) (by rfl) (ea_cons (ee_ix (ee_var 0 (pv 0)) (ee_var 3 (pv 3)) (fun _ _ => rfl)) (ea_cons (ee_sl (ee_var 1 (pv 1)) (eo_some ee_int) eo_none) (ea_cons (ee_var 2 (pv 2)) ea_nil)))) ea_nil))) (ee_sl (ee_var 0 (pv 0)) (eo_some (ee_op op_addA l_add (ee_var 3 (pv 3)) ee_int)) eo_none))))))
theorem c__law_replaced {f : Addr} {fd : FuncData} (hm : mg "_law_replaced" = some (.ref f)) (F : FunD K "_law_replaced" "_law_replaced" (defArgs s__law_replaced) (defBody s__law_replaced) (defScope s__law_replaced) [] [] f fd) (T : Txt K w mg) : ∀ n : Nat, Cal P w K mg base (0 + n) "_law_replaced" p__law_replaced (spM K (m__law_replaced n))
  | 0 => cal_of hm F (fun _ _ _ _ _ _ us hl => match us, hl with | [_, _, _], _ => rfl) (fun _ _ _ _ _ _ us hl => match us, hl with | [_, _, _], _ => rfl) (fn_zero trivial)
  | n + 1 => cal_of hm F (fun _ _ _ _ _ _ us hl => match us, hl with | [_, _, _], _ => rfl) (fun _ _ _ _ _ _ us hl => match us, hl with | [_, _, _], _ => rfl) (fn_def F sc__law_replaced fun cdv A outer s H E hr => e__law_replaced T  (c__law_replaced hm F T  n) cdv A outer s H E hr)
abbrev N__law_length : List Str := ["_law_book_here", "_law_term", "_law_part"]
abbrev p__law_length : List Str := ["_law_book_here", "_law_term"]
theorem sc__law_length : FnScope N__law_length p__law_length (defScope s__law_length) := ⟨rfl, rfl, rfl, by decide +kernel, rfl, by decide +kernel, by decide +kernel⟩
def b__law_length (m_self : Fn) : Es := (sSeq (sIf (tV (eOp (gIn false) (eOp gIx (eVar 1) (eC (.int 0))) (eArgs gTupP (aCons (eC (.str "number")) (aCons (eC (.str "name")) (aCons (eC (.str "at")) (aCons (eC (.str "hole")) aNil))))))) (sRet (eC (.int 1))) sNil) (sRet (eOp gAdd (eOp gAdd (eC (.int 1)) (eArgs gSumA (aCons (eArgs m__law_names (aCons (eVar 0) (aCons (eOp gIx (eVar 1) (eC (.int 0))) aNil))) aNil))) (eArgs gSumA (aCons (fComp (iSeq (eSl (eVar 1) (oSome (eC (.int 1))) oNone)) (nName 2) tYesE (eArgs m_self (aCons (eVar 0) (aCons (eVar 2) aNil))) [2]) aNil)))))
def m__law_length : Nat → Fn
  | 0 => fun _ _ => .no
  | n + 1 => mkDef 2 3 (b__law_length (m__law_length n))
set_option maxHeartbeats 4000000 in
theorem e__law_length {f : Addr} (T : Txt K w mg) (C__law_names : Cal P w K mg base 1 "_law_names" p__law_names (spM K m__law_names)) {n : Nat} (C__law_length : Cal P w K mg base (1 + n) "_law_length" p__law_length (spM K (m__law_length n))) (cdv : Value) (A : Around) (outer : List PySem.Env) (s : Shared) (H : Hp) (E : XK) (hr : Room (1 + n) (A.deeper (envOfC "_law_length" (defScope s__law_length) s.heap.objs.size f cdv))) :
    ESs (cxOf CX0 P w K mg base N__law_length "_law_length" (defScope s__law_length) f cdv A outer s H E).nox (defBody s__law_length) (b__law_length (m__law_length n)) :=
  have S := sc__law_length
  (es_cons (es_if (et_cmp (op_inA) l_in (ee_ix (ee_var 1 (pv 1)) ee_int (fun _ _ => rfl)) (ee_tup (ea_cons ee_str (ea_cons ee_str (ea_cons ee_str (ea_cons ee_str ea_nil))))) rfl) (es_one (es_ret ee_int)) es_nil) (es_one (es_ret (ee_op op_addA l_add (ee_op op_addA l_add ee_int (ee_callB (call_sumA rfl) l_sumA (by rfl) T.sum (by decide +kernel) (ea_cons (ee_callC C__law_names hr (by first | decide | omega) (by rfl) (ea_cons (ee_var 0 (pv 0)) (ea_cons (ee_ix (ee_var 1 (pv 1)) ee_int (fun _ _ => rfl)) ea_nil))) ea_nil))) (ee_callB (call_sumA rfl) l_sumA (by rfl) T.sum (by decide +kernel) (ea_cons (ee_pure (ef_comp (own := [("_law_part", 2)]) (g := (gName 2)) rfl S.nd (blkOk_by (N := N__law_length) (sc := defScope s__law_length) (by decide +kernel)) (tgt_name (by decide)) (ei_seq (ee_sl (ee_var 1 (pv 1)) (eo_some ee_int) eo_none)) (fun _ _ _ _ _ => pg_name (i := 2) S.nd rfl (Or.inl rfl)) (fun _ _ _ _ _ => ei_none) (fun _ _ _ _ _ => (ee_callC C__law_length hr (by first | decide | omega) (by rfl) (ea_cons (ee_var 0 (pv 0)) (ea_cons (ee_var 2 (pv 2)) ea_nil)))))) ea_nil))))))
theorem c__law_length {f : Addr} {fd : FuncData} (hm : mg "_law_length" = some (.ref f)) (F : FunD K "_law_length" "_law_length" (defArgs s__law_length) (defBody s__law_length) (defScope s__law_length) [] [] f fd) (T : Txt K w mg) (C__law_names : Cal P w K mg base 1 "_law_names" p__law_names (spM K m__law_names)) : ∀ n : Nat, Cal P w K mg base (1 + n) "_law_length" p__law_length (spM K (m__law_length n))
  | 0 => cal_of hm F (fun _ _ _ _ _ _ us hl => match us, hl with | [_, _], _ => rfl) (fun _ _ _ _ _ _ us hl => match us, hl with | [_, _], _ => rfl) (fn_zero trivial)
  | n + 1 => cal_of hm F (fun _ _ _ _ _ _ us hl => match us, hl with | [_, _], _ => rfl) (fun _ _ _ _ _ _ us hl => match us, hl with | [_, _], _ => rfl) (fn_def F sc__law_length fun cdv A outer s H E hr => e__law_length T C__law_names (c__law_length hm F T C__law_names n) cdv A outer s H E hr)
abbrev N__law_number : List Str := ["_law_well_here", "_law_branch"]
abbrev p__law_number : List Str := ["_law_well_here"]
theorem sc__law_number : FnScope N__law_number p__law_number (defScope s__law_number) := ⟨rfl, rfl, rfl, by decide +kernel, rfl, by decide +kernel, by decide +kernel⟩
def b__law_number : Es := (sSeq (sSet 1 (eArgs m__law_draw (aCons (eVar 0) (aCons (eC (.int 24)) aNil)))) (sSeq (sIf (tV (eOp gEq (eVar 1) (eC (.int 23)))) (sRet (eArgs gTupP (aCons (eC (.str "number")) (aCons (eOp gSub (eC (.int 999999999)) (eArgs m__law_draw (aCons (eVar 0) (aCons (eC (.int 3)) aNil)))) aNil)))) sNil) (sSeq (sIf (tV (eOp gEq (eVar 1) (eC (.int 22)))) (sRet (eArgs gTupP (aCons (eC (.str "number")) (aCons (eOp gSub (eArgs m__law_draw (aCons (eVar 0) (aCons (eC (.int 3)) aNil))) (eC (.int 999999999))) aNil)))) sNil) (sSeq (sIf (tV (eOp gEq (eVar 1) (eC (.int 21)))) (sRet (eArgs gTupP (aCons (eC (.str "number")) (aCons (eOp gSub (eArgs m__law_draw (aCons (eVar 0) (aCons (eC (.int 1999999999)) aNil))) (eC (.int 999999999))) aNil)))) sNil) (sRet (eArgs gTupP (aCons (eC (.str "number")) (aCons (eOp gIx (eArgs gTupP (aCons (eC (.int 0)) (aCons (eC (.int 1)) (aCons (eC (.int 2)) (aCons (eC (.int 3)) (aCons (eC (.int 1)) (aCons (eUn gNeg (eC (.int 1))) (aCons (eC (.int 5)) (aCons (eC (.int 0)) (aCons (eUn gNeg (eC (.int 2))) (aCons (eC (.int 7)) aNil))))))))))) (eArgs m__law_draw (aCons (eVar 0) (aCons (eC (.int 10)) aNil)))) aNil))))))))
def m__law_number : Fn := mkDef 1 2 b__law_number
set_option maxHeartbeats 4000000 in
theorem e__law_number {f : Addr} (T : Txt K w mg) (C__law_draw : Cal P w K mg base 1 "_law_draw" p__law_draw (spM K m__law_draw)) (cdv : Value) (A : Around) (outer : List PySem.Env) (s : Shared) (H : Hp) (E : XK) (hr : Room 1 (A.deeper (envOfC "_law_number" (defScope s__law_number) s.heap.objs.size f cdv))) :
    ESs (cxOf CX0 P w K mg base N__law_number "_law_number" (defScope s__law_number) f cdv A outer s H E).nox (defBody s__law_number) b__law_number :=
  have S := sc__law_number
  (es_cons (es_set (ps_set (i := 1) S.nd rfl (Or.inl rfl) (ee_callC C__law_draw hr (by first | decide | omega) (by rfl) (ea_cons (ee_var 0 (pv 0)) (ea_cons ee_int ea_nil))))) (es_cons (es_if (et_cmp (op_eqA (hu64 hr)) l_eq (ee_var 1 (pv 1)) ee_int (nomark _)) (es_one (es_ret (ee_tup (ea_cons ee_str (ea_cons (ee_op op_sub l_sub ee_int (ee_callC C__law_draw hr (by first | decide | omega) (by rfl) (ea_cons (ee_var 0 (pv 0)) (ea_cons ee_int ea_nil)))) ea_nil))))) es_nil) (es_cons (es_if (et_cmp (op_eqA (hu64 hr)) l_eq (ee_var 1 (pv 1)) ee_int (nomark _)) (es_one (es_ret (ee_tup (ea_cons ee_str (ea_cons (ee_op op_sub l_sub (ee_callC C__law_draw hr (by first | decide | omega) (by rfl) (ea_cons (ee_var 0 (pv 0)) (ea_cons ee_int ea_nil))) ee_int) ea_nil))))) es_nil) (es_cons (es_if (et_cmp (op_eqA (hu64 hr)) l_eq (ee_var 1 (pv 1)) ee_int (nomark _)) (es_one (es_ret (ee_tup (ea_cons ee_str (ea_cons (ee_op op_sub l_sub (ee_callC C__law_draw hr (by first | decide | omega) (by rfl) (ea_cons (ee_var 0 (pv 0)) (ea_cons ee_int ea_nil))) ee_int) ea_nil))))) es_nil) (es_one (es_ret (ee_tup (ea_cons ee_str (ea_cons (ee_ix (ee_tup (ea_cons ee_int (ea_cons ee_int (ea_cons ee_int (ea_cons ee_int (ea_cons ee_int (ea_cons (ee_un un_neg l_neg ee_int) (ea_cons ee_int (ea_cons ee_int (ea_cons (ee_un un_neg l_neg ee_int) (ea_cons ee_int ea_nil))))))))))) (ee_callC C__law_draw hr (by first | decide | omega) (by rfl) (ea_cons (ee_var 0 (pv 0)) (ea_cons ee_int ea_nil))) (fun _ _ => rfl)) ea_nil)))))))))
theorem c__law_number {f : Addr} {fd : FuncData} (hm : mg "_law_number" = some (.ref f)) (F : FunD K "_law_number" "_law_number" (defArgs s__law_number) (defBody s__law_number) (defScope s__law_number) [] [] f fd) (T : Txt K w mg) (C__law_draw : Cal P w K mg base 1 "_law_draw" p__law_draw (spM K m__law_draw)) : Cal P w K mg base 2 "_law_number" p__law_number (spM K m__law_number) :=
  cal_of hm F (fun _ _ _ _ _ _ us hl => match us, hl with | [_], _ => rfl) (fun _ _ _ _ _ _ us hl => match us, hl with | [_], _ => rfl) (fn_def F sc__law_number fun cdv A outer s H E hr => e__law_number T C__law_draw cdv A outer s H E hr)
abbrev N__law_tree : List Str := ["_law_well_here", "_law_book_here", "_law_deep", "_law_left", "_law_free", "_law_ats", "_law_words", "_law_word_here", "_law_names_here", "_law_branch", "_law_form_here", "_law_b"]
abbrev p__law_tree : List Str := ["_law_well_here", "_law_book_here", "_law_deep", "_law_left", "_law_free", "_law_ats"]
theorem sc__law_tree : FnScope N__law_tree p__law_tree (defScope s__law_tree) := ⟨rfl, rfl, rfl, by decide +kernel, rfl, by decide +kernel, by decide +kernel⟩
def b__law_tree (m_self : Fn) : Es := (sSeq (sSet 6 (eArgs gTupP (aCons (eC (.str "call")) (aCons (eC (.str "fn")) (aCons (eC (.str "pair")) (aCons (eC (.str "plus")) (aCons (eC (.str "test")) (aCons (eC (.str "again")) (aCons (eC (.str "first")) (aCons (eC (.str "second")) (aCons (eC (.str "minus")) (aCons (eC (.str "times")) (aCons (eC (.str "put")) (aCons (eC (.str "box")) (aCons (eC (.str "look")) aNil))))))))))))))) (sSeq (sSet 6 (eOp gAdd (eOp gAdd (eVar 6) (eArgs gTupP (aCons (eC (.str "say")) (aCons (eC (.str "call")) (aCons (eC (.str "fn")) (aCons (eC (.str "test")) aNil)))))) (eOp gRep (eArgs gTupOf (aCons (fComp (iSeq (eVar 1)) (nName 10) tYesE (eOp gIx (eVar 10) (eC (.int 0))) [10]) aNil)) (eC (.int 4))))) (sSeq (sSet 7 (eArgs m__law_pick (aCons (eVar 0) (aCons (eVar 6) aNil)))) (sSeq (sSet 8 (eArgs m__law_names (aCons (eVar 1) (aCons (eVar 7) aNil)))) (sSeq (sIf (tAndE (tV (eOp gLe (eOp gAdd (eArgs gSumA (aCons (eVar 8) aNil)) (eArgs gLen (aCons (eVar 8) aNil))) (eOp gIx (eVar 3) (eC (.int 0))))) (tV (eOp gGt (eArgs m__law_draw (aCons (eVar 0) (aCons (eC (.int 6)) aNil))) (eC (.int 0))))) (sSeq (sAsg (eOp gSub (eOp gSub (eOp gIx (eVar 3) (eC (.int 0))) (eArgs gSumA (aCons (eVar 8) aNil))) (eArgs gLen (aCons (eVar 8) aNil))) (nSubL (eVar 3) (eC (.int 0)))) (sRet (eOp gAdd (eArgs gTupP (aCons (eVar 7) aNil)) (eArgs gTupOf (aCons (fComp (iSeq (eVar 8)) (nName 11) tYesE (eArgs m_self (aCons (eVar 0) (aCons (eVar 1) (aCons (eOp gAdd (eVar 2) (eVar 11)) (aCons (eVar 3) (aCons (eVar 4) (aCons (eVar 5) aNil))))))) [11]) aNil))))) sNil) (sSeq (sSet 9 (eArgs m__law_draw (aCons (eVar 0) (aCons (eC (.int 5)) aNil)))) (sSeq (sIf (tAndE (tV (eOp gLt (eVar 9) (eC (.int 3)))) (tV (eOp gGt (eOp gAdd (eVar 2) (eVar 4)) (eC (.int 0))))) (sRet (eArgs gTupP (aCons (eC (.str "name")) (aCons (eArgs m__law_draw (aCons (eVar 0) (aCons (eOp gAdd (eVar 2) (eVar 4)) aNil))) aNil)))) sNil) (sSeq (sIf (tAndE (tV (eOp gEq (eVar 9) (eC (.int 3)))) (tV (eOp gGt (eVar 5) (eC (.int 0))))) (sRet (eArgs gTupP (aCons (eC (.str "at")) (aCons (eArgs m__law_draw (aCons (eVar 0) (aCons (eVar 5) aNil))) aNil)))) sNil) (sRet (eArgs m__law_number (aCons (eVar 0) aNil)))))))))))
def m__law_tree : Nat → Fn
  | 0 => fun _ _ => .no
  | n + 1 => mkDef 6 12 (b__law_tree (m__law_tree n))
set_option maxHeartbeats 4000000 in
theorem e__law_tree {f : Addr} (T : Txt K w mg) (C__law_draw : Cal P w K mg base 1 "_law_draw" p__law_draw (spM K m__law_draw)) (C__law_names : Cal P w K mg base 1 "_law_names" p__law_names (spM K m__law_names)) (C__law_number : Cal P w K mg base 2 "_law_number" p__law_number (spM K m__law_number)) (C__law_pick : Cal P w K mg base 2 "_law_pick" p__law_pick (spM K m__law_pick)) {n : Nat} (C__law_tree : Cal P w K mg base (2 + n) "_law_tree" p__law_tree (spM K (m__law_tree n))) (cdv : Value) (A : Around) (outer : List PySem.Env) (s : Shared) (H : Hp) (E : XK) (hr : Room (2 + n) (A.deeper (envOfC "_law_tree" (defScope s__law_tree) s.heap.objs.size f cdv))) :
    ESs (cxOf CX0 P w K mg base N__law_tree "_law_tree" (defScope s__law_tree) f cdv A outer s H E).nox (defBody s__law_tree) (b__law_tree (m__law_tree n)) :=
  have S := sc__law_tree
  (es_cons (es_set (ps_set (i := 6) S.nd rfl (Or.inl rfl) (ee_tup (ea_cons ee_str (ea_cons ee_str (ea_cons ee_str (ea_cons ee_str (ea_cons ee_str (ea_cons ee_str (ea_cons ee_str (ea_cons ee_str (ea_cons ee_str (ea_cons ee_str (ea_cons ee_str (ea_cons ee_str (ea_cons ee_str ea_nil)))))))))))))))) (es_cons (es_set (ps_set (i := 6) S.nd rfl (Or.inl rfl) (ee_op op_addA l_add (ee_op op_addA l_add (ee_var 6 (pv 6)) (ee_tup (ea_cons ee_str (ea_cons ee_str (ea_cons ee_str (ea_cons ee_str ea_nil)))))) (ee_op op_repA l_rep (ee_callTy call_tuple_of l_tupOf (by rfl) T.tuple (by decide +kernel) (ea_cons (ee_pure (ef_comp (own := [("_law_form_here", 10)]) (g := (gName 10)) rfl S.nd (blkOk_by (N := N__law_tree) (sc := defScope s__law_tree) (by decide +kernel)) (tgt_name (by decide)) (ei_seq (ee_var 1 (pv 1))) (fun _ _ _ _ _ => pg_name (i := 10) S.nd rfl (Or.inl rfl)) (fun _ _ _ _ _ => ei_none) (fun _ _ _ _ _ => (ee_ix (ee_var 10 (pv 10)) ee_int (fun _ _ => rfl))))) ea_nil)) ee_int)))) (es_cons (es_set (ps_set (i := 7) S.nd rfl (Or.inl rfl) (ee_callC C__law_pick hr (by first | decide | omega) (by rfl) (ea_cons (ee_var 0 (pv 0)) (ea_cons (ee_var 6 (pv 6)) ea_nil))))) (es_cons (es_set (ps_set (i := 8) S.nd rfl (Or.inl rfl) (ee_callC C__law_names hr (by first | decide | omega) (by rfl) (ea_cons (ee_var 1 (pv 1)) (ea_cons (ee_var 7 (pv 7)) ea_nil))))) (es_cons (es_if (et_w (ew_and (et_cmp (op_le) l_le (ee_op op_addA l_add (ee_callB (call_sumA rfl) l_sumA (by rfl) T.sum (by decide +kernel) (ea_cons (ee_var 8 (pv 8)) ea_nil)) (ee_callB call_lenA l_len (by rfl) T.len (by decide +kernel) (ea_cons (ee_var 8 (pv 8)) ea_nil))) (ee_ix (ee_var 3 (pv 3)) ee_int (fun _ _ => rfl)) (nomark _)) (ew_and1 (et_cmp (op_gt) l_gt (ee_callC C__law_draw hr (by first | decide | omega) (by rfl) (ea_cons (ee_var 0 (pv 0)) (ea_cons ee_int ea_nil))) ee_int (nomark _))))) (es_cons (es_asg (ee_op op_sub l_sub (ee_op op_sub l_sub (ee_ix (ee_var 3 (pv 3)) ee_int (fun _ _ => rfl)) (ee_callB (call_sumA rfl) l_sumA (by rfl) T.sum (by decide +kernel) (ea_cons (ee_var 8 (pv 8)) ea_nil))) (ee_callB call_lenA l_len (by rfl) T.len (by decide +kernel) (ea_cons (ee_var 8 (pv 8)) ea_nil))) (eg_subL (ee_var 3 (pv 3)) ee_int (pg_sub (ee_var 3 (pv 3)) ee_int set_list))) (es_one (es_ret (ee_op op_addA l_add (ee_tup (ea_cons (ee_var 7 (pv 7)) ea_nil)) (ee_callTy call_tuple_of l_tupOf (by rfl) T.tuple (by decide +kernel) (ea_cons (ee_pure (ef_comp (own := [("_law_b", 11)]) (g := (gName 11)) rfl S.nd (blkOk_by (N := N__law_tree) (sc := defScope s__law_tree) (by decide +kernel)) (tgt_name (by decide)) (ei_seq (ee_var 8 (pv 8))) (fun _ _ _ _ _ => pg_name (i := 11) S.nd rfl (Or.inl rfl)) (fun _ _ _ _ _ => ei_none) (fun _ _ _ _ _ => (ee_callC C__law_tree hr (by first | decide | omega) (by rfl) (ea_cons (ee_var 0 (pv 0)) (ea_cons (ee_var 1 (pv 1)) (ea_cons (ee_op op_addA l_add (ee_var 2 (pv 2)) (ee_var 11 (pv 11))) (ea_cons (ee_var 3 (pv 3)) (ea_cons (ee_var 4 (pv 4)) (ea_cons (ee_var 5 (pv 5)) ea_nil)))))))))) ea_nil)))))) es_nil) (es_cons (es_set (ps_set (i := 9) S.nd rfl (Or.inl rfl) (ee_callC C__law_draw hr (by first | decide | omega) (by rfl) (ea_cons (ee_var 0 (pv 0)) (ea_cons ee_int ea_nil))))) (es_cons (es_if (et_w (ew_and (et_cmp (op_lt) l_lt (ee_var 9 (pv 9)) ee_int (nomark _)) (ew_and1 (et_cmp (op_gt) l_gt (ee_op op_addA l_add (ee_var 2 (pv 2)) (ee_var 4 (pv 4))) ee_int (nomark _))))) (es_one (es_ret (ee_tup (ea_cons ee_str (ea_cons (ee_callC C__law_draw hr (by first | decide | omega) (by rfl) (ea_cons (ee_var 0 (pv 0)) (ea_cons (ee_op op_addA l_add (ee_var 2 (pv 2)) (ee_var 4 (pv 4))) ea_nil))) ea_nil))))) es_nil) (es_cons (es_if (et_w (ew_and (et_cmp (op_eqA (hu64 hr)) l_eq (ee_var 9 (pv 9)) ee_int (nomark _)) (ew_and1 (et_cmp (op_gt) l_gt (ee_var 5 (pv 5)) ee_int (nomark _))))) (es_one (es_ret (ee_tup (ea_cons ee_str (ea_cons (ee_callC C__law_draw hr (by first | decide | omega) (by rfl) (ea_cons (ee_var 0 (pv 0)) (ea_cons (ee_var 5 (pv 5)) ea_nil))) ea_nil))))) es_nil) (es_one (es_ret (ee_callC C__law_number hr (by first | decide | omega) (by rfl) (ea_cons (ee_var 0 (pv 0)) ea_nil))))))))))))
theorem c__law_tree {f : Addr} {fd : FuncData} (hm : mg "_law_tree" = some (.ref f)) (F : FunD K "_law_tree" "_law_tree" (defArgs s__law_tree) (defBody s__law_tree) (defScope s__law_tree) [] [] f fd) (T : Txt K w mg) (C__law_draw : Cal P w K mg base 1 "_law_draw" p__law_draw (spM K m__law_draw)) (C__law_names : Cal P w K mg base 1 "_law_names" p__law_names (spM K m__law_names)) (C__law_number : Cal P w K mg base 2 "_law_number" p__law_number (spM K m__law_number)) (C__law_pick : Cal P w K mg base 2 "_law_pick" p__law_pick (spM K m__law_pick)) : ∀ n : Nat, Cal P w K mg base (2 + n) "_law_tree" p__law_tree (spM K (m__law_tree n))
  | 0 => cal_of hm F (fun _ _ _ _ _ _ us hl => match us, hl with | [_, _, _, _, _, _], _ => rfl) (fun _ _ _ _ _ _ us hl => match us, hl with | [_, _, _, _, _, _], _ => rfl) (fn_zero trivial)
  | n + 1 => cal_of hm F (fun _ _ _ _ _ _ us hl => match us, hl with | [_, _, _, _, _, _], _ => rfl) (fun _ _ _ _ _ _ us hl => match us, hl with | [_, _, _, _, _, _], _ => rfl) (fn_def F sc__law_tree fun cdv A outer s H E hr => e__law_tree T C__law_draw C__law_names C__law_number C__law_pick (c__law_tree hm F T C__law_draw C__law_names C__law_number C__law_pick n) cdv A outer s H E hr)
abbrev N__law_form : List Str := ["_law_well_here", "_law_book_here", "_law_ahead", "_law_word_here", "_law_root", "_law_names_here", "_law_left", "_law_template", "_law_leaves_here", "_law_told_here", "_law_holes", "_law_spare", "_law_turn", "_law_place", "_law_deep", "_law_some", "_law_form_here", "_law_b"]
abbrev p__law_form : List Str := ["_law_well_here", "_law_book_here"]
theorem sc__law_form : FnScope N__law_form p__law_form (defScope s__law_form) := ⟨rfl, rfl, rfl, by decide +kernel, rfl, by decide +kernel, by decide +kernel⟩
def b__law_form : Es := (sSeq (sSet 2 (eArgs gTupOf (aCons (fComp (iSeq (eVar 1)) (nName 16) tYesE (eOp gIx (eVar 16) (eC (.int 0))) [16]) aNil))) (sSeq (sSet 3 (eArgs m__law_word (aCons (eVar 0) (aCons (eVar 2) aNil)))) (sSeq (sSet 4 (eArgs m__law_pick (aCons (eVar 0) (aCons (eOp gAdd (eArgs gTupP (aCons (eC (.str "call")) (aCons (eC (.str "fn")) (aCons (eC (.str "pair")) (aCons (eC (.str "plus")) (aCons (eC (.str "test")) (aCons (eC (.str "again")) (aCons (eC (.str "first")) (aCons (eC (.str "call")) aNil))))))))) (eVar 2)) aNil)))) (sSeq (sSet 5 (eArgs m__law_names (aCons (eVar 1) (aCons (eVar 4) aNil)))) (sSeq (sSet 6 (eNew (eArgs gLstP (aCons (eArgs gMin2 (aCons (eArgs m__law_pick (aCons (eVar 0) (aCons (eArgs gTupP (aCons (eC (.int 0)) (aCons (eC (.int 3)) (aCons (eC (.int 6)) (aCons (eC (.int 6)) (aCons (eC (.int 9)) (aCons (eC (.int 12)) (aCons (eC (.int 20)) aNil)))))))) aNil))) (aCons (eOp gSub (eOp gSub (eC (.int 23)) (eArgs gSumA (aCons (eVar 5) aNil))) (eArgs gLen (aCons (eVar 5) aNil))) aNil))) aNil)))) (sSeq (sSet 7 (eOp gAdd (eArgs gTupP (aCons (eVar 4) aNil)) (eArgs gTupOf (aCons (fComp (iSeq (eVar 5)) (nName 17) tYesE (eArgs (m__law_tree 40) (aCons (eVar 0) (aCons (eVar 1) (aCons (eVar 17) (aCons (eVar 6) (aCons (eC (.int 0)) (aCons (eC (.int 0)) aNil))))))) [17]) aNil)))) (sSeq (sPar 8 9 (eNew (eArgs (m__law_leaves 64) (aCons (eVar 1) (aCons (eVar 7) (aCons (eArgs gTupP aNil) (aCons (eC (.int 0)) aNil)))))) (eNew (eArgs gLstP aNil))) (sSeq (sSet 10 (eArgs gMin2 (aCons (eArgs m__law_pick (aCons (eVar 0) (aCons (eArgs gTupP (aCons (eC (.int 1)) (aCons (eC (.int 2)) (aCons (eC (.int 2)) (aCons (eC (.int 3)) (aCons (eC (.int 4)) aNil)))))) aNil))) (aCons (eArgs gLen (aCons (eVar 8) aNil)) aNil)))) (sSeq (sSet 11 (eOp gSub (eOp gSub (eArgs (m__law_length 64) (aCons (eVar 1) (aCons (eVar 7) aNil))) (eVar 10)) (eC (.int 1)))) (sSeq (sFor (iArgs gRange (aCons (eVar 10) aNil)) (nName 12) (sSeq (sAsg (eMeth1 gPopAt (eVar 8) (eArgs m__law_draw (aCons (eVar 0) (aCons (eArgs gLen (aCons (eVar 8) aNil)) aNil)))) (nTup 2 (nCons (nName 13) (nCons (nName 14) nNil)))) (sSeq (sSet 15 (eArgs m__law_told (aCons (eVar 0) (aCons (eVar 14) (aCons (eArgs gMin2 (aCons (eArgs m__law_pick (aCons (eVar 0) (aCons (eArgs gTupP (aCons (eC (.int 2)) (aCons (eC (.int 1)) (aCons (eC (.int 0)) (aCons (eC (.int 1)) aNil))))) aNil))) (aCons (eOp gSub (eVar 11) (eArgs gSumA (aCons (eVar 9) aNil))) aNil))) aNil))))) (sSeq (sSet 7 (eArgs (m__law_replaced 64) (aCons (eVar 7) (aCons (eVar 13) (aCons (eOp gAdd (eArgs gTupP (aCons (eC (.str "hole")) (aCons (eVar 12) aNil))) (eVar 15)) aNil))))) (sExpr (eMeth1 gApp (eVar 9) (eArgs gLen (aCons (eVar 15) aNil)))))))) (sRet (eArgs gTupP (aCons (eVar 3) (aCons (eArgs gTupOf (aCons (eVar 9) aNil)) (aCons (eVar 7) aNil)))))))))))))))
def m__law_form : Fn := mkDef 2 18 b__law_form
set_option maxHeartbeats 4000000 in
theorem e__law_form {f : Addr} (T : Txt K w mg) (C__law_draw : Cal P w K mg base 1 "_law_draw" p__law_draw (spM K m__law_draw)) (C__law_leaves : Cal P w K mg base 65 "_law_leaves" p__law_leaves (spN K (m__law_leaves 64))) (C__law_length : Cal P w K mg base 65 "_law_length" p__law_length (spM K (m__law_length 64))) (C__law_names : Cal P w K mg base 1 "_law_names" p__law_names (spM K m__law_names)) (C__law_pick : Cal P w K mg base 2 "_law_pick" p__law_pick (spM K m__law_pick)) (C__law_replaced : Cal P w K mg base 64 "_law_replaced" p__law_replaced (spM K (m__law_replaced 64))) (C__law_told : Cal P w K mg base 2 "_law_told" p__law_told (spM K m__law_told)) (C__law_tree : Cal P w K mg base 42 "_law_tree" p__law_tree (spM K (m__law_tree 40))) (C__law_word : Cal P w K mg base 3 "_law_word" p__law_word (spM K m__law_word)) (cdv : Value) (A : Around) (outer : List PySem.Env) (s : Shared) (H : Hp) (E : XK) (hr : Room 65 (A.deeper (envOfC "_law_form" (defScope s__law_form) s.heap.objs.size f cdv))) :
    ESs (cxOf CX0 P w K mg base N__law_form "_law_form" (defScope s__law_form) f cdv A outer s H E).nox (defBody s__law_form) b__law_form :=
  have S := sc__law_form
  (es_cons (es_set (ps_set (i := 2) S.nd rfl (Or.inl rfl) (ee_callTy call_tuple_of l_tupOf (by rfl) T.tuple (by decide +kernel) (ea_cons (ee_pure (ef_comp (own := [("_law_form_here", 16)]) (g := (gName 16)) rfl S.nd (blkOk_by (N := N__law_form) (sc := defScope s__law_form) (by decide +kernel)) (tgt_name (by decide)) (ei_seq (ee_var 1 (pv 1))) (fun _ _ _ _ _ => pg_name (i := 16) S.nd rfl (Or.inl rfl)) (fun _ _ _ _ _ => ei_none) (fun _ _ _ _ _ => (ee_ix (ee_var 16 (pv 16)) ee_int (fun _ _ => rfl))))) ea_nil)))) (es_cons (es_set (ps_set (i := 3) S.nd rfl (Or.inl rfl) (ee_callC C__law_word hr (by first | decide | omega) (by rfl) (ea_cons (ee_var 0 (pv 0)) (ea_cons (ee_var 2 (pv 2)) ea_nil))))) (es_cons (es_set (ps_set (i := 4) S.nd rfl (Or.inl rfl) (ee_callC C__law_pick hr (by first | decide | omega) (by rfl) (ea_cons (ee_var 0 (pv 0)) (ea_cons (ee_op op_addA l_add (ee_tup (ea_cons ee_str (ea_cons ee_str (ea_cons ee_str (ea_cons ee_str (ea_cons ee_str (ea_cons ee_str (ea_cons ee_str (ea_cons ee_str ea_nil))))))))) (ee_var 2 (pv 2))) ea_nil))))) (es_cons (es_set (ps_set (i := 5) S.nd rfl (Or.inl rfl) (ee_callC C__law_names hr (by first | decide | omega) (by rfl) (ea_cons (ee_var 1 (pv 1)) (ea_cons (ee_var 4 (pv 4)) ea_nil))))) (es_cons (es_set (ps_set (i := 6) S.nd rfl (Or.inr rfl) (ee_new (ef_lst (ea_cons (ee_callB (call_min2 rfl) l_min2 (by rfl) T.min (by decide +kernel) (ea_cons (ee_callC C__law_pick hr (by first | decide | omega) (by rfl) (ea_cons (ee_var 0 (pv 0)) (ea_cons (ee_tup (ea_cons ee_int (ea_cons ee_int (ea_cons ee_int (ea_cons ee_int (ea_cons ee_int (ea_cons ee_int (ea_cons ee_int ea_nil)))))))) ea_nil))) (ea_cons (ee_op op_sub l_sub (ee_op op_sub l_sub ee_int (ee_callB (call_sumA rfl) l_sumA (by rfl) T.sum (by decide +kernel) (ea_cons (ee_var 5 (pv 5)) ea_nil))) (ee_callB call_lenA l_len (by rfl) T.len (by decide +kernel) (ea_cons (ee_var 5 (pv 5)) ea_nil))) ea_nil))) ea_nil))))) (es_cons (es_set (ps_set (i := 7) S.nd rfl (Or.inl rfl) (ee_op op_addA l_add (ee_tup (ea_cons (ee_var 4 (pv 4)) ea_nil)) (ee_callTy call_tuple_of l_tupOf (by rfl) T.tuple (by decide +kernel) (ea_cons (ee_pure (ef_comp (own := [("_law_b", 17)]) (g := (gName 17)) rfl S.nd (blkOk_by (N := N__law_form) (sc := defScope s__law_form) (by decide +kernel)) (tgt_name (by decide)) (ei_seq (ee_var 5 (pv 5))) (fun _ _ _ _ _ => pg_name (i := 17) S.nd rfl (Or.inl rfl)) (fun _ _ _ _ _ => ei_none) (fun _ _ _ _ _ => (ee_callC C__law_tree hr (by first | decide | omega) (by rfl) (ea_cons (ee_var 0 (pv 0)) (ea_cons (ee_var 1 (pv 1)) (ea_cons (ee_var 17 (pv 17)) (ea_cons (ee_var 6 (pv 6)) (ea_cons ee_int (ea_cons ee_int ea_nil)))))))))) ea_nil))))) (es_cons (es_par2 (i := 8) (j := 9) (by rfl) S.nd rfl rfl (by decide) rfl rfl (ee_new (ef_callC C__law_leaves hr (by first | decide | omega) (by rfl) (ea_cons (ee_var 1 (pv 1)) (ea_cons (ee_var 7 (pv 7)) (ea_cons (ee_tup ea_nil) (ea_cons ee_int ea_nil)))))) (ee_new (ef_lst ea_nil)) (by rfl) (by rfl)) (es_cons (es_set (ps_set (i := 10) S.nd rfl (Or.inl rfl) (ee_callB (call_min2 rfl) l_min2 (by rfl) T.min (by decide +kernel) (ea_cons (ee_callC C__law_pick hr (by first | decide | omega) (by rfl) (ea_cons (ee_var 0 (pv 0)) (ea_cons (ee_tup (ea_cons ee_int (ea_cons ee_int (ea_cons ee_int (ea_cons ee_int (ea_cons ee_int ea_nil)))))) ea_nil))) (ea_cons (ee_callB call_lenA l_len (by rfl) T.len (by decide +kernel) (ea_cons (ee_var 8 (pv 8)) ea_nil)) ea_nil))))) (es_cons (es_set (ps_set (i := 11) S.nd rfl (Or.inl rfl) (ee_op op_sub l_sub (ee_op op_sub l_sub (ee_callC C__law_length hr (by first | decide | omega) (by rfl) (ea_cons (ee_var 1 (pv 1)) (ea_cons (ee_var 7 (pv 7)) ea_nil))) (ee_var 10 (pv 10))) ee_int))) (es_cons (es_for PassesOwn.never rfl (ei_range1 (by rfl) T.range (ea_cons (ee_var 10 (pv 10)) ea_nil) (by intro ρ S ps S' h; exact aLen1 h)) (eg_name (pg_name (i := 12) S.nd rfl (Or.inl rfl))) (es_cons (es_asg (ee_meth1 l_popAt (pe_bm PySem.F.plainAttrs_list PySem.F.slot_list_pop PySem.F.type_list_pop mt_popAt (ee_var 8 (pv 8)) (pa_cons (ee_callC C__law_draw hr (by first | decide | omega) (by rfl) (ea_cons (ee_var 0 (pv 0)) (ea_cons (ee_callB call_lenA l_len (by rfl) T.len (by decide +kernel) (ea_cons (ee_var 8 (pv 8)) ea_nil)) ea_nil))) pa_nil))) (eg_tup rfl (egs_cons (eg_name (pg_name (i := 13) S.nd rfl (Or.inl rfl))) (egs_cons (eg_name (pg_name (i := 14) S.nd rfl (Or.inl rfl))) egs_nil)))) (es_cons (es_set (ps_set (i := 15) S.nd rfl (Or.inl rfl) (ee_callC C__law_told hr (by first | decide | omega) (by rfl) (ea_cons (ee_var 0 (pv 0)) (ea_cons (ee_var 14 (pv 14)) (ea_cons (ee_callB (call_min2 rfl) l_min2 (by rfl) T.min (by decide +kernel) (ea_cons (ee_callC C__law_pick hr (by first | decide | omega) (by rfl) (ea_cons (ee_var 0 (pv 0)) (ea_cons (ee_tup (ea_cons ee_int (ea_cons ee_int (ea_cons ee_int (ea_cons ee_int ea_nil))))) ea_nil))) (ea_cons (ee_op op_sub l_sub (ee_var 11 (pv 11)) (ee_callB (call_sumA rfl) l_sumA (by rfl) T.sum (by decide +kernel) (ea_cons (ee_var 9 (pv 9)) ea_nil))) ea_nil))) ea_nil)))))) (es_cons (es_set (ps_set (i := 7) S.nd rfl (Or.inl rfl) (ee_callC C__law_replaced hr (by first | decide | omega) (by rfl) (ea_cons (ee_var 7 (pv 7)) (ea_cons (ee_var 13 (pv 13)) (ea_cons (ee_op op_addA l_add (ee_tup (ea_cons ee_str (ea_cons (ee_var 12 (pv 12)) ea_nil))) (ee_var 15 (pv 15))) ea_nil)))))) (es_one (es_expr (ee_meth1 l_app (pe_bm PySem.F.plainAttrs_list PySem.F.slot_list_append PySem.F.type_list_append mt_append (ee_var 9 (pv 9)) (pa_cons (ee_callB call_lenA l_len (by rfl) T.len (by decide +kernel) (ea_cons (ee_var 15 (pv 15)) ea_nil)) pa_nil))))))))) (es_one (es_ret (ee_tup (ea_cons (ee_var 3 (pv 3)) (ea_cons (ee_callTy call_tuple_of l_tupOf (by rfl) T.tuple (by decide +kernel) (ea_cons (ee_var 9 (pv 9)) ea_nil)) (ea_cons (ee_var 7 (pv 7)) ea_nil))))))))))))))))
theorem c__law_form {f : Addr} {fd : FuncData} (hm : mg "_law_form" = some (.ref f)) (F : FunD K "_law_form" "_law_form" (defArgs s__law_form) (defBody s__law_form) (defScope s__law_form) [] [] f fd) (T : Txt K w mg) (C__law_draw : Cal P w K mg base 1 "_law_draw" p__law_draw (spM K m__law_draw)) (C__law_leaves : Cal P w K mg base 65 "_law_leaves" p__law_leaves (spN K (m__law_leaves 64))) (C__law_length : Cal P w K mg base 65 "_law_length" p__law_length (spM K (m__law_length 64))) (C__law_names : Cal P w K mg base 1 "_law_names" p__law_names (spM K m__law_names)) (C__law_pick : Cal P w K mg base 2 "_law_pick" p__law_pick (spM K m__law_pick)) (C__law_replaced : Cal P w K mg base 64 "_law_replaced" p__law_replaced (spM K (m__law_replaced 64))) (C__law_told : Cal P w K mg base 2 "_law_told" p__law_told (spM K m__law_told)) (C__law_tree : Cal P w K mg base 42 "_law_tree" p__law_tree (spM K (m__law_tree 40))) (C__law_word : Cal P w K mg base 3 "_law_word" p__law_word (spM K m__law_word)) : Cal P w K mg base 66 "_law_form" p__law_form (spM K m__law_form) :=
  cal_of hm F (fun _ _ _ _ _ _ us hl => match us, hl with | [_, _], _ => rfl) (fun _ _ _ _ _ _ us hl => match us, hl with | [_, _], _ => rfl) (fn_def F sc__law_form fun cdv A outer s H E hr => e__law_form T C__law_draw C__law_leaves C__law_length C__law_names C__law_pick C__law_replaced C__law_told C__law_tree C__law_word cdv A outer s H E hr)
abbrev N__law_book : List Str := ["_law_well_here", "_law_many", "_law_book_here", "_law_turn"]
abbrev p__law_book : List Str := ["_law_well_here", "_law_many"]
theorem sc__law_book : FnScope N__law_book p__law_book (defScope s__law_book) := ⟨rfl, rfl, rfl, by decide +kernel, rfl, by decide +kernel, by decide +kernel⟩
def b__law_book : Es := (sSeq (sSet 2 (eArgs gTupP aNil)) (sSeq (sFor (iArgs gRange (aCons (eVar 1) aNil)) (nName 3) (sSet 2 (eOp gAdd (eVar 2) (eArgs gTupP (aCons (eArgs m__law_form (aCons (eVar 0) (aCons (eVar 2) aNil))) aNil))))) (sRet (eVar 2))))
def m__law_book : Fn := mkDef 2 4 b__law_book
set_option maxHeartbeats 4000000 in
theorem e__law_book {f : Addr} (T : Txt K w mg) (C__law_form : Cal P w K mg base 66 "_law_form" p__law_form (spM K m__law_form)) (cdv : Value) (A : Around) (outer : List PySem.Env) (s : Shared) (H : Hp) (E : XK) (hr : Room 66 (A.deeper (envOfC "_law_book" (defScope s__law_book) s.heap.objs.size f cdv))) :
    ESs (cxOf CX0 P w K mg base N__law_book "_law_book" (defScope s__law_book) f cdv A outer s H E).nox (defBody s__law_book) b__law_book :=
  have S := sc__law_book
  (es_cons (es_set (ps_set (i := 2) S.nd rfl (Or.inl rfl) (ee_tup ea_nil))) (es_cons (es_for PassesOwn.never rfl (ei_range1 (by rfl) T.range (ea_cons (ee_var 1 (pv 1)) ea_nil) (by intro ρ S ps S' h; exact aLen1 h)) (eg_name (pg_name (i := 3) S.nd rfl (Or.inl rfl))) (es_one (es_set (ps_set (i := 2) S.nd rfl (Or.inl rfl) (ee_op op_addA l_add (ee_var 2 (pv 2)) (ee_tup (ea_cons (ee_callC C__law_form hr (by first | decide | omega) (by rfl) (ea_cons (ee_var 0 (pv 0)) (ea_cons (ee_var 2 (pv 2)) ea_nil))) ea_nil))))))) (es_one (es_ret (ee_var 2 (pv 2))))))
theorem c__law_book {f : Addr} {fd : FuncData} (hm : mg "_law_book" = some (.ref f)) (F : FunD K "_law_book" "_law_book" (defArgs s__law_book) (defBody s__law_book) (defScope s__law_book) [] [] f fd) (T : Txt K w mg) (C__law_form : Cal P w K mg base 66 "_law_form" p__law_form (spM K m__law_form)) : Cal P w K mg base 67 "_law_book" p__law_book (spM K m__law_book) :=
  cal_of hm F (fun _ _ _ _ _ _ us hl => match us, hl with | [_, _], _ => rfl) (fun _ _ _ _ _ _ us hl => match us, hl with | [_, _], _ => rfl) (fn_def F sc__law_book fun cdv A outer s H E hr => e__law_book T C__law_form cdv A outer s H E hr)
abbrev N__law_holed : List Str := ["_law_well_here", "_law_book_here", "_law_term", "_law_leaves_here", "_law_found", "_law_turn", "_law_place", "_law_deep", "_law_hole", "_law_more"]
abbrev p__law_holed : List Str := ["_law_well_here", "_law_book_here", "_law_term"]
theorem sc__law_holed : FnScope N__law_holed p__law_holed (defScope s__law_holed) := ⟨rfl, rfl, rfl, by decide +kernel, rfl, by decide +kernel, by decide +kernel⟩
def b__law_holed : Es := (sSeq (sPar 3 4 (eNew (eArgs (m__law_leaves 64) (aCons (eVar 1) (aCons (eVar 2) (aCons (eArgs gTupP aNil) (aCons (eC (.int 0)) aNil)))))) (eVar 2)) (sSeq (sFor (iArgs gRange (aCons (eArgs gMin2 (aCons (eArgs m__law_draw (aCons (eVar 0) (aCons (eC (.int 4)) aNil))) (aCons (eArgs gLen (aCons (eVar 3) aNil)) aNil))) aNil)) (nName 5) (sSeq (sAsg (eMeth1 gPopAt (eVar 3) (eArgs m__law_draw (aCons (eVar 0) (aCons (eArgs gLen (aCons (eVar 3) aNil)) aNil)))) (nTup 2 (nCons (nName 6) (nCons (nName 7) nNil)))) (sSeq (sSet 8 (eArgs gTupP (aCons (eC (.str "hole")) (aCons (eIf (tV (eOp gEq (eArgs m__law_draw (aCons (eVar 0) (aCons (eC (.int 3)) aNil))) (eC (.int 0)))) (eArgs m__law_draw (aCons (eVar 0) (aCons (eC (.int 100)) aNil))) (eVar 5)) aNil)))) (sSeq (sFor (iArgs gRange (aCons (eArgs m__law_draw (aCons (eVar 0) (aCons (eC (.int 3)) aNil))) aNil)) (nName 9) (sSet 8 (eOp gAdd (eVar 8) (eArgs gTupP (aCons (eArgs m__law_draw (aCons (eVar 0) (aCons (eOp gAdd (eVar 7) (eC (.int 3))) aNil))) aNil))))) (sSet 4 (eArgs (m__law_replaced 64) (aCons (eVar 4) (aCons (eVar 6) (aCons (eVar 8) aNil))))))))) (sRet (eVar 4))))
def m__law_holed : Fn := mkDef 3 10 b__law_holed
set_option maxHeartbeats 4000000 in
theorem e__law_holed {f : Addr} (T : Txt K w mg) (C__law_draw : Cal P w K mg base 1 "_law_draw" p__law_draw (spM K m__law_draw)) (C__law_leaves : Cal P w K mg base 65 "_law_leaves" p__law_leaves (spN K (m__law_leaves 64))) (C__law_replaced : Cal P w K mg base 64 "_law_replaced" p__law_replaced (spM K (m__law_replaced 64))) (cdv : Value) (A : Around) (outer : List PySem.Env) (s : Shared) (H : Hp) (E : XK) (hr : Room 65 (A.deeper (envOfC "_law_holed" (defScope s__law_holed) s.heap.objs.size f cdv))) :
    ESs (cxOf CX0 P w K mg base N__law_holed "_law_holed" (defScope s__law_holed) f cdv A outer s H E).nox (defBody s__law_holed) b__law_holed :=
  have S := sc__law_holed
  (es_cons (es_par2 (i := 3) (j := 4) (by rfl) S.nd rfl rfl (by decide) rfl rfl (ee_new (ef_callC C__law_leaves hr (by first | decide | omega) (by rfl) (ea_cons (ee_var 1 (pv 1)) (ea_cons (ee_var 2 (pv 2)) (ea_cons (ee_tup ea_nil) (ea_cons ee_int ea_nil)))))) (ee_var 2 (pv 2)) (by rfl) (by rfl)) (es_cons (es_for PassesOwn.never rfl (ei_range1 (by rfl) T.range (ea_cons (ee_callB (call_min2 rfl) l_min2 (by rfl) T.min (by decide +kernel) (ea_cons (ee_callC C__law_draw hr (by first | decide | omega) (by rfl) (ea_cons (ee_var 0 (pv 0)) (ea_cons ee_int ea_nil))) (ea_cons (ee_callB call_lenA l_len (by rfl) T.len (by decide +kernel) (ea_cons (ee_var 3 (pv 3)) ea_nil)) ea_nil))) ea_nil) (by intro ρ S ps S' h; exact aLen1 h)) (eg_name (pg_name (i := 5) S.nd rfl (Or.inl rfl))) (es_cons (es_asg (ee_meth1 l_popAt (pe_bm PySem.F.plainAttrs_list PySem.F.slot_list_pop PySem.F.type_list_pop mt_popAt (ee_var 3 (pv 3)) (pa_cons (ee_callC C__law_draw hr (by first | decide | omega) (by rfl) (ea_cons (ee_var 0 (pv 0)) (ea_cons (ee_callB call_lenA l_len (by rfl) T.len (by decide +kernel) (ea_cons (ee_var 3 (pv 3)) ea_nil)) ea_nil))) pa_nil))) (eg_tup rfl (egs_cons (eg_name (pg_name (i := 6) S.nd rfl (Or.inl rfl))) (egs_cons (eg_name (pg_name (i := 7) S.nd rfl (Or.inl rfl))) egs_nil)))) (es_cons (es_set (ps_set (i := 8) S.nd rfl (Or.inl rfl) (ee_tup (ea_cons ee_str (ea_cons (ee_if (et_cmp (op_eqA (hu64 hr)) l_eq (ee_callC C__law_draw hr (by first | decide | omega) (by rfl) (ea_cons (ee_var 0 (pv 0)) (ea_cons ee_int ea_nil))) ee_int (nomark _)) (ee_callC C__law_draw hr (by first | decide | omega) (by rfl) (ea_cons (ee_var 0 (pv 0)) (ea_cons ee_int ea_nil))) (ee_var 5 (pv 5))) ea_nil))))) (es_cons (es_for PassesOwn.never rfl (ei_range1 (by rfl) T.range (ea_cons (ee_callC C__law_draw hr (by first | decide | omega) (by rfl) (ea_cons (ee_var 0 (pv 0)) (ea_cons ee_int ea_nil))) ea_nil) (by intro ρ S ps S' h; exact aLen1 h)) (eg_name (pg_name (i := 9) S.nd rfl (Or.inl rfl))) (es_one (es_set (ps_set (i := 8) S.nd rfl (Or.inl rfl) (ee_op op_addA l_add (ee_var 8 (pv 8)) (ee_tup (ea_cons (ee_callC C__law_draw hr (by first | decide | omega) (by rfl) (ea_cons (ee_var 0 (pv 0)) (ea_cons (ee_op op_addA l_add (ee_var 7 (pv 7)) ee_int) ea_nil))) ea_nil))))))) (es_one (es_set (ps_set (i := 4) S.nd rfl (Or.inl rfl) (ee_callC C__law_replaced hr (by first | decide | omega) (by rfl) (ea_cons (ee_var 4 (pv 4)) (ea_cons (ee_var 6 (pv 6)) (ea_cons (ee_var 8 (pv 8)) ea_nil))))))))))) (es_one (es_ret (ee_var 4 (pv 4))))))
theorem c__law_holed {f : Addr} {fd : FuncData} (hm : mg "_law_holed" = some (.ref f)) (F : FunD K "_law_holed" "_law_holed" (defArgs s__law_holed) (defBody s__law_holed) (defScope s__law_holed) [] [] f fd) (T : Txt K w mg) (C__law_draw : Cal P w K mg base 1 "_law_draw" p__law_draw (spM K m__law_draw)) (C__law_leaves : Cal P w K mg base 65 "_law_leaves" p__law_leaves (spN K (m__law_leaves 64))) (C__law_replaced : Cal P w K mg base 64 "_law_replaced" p__law_replaced (spM K (m__law_replaced 64))) : Cal P w K mg base 66 "_law_holed" p__law_holed (spM K m__law_holed) :=
  cal_of hm F (fun _ _ _ _ _ _ us hl => match us, hl with | [_, _, _], _ => rfl) (fun _ _ _ _ _ _ us hl => match us, hl with | [_, _, _], _ => rfl) (fn_def F sc__law_holed fun cdv A outer s H E hr => e__law_holed T C__law_draw C__law_leaves C__law_replaced cdv A outer s H E hr)
abbrev N__law_way : List Str := ["_law_name", "_law_ways_here", "_law_by", "_law_deep", "_law_free"]
abbrev p__law_way : List Str := ["_law_name", "_law_ways_here", "_law_by", "_law_deep"]
theorem sc__law_way : FnScope N__law_way p__law_way (defScope s__law_way) := ⟨rfl, rfl, rfl, by decide +kernel, rfl, by decide +kernel, by decide +kernel⟩
def b__law_way : Es := (sSeq (sIf (tV (eOp gLt (eVar 0) (eVar 3))) (sRet (eVar 0)) sNil) (sSeq (sSet 4 (eOp gSub (eVar 0) (eVar 3))) (sRet (eOp gAdd (eVar 3) (eIf (tV (eOp gLt (eVar 4) (eArgs gLen (aCons (eVar 1) aNil)))) (eOp gIx (eVar 1) (eVar 4)) (eOp gAdd (eOp gSub (eVar 4) (eArgs gLen (aCons (eVar 1) aNil))) (eVar 2)))))))
def m__law_way : Fn := mkDef 4 5 b__law_way
set_option maxHeartbeats 4000000 in
theorem e__law_way {f : Addr} (T : Txt K w mg) (cdv : Value) (A : Around) (outer : List PySem.Env) (s : Shared) (H : Hp) (E : XK) (hr : Room 0 (A.deeper (envOfC "_law_way" (defScope s__law_way) s.heap.objs.size f cdv))) :
    ESs (cxOf CX0 P w K mg base N__law_way "_law_way" (defScope s__law_way) f cdv A outer s H E).nox (defBody s__law_way) b__law_way :=
  have S := sc__law_way
  (es_cons (es_if (et_cmp (op_lt) l_lt (ee_var 0 (pv 0)) (ee_var 3 (pv 3)) (nomark _)) (es_one (es_ret (ee_var 0 (pv 0)))) es_nil) (es_cons (es_set (ps_set (i := 4) S.nd rfl (Or.inl rfl) (ee_op op_sub l_sub (ee_var 0 (pv 0)) (ee_var 3 (pv 3))))) (es_one (es_ret (ee_op op_addA l_add (ee_var 3 (pv 3)) (ee_if (et_cmp (op_lt) l_lt (ee_var 4 (pv 4)) (ee_callB call_lenA l_len (by rfl) T.len (by decide +kernel) (ea_cons (ee_var 1 (pv 1)) ea_nil)) (nomark _)) (ee_ix (ee_var 1 (pv 1)) (ee_var 4 (pv 4)) (fun _ _ => rfl)) (ee_op op_addA l_add (ee_op op_sub l_sub (ee_var 4 (pv 4)) (ee_callB call_lenA l_len (by rfl) T.len (by decide +kernel) (ea_cons (ee_var 1 (pv 1)) ea_nil))) (ee_var 2 (pv 2)))))))))
theorem c__law_way {f : Addr} {fd : FuncData} (hm : mg "_law_way" = some (.ref f)) (F : FunD K "_law_way" "_law_way" (defArgs s__law_way) (defBody s__law_way) (defScope s__law_way) [] [] f fd) (T : Txt K w mg) : Cal P w K mg base 1 "_law_way" p__law_way (spM K m__law_way) :=
  cal_of hm F (fun _ _ _ _ _ _ us hl => match us, hl with | [_, _, _, _], _ => rfl) (fun _ _ _ _ _ _ us hl => match us, hl with | [_, _, _, _], _ => rfl) (fn_def F sc__law_way fun cdv A outer s H E hr => e__law_way T  cdv A outer s H E hr)
abbrev N__law_led : List Str := ["_law_book_here", "_law_term", "_law_ways_here", "_law_by", "_law_deep", "_law_names_here", "_law_part", "_law_b", "_law_name"]
abbrev p__law_led : List Str := ["_law_book_here", "_law_term", "_law_ways_here", "_law_by", "_law_deep"]
theorem sc__law_led : FnScope N__law_led p__law_led (defScope s__law_led) := ⟨rfl, rfl, rfl, by decide +kernel, rfl, by decide +kernel, by decide +kernel⟩
def b__law_led (m_self : Fn) : Es := (sSeq (sIf (tV (eOp gEq (eOp gIx (eVar 1) (eC (.int 0))) (eC (.str "name")))) (sRet (eArgs gTupP (aCons (eC (.str "name")) (aCons (eArgs m__law_way (aCons (eOp gIx (eVar 1) (eC (.int 1))) (aCons (eVar 2) (aCons (eVar 3) (aCons (eVar 4) aNil))))) aNil)))) sNil) (sSeq (sIf (tV (eOp gEq (eOp gIx (eVar 1) (eC (.int 0))) (eC (.str "hole")))) (sRet (eOp gAdd (eArgs gTupP (aCons (eC (.str "hole")) (aCons (eOp gIx (eVar 1) (eC (.int 1))) aNil))) (eArgs gTupOf (aCons (fComp (iSeq (eSl (eVar 1) (oSome (eC (.int 2))) oNone)) (nName 8) tYesE (eArgs m__law_way (aCons (eVar 8) (aCons (eVar 2) (aCons (eVar 3) (aCons (eVar 4) aNil))))) [8]) aNil)))) sNil) (sSeq (sIf (tV (eOp (gIn false) (eOp gIx (eVar 1) (eC (.int 0))) (eArgs gTupP (aCons (eC (.str "number")) (aCons (eC (.str "at")) aNil))))) (sRet (eVar 1)) sNil) (sSeq (sSet 5 (eArgs m__law_names (aCons (eVar 0) (aCons (eOp gIx (eVar 1) (eC (.int 0))) aNil)))) (sRet (eOp gAdd (eArgs gTupP (aCons (eOp gIx (eVar 1) (eC (.int 0))) aNil)) (eArgs gTupOf (aCons (fComp (iArgs gZip (aCons (eSl (eVar 1) (oSome (eC (.int 1))) oNone) (aCons (eVar 5) aNil))) (nTup 2 (nNs [6, 7])) tYesE (eArgs m_self (aCons (eVar 0) (aCons (eVar 6) (aCons (eVar 2) (aCons (eVar 3) (aCons (eOp gAdd (eVar 4) (eVar 7)) aNil)))))) [6, 7]) aNil))))))))
def m__law_led : Nat → Fn
  | 0 => fun _ _ => .no
  | n + 1 => mkDef 5 9 (b__law_led (m__law_led n))
set_option maxHeartbeats 4000000 in
theorem e__law_led {f : Addr} (T : Txt K w mg) (C__law_names : Cal P w K mg base 1 "_law_names" p__law_names (spM K m__law_names)) (C__law_way : Cal P w K mg base 1 "_law_way" p__law_way (spM K m__law_way)) {n : Nat} (C__law_led : Cal P w K mg base (1 + n) "_law_led" p__law_led (spM K (m__law_led n))) (cdv : Value) (A : Around) (outer : List PySem.Env) (s : Shared) (H : Hp) (E : XK) (hr : Room (1 + n) (A.deeper (envOfC "_law_led" (defScope s__law_led) s.heap.objs.size f cdv))) :
    ESs (cxOf CX0 P w K mg base N__law_led "_law_led" (defScope s__law_led) f cdv A outer s H E).nox (defBody s__law_led) (b__law_led (m__law_led n)) :=
  have S := sc__law_led
  (es_cons (es_if (et_cmp (op_eqA (hu64 hr)) l_eq (ee_ix (ee_var 1 (pv 1)) ee_int (fun _ _ => rfl)) ee_str (nomark _)) (es_one (es_ret (ee_tup (ea_cons ee_str (ea_cons (ee_callC C__law_way hr (by first | decide | omega) (by rfl) (ea_cons (ee_ix (ee_var 1 (pv 1)) ee_int (fun _ _ => rfl)) (ea_cons (ee_var 2 (pv 2)) (ea_cons (ee_var 3 (pv 3)) (ea_cons (ee_var 4 (pv 4)) ea_nil))))) ea_nil))))) es_nil) (es_cons (es_if (et_cmp (op_eqA (hu64 hr)) l_eq (ee_ix (ee_var 1 (pv 1)) ee_int (fun _ _ => rfl)) ee_str (nomark _)) (es_one (es_ret (ee_op op_addA l_add (ee_tup (ea_cons ee_str (ea_cons (ee_ix (ee_var 1 (pv 1)) ee_int (fun _ _ => rfl)) ea_nil))) (ee_callTy call_tuple_of l_tupOf (by rfl) T.tuple (by decide +kernel) (ea_cons (ee_pure (ef_comp (own := [("_law_name", 8)]) (g := (gName 8)) rfl S.nd (blkOk_by (N := N__law_led) (sc := defScope s__law_led) (by decide +kernel)) (tgt_name (by decide)) (ei_seq (ee_sl (ee_var 1 (pv 1)) (eo_some ee_int) eo_none)) (fun _ _ _ _ _ => pg_name (i := 8) S.nd rfl (Or.inl rfl)) (fun _ _ _ _ _ => ei_none) (fun _ _ _ _ _ => (ee_callC C__law_way hr (by first | decide | omega) (by rfl) (ea_cons (ee_var 8 (pv 8)) (ea_cons (ee_var 2 (pv 2)) (ea_cons (ee_var 3 (pv 3)) (ea_cons (ee_var 4 (pv 4)) ea_nil)))))))) ea_nil))))) es_nil) (es_cons (es_if (et_cmp (op_inA) l_in (ee_ix (ee_var 1 (pv 1)) ee_int (fun _ _ => rfl)) (ee_tup (ea_cons ee_str (ea_cons ee_str ea_nil))) rfl) (es_one (es_ret (ee_var 1 (pv 1)))) es_nil) (es_cons (es_set (ps_set (i := 5) S.nd rfl (Or.inl rfl) (ee_callC C__law_names hr (by first | decide | omega) (by rfl) (ea_cons (ee_var 0 (pv 0)) (ea_cons (ee_ix (ee_var 1 (pv 1)) ee_int (fun _ _ => rfl)) ea_nil))))) (es_one (es_ret (ee_op op_addA l_add (ee_tup (ea_cons (ee_ix (ee_var 1 (pv 1)) ee_int (fun _ _ => rfl)) ea_nil)) (ee_callTy call_tuple_of l_tupOf (by rfl) T.tuple (by decide +kernel) (ea_cons (ee_pure (ef_comp (own := [("_law_part", 6), ("_law_b", 7)]) (g := (gTup K 2 (gNs [6, 7]))) rfl S.nd (blkOk_by (N := N__law_led) (sc := defScope s__law_led) (by decide +kernel)) (tgt_tup (by decide)) (ei_zip (by rfl) T.zip (ea_cons (ee_sl (ee_var 1 (pv 1)) (eo_some ee_int) eo_none) (ea_cons (ee_var 5 (pv 5)) ea_nil))) (fun _ _ _ _ _ => pg_tup rfl (pgs_cons (pg_name (i := 6) S.nd rfl (Or.inl rfl)) (pgs_cons (pg_name (i := 7) S.nd rfl (Or.inl rfl)) pgs_nil))) (fun _ _ _ _ _ => ei_none) (fun _ _ _ _ _ => (ee_callC C__law_led hr (by first | decide | omega) (by rfl) (ea_cons (ee_var 0 (pv 0)) (ea_cons (ee_var 6 (pv 6)) (ea_cons (ee_var 2 (pv 2)) (ea_cons (ee_var 3 (pv 3)) (ea_cons (ee_op op_addA l_add (ee_var 4 (pv 4)) (ee_var 7 (pv 7))) ea_nil))))))))) ea_nil)))))))))
theorem c__law_led {f : Addr} {fd : FuncData} (hm : mg "_law_led" = some (.ref f)) (F : FunD K "_law_led" "_law_led" (defArgs s__law_led) (defBody s__law_led) (defScope s__law_led) [] [] f fd) (T : Txt K w mg) (C__law_names : Cal P w K mg base 1 "_law_names" p__law_names (spM K m__law_names)) (C__law_way : Cal P w K mg base 1 "_law_way" p__law_way (spM K m__law_way)) : ∀ n : Nat, Cal P w K mg base (1 + n) "_law_led" p__law_led (spM K (m__law_led n))
  | 0 => cal_of hm F (fun _ _ _ _ _ _ us hl => match us, hl with | [_, _, _, _, _], _ => rfl) (fun _ _ _ _ _ _ us hl => match us, hl with | [_, _, _, _, _], _ => rfl) (fn_zero trivial)
  | n + 1 => cal_of hm F (fun _ _ _ _ _ _ us hl => match us, hl with | [_, _, _, _, _], _ => rfl) (fun _ _ _ _ _ _ us hl => match us, hl with | [_, _, _, _, _], _ => rfl) (fn_def F sc__law_led fun cdv A outer s H E hr => e__law_led T C__law_names C__law_way (c__law_led hm F T C__law_names C__law_way n) cdv A outer s H E hr)
abbrev N__law_same : List Str := ["_law_told_here", "_law_due", "_law_x", "_law_y"]
abbrev p__law_same : List Str := ["_law_told_here", "_law_due"]
theorem sc__law_same : FnScope N__law_same p__law_same (defScope s__law_same) := ⟨rfl, rfl, rfl, by decide +kernel, rfl, by decide +kernel, by decide +kernel⟩
def b__law_same (m_self : Fn) : Es := (sSeq (sIf (tT (eUn (gIsi .tuple) (eVar 1))) (sRet (eAndV (eUn (gIsi .tuple) (eVar 0)) (eAndV (eOp gEq (eArgs gLen (aCons (eVar 0) aNil)) (eArgs gLen (aCons (eVar 1) aNil))) (eArgs gAll (aCons (fComp (iArgs gZip (aCons (eVar 0) (aCons (eVar 1) aNil))) (nTup 2 (nNs [2, 3])) tYesE (eArgs m_self (aCons (eVar 2) (aCons (eVar 3) aNil))) [2, 3]) aNil))))) sNil) (sSeq (sIf (tV (eOp gIsN (eVar 1) (eC .non))) (sRet (eOp gIsN (eVar 0) (eC .non))) sNil) (sSeq (sIf (tT (eUn (gIsi .bool) (eVar 1))) (sRet (eAndV (eUn (gIsi .bool) (eVar 0)) (eOp gEq (eVar 0) (eVar 1)))) sNil) (sSeq (sIf (tT (eUn (gIsi .str) (eVar 1))) (sRet (eAndV (eUn (gIsi .str) (eVar 0)) (eOp gEq (eVar 0) (eVar 1)))) sNil) (sRet (eAndV (eUn (gIsi .int) (eVar 0)) (eAndV (eNotT (eUn (gIsi .bool) (eVar 0))) (eOp gEq (eVar 0) (eVar 1)))))))))
def m__law_same : Nat → Fn
  | 0 => fun _ _ => .no
  | n + 1 => mkDef 2 4 (b__law_same (m__law_same n))
set_option maxHeartbeats 4000000 in
theorem e__law_same {f : Addr} (T : Txt K w mg) {n : Nat} (C__law_same : Cal P w K mg base (0 + n) "_law_same" p__law_same (spM K (m__law_same n))) (cdv : Value) (A : Around) (outer : List PySem.Env) (s : Shared) (H : Hp) (E : XK) (hr : Room (0 + n) (A.deeper (envOfC "_law_same" (defScope s__law_same) s.heap.objs.size f cdv))) :
    ESs (cxOf CX0 P w K mg base N__law_same "_law_same" (defScope s__law_same) f cdv A outer s H E).nox (defBody s__law_same) (b__law_same (m__law_same n)) :=
  have S := sc__law_same
  (es_cons (es_if (et_truth (ee_isi .tuple (by rfl) T.isinstance (ee_var 1 (pv 1)) (pe_bltn (v := .ty "tuple") (by rfl) T.tuple (by decide +kernel) rfl))) (es_one (es_ret (ee_and (ee_isi .tuple (by rfl) T.isinstance (ee_var 0 (pv 0)) (pe_bltn (v := .ty "tuple") (by rfl) T.tuple (by decide +kernel) rfl)) (ee_and (ee_cmp (op_eqA (hu64 hr)) l_eq (ee_callB call_lenA l_len (by rfl) T.len (by decide +kernel) (ea_cons (ee_var 0 (pv 0)) ea_nil)) (ee_callB call_lenA l_len (by rfl) T.len (by decide +kernel) (ea_cons (ee_var 1 (pv 1)) ea_nil)) (nomark _)) (ee_one (ee_callB (cr_all rfl) l_all (by rfl) T.all (by decide +kernel) (ea_cons (ee_pure (ef_comp (own := [("_law_x", 2), ("_law_y", 3)]) (g := (gTup K 2 (gNs [2, 3]))) rfl S.nd (blkOk_by (N := N__law_same) (sc := defScope s__law_same) (by decide +kernel)) (tgt_tup (by decide)) (ei_zip (by rfl) T.zip (ea_cons (ee_var 0 (pv 0)) (ea_cons (ee_var 1 (pv 1)) ea_nil))) (fun _ _ _ _ _ => pg_tup rfl (pgs_cons (pg_name (i := 2) S.nd rfl (Or.inl rfl)) (pgs_cons (pg_name (i := 3) S.nd rfl (Or.inl rfl)) pgs_nil))) (fun _ _ _ _ _ => ei_none) (fun _ _ _ _ _ => (ee_callC C__law_same hr (by first | decide | omega) (by rfl) (ea_cons (ee_var 2 (pv 2)) (ea_cons (ee_var 3 (pv 3)) ea_nil)))))) ea_nil))))))) es_nil) (es_cons (es_if (et_cmp (op_isN) l_isN (ee_var 1 (pv 1)) ee_non (nomark _)) (es_one (es_ret (ee_cmp (op_isN) l_isN (ee_var 0 (pv 0)) ee_non (nomark _)))) es_nil) (es_cons (es_if (et_truth (ee_isi .bool (by rfl) T.isinstance (ee_var 1 (pv 1)) (pe_bltn (v := .ty "bool") (by rfl) T.bool (by decide +kernel) rfl))) (es_one (es_ret (ee_and (ee_isi .bool (by rfl) T.isinstance (ee_var 0 (pv 0)) (pe_bltn (v := .ty "bool") (by rfl) T.bool (by decide +kernel) rfl)) (ee_one (ee_cmp (op_eqA (hu64 hr)) l_eq (ee_var 0 (pv 0)) (ee_var 1 (pv 1)) (nomark _)))))) es_nil) (es_cons (es_if (et_truth (ee_isi .str (by rfl) T.isinstance (ee_var 1 (pv 1)) (pe_bltn (v := .ty "str") (by rfl) T.str (by decide +kernel) rfl))) (es_one (es_ret (ee_and (ee_isi .str (by rfl) T.isinstance (ee_var 0 (pv 0)) (pe_bltn (v := .ty "str") (by rfl) T.str (by decide +kernel) rfl)) (ee_one (ee_cmp (op_eqA (hu64 hr)) l_eq (ee_var 0 (pv 0)) (ee_var 1 (pv 1)) (nomark _)))))) es_nil) (es_one (es_ret (ee_and (ee_isi .int (by rfl) T.isinstance (ee_var 0 (pv 0)) (pe_bltn (v := .ty "int") (by rfl) T.int (by decide +kernel) rfl)) (ee_and (ee_notT (ee_isi .bool (by rfl) T.isinstance (ee_var 0 (pv 0)) (pe_bltn (v := .ty "bool") (by rfl) T.bool (by decide +kernel) rfl))) (ee_one (ee_cmp (op_eqA (hu64 hr)) l_eq (ee_var 0 (pv 0)) (ee_var 1 (pv 1)) (nomark _)))))))))))
theorem c__law_same {f : Addr} {fd : FuncData} (hm : mg "_law_same" = some (.ref f)) (F : FunD K "_law_same" "_law_same" (defArgs s__law_same) (defBody s__law_same) (defScope s__law_same) [] [] f fd) (T : Txt K w mg) : ∀ n : Nat, Cal P w K mg base (0 + n) "_law_same" p__law_same (spM K (m__law_same n))
  | 0 => cal_of hm F (fun _ _ _ _ _ _ us hl => match us, hl with | [_, _], _ => rfl) (fun _ _ _ _ _ _ us hl => match us, hl with | [_, _], _ => rfl) (fn_zero trivial)
  | n + 1 => cal_of hm F (fun _ _ _ _ _ _ us hl => match us, hl with | [_, _], _ => rfl) (fun _ _ _ _ _ _ us hl => match us, hl with | [_, _], _ => rfl) (fn_def F sc__law_same fun cdv A outer s H E hr => e__law_same T  (c__law_same hm F T  n) cdv A outer s H E hr)
abbrev N__law_ways : List Str := ["_law_well_here", "_law_many", "_law_found", "_law_turn"]
abbrev p__law_ways : List Str := ["_law_well_here", "_law_many"]
theorem sc__law_ways : FnScope N__law_ways p__law_ways (defScope s__law_ways) := ⟨rfl, rfl, rfl, by decide +kernel, rfl, by decide +kernel, by decide +kernel⟩
def b__law_ways : Es := (sSeq (sSet 2 (eArgs gTupP aNil)) (sSeq (sFor (iArgs gRange (aCons (eVar 1) aNil)) (nName 3) (sSet 2 (eOp gAdd (eVar 2) (eArgs gTupP (aCons (eIf (tV (eOp gEq (eArgs m__law_draw (aCons (eVar 0) (aCons (eC (.int 14)) aNil))) (eC (.int 0)))) (eOp gAdd (eOp gPow (eC (.int 10)) (eC (.int 12))) (eArgs m__law_draw (aCons (eVar 0) (aCons (eC (.int 9)) aNil)))) (eArgs m__law_draw (aCons (eVar 0) (aCons (eC (.int 7)) aNil)))) aNil))))) (sRet (eVar 2))))
def m__law_ways : Fn := mkDef 2 4 b__law_ways
set_option maxHeartbeats 4000000 in
theorem e__law_ways {f : Addr} (T : Txt K w mg) (C__law_draw : Cal P w K mg base 1 "_law_draw" p__law_draw (spM K m__law_draw)) (cdv : Value) (A : Around) (outer : List PySem.Env) (s : Shared) (H : Hp) (E : XK) (hr : Room 1 (A.deeper (envOfC "_law_ways" (defScope s__law_ways) s.heap.objs.size f cdv))) :
    ESs (cxOf CX0 P w K mg base N__law_ways "_law_ways" (defScope s__law_ways) f cdv A outer s H E).nox (defBody s__law_ways) b__law_ways :=
  have S := sc__law_ways
  (es_cons (es_set (ps_set (i := 2) S.nd rfl (Or.inl rfl) (ee_tup ea_nil))) (es_cons (es_for PassesOwn.never rfl (ei_range1 (by rfl) T.range (ea_cons (ee_var 1 (pv 1)) ea_nil) (by intro ρ S ps S' h; exact aLen1 h)) (eg_name (pg_name (i := 3) S.nd rfl (Or.inl rfl))) (es_one (es_set (ps_set (i := 2) S.nd rfl (Or.inl rfl) (ee_op op_addA l_add (ee_var 2 (pv 2)) (ee_tup (ea_cons (ee_if (et_cmp (op_eqA (hu64 hr)) l_eq (ee_callC C__law_draw hr (by first | decide | omega) (by rfl) (ea_cons (ee_var 0 (pv 0)) (ea_cons ee_int ea_nil))) ee_int (nomark _)) (ee_op op_addA l_add (ee_op op_pow l_pow ee_int ee_int) (ee_callC C__law_draw hr (by first | decide | omega) (by rfl) (ea_cons (ee_var 0 (pv 0)) (ea_cons ee_int ea_nil)))) (ee_callC C__law_draw hr (by first | decide | omega) (by rfl) (ea_cons (ee_var 0 (pv 0)) (ea_cons ee_int ea_nil)))) ea_nil))))))) (es_one (es_ret (ee_var 2 (pv 2))))))
theorem c__law_ways {f : Addr} {fd : FuncData} (hm : mg "_law_ways" = some (.ref f)) (F : FunD K "_law_ways" "_law_ways" (defArgs s__law_ways) (defBody s__law_ways) (defScope s__law_ways) [] [] f fd) (T : Txt K w mg) (C__law_draw : Cal P w K mg base 1 "_law_draw" p__law_draw (spM K m__law_draw)) : Cal P w K mg base 2 "_law_ways" p__law_ways (spM K m__law_ways) :=
  cal_of hm F (fun _ _ _ _ _ _ us hl => match us, hl with | [_, _], _ => rfl) (fun _ _ _ _ _ _ us hl => match us, hl with | [_, _], _ => rfl) (fn_def F sc__law_ways fun cdv A outer s H E hr => e__law_ways T C__law_draw cdv A outer s H E hr)
abbrev N_core_words : List Str := []
abbrev p_core_words : List Str := []
theorem sc_core_words : FnScope N_core_words p_core_words (defScope s_core_words) := ⟨rfl, rfl, rfl, by decide +kernel, rfl, by decide +kernel, by decide +kernel⟩
def b_core_words : Es := (sRet (eNew (eKD d_CORE_WORDS)))
def m_core_words : Fn := mkNew 0 0 b_core_words
set_option maxHeartbeats 4000000 in
theorem e_core_words {f : Addr} (T : Txt K w mg) (cdv : Value) (A : Around) (outer : List PySem.Env) (s : Shared) (H : Hp) (E : XK) (hr : Room 0 (A.deeper (envOfC "core_words" (defScope s_core_words) s.heap.objs.size f cdv))) :
    ESs (cxOf CX0 P w K mg base N_core_words "core_words" (defScope s_core_words) f cdv A outer s H E).nox (defBody s_core_words) b_core_words :=
  have S := sc_core_words
  (es_one (es_ret (ee_new (T.kCORE_WORDS.copy T.dict (by rfl) (by rfl)))))
theorem c_core_words {f : Addr} {fd : FuncData} (hm : mg "core_words" = some (.ref f)) (F : FunD K "core_words" "core_words" (defArgs s_core_words) (defBody s_core_words) (defScope s_core_words) [] [] f fd) (T : Txt K w mg) : Cal P w K mg base 1 "core_words" p_core_words (spN K m_core_words) :=
  cal_of hm F (fun _ _ _ _ _ _ us hl => match us, hl with | [], _ => rfl) (fun _ _ _ _ _ _ us hl => match us, hl with | [], _ => rfl) (fn_new F sc_core_words fun cdv A outer s H E hr => e_core_words T  cdv A outer s H E hr)
abbrev N_is_tuple_up_to : List Str := ["value", "many"]
abbrev p_is_tuple_up_to : List Str := ["value", "many"]
theorem sc_is_tuple_up_to : FnScope N_is_tuple_up_to p_is_tuple_up_to (defScope s_is_tuple_up_to) := ⟨rfl, rfl, rfl, by decide +kernel, rfl, by decide +kernel, by decide +kernel⟩
def b_is_tuple_up_to : Es := (sRet (eAndV (eUn (gIsi .tuple) (eVar 0)) (eOp gLe (eArgs gLen (aCons (eVar 0) aNil)) (eVar 1))))
def m_is_tuple_up_to : Fn := mkDef 2 2 b_is_tuple_up_to
set_option maxHeartbeats 4000000 in
theorem e_is_tuple_up_to {f : Addr} (T : Txt K w mg) (cdv : Value) (A : Around) (outer : List PySem.Env) (s : Shared) (H : Hp) (E : XK) (hr : Room 0 (A.deeper (envOfC "is_tuple_up_to" (defScope s_is_tuple_up_to) s.heap.objs.size f cdv))) :
    ESs (cxOf CX0 P w K mg base N_is_tuple_up_to "is_tuple_up_to" (defScope s_is_tuple_up_to) f cdv A outer s H E).nox (defBody s_is_tuple_up_to) b_is_tuple_up_to :=
  have S := sc_is_tuple_up_to
  (es_one (es_ret (ee_and (ee_isi .tuple (by rfl) T.isinstance (ee_var 0 (pv 0)) (pe_bltn (v := .ty "tuple") (by rfl) T.tuple (by decide +kernel) rfl)) (ee_one (ee_cmp (op_le) l_le (ee_callB call_lenA l_len (by rfl) T.len (by decide +kernel) (ea_cons (ee_var 0 (pv 0)) ea_nil)) (ee_var 1 (pv 1)) (nomark _))))))
theorem c_is_tuple_up_to {f : Addr} {fd : FuncData} (hm : mg "is_tuple_up_to" = some (.ref f)) (F : FunD K "is_tuple_up_to" "is_tuple_up_to" (defArgs s_is_tuple_up_to) (defBody s_is_tuple_up_to) (defScope s_is_tuple_up_to) [] [] f fd) (T : Txt K w mg) : Cal P w K mg base 1 "is_tuple_up_to" p_is_tuple_up_to (spM K m_is_tuple_up_to) :=
  cal_of hm F (fun _ _ _ _ _ _ us hl => match us, hl with | [_, _], _ => rfl) (fun _ _ _ _ _ _ us hl => match us, hl with | [_, _], _ => rfl) (fn_def F sc_is_tuple_up_to fun cdv A outer s H E hr => e_is_tuple_up_to T  cdv A outer s H E hr)
abbrev N_is_leaf : List Str := ["pattern"]
abbrev p_is_leaf : List Str := ["pattern"]
theorem sc_is_leaf : FnScope N_is_leaf p_is_leaf (defScope s_is_leaf) := ⟨rfl, rfl, rfl, by decide +kernel, rfl, by decide +kernel, by decide +kernel⟩
def b_is_leaf : Es := (sRet (eOp (gIn false) (eOp gIx (eVar 0) (eC (.int 0))) (eC (.tup c_LEAF_WORDS))))
def m_is_leaf : Fn := mkDef 1 1 b_is_leaf
set_option maxHeartbeats 4000000 in
theorem e_is_leaf {f : Addr} (T : Txt K w mg) (cdv : Value) (A : Around) (outer : List PySem.Env) (s : Shared) (H : Hp) (E : XK) (hr : Room 0 (A.deeper (envOfC "is_leaf" (defScope s_is_leaf) s.heap.objs.size f cdv))) :
    ESs (cxOf CX0 P w K mg base N_is_leaf "is_leaf" (defScope s_is_leaf) f cdv A outer s H E).nox (defBody s_is_leaf) b_is_leaf :=
  have S := sc_is_leaf
  (es_one (es_ret (ee_cmp (op_inA) l_in (ee_ix (ee_var 0 (pv 0)) ee_int (fun _ _ => rfl)) (ee_gtup T.kLEAF_WORDS (by rfl)) rfl)))
theorem c_is_leaf {f : Addr} {fd : FuncData} (hm : mg "is_leaf" = some (.ref f)) (F : FunD K "is_leaf" "is_leaf" (defArgs s_is_leaf) (defBody s_is_leaf) (defScope s_is_leaf) [] [] f fd) (T : Txt K w mg) : Cal P w K mg base 1 "is_leaf" p_is_leaf (spM K m_is_leaf) :=
  cal_of hm F (fun _ _ _ _ _ _ us hl => match us, hl with | [_], _ => rfl) (fun _ _ _ _ _ _ us hl => match us, hl with | [_], _ => rfl) (fn_def F sc_is_leaf fun cdv A outer s H E hr => e_is_leaf T  cdv A outer s H E hr)
abbrev N_is_whole : List Str := ["value"]
abbrev p_is_whole : List Str := ["value"]
theorem sc_is_whole : FnScope N_is_whole p_is_whole (defScope s_is_whole) := ⟨rfl, rfl, rfl, by decide +kernel, rfl, by decide +kernel, by decide +kernel⟩
def b_is_whole : Es := (sRet (eAndV (eUn (gIsi .int) (eVar 0)) (eNotT (eUn (gIsi .bool) (eVar 0)))))
def m_is_whole : Fn := mkDef 1 1 b_is_whole
set_option maxHeartbeats 4000000 in
theorem e_is_whole {f : Addr} (T : Txt K w mg) (cdv : Value) (A : Around) (outer : List PySem.Env) (s : Shared) (H : Hp) (E : XK) (hr : Room 0 (A.deeper (envOfC "is_whole" (defScope s_is_whole) s.heap.objs.size f cdv))) :
    ESs (cxOf CX0 P w K mg base N_is_whole "is_whole" (defScope s_is_whole) f cdv A outer s H E).nox (defBody s_is_whole) b_is_whole :=
  have S := sc_is_whole
  (es_one (es_ret (ee_and (ee_isi .int (by rfl) T.isinstance (ee_var 0 (pv 0)) (pe_bltn (v := .ty "int") (by rfl) T.int (by decide +kernel) rfl)) (ee_one (ee_notT (ee_isi .bool (by rfl) T.isinstance (ee_var 0 (pv 0)) (pe_bltn (v := .ty "bool") (by rfl) T.bool (by decide +kernel) rfl)))))))
theorem c_is_whole {f : Addr} {fd : FuncData} (hm : mg "is_whole" = some (.ref f)) (F : FunD K "is_whole" "is_whole" (defArgs s_is_whole) (defBody s_is_whole) (defScope s_is_whole) [] [] f fd) (T : Txt K w mg) : Cal P w K mg base 1 "is_whole" p_is_whole (spM K m_is_whole) :=
  cal_of hm F (fun _ _ _ _ _ _ us hl => match us, hl with | [_], _ => rfl) (fun _ _ _ _ _ _ us hl => match us, hl with | [_], _ => rfl) (fn_def F sc_is_whole fun cdv A outer s H E hr => e_is_whole T  cdv A outer s H E hr)
abbrev N_is_count : List Str := ["value"]
abbrev p_is_count : List Str := ["value"]
theorem sc_is_count : FnScope N_is_count p_is_count (defScope s_is_count) := ⟨rfl, rfl, rfl, by decide +kernel, rfl, by decide +kernel, by decide +kernel⟩
def b_is_count : Es := (sRet (eAndV (eArgs m_is_whole (aCons (eVar 0) aNil)) (eOp gGe (eVar 0) (eC (.int 0)))))
def m_is_count : Fn := mkDef 1 1 b_is_count
set_option maxHeartbeats 4000000 in
theorem e_is_count {f : Addr} (T : Txt K w mg) (C_is_whole : Cal P w K mg base 1 "is_whole" p_is_whole (spM K m_is_whole)) (cdv : Value) (A : Around) (outer : List PySem.Env) (s : Shared) (H : Hp) (E : XK) (hr : Room 1 (A.deeper (envOfC "is_count" (defScope s_is_count) s.heap.objs.size f cdv))) :
    ESs (cxOf CX0 P w K mg base N_is_count "is_count" (defScope s_is_count) f cdv A outer s H E).nox (defBody s_is_count) b_is_count :=
  have S := sc_is_count
  (es_one (es_ret (ee_and (ee_callC C_is_whole hr (by first | decide | omega) (by rfl) (ea_cons (ee_var 0 (pv 0)) ea_nil)) (ee_one (ee_cmp (op_ge) l_ge (ee_var 0 (pv 0)) ee_int (nomark _))))))
theorem c_is_count {f : Addr} {fd : FuncData} (hm : mg "is_count" = some (.ref f)) (F : FunD K "is_count" "is_count" (defArgs s_is_count) (defBody s_is_count) (defScope s_is_count) [] [] f fd) (T : Txt K w mg) (C_is_whole : Cal P w K mg base 1 "is_whole" p_is_whole (spM K m_is_whole)) : Cal P w K mg base 2 "is_count" p_is_count (spM K m_is_count) :=
  cal_of hm F (fun _ _ _ _ _ _ us hl => match us, hl with | [_], _ => rfl) (fun _ _ _ _ _ _ us hl => match us, hl with | [_], _ => rfl) (fn_def F sc_is_count fun cdv A outer s H E hr => e_is_count T C_is_whole cdv A outer s H E hr)
abbrev N_is_whole_within : List Str := ["value", "least", "greatest"]
abbrev p_is_whole_within : List Str := ["value", "least", "greatest"]
theorem sc_is_whole_within : FnScope N_is_whole_within p_is_whole_within (defScope s_is_whole_within) := ⟨rfl, rfl, rfl, by decide +kernel, rfl, by decide +kernel, by decide +kernel⟩
def b_is_whole_within : Es := (sRet (eAndV (eArgs m_is_whole (aCons (eVar 0) aNil)) (eChain gLe gLe (eVar 1) (eVar 0) (eVar 2))))
def m_is_whole_within : Fn := mkDef 3 3 b_is_whole_within
set_option maxHeartbeats 4000000 in
theorem e_is_whole_within {f : Addr} (T : Txt K w mg) (C_is_whole : Cal P w K mg base 1 "is_whole" p_is_whole (spM K m_is_whole)) (cdv : Value) (A : Around) (outer : List PySem.Env) (s : Shared) (H : Hp) (E : XK) (hr : Room 1 (A.deeper (envOfC "is_whole_within" (defScope s_is_whole_within) s.heap.objs.size f cdv))) :
    ESs (cxOf CX0 P w K mg base N_is_whole_within "is_whole_within" (defScope s_is_whole_within) f cdv A outer s H E).nox (defBody s_is_whole_within) b_is_whole_within :=
  have S := sc_is_whole_within
  (es_one (es_ret (ee_and (ee_callC C_is_whole hr (by first | decide | omega) (by rfl) (ea_cons (ee_var 0 (pv 0)) ea_nil)) (ee_one (ee_chain (op_le) l_le (op_le) l_le (ee_var 1 (pv 1)) (ee_var 0 (pv 0)) (ee_var 2 (pv 2)) (by with_unfolding_all rfl) pure_gLe)))))
theorem c_is_whole_within {f : Addr} {fd : FuncData} (hm : mg "is_whole_within" = some (.ref f)) (F : FunD K "is_whole_within" "is_whole_within" (defArgs s_is_whole_within) (defBody s_is_whole_within) (defScope s_is_whole_within) [] [] f fd) (T : Txt K w mg) (C_is_whole : Cal P w K mg base 1 "is_whole" p_is_whole (spM K m_is_whole)) : Cal P w K mg base 2 "is_whole_within" p_is_whole_within (spM K m_is_whole_within) :=
  cal_of hm F (fun _ _ _ _ _ _ us hl => match us, hl with | [_, _, _], _ => rfl) (fun _ _ _ _ _ _ us hl => match us, hl with | [_, _, _], _ => rfl) (fn_def F sc_is_whole_within fun cdv A outer s H E hr => e_is_whole_within T C_is_whole cdv A outer s H E hr)
abbrev N_is_hole_well_made : List Str := ["value", "k"]
abbrev p_is_hole_well_made : List Str := ["value"]
theorem sc_is_hole_well_made : FnScope N_is_hole_well_made p_is_hole_well_made (defScope s_is_hole_well_made) := ⟨rfl, rfl, rfl, by decide +kernel, rfl, by decide +kernel, by decide +kernel⟩
def b_is_hole_well_made : Es := (sSeq (sIf (tOrE (tV (eOp gLt (eArgs gLen (aCons (eVar 0) aNil)) (eC (.int 2)))) (tNotE (tT (eArgs m_is_whole_within (aCons (eOp gIx (eVar 0) (eC (.int 1))) (aCons (eC (.int 0)) (aCons (eC (.int 99)) aNil))))))) (sRet (eC (.bl false))) sNil) (sRet (eArgs gAll (aCons (fComp (iSeq (eSl (eVar 0) (oSome (eC (.int 2))) oNone)) (nName 1) tYesE (eArgs m_is_count (aCons (eVar 1) aNil)) [1]) aNil))))
def m_is_hole_well_made : Fn := mkDef 1 2 b_is_hole_well_made
set_option maxHeartbeats 4000000 in
theorem e_is_hole_well_made {f : Addr} (T : Txt K w mg) (C_is_count : Cal P w K mg base 2 "is_count" p_is_count (spM K m_is_count)) (C_is_whole_within : Cal P w K mg base 2 "is_whole_within" p_is_whole_within (spM K m_is_whole_within)) (cdv : Value) (A : Around) (outer : List PySem.Env) (s : Shared) (H : Hp) (E : XK) (hr : Room 2 (A.deeper (envOfC "is_hole_well_made" (defScope s_is_hole_well_made) s.heap.objs.size f cdv))) :
    ESs (cxOf CX0 P w K mg base N_is_hole_well_made "is_hole_well_made" (defScope s_is_hole_well_made) f cdv A outer s H E).nox (defBody s_is_hole_well_made) b_is_hole_well_made :=
  have S := sc_is_hole_well_made
  (es_cons (es_if (et_w (ew_or (et_cmp (op_lt) l_lt (ee_callB call_lenA l_len (by rfl) T.len (by decide +kernel) (ea_cons (ee_var 0 (pv 0)) ea_nil)) ee_int (nomark _)) (ew_or1 (et_not (et_truth (ee_callC C_is_whole_within hr (by first | decide | omega) (by rfl) (ea_cons (ee_ix (ee_var 0 (pv 0)) ee_int (fun _ _ => rfl)) (ea_cons ee_int (ea_cons (ee_gint T.kGREATEST_HOLE (by rfl)) ea_nil))))))))) (es_one (es_ret ee_bl)) es_nil) (es_one (es_ret (ee_callB (cr_all rfl) l_all (by rfl) T.all (by decide +kernel) (ea_cons (ee_pure (ef_comp (own := [("k", 1)]) (g := (gName 1)) rfl S.nd (blkOk_by (N := N_is_hole_well_made) (sc := defScope s_is_hole_well_made) (by decide +kernel)) (tgt_name (by decide)) (ei_seq (ee_sl (ee_var 0 (pv 0)) (eo_some ee_int) eo_none)) (fun _ _ _ _ _ => pg_name (i := 1) S.nd rfl (Or.inl rfl)) (fun _ _ _ _ _ => ei_none) (fun _ _ _ _ _ => (ee_callC C_is_count hr (by first | decide | omega) (by rfl) (ea_cons (ee_var 1 (pv 1)) ea_nil))))) ea_nil)))))
theorem c_is_hole_well_made {f : Addr} {fd : FuncData} (hm : mg "is_hole_well_made" = some (.ref f)) (F : FunD K "is_hole_well_made" "is_hole_well_made" (defArgs s_is_hole_well_made) (defBody s_is_hole_well_made) (defScope s_is_hole_well_made) [] [] f fd) (T : Txt K w mg) (C_is_count : Cal P w K mg base 2 "is_count" p_is_count (spM K m_is_count)) (C_is_whole_within : Cal P w K mg base 2 "is_whole_within" p_is_whole_within (spM K m_is_whole_within)) : Cal P w K mg base 3 "is_hole_well_made" p_is_hole_well_made (spM K m_is_hole_well_made) :=
  cal_of hm F (fun _ _ _ _ _ _ us hl => match us, hl with | [_], _ => rfl) (fun _ _ _ _ _ _ us hl => match us, hl with | [_], _ => rfl) (fn_def F sc_is_hole_well_made fun cdv A outer s H E hr => e_is_hole_well_made T C_is_count C_is_whole_within cdv A outer s H E hr)
abbrev N_is_leaf_well_made : List Str := ["value", "with_holes", "word"]
abbrev p_is_leaf_well_made : List Str := ["value", "with_holes"]
theorem sc_is_leaf_well_made : FnScope N_is_leaf_well_made p_is_leaf_well_made (defScope s_is_leaf_well_made) := ⟨rfl, rfl, rfl, by decide +kernel, rfl, by decide +kernel, by decide +kernel⟩
def b_is_leaf_well_made : Es := (sSeq (sSet 2 (eOp gIx (eVar 0) (eC (.int 0)))) (sSeq (sIf (tV (eOp gEq (eVar 2) (eC (.str "hole")))) (sRet (eAndV (eVar 1) (eArgs m_is_hole_well_made (aCons (eVar 0) aNil)))) sNil) (sSeq (sIf (tV (eOp gNe (eArgs gLen (aCons (eVar 0) aNil)) (eC (.int 2)))) (sRet (eC (.bl false))) sNil) (sSeq (sIf (tV (eOp gEq (eVar 2) (eC (.str "number")))) (sRet (eArgs m_is_whole_within (aCons (eOp gIx (eVar 0) (eC (.int 1))) (aCons (eUn gNeg (eC (.int 999999999))) (aCons (eC (.int 999999999)) aNil))))) sNil) (sRet (eArgs m_is_count (aCons (eOp gIx (eVar 0) (eC (.int 1))) aNil)))))))
def m_is_leaf_well_made : Fn := mkDef 2 3 b_is_leaf_well_made
set_option maxHeartbeats 4000000 in
theorem e_is_leaf_well_made {f : Addr} (T : Txt K w mg) (C_is_count : Cal P w K mg base 2 "is_count" p_is_count (spM K m_is_count)) (C_is_hole_well_made : Cal P w K mg base 3 "is_hole_well_made" p_is_hole_well_made (spM K m_is_hole_well_made)) (C_is_whole_within : Cal P w K mg base 2 "is_whole_within" p_is_whole_within (spM K m_is_whole_within)) (cdv : Value) (A : Around) (outer : List PySem.Env) (s : Shared) (H : Hp) (E : XK) (hr : Room 3 (A.deeper (envOfC "is_leaf_well_made" (defScope s_is_leaf_well_made) s.heap.objs.size f cdv))) :
    ESs (cxOf CX0 P w K mg base N_is_leaf_well_made "is_leaf_well_made" (defScope s_is_leaf_well_made) f cdv A outer s H E).nox (defBody s_is_leaf_well_made) b_is_leaf_well_made :=
  have S := sc_is_leaf_well_made
  (es_cons (es_set (ps_set (i := 2) S.nd rfl (Or.inl rfl) (ee_ix (ee_var 0 (pv 0)) ee_int (fun _ _ => rfl)))) (es_cons (es_if (et_cmp (op_eqA (hu64 hr)) l_eq (ee_var 2 (pv 2)) ee_str (nomark _)) (es_one (es_ret (ee_and (ee_var 1 (pv 1)) (ee_one (ee_callC C_is_hole_well_made hr (by first | decide | omega) (by rfl) (ea_cons (ee_var 0 (pv 0)) ea_nil)))))) es_nil) (es_cons (es_if (et_cmp (op_neA (hu64 hr)) l_ne (ee_callB call_lenA l_len (by rfl) T.len (by decide +kernel) (ea_cons (ee_var 0 (pv 0)) ea_nil)) ee_int (nomark _)) (es_one (es_ret ee_bl)) es_nil) (es_cons (es_if (et_cmp (op_eqA (hu64 hr)) l_eq (ee_var 2 (pv 2)) ee_str (nomark _)) (es_one (es_ret (ee_callC C_is_whole_within hr (by first | decide | omega) (by rfl) (ea_cons (ee_ix (ee_var 0 (pv 0)) ee_int (fun _ _ => rfl)) (ea_cons (ee_un un_neg l_neg (ee_gint T.kGREATEST_NUMBER (by rfl))) (ea_cons (ee_gint T.kGREATEST_NUMBER (by rfl)) ea_nil)))))) es_nil) (es_one (es_ret (ee_callC C_is_count hr (by first | decide | omega) (by rfl) (ea_cons (ee_ix (ee_var 0 (pv 0)) ee_int (fun _ _ => rfl)) ea_nil))))))))
theorem c_is_leaf_well_made {f : Addr} {fd : FuncData} (hm : mg "is_leaf_well_made" = some (.ref f)) (F : FunD K "is_leaf_well_made" "is_leaf_well_made" (defArgs s_is_leaf_well_made) (defBody s_is_leaf_well_made) (defScope s_is_leaf_well_made) [] [] f fd) (T : Txt K w mg) (C_is_count : Cal P w K mg base 2 "is_count" p_is_count (spM K m_is_count)) (C_is_hole_well_made : Cal P w K mg base 3 "is_hole_well_made" p_is_hole_well_made (spM K m_is_hole_well_made)) (C_is_whole_within : Cal P w K mg base 2 "is_whole_within" p_is_whole_within (spM K m_is_whole_within)) : Cal P w K mg base 4 "is_leaf_well_made" p_is_leaf_well_made (spM K m_is_leaf_well_made) :=
  cal_of hm F (fun _ _ _ _ _ _ us hl => match us, hl with | [_, _], _ => rfl) (fun _ _ _ _ _ _ us hl => match us, hl with | [_, _], _ => rfl) (fn_def F sc_is_leaf_well_made fun cdv A outer s H E hr => e_is_leaf_well_made T C_is_count C_is_hole_well_made C_is_whole_within cdv A outer s H E hr)
abbrev N_own_length : List Str := ["words", "value", "with_holes", "names"]
abbrev p_own_length : List Str := ["words", "value", "with_holes"]
theorem sc_own_length : FnScope N_own_length p_own_length (defScope s_own_length) := ⟨rfl, rfl, rfl, by decide +kernel, rfl, by decide +kernel, by decide +kernel⟩
def b_own_length : Es := (sSeq (sIf (tOrE (tNotE (tT (eUn (gIsi .tuple) (eVar 1)))) (tOrE (tNotE (tT (eVar 1))) (tNotE (tT (eUn (gIsi .str) (eOp gIx (eVar 1) (eC (.int 0)))))))) (sRet (eC .non)) sNil) (sSeq (sIf (tT (eArgs m_is_leaf (aCons (eVar 1) aNil))) (sRet (eIf (tT (eArgs m_is_leaf_well_made (aCons (eVar 1) (aCons (eVar 2) aNil)))) (eC (.int 1)) (eC .non))) sNil) (sSeq (sSet 3 (eDGet1 (eVar 0) (eOp gIx (eVar 1) (eC (.int 0))))) (sSeq (sIf (tOrE (tV (eOp gIsN (eVar 3) (eC .non))) (tV (eOp gNe (eArgs gLen (aCons (eVar 1) aNil)) (eOp gAdd (eC (.int 1)) (eArgs gLen (aCons (eVar 3) aNil)))))) (sRet (eC .non)) sNil) (sRet (eOp gAdd (eC (.int 1)) (eArgs gSumA (aCons (eVar 3) aNil))))))))
def m_own_length : Fn := mkDef 3 4 b_own_length
set_option maxHeartbeats 4000000 in
theorem e_own_length {f : Addr} (T : Txt K w mg) (C_is_leaf : Cal P w K mg base 1 "is_leaf" p_is_leaf (spM K m_is_leaf)) (C_is_leaf_well_made : Cal P w K mg base 4 "is_leaf_well_made" p_is_leaf_well_made (spM K m_is_leaf_well_made)) (cdv : Value) (A : Around) (outer : List PySem.Env) (s : Shared) (H : Hp) (E : XK) (hr : Room 4 (A.deeper (envOfC "own_length" (defScope s_own_length) s.heap.objs.size f cdv))) :
    ESs (cxOf CX0 P w K mg base N_own_length "own_length" (defScope s_own_length) f cdv A outer s H E).nox (defBody s_own_length) b_own_length :=
  have S := sc_own_length
  (es_cons (es_if (et_w (ew_or (et_not (et_truth (ee_isi .tuple (by rfl) T.isinstance (ee_var 1 (pv 1)) (pe_bltn (v := .ty "tuple") (by rfl) T.tuple (by decide +kernel) rfl)))) (ew_or (et_not (et_truth (ee_var 1 (pv 1)))) (ew_or1 (et_not (et_truth (ee_isi .str (by rfl) T.isinstance (ee_ix (ee_var 1 (pv 1)) ee_int (fun _ _ => rfl)) (pe_bltn (v := .ty "str") (by rfl) T.str (by decide +kernel) rfl)))))))) (es_one (es_ret ee_non)) es_nil) (es_cons (es_if (et_truth (ee_callC C_is_leaf hr (by first | decide | omega) (by rfl) (ea_cons (ee_var 1 (pv 1)) ea_nil))) (es_one (es_ret (ee_if (et_truth (ee_callC C_is_leaf_well_made hr (by first | decide | omega) (by rfl) (ea_cons (ee_var 1 (pv 1)) (ea_cons (ee_var 2 (pv 2)) ea_nil)))) ee_int ee_non))) es_nil) (es_cons (es_set (ps_set (i := 3) S.nd rfl (Or.inl rfl) (ee_dget1 (hu_of hr) (ee_var 0 (pv 0)) (ee_ix (ee_var 1 (pv 1)) ee_int (fun _ _ => rfl)) ⟨rfl, rfl, rfl, rfl⟩))) (es_cons (es_if (et_w (ew_or (et_cmp (op_isN) l_isN (ee_var 3 (pv 3)) ee_non (nomark _)) (ew_or1 (et_cmp (op_neA (hu64 hr)) l_ne (ee_callB call_lenA l_len (by rfl) T.len (by decide +kernel) (ea_cons (ee_var 1 (pv 1)) ea_nil)) (ee_op op_addA l_add ee_int (ee_callB call_lenA l_len (by rfl) T.len (by decide +kernel) (ea_cons (ee_var 3 (pv 3)) ea_nil))) (nomark _))))) (es_one (es_ret ee_non)) es_nil) (es_one (es_ret (ee_op op_addA l_add ee_int (ee_callB (call_sumA rfl) l_sumA (by rfl) T.sum (by decide +kernel) (ea_cons (ee_var 3 (pv 3)) ea_nil)))))))))
theorem c_own_length {f : Addr} {fd : FuncData} (hm : mg "own_length" = some (.ref f)) (F : FunD K "own_length" "own_length" (defArgs s_own_length) (defBody s_own_length) (defScope s_own_length) [] [] f fd) (T : Txt K w mg) (C_is_leaf : Cal P w K mg base 1 "is_leaf" p_is_leaf (spM K m_is_leaf)) (C_is_leaf_well_made : Cal P w K mg base 4 "is_leaf_well_made" p_is_leaf_well_made (spM K m_is_leaf_well_made)) : Cal P w K mg base 5 "own_length" p_own_length (spM K m_own_length) :=
  cal_of hm F (fun _ _ _ _ _ _ us hl => match us, hl with | [_, _, _], _ => rfl) (fun _ _ _ _ _ _ us hl => match us, hl with | [_, _, _], _ => rfl) (fn_def F sc_own_length fun cdv A outer s H E hr => e_own_length T C_is_leaf C_is_leaf_well_made cdv A outer s H E hr)
abbrev N_fits : List Str := ["words", "value", "with_holes", "due", "length", "here", "depth", "added", "part"]
abbrev p_fits : List Str := ["words", "value", "with_holes"]
theorem sc_fits : FnScope N_fits p_fits (defScope s_fits) := ⟨rfl, rfl, rfl, by decide +kernel, rfl, by decide +kernel, by decide +kernel⟩
def b_fits : Es := (sSeq (sPar 3 4 (eNew (eArgs gLstP (aCons (eArgs gTupP (aCons (eVar 1) (aCons (eC (.int 1)) aNil))) aNil))) (eC (.int 0))) (sSeq (whileF (tT (eVar 3)) (sSeq (sAsg (eMeth0 gPop (eVar 3)) (nTup 2 (nCons (nName 5) (nCons (nName 6) nNil)))) (sSeq (sSet 7 (eArgs m_own_length (aCons (eVar 0) (aCons (eVar 5) (aCons (eVar 2) aNil))))) (sSeq (sIf (tOrE (tV (eOp gIsN (eVar 7) (eC .non))) (tV (eOp gGt (eVar 6) (eC (.int 60))))) (sRet (eC (.bl false))) sNil) (sSeq (sAugI 4 (eVar 7)) (sSeq (sIf (tV (eOp gGt (eVar 4) (eC (.int 1500)))) (sRet (eC (.bl false))) sNil) (sIf (tNotE (tT (eArgs m_is_leaf (aCons (eVar 5) aNil)))) (sExpr (eMeth1 gExt (eVar 3) (fComp (iSeq (eSl (eVar 5) (oSome (eC (.int 1))) oNone)) (nName 8) tYesE (eArgs gTupP (aCons (eVar 8) (aCons (eOp gAdd (eVar 6) (eC (.int 1))) aNil))) [8]))) sNil)))))) fuel) (sRet (eC (.bl true)))))
def m_fits : Fn := mkDef 3 9 b_fits
set_option maxHeartbeats 4000000 in
theorem e_fits {f : Addr} (T : Txt K w mg) (C_is_leaf : Cal P w K mg base 1 "is_leaf" p_is_leaf (spM K m_is_leaf)) (C_own_length : Cal P w K mg base 5 "own_length" p_own_length (spM K m_own_length)) (cdv : Value) (A : Around) (outer : List PySem.Env) (s : Shared) (H : Hp) (E : XK) (hr : Room 5 (A.deeper (envOfC "fits" (defScope s_fits) s.heap.objs.size f cdv))) :
    ESs (cxOf CX0 P w K mg base N_fits "fits" (defScope s_fits) f cdv A outer s H E).nox (defBody s_fits) b_fits :=
  have S := sc_fits
  (es_cons (es_par2 (i := 3) (j := 4) (by rfl) S.nd rfl rfl (by decide) rfl rfl (ee_new (ef_lst (ea_cons (ee_tup (ea_cons (ee_var 1 (pv 1)) (ea_cons ee_int ea_nil))) ea_nil))) ee_int (by rfl) (by rfl)) (es_cons (es_while PassesOwn.never (et_truth (ee_var 3 (pv 3))) (es_cons (es_asg (ee_meth0 l_pop (pe_bm0 PySem.F.plainAttrs_list PySem.F.slot_list_pop PySem.F.type_list_pop mt_pop (ee_var 3 (pv 3)))) (eg_tup rfl (egs_cons (eg_name (pg_name (i := 5) S.nd rfl (Or.inl rfl))) (egs_cons (eg_name (pg_name (i := 6) S.nd rfl (Or.inr rfl))) egs_nil)))) (es_cons (es_set (ps_set (i := 7) S.nd rfl (Or.inl rfl) (ee_callC C_own_length hr (by first | decide | omega) (by rfl) (ea_cons (ee_var 0 (pv 0)) (ea_cons (ee_var 5 (pv 5)) (ea_cons (ee_var 2 (pv 2)) ea_nil)))))) (es_cons (es_if (et_w (ew_or (et_cmp (op_isN) l_isN (ee_var 7 (pv 7)) ee_non (nomark _)) (ew_or1 (et_cmp (op_gt) l_gt (ee_var 6 (pv 6)) (ee_gint T.kMAX_DEPTH (by rfl)) (nomark _))))) (es_one (es_ret ee_bl)) es_nil) (es_cons (es_augI (ps_aug (i := 4) S.nd rfl (Or.inl rfl) (ee_var 7 (pv 7)) ip_add)) (es_cons (es_if (et_cmp (op_gt) l_gt (ee_var 4 (pv 4)) (ee_gint T.kMAX_LENGTH (by rfl)) (nomark _)) (es_one (es_ret ee_bl)) es_nil) (es_one (es_if (et_not (et_truth (ee_callC C_is_leaf hr (by first | decide | omega) (by rfl) (ea_cons (ee_var 5 (pv 5)) ea_nil)))) (es_one (es_expr (ee_meth1 l_ext (pe_bm PySem.F.plainAttrs_list PySem.F.slot_list_extend PySem.F.type_list_extend mt_extend (ee_var 3 (pv 3)) (pa_cons (ee_pure (ef_comp (own := [("part", 8)]) (g := (gName 8)) rfl S.nd (blkOk_by (N := N_fits) (sc := defScope s_fits) (by decide +kernel)) (tgt_name (by decide)) (ei_seq (ee_sl (ee_var 5 (pv 5)) (eo_some ee_int) eo_none)) (fun _ _ _ _ _ => pg_name (i := 8) S.nd rfl (Or.inl rfl)) (fun _ _ _ _ _ => ei_none) (fun _ _ _ _ _ => (ee_tup (ea_cons (ee_var 8 (pv 8)) (ea_cons (ee_op op_addA l_add (ee_var 6 (pv 6)) ee_int) ea_nil)))))) pa_nil))))) es_nil))))))) fuel) (es_one (es_ret ee_bl))))
theorem c_fits {f : Addr} {fd : FuncData} (hm : mg "fits" = some (.ref f)) (F : FunD K "fits" "fits" (defArgs s_fits) (defBody s_fits) (defScope s_fits) [] [] f fd) (T : Txt K w mg) (C_is_leaf : Cal P w K mg base 1 "is_leaf" p_is_leaf (spM K m_is_leaf)) (C_own_length : Cal P w K mg base 5 "own_length" p_own_length (spM K m_own_length)) : Cal P w K mg base 6 "fits" p_fits (spM K m_fits) :=
  cal_of hm F (fun _ _ _ _ _ _ us hl => match us, hl with | [_, _, _], _ => rfl) (fun _ _ _ _ _ _ us hl => match us, hl with | [_, _, _], _ => rfl) (fn_def F sc_fits fun cdv A outer s H E hr => e_fits T C_is_leaf C_own_length cdv A outer s H E hr)
abbrev N_part_rows : List Str := ["words", "row", "node", "_", "outward", "depth", "part", "many"]
abbrev p_part_rows : List Str := ["words", "row"]
theorem sc_part_rows : FnScope N_part_rows p_part_rows (defScope s_part_rows) := ⟨rfl, rfl, rfl, by decide +kernel, rfl, by decide +kernel, by decide +kernel⟩
def b_part_rows : Es := (sSeq (sAsg (eVar 1) (nTup 4 (nCons (nName 2) (nCons (nName 3) (nCons (nName 4) (nCons (nName 5) nNil)))))) (sSeq (sIf (tT (eArgs m_is_leaf (aCons (eVar 2) aNil))) (sRet (eArgs gLstP aNil)) sNil) (sRet (fComp (iArgs gZip (aCons (eSl (eVar 2) (oSome (eC (.int 1))) oNone) (aCons (eOp gDIx (eVar 0) (eOp gIx (eVar 2) (eC (.int 0)))) aNil))) (nTup 2 (nNs [6, 7])) tYesE (eArgs gTupP (aCons (eVar 6) (aCons (eVar 7) (aCons (eOp gAdd (eVar 4) (eVar 7)) (aCons (eOp gAdd (eVar 5) (eC (.int 1))) aNil))))) [6, 7]))))
def m_part_rows : Fn := mkDef 2 8 b_part_rows
set_option maxHeartbeats 4000000 in
theorem e_part_rows {f : Addr} (T : Txt K w mg) (C_is_leaf : Cal P w K mg base 1 "is_leaf" p_is_leaf (spM K m_is_leaf)) (cdv : Value) (A : Around) (outer : List PySem.Env) (s : Shared) (H : Hp) (E : XK) (hr : Room 1 (A.deeper (envOfC "part_rows" (defScope s_part_rows) s.heap.objs.size f cdv))) :
    ESs (cxOf CX0 P w K mg base N_part_rows "part_rows" (defScope s_part_rows) f cdv A outer s H E).nox (defBody s_part_rows) b_part_rows :=
  have S := sc_part_rows
  (es_cons (es_asg (ee_var 1 (pv 1)) (eg_tup rfl (egs_cons (eg_name (pg_name (i := 2) S.nd rfl (Or.inl rfl))) (egs_cons (eg_name (pg_name (i := 3) S.nd rfl (Or.inl rfl))) (egs_cons (eg_name (pg_name (i := 4) S.nd rfl (Or.inr rfl))) (egs_cons (eg_name (pg_name (i := 5) S.nd rfl (Or.inr rfl))) egs_nil)))))) (es_cons (es_if (et_truth (ee_callC C_is_leaf hr (by first | decide | omega) (by rfl) (ea_cons (ee_var 2 (pv 2)) ea_nil))) (es_one (es_ret (ee_pure (ef_lst ea_nil)))) es_nil) (es_one (es_ret (ee_pure (ef_comp (own := [("part", 6), ("many", 7)]) (g := (gTup K 2 (gNs [6, 7]))) rfl S.nd (blkOk_by (N := N_part_rows) (sc := defScope s_part_rows) (by decide +kernel)) (tgt_tup (by decide)) (ei_zip (by rfl) T.zip (ea_cons (ee_sl (ee_var 2 (pv 2)) (eo_some ee_int) eo_none) (ea_cons (ee_dix (hu_of hr) (ee_var 0 (pv 0)) (ee_ix (ee_var 2 (pv 2)) ee_int (fun _ _ => rfl)) (fun _ _ => rfl)) ea_nil))) (fun _ _ _ _ _ => pg_tup rfl (pgs_cons (pg_name (i := 6) S.nd rfl (Or.inl rfl)) (pgs_cons (pg_name (i := 7) S.nd rfl (Or.inl rfl)) pgs_nil))) (fun _ _ _ _ _ => ei_none) (fun _ _ _ _ _ => (ee_tup (ea_cons (ee_var 6 (pv 6)) (ea_cons (ee_var 7 (pv 7)) (ea_cons (ee_op op_addA l_add (ee_var 4 (pv 4)) (ee_var 7 (pv 7))) (ea_cons (ee_op op_addA l_add (ee_var 5 (pv 5)) ee_int) ea_nil))))))))))))
theorem c_part_rows {f : Addr} {fd : FuncData} (hm : mg "part_rows" = some (.ref f)) (F : FunD K "part_rows" "part_rows" (defArgs s_part_rows) (defBody s_part_rows) (defScope s_part_rows) [] [] f fd) (T : Txt K w mg) (C_is_leaf : Cal P w K mg base 1 "is_leaf" p_is_leaf (spM K m_is_leaf)) : Cal P w K mg base 2 "part_rows" p_part_rows (spM K m_part_rows) :=
  cal_of hm F (fun _ _ _ _ _ _ us hl => match us, hl with | [_, _], _ => rfl) (fun _ _ _ _ _ _ us hl => match us, hl with | [_, _], _ => rfl) (fn_def F sc_part_rows fun cdv A outer s H E hr => e_part_rows T C_is_leaf cdv A outer s H E hr)
abbrev N_nodes : List Str := ["words", "pattern", "rows", "due", "row"]
abbrev p_nodes : List Str := ["words", "pattern"]
theorem sc_nodes : FnScope N_nodes p_nodes (defScope s_nodes) := ⟨rfl, rfl, rfl, by decide +kernel, rfl, by decide +kernel, by decide +kernel⟩
def b_nodes : Es := (sSeq (sPar 2 3 (eNew (eArgs gLstP aNil)) (eNew (eArgs gLstP (aCons (eArgs gTupP (aCons (eVar 1) (aCons (eC (.int 0)) (aCons (eC (.int 0)) (aCons (eC (.int 1)) aNil))))) aNil)))) (sSeq (whileF (tT (eVar 3)) (sSeq (sSet 4 (eMeth0 gPop (eVar 3))) (sSeq (sExpr (eMeth1 gApp (eVar 2) (eVar 4))) (sExpr (eMeth1 gExt (eVar 3) (eUn gRev (eArgs m_part_rows (aCons (eVar 0) (aCons (eVar 4) aNil)))))))) fuel) (sRet (eVar 2))))
def m_nodes : Fn := mkDef 2 5 b_nodes
set_option maxHeartbeats 4000000 in
theorem e_nodes {f : Addr} (T : Txt K w mg) (C_part_rows : Cal P w K mg base 2 "part_rows" p_part_rows (spM K m_part_rows)) (cdv : Value) (A : Around) (outer : List PySem.Env) (s : Shared) (H : Hp) (E : XK) (hr : Room 2 (A.deeper (envOfC "nodes" (defScope s_nodes) s.heap.objs.size f cdv))) :
    ESs (cxOf CX0 P w K mg base N_nodes "nodes" (defScope s_nodes) f cdv A outer s H E).nox (defBody s_nodes) b_nodes :=
  have S := sc_nodes
  (es_cons (es_par2 (i := 2) (j := 3) (by rfl) S.nd rfl rfl (by decide) rfl rfl (ee_new (ef_lst ea_nil)) (ee_new (ef_lst (ea_cons (ee_tup (ea_cons (ee_var 1 (pv 1)) (ea_cons ee_int (ea_cons ee_int (ea_cons ee_int ea_nil))))) ea_nil))) (by rfl) (by rfl)) (es_cons (es_while PassesOwn.never (et_truth (ee_var 3 (pv 3))) (es_cons (es_set (ps_set (i := 4) S.nd rfl (Or.inl rfl) (ee_meth0 l_pop (pe_bm0 PySem.F.plainAttrs_list PySem.F.slot_list_pop PySem.F.type_list_pop mt_pop (ee_var 3 (pv 3)))))) (es_cons (es_expr (ee_meth1 l_app (pe_bm PySem.F.plainAttrs_list PySem.F.slot_list_append PySem.F.type_list_append mt_append (ee_var 2 (pv 2)) (pa_cons (ee_var 4 (pv 4)) pa_nil)))) (es_one (es_expr (ee_meth1 l_ext (pe_bm PySem.F.plainAttrs_list PySem.F.slot_list_extend PySem.F.type_list_extend mt_extend (ee_var 3 (pv 3)) (pa_cons (ee_pure (ef_rev (ee_callC C_part_rows hr (by first | decide | omega) (by rfl) (ea_cons (ee_var 0 (pv 0)) (ea_cons (ee_var 4 (pv 4)) ea_nil))) (pe_revL (ee_callC C_part_rows hr (by first | decide | omega) (by rfl) (ea_cons (ee_var 0 (pv 0)) (ea_cons (ee_var 4 (pv 4)) ea_nil)))))) pa_nil))))))) fuel) (es_one (es_ret (ee_var 2 (pv 2))))))
theorem c_nodes {f : Addr} {fd : FuncData} (hm : mg "nodes" = some (.ref f)) (F : FunD K "nodes" "nodes" (defArgs s_nodes) (defBody s_nodes) (defScope s_nodes) [] [] f fd) (T : Txt K w mg) (C_part_rows : Cal P w K mg base 2 "part_rows" p_part_rows (spM K m_part_rows)) : Cal P w K mg base 3 "nodes" p_nodes (spM K m_nodes) :=
  cal_of hm F (fun _ _ _ _ _ _ us hl => match us, hl with | [_, _], _ => rfl) (fun _ _ _ _ _ _ us hl => match us, hl with | [_, _], _ => rfl) (fn_def F sc_nodes fun cdv A outer s H E hr => e_nodes T C_part_rows cdv A outer s H E hr)
abbrev N_are_holes_of : List Str := ["names", "holes", "hole"]
abbrev p_are_holes_of : List Str := ["names", "holes"]
theorem sc_are_holes_of : FnScope N_are_holes_of p_are_holes_of (defScope s_are_holes_of) := ⟨rfl, rfl, rfl, by decide +kernel, rfl, by decide +kernel, by decide +kernel⟩
def b_are_holes_of : Es := (sSeq (sIf (tV (eOp gNe (eArgs gSorted (aCons (fComp (iSeq (eVar 1)) (nName 2) tYesE (eOp gIx (eVar 2) (eC (.int 1))) [2]) aNil)) (eUn gLstRg (eArgs gLen (aCons (eVar 0) aNil))))) (sRet (eC (.bl false))) sNil) (sRet (eArgs gAll (aCons (fComp (iSeq (eVar 1)) (nName 2) tYesE (eChain gEq gEq (eOp gSub (eArgs gLen (aCons (eVar 2) aNil)) (eC (.int 2))) (eOp gIx (eVar 0) (eOp gIx (eVar 2) (eC (.int 1)))) (eUn gLenSet (eSl (eVar 2) (oSome (eC (.int 2))) oNone))) [2]) aNil))))
def m_are_holes_of : Fn := mkDef 2 3 b_are_holes_of
set_option maxHeartbeats 4000000 in
theorem e_are_holes_of {f : Addr} (T : Txt K w mg) (cdv : Value) (A : Around) (outer : List PySem.Env) (s : Shared) (H : Hp) (E : XK) (hr : Room 0 (A.deeper (envOfC "are_holes_of" (defScope s_are_holes_of) s.heap.objs.size f cdv))) :
    ESs (cxOf CX0 P w K mg base N_are_holes_of "are_holes_of" (defScope s_are_holes_of) f cdv A outer s H E).nox (defBody s_are_holes_of) b_are_holes_of :=
  have S := sc_are_holes_of
  (es_cons (es_if (et_cmp (op_neA (hu64 hr)) l_ne (ee_pure (ef_callB cr_sortedI l_sorted (by rfl) T.sorted (by decide +kernel) (ea_cons (ee_pure (ef_comp (own := [("hole", 2)]) (g := (gName 2)) rfl S.nd (blkOk_by (N := N_are_holes_of) (sc := defScope s_are_holes_of) (by decide +kernel)) (tgt_name (by decide)) (ei_seq (ee_var 1 (pv 1))) (fun _ _ _ _ _ => pg_name (i := 2) S.nd rfl (Or.inl rfl)) (fun _ _ _ _ _ => ei_none) (fun _ _ _ _ _ => (ee_ix (ee_var 2 (pv 2)) ee_int (fun _ _ => rfl))))) ea_nil))) (ee_pure (ef_listRg rfl (by rfl) T.list (by rfl) T.range (ee_callB call_lenA l_len (by rfl) T.len (by decide +kernel) (ea_cons (ee_var 0 (pv 0)) ea_nil)))) (nomark _)) (es_one (es_ret ee_bl)) es_nil) (es_one (es_ret (ee_callB (cr_all rfl) l_all (by rfl) T.all (by decide +kernel) (ea_cons (ee_pure (ef_comp (own := [("hole", 2)]) (g := (gName 2)) rfl S.nd (blkOk_by (N := N_are_holes_of) (sc := defScope s_are_holes_of) (by decide +kernel)) (tgt_name (by decide)) (ei_seq (ee_var 1 (pv 1))) (fun _ _ _ _ _ => pg_name (i := 2) S.nd rfl (Or.inl rfl)) (fun _ _ _ _ _ => ei_none) (fun _ _ _ _ _ => (ee_chain (op_eqA (hu64 hr)) l_eq (op_eqA (hu64 hr)) l_eq (ee_op op_sub l_sub (ee_callB call_lenA l_len (by rfl) T.len (by decide +kernel) (ea_cons (ee_var 2 (pv 2)) ea_nil)) ee_int) (ee_ix (ee_var 0 (pv 0)) (ee_ix (ee_var 2 (pv 2)) ee_int (fun _ _ => rfl)) (fun _ _ => rfl)) (ee_lenSet (by rfl) (by rfl) T.len T.set (ee_sl (ee_var 2 (pv 2)) (eo_some ee_int) eo_none)) (by with_unfolding_all rfl) pure_gEq)))) ea_nil)))))
theorem c_are_holes_of {f : Addr} {fd : FuncData} (hm : mg "are_holes_of" = some (.ref f)) (F : FunD K "are_holes_of" "are_holes_of" (defArgs s_are_holes_of) (defBody s_are_holes_of) (defScope s_are_holes_of) [] [] f fd) (T : Txt K w mg) : Cal P w K mg base 1 "are_holes_of" p_are_holes_of (spM K m_are_holes_of) :=
  cal_of hm F (fun _ _ _ _ _ _ us hl => match us, hl with | [_, _], _ => rfl) (fun _ _ _ _ _ _ us hl => match us, hl with | [_, _], _ => rfl) (fn_def F sc_are_holes_of fun cdv A outer s H E hr => e_are_holes_of T  cdv A outer s H E hr)
abbrev N_is_length_of_template : List Str := ["names", "length"]
abbrev p_is_length_of_template : List Str := ["names", "length"]
theorem sc_is_length_of_template : FnScope N_is_length_of_template p_is_length_of_template (defScope s_is_length_of_template) := ⟨rfl, rfl, rfl, by decide +kernel, rfl, by decide +kernel, by decide +kernel⟩
def b_is_length_of_template : Es := (sRet (eAndV (eOp gLe (eVar 1) (eC (.int 24))) (eOp gLe (eOp gAdd (eC (.int 1)) (eArgs gSumA (aCons (eVar 0) aNil))) (eOp gSub (eVar 1) (eArgs gLen (aCons (eVar 0) aNil))))))
def m_is_length_of_template : Fn := mkDef 2 2 b_is_length_of_template
set_option maxHeartbeats 4000000 in
theorem e_is_length_of_template {f : Addr} (T : Txt K w mg) (cdv : Value) (A : Around) (outer : List PySem.Env) (s : Shared) (H : Hp) (E : XK) (hr : Room 0 (A.deeper (envOfC "is_length_of_template" (defScope s_is_length_of_template) s.heap.objs.size f cdv))) :
    ESs (cxOf CX0 P w K mg base N_is_length_of_template "is_length_of_template" (defScope s_is_length_of_template) f cdv A outer s H E).nox (defBody s_is_length_of_template) b_is_length_of_template :=
  have S := sc_is_length_of_template
  (es_one (es_ret (ee_and (ee_cmp (op_le) l_le (ee_var 1 (pv 1)) (ee_gint T.kMAX_TEMPLATE (by rfl)) (nomark _)) (ee_one (ee_cmp (op_le) l_le (ee_op op_addA l_add ee_int (ee_callB (call_sumA rfl) l_sumA (by rfl) T.sum (by decide +kernel) (ea_cons (ee_var 0 (pv 0)) ea_nil))) (ee_op op_sub l_sub (ee_var 1 (pv 1)) (ee_callB call_lenA l_len (by rfl) T.len (by decide +kernel) (ea_cons (ee_var 0 (pv 0)) ea_nil))) (nomark _))))))
theorem c_is_length_of_template {f : Addr} {fd : FuncData} (hm : mg "is_length_of_template" = some (.ref f)) (F : FunD K "is_length_of_template" "is_length_of_template" (defArgs s_is_length_of_template) (defBody s_is_length_of_template) (defScope s_is_length_of_template) [] [] f fd) (T : Txt K w mg) : Cal P w K mg base 1 "is_length_of_template" p_is_length_of_template (spM K m_is_length_of_template) :=
  cal_of hm F (fun _ _ _ _ _ _ us hl => match us, hl with | [_, _], _ => rfl) (fun _ _ _ _ _ _ us hl => match us, hl with | [_, _], _ => rfl) (fn_def F sc_is_length_of_template fun cdv A outer s H E hr => e_is_length_of_template T  cdv A outer s H E hr)
abbrev N_length_in : List Str := ["words", "pattern", "row"]
abbrev p_length_in : List Str := ["words", "pattern"]
theorem sc_length_in : FnScope N_length_in p_length_in (defScope s_length_in) := ⟨rfl, rfl, rfl, by decide +kernel, rfl, by decide +kernel, by decide +kernel⟩
def b_length_in : Es := (sRet (eArgs gSumA (aCons (fComp (iSeq (eArgs m_nodes (aCons (eVar 0) (aCons (eVar 1) aNil)))) (nName 2) tYesE (eOp gAdd (eC (.int 1)) (eOp gIx (eVar 2) (eC (.int 1)))) [2]) aNil)))
def m_length_in : Fn := mkDef 2 3 b_length_in
set_option maxHeartbeats 4000000 in
theorem e_length_in {f : Addr} (T : Txt K w mg) (C_nodes : Cal P w K mg base 3 "nodes" p_nodes (spM K m_nodes)) (cdv : Value) (A : Around) (outer : List PySem.Env) (s : Shared) (H : Hp) (E : XK) (hr : Room 3 (A.deeper (envOfC "length_in" (defScope s_length_in) s.heap.objs.size f cdv))) :
    ESs (cxOf CX0 P w K mg base N_length_in "length_in" (defScope s_length_in) f cdv A outer s H E).nox (defBody s_length_in) b_length_in :=
  have S := sc_length_in
  (es_one (es_ret (ee_callB (call_sumA rfl) l_sumA (by rfl) T.sum (by decide +kernel) (ea_cons (ee_pure (ef_comp (own := [("row", 2)]) (g := (gName 2)) rfl S.nd (blkOk_by (N := N_length_in) (sc := defScope s_length_in) (by decide +kernel)) (tgt_name (by decide)) (ei_seq (ee_callC C_nodes hr (by first | decide | omega) (by rfl) (ea_cons (ee_var 0 (pv 0)) (ea_cons (ee_var 1 (pv 1)) ea_nil)))) (fun _ _ _ _ _ => pg_name (i := 2) S.nd rfl (Or.inl rfl)) (fun _ _ _ _ _ => ei_none) (fun _ _ _ _ _ => (ee_op op_addA l_add ee_int (ee_ix (ee_var 2 (pv 2)) ee_int (fun _ _ => rfl)))))) ea_nil))))
theorem c_length_in {f : Addr} {fd : FuncData} (hm : mg "length_in" = some (.ref f)) (F : FunD K "length_in" "length_in" (defArgs s_length_in) (defBody s_length_in) (defScope s_length_in) [] [] f fd) (T : Txt K w mg) (C_nodes : Cal P w K mg base 3 "nodes" p_nodes (spM K m_nodes)) : Cal P w K mg base 4 "length_in" p_length_in (spM K m_length_in) :=
  cal_of hm F (fun _ _ _ _ _ _ us hl => match us, hl with | [_, _], _ => rfl) (fun _ _ _ _ _ _ us hl => match us, hl with | [_, _], _ => rfl) (fn_def F sc_length_in fun cdv A outer s H E hr => e_length_in T C_nodes cdv A outer s H E hr)
abbrev N_is_told_inside : List Str := ["node", "outward", "k"]
abbrev p_is_told_inside : List Str := ["node", "outward"]
theorem sc_is_told_inside : FnScope N_is_told_inside p_is_told_inside (defScope s_is_told_inside) := ⟨rfl, rfl, rfl, by decide +kernel, rfl, by decide +kernel, by decide +kernel⟩
def b_is_told_inside : Es := (sSeq (sIf (tV (eOp gEq (eOp gIx (eVar 0) (eC (.int 0))) (eC (.str "at")))) (sRet (eC (.bl false))) sNil) (sSeq (sIf (tV (eOp gEq (eOp gIx (eVar 0) (eC (.int 0))) (eC (.str "name")))) (sRet (eOp gLt (eOp gIx (eVar 0) (eC (.int 1))) (eVar 1))) sNil) (sRet (eOrV (eOp gNe (eOp gIx (eVar 0) (eC (.int 0))) (eC (.str "hole"))) (eArgs gAll (aCons (fComp (iSeq (eSl (eVar 0) (oSome (eC (.int 2))) oNone)) (nName 2) tYesE (eOp gLt (eVar 2) (eVar 1)) [2]) aNil))))))
def m_is_told_inside : Fn := mkDef 2 3 b_is_told_inside
set_option maxHeartbeats 4000000 in
theorem e_is_told_inside {f : Addr} (T : Txt K w mg) (cdv : Value) (A : Around) (outer : List PySem.Env) (s : Shared) (H : Hp) (E : XK) (hr : Room 0 (A.deeper (envOfC "is_told_inside" (defScope s_is_told_inside) s.heap.objs.size f cdv))) :
    ESs (cxOf CX0 P w K mg base N_is_told_inside "is_told_inside" (defScope s_is_told_inside) f cdv A outer s H E).nox (defBody s_is_told_inside) b_is_told_inside :=
  have S := sc_is_told_inside
  (es_cons (es_if (et_cmp (op_eqA (hu64 hr)) l_eq (ee_ix (ee_var 0 (pv 0)) ee_int (fun _ _ => rfl)) ee_str (nomark _)) (es_one (es_ret ee_bl)) es_nil) (es_cons (es_if (et_cmp (op_eqA (hu64 hr)) l_eq (ee_ix (ee_var 0 (pv 0)) ee_int (fun _ _ => rfl)) ee_str (nomark _)) (es_one (es_ret (ee_cmp (op_lt) l_lt (ee_ix (ee_var 0 (pv 0)) ee_int (fun _ _ => rfl)) (ee_var 1 (pv 1)) (nomark _)))) es_nil) (es_one (es_ret (ee_or (ee_cmp (op_neA (hu64 hr)) l_ne (ee_ix (ee_var 0 (pv 0)) ee_int (fun _ _ => rfl)) ee_str (nomark _)) (ee_one (ee_callB (cr_all rfl) l_all (by rfl) T.all (by decide +kernel) (ea_cons (ee_pure (ef_comp (own := [("k", 2)]) (g := (gName 2)) rfl S.nd (blkOk_by (N := N_is_told_inside) (sc := defScope s_is_told_inside) (by decide +kernel)) (tgt_name (by decide)) (ei_seq (ee_sl (ee_var 0 (pv 0)) (eo_some ee_int) eo_none)) (fun _ _ _ _ _ => pg_name (i := 2) S.nd rfl (Or.inl rfl)) (fun _ _ _ _ _ => ei_none) (fun _ _ _ _ _ => (ee_cmp (op_lt) l_lt (ee_var 2 (pv 2)) (ee_var 1 (pv 1)) (nomark _))))) ea_nil))))))))
theorem c_is_told_inside {f : Addr} {fd : FuncData} (hm : mg "is_told_inside" = some (.ref f)) (F : FunD K "is_told_inside" "is_told_inside" (defArgs s_is_told_inside) (defBody s_is_told_inside) (defScope s_is_told_inside) [] [] f fd) (T : Txt K w mg) : Cal P w K mg base 1 "is_told_inside" p_is_told_inside (spM K m_is_told_inside) :=
  cal_of hm F (fun _ _ _ _ _ _ us hl => match us, hl with | [_, _], _ => rfl) (fun _ _ _ _ _ _ us hl => match us, hl with | [_, _], _ => rfl) (fn_def F sc_is_told_inside fun cdv A outer s H E hr => e_is_told_inside T  cdv A outer s H E hr)
abbrev N_is_template : List Str := ["words", "names", "template", "rows", "row"]
abbrev p_is_template : List Str := ["words", "names", "template"]
theorem sc_is_template : FnScope N_is_template p_is_template (defScope s_is_template) := ⟨rfl, rfl, rfl, by decide +kernel, rfl, by decide +kernel, by decide +kernel⟩
def b_is_template : Es := (sSeq (sSet 3 (eArgs m_nodes (aCons (eVar 0) (aCons (eVar 2) aNil)))) (sSeq (sIf (tOrE (tT (eArgs m_is_leaf (aCons (eVar 2) aNil))) (tNotE (tT (eArgs gAll (aCons (fComp (iSeq (eVar 3)) (nName 4) tYesE (eArgs m_is_told_inside (aCons (eOp gIx (eVar 4) (eC (.int 0))) (aCons (eOp gIx (eVar 4) (eC (.int 2))) aNil))) [4]) aNil))))) (sRet (eC (.bl false))) sNil) (sSeq (sIf (tNotE (tT (eArgs m_is_length_of_template (aCons (eVar 1) (aCons (eArgs m_length_in (aCons (eVar 0) (aCons (eVar 2) aNil))) aNil))))) (sRet (eC (.bl false))) sNil) (sRet (eArgs m_are_holes_of (aCons (eVar 1) (aCons (fComp (iSeq (eVar 3)) (nName 4) (tV (eOp gEq (eOp gIx (eOp gIx (eVar 4) (eC (.int 0))) (eC (.int 0))) (eC (.str "hole")))) (eOp gIx (eVar 4) (eC (.int 0))) [4]) aNil)))))))
def m_is_template : Fn := mkDef 3 5 b_is_template
set_option maxHeartbeats 4000000 in
theorem e_is_template {f : Addr} (T : Txt K w mg) (C_are_holes_of : Cal P w K mg base 1 "are_holes_of" p_are_holes_of (spM K m_are_holes_of)) (C_is_leaf : Cal P w K mg base 1 "is_leaf" p_is_leaf (spM K m_is_leaf)) (C_is_length_of_template : Cal P w K mg base 1 "is_length_of_template" p_is_length_of_template (spM K m_is_length_of_template)) (C_is_told_inside : Cal P w K mg base 1 "is_told_inside" p_is_told_inside (spM K m_is_told_inside)) (C_length_in : Cal P w K mg base 4 "length_in" p_length_in (spM K m_length_in)) (C_nodes : Cal P w K mg base 3 "nodes" p_nodes (spM K m_nodes)) (cdv : Value) (A : Around) (outer : List PySem.Env) (s : Shared) (H : Hp) (E : XK) (hr : Room 4 (A.deeper (envOfC "is_template" (defScope s_is_template) s.heap.objs.size f cdv))) :
    ESs (cxOf CX0 P w K mg base N_is_template "is_template" (defScope s_is_template) f cdv A outer s H E).nox (defBody s_is_template) b_is_template :=
  have S := sc_is_template
  (es_cons (es_set (ps_set (i := 3) S.nd rfl (Or.inl rfl) (ee_callC C_nodes hr (by first | decide | omega) (by rfl) (ea_cons (ee_var 0 (pv 0)) (ea_cons (ee_var 2 (pv 2)) ea_nil))))) (es_cons (es_if (et_w (ew_or (et_truth (ee_callC C_is_leaf hr (by first | decide | omega) (by rfl) (ea_cons (ee_var 2 (pv 2)) ea_nil))) (ew_or1 (et_not (et_truth (ee_callB (cr_all rfl) l_all (by rfl) T.all (by decide +kernel) (ea_cons (ee_pure (ef_comp (own := [("row", 4)]) (g := (gName 4)) rfl S.nd (blkOk_by (N := N_is_template) (sc := defScope s_is_template) (by decide +kernel)) (tgt_name (by decide)) (ei_seq (ee_var 3 (pv 3))) (fun _ _ _ _ _ => pg_name (i := 4) S.nd rfl (Or.inl rfl)) (fun _ _ _ _ _ => ei_none) (fun _ _ _ _ _ => (ee_callC C_is_told_inside hr (by first | decide | omega) (by rfl) (ea_cons (ee_ix (ee_var 4 (pv 4)) ee_int (fun _ _ => rfl)) (ea_cons (ee_ix (ee_var 4 (pv 4)) ee_int (fun _ _ => rfl)) ea_nil)))))) ea_nil))))))) (es_one (es_ret ee_bl)) es_nil) (es_cons (es_if (et_not (et_truth (ee_callC C_is_length_of_template hr (by first | decide | omega) (by rfl) (ea_cons (ee_var 1 (pv 1)) (ea_cons (ee_callC C_length_in hr (by first | decide | omega) (by rfl) (ea_cons (ee_var 0 (pv 0)) (ea_cons (ee_var 2 (pv 2)) ea_nil))) ea_nil))))) (es_one (es_ret ee_bl)) es_nil) (es_one (es_ret (ee_callC C_are_holes_of hr (by first | decide | omega) (by rfl) (ea_cons (ee_var 1 (pv 1)) (ea_cons (ee_pure (ef_comp (own := [("row", 4)]) (g := (gName 4)) rfl S.nd (blkOk_by (N := N_is_template) (sc := defScope s_is_template) (by decide +kernel)) (tgt_name (by decide)) (ei_seq (ee_var 3 (pv 3))) (fun _ _ _ _ _ => pg_name (i := 4) S.nd rfl (Or.inl rfl)) (fun _ _ _ _ _ => ei_one (et_cmp (op_eqA (hu64 hr)) l_eq (ee_ix (ee_ix (ee_var 4 (pv 4)) ee_int (fun _ _ => rfl)) ee_int (fun _ _ => rfl)) ee_str (nomark _))) (fun _ _ _ _ _ => (ee_ix (ee_var 4 (pv 4)) ee_int (fun _ _ => rfl))))) ea_nil))))))))
theorem c_is_template {f : Addr} {fd : FuncData} (hm : mg "is_template" = some (.ref f)) (F : FunD K "is_template" "is_template" (defArgs s_is_template) (defBody s_is_template) (defScope s_is_template) [] [] f fd) (T : Txt K w mg) (C_are_holes_of : Cal P w K mg base 1 "are_holes_of" p_are_holes_of (spM K m_are_holes_of)) (C_is_leaf : Cal P w K mg base 1 "is_leaf" p_is_leaf (spM K m_is_leaf)) (C_is_length_of_template : Cal P w K mg base 1 "is_length_of_template" p_is_length_of_template (spM K m_is_length_of_template)) (C_is_told_inside : Cal P w K mg base 1 "is_told_inside" p_is_told_inside (spM K m_is_told_inside)) (C_length_in : Cal P w K mg base 4 "length_in" p_length_in (spM K m_length_in)) (C_nodes : Cal P w K mg base 3 "nodes" p_nodes (spM K m_nodes)) : Cal P w K mg base 5 "is_template" p_is_template (spM K m_is_template) :=
  cal_of hm F (fun _ _ _ _ _ _ us hl => match us, hl with | [_, _, _], _ => rfl) (fun _ _ _ _ _ _ us hl => match us, hl with | [_, _, _], _ => rfl) (fn_def F sc_is_template fun cdv A outer s H E hr => e_is_template T C_are_holes_of C_is_leaf C_is_length_of_template C_is_told_inside C_length_in C_nodes cdv A outer s H E hr)
abbrev N_is_word_of_letters : List Str := ["value", "sign"]
abbrev p_is_word_of_letters : List Str := ["value"]
theorem sc_is_word_of_letters : FnScope N_is_word_of_letters p_is_word_of_letters (defScope s_is_word_of_letters) := ⟨rfl, rfl, rfl, by decide +kernel, rfl, by decide +kernel, by decide +kernel⟩
def b_is_word_of_letters : Es := (sSeq (sIf (tOrE (tNotE (tT (eUn (gIsi .str) (eVar 0)))) (tNotE (tV (eChain gLe gLe (eC (.int 2)) (eArgs gLen (aCons (eVar 0) aNil)) (eC (.int 8)))))) (sRet (eC (.bl false))) sNil) (sRet (eArgs gAll (aCons (fComp (iSeq (eVar 0)) (nName 1) tYesE (eOp (gIn false) (eVar 1) (eC (.str "abcdefghijklmnopqrstuvwxyz"))) [1]) aNil))))
def m_is_word_of_letters : Fn := mkDef 1 2 b_is_word_of_letters
set_option maxHeartbeats 4000000 in
theorem e_is_word_of_letters {f : Addr} (T : Txt K w mg) (cdv : Value) (A : Around) (outer : List PySem.Env) (s : Shared) (H : Hp) (E : XK) (hr : Room 0 (A.deeper (envOfC "is_word_of_letters" (defScope s_is_word_of_letters) s.heap.objs.size f cdv))) :
    ESs (cxOf CX0 P w K mg base N_is_word_of_letters "is_word_of_letters" (defScope s_is_word_of_letters) f cdv A outer s H E).nox (defBody s_is_word_of_letters) b_is_word_of_letters :=
  have S := sc_is_word_of_letters
  (es_cons (es_if (et_w (ew_or (et_not (et_truth (ee_isi .str (by rfl) T.isinstance (ee_var 0 (pv 0)) (pe_bltn (v := .ty "str") (by rfl) T.str (by decide +kernel) rfl)))) (ew_or1 (et_not (et_chain (op_le) l_le (op_le) l_le (ee_gint T.kWORD_SIGNS (by rfl)) (ee_callB call_lenA l_len (by rfl) T.len (by decide +kernel) (ea_cons (ee_var 0 (pv 0)) ea_nil)) (ee_gint T.kNAME_SIGNS (by rfl))))))) (es_one (es_ret ee_bl)) es_nil) (es_one (es_ret (ee_callB (cr_all rfl) l_all (by rfl) T.all (by decide +kernel) (ea_cons (ee_pure (ef_comp (own := [("sign", 1)]) (g := (gName 1)) rfl S.nd (blkOk_by (N := N_is_word_of_letters) (sc := defScope s_is_word_of_letters) (by decide +kernel)) (tgt_name (by decide)) (ei_seq (ee_var 0 (pv 0))) (fun _ _ _ _ _ => pg_name (i := 1) S.nd rfl (Or.inl rfl)) (fun _ _ _ _ _ => ei_none) (fun _ _ _ _ _ => (ee_cmp (op_inA) l_in (ee_var 1 (pv 1)) (ee_gstr T.kLETTERS (by rfl)) rfl)))) ea_nil)))))
theorem c_is_word_of_letters {f : Addr} {fd : FuncData} (hm : mg "is_word_of_letters" = some (.ref f)) (F : FunD K "is_word_of_letters" "is_word_of_letters" (defArgs s_is_word_of_letters) (defBody s_is_word_of_letters) (defScope s_is_word_of_letters) [] [] f fd) (T : Txt K w mg) : Cal P w K mg base 1 "is_word_of_letters" p_is_word_of_letters (spM K m_is_word_of_letters) :=
  cal_of hm F (fun _ _ _ _ _ _ us hl => match us, hl with | [_], _ => rfl) (fun _ _ _ _ _ _ us hl => match us, hl with | [_], _ => rfl) (fn_def F sc_is_word_of_letters fun cdv A outer s H E hr => e_is_word_of_letters T  cdv A outer s H E hr)
abbrev N_is_own_word : List Str := ["value"]
abbrev p_is_own_word : List Str := ["value"]
theorem sc_is_own_word : FnScope N_is_own_word p_is_own_word (defScope s_is_own_word) := ⟨rfl, rfl, rfl, by decide +kernel, rfl, by decide +kernel, by decide +kernel⟩
def b_is_own_word : Es := (sRet (eAndV (eArgs m_is_word_of_letters (aCons (eVar 0) aNil)) (eAndV (eUn (gKIn true ks_CORE_WORDS) (eVar 0)) (eOp (gIn true) (eVar 0) (eC (.tup c_RESERVED))))))
def m_is_own_word : Fn := mkDef 1 1 b_is_own_word
set_option maxHeartbeats 4000000 in
theorem e_is_own_word {f : Addr} (T : Txt K w mg) (C_is_word_of_letters : Cal P w K mg base 1 "is_word_of_letters" p_is_word_of_letters (spM K m_is_word_of_letters)) (cdv : Value) (A : Around) (outer : List PySem.Env) (s : Shared) (H : Hp) (E : XK) (hr : Room 1 (A.deeper (envOfC "is_own_word" (defScope s_is_own_word) s.heap.objs.size f cdv))) :
    ESs (cxOf CX0 P w K mg base N_is_own_word "is_own_word" (defScope s_is_own_word) f cdv A outer s H E).nox (defBody s_is_own_word) b_is_own_word :=
  have S := sc_is_own_word
  (es_one (es_ret (ee_and (ee_callC C_is_word_of_letters hr (by first | decide | omega) (by rfl) (ea_cons (ee_var 0 (pv 0)) ea_nil)) (ee_and (T.kCORE_WORDS.nin (ks := ks_CORE_WORDS) rfl (ee_var 0 (pv 0)) (by rfl)).1 (ee_one (ee_cmp (op_ninA) l_nin (ee_var 0 (pv 0)) (ee_gtup T.kRESERVED (by rfl)) rfl))))))
theorem c_is_own_word {f : Addr} {fd : FuncData} (hm : mg "is_own_word" = some (.ref f)) (F : FunD K "is_own_word" "is_own_word" (defArgs s_is_own_word) (defBody s_is_own_word) (defScope s_is_own_word) [] [] f fd) (T : Txt K w mg) (C_is_word_of_letters : Cal P w K mg base 1 "is_word_of_letters" p_is_word_of_letters (spM K m_is_word_of_letters)) : Cal P w K mg base 2 "is_own_word" p_is_own_word (spM K m_is_own_word) :=
  cal_of hm F (fun _ _ _ _ _ _ us hl => match us, hl with | [_], _ => rfl) (fun _ _ _ _ _ _ us hl => match us, hl with | [_], _ => rfl) (fn_def F sc_is_own_word fun cdv A outer s H E hr => e_is_own_word T C_is_word_of_letters cdv A outer s H E hr)
abbrev N_are_part_names : List Str := ["names", "many"]
abbrev p_are_part_names : List Str := ["names"]
theorem sc_are_part_names : FnScope N_are_part_names p_are_part_names (defScope s_are_part_names) := ⟨rfl, rfl, rfl, by decide +kernel, rfl, by decide +kernel, by decide +kernel⟩
def b_are_part_names : Es := (sSeq (sIf (tOrE (tNotE (tT (eArgs m_is_tuple_up_to (aCons (eVar 0) (aCons (eC (.int 4)) aNil))))) (tNotE (tT (eVar 0)))) (sRet (eC (.bl false))) sNil) (sRet (eArgs gAll (aCons (fComp (iSeq (eVar 0)) (nName 1) tYesE (eArgs m_is_whole_within (aCons (eVar 1) (aCons (eC (.int 0)) (aCons (eC (.int 2)) aNil)))) [1]) aNil))))
def m_are_part_names : Fn := mkDef 1 2 b_are_part_names
set_option maxHeartbeats 4000000 in
theorem e_are_part_names {f : Addr} (T : Txt K w mg) (C_is_tuple_up_to : Cal P w K mg base 1 "is_tuple_up_to" p_is_tuple_up_to (spM K m_is_tuple_up_to)) (C_is_whole_within : Cal P w K mg base 2 "is_whole_within" p_is_whole_within (spM K m_is_whole_within)) (cdv : Value) (A : Around) (outer : List PySem.Env) (s : Shared) (H : Hp) (E : XK) (hr : Room 2 (A.deeper (envOfC "are_part_names" (defScope s_are_part_names) s.heap.objs.size f cdv))) :
    ESs (cxOf CX0 P w K mg base N_are_part_names "are_part_names" (defScope s_are_part_names) f cdv A outer s H E).nox (defBody s_are_part_names) b_are_part_names :=
  have S := sc_are_part_names
  (es_cons (es_if (et_w (ew_or (et_not (et_truth (ee_callC C_is_tuple_up_to hr (by first | decide | omega) (by rfl) (ea_cons (ee_var 0 (pv 0)) (ea_cons (ee_gint T.kMAX_PARTS (by rfl)) ea_nil))))) (ew_or1 (et_not (et_truth (ee_var 0 (pv 0))))))) (es_one (es_ret ee_bl)) es_nil) (es_one (es_ret (ee_callB (cr_all rfl) l_all (by rfl) T.all (by decide +kernel) (ea_cons (ee_pure (ef_comp (own := [("many", 1)]) (g := (gName 1)) rfl S.nd (blkOk_by (N := N_are_part_names) (sc := defScope s_are_part_names) (by decide +kernel)) (tgt_name (by decide)) (ei_seq (ee_var 0 (pv 0))) (fun _ _ _ _ _ => pg_name (i := 1) S.nd rfl (Or.inl rfl)) (fun _ _ _ _ _ => ei_none) (fun _ _ _ _ _ => (ee_callC C_is_whole_within hr (by first | decide | omega) (by rfl) (ea_cons (ee_var 1 (pv 1)) (ea_cons ee_int (ea_cons (ee_gint T.kMAX_NAMES (by rfl)) ea_nil))))))) ea_nil)))))
theorem c_are_part_names {f : Addr} {fd : FuncData} (hm : mg "are_part_names" = some (.ref f)) (F : FunD K "are_part_names" "are_part_names" (defArgs s_are_part_names) (defBody s_are_part_names) (defScope s_are_part_names) [] [] f fd) (T : Txt K w mg) (C_is_tuple_up_to : Cal P w K mg base 1 "is_tuple_up_to" p_is_tuple_up_to (spM K m_is_tuple_up_to)) (C_is_whole_within : Cal P w K mg base 2 "is_whole_within" p_is_whole_within (spM K m_is_whole_within)) : Cal P w K mg base 3 "are_part_names" p_are_part_names (spM K m_are_part_names) :=
  cal_of hm F (fun _ _ _ _ _ _ us hl => match us, hl with | [_], _ => rfl) (fun _ _ _ _ _ _ us hl => match us, hl with | [_], _ => rfl) (fn_def F sc_are_part_names fun cdv A outer s H E hr => e_are_part_names T C_is_tuple_up_to C_is_whole_within cdv A outer s H E hr)
abbrev N_is_form : List Str := ["words", "form", "word", "names", "template"]
abbrev p_is_form : List Str := ["words", "form"]
theorem sc_is_form : FnScope N_is_form p_is_form (defScope s_is_form) := ⟨rfl, rfl, rfl, by decide +kernel, rfl, by decide +kernel, by decide +kernel⟩
def b_is_form : Es := (sSeq (sIf (tOrE (tNotE (tT (eUn (gIsi .tuple) (eVar 1)))) (tV (eOp gNe (eArgs gLen (aCons (eVar 1) aNil)) (eC (.int 3))))) (sRet (eC (.bl false))) sNil) (sSeq (sAsg (eVar 1) (nTup 3 (nCons (nName 2) (nCons (nName 3) (nCons (nName 4) nNil))))) (sSeq (sIf (tOrE (tNotE (tT (eArgs m_is_own_word (aCons (eVar 2) aNil)))) (tOrE (tV (eOp (gDIn false) (eVar 2) (eVar 0))) (tNotE (tT (eArgs m_are_part_names (aCons (eVar 3) aNil)))))) (sRet (eC (.bl false))) sNil) (sRet (eAndV (eArgs m_fits (aCons (eVar 0) (aCons (eVar 4) (aCons (eC (.bl true)) aNil)))) (eArgs m_is_template (aCons (eVar 0) (aCons (eVar 3) (aCons (eVar 4) aNil)))))))))
def m_is_form : Fn := mkDef 2 5 b_is_form
set_option maxHeartbeats 4000000 in
theorem e_is_form {f : Addr} (T : Txt K w mg) (C_are_part_names : Cal P w K mg base 3 "are_part_names" p_are_part_names (spM K m_are_part_names)) (C_fits : Cal P w K mg base 6 "fits" p_fits (spM K m_fits)) (C_is_own_word : Cal P w K mg base 2 "is_own_word" p_is_own_word (spM K m_is_own_word)) (C_is_template : Cal P w K mg base 5 "is_template" p_is_template (spM K m_is_template)) (cdv : Value) (A : Around) (outer : List PySem.Env) (s : Shared) (H : Hp) (E : XK) (hr : Room 6 (A.deeper (envOfC "is_form" (defScope s_is_form) s.heap.objs.size f cdv))) :
    ESs (cxOf CX0 P w K mg base N_is_form "is_form" (defScope s_is_form) f cdv A outer s H E).nox (defBody s_is_form) b_is_form :=
  have S := sc_is_form
  (es_cons (es_if (et_w (ew_or (et_not (et_truth (ee_isi .tuple (by rfl) T.isinstance (ee_var 1 (pv 1)) (pe_bltn (v := .ty "tuple") (by rfl) T.tuple (by decide +kernel) rfl)))) (ew_or1 (et_cmp (op_neA (hu64 hr)) l_ne (ee_callB call_lenA l_len (by rfl) T.len (by decide +kernel) (ea_cons (ee_var 1 (pv 1)) ea_nil)) ee_int (nomark _))))) (es_one (es_ret ee_bl)) es_nil) (es_cons (es_asg (ee_var 1 (pv 1)) (eg_tup rfl (egs_cons (eg_name (pg_name (i := 2) S.nd rfl (Or.inl rfl))) (egs_cons (eg_name (pg_name (i := 3) S.nd rfl (Or.inl rfl))) (egs_cons (eg_name (pg_name (i := 4) S.nd rfl (Or.inl rfl))) egs_nil))))) (es_cons (es_if (et_w (ew_or (et_not (et_truth (ee_callC C_is_own_word hr (by first | decide | omega) (by rfl) (ea_cons (ee_var 2 (pv 2)) ea_nil)))) (ew_or (et_pc (ec_din (hu_of hr) (ee_var 2 (pv 2)) (ee_var 0 (pv 0))) rfl) (ew_or1 (et_not (et_truth (ee_callC C_are_part_names hr (by first | decide | omega) (by rfl) (ea_cons (ee_var 3 (pv 3)) ea_nil)))))))) (es_one (es_ret ee_bl)) es_nil) (es_one (es_ret (ee_and (ee_callC C_fits hr (by first | decide | omega) (by rfl) (ea_cons (ee_var 0 (pv 0)) (ea_cons (ee_var 4 (pv 4)) (ea_cons ee_bl ea_nil)))) (ee_one (ee_callC C_is_template hr (by first | decide | omega) (by rfl) (ea_cons (ee_var 0 (pv 0)) (ea_cons (ee_var 3 (pv 3)) (ea_cons (ee_var 4 (pv 4)) ea_nil)))))))))))
theorem c_is_form {f : Addr} {fd : FuncData} (hm : mg "is_form" = some (.ref f)) (F : FunD K "is_form" "is_form" (defArgs s_is_form) (defBody s_is_form) (defScope s_is_form) [] [] f fd) (T : Txt K w mg) (C_are_part_names : Cal P w K mg base 3 "are_part_names" p_are_part_names (spM K m_are_part_names)) (C_fits : Cal P w K mg base 6 "fits" p_fits (spM K m_fits)) (C_is_own_word : Cal P w K mg base 2 "is_own_word" p_is_own_word (spM K m_is_own_word)) (C_is_template : Cal P w K mg base 5 "is_template" p_is_template (spM K m_is_template)) : Cal P w K mg base 7 "is_form" p_is_form (spM K m_is_form) :=
  cal_of hm F (fun _ _ _ _ _ _ us hl => match us, hl with | [_, _], _ => rfl) (fun _ _ _ _ _ _ us hl => match us, hl with | [_, _], _ => rfl) (fn_def F sc_is_form fun cdv A outer s H E hr => e_is_form T C_are_part_names C_fits C_is_own_word C_is_template cdv A outer s H E hr)
abbrev N_words_of : List Str := ["book", "words", "index", "form"]
abbrev p_words_of : List Str := ["book"]
theorem sc_words_of : FnScope N_words_of p_words_of (defScope s_words_of) := ⟨rfl, rfl, rfl, by decide +kernel, rfl, by decide +kernel, by decide +kernel⟩
def b_words_of : Es := (sSeq (sIf (tNotE (tT (eArgs m_is_tuple_up_to (aCons (eVar 0) (aCons (eC (.int 8)) aNil))))) sNever sNil) (sSeq (sSet 1 (eNew (eCall0 m_core_words))) (sSeq (sFor (iArgs gEnum (aCons (eVar 0) aNil)) (nTup 2 (nCons (nName 2) (nCons (nName 3) nNil))) (sSeq (sIf (tNotE (tT (eArgs m_is_form (aCons (eVar 1) (aCons (eVar 3) aNil))))) sNever sNil) (sDPutE (eVar 1) (eOp gIx (eVar 3) (eC (.int 0))) (eOp gIx (eVar 3) (eC (.int 1)))))) (sRet (eVar 1)))))
def m_words_of : Fn := mkDef 1 4 b_words_of
set_option maxHeartbeats 4000000 in
theorem e_words_of {f : Addr} (T : Txt K w mg) (C_core_words : Cal P w K mg base 1 "core_words" p_core_words (spN K m_core_words)) (C_is_form : Cal P w K mg base 7 "is_form" p_is_form (spM K m_is_form)) (C_is_tuple_up_to : Cal P w K mg base 1 "is_tuple_up_to" p_is_tuple_up_to (spM K m_is_tuple_up_to)) (cdv : Value) (A : Around) (outer : List PySem.Env) (s : Shared) (H : Hp) (E : XK) (hr : Room 7 (A.deeper (envOfC "words_of" (defScope s_words_of) s.heap.objs.size f cdv))) :
    ESs (cxOf CX0 P w K mg base N_words_of "words_of" (defScope s_words_of) f cdv A outer s H E).nox (defBody s_words_of) b_words_of :=
  have S := sc_words_of
  (es_cons (es_if (et_not (et_truth (ee_callC C_is_tuple_up_to hr (by first | decide | omega) (by rfl) (ea_cons (ee_var 0 (pv 0)) (ea_cons (ee_gint T.kMAX_FORMS (by rfl)) ea_nil))))) (es_one es_never) es_nil) (es_cons (es_set (ps_set (i := 1) S.nd rfl (Or.inl rfl) (ee_new (ef_callC0 C_core_words hr (by first | decide | omega) (by rfl))))) (es_cons (es_for PassesOwn.never rfl (ei_enum (by rfl) T.enumerate (ea_cons (ee_var 0 (pv 0)) ea_nil)) (eg_tup rfl (egs_cons (eg_name (pg_name (i := 2) S.nd rfl (Or.inl rfl))) (egs_cons (eg_name (pg_name (i := 3) S.nd rfl (Or.inl rfl))) egs_nil))) (es_cons (es_if (et_not (et_truth (ee_callC C_is_form hr (by first | decide | omega) (by rfl) (ea_cons (ee_var 1 (pv 1)) (ea_cons (ee_var 3 (pv 3)) ea_nil))))) (es_one es_never) es_nil) (es_one (es_dput (hu_of hr) (ee_var 1 (pv 1)) (ee_ix (ee_var 3 (pv 3)) ee_int (fun _ _ => rfl)) (ee_ix (ee_var 3 (pv 3)) ee_int (fun _ _ => rfl)) rfl)))) (es_one (es_ret (ee_var 1 (pv 1)))))))
theorem c_words_of {f : Addr} {fd : FuncData} (hm : mg "words_of" = some (.ref f)) (F : FunD K "words_of" "words_of" (defArgs s_words_of) (defBody s_words_of) (defScope s_words_of) [] [] f fd) (T : Txt K w mg) (C_core_words : Cal P w K mg base 1 "core_words" p_core_words (spN K m_core_words)) (C_is_form : Cal P w K mg base 7 "is_form" p_is_form (spM K m_is_form)) (C_is_tuple_up_to : Cal P w K mg base 1 "is_tuple_up_to" p_is_tuple_up_to (spM K m_is_tuple_up_to)) : Cal P w K mg base 8 "words_of" p_words_of (spM K m_words_of) :=
  cal_of hm F (fun _ _ _ _ _ _ us hl => match us, hl with | [_], _ => rfl) (fun _ _ _ _ _ _ us hl => match us, hl with | [_], _ => rfl) (fn_def F sc_words_of fun cdv A outer s H E hr => e_words_of T C_core_words C_is_form C_is_tuple_up_to cdv A outer s H E hr)
abbrev N_check_pattern : List Str := ["words", "pattern"]
abbrev p_check_pattern : List Str := ["words", "pattern"]
theorem sc_check_pattern : FnScope N_check_pattern p_check_pattern (defScope s_check_pattern) := ⟨rfl, rfl, rfl, by decide +kernel, rfl, by decide +kernel, by decide +kernel⟩
def b_check_pattern : Es := (sIf (tNotE (tT (eArgs m_fits (aCons (eVar 0) (aCons (eVar 1) (aCons (eC (.bl true)) aNil)))))) sNever sNil)
def m_check_pattern : Fn := mkDef 2 2 b_check_pattern
set_option maxHeartbeats 4000000 in
theorem e_check_pattern {f : Addr} (T : Txt K w mg) (C_fits : Cal P w K mg base 6 "fits" p_fits (spM K m_fits)) (cdv : Value) (A : Around) (outer : List PySem.Env) (s : Shared) (H : Hp) (E : XK) (hr : Room 6 (A.deeper (envOfC "check_pattern" (defScope s_check_pattern) s.heap.objs.size f cdv))) :
    ESs (cxOf CX0 P w K mg base N_check_pattern "check_pattern" (defScope s_check_pattern) f cdv A outer s H E).nox (defBody s_check_pattern) b_check_pattern :=
  have S := sc_check_pattern
  (es_one (es_if (et_not (et_truth (ee_callC C_fits hr (by first | decide | omega) (by rfl) (ea_cons (ee_var 0 (pv 0)) (ea_cons (ee_var 1 (pv 1)) (ea_cons ee_bl ea_nil)))))) (es_one es_never) es_nil))
theorem c_check_pattern {f : Addr} {fd : FuncData} (hm : mg "check_pattern" = some (.ref f)) (F : FunD K "check_pattern" "check_pattern" (defArgs s_check_pattern) (defBody s_check_pattern) (defScope s_check_pattern) [] [] f fd) (T : Txt K w mg) (C_fits : Cal P w K mg base 6 "fits" p_fits (spM K m_fits)) : Cal P w K mg base 7 "check_pattern" p_check_pattern (spM K m_check_pattern) :=
  cal_of hm F (fun _ _ _ _ _ _ us hl => match us, hl with | [_, _], _ => rfl) (fun _ _ _ _ _ _ us hl => match us, hl with | [_, _], _ => rfl) (fn_def F sc_check_pattern fun cdv A outer s H E hr => e_check_pattern T C_fits cdv A outer s H E hr)
abbrev N_check_ways : List Str := ["ways", "index", "way"]
abbrev p_check_ways : List Str := ["ways"]
theorem sc_check_ways : FnScope N_check_ways p_check_ways (defScope s_check_ways) := ⟨rfl, rfl, rfl, by decide +kernel, rfl, by decide +kernel, by decide +kernel⟩
def b_check_ways : Es := (sSeq (sIf (tNotE (tT (eArgs m_is_tuple_up_to (aCons (eVar 0) (aCons (eC (.int 8)) aNil))))) sNever sNil) (sFor (iArgs gEnum (aCons (eVar 0) aNil)) (nTup 2 (nCons (nName 1) (nCons (nName 2) nNil))) (sIf (tNotE (tT (eArgs m_is_count (aCons (eVar 2) aNil)))) sNever sNil)))
def m_check_ways : Fn := mkDef 1 3 b_check_ways
set_option maxHeartbeats 4000000 in
theorem e_check_ways {f : Addr} (T : Txt K w mg) (C_is_count : Cal P w K mg base 2 "is_count" p_is_count (spM K m_is_count)) (C_is_tuple_up_to : Cal P w K mg base 1 "is_tuple_up_to" p_is_tuple_up_to (spM K m_is_tuple_up_to)) (cdv : Value) (A : Around) (outer : List PySem.Env) (s : Shared) (H : Hp) (E : XK) (hr : Room 2 (A.deeper (envOfC "check_ways" (defScope s_check_ways) s.heap.objs.size f cdv))) :
    ESs (cxOf CX0 P w K mg base N_check_ways "check_ways" (defScope s_check_ways) f cdv A outer s H E).nox (defBody s_check_ways) b_check_ways :=
  have S := sc_check_ways
  (es_cons (es_if (et_not (et_truth (ee_callC C_is_tuple_up_to hr (by first | decide | omega) (by rfl) (ea_cons (ee_var 0 (pv 0)) (ea_cons (ee_gint T.kMAX_PUT_IN (by rfl)) ea_nil))))) (es_one es_never) es_nil) (es_one (es_for PassesOwn.never rfl (ei_enum (by rfl) T.enumerate (ea_cons (ee_var 0 (pv 0)) ea_nil)) (eg_tup rfl (egs_cons (eg_name (pg_name (i := 1) S.nd rfl (Or.inl rfl))) (egs_cons (eg_name (pg_name (i := 2) S.nd rfl (Or.inl rfl))) egs_nil))) (es_one (es_if (et_not (et_truth (ee_callC C_is_count hr (by first | decide | omega) (by rfl) (ea_cons (ee_var 2 (pv 2)) ea_nil)))) (es_one es_never) es_nil)))))
theorem c_check_ways {f : Addr} {fd : FuncData} (hm : mg "check_ways" = some (.ref f)) (F : FunD K "check_ways" "check_ways" (defArgs s_check_ways) (defBody s_check_ways) (defScope s_check_ways) [] [] f fd) (T : Txt K w mg) (C_is_count : Cal P w K mg base 2 "is_count" p_is_count (spM K m_is_count)) (C_is_tuple_up_to : Cal P w K mg base 1 "is_tuple_up_to" p_is_tuple_up_to (spM K m_is_tuple_up_to)) : Cal P w K mg base 3 "check_ways" p_check_ways (spM K m_check_ways) :=
  cal_of hm F (fun _ _ _ _ _ _ us hl => match us, hl with | [_], _ => rfl) (fun _ _ _ _ _ _ us hl => match us, hl with | [_], _ => rfl) (fn_def F sc_check_ways fun cdv A outer s H E hr => e_check_ways T C_is_count C_is_tuple_up_to cdv A outer s H E hr)
abbrev N_check_by : List Str := ["by"]
abbrev p_check_by : List Str := ["by"]
theorem sc_check_by : FnScope N_check_by p_check_by (defScope s_check_by) := ⟨rfl, rfl, rfl, by decide +kernel, rfl, by decide +kernel, by decide +kernel⟩
def b_check_by : Es := (sIf (tNotE (tT (eArgs m_is_count (aCons (eVar 0) aNil)))) sNever sNil)
def m_check_by : Fn := mkDef 1 1 b_check_by
set_option maxHeartbeats 4000000 in
theorem e_check_by {f : Addr} (T : Txt K w mg) (C_is_count : Cal P w K mg base 2 "is_count" p_is_count (spM K m_is_count)) (cdv : Value) (A : Around) (outer : List PySem.Env) (s : Shared) (H : Hp) (E : XK) (hr : Room 2 (A.deeper (envOfC "check_by" (defScope s_check_by) s.heap.objs.size f cdv))) :
    ESs (cxOf CX0 P w K mg base N_check_by "check_by" (defScope s_check_by) f cdv A outer s H E).nox (defBody s_check_by) b_check_by :=
  have S := sc_check_by
  (es_one (es_if (et_not (et_truth (ee_callC C_is_count hr (by first | decide | omega) (by rfl) (ea_cons (ee_var 0 (pv 0)) ea_nil)))) (es_one es_never) es_nil))
theorem c_check_by {f : Addr} {fd : FuncData} (hm : mg "check_by" = some (.ref f)) (F : FunD K "check_by" "check_by" (defArgs s_check_by) (defBody s_check_by) (defScope s_check_by) [] [] f fd) (T : Txt K w mg) (C_is_count : Cal P w K mg base 2 "is_count" p_is_count (spM K m_is_count)) : Cal P w K mg base 3 "check_by" p_check_by (spM K m_check_by) :=
  cal_of hm F (fun _ _ _ _ _ _ us hl => match us, hl with | [_], _ => rfl) (fun _ _ _ _ _ _ us hl => match us, hl with | [_], _ => rfl) (fn_def F sc_check_by fun cdv A outer s H E hr => e_check_by T C_is_count cdv A outer s H E hr)
abbrev N_names_begin : List Str := ["node"]
abbrev p_names_begin : List Str := ["node"]
theorem sc_names_begin : FnScope N_names_begin p_names_begin (defScope s_names_begin) := ⟨rfl, rfl, rfl, by decide +kernel, rfl, by decide +kernel, by decide +kernel⟩
def b_names_begin : Es := (sSeq (sIf (tV (eOp gEq (eOp gIx (eVar 0) (eC (.int 0))) (eC (.str "name")))) (sRet (eC (.int 1))) sNil) (sRet (eIf (tV (eOp gEq (eOp gIx (eVar 0) (eC (.int 0))) (eC (.str "hole")))) (eC (.int 2)) (eArgs gLen (aCons (eVar 0) aNil)))))
def m_names_begin : Fn := mkDef 1 1 b_names_begin
set_option maxHeartbeats 4000000 in
theorem e_names_begin {f : Addr} (T : Txt K w mg) (cdv : Value) (A : Around) (outer : List PySem.Env) (s : Shared) (H : Hp) (E : XK) (hr : Room 0 (A.deeper (envOfC "names_begin" (defScope s_names_begin) s.heap.objs.size f cdv))) :
    ESs (cxOf CX0 P w K mg base N_names_begin "names_begin" (defScope s_names_begin) f cdv A outer s H E).nox (defBody s_names_begin) b_names_begin :=
  have S := sc_names_begin
  (es_cons (es_if (et_cmp (op_eqA (hu64 hr)) l_eq (ee_ix (ee_var 0 (pv 0)) ee_int (fun _ _ => rfl)) ee_str (nomark _)) (es_one (es_ret ee_int)) es_nil) (es_one (es_ret (ee_if (et_cmp (op_eqA (hu64 hr)) l_eq (ee_ix (ee_var 0 (pv 0)) ee_int (fun _ _ => rfl)) ee_str (nomark _)) ee_int (ee_callB call_lenA l_len (by rfl) T.len (by decide +kernel) (ea_cons (ee_var 0 (pv 0)) ea_nil))))))
theorem c_names_begin {f : Addr} {fd : FuncData} (hm : mg "names_begin" = some (.ref f)) (F : FunD K "names_begin" "names_begin" (defArgs s_names_begin) (defBody s_names_begin) (defScope s_names_begin) [] [] f fd) (T : Txt K w mg) : Cal P w K mg base 1 "names_begin" p_names_begin (spM K m_names_begin) :=
  cal_of hm F (fun _ _ _ _ _ _ us hl => match us, hl with | [_], _ => rfl) (fun _ _ _ _ _ _ us hl => match us, hl with | [_], _ => rfl) (fn_def F sc_names_begin fun cdv A outer s H E hr => e_names_begin T  cdv A outer s H E hr)
abbrev N_led_name : List Str := ["k", "outward", "ways", "by", "free"]
abbrev p_led_name : List Str := ["k", "outward", "ways", "by"]
theorem sc_led_name : FnScope N_led_name p_led_name (defScope s_led_name) := ⟨rfl, rfl, rfl, by decide +kernel, rfl, by decide +kernel, by decide +kernel⟩
def b_led_name : Es := (sSeq (sSet 4 (eOp gSub (eVar 0) (eVar 1))) (sSeq (sIf (tV (eOp gLt (eVar 4) (eC (.int 0)))) (sRet (eVar 0)) sNil) (sSeq (sIf (tV (eOp gLt (eVar 4) (eArgs gLen (aCons (eVar 2) aNil)))) (sRet (eOp gAdd (eOp gIx (eVar 2) (eVar 4)) (eVar 1))) sNil) (sRet (eOp gAdd (eOp gSub (eVar 0) (eArgs gLen (aCons (eVar 2) aNil))) (eVar 3))))))
def m_led_name : Fn := mkDef 4 5 b_led_name
set_option maxHeartbeats 4000000 in
theorem e_led_name {f : Addr} (T : Txt K w mg) (cdv : Value) (A : Around) (outer : List PySem.Env) (s : Shared) (H : Hp) (E : XK) (hr : Room 0 (A.deeper (envOfC "led_name" (defScope s_led_name) s.heap.objs.size f cdv))) :
    ESs (cxOf CX0 P w K mg base N_led_name "led_name" (defScope s_led_name) f cdv A outer s H E).nox (defBody s_led_name) b_led_name :=
  have S := sc_led_name
  (es_cons (es_set (ps_set (i := 4) S.nd rfl (Or.inl rfl) (ee_op op_sub l_sub (ee_var 0 (pv 0)) (ee_var 1 (pv 1))))) (es_cons (es_if (et_cmp (op_lt) l_lt (ee_var 4 (pv 4)) ee_int (nomark _)) (es_one (es_ret (ee_var 0 (pv 0)))) es_nil) (es_cons (es_if (et_cmp (op_lt) l_lt (ee_var 4 (pv 4)) (ee_callB call_lenA l_len (by rfl) T.len (by decide +kernel) (ea_cons (ee_var 2 (pv 2)) ea_nil)) (nomark _)) (es_one (es_ret (ee_op op_addA l_add (ee_ix (ee_var 2 (pv 2)) (ee_var 4 (pv 4)) (fun _ _ => rfl)) (ee_var 1 (pv 1))))) es_nil) (es_one (es_ret (ee_op op_addA l_add (ee_op op_sub l_sub (ee_var 0 (pv 0)) (ee_callB call_lenA l_len (by rfl) T.len (by decide +kernel) (ea_cons (ee_var 2 (pv 2)) ea_nil))) (ee_var 3 (pv 3))))))))
theorem c_led_name {f : Addr} {fd : FuncData} (hm : mg "led_name" = some (.ref f)) (F : FunD K "led_name" "led_name" (defArgs s_led_name) (defBody s_led_name) (defScope s_led_name) [] [] f fd) (T : Txt K w mg) : Cal P w K mg base 1 "led_name" p_led_name (spM K m_led_name) :=
  cal_of hm F (fun _ _ _ _ _ _ us hl => match us, hl with | [_, _, _, _], _ => rfl) (fun _ _ _ _ _ _ us hl => match us, hl with | [_, _, _, _], _ => rfl) (fn_def F sc_led_name fun cdv A outer s H E hr => e_led_name T  cdv A outer s H E hr)
abbrev N_cloZ0 : List Str := ["leaf", "outward", "by", "ways", "at", "k"]
abbrev p_cloZ0 : List Str := ["leaf", "outward"]
theorem sc_cloZ0 : NdO.OScope N_cloZ0 p_cloZ0 ["by", "ways"] (C8.fnScope s_cloZ0) := NdO.oscope_by (by decide +kernel)
def b_cloZ0 : Es := (sSeq (sSet 4 (eArgs m_names_begin (aCons (eVar 0) aNil))) (sRet (eOp gAdd (eSl (eVar 0) oNone (oSome (eVar 4))) (eArgs gTupOf (aCons (fComp (iSeq (eSl (eVar 0) (oSome (eVar 4)) oNone)) (nName 5) tYesE (eArgs m_led_name (aCons (eVar 5) (aCons (eVar 1) (aCons (eVar 3) (aCons (eVar 2) aNil))))) [5]) aNil)))))
def m_cloZ0 : List PV → Fn := mkClo 2 6 b_cloZ0
set_option maxHeartbeats 4000000 in
theorem e_cloZ0 (T : Txt K w mg) (C_led_name : Cal P w K mg base 1 "led_name" p_led_name (spM K m_led_name)) (C_names_begin : Cal P w K mg base 1 "names_begin" p_names_begin (spM K m_names_begin)) (qual : Str) (cl : List (Str × Addr)) (c f : Addr) (A : Around) (outer : List PySem.Env) (s : Shared) (H : Hp) (E : XK) (hr : Room 1 (A.deeper (NdO.envG (NdefX.NF.of s_cloZ0 "lead" qual cl c) f s.heap.objs.size))) :
    ESs (NdO.ncxG CX0 P w K mg base N_cloZ0 (NdefX.NF.of s_cloZ0 "lead" qual cl c) f A outer s H E).nox (C8.fnBody s_cloZ0) b_cloZ0 :=
  have S := sc_cloZ0
  (es_cons (es_set (ps_set (i := 4) S.nd rfl (Or.inl rfl) (ee_callC C_names_begin hr (by first | decide | omega) (by rfl) (ea_cons (ee_var 0 (pv 0)) ea_nil)))) (es_one (es_ret (ee_op op_addA l_add (ee_sl (ee_var 0 (pv 0)) eo_none (eo_some (ee_var 4 (pv 4)))) (ee_callTy call_tuple_of l_tupOf (by rfl) T.tuple (by decide +kernel) (ea_cons (ee_pure (ef_comp (own := [("k", 5)]) (g := (gName 5)) rfl S.nd (blkOk_by (N := N_cloZ0) (sc := defScope s_cloZ0) (by decide +kernel)) (tgt_name (by decide)) (ei_seq (ee_sl (ee_var 0 (pv 0)) (eo_some (ee_var 4 (pv 4))) eo_none)) (fun _ _ _ _ _ => pg_name (i := 5) S.nd rfl (Or.inl rfl)) (fun _ _ _ _ _ => ei_none) (fun _ _ _ _ _ => (ee_callC C_led_name hr (by first | decide | omega) (by rfl) (ea_cons (ee_var 5 (pv 5)) (ea_cons (ee_var 1 (pv 1)) (ea_cons (ee_var 3 (pv 3)) (ea_cons (ee_var 2 (pv 2)) ea_nil)))))))) ea_nil))))))
theorem c_cloZ0 (T : Txt K w mg) (C_led_name : Cal P w K mg base 1 "led_name" p_led_name (spM K m_led_name)) (C_names_begin : Cal P w K mg base 1 "names_begin" p_names_begin (spM K m_names_begin)) : ∀ c, CloOk P w K mg base 2 c (clo1 0 m_cloZ0 c) :=
  clo_1 (clo_defC (k := 1) (N := N_cloZ0) (pn := p_cloZ0) T.code0 sc_cloZ0 (fun _ _ _ _ _ _ us hl => match us, hl with | [_, _], _ => rfl) fun qual cl c f A outer s H E hr => e_cloZ0 T C_led_name C_names_begin qual cl c f A outer s H E hr)
abbrev N_exchangedZ0 : List Str := ["words", "pattern", "outward", "exchange", "parts", "part", "many"]
abbrev p_exchangedZ0 : List Str := ["words", "pattern", "outward", "exchange"]
theorem sc_exchangedZ0 : FnScope N_exchangedZ0 p_exchangedZ0 (defScope s_exchangedZ0) := ⟨rfl, rfl, rfl, by decide +kernel, rfl, by decide +kernel, by decide +kernel⟩
def b_exchangedZ0 (m_self : Fn) : Es := (sSeq (sIf (tT (eArgs m_is_leaf (aCons (eVar 1) aNil))) (sRet (eClo (clo1 0 m_cloZ0) 3 (aCons (eVar 1) (aCons (eVar 2) aNil)))) sNil) (sSeq (sSet 4 (fComp (iArgs gZip (aCons (eSl (eVar 1) (oSome (eC (.int 1))) oNone) (aCons (eOp gDIx (eVar 0) (eOp gIx (eVar 1) (eC (.int 0)))) aNil))) (nTup 2 (nNs [5, 6])) tYesE (eArgs m_self (aCons (eVar 0) (aCons (eVar 5) (aCons (eOp gAdd (eVar 2) (eVar 6)) (aCons (eVar 3) aNil))))) [5, 6])) (sRet (eArgs gTupP (aCons (eOp gIx (eVar 1) (eC (.int 0))) (aStar (eVar 4) aNil))))))
def m_exchangedZ0 : Nat → Fn
  | 0 => fun _ _ => .no
  | n + 1 => mkDef 4 7 (b_exchangedZ0 (m_exchangedZ0 n))
set_option maxHeartbeats 4000000 in
theorem e_exchangedZ0 {f : Addr} (T : Txt K w mg) (C_cloZ0 : ∀ c, CloOk P w K mg base 2 c (clo1 0 m_cloZ0 c)) (C_is_leaf : Cal P w K mg base 1 "is_leaf" p_is_leaf (spM K m_is_leaf)) {n : Nat} (C_exchangedZ0 : Cal P w K mg base (2 + n) "exchanged" p_exchangedZ0 (spM K (m_exchangedZ0 n))) (cdv : Value) (A : Around) (outer : List PySem.Env) (s : Shared) (H : Hp) (E : XK) (hr : Room (2 + n) (A.deeper (envOfC "exchanged" (defScope s_exchangedZ0) s.heap.objs.size f cdv))) :
    ESs (cxOf CX0 P w K mg base N_exchangedZ0 "exchanged" (defScope s_exchangedZ0) f cdv A outer s H E).nox (defBody s_exchangedZ0) (b_exchangedZ0 (m_exchangedZ0 n)) :=
  have S := sc_exchangedZ0
  (es_cons (es_if (et_truth (ee_callC C_is_leaf hr (by first | decide | omega) (by rfl) (ea_cons (ee_var 1 (pv 1)) ea_nil))) (es_one (es_ret (ee_clo (i := 3) C_cloZ0 (hr.mono (by first | decide | omega)) (by rfl) (by first | exact Or.inl rfl | exact Or.inr (Or.inl rfl) | exact Or.inr (Or.inr rfl)) (ea_cons (ee_var 1 (pv 1)) (ea_cons (ee_var 2 (pv 2)) ea_nil))))) es_nil) (es_cons (es_comp (i := 4) (own := [("part", 5), ("many", 6)]) (g := (gTup K 2 (gNs [5, 6]))) (gP := (nTup 2 (nNs [5, 6]))) (it := (iArgs gZip (aCons (eSl (eVar 1) (oSome (eC (.int 1))) oNone) (aCons (eOp gDIx (eVar 0) (eOp gIx (eVar 1) (eC (.int 0)))) aNil)))) (ft := tYesE) (fe := (eArgs (m_exchangedZ0 n) (aCons (eVar 0) (aCons (eVar 5) (aCons (eOp gAdd (eVar 2) (eVar 6)) (aCons (eVar 3) aNil)))))) (tgt_tup (by decide)) (ps_setLc (i := 4) (own := [("part", 5), ("many", 6)]) (g := (gTup K 2 (gNs [5, 6]))) (tt := tEt _ tYesE) (te := tEv _ (eArgs (m_exchangedZ0 n) (aCons (eVar 0) (aCons (eVar 5) (aCons (eOp gAdd (eVar 2) (eVar 6)) (aCons (eVar 3) aNil)))))) rfl S.nd rfl rfl (sw_true rfl rfl rfl (by decide +kernel)) (ei_zip (by rfl) T.zip (ea_cons (ee_sl (ee_var 1 (pv 1)) (eo_some ee_int) eo_none) (ea_cons (ee_dix (hu_of hr) (ee_var 0 (pv 0)) (ee_ix (ee_var 1 (pv 1)) ee_int (fun _ _ => rfl)) (fun _ _ => rfl)) ea_nil))) (blkOk_by (N := N_exchangedZ0) (sc := defScope s_exchangedZ0) (by decide +kernel)) (fun _ _ _ _ _ => pg_tup rfl (pgs_cons (pg_name (i := 5) S.nd rfl (Or.inl rfl)) (pgs_cons (pg_name (i := 6) S.nd rfl (Or.inl rfl)) pgs_nil))) (fun _ _ _ _ _ => ei_none) (fun _ _ _ _ _ => (ee_callC C_exchangedZ0 hr (by first | decide | omega) (by rfl) (ea_cons (ee_var 0 (pv 0)) (ea_cons (ee_var 5 (pv 5)) (ea_cons (ee_op op_addA l_add (ee_var 2 (pv 2)) (ee_var 6 (pv 6))) (ea_cons (ee_var 3 (pv 3)) ea_nil)))))))) (es_one (es_ret (ee_tup (ea_cons (ee_ix (ee_var 1 (pv 1)) ee_int (fun _ _ => rfl)) (ea_star (ee_var 4 (pv 4)) ea_nil)))))))
theorem c_exchangedZ0 {f : Addr} {fd : FuncData} (hm : mg "exchanged" = some (.ref f)) (F : FunD K "exchanged" "exchanged" (defArgs s_exchangedZ0) (defBody s_exchangedZ0) (defScope s_exchangedZ0) [] [] f fd) (T : Txt K w mg) (C_cloZ0 : ∀ c, CloOk P w K mg base 2 c (clo1 0 m_cloZ0 c)) (C_is_leaf : Cal P w K mg base 1 "is_leaf" p_is_leaf (spM K m_is_leaf)) : ∀ n : Nat, Cal P w K mg base (2 + n) "exchanged" p_exchangedZ0 (spM K (m_exchangedZ0 n))
  | 0 => cal_of hm F (fun _ _ _ _ _ _ us hl => match us, hl with | [_, _, _, _], _ => rfl) (fun _ _ _ _ _ _ us hl => match us, hl with | [_, _, _, _], _ => rfl) (fn_zero trivial)
  | n + 1 => cal_of hm F (fun _ _ _ _ _ _ us hl => match us, hl with | [_, _, _, _], _ => rfl) (fun _ _ _ _ _ _ us hl => match us, hl with | [_, _, _, _], _ => rfl) (fn_def F sc_exchangedZ0 fun cdv A outer s H E hr => e_exchangedZ0 T C_cloZ0 C_is_leaf (c_exchangedZ0 hm F T C_cloZ0 C_is_leaf n) cdv A outer s H E hr)
abbrev N_led_pattern : List Str := ["words", "pattern", "ways", "by", "lead"]
abbrev p_led_pattern : List Str := ["words", "pattern", "ways", "by"]
theorem sc_led_pattern : FnScope N_led_pattern p_led_pattern (defScope s_led_pattern) := ⟨rfl, rfl, rfl, by decide +kernel, rfl, by decide +kernel, by decide +kernel⟩
theorem nd_cloZ0 : NdefX.ndefB (defScope s_led_pattern) (C8.fnScope s_cloZ0) ["by", "ways"] = true := by decide +kernel
def b_led_pattern : Es := (sHof 4 [3, 2] 0 (m_exchangedZ0 64) (aCons (eVar 0) (aCons (eVar 1) (aCons (eC (.int 0)) aNil))))
def m_led_pattern : Fn := mkDef 4 5 b_led_pattern
set_option maxHeartbeats 4000000 in
theorem e_led_pattern {f : Addr} (T : Txt K w mg) (O : Own K mg base "led_pattern" nm_led_pattern) (C_exchangedZ0 : Cal P w K mg base 66 "exchanged" p_exchangedZ0 (spM K (m_exchangedZ0 64))) (A : Around) (outer : List PySem.Env) (s : Shared) (H : Hp) (E : XK) (hr : Room 66 (A.deeper (envOfC "led_pattern" (defScope s_led_pattern) s.heap.objs.size f (.ref (He.codeOf K ("led_pattern", none)))))) :
    ESs (cxOf CX0 P w K mg base N_led_pattern "led_pattern" (defScope s_led_pattern) f (.ref (He.codeOf K ("led_pattern", none))) A outer s H E).nox (defBody s_led_pattern) b_led_pattern :=
  have S := sc_led_pattern
  (ess_hof (i := 4) (a := (aCons (eVar 0) (aCons (eVar 1) (aCons (eC (.int 0)) aNil)))) (ps_inner (i := 4) T.code0 O (by rfl) (by rfl) (by rfl) nd_cloZ0 (by rfl) (by rfl) (by rfl) S.nd (by rfl) (Or.inl (by rfl)) (Or.inr (by rfl))) (pe_hand (js := [3, 2]) T.code0 nd_cloZ0 (by rfl) (fun _ => rfl) C_exchangedZ0 hr (by first | decide | omega) (by rfl) (ea_cons (ee_var 0 (pv 0)) (ea_cons (ee_var 1 (pv 1)) (ea_cons ee_int (ea_cons (ee_var 4 (pv 4)) ea_nil))))) (ind_cons (ind_var (by decide)) (ind_cons (ind_var (by decide)) (ind_cons ind_c ind_last))))
theorem c_led_pattern {f : Addr} {fd : FuncData} (hm : mg "led_pattern" = some (.ref f)) (F : FunD K "led_pattern" "led_pattern" (defArgs s_led_pattern) (defBody s_led_pattern) (defScope s_led_pattern) [] [] f fd) (T : Txt K w mg) (ha : He.fAd K ("led_pattern", none) = f) (O : Own K mg base "led_pattern" nm_led_pattern) (C_exchangedZ0 : Cal P w K mg base 66 "exchanged" p_exchangedZ0 (spM K (m_exchangedZ0 64))) : Cal P w K mg base 67 "led_pattern" p_led_pattern (spM K m_led_pattern) :=
  cal_of hm F (fun _ _ _ _ _ _ us hl => match us, hl with | [_, _, _, _], _ => rfl) (fun _ _ _ _ _ _ us hl => match us, hl with | [_, _, _, _], _ => rfl) (fn_defT F ha sc_led_pattern fun A outer s H E hr => e_led_pattern T O C_exchangedZ0 A outer s H E hr)
abbrev N_led : List Str := ["book", "pattern", "ways", "by", "words"]
abbrev p_led : List Str := ["book", "pattern", "ways", "by"]
theorem sc_led : FnScope N_led p_led (defScope s_led) := ⟨rfl, rfl, rfl, by decide +kernel, rfl, by decide +kernel, by decide +kernel⟩
def b_led : Es := (sSeq (sSet 4 (eArgs m_words_of (aCons (eVar 0) aNil))) (sSeq (sExpr (eArgs m_check_pattern (aCons (eVar 4) (aCons (eVar 1) aNil)))) (sSeq (sExpr (eArgs m_check_ways (aCons (eVar 2) aNil))) (sSeq (sExpr (eArgs m_check_by (aCons (eVar 3) aNil))) (sRet (eArgs m_led_pattern (aCons (eVar 4) (aCons (eVar 1) (aCons (eVar 2) (aCons (eVar 3) aNil))))))))))
def m_led : Fn := mkDef 4 5 b_led
set_option maxHeartbeats 4000000 in
theorem e_led {f : Addr} (T : Txt K w mg) (C_check_by : Cal P w K mg base 3 "check_by" p_check_by (spM K m_check_by)) (C_check_pattern : Cal P w K mg base 7 "check_pattern" p_check_pattern (spM K m_check_pattern)) (C_check_ways : Cal P w K mg base 3 "check_ways" p_check_ways (spM K m_check_ways)) (C_led_pattern : Cal P w K mg base 67 "led_pattern" p_led_pattern (spM K m_led_pattern)) (C_words_of : Cal P w K mg base 8 "words_of" p_words_of (spM K m_words_of)) (cdv : Value) (A : Around) (outer : List PySem.Env) (s : Shared) (H : Hp) (E : XK) (hr : Room 67 (A.deeper (envOfC "led" (defScope s_led) s.heap.objs.size f cdv))) :
    ESs (cxOf CX0 P w K mg base N_led "led" (defScope s_led) f cdv A outer s H E).nox (defBody s_led) b_led :=
  have S := sc_led
  (es_cons (es_set (ps_set (i := 4) S.nd rfl (Or.inl rfl) (ee_callC C_words_of hr (by first | decide | omega) (by rfl) (ea_cons (ee_var 0 (pv 0)) ea_nil)))) (es_cons (es_expr (ee_callC C_check_pattern hr (by first | decide | omega) (by rfl) (ea_cons (ee_var 4 (pv 4)) (ea_cons (ee_var 1 (pv 1)) ea_nil)))) (es_cons (es_expr (ee_callC C_check_ways hr (by first | decide | omega) (by rfl) (ea_cons (ee_var 2 (pv 2)) ea_nil))) (es_cons (es_expr (ee_callC C_check_by hr (by first | decide | omega) (by rfl) (ea_cons (ee_var 3 (pv 3)) ea_nil))) (es_one (es_ret (ee_callC C_led_pattern hr (by first | decide | omega) (by rfl) (ea_cons (ee_var 4 (pv 4)) (ea_cons (ee_var 1 (pv 1)) (ea_cons (ee_var 2 (pv 2)) (ea_cons (ee_var 3 (pv 3)) ea_nil)))))))))))
theorem c_led {f : Addr} {fd : FuncData} (hm : mg "led" = some (.ref f)) (F : FunD K "led" "led" (defArgs s_led) (defBody s_led) (defScope s_led) [] [] f fd) (T : Txt K w mg) (C_check_by : Cal P w K mg base 3 "check_by" p_check_by (spM K m_check_by)) (C_check_pattern : Cal P w K mg base 7 "check_pattern" p_check_pattern (spM K m_check_pattern)) (C_check_ways : Cal P w K mg base 3 "check_ways" p_check_ways (spM K m_check_ways)) (C_led_pattern : Cal P w K mg base 67 "led_pattern" p_led_pattern (spM K m_led_pattern)) (C_words_of : Cal P w K mg base 8 "words_of" p_words_of (spM K m_words_of)) : Cal P w K mg base 68 "led" p_led (spM K m_led) :=
  cal_of hm F (fun _ _ _ _ _ _ us hl => match us, hl with | [_, _, _, _], _ => rfl) (fun _ _ _ _ _ _ us hl => match us, hl with | [_, _, _, _], _ => rfl) (fn_def F sc_led fun cdv A outer s H E hr => e_led T C_check_by C_check_pattern C_check_ways C_led_pattern C_words_of cdv A outer s H E hr)
abbrev N__law_right : List Str := ["_law_well_here", "_law_book_here", "_law_pattern", "_law_one", "_law_two", "_law_by", "_law_more", "_law_eight", "_law_first", "_law_second", "_law_both", "_law_last", "_law_told_here", "_law_due", "_law_way_here"]
abbrev p__law_right : List Str := ["_law_well_here"]
theorem sc__law_right : FnScope N__law_right p__law_right (defScope s__law_right) := ⟨rfl, rfl, rfl, by decide +kernel, rfl, by decide +kernel, by decide +kernel⟩
def b__law_right : Es := (sSeq (sSet 1 (eArgs m__law_book (aCons (eVar 0) (aCons (eArgs m__law_pick (aCons (eVar 0) (aCons (eArgs gTupP (aCons (eC (.int 0)) (aCons (eC (.int 1)) (aCons (eC (.int 2)) aNil)))) aNil))) aNil)))) (sSeq (sSet 2 (eArgs m__law_holed (aCons (eVar 0) (aCons (eVar 1) (aCons (eArgs (m__law_tree 40) (aCons (eVar 0) (aCons (eVar 1) (aCons (eC (.int 0)) (aCons (eNew (eArgs gLstP (aCons (eArgs m__law_draw (aCons (eVar 0) (aCons (eC (.int 18)) aNil))) aNil))) (aCons (eArgs m__law_draw (aCons (eVar 0) (aCons (eC (.int 6)) aNil))) (aCons (eC (.int 3)) aNil))))))) aNil))))) (sSeq (sAsg (eArgs gTupP (aCons (eArgs m__law_ways (aCons (eVar 0) (aCons (eArgs m__law_draw (aCons (eVar 0) (aCons (eC (.int 5)) aNil))) aNil))) (aCons (eArgs m__law_ways (aCons (eVar 0) (aCons (eArgs m__law_draw (aCons (eVar 0) (aCons (eC (.int 5)) aNil))) aNil))) aNil))) (nTup 2 (nCons (nName 3) (nCons (nName 4) nNil)))) (sSeq (sAsg (eArgs gTupP (aCons (eArgs m__law_draw (aCons (eVar 0) (aCons (eC (.int 6)) aNil))) (aCons (eArgs m__law_draw (aCons (eVar 0) (aCons (eC (.int 6)) aNil))) (aCons (eArgs m__law_ways (aCons (eVar 0) (aCons (eC (.int 8)) aNil))) aNil)))) (nTup 3 (nCons (nName 5) (nCons (nName 6) (nCons (nName 7) nNil))))) (sSeq (sSet 8 (eArgs (m__law_led 64) (aCons (eVar 1) (aCons (eVar 2) (aCons (eVar 3) (aCons (eVar 5) (aCons (eC (.int 0)) aNil))))))) (sSeq (sIf (tNotE (tT (eArgs (m__law_same 70) (aCons (eArgs gTupP (aCons (eArgs m_led (aCons (eVar 1) (aCons (eVar 2) (aCons (eVar 3) (aCons (eVar 5) aNil))))) (aCons (eArgs m_led (aCons (eVar 1) (aCons (eVar 2) (aCons (eVar 3) (aCons (eVar 5) aNil))))) aNil))) (aCons (eArgs gTupP (aCons (eVar 8) (aCons (eVar 8) aNil))) aNil))))) (sRet (eC (.bl false))) sNil) (sSeq (sSet 9 (eArgs (m__law_led 64) (aCons (eVar 1) (aCons (eVar 8) (aCons (eVar 4) (aCons (eVar 6) (aCons (eC (.int 0)) aNil))))))) (sSeq (sSet 10 (eOp gAdd (eArgs gTupOf (aCons (fComp (iSeq (eVar 3)) (nName 14) tYesE (eArgs m__law_way (aCons (eVar 14) (aCons (eVar 4) (aCons (eVar 6) (aCons (eC (.int 0)) aNil))))) [14]) aNil)) (eSl (eVar 4) (oSome (eVar 5)) oNone))) (sSeq (sSet 11 (eOp gAdd (eOp gSub (eOp gAdd (eVar 5) (eVar 6)) (eArgs gLen (aCons (eVar 4) aNil))) (eArgs gMax2 (aCons (eC (.int 0)) (aCons (eOp gSub (eArgs gLen (aCons (eVar 4) aNil)) (eVar 5)) aNil))))) (sSeq (sIf (tNotE (tT (eArgs (m__law_same 70) (aCons (eArgs gTupP (aCons (eArgs m_led (aCons (eVar 1) (aCons (eVar 8) (aCons (eVar 4) (aCons (eVar 6) aNil))))) (aCons (eArgs m_led (aCons (eVar 1) (aCons (eVar 2) (aCons (eVar 10) (aCons (eVar 11) aNil))))) aNil))) (aCons (eArgs gTupP (aCons (eVar 9) (aCons (eVar 9) aNil))) aNil))))) (sRet (eC (.bl false))) sNil) (sSeq (sSet 12 (eArgs gTupP (aCons (eArgs m_led (aCons (eVar 1) (aCons (eVar 2) (aCons (eVar 7) (aCons (eVar 5) aNil))))) (aCons (eArgs m_led (aCons (eVar 1) (aCons (eVar 2) (aCons (eArgs gTupP aNil) (aCons (eVar 5) aNil))))) (aCons (eArgs m_led (aCons (eVar 1) (aCons (eVar 2) (aCons (eArgs gTupP aNil) (aCons (eC (.int 0)) aNil))))) aNil))))) (sSeq (sSet 13 (eArgs gTupP (aCons (eArgs (m__law_led 64) (aCons (eVar 1) (aCons (eVar 2) (aCons (eVar 7) (aCons (eVar 5) (aCons (eC (.int 0)) aNil)))))) (aCons (eArgs (m__law_led 64) (aCons (eVar 1) (aCons (eVar 2) (aCons (eArgs gTupP aNil) (aCons (eVar 5) (aCons (eC (.int 0)) aNil)))))) (aCons (eVar 2) aNil))))) (sRet (eArgs (m__law_same 70) (aCons (eVar 12) (aCons (eVar 13) aNil))))))))))))))))
def m__law_right : Fn := mkDef 1 15 b__law_right
set_option maxHeartbeats 4000000 in
theorem e__law_right {f : Addr} (T : Txt K w mg) (C__law_book : Cal P w K mg base 67 "_law_book" p__law_book (spM K m__law_book)) (C__law_draw : Cal P w K mg base 1 "_law_draw" p__law_draw (spM K m__law_draw)) (C__law_holed : Cal P w K mg base 66 "_law_holed" p__law_holed (spM K m__law_holed)) (C__law_led : Cal P w K mg base 65 "_law_led" p__law_led (spM K (m__law_led 64))) (C__law_pick : Cal P w K mg base 2 "_law_pick" p__law_pick (spM K m__law_pick)) (C__law_same : Cal P w K mg base 70 "_law_same" p__law_same (spM K (m__law_same 70))) (C__law_tree : Cal P w K mg base 42 "_law_tree" p__law_tree (spM K (m__law_tree 40))) (C__law_way : Cal P w K mg base 1 "_law_way" p__law_way (spM K m__law_way)) (C__law_ways : Cal P w K mg base 2 "_law_ways" p__law_ways (spM K m__law_ways)) (C_led : Cal P w K mg base 68 "led" p_led (spM K m_led)) (cdv : Value) (A : Around) (outer : List PySem.Env) (s : Shared) (H : Hp) (E : XK) (hr : Room 70 (A.deeper (envOfC "_law_right" (defScope s__law_right) s.heap.objs.size f cdv))) :
    ESs (cxOf CX0 P w K mg base N__law_right "_law_right" (defScope s__law_right) f cdv A outer s H E).nox (defBody s__law_right) b__law_right :=
  have S := sc__law_right
  (es_cons (es_set (ps_set (i := 1) S.nd rfl (Or.inl rfl) (ee_callC C__law_book hr (by first | decide | omega) (by rfl) (ea_cons (ee_var 0 (pv 0)) (ea_cons (ee_callC C__law_pick hr (by first | decide | omega) (by rfl) (ea_cons (ee_var 0 (pv 0)) (ea_cons (ee_tup (ea_cons ee_int (ea_cons ee_int (ea_cons ee_int ea_nil)))) ea_nil))) ea_nil))))) (es_cons (es_set (ps_set (i := 2) S.nd rfl (Or.inl rfl) (ee_callC C__law_holed hr (by first | decide | omega) (by rfl) (ea_cons (ee_var 0 (pv 0)) (ea_cons (ee_var 1 (pv 1)) (ea_cons (ee_callC C__law_tree hr (by first | decide | omega) (by rfl) (ea_cons (ee_var 0 (pv 0)) (ea_cons (ee_var 1 (pv 1)) (ea_cons ee_int (ea_cons (ee_new (ef_lst (ea_cons (ee_callC C__law_draw hr (by first | decide | omega) (by rfl) (ea_cons (ee_var 0 (pv 0)) (ea_cons ee_int ea_nil))) ea_nil))) (ea_cons (ee_callC C__law_draw hr (by first | decide | omega) (by rfl) (ea_cons (ee_var 0 (pv 0)) (ea_cons ee_int ea_nil))) (ea_cons ee_int ea_nil))))))) ea_nil)))))) (es_cons (es_asg (ee_tup (ea_cons (ee_callC C__law_ways hr (by first | decide | omega) (by rfl) (ea_cons (ee_var 0 (pv 0)) (ea_cons (ee_callC C__law_draw hr (by first | decide | omega) (by rfl) (ea_cons (ee_var 0 (pv 0)) (ea_cons ee_int ea_nil))) ea_nil))) (ea_cons (ee_callC C__law_ways hr (by first | decide | omega) (by rfl) (ea_cons (ee_var 0 (pv 0)) (ea_cons (ee_callC C__law_draw hr (by first | decide | omega) (by rfl) (ea_cons (ee_var 0 (pv 0)) (ea_cons ee_int ea_nil))) ea_nil))) ea_nil))) (eg_tup rfl (egs_cons (eg_name (pg_name (i := 3) S.nd rfl (Or.inl rfl))) (egs_cons (eg_name (pg_name (i := 4) S.nd rfl (Or.inr rfl))) egs_nil)))) (es_cons (es_asg (ee_tup (ea_cons (ee_callC C__law_draw hr (by first | decide | omega) (by rfl) (ea_cons (ee_var 0 (pv 0)) (ea_cons ee_int ea_nil))) (ea_cons (ee_callC C__law_draw hr (by first | decide | omega) (by rfl) (ea_cons (ee_var 0 (pv 0)) (ea_cons ee_int ea_nil))) (ea_cons (ee_callC C__law_ways hr (by first | decide | omega) (by rfl) (ea_cons (ee_var 0 (pv 0)) (ea_cons ee_int ea_nil))) ea_nil)))) (eg_tup rfl (egs_cons (eg_name (pg_name (i := 5) S.nd rfl (Or.inl rfl))) (egs_cons (eg_name (pg_name (i := 6) S.nd rfl (Or.inr rfl))) (egs_cons (eg_name (pg_name (i := 7) S.nd rfl (Or.inl rfl))) egs_nil))))) (es_cons (es_set (ps_set (i := 8) S.nd rfl (Or.inl rfl) (ee_callC C__law_led hr (by first | decide | omega) (by rfl) (ea_cons (ee_var 1 (pv 1)) (ea_cons (ee_var 2 (pv 2)) (ea_cons (ee_var 3 (pv 3)) (ea_cons (ee_var 5 (pv 5)) (ea_cons ee_int ea_nil)))))))) (es_cons (es_if (et_not (et_truth (ee_callC C__law_same hr (by first | decide | omega) (by rfl) (ea_cons (ee_tup (ea_cons (ee_callC C_led hr (by first | decide | omega) (by rfl) (ea_cons (ee_var 1 (pv 1)) (ea_cons (ee_var 2 (pv 2)) (ea_cons (ee_var 3 (pv 3)) (ea_cons (ee_var 5 (pv 5)) ea_nil))))) (ea_cons (ee_callKC C_led hr (by first | decide | omega) (by rfl) (ek_cons (ee_var 1 (pv 1)) (ek_cons (ee_var 2 (pv 2)) (ek_cons (ee_var 3 (pv 3)) (ek_cons (ee_var 5 (pv 5)) ek_nil))))) ea_nil))) (ea_cons (ee_tup (ea_cons (ee_var 8 (pv 8)) (ea_cons (ee_var 8 (pv 8)) ea_nil))) ea_nil))))) (es_one (es_ret ee_bl)) es_nil) (es_cons (es_set (ps_set (i := 9) S.nd rfl (Or.inl rfl) (ee_callC C__law_led hr (by first | decide | omega) (by rfl) (ea_cons (ee_var 1 (pv 1)) (ea_cons (ee_var 8 (pv 8)) (ea_cons (ee_var 4 (pv 4)) (ea_cons (ee_var 6 (pv 6)) (ea_cons ee_int ea_nil)))))))) (es_cons (es_set (ps_set (i := 10) S.nd rfl (Or.inl rfl) (ee_op op_addA l_add (ee_callTy call_tuple_of l_tupOf (by rfl) T.tuple (by decide +kernel) (ea_cons (ee_pure (ef_comp (own := [("_law_way_here", 14)]) (g := (gName 14)) rfl S.nd (blkOk_by (N := N__law_right) (sc := defScope s__law_right) (by decide +kernel)) (tgt_name (by decide)) (ei_seq (ee_var 3 (pv 3))) (fun _ _ _ _ _ => pg_name (i := 14) S.nd rfl (Or.inl rfl)) (fun _ _ _ _ _ => ei_none) (fun _ _ _ _ _ => (ee_callC C__law_way hr (by first | decide | omega) (by rfl) (ea_cons (ee_var 14 (pv 14)) (ea_cons (ee_var 4 (pv 4)) (ea_cons (ee_var 6 (pv 6)) (ea_cons ee_int ea_nil)))))))) ea_nil)) (ee_sl (ee_var 4 (pv 4)) (eo_some (ee_var 5 (pv 5))) eo_none)))) (es_cons (es_set (ps_set (i := 11) S.nd rfl (Or.inl rfl) (ee_op op_addA l_add (ee_op op_sub l_sub (ee_op op_addA l_add (ee_var 5 (pv 5)) (ee_var 6 (pv 6))) (ee_callB call_lenA l_len (by rfl) T.len (by decide +kernel) (ea_cons (ee_var 4 (pv 4)) ea_nil))) (ee_callB (call_max2 rfl) l_max2 (by rfl) T.max (by decide +kernel) (ea_cons ee_int (ea_cons (ee_op op_sub l_sub (ee_callB call_lenA l_len (by rfl) T.len (by decide +kernel) (ea_cons (ee_var 4 (pv 4)) ea_nil)) (ee_var 5 (pv 5))) ea_nil)))))) (es_cons (es_if (et_not (et_truth (ee_callC C__law_same hr (by first | decide | omega) (by rfl) (ea_cons (ee_tup (ea_cons (ee_callC C_led hr (by first | decide | omega) (by rfl) (ea_cons (ee_var 1 (pv 1)) (ea_cons (ee_var 8 (pv 8)) (ea_cons (ee_var 4 (pv 4)) (ea_cons (ee_var 6 (pv 6)) ea_nil))))) (ea_cons (ee_callC C_led hr (by first | decide | omega) (by rfl) (ea_cons (ee_var 1 (pv 1)) (ea_cons (ee_var 2 (pv 2)) (ea_cons (ee_var 10 (pv 10)) (ea_cons (ee_var 11 (pv 11)) ea_nil))))) ea_nil))) (ea_cons (ee_tup (ea_cons (ee_var 9 (pv 9)) (ea_cons (ee_var 9 (pv 9)) ea_nil))) ea_nil))))) (es_one (es_ret ee_bl)) es_nil) (es_cons (es_set (ps_set (i := 12) S.nd rfl (Or.inl rfl) (ee_tup (ea_cons (ee_callC C_led hr (by first | decide | omega) (by rfl) (ea_cons (ee_var 1 (pv 1)) (ea_cons (ee_var 2 (pv 2)) (ea_cons (ee_var 7 (pv 7)) (ea_cons (ee_var 5 (pv 5)) ea_nil))))) (ea_cons (ee_callC C_led hr (by first | decide | omega) (by rfl) (ea_cons (ee_var 1 (pv 1)) (ea_cons (ee_var 2 (pv 2)) (ea_cons (ee_tup ea_nil) (ea_cons (ee_var 5 (pv 5)) ea_nil))))) (ea_cons (ee_callC C_led hr (by first | decide | omega) (by rfl) (ea_cons (ee_var 1 (pv 1)) (ea_cons (ee_var 2 (pv 2)) (ea_cons (ee_tup ea_nil) (ea_cons ee_int ea_nil))))) ea_nil)))))) (es_cons (es_set (ps_set (i := 13) S.nd rfl (Or.inl rfl) (ee_tup (ea_cons (ee_callC C__law_led hr (by first | decide | omega) (by rfl) (ea_cons (ee_var 1 (pv 1)) (ea_cons (ee_var 2 (pv 2)) (ea_cons (ee_var 7 (pv 7)) (ea_cons (ee_var 5 (pv 5)) (ea_cons ee_int ea_nil)))))) (ea_cons (ee_callC C__law_led hr (by first | decide | omega) (by rfl) (ea_cons (ee_var 1 (pv 1)) (ea_cons (ee_var 2 (pv 2)) (ea_cons (ee_tup ea_nil) (ea_cons (ee_var 5 (pv 5)) (ea_cons ee_int ea_nil)))))) (ea_cons (ee_var 2 (pv 2)) ea_nil)))))) (es_one (es_ret (ee_callC C__law_same hr (by first | decide | omega) (by rfl) (ea_cons (ee_var 12 (pv 12)) (ea_cons (ee_var 13 (pv 13)) ea_nil)))))))))))))))))
theorem c__law_right {f : Addr} {fd : FuncData} (hm : mg "_law_right" = some (.ref f)) (F : FunD K "_law_right" "_law_right" (defArgs s__law_right) (defBody s__law_right) (defScope s__law_right) [] [] f fd) (T : Txt K w mg) (C__law_book : Cal P w K mg base 67 "_law_book" p__law_book (spM K m__law_book)) (C__law_draw : Cal P w K mg base 1 "_law_draw" p__law_draw (spM K m__law_draw)) (C__law_holed : Cal P w K mg base 66 "_law_holed" p__law_holed (spM K m__law_holed)) (C__law_led : Cal P w K mg base 65 "_law_led" p__law_led (spM K (m__law_led 64))) (C__law_pick : Cal P w K mg base 2 "_law_pick" p__law_pick (spM K m__law_pick)) (C__law_same : Cal P w K mg base 70 "_law_same" p__law_same (spM K (m__law_same 70))) (C__law_tree : Cal P w K mg base 42 "_law_tree" p__law_tree (spM K (m__law_tree 40))) (C__law_way : Cal P w K mg base 1 "_law_way" p__law_way (spM K m__law_way)) (C__law_ways : Cal P w K mg base 2 "_law_ways" p__law_ways (spM K m__law_ways)) (C_led : Cal P w K mg base 68 "led" p_led (spM K m_led)) : Cal P w K mg base 71 "_law_right" p__law_right (spM K m__law_right) :=
  cal_of hm F (fun _ _ _ _ _ _ us hl => match us, hl with | [_], _ => rfl) (fun _ _ _ _ _ _ us hl => match us, hl with | [_], _ => rfl) (fn_def F sc__law_right fun cdv A outer s H E hr => e__law_right T C__law_book C__law_draw C__law_holed C__law_led C__law_pick C__law_same C__law_tree C__law_way C__law_ways C_led cdv A outer s H E hr)
abbrev N__law_well : List Str := ["_law_script", "_law_turn", "_law_mixed", "_law_cell", "_law_own"]
abbrev p__law_well : List Str := ["_law_script", "_law_turn"]
theorem sc__law_well : FnScope N__law_well p__law_well (defScope s__law_well) := ⟨rfl, rfl, rfl, by decide +kernel, rfl, by decide +kernel, by decide +kernel⟩
def b__law_well : Es := (sSeq (sSet 2 (eOp gAdd (eC (.int 2718281)) (eOp gMul (eC (.int 9973)) (eVar 1)))) (sSeq (sFor (iSeq (fSl (eVar 0) oNone (oSome (eC (.int 7))))) (nName 3) (sSet 2 (eOp gMod (eArgs gInt (aCons (eOp gAdd (eOp gAdd (eOp gMul (eVar 2) (eC (.int 51787))) (eOp gMod (eArgs gInt (aCons (eVar 3) aNil)) (eC (.int 2147483549)))) (eC (.int 11))) aNil)) (eC (.int 2147483579))))) (sSeq (sSet 4 (eIf (tV (eOp gLt (eVar 1) (eArgs gLen (aCons (eVar 0) aNil)))) (eArgs gInt (aCons (eOp gIx (eVar 0) (eVar 1)) aNil)) (eC (.int 0)))) (sSeq (sSet 2 (eOp gMod (eArgs gInt (aCons (eOp gAdd (eOp gAdd (eOp gMul (eVar 2) (eC (.int 39119))) (eOp gMul (eOp gMod (eArgs gInt (aCons (eVar 4) aNil)) (eC (.int 2147483549))) (eC (.int 27011)))) (eC (.int 3))) aNil)) (eC (.int 2147483579)))) (sRet (eNew (eArgs gLstP (aCons (eIf (tOrE (tV (eOp gLt (eVar 4) (eC (.int 0)))) (tV (eOp gGe (eVar 4) (eOp gPow (eC (.int 10)) (eC (.int 14)))))) (eArgs gAbs (aCons (eVar 4) aNil)) (eC (.int 0))) (aCons (eVar 2) (aCons (eC (.int 0)) aNil))))))))))
def m__law_well : Fn := mkNew 2 5 b__law_well
set_option maxHeartbeats 4000000 in
theorem e__law_well {f : Addr} (T : Txt K w mg) (cdv : Value) (A : Around) (outer : List PySem.Env) (s : Shared) (H : Hp) (E : XK) (hr : Room 0 (A.deeper (envOfC "_law_well" (defScope s__law_well) s.heap.objs.size f cdv))) :
    ESs (cxOf CX0 P w K mg base N__law_well "_law_well" (defScope s__law_well) f cdv A outer s H E).nox (defBody s__law_well) b__law_well :=
  have S := sc__law_well
  (es_cons (es_set (ps_set (i := 2) S.nd rfl (Or.inl rfl) (ee_op op_addA l_add ee_int (ee_op op_mul l_mul ee_int (ee_var 1 (pv 1)))))) (es_cons (es_for PassesOwn.never rfl (ei_seq (ee_pure (ef_sl (ee_var 0 (pv 0)) eo_none (eo_some ee_int)))) (eg_name (pg_name (i := 3) S.nd rfl (Or.inl rfl))) (es_one (es_set (ps_set (i := 2) S.nd rfl (Or.inl rfl) (ee_op op_mod l_mod (ee_callTy call_int1 l_int (by rfl) T.int (by decide +kernel) (ea_cons (ee_op op_addA l_add (ee_op op_addA l_add (ee_op op_mul l_mul (ee_var 2 (pv 2)) ee_int) (ee_op op_mod l_mod (ee_callTy call_int1 l_int (by rfl) T.int (by decide +kernel) (ea_cons (ee_var 3 (pv 3)) ea_nil)) ee_int)) ee_int) ea_nil)) ee_int))))) (es_cons (es_set (ps_set (i := 4) S.nd rfl (Or.inl rfl) (ee_if (et_cmp (op_lt) l_lt (ee_var 1 (pv 1)) (ee_callB call_lenA l_len (by rfl) T.len (by decide +kernel) (ea_cons (ee_var 0 (pv 0)) ea_nil)) (nomark _)) (ee_callTy call_int1 l_int (by rfl) T.int (by decide +kernel) (ea_cons (ee_ix (ee_var 0 (pv 0)) (ee_var 1 (pv 1)) (fun _ _ => rfl)) ea_nil)) ee_int))) (es_cons (es_set (ps_set (i := 2) S.nd rfl (Or.inl rfl) (ee_op op_mod l_mod (ee_callTy call_int1 l_int (by rfl) T.int (by decide +kernel) (ea_cons (ee_op op_addA l_add (ee_op op_addA l_add (ee_op op_mul l_mul (ee_var 2 (pv 2)) ee_int) (ee_op op_mul l_mul (ee_op op_mod l_mod (ee_callTy call_int1 l_int (by rfl) T.int (by decide +kernel) (ea_cons (ee_var 4 (pv 4)) ea_nil)) ee_int) ee_int)) ee_int) ea_nil)) ee_int))) (es_one (es_ret (ee_new (ef_lst (ea_cons (ee_if (et_w (ew_or (et_cmp (op_lt) l_lt (ee_var 4 (pv 4)) ee_int (nomark _)) (ew_or1 (et_cmp (op_ge) l_ge (ee_var 4 (pv 4)) (ee_op op_pow l_pow ee_int ee_int) (nomark _))))) (ee_callB call_abs l_abs (by rfl) T.abs (by decide +kernel) (ea_cons (ee_var 4 (pv 4)) ea_nil)) ee_int) (ea_cons (ee_var 2 (pv 2)) (ea_cons ee_int ea_nil)))))))))))
theorem c__law_well {f : Addr} {fd : FuncData} (hm : mg "_law_well" = some (.ref f)) (F : FunD K "_law_well" "_law_well" (defArgs s__law_well) (defBody s__law_well) (defScope s__law_well) [] [] f fd) (T : Txt K w mg) : Cal P w K mg base 1 "_law_well" p__law_well (spN K m__law_well) :=
  cal_of hm F (fun _ _ _ _ _ _ us hl => match us, hl with | [_, _], _ => rfl) (fun _ _ _ _ _ _ us hl => match us, hl with | [_, _], _ => rfl) (fn_new F sc__law_well fun cdv A outer s H E hr => e__law_well T  cdv A outer s H E hr)
abbrev N_law : List Str := ["_law_script", "_law_turn"]
abbrev p_law : List Str := ["_law_script"]
theorem sc_law : FnScope N_law p_law (defScope s_law) := ⟨rfl, rfl, rfl, by decide +kernel, rfl, by decide +kernel, by decide +kernel⟩
def b_law : Es := (sRet (eArgs gAll (aCons (fComp (iArgs gRange (aCons (eArgs gMax2 (aCons (eC (.int 2)) (aCons (eArgs gMin2 (aCons (eArgs gLen (aCons (eVar 0) aNil)) (aCons (eC (.int 3)) aNil))) aNil))) aNil)) (nName 1) tYesE (eArgs m__law_right (aCons (eNew (eArgs m__law_well (aCons (eVar 0) (aCons (eVar 1) aNil)))) aNil)) [1]) aNil)))
def m_law : Fn := mkDef 1 2 b_law
set_option maxHeartbeats 4000000 in
theorem e_law {f : Addr} (T : Txt K w mg) (C__law_right : Cal P w K mg base 71 "_law_right" p__law_right (spM K m__law_right)) (C__law_well : Cal P w K mg base 1 "_law_well" p__law_well (spN K m__law_well)) (cdv : Value) (A : Around) (outer : List PySem.Env) (s : Shared) (H : Hp) (E : XK) (hr : Room 71 (A.deeper (envOfC "law" (defScope s_law) s.heap.objs.size f cdv))) :
    ESs (cxOf CX0 P w K mg base N_law "law" (defScope s_law) f cdv A outer s H E).nox (defBody s_law) b_law :=
  have S := sc_law
  (es_one (es_ret (ee_callB (cr_all rfl) l_all (by rfl) T.all (by decide +kernel) (ea_cons (ee_pure (ef_comp (own := [("_law_turn", 1)]) (g := (gName 1)) rfl S.nd (blkOk_by (N := N_law) (sc := defScope s_law) (by decide +kernel)) (tgt_name (by decide)) (ei_range1 (by rfl) T.range (ea_cons (ee_callB (call_max2 rfl) l_max2 (by rfl) T.max (by decide +kernel) (ea_cons ee_int (ea_cons (ee_callB (call_min2 rfl) l_min2 (by rfl) T.min (by decide +kernel) (ea_cons (ee_callB call_lenA l_len (by rfl) T.len (by decide +kernel) (ea_cons (ee_var 0 (pv 0)) ea_nil)) (ea_cons ee_int ea_nil))) ea_nil))) ea_nil) (by intro ρ S ps S' h; exact aLen1 h)) (fun _ _ _ _ _ => pg_name (i := 1) S.nd rfl (Or.inl rfl)) (fun _ _ _ _ _ => ei_none) (fun _ _ _ _ _ => (ee_callC C__law_right hr (by first | decide | omega) (by rfl) (ea_cons (ee_new (ef_callC C__law_well hr (by first | decide | omega) (by rfl) (ea_cons (ee_var 0 (pv 0)) (ea_cons (ee_var 1 (pv 1)) ea_nil)))) ea_nil))))) ea_nil))))
theorem c_law {f : Addr} {fd : FuncData} (hm : mg "law" = some (.ref f)) (F : FunD K "law" "law" (defArgs s_law) (defBody s_law) (defScope s_law) [] [] f fd) (T : Txt K w mg) (C__law_right : Cal P w K mg base 71 "_law_right" p__law_right (spM K m__law_right)) (C__law_well : Cal P w K mg base 1 "_law_well" p__law_well (spN K m__law_well)) : Cal P w K mg base 72 "law" p_law (spM K m_law) :=
  cal_of hm F (fun _ _ _ _ _ _ us hl => match us, hl with | [_], _ => rfl) (fun _ _ _ _ _ _ us hl => match us, hl with | [_], _ => rfl) (fn_def F sc_law fun cdv A outer s H E hr => e_law T C__law_right C__law_well cdv A outer s H E hr)
end
end G04
set_option Elab.async false
set_option maxRecDepth 100000
set_option maxHeartbeats 1000000
set_option linter.all false
namespace G04
open PySem PySem.Spec PyProof.Rows L2 Py

/-! ### the calculus -/
/-- what is asked of a value and of the store behind it; simp does not go into it -/
class Kt (α : Type) where
  f : α → Sto → Prop
def WPi {α : Type} (r : R α) [Q : Kt α] : Prop := match r with
  | .ok a S => Q.f a S
  | _ => False
abbrev WP {α : Type} (r : R α) (Q : α → Sto → Prop) : Prop := @WPi α r ⟨Q⟩
theorem wp_ok {α : Type} {a : α} {S : Sto} {Q : α → Sto → Prop} : @WPi α (.ok a S) ⟨Q⟩ = Q a S := rfl
theorem wp_no {α : Type} {Q : α → Sto → Prop} : @WPi α (.no : R α) ⟨Q⟩ = False := rfl
theorem wp_bind {α β : Type} {r : R α} {f : α → List PV → R β} {Q : β → Sto → Prop} : @WPi β (r.bind f) ⟨Q⟩ = @WPi α r ⟨fun a S => @WPi β (f a S) ⟨Q⟩⟩ := by
  cases r <;> rfl
theorem wp_of {α : Type} {r : R α} {Q Q' : α → Sto → Prop} (h : WP r Q) (f : ∀ a S, Q a S → Q' a S) : WP r Q' := by
  cases r with
  | ok a S => exact f a S h
  | er => exact h
  | no => exact h
theorem WP.ex {α : Type} {r : R α} {Q : α → Sto → Prop} (h : WP r Q) : ∃ a S, r = .ok a S ∧ Q a S := by
  cases r with
  | ok a S => exact ⟨a, S, rfl, h⟩
  | er => exact h.elim
  | no => exact h.elim
theorem wp_ite {α : Type} {c : Prop} [Decidable c] {x y : R α} {Q : α → Sto → Prop} : WP (if c then x else y) Q = ((c → WP x Q) ∧ (¬c → WP y Q)) := by
  by_cases h : c <;> simp [h]
def Well (S : Sto) (n : Nat) : Prop := ∃ a b c : Int, S[n]? = some (.lst [.int a, .int b, .int c])
/-- S' is S but for the well at n -/
structure Wl (n : Nat) (S S' : Sto) : Prop where
  len : S'.length = S.length
  same : ∀ i, i ≠ n → S'[i]? = S[i]?
  w : Well S' n
theorem Wl.set {n : Nat} {S : Sto} {a b c : Int} (h : n < S.length) : Wl n S (S.set n (.lst [.int a, .int b, .int c])) :=
  ⟨by simp, fun i hi => by rw [List.getElem?_set_ne (Ne.symm hi)], a, b, c, by simp [h]⟩
theorem Wl.refl {n : Nat} {S : Sto} (h : Well S n) : Wl n S S := ⟨rfl, fun _ _ => rfl, h⟩
theorem Wl.trans {n : Nat} {S S1 S2 : Sto} (h : Wl n S S1) (g : Wl n S1 S2) : Wl n S S2 := ⟨g.len.trans h.len, fun i hi => (g.same i hi).trans (h.same i hi), g.w⟩
theorem Well.lt {S : Sto} {n : Nat} (h : Well S n) : n < S.length := by
  obtain ⟨a, b, c, e⟩ := h
  exact (List.getElem?_eq_some_iff.mp e).1
theorem gMul_l {i j : Int} {S : Sto} (h1 : -18446744073709551616 < i) (h2 : i < 18446744073709551616) : gMul (.int i) (.int j) S = .ok (.int (i * j)) S := by
  unfold gMul; exact if_pos (.inl ⟨h1, h2⟩)
theorem gMul_r {i j : Int} {S : Sto} (h1 : -18446744073709551616 < j) (h2 : j < 18446744073709551616) : gMul (.int i) (.int j) S = .ok (.int (i * j)) S := by
  unfold gMul; exact if_pos (.inr ⟨h1, h2⟩)
theorem atI_nat {α : Type} {l : List α} {i : Nat} : atI l (i : Int) = l[i]? := by
  unfold atI ixN
  rw [if_pos (Int.natCast_nonneg i)]
  by_cases h : (i : Int) < l.length
  · rw [if_pos h]; rfl
  · rw [if_neg h]; simp; omega
theorem atI0 {α : Type} {x : α} {l : List α} : atI (x :: l) 0 = some x := atI_nat (i := 0)
theorem atI1 {α : Type} {x y : α} {l : List α} : atI (x :: y :: l) 1 = some y := atI_nat (i := 1)
theorem atI2 {α : Type} {x y z : α} {l : List α} : atI (x :: y :: z :: l) 2 = some z := atI_nat (i := 2)
theorem atI3 {α : Type} {x y z u : α} {l : List α} : atI (x :: y :: z :: u :: l) 3 = some u := atI_nat (i := 3)
theorem wp_pos {α : Type} {c : Prop} [Decidable c] {x y : R α} {Q : α → Sto → Prop} (h : c) (k : WP x Q) : WP (if c then x else y) Q := by rw [if_pos h]; exact k
theorem wp_neg {α : Type} {c : Prop} [Decidable c] {x y : R α} {Q : α → Sto → Prop} (h : ¬c) (k : WP y Q) : WP (if c then x else y) Q := by rw [if_neg h]; exact k
theorem wp_if {α : Type} {c : Prop} [Decidable c] {x y : R α} {Q : α → Sto → Prop} (h : c → WP x Q) (k : ¬c → WP y Q) : WP (if c then x else y) Q := by
  by_cases z : c
  · rw [if_pos z]; exact h z
  · rw [if_neg z]; exact k z
theorem set_get {S : Sto} {n : Nat} {x : PV} (h : n < S.length) : (S.set n x)[n]? = some x := by simp [h]
theorem take_set {S : Sto} {n : Nat} {x : PV} : (S.set n x).take S.length = S.set n x := List.take_of_length_le (by simp)
theorem take_self {S : Sto} : S.take S.length = S := List.take_of_length_le (Nat.le_refl _)
abbrev mP : Int := 2147483579
theorem gEq_int {i j : Int} {S : Sto} : gEq (.int i) (.int j) S = .ok (.bl (decide (i = j))) S := rfl
theorem gEq_str {i j : Str} {S : Sto} : gEq (.str i) (.str j) S = .ok (.bl (decide (i = j))) S := rfl
theorem gEq_bl {i j : Bool} {S : Sto} : gEq (.bl i) (.bl j) S = .ok (.bl (decide (i = j))) S := rfl
theorem gNe_int {i j : Int} {S : Sto} : gNe (.int i) (.int j) S = .ok (.bl (!decide (i = j))) S := rfl
theorem gNe_str {i j : Str} {S : Sto} : gNe (.str i) (.str j) S = .ok (.bl (!decide (i = j))) S := rfl
theorem gNe_bl {i j : Bool} {S : Sto} : gNe (.bl i) (.bl j) S = .ok (.bl (!decide (i = j))) S := rfl
theorem isLst_of {S : Sto} {m : Nat} {xs : List PV} (h : S[m]? = some (.lst xs)) : isLst (.ref m) S = true := by
  simp only [isLst, getL, h, Option.isSome_some]
theorem isDic_of {S : Sto} {m : Nat} {ks : List Key} {xs : List PV} (h : S[m]? = some (.dic ks xs)) : isDic (.ref m) S = true := by
  simp only [isDic, getD, h, Option.isSome_some]
theorem finV_tup {n : Nat} {xs : List PV} {S : Sto} : finV n (.tup xs) S = .ok (.tup xs) (S.take n) := rfl
theorem finV_lst {n : Nat} {xs : List PV} {S : Sto} : finV n (.lst xs) S = .ok (.lst xs) (S.take n) := rfl
theorem finV_int {n : Nat} {i : Int} {S : Sto} : finV n (.int i) S = .ok (.int i) (S.take n) := rfl
theorem finV_bl {n : Nat} {i : Bool} {S : Sto} : finV n (.bl i) S = .ok (.bl i) (S.take n) := rfl
theorem finV_str {n : Nat} {i : Str} {S : Sto} : finV n (.str i) S = .ok (.str i) (S.take n) := rfl
theorem finV_non {n : Nat} {S : Sto} : finV n .non S = .ok .non (S.take n) := rfl
theorem finV_ref {n m : Nat} {S : Sto} : finV n (.ref m) S = if m < n then .ok (.ref m) (S.take n) else match S[m]? with
  | some o => .ok o (S.take n)
  | none => .no := rfl
theorem finV_pure {n : Nat} {p : PV} {S : Sto} (h : p.isRef = false) : finV n p S = .ok p (S.take n) := by
  cases p <;> first | rfl | cases h
theorem allPure_nil : allPure [] = true := rfl
theorem allPure_cons {p : PV} {ps : List PV} : allPure (p :: ps) = (!p.isRef && allPure ps) := rfl
theorem isRef_tup {xs : List PV} : (PV.tup xs).isRef = false := rfl
theorem isRef_int {i : Int} : (PV.int i).isRef = false := rfl
theorem isRef_str {i : Str} : (PV.str i).isRef = false := rfl
theorem isRef_bl {i : Bool} : (PV.bl i).isRef = false := rfl
theorem size_1000 {n : Nat} (h : n ≤ 5000) : n ≤ sizeLine := by unfold sizeLine; omega
theorem gTupP_ok {ps : List PV} {S : Sto} (h : allPure ps = true) (hl : ps.length ≤ 5000) : gTupP ps S = .ok (.tup ps) S := by
  unfold gTupP; exact if_pos ⟨h, size_1000 hl⟩
theorem gLstP_ok {ps : List PV} {S : Sto} (h : allPure ps = true) (hl : ps.length ≤ 5000) : gLstP ps S = .ok (.lst ps) S := by
  unfold gLstP; exact if_pos ⟨h, size_1000 hl⟩
theorem gAdd_int {i j : Int} {S : Sto} : gAdd (.int i) (.int j) S = .ok (.int (i + j)) S := rfl
theorem gAdd_tup {xs ys : List PV} {S : Sto} (h : xs.length + ys.length ≤ 5000) : gAdd (.tup xs) (.tup ys) S = .ok (.tup (xs ++ ys)) S := by
  show (if xs.length + ys.length ≤ sizeLine then _ else _) = _
  rw [if_pos (size_1000 h)]
theorem gLstP_nil {S : Sto} : gLstP [] S = .ok (.lst []) S := gLstP_ok rfl (by simp)
theorem gTupP_nil {S : Sto} : gTupP [] S = .ok (.tup []) S := gTupP_ok rfl (by simp)
theorem draw_ok {S : Sto} {n : Nat} {m : Int} (hw : Well S n) (hm : 0 < m) (hm2 : m < 1152921504606846976) : WP (m__law_draw [.ref n, .int m] S) fun p S' => ∃ k : Int, p = .int k ∧ 0 ≤ k ∧ k < m ∧ Wl n S S' := by
  have hl := hw.lt
  obtain ⟨a, b, c, e⟩ := hw
  unfold m__law_draw b__law_draw
  by_cases h0 : 0 < a
  · simp only [wp_ok, wp_no, ↓wp_bind, ↓R.bind_ok, ↓sSeq, ↓sNil, ↓sSet, ↓sAsg, ↓sIf, ↓sRet, ↓sExpr, ↓sPar, ↓sPar3, ↓sFor, ↓nName, ↓nTup, ↓nCons, ↓nNil, ↓nNs, ↓eVar, ↓eC, ↓eOp, ↓eUn, ↓eArgs, ↓eNew, ↓aCons, ↓aNil, ↓tV, ↓tT, toB, truP, ↓tNotE, ↓tAndE, ↓tOrE, ↓tYesE, ↓eAndV, ↓eOrV, ↓eNotV, ↓eNotT, ↓eIf, gAdd_int, gAdd_tup, Py.gSub, gMul_l, gMul_r, gMod, gFdiv, gNeg, gLt, gLe, gGt, gGe, gInt, gIx, gEq_int, gEq_str, gEq_bl, gNe_int, gNe_str, gNe_bl, gIsN, gNotN, getQ, getL, gSetL, ↓nSubL, gDivmod, gMin2, gMax2, ↓mkDef, ↓mkNew, startP, finF, finO, finV_tup, finV_int, finV_bl, finV_lst, finV_non, finV_str, finV_ref, ↓eChain, tyP, gIsi, isiB, ↓iArgs, ↓iSeq, iterP, ↓fComp, wipeP, ↓eSl, ↓oNone, ↓oSome, gSl, ↓eMeth0, ↓eMeth1, ixN, atI0, atI1, atI2, atI3, List.length_cons, List.length_nil, List.map_cons, List.map_nil, List.replicate, List.cons_append, List.nil_append, List.append_nil, List.getElem?_cons_zero, List.getElem?_cons_succ, List.getElem?_nil, List.set_cons_zero, List.set_cons_succ, List.set_nil, List.length_set, List.length_append, Nat.add_sub_cancel, Nat.reduceAdd, Nat.reduceSub, Nat.reduceLT, Nat.reduceEqDiff, Nat.reduceLeDiff, Nat.le_refl, Nat.zero_le, if_true, if_false, ↓reduceIte, decide_eq_true_eq, Bool.false_eq_true, Bool.true_eq_false, Bool.not_true, Bool.not_false, Option.isSome_some, forall_const, not_true_eq_false, not_false_eq_true, imp_self, false_implies, true_implies, implies_true, and_true, true_and, Int.toNat_zero, Nat.zero_add, Int.reduceLE, Int.reduceLT, Int.reduceNeg, Int.reduceToNat, Int.reducePow, Int.reduceGT, Int.cast_ofNat_Int, true_or, or_true, Int.ofNat_eq_natCast, decide_true, decide_false, Int.reduceEq, List.isEmpty_cons, List.isEmpty_nil, eDGet1,  keyP, Option.map_some, Option.map_none, Option.getD_some, Option.isSome_some, reduceCtorEq, and_self,  allPure_nil, allPure_cons, Bool.and_true, Bool.true_and, Bool.false_and, Bool.and_false, Bool.not_eq_true, Bool.not_eq_false, gTupP_nil, gLstP_nil, gTupP_ok, gLstP_ok, isRef_tup, isRef_int, isRef_str, isRef_bl, Bool.or_false, Bool.or_true, Bool.true_or, Bool.false_or, e, hm, hm2, h0, take_set]
    exact ⟨_, rfl, Int.emod_nonneg _ (by omega), Int.emod_lt_of_pos _ hm, Wl.set hl⟩
  · simp only [wp_ok, wp_no, ↓wp_bind, ↓R.bind_ok, ↓sSeq, ↓sNil, ↓sSet, ↓sAsg, ↓sIf, ↓sRet, ↓sExpr, ↓sPar, ↓sPar3, ↓sFor, ↓nName, ↓nTup, ↓nCons, ↓nNil, ↓nNs, ↓eVar, ↓eC, ↓eOp, ↓eUn, ↓eArgs, ↓eNew, ↓aCons, ↓aNil, ↓tV, ↓tT, toB, truP, ↓tNotE, ↓tAndE, ↓tOrE, ↓tYesE, ↓eAndV, ↓eOrV, ↓eNotV, ↓eNotT, ↓eIf, gAdd_int, gAdd_tup, Py.gSub, gMul_l, gMul_r, gMod, gFdiv, gNeg, gLt, gLe, gGt, gGe, gInt, gIx, gEq_int, gEq_str, gEq_bl, gNe_int, gNe_str, gNe_bl, gIsN, gNotN, getQ, getL, gSetL, ↓nSubL, gDivmod, gMin2, gMax2, ↓mkDef, ↓mkNew, startP, finF, finO, finV_tup, finV_int, finV_bl, finV_lst, finV_non, finV_str, finV_ref, ↓eChain, tyP, gIsi, isiB, ↓iArgs, ↓iSeq, iterP, ↓fComp, wipeP, ↓eSl, ↓oNone, ↓oSome, gSl, ↓eMeth0, ↓eMeth1, ixN, atI0, atI1, atI2, atI3, List.length_cons, List.length_nil, List.map_cons, List.map_nil, List.replicate, List.cons_append, List.nil_append, List.append_nil, List.getElem?_cons_zero, List.getElem?_cons_succ, List.getElem?_nil, List.set_cons_zero, List.set_cons_succ, List.set_nil, List.length_set, List.length_append, Nat.add_sub_cancel, Nat.reduceAdd, Nat.reduceSub, Nat.reduceLT, Nat.reduceEqDiff, Nat.reduceLeDiff, Nat.le_refl, Nat.zero_le, if_true, if_false, ↓reduceIte, decide_eq_true_eq, Bool.false_eq_true, Bool.true_eq_false, Bool.not_true, Bool.not_false, Option.isSome_some, forall_const, not_true_eq_false, not_false_eq_true, imp_self, false_implies, true_implies, implies_true, and_true, true_and, Int.toNat_zero, Nat.zero_add, Int.reduceLE, Int.reduceLT, Int.reduceNeg, Int.reduceToNat, Int.reducePow, Int.reduceGT, Int.cast_ofNat_Int, true_or, or_true, Int.ofNat_eq_natCast, decide_true, decide_false, Int.reduceEq, List.isEmpty_cons, List.isEmpty_nil, eDGet1,  keyP, Option.map_some, Option.map_none, Option.getD_some, Option.isSome_some, reduceCtorEq, and_self,  allPure_nil, allPure_cons, Bool.and_true, Bool.true_and, Bool.false_and, Bool.and_false, Bool.not_eq_true, Bool.not_eq_false, gTupP_nil, gLstP_nil, gTupP_ok, gLstP_ok, isRef_tup, isRef_int, isRef_str, isRef_bl, Bool.or_false, Bool.or_true, Bool.true_or, Bool.false_or, e, hm, hm2, h0, set_get hl, List.set_set]
    generalize hX : (b + 77003 * (c + 1)) % 2147483579 = X
    have x1 : -18446744073709551616 < X := by omega
    have x2 : X < 18446744073709551616 := by omega
    simp only [wp_ok, wp_no, ↓wp_bind, ↓R.bind_ok, ↓sSeq, ↓sNil, ↓sSet, ↓sAsg, ↓sIf, ↓sRet, ↓sExpr, ↓sPar, ↓sPar3, ↓sFor, ↓nName, ↓nTup, ↓nCons, ↓nNil, ↓nNs, ↓eVar, ↓eC, ↓eOp, ↓eUn, ↓eArgs, ↓eNew, ↓aCons, ↓aNil, ↓tV, ↓tT, toB, truP, ↓tNotE, ↓tAndE, ↓tOrE, ↓tYesE, ↓eAndV, ↓eOrV, ↓eNotV, ↓eNotT, ↓eIf, gAdd_int, gAdd_tup, Py.gSub, gMul_l, gMul_r, gMod, gFdiv, gNeg, gLt, gLe, gGt, gGe, gInt, gIx, gEq_int, gEq_str, gEq_bl, gNe_int, gNe_str, gNe_bl, gIsN, gNotN, getQ, getL, gSetL, ↓nSubL, gDivmod, gMin2, gMax2, ↓mkDef, ↓mkNew, startP, finF, finO, finV_tup, finV_int, finV_bl, finV_lst, finV_non, finV_str, finV_ref, ↓eChain, tyP, gIsi, isiB, ↓iArgs, ↓iSeq, iterP, ↓fComp, wipeP, ↓eSl, ↓oNone, ↓oSome, gSl, ↓eMeth0, ↓eMeth1, ixN, atI0, atI1, atI2, atI3, List.length_cons, List.length_nil, List.map_cons, List.map_nil, List.replicate, List.cons_append, List.nil_append, List.append_nil, List.getElem?_cons_zero, List.getElem?_cons_succ, List.getElem?_nil, List.set_cons_zero, List.set_cons_succ, List.set_nil, List.length_set, List.length_append, Nat.add_sub_cancel, Nat.reduceAdd, Nat.reduceSub, Nat.reduceLT, Nat.reduceEqDiff, Nat.reduceLeDiff, Nat.le_refl, Nat.zero_le, if_true, if_false, ↓reduceIte, decide_eq_true_eq, Bool.false_eq_true, Bool.true_eq_false, Bool.not_true, Bool.not_false, Option.isSome_some, forall_const, not_true_eq_false, not_false_eq_true, imp_self, false_implies, true_implies, implies_true, and_true, true_and, Int.toNat_zero, Nat.zero_add, Int.reduceLE, Int.reduceLT, Int.reduceNeg, Int.reduceToNat, Int.reducePow, Int.reduceGT, Int.cast_ofNat_Int, true_or, or_true, Int.ofNat_eq_natCast, decide_true, decide_false, Int.reduceEq, List.isEmpty_cons, List.isEmpty_nil, eDGet1,  keyP, Option.map_some, Option.map_none, Option.getD_some, Option.isSome_some, reduceCtorEq, and_self,  allPure_nil, allPure_cons, Bool.and_true, Bool.true_and, Bool.false_and, Bool.and_false, Bool.not_eq_true, Bool.not_eq_false, gTupP_nil, gLstP_nil, gTupP_ok, gLstP_ok, isRef_tup, isRef_int, isRef_str, isRef_bl, Bool.or_false, Bool.or_true, Bool.true_or, Bool.false_or, e, hm, hm2, h0, set_get hl, List.set_set, x1, x2, take_set]
    exact ⟨_, rfl, Int.emod_nonneg _ (by omega), Int.emod_lt_of_pos _ hm, Wl.set hl⟩
end G04
set_option Elab.async false
set_option maxRecDepth 100000
set_option maxHeartbeats 1000000
set_option linter.all false
namespace G04
open PySem PySem.Spec PyProof.Rows L2 Py

/-! ### terms -/
inductive T where
  | lf (w : Str) (xs : List Int)
  | nd (w : Str) (ns : List Int) (ps : List T)
mutual
def enc : T → PV
  | .lf w xs => .tup (.str w :: xs.map .int)
  | .nd w _ ps => .tup (.str w :: encs ps)
def encs : List T → List PV
  | [] => []
  | t :: ts => enc t :: encs ts
end
theorem encs_map : ∀ ps : List T, encs ps = ps.map enc
  | [] => rfl
  | t :: ts => by rw [encs, List.map_cons, encs_map ts]
mutual
def len : T → Int
  | .lf _ _ => 1
  | .nd _ ns ps => 1 + ns.sum + lens ps
def lens : List T → Int
  | [] => 0
  | t :: ts => len t + lens ts
end
mutual
def dep : T → Int
  | .lf _ _ => 1
  | .nd _ _ ps => 1 + deps ps
def deps : List T → Int
  | [] => 0
  | t :: ts => max (dep t) (deps ts)
end
mutual
def sz : T → Nat
  | .lf _ _ => 1
  | .nd _ _ ps => 1 + szs ps
def szs : List T → Nat
  | [] => 0
  | t :: ts => sz t + szs ts
end
/-- the names of a word -/
def dl : List (Str × List Int) → Str → Option (List Int)
  | [], _ => none
  | (k, v) :: r, w => if k = w then some v else dl r w
def LW : List Str := ["number", "name", "at", "hole"]
def LfOk (w : Str) (xs : List Int) : Prop :=
  (w = "hole" ∧ ∃ j ks, xs = j :: ks ∧ 0 ≤ j ∧ j ≤ 99 ∧ ks.length ≤ 100 ∧ ∀ k ∈ ks, 0 ≤ k) ∨ (w = "number" ∧ ∃ i, xs = [i] ∧ -999999999 ≤ i ∧ i ≤ 999999999) ∨ ((w = "name" ∨ w = "at") ∧ ∃ i, xs = [i] ∧ 0 ≤ i)
structure DOk (D : List (Str × List Int)) : Prop where
  nm : ∀ w ns, dl D w = some ns → 1 ≤ ns.length ∧ ns.length ≤ 4 ∧ ∀ n ∈ ns, 0 ≤ n ∧ n ≤ 2
  lw : ∀ w ns, dl D w = some ns → w ∉ LW
inductive V (D : List (Str × List Int)) : T → Prop
  | lf {w : Str} {xs : List Int} : LfOk w xs → V D (.lf w xs)
  | nd {w : Str} {ns : List Int} {ps : List T} : dl D w = some ns → ps.length = ns.length → (∀ p ∈ ps, V D p) → V D (.nd w ns ps)
theorem sum_nn {ns : List Int} (h : ∀ n ∈ ns, 0 ≤ n) : 0 ≤ ns.sum := by
  induction ns with
  | nil => simp
  | cons n ns ih =>
    have := h n (by simp)
    have := ih fun m hm => h m (by simp [hm])
    simp only [List.sum_cons]; omega
theorem lens_nn {ps : List T} (h : ∀ p ∈ ps, 1 ≤ len p) : (ps.length : Int) ≤ lens ps := by
  induction ps with
  | nil => simp [lens]
  | cons p ps ih =>
    have := h p (by simp)
    have := ih fun m hm => h m (by simp [hm])
    simp only [lens, List.length_cons]; omega
theorem lens_mem {ps : List T} (h : ∀ p ∈ ps, 1 ≤ len p) {p : T} (hp : p ∈ ps) : len p ≤ lens ps := by
  induction ps with
  | nil => cases hp
  | cons q ps ih =>
    have h0 := h q (by simp)
    have h1 := lens_nn (ps := ps) fun m hm => h m (by simp [hm])
    rcases List.mem_cons.mp hp with e | e
    · subst e; simp only [lens]; omega
    · have := ih (fun m hm => h m (by simp [hm])) e
      simp only [lens]; omega
variable {D : List (Str × List Int)}
theorem V.len_pos (hD : DOk D) {t : T} (h : V D t) : 1 ≤ len t := by
  induction h with
  | lf _ => simp [len]
  | @nd w ns ps h1 h2 h3 ih =>
    have a := sum_nn fun n hn => ((hD.nm _ _ h1).2.2 n hn).1
    have b := lens_nn ih
    simp only [len]; omega
theorem deps_le {ps : List T} {m : Int} (h : ∀ p ∈ ps, dep p ≤ m) (hm : 0 ≤ m) : deps ps ≤ m := by
  induction ps with
  | nil => simpa [deps] using hm
  | cons p ps ih =>
    have := h p (by simp)
    have := ih fun m hm => h m (by simp [hm])
    simp only [deps]; omega
theorem mem_deps {ps : List T} {p : T} (h : p ∈ ps) : dep p ≤ deps ps := by
  induction ps with
  | nil => cases h
  | cons q ps ih =>
    rcases List.mem_cons.mp h with e | e
    · subst e; simp only [deps]; omega
    · have := ih e; simp only [deps]; omega
theorem V.dep_le (hD : DOk D) {t : T} (h : V D t) : dep t ≤ len t := by
  induction h with
  | lf _ => simp [len, dep]
  | @nd w ns ps h1 h2 h3 ih =>
    have a := sum_nn fun n hn => ((hD.nm _ _ h1).2.2 n hn).1
    have b : ∀ p ∈ ps, 1 ≤ len p := fun p hp => (h3 p hp).len_pos hD
    have c := deps_le (ps := ps) (m := lens ps) (fun p hp => Int.le_trans (ih p hp) (lens_mem b hp)) (by have := lens_nn b; omega)
    simp only [len, dep]; omega
mutual
theorem sz_pos : ∀ t : T, 1 ≤ sz t
  | .lf _ _ => by simp [sz]
  | .nd _ _ _ => by simp [sz]
end
theorem szs_le {ps : List T} (h : ∀ p ∈ ps, (sz p : Int) ≤ len p) : (szs ps : Int) ≤ lens ps := by
  induction ps with
  | nil => simp [szs, lens]
  | cons p ps ih =>
    have := h p (by simp)
    have := ih fun m hm => h m (by simp [hm])
    simp only [szs, lens]; omega
theorem V.sz_le (hD : DOk D) {t : T} (h : V D t) : (sz t : Int) ≤ len t := by
  induction h with
  | lf _ => simp [len, sz]
  | @nd w ns ps h1 h2 h3 ih =>
    have a := sum_nn fun n hn => ((hD.nm _ _ h1).2.2 n hn).1
    have := szs_le ih
    simp only [len, sz]; omega

/-! ### places -/
def sub : List Int → T → Option T
  | [], t => some t
  | i :: pl, .nd _ _ ps => if 0 ≤ i then (match ps[i.toNat]? with
    | some p => sub pl p
    | none => none) else none
  | _ :: _, .lf _ _ => none
def rp : List Int → T → T → T
  | [], _, u => u
  | i :: pl, .nd w ns ps, u => .nd w ns (match ps[i.toNat]? with
    | some p => ps.set i.toNat (rp pl p u)
    | none => ps)
  | _ :: _, .lf w xs, _ => .lf w xs
theorem sub_cons {i : Int} {pl : List Int} {t s : T} (h : sub (i :: pl) t = some s) : ∃ w ns ps p, t = .nd w ns ps ∧ 0 ≤ i ∧ ps[i.toNat]? = some p ∧ sub pl p = some s := by
  cases t with
  | lf => cases h
  | nd w ns ps =>
    unfold sub at h
    split at h
    · rename_i h0
      split at h
      · rename_i p e
        exact ⟨w, ns, ps, p, rfl, h0, e, h⟩
      · cases h
    · cases h
theorem sub_nd {i : Int} {pl : List Int} {w : Str} {ns : List Int} {ps : List T} {p : T} (h0 : 0 ≤ i) (e : ps[i.toNat]? = some p) : sub (i :: pl) (.nd w ns ps) = sub pl p := by
  rw [sub, if_pos h0, e]
theorem rp_nd {i : Int} {pl : List Int} {w : Str} {ns : List Int} {ps : List T} {p u : T} (e : ps[i.toNat]? = some p) : rp (i :: pl) (.nd w ns ps) u = .nd w ns (ps.set i.toNat (rp pl p u)) := by
  rw [rp, e]
theorem getE {α : Type} {l : List α} {i : Nat} {x : α} (h : l[i]? = some x) : i < l.length ∧ x ∈ l := ⟨(List.getElem?_eq_some_iff.mp h).1, List.mem_of_getElem? h⟩
theorem sub_V : ∀ {pl : List Int} {t s : T}, V D t → sub pl t = some s → V D s
  | [], t, s, h, e => by cases e; exact h
  | i :: pl, t, s, h, e => by
    obtain ⟨w, ns, ps, p, rfl, h0, e1, e2⟩ := sub_cons e
    cases h with
    | nd _ _ h3 => exact sub_V (h3 p (getE e1).2) e2
theorem rp_V : ∀ {pl : List Int} {t s u : T}, V D t → sub pl t = some s → V D u → V D (rp pl t u)
  | [], t, s, u, h, e, hu => by exact hu
  | i :: pl, t, s, u, h, e, hu => by
    obtain ⟨w, ns, ps, p, rfl, h0, e1, e2⟩ := sub_cons e
    cases h with
    | nd h1 h2 h3 =>
      rw [rp_nd e1]
      refine .nd h1 (by simpa using h2) fun q hq => ?_
      rcases List.mem_or_eq_of_mem_set hq with z | z
      · exact h3 q z
      · rw [z]; exact rp_V (h3 p (getE e1).2) e2 hu
theorem lens_set : ∀ {ps : List T} {i : Nat} {p q : T}, ps[i]? = some p → lens (ps.set i q) = lens ps - len p + len q
  | [], _, _, _, h => by simp at h
  | x :: ps, 0, p, q, h => by simp at h; subst h; simp only [List.set_cons_zero, lens]; omega
  | x :: ps, i + 1, p, q, h => by
    have := lens_set (ps := ps) (i := i) (p := p) (q := q) (by simpa using h)
    simp only [List.set_cons_succ, lens]; omega
theorem rp_len : ∀ {pl : List Int} {t s u : T}, sub pl t = some s → len (rp pl t u) = len t - len s + len u
  | [], t, s, u, e => by cases e; simp only [rp]; omega
  | i :: pl, t, s, u, e => by
    obtain ⟨w, ns, ps, p, rfl, h0, e1, e2⟩ := sub_cons e
    rw [rp_nd e1]
    have := rp_len (u := u) e2
    simp only [len, lens_set e1]; omega
theorem sub_rp : ∀ {pl m : List Int} {t s u : T}, sub pl t = some s → sub (pl ++ m) (rp pl t u) = sub m u
  | [], m, t, s, u, e => rfl
  | i :: pl, m, t, s, u, e => by
    obtain ⟨w, ns, ps, p, rfl, h0, e1, e2⟩ := sub_cons e
    rw [rp_nd e1, List.cons_append, sub_nd h0 (p := rp pl p u) (by simp [(getE e1).1])]
    exact sub_rp e2
theorem rp_rp : ∀ {pl : List Int} {t s u v : T}, sub pl t = some s → rp pl (rp pl t u) v = rp pl t v
  | [], t, s, u, v, e => rfl
  | i :: pl, t, s, u, v, e => by
    obtain ⟨w, ns, ps, p, rfl, h0, e1, e2⟩ := sub_cons e
    rw [rp_nd e1, rp_nd e1, rp_nd (p := rp pl p u) (by simp [(getE e1).1]), rp_rp e2]
    simp
theorem rp_self : ∀ {pl : List Int} {t s : T}, sub pl t = some s → rp pl t s = t
  | [], t, s, e => by cases e; rfl
  | i :: pl, t, s, e => by
    obtain ⟨w, ns, ps, p, rfl, h0, e1, e2⟩ := sub_cons e
    rw [rp_nd e1, rp_self e2]
    congr
    apply List.ext_getElem? 
    intro j
    by_cases hj : j = i.toNat
    · subst hj; simp [(getE e1).1, e1]; rw [List.getElem?_eq_getElem (getE e1).1] at e1; exact (Option.some.inj e1).symm
    · rw [List.getElem?_set_ne (Ne.symm hj)]
theorem sub_app : ∀ {pl m : List Int} {t s x : T}, sub pl t = some s → sub m s = some x → sub (pl ++ m) t = some x
  | [], m, t, s, x, e, e' => by cases e; exact e'
  | i :: pl, m, t, s, x, e, e' => by
    obtain ⟨w, ns, ps, p, rfl, h0, e1, e2⟩ := sub_cons e
    rw [List.cons_append, sub_nd h0 e1]
    exact sub_app e2 e'
theorem sub_dep : ∀ {pl : List Int} {t s : T}, sub pl t = some s → (pl.length : Int) + dep s ≤ dep t
  | [], t, s, e => by cases e; simp
  | i :: pl, t, s, e => by
    obtain ⟨w, ns, ps, p, rfl, h0, e1, e2⟩ := sub_cons e
    have a := sub_dep e2
    have b := mem_deps (getE e1).2
    simp only [dep, List.length_cons]; omega

/-! ### leaves -/
abbrev Lv : Type := List Int × Int × Str × List Int
mutual
def lv : T → Int → List Lv
  | .lf w xs, d => [([], d, w, xs)]
  | .nd _ ns ps, d => lvs ps ns 0 d
def lvs : List T → List Int → Nat → Int → List Lv
  | t :: ts, n :: ns, i, d => (lv t (d + n)).map (fun q => ((i : Int) :: q.1, q.2)) ++ lvs ts ns (i + 1) d
  | _, _, _, _ => []
end
theorem app_split {α : Type} {X Y A B : List α} {q : α} (h : X ++ Y = A ++ q :: B) : (∃ C, X = A ++ q :: C ∧ B = C ++ Y) ∨ (∃ C, A = X ++ C ∧ Y = C ++ q :: B) := by
  rcases List.append_eq_append_iff.mp h with ⟨a', h1, h2⟩ | ⟨c', h1, h2⟩
  · exact .inr ⟨a', h1, h2⟩
  · cases c' with
    | nil => exact .inr ⟨[], by simpa using h1.symm, by simpa using h2.symm⟩
    | cons x c =>
      simp only [List.cons_append, List.cons.injEq] at h2
      obtain ⟨rfl, h2⟩ := h2
      exact .inl ⟨c, h1, h2⟩
mutual
theorem lv_split : ∀ (t : T) (d : Int) (A : List Lv) (q : Lv) (B : List Lv), lv t d = A ++ q :: B →
    sub q.1 t = some (.lf q.2.2.1 q.2.2.2) ∧ ∀ w xs, lv (rp q.1 t (.lf w xs)) d = A ++ (q.1, q.2.1, w, xs) :: B
  | .lf w xs, d, A, q, B, h => by
    rw [lv] at h
    cases A with
    | nil =>
      simp only [List.nil_append, List.cons.injEq] at h
      obtain ⟨rfl, rfl⟩ := h
      exact ⟨rfl, fun w xs => rfl⟩
    | cons a A => simp at h
  | .nd w ns ps, d, A, q, B, h => by
    rw [lv] at h
    obtain ⟨j, p, pl, e1, e2, e3, e4⟩ := lvs_split ps ns 0 d A q B h
    rw [e2]
    have hj : ((0 + j : Nat) : Int).toNat = j := by simp
    refine ⟨?_, fun w' xs => ?_⟩
    · rw [sub_nd (by omega) (by rw [hj]; exact e1)]; exact e3
    · rw [rp_nd (by rw [hj]; exact e1), hj, lv, e4, e2]
theorem lvs_split : ∀ (ts : List T) (ns : List Int) (i : Nat) (d : Int) (A : List Lv) (q : Lv) (B : List Lv), lvs ts ns i d = A ++ q :: B →
    ∃ (j : Nat) (p : T) (pl : List Int), ts[j]? = some p ∧ q.1 = ((i + j : Nat) : Int) :: pl ∧ sub pl p = some (.lf q.2.2.1 q.2.2.2) ∧ ∀ w xs, lvs (ts.set j (rp pl p (.lf w xs))) ns i d = A ++ (q.1, q.2.1, w, xs) :: B
  | [], ns, i, d, A, q, B, h => by simp [lvs] at h
  | t :: ts, [], i, d, A, q, B, h => by simp [lvs] at h
  | t :: ts, n :: ns, i, d, A, q, B, h => by
    rw [lvs] at h
    rcases app_split h with ⟨C, h1, h2⟩ | ⟨C, h1, h2⟩
    · obtain ⟨L1, L2, e1, e2, e3⟩ := List.map_eq_append_iff.mp h1
      cases L2 with
      | nil => simp at e3
      | cons q0 L3 =>
        simp only [List.map_cons, List.cons.injEq] at e3
        obtain ⟨e3, e4⟩ := e3
        obtain ⟨g1, g2⟩ := lv_split t (d + n) L1 q0 L3 e1
        subst e3
        refine ⟨0, t, q0.1, rfl, rfl, g1, fun w xs => ?_⟩
        rw [List.set_cons_zero, lvs, g2, h2, ← e2, ← e4]
        simp
    · obtain ⟨j, p, pl, e1, e2, e3, e4⟩ := lvs_split ts ns (i + 1) d C q B h2
      refine ⟨j + 1, p, pl, by simpa using e1, by rw [e2]; congr 1; omega, e3, fun w xs => ?_⟩
      rw [List.set_cons_succ, lvs, e4, h1]
      simp
end
end G04
set_option Elab.async false
set_option maxRecDepth 100000
set_option maxHeartbeats 1000000
set_option linter.all false
namespace G04
open PySem PySem.Spec PyProof.Rows L2 Py
variable {D : List (Str × List Int)}
local macro_rules
  | `(tactic| simp! only [$a,*]) => `(tactic| simp only [wp_ok, wp_no, ↓wp_bind, ↓R.bind_ok, ↓sSeq, ↓sNil, ↓sSet, ↓sAsg, ↓sIf, ↓sRet, ↓sExpr, ↓sPar, ↓sPar3, ↓sFor, ↓nName, ↓nTup, ↓nCons, ↓nNil, ↓nNs, ↓eVar, ↓eC, ↓eOp, ↓eUn, ↓eArgs, ↓eNew, ↓aCons, ↓aNil, ↓tV, ↓tT, toB, truP, ↓tNotE, ↓tAndE, ↓tOrE, ↓tYesE, ↓eAndV, ↓eOrV, ↓eNotV, ↓eNotT, ↓eIf, gAdd_int, gAdd_tup, Py.gSub, gMul_l, gMul_r, gMod, gFdiv, gNeg, gLt, gLe, gGt, gGe, gInt, gIx, gEq_int, gEq_str, gEq_bl, gNe_int, gNe_str, gNe_bl, gIsN, gNotN, getQ, getL, gSetL, ↓nSubL, gDivmod, gMin2, gMax2, ↓mkDef, ↓mkNew, startP, finF, finO, finV_tup, finV_int, finV_bl, finV_lst, finV_non, finV_str, finV_ref, ↓eChain, tyP, gIsi, isiB, ↓iArgs, ↓iSeq, iterP, ↓fComp, wipeP, ↓eSl, ↓oNone, ↓oSome, gSl, ↓eMeth0, ↓eMeth1, ixN, atI0, atI1, atI2, atI3, List.length_cons, List.length_nil, List.map_cons, List.map_nil, List.replicate, List.cons_append, List.nil_append, List.append_nil, List.getElem?_cons_zero, List.getElem?_cons_succ, List.getElem?_nil, List.set_cons_zero, List.set_cons_succ, List.set_nil, List.length_set, List.length_append, Nat.add_sub_cancel, Nat.reduceAdd, Nat.reduceSub, Nat.reduceLT, Nat.reduceEqDiff, Nat.reduceLeDiff, Nat.le_refl, Nat.zero_le, if_true, if_false, ↓reduceIte, decide_eq_true_eq, Bool.false_eq_true, Bool.true_eq_false, Bool.not_true, Bool.not_false, Option.isSome_some, forall_const, not_true_eq_false, not_false_eq_true, imp_self, false_implies, true_implies, implies_true, and_true, true_and, Int.toNat_zero, Nat.zero_add, Int.reduceLE, Int.reduceLT, Int.reduceNeg, Int.reduceToNat, Int.reducePow, Int.reduceGT, Int.cast_ofNat_Int, true_or, or_true, Int.ofNat_eq_natCast, decide_true, decide_false, Int.reduceEq, List.isEmpty_cons, List.isEmpty_nil, eDGet1,  keyP, Option.map_some, Option.map_none, Option.getD_some, Option.isSome_some, reduceCtorEq, and_self,  allPure_nil, allPure_cons, Bool.and_true, Bool.true_and, Bool.false_and, Bool.and_false, Bool.not_eq_true, Bool.not_eq_false, gTupP_nil, gLstP_nil, gTupP_ok, gLstP_ok, isRef_tup, isRef_int, isRef_str, isRef_bl, Bool.or_false, Bool.or_true, Bool.true_or, Bool.false_or, $a,*])

/-! ### small facts -/
/-- WP of equations -/
theorem eqn {r : R PV} {p : PV} {S : Sto} (h : WP r fun a S' => a = p ∧ S' = S) : r = .ok p S := by
  obtain ⟨a, S2, e, rfl, rfl⟩ := h.ex
  exact e
theorem eqF_str (a b : Str) : eqF (.str a) (.str b) = decide (a = b) := rfl
theorem any_strs (w : Str) : ∀ ws : List Str, (ws.map PV.str).any (fun y => eqF y (.str w)) = decide (w ∈ ws)
  | [] => by simp
  | x :: ws => by
    rw [List.map_cons, List.any_cons, any_strs w ws, eqF_str]
    by_cases h : x = w
    · subst h; simp
    · have h2 : ¬ w = x := fun z => h z.symm
      simp [h, h2]
theorem all_flat_strs : ∀ ws : List Str, (ws.map PV.str).all flatP = true
  | [] => rfl
  | x :: ws => by rw [List.map_cons, List.all_cons, all_flat_strs ws]; rfl
theorem gIn_strs {w : Str} {ws : List Str} {S : Sto} : gIn false (.str w) (.tup (ws.map .str)) S = .ok (.bl (decide (w ∈ ws))) S := by
  show (if flatP (.str w) = true ∧ (ws.map PV.str).all flatP = true then R.ok (PV.bl (if false = true then !(ws.map PV.str).any (fun y => eqF y (.str w)) else (ws.map PV.str).any (fun y => eqF y (.str w)))) S else .no) = _
  rw [if_pos ⟨rfl, all_flat_strs ws⟩, any_strs]; rfl
theorem gNin_strs {w : Str} {ws : List Str} {S : Sto} : gIn true (.str w) (.tup (ws.map .str)) S = .ok (.bl (!decide (w ∈ ws))) S := by
  show (if flatP (.str w) = true ∧ (ws.map PV.str).all flatP = true then R.ok (PV.bl (if true = true then !(ws.map PV.str).any (fun y => eqF y (.str w)) else (ws.map PV.str).any (fun y => eqF y (.str w)))) S else .no) = _
  rw [if_pos ⟨rfl, all_flat_strs ws⟩, any_strs]; rfl
theorem in_LW {w : Str} {S : Sto} : gIn false (.str w) (.tup [.str "number", .str "name", .str "at", .str "hole"]) S = .ok (.bl (decide (w ∈ LW))) S := gIn_strs (ws := LW)
theorem nin_LW {w : Str} {S : Sto} : gIn true (.str w) (.tup [.str "number", .str "name", .str "at", .str "hole"]) S = .ok (.bl (!decide (w ∈ LW))) S := gNin_strs (ws := LW)
theorem in_cLW {w : Str} {S : Sto} : gIn false (.str w) (.tup c_LEAF_WORDS) S = .ok (.bl (decide (w ∈ LW))) S := gIn_strs (ws := LW)
def isLf : T → Bool
  | .lf _ _ => true
  | .nd _ _ _ => false
theorem LfOk.lw {w : Str} {xs : List Int} (h : LfOk w xs) : w ∈ LW := by
  rcases h with ⟨rfl, _⟩ | ⟨rfl, _⟩ | ⟨rfl | rfl, _⟩ <;> simp [LW]
theorem V.lfW (hD : DOk D) {t : T} (h : V D t) : ∃ w ys, enc t = .tup (.str w :: ys) ∧ decide (w ∈ LW) = isLf t := by
  cases h with
  | lf h => exact ⟨_, _, rfl, by simp [isLf, h.lw]⟩
  | nd h1 h2 h3 => exact ⟨_, _, by rw [enc], by simp [isLf, hD.lw _ _ h1]⟩
theorem isRef_enc (t : T) : (enc t).isRef = false := by cases t <;> rfl
theorem finV_enc {n : Nat} {t : T} {S : Sto} : finV n (enc t) S = .ok (enc t) (S.take n) := finV_pure (isRef_enc t)
theorem is_leaf_eq (hD : DOk D) {t : T} (h : V D t) (S : Sto) : m_is_leaf [enc t] S = .ok (.bl (isLf t)) S := by
  obtain ⟨w, ys, e, e2⟩ := h.lfW hD
  rw [e, ← e2]
  unfold m_is_leaf b_is_leaf
  refine eqn ?_
  simp! only [in_cLW, take_self]
theorem is_whole_eq {i : Int} {S : Sto} : m_is_whole [.int i] S = .ok (.bl true) S := by
  refine eqn ?_
  unfold m_is_whole b_is_whole
  simp! only [take_self]
theorem is_count_eq {i : Int} {S : Sto} (h : 0 ≤ i) : m_is_count [.int i] S = .ok (.bl true) S := by
  refine eqn ?_
  unfold m_is_count b_is_count
  simp! only [take_self, is_whole_eq, h]
theorem is_within_eq {i a b : Int} {S : Sto} (h : a ≤ i) (h2 : i ≤ b) : m_is_whole_within [.int i, .int a, .int b] S = .ok (.bl true) S := by
  refine eqn ?_
  unfold m_is_whole_within b_is_whole_within
  simp! only [take_self, is_whole_eq, h, h2]
theorem compF_map {i : Nat} {f : Ev} {ρ : Py.Env} {S : Sto} {φ : PV → PV} : ∀ (ps acc : List PV), (∀ p ∈ ps, f (ρ.set i (some p)) S = .ok (φ p) S ∧ (φ p).isRef = false) → acc.length + ps.length ≤ 5000 →
    compF (nName i) tYesE f ρ ps acc S = .ok (.lst (acc ++ ps.map φ)) S
  | [], acc, _, _ => by simp [compF]
  | p :: ps, acc, h, hl => by
    obtain ⟨h1, h2⟩ := h p (by simp)
    have hl' : acc.length < sizeLine := by have := size_1000 (n := acc.length + 1) (by simp at hl; omega); omega
    have h3 : (φ p).isRef = false ∧ acc.length < sizeLine := ⟨h2, hl'⟩
    simp only [compF, nName, R.bind_ok, tYesE, if_true, h1, if_pos h3]
    have := compF_map ps (acc ++ [φ p]) (fun q hq => h q (by simp [hq])) (by simp at hl ⊢; omega)
    simpa [nName, tYesE] using this
theorem compF_map0 {i : Nat} {f : Ev} {ρ : Py.Env} {S : Sto} {φ : PV → PV} (ps : List PV) (h : ∀ p ∈ ps, f (ρ.set i (some p)) S = .ok (φ p) S ∧ (φ p).isRef = false) (hl : ps.length ≤ 5000) :
    compF (nName i) tYesE f ρ ps [] S = .ok (.lst (ps.map φ)) S := by
  have := compF_map ps [] h (by simpa using hl)
  simpa using this
theorem blsOf_true : ∀ (n : List PV), blsOf (n.map fun _ => PV.bl true) = some (n.map fun _ => true)
  | [] => rfl
  | x :: n => by rw [List.map_cons, blsOf, blsOf_true n]; rfl
theorem gAll_true {ps : List PV} {S : Sto} : gAll [.lst (ps.map fun _ => PV.bl true)] S = .ok (.bl true) S := by
  show (match (some (ps.map fun _ => PV.bl true)).bind blsOf with | some ns => R.ok (PV.bl (ns.all id)) S | none => .no) = _
  rw [show (some (ps.map fun _ => PV.bl true)).bind blsOf = some (ps.map fun _ => true) from blsOf_true ps]
  simp
theorem cut_from2 {a b : PV} {l : List PV} : cutP (a :: b :: l) (some 2) none = l := by
  unfold cutP
  simp [HT.sIx]
theorem cut_from1 {a : PV} {l : List PV} : cutP (a :: l) (some 1) none = l := by
  unfold cutP
  simp [HT.sIx]
theorem gLen_tup {xs : List PV} {S : Sto} : gLen [.tup xs] S = .ok (.int xs.length) S := rfl
theorem gLen_lst {xs : List PV} {S : Sto} : gLen [.lst xs] S = .ok (.int xs.length) S := rfl
theorem hole_ok {j : Int} {ks : List Int} {S : Sto} (h0 : 0 ≤ j) (h1 : j ≤ 99) (hl : ks.length ≤ 100) (hk : ∀ k ∈ ks, 0 ≤ k) : m_is_hole_well_made [enc (.lf "hole" (j :: ks))] S = .ok (.bl true) S := by
  refine eqn ?_
  unfold m_is_hole_well_made b_is_hole_well_made
  have e : compF (nName 1) tYesE (eArgs m_is_count (aCons (eVar 1) aNil)) [some (.tup (.str "hole" :: .int j :: ks.map .int)), none] (ks.map .int) [] S = .ok (.lst ((ks.map PV.int).map fun _ => .bl true)) S := by
    refine compF_map (φ := fun _ => PV.bl true) _ [] (fun p hp => ?_) (by simp; omega)
    obtain ⟨k, hk2, rfl⟩ := List.mem_map.mp hp
    refine ⟨?_, rfl⟩
    refine eqn ?_
    simp! only [is_count_eq (hk k hk2)]
  rw [enc]
  have n2 : ¬ (((ks.length + 1 + 1 : Nat) : Int) < 2) := by omega
  simp! only [gLen_tup, is_within_eq h0 h1, cut_from2, e, gAll_true, take_self, List.length_map, n2]
theorem ne_nh : (("number" : Str) = "hole") = False := by simp; decide +kernel
theorem ne_mh : (("name" : Str) = "hole") = False := by simp; decide +kernel
theorem ne_ah : (("at" : Str) = "hole") = False := by simp; decide +kernel
theorem ne_mn : (("name" : Str) = "number") = False := by simp; decide +kernel
theorem ne_an : (("at" : Str) = "number") = False := by simp; decide +kernel
theorem leaf_wm {w : Str} {xs : List Int} {S : Sto} (h : LfOk w xs) : m_is_leaf_well_made [enc (.lf w xs), .bl true] S = .ok (.bl true) S := by
  refine eqn ?_
  unfold m_is_leaf_well_made b_is_leaf_well_made
  rcases h with ⟨rfl, j, ks, rfl, h1, h2, h3, h4⟩ | ⟨rfl, i, rfl, h1, h2⟩ | ⟨h0, i, rfl, h1⟩
  · have := hole_ok (S := S) h1 h2 h3 h4
    rw [enc, List.map_cons] at this
    rw [enc]
    simp! only [this, take_self]
  · rw [enc]
    simp! only [gLen_tup, ne_nh, is_within_eq h1 h2, take_self]
  · rcases h0 with rfl | rfl
    · rw [enc]
      simp! only [gLen_tup, ne_mh, ne_mn, is_count_eq h1, take_self]
    · rw [enc]
      simp! only [gLen_tup, ne_ah, ne_an, is_count_eq h1, take_self]

/-! ### the words -/
def ksD (D : List (Str × List Int)) : List Key := D.map fun q => .inr q.1
def vsD (D : List (Str × List Int)) : List PV := D.map fun q => .tup (q.2.map .int)
def DicV (W : PV) (S : Sto) (D : List (Str × List Int)) : Prop := getD W S = some (ksD D, vsD D)
theorem DicV.is {W : PV} {S : Sto} (h : DicV W S D) : isDic W S = true := by
  unfold DicV at h; unfold isDic; rw [h]; rfl
theorem DicV.get {W : PV} {S : Sto} (h : DicV W S D) {w : Str} : gDGet1 W (.str w) S = .ok ((dgetP (ksD D) (vsD D) (.inr w)).getD .non) S := by
  unfold DicV at h; unfold gDGet1; rw [h]; rfl
theorem dgetP_D (w : Str) : ∀ D : List (Str × List Int), dgetP (ksD D) (vsD D) (.inr w) = (dl D w).map fun ns => .tup (ns.map .int)
  | [] => rfl
  | (k, v) :: D => by
    show (if (Sum.inr k : Key) = Sum.inr w then some (PV.tup (v.map .int)) else dgetP (ksD D) (vsD D) (.inr w)) = _
    rw [dl]
    by_cases h : k = w
    · rw [if_pos h, if_pos (by rw [h])]; rfl
    · rw [if_neg h, if_neg (fun z => h (Sum.inr.inj z)), dgetP_D w D]
theorem intsOf_map : ∀ ns : List Int, intsOf (ns.map PV.int) = some ns
  | [] => rfl
  | n :: ns => by rw [List.map_cons, intsOf, intsOf_map ns]; rfl
theorem gSumA_ints {ns : List Int} {S : Sto} (h : ns.length ≤ 5000) : gSumA [.tup (ns.map .int)] S = .ok (.int ns.sum) S := by
  unfold gSumA
  simp only [getQ, Option.bind_some, intsOf_map]
theorem gSumA_lst {ns : List Int} {S : Sto} (h : ns.length ≤ 5000) : gSumA [.lst (ns.map .int)] S = .ok (.int ns.sum) S := by
  unfold gSumA
  simp only [getQ, getL, Option.bind_some, intsOf_map]
def ownL : T → Int
  | .lf _ _ => 1
  | .nd _ ns _ => 1 + ns.sum
theorem own_length_eq (hD : DOk D) {S : Sto} {W : PV} (hS : DicV W S D) {t : T} (h : V D t) : m_own_length [W, enc t, .bl true] S = .ok (.int (ownL t)) S := by
  have il := is_leaf_eq hD h S
  refine eqn ?_
  unfold m_own_length b_own_length
  cases h with
  | @lf w xs h =>
    have wm := leaf_wm (S := S) h
    rw [enc] at il wm ⊢
    simp! only [il, wm, isLf, take_self, ownL]
  | @nd w ns ps h1 h2 h3 =>
    have e1 : (((encs ps).length + 1 : Nat) : Int) = 1 + ((ns.map PV.int).length : Nat) := by rw [encs_map]; simp; omega
    have sm := gSumA_ints (ns := ns) (S := S) (by have := hD.nm _ _ h1; omega)
    rw [enc] at il ⊢
    simp! only [il, isLf, take_self, ownL, hS.is, hS.get, dgetP_D, h1, gLen_tup, e1, sm]
end G04
set_option Elab.async false
set_option maxRecDepth 100000
set_option maxHeartbeats 1000000
set_option linter.all false
namespace G04
open PySem PySem.Spec PyProof.Rows L2 Py
variable {D : List (Str × List Int)}
local macro_rules
  | `(tactic| simp! only [$a,*]) => `(tactic| simp only [wp_ok, wp_no, ↓wp_bind, ↓R.bind_ok, ↓sSeq, ↓sNil, ↓sSet, ↓sAsg, ↓sIf, ↓sRet, ↓sExpr, ↓sPar, ↓sPar3, ↓sFor, ↓nName, ↓nTup, ↓nCons, ↓nNil, ↓nNs, ↓eVar, ↓eC, ↓eOp, ↓eUn, ↓eArgs, ↓eNew, ↓aCons, ↓aNil, ↓tV, ↓tT, toB, truP, ↓tNotE, ↓tAndE, ↓tOrE, ↓tYesE, ↓eAndV, ↓eOrV, ↓eNotV, ↓eNotT, ↓eIf, gAdd_int, gAdd_tup, Py.gSub, gMul_l, gMul_r, gMod, gFdiv, gNeg, gLt, gLe, gGt, gGe, gInt, gIx, gEq_int, gEq_str, gEq_bl, gNe_int, gNe_str, gNe_bl, gIsN, gNotN, getQ, getL, gSetL, ↓nSubL, gDivmod, gMin2, gMax2, ↓mkDef, ↓mkNew, startP, finF, finO, finV_tup, finV_int, finV_bl, finV_lst, finV_non, finV_str, finV_ref, ↓eChain, tyP, gIsi, isiB, ↓iArgs, ↓iSeq, iterP, ↓fComp, wipeP, ↓eSl, ↓oNone, ↓oSome, gSl, ↓eMeth0, ↓eMeth1, ixN, atI0, atI1, atI2, atI3, List.length_cons, List.length_nil, List.map_cons, List.map_nil, List.replicate, List.cons_append, List.nil_append, List.append_nil, List.getElem?_cons_zero, List.getElem?_cons_succ, List.getElem?_nil, List.set_cons_zero, List.set_cons_succ, List.set_nil, List.length_set, List.length_append, Nat.add_sub_cancel, Nat.reduceAdd, Nat.reduceSub, Nat.reduceLT, Nat.reduceEqDiff, Nat.reduceLeDiff, Nat.le_refl, Nat.zero_le, if_true, if_false, ↓reduceIte, decide_eq_true_eq, Bool.false_eq_true, Bool.true_eq_false, Bool.not_true, Bool.not_false, Option.isSome_some, forall_const, not_true_eq_false, not_false_eq_true, imp_self, false_implies, true_implies, implies_true, and_true, true_and, Int.toNat_zero, Nat.zero_add, Int.reduceLE, Int.reduceLT, Int.reduceNeg, Int.reduceToNat, Int.reducePow, Int.reduceGT, Int.cast_ofNat_Int, true_or, or_true, Int.ofNat_eq_natCast, decide_true, decide_false, Int.reduceEq, List.isEmpty_cons, List.isEmpty_nil, eDGet1,  keyP, Option.map_some, Option.map_none, Option.getD_some, Option.isSome_some, reduceCtorEq, and_self,  allPure_nil, allPure_cons, Bool.and_true, Bool.true_and, Bool.false_and, Bool.and_false, Bool.not_eq_true, Bool.not_eq_false, gTupP_nil, gLstP_nil, gTupP_ok, gLstP_ok, isRef_tup, isRef_int, isRef_str, isRef_bl, Bool.or_false, Bool.or_true, Bool.true_or, Bool.false_or, $a,*])

theorem get_last {S : Sto} {x : PV} : (S ++ [x])[S.length]? = some x := by simp
theorem set_last {S : Sto} {x y : PV} : (S ++ [x]).set S.length y = S ++ [y] := by simp
theorem take_app {S : Sto} {x : PV} : (S ++ [x]).take S.length = S := by simp
theorem DicV.app {W : PV} {S : Sto} {x : PV} (h : DicV W S D) : DicV W (S ++ [x]) D := by
  unfold DicV at h ⊢
  cases W with
  | ref n =>
    cases e : S[n]? with
    | none => simp only [getD, e] at h; cases h
    | some o =>
      have e2 : (S ++ [x])[n]? = some o := by rw [List.getElem?_append_left (List.getElem?_eq_some_iff.mp e).1]; exact e
      simp only [getD, e] at h
      simp only [getD, e2]
      exact h
  | dic ks vs => exact h
  | _ => cases h
theorem gPop_eq {S : Sto} {m : Nat} {xs : List PV} {y : PV} (h : S[m]? = some (.lst (xs ++ [y]))) : gPop (.ref m) S = .ok y (S.set m (.lst xs)) := by
  unfold gPop
  simp only [h]
  simp
theorem gApp_eq {S : Sto} {m : Nat} {xs : List PV} {y : PV} (h : S[m]? = some (.lst xs)) (hy : y.isRef = false) (hl : xs.length < 5000) : gApp (.ref m) y S = .ok .non (S.set m (.lst (xs ++ [y]))) := by
  unfold gApp
  simp only [h]
  rw [if_pos ⟨hy, by have := size_1000 (n := xs.length + 1) (by omega); omega⟩]
theorem gExt_eq {S : Sto} {m : Nat} {xs ys : List PV} (h : S[m]? = some (.lst xs)) (hl : xs.length + ys.length ≤ 5000) : gExt (.ref m) (.lst ys) S = .ok .non (S.set m (.lst (xs ++ ys))) := by
  unfold gExt
  simp only [h]
  rw [if_pos (size_1000 hl)]
def itF (q : T × Int) : PV := .tup [enc q.1, .int q.2]
def due (st : List (T × Int)) : List PV := (st.map itF).reverse
theorem due_cons {q : T × Int} {st : List (T × Int)} : due (q :: st) = due st ++ [itF q] := by simp [due]
def szS : List (T × Int) → Nat
  | [] => 0
  | q :: st => sz q.1 + szS st
def lnS : List (T × Int) → Int
  | [] => 0
  | q :: st => len q.1 + lnS st
theorem szS_app : ∀ a b : List (T × Int), szS (a ++ b) = szS a + szS b
  | [], b => by simp [szS]
  | q :: a, b => by simp only [List.cons_append, szS, szS_app a b]; omega
theorem lnS_app : ∀ a b : List (T × Int), lnS (a ++ b) = lnS a + lnS b
  | [], b => by simp [lnS]
  | q :: a, b => by simp only [List.cons_append, lnS, lnS_app a b]; omega
theorem szS_rev (d : Int) : ∀ ps : List T, szS (ps.map fun p => (p, d)).reverse = szs ps
  | [] => rfl
  | p :: ps => by simp only [List.map_cons, List.reverse_cons, szS_app, szS, szs, szS_rev d ps]; omega
theorem lnS_rev (d : Int) : ∀ ps : List T, lnS (ps.map fun p => (p, d)).reverse = lens ps
  | [] => rfl
  | p :: ps => by simp only [List.map_cons, List.reverse_cons, lnS_app, lnS, lens, lnS_rev d ps]; omega
theorem lnS_ge (hD : DOk D) : ∀ {st : List (T × Int)}, (∀ q ∈ st, V D q.1) → (st.length : Int) ≤ lnS st
  | [], _ => by simp [lnS]
  | q :: st, h => by
    have := (h q (by simp)).len_pos hD
    have := lnS_ge hD (st := st) fun z hz => h z (by simp [hz])
    simp only [lnS, List.length_cons]; omega
theorem lens_len (hD : DOk D) : ∀ {ps : List T}, (∀ q ∈ ps, V D q) → (ps.length : Int) ≤ lens ps := fun h => lens_nn fun p hp => (h p hp).len_pos hD
theorem deps_nn : ∀ ps : List T, 0 ≤ deps ps
  | [] => by simp [deps]
  | p :: ps => by have := deps_nn ps; simp only [deps]; omega
theorem dep_pos : ∀ t : T, 1 ≤ dep t
  | .lf _ _ => by simp [dep]
  | .nd _ _ ps => by have := deps_nn ps; simp only [dep]; omega
theorem V.ownL_le (hD : DOk D) {t : T} (h : V D t) : 1 ≤ ownL t ∧ ownL t ≤ len t := by
  cases h with
  | lf _ => simp [ownL, len]
  | nd h1 h2 h3 =>
    have := lens_len hD h3
    have := sum_nn fun n hn => ((hD.nm _ _ h1).2.2 n hn).1
    simp only [ownL, len]; omega
/-- the loop of fits -/
abbrev fitsB : Es := (sSeq (sAsg (eMeth0 gPop (eVar 3)) (nTup 2 (nCons (nName 5) (nCons (nName 6) nNil)))) (sSeq (sSet 7 (eArgs m_own_length (aCons (eVar 0) (aCons (eVar 5) (aCons (eVar 2) aNil))))) (sSeq (sIf (tOrE (tV (eOp gIsN (eVar 7) (eC .non))) (tV (eOp gGt (eVar 6) (eC (.int 60))))) (sRet (eC (.bl false))) sNil) (sSeq (sAugI 4 (eVar 7)) (sSeq (sIf (tV (eOp gGt (eVar 4) (eC (.int 1500)))) (sRet (eC (.bl false))) sNil) (sIf (tNotE (tT (eArgs m_is_leaf (aCons (eVar 5) aNil)))) (sExpr (eMeth1 gExt (eVar 3) (fComp (iSeq (eSl (eVar 5) (oSome (eC (.int 1))) oNone)) (nName 8) tYesE (eArgs gTupP (aCons (eVar 8) (aCons (eOp gAdd (eVar 6) (eC (.int 1))) aNil))) [8]))) sNil))))))
theorem fits_loop (hD : DOk D) {W : PV} {S0 : Sto} (hS : DicV W S0 D) {a1 : Option PV} : ∀ (k : Nat) (st : List (T × Int)) (L : Int) (x5 x6 x7 x8 : Option PV), szS st < k → (∀ q ∈ st, V D q.1 ∧ q.2 - 1 + dep q.1 ≤ 60) → 0 ≤ L → L + lnS st ≤ 1500 →
    WP (whileF (tT (eVar 3)) fitsB k [some W, a1, some (.bl true), some (.ref S0.length), some (.int L), x5, x6, x7, x8] (S0 ++ [.lst (due st)])) fun fl S' => S' = S0 ++ [.lst []] ∧ ∃ ρ, fl = .nx ρ
  | 0, st, L, _, _, _, _, h, _, _, _ => by omega
  | k + 1, [], L, x5, x6, x7, x8, h, h2, h3, h4 => by
    rw [whileF]
    simp! only [get_last, due, List.reverse_nil]
    exact ⟨_, rfl⟩
  | k + 1, (t, d) :: st, L, x5, x6, x7, x8, h, h2, h3, h4 => by
    obtain ⟨hv, hd⟩ := h2 (t, d) (by simp)
    have hst : ∀ q ∈ st, V D q.1 ∧ q.2 - 1 + dep q.1 ≤ 60 := fun q hq => h2 q (by simp [hq])
    have hl1 := hv.len_pos hD
    have hls := lnS_ge hD fun q hq => (hst q hq).1
    have il := is_leaf_eq hD hv
    have ol := own_length_eq hD (S := S0 ++ [.lst (due st)]) hS.app hv
    have ne : (due st ++ [PV.tup [enc t, .int d]]).isEmpty = false := by simp
    simp only [szS, lnS] at h h4
    rw [whileF, due_cons, show itF (t, d) = PV.tup [enc t, .int d] from rfl]
    have e0 : gPop (.ref S0.length) (S0 ++ [.lst (due st ++ [.tup [enc t, .int d]])]) = .ok (.tup [enc t, .int d]) (S0 ++ [.lst (due st)]) := by rw [gPop_eq get_last, set_last]
    have hd0 := dep_pos t
    have ow := hv.ownL_le hD
    simp only [] at hv hd hl1 il ol ow
    have d60 : ¬ 60 < d := by omega
    have l1500 : ¬ 1500 < L + ownL t := by omega
    cases t with
    | lf w xs =>
      simp! only [get_last, isLst_of get_last, ne, e0, ol, sAugI, d60, l1500, il, isLf]
      exact fits_loop hD hS k st (L + ownL (.lf w xs)) _ _ _ _ (by simp only [sz] at h; omega) hst (by omega) (by simp only [ownL, len] at *; omega)
    | nd w ns ps =>
      cases hv with
      | nd h1 h5 h6 =>
      have hle := lens_len hD h6
      have nn := sum_nn fun n hn => ((hD.nm _ _ h1).2.2 n hn).1
      have e1 : ∀ (x5 x6 x7 : Option PV), compF (nName 8) tYesE (eArgs gTupP (aCons (eVar 8) (aCons (eOp gAdd (eVar 6) (eC (.int 1))) aNil))) [some W, a1, some (.bl true), some (.ref S0.length), x5, x6, some (.int d), x7, none] (encs ps) [] (S0 ++ [.lst (due st)]) = .ok (.lst ((encs ps).map fun p => .tup [p, .int (d + 1)])) (S0 ++ [.lst (due st)]) := by
        intro x5 x6 x7
        refine compF_map0 _ (fun p hp => ?_) (by rw [encs_map]; simp; simp only [len] at h4; omega)
        rw [encs_map] at hp
        obtain ⟨q, _, rfl⟩ := List.mem_map.mp hp
        refine ⟨eqn ?_, rfl⟩
        simp! only [isRef_enc]
      have e2 : gExt (.ref S0.length) (.lst ((encs ps).map fun p => .tup [p, .int (d + 1)])) (S0 ++ [.lst (due st)]) = .ok .non (S0 ++ [.lst (due ((ps.map fun p => (p, d + 1)).reverse ++ st))]) := by
        rw [gExt_eq get_last (by rw [encs_map]; simp [due]; simp only [len] at h4; omega), set_last]
        have : due st ++ ((encs ps).map fun p => PV.tup [p, .int (d + 1)]) = due ((ps.map fun p => (p, d + 1)).reverse ++ st) := by
          rw [encs_map]; simp [due, itF, List.map_reverse, Function.comp_def]
        rw [this]
      rw [enc] at ne e0 ol il ⊢
      simp! only [get_last, isLst_of get_last, ne, e0, ol, sAugI, d60, l1500, il, isLf, cut_from1, e1, e2]
      exact fits_loop hD hS k ((ps.map fun p => (p, d + 1)).reverse ++ st) (L + ownL (.nd w ns ps)) _ _ _ _ (by simp only [szS_app, szS_rev, sz] at h ⊢; omega) (fun q hq => by
        rcases List.mem_append.mp hq with z | z
        · obtain ⟨p, hp, rfl⟩ := List.mem_map.mp (List.mem_reverse.mp z)
          refine ⟨h6 p hp, ?_⟩
          have := mem_deps hp
          simp only [dep] at hd
          show d + 1 - 1 + dep p ≤ 60
          omega
        · exact hst q z) (by omega) (by simp only [lnS_app, lnS_rev, ownL, len] at *; omega)
theorem fits_eq (hD : DOk D) {W : PV} {S : Sto} (hS : DicV W S D) {t : T} (hv : V D t) (h1 : len t ≤ 1500) (h2 : dep t ≤ 60) : m_fits [W, enc t, .bl true] S = .ok (.bl true) S := by
  refine eqn ?_
  unfold m_fits b_fits
  simp! only [isRef_enc]
  have := fits_loop hD hS (a1 := some (enc t)) fuel [(t, 1)] 0 none none none none (by have := hv.sz_le hD; simp only [szS, fuel]; omega) (fun q hq => by rw [List.mem_singleton.mp hq]; exact ⟨hv, by show (1 : Int) - 1 + dep t ≤ 60; omega⟩) (by omega) (by simp only [lnS]; omega)
  refine wp_of this fun fl S' ⟨e1, ρ, e2⟩ => ?_
  subst e1 e2
  simp! only [take_app]
end G04
set_option Elab.async false
set_option maxRecDepth 100000
set_option maxHeartbeats 1000000
set_option linter.all false
namespace G04
open PySem PySem.Spec PyProof.Rows L2 Py
variable {D : List (Str × List Int)}
local macro_rules
  | `(tactic| simp! only [$a,*]) => `(tactic| simp only [wp_ok, wp_no, ↓wp_bind, ↓R.bind_ok, ↓sSeq, ↓sNil, ↓sSet, ↓sAsg, ↓sIf, ↓sRet, ↓sExpr, ↓sPar, ↓sPar3, ↓sFor, ↓nName, ↓nTup, ↓nCons, ↓nNil, ↓nNs, ↓eVar, ↓eC, ↓eOp, ↓eUn, ↓eArgs, ↓eNew, ↓aCons, ↓aNil, ↓tV, ↓tT, toB, truP, ↓tNotE, ↓tAndE, ↓tOrE, ↓tYesE, ↓eAndV, ↓eOrV, ↓eNotV, ↓eNotT, ↓eIf, gAdd_int, gAdd_tup, Py.gSub, gMul_l, gMul_r, gMod, gFdiv, gNeg, gLt, gLe, gGt, gGe, gInt, gIx, gEq_int, gEq_str, gEq_bl, gNe_int, gNe_str, gNe_bl, gIsN, gNotN, getQ, getL, gSetL, ↓nSubL, gDivmod, gMin2, gMax2, ↓mkDef, ↓mkNew, startP, finF, finO, finV_tup, finV_int, finV_bl, finV_lst, finV_non, finV_str, finV_ref, ↓eChain, tyP, gIsi, isiB, ↓iArgs, ↓iSeq, iterP, ↓fComp, wipeP, ↓eSl, ↓oNone, ↓oSome, gSl, ↓eMeth0, ↓eMeth1, ixN, atI0, atI1, atI2, atI3, List.length_cons, List.length_nil, List.map_cons, List.map_nil, List.replicate, List.cons_append, List.nil_append, List.append_nil, List.getElem?_cons_zero, List.getElem?_cons_succ, List.getElem?_nil, List.set_cons_zero, List.set_cons_succ, List.set_nil, List.length_set, List.length_append, Nat.add_sub_cancel, Nat.reduceAdd, Nat.reduceSub, Nat.reduceLT, Nat.reduceEqDiff, Nat.reduceLeDiff, Nat.le_refl, Nat.zero_le, if_true, if_false, ↓reduceIte, decide_eq_true_eq, Bool.false_eq_true, Bool.true_eq_false, Bool.not_true, Bool.not_false, Option.isSome_some, forall_const, not_true_eq_false, not_false_eq_true, imp_self, false_implies, true_implies, implies_true, and_true, true_and, Int.toNat_zero, Nat.zero_add, Int.reduceLE, Int.reduceLT, Int.reduceNeg, Int.reduceToNat, Int.reducePow, Int.reduceGT, Int.cast_ofNat_Int, true_or, or_true, Int.ofNat_eq_natCast, decide_true, decide_false, Int.reduceEq, List.isEmpty_cons, List.isEmpty_nil, eDGet1,  keyP, Option.map_some, Option.map_none, Option.getD_some, Option.isSome_some, reduceCtorEq, and_self,  allPure_nil, allPure_cons, Bool.and_true, Bool.true_and, Bool.false_and, Bool.and_false, Bool.not_eq_true, Bool.not_eq_false, gTupP_nil, gLstP_nil, gTupP_ok, gLstP_ok, isRef_tup, isRef_int, isRef_str, isRef_bl, Bool.or_false, Bool.or_true, Bool.true_or, Bool.false_or, $a,*])

theorem g2a {S : Sto} {a b : PV} : (S ++ [a] ++ [b])[S.length]? = some a := by simp
theorem g2b {S : Sto} {a b : PV} : (S ++ [a] ++ [b])[S.length + 1]? = some b := by simp
theorem s2a {S : Sto} {a b x : PV} : (S ++ [a] ++ [b]).set S.length x = S ++ [x] ++ [b] := by simp
theorem s2b {S : Sto} {a b x : PV} : (S ++ [a] ++ [b]).set (S.length + 1) x = S ++ [a] ++ [x] := by simp
theorem take2 {S : Sto} {a b : PV} : (S ++ [a] ++ [b]).take S.length = S := by simp
theorem compF_gen {α : Type} {g : Eg} {f : Ev} {ρ : Py.Env} {S : Sto} {ι φ : α → PV} : ∀ (xs : List α) (acc : List PV), (∀ x ∈ xs, ∃ ρ1, g (ι x) ρ S = .ok ρ1 S ∧ f ρ1 S = .ok (φ x) S ∧ (φ x).isRef = false) → acc.length + xs.length ≤ 5000 →
    compF g tYesE f ρ (xs.map ι) acc S = .ok (.lst (acc ++ xs.map φ)) S
  | [], acc, _, _ => by simp [compF]
  | p :: ps, acc, h, hl => by
    obtain ⟨ρ1, h0, h1, h2⟩ := h p (by simp)
    have hl' : acc.length < sizeLine := by have := size_1000 (n := acc.length + 1) (by simp at hl; omega); omega
    have h3 : (φ p).isRef = false ∧ acc.length < sizeLine := ⟨h2, hl'⟩
    simp only [List.map_cons, compF, R.bind_ok, tYesE, if_true, h0, h1, if_pos h3]
    have := compF_gen ps (acc ++ [φ p]) (fun q hq => h q (by simp [hq])) (by simp at hl ⊢; omega)
    simpa [tYesE] using this
theorem compF_gen0 {α : Type} {g : Eg} {f : Ev} {ρ : Py.Env} {S : Sto} {ι φ : α → PV} (xs : List α) (h : ∀ x ∈ xs, ∃ ρ1, g (ι x) ρ S = .ok ρ1 S ∧ f ρ1 S = .ok (φ x) S ∧ (φ x).isRef = false) (hl : xs.length ≤ 5000) :
    compF g tYesE f ρ (xs.map ι) [] S = .ok (.lst (xs.map φ)) S := by
  have := compF_gen xs [] h (by simpa using hl)
  simpa using this
abbrev Rw : Type := T × Int × Int × Int
def rwP (q : Rw) : PV := .tup [enc q.1, .int q.2.1, .int q.2.2.1, .int q.2.2.2]
def kids (ps : List T) (ns : List Int) (o d : Int) : List Rw := (ps.zip ns).map fun q => (q.1, q.2, o + q.2, d)
mutual
def rowsT : T → Int → Int → Int → List Rw
  | .lf w xs, m, o, d => [(.lf w xs, m, o, d)]
  | .nd w ns ps, m, o, d => (.nd w ns ps, m, o, d) :: rowss ps ns o (d + 1)
def rowss : List T → List Int → Int → Int → List Rw
  | t :: ts, n :: ns, o, d => rowsT t n (o + n) d ++ rowss ts ns o d
  | _, _, _, _ => []
end
def allS : List Rw → List Rw
  | [] => []
  | q :: st => rowsT q.1 q.2.1 q.2.2.1 q.2.2.2 ++ allS st
theorem allS_kids (o d : Int) (st : List Rw) : ∀ (ps : List T) (ns : List Int), allS (kids ps ns o d ++ st) = rowss ps ns o d ++ allS st
  | [], ns => by simp [kids, rowss]
  | p :: ps, [] => by simp [kids, rowss]
  | p :: ps, n :: ns => by
    have := allS_kids o d st ps ns
    simp only [kids] at this
    simp only [kids, List.zip_cons_cons, List.map_cons, List.cons_append, allS, rowss, this, List.append_assoc]
theorem zip_enc : ∀ (ps : List T) (ns : List Int), zipP (encs ps) (ns.map .int) = (ps.zip ns).map fun q => .tup [enc q.1, .int q.2]
  | [], ns => by simp [encs, zipP]
  | p :: ps, [] => by simp [zipP]
  | p :: ps, n :: ns => by
    rw [encs, List.map_cons, zipP, zip_enc ps ns]; simp
theorem gDIx_D {S : Sto} {W : PV} {w : Str} {ns : List Int} (hS : DicV W S D) (h : dl D w = some ns) : gDIx W (.str w) S = .ok (.tup (ns.map .int)) S := by
  have hS' : getD W S = some (ksD D, vsD D) := hS
  unfold gDIx
  rw [hS']
  simp only [keyP, dgetP_D, h, Option.map_some]
theorem wipe2 {a b : Nat} {ρ : Py.Env} : wipeP ρ [a, b] = (ρ.set b none).set a none := rfl
theorem part_rows_lf (hD : DOk D) {W : PV} {S : Sto} {w : Str} {xs : List Int} {m o d : Int} (h : V D (.lf w xs)) : m_part_rows [W, rwP (.lf w xs, m, o, d)] S = .ok (.lst []) S := by
  refine eqn ?_
  have il := is_leaf_eq hD h
  rw [show rwP (.lf w xs, m, o, d) = .tup [enc (.lf w xs), .int m, .int o, .int d] from rfl]
  unfold m_part_rows b_part_rows
  simp! only [il, isLf, take_self]
theorem part_rows_nd (hD : DOk D) {W : PV} {S : Sto} (hS : DicV W S D) {w : Str} {ns : List Int} {ps : List T} {m o d : Int} (h : V D (.nd w ns ps)) : m_part_rows [W, rwP (.nd w ns ps, m, o, d)] S = .ok (.lst ((kids ps ns o (d + 1)).map rwP)) S := by
  refine eqn ?_
  have il := is_leaf_eq hD h
  cases h with
  | nd h1 h2 h3 =>
  rw [show rwP (.nd w ns ps, m, o, d) = .tup [enc (.nd w ns ps), .int m, .int o, .int d] from rfl]
  unfold m_part_rows b_part_rows
  have e1 : compF (nTup 2 (nCons (nName 6) (nCons (nName 7) nNil))) tYesE (eArgs gTupP (aCons (eVar 6) (aCons (eVar 7) (aCons (eOp gAdd (eVar 4) (eVar 7)) (aCons (eOp gAdd (eVar 5) (eC (.int 1))) aNil))))) [some W, some (.tup [enc (.nd w ns ps), .int m, .int o, .int d]), some (enc (.nd w ns ps)), some (.int m), some (.int o), some (.int d), none, none]
      (zipP (encs ps) (ns.map .int)) [] S = .ok (.lst ((kids ps ns o (d + 1)).map rwP)) S := by
    rw [zip_enc, kids, List.map_map]
    refine compF_gen0 _ (fun q hq => ⟨[some W, some (.tup [enc (.nd w ns ps), .int m, .int o, .int d]), some (enc (.nd w ns ps)), some (.int m), some (.int o), some (.int d), some (enc q.1), some (.int q.2)], ?_, ?_, rfl⟩) (by have := hD.nm _ _ h1; simp; omega)
    · rfl
    · refine eqn ?_
      simp! only [isRef_enc]
      rfl
  rw [enc] at il e1 ⊢
  have gz : gZip [.tup (encs ps), .tup (ns.map .int)] S = .ok (zipP (encs ps) (ns.map .int)) S := rfl
  simp! only [il, isLf, take_self, cut_from1, gDIx_D hS h1, gz, e1, wipe2]
def szR : List Rw → Nat
  | [] => 0
  | q :: st => sz q.1 + szR st
theorem szR_app : ∀ a b : List Rw, szR (a ++ b) = szR a + szR b
  | [], b => by simp [szR]
  | q :: a, b => by simp only [List.cons_append, szR, szR_app a b]; omega
theorem szR_kids (o d : Int) : ∀ (ps : List T) (ns : List Int), szR (kids ps ns o d) ≤ szs ps
  | [], ns => by simp [kids, szR, szs]
  | p :: ps, [] => by simp [kids, szR]
  | p :: ps, n :: ns => by
    have := szR_kids o d ps ns
    simp only [kids] at this
    simp only [kids, List.zip_cons_cons, List.map_cons, szR, szs]; omega
def dueR (st : List Rw) : List PV := (st.map rwP).reverse
theorem dueR_cons {q : Rw} {st : List Rw} : dueR (q :: st) = dueR st ++ [rwP q] := by simp [dueR]
theorem szR_len : ∀ st : List Rw, st.length ≤ szR st
  | [] => by simp [szR]
  | q :: st => by have := szR_len st; have := sz_pos q.1; simp only [szR, List.length_cons]; omega
abbrev nodesB : Es := (sSeq (sSet 4 (eMeth0 gPop (eVar 3))) (sSeq (sExpr (eMeth1 gApp (eVar 2) (eVar 4))) (sExpr (eMeth1 gExt (eVar 3) (eUn gRev (eArgs m_part_rows (aCons (eVar 0) (aCons (eVar 4) aNil))))))))
theorem nodes_loop (hD : DOk D) {W : PV} {S0 : Sto} (hS : DicV W S0 D) {a1 : Option PV} : ∀ (k : Nat) (st : List Rw) (RR : List PV) (x4 : Option PV), szR st < k → (∀ q ∈ st, V D q.1) → RR.length + szR st ≤ 2000 →
    WP (whileF (tT (eVar 3)) nodesB k [some W, a1, some (.ref S0.length), some (.ref (S0.length + 1)), x4] (S0 ++ [.lst RR] ++ [.lst (dueR st)])) fun fl S' => S' = S0 ++ [.lst (RR ++ (allS st).map rwP)] ++ [.lst []] ∧ ∃ x4, fl = .nx [some W, a1, some (.ref S0.length), some (.ref (S0.length + 1)), x4]
  | 0, st, RR, _, h, _, _ => by omega
  | k + 1, [], RR, x4, h, h2, h3 => by
    rw [whileF]
    simp! only [g2b, dueR, List.reverse_nil, allS]
    exact ⟨_, rfl⟩
  | k + 1, (t, m, o, d) :: st, RR, x4, h, h2, h3 => by
    have hv : V D t := h2 (t, m, o, d) (by simp)
    have hst : ∀ q ∈ st, V D q.1 := fun q hq => h2 q (by simp [hq])
    have hsp := sz_pos t
    have hsl := szR_len st
    simp only [szR] at h h3
    have ne : (dueR st ++ [rwP (t, m, o, d)]).isEmpty = false := by simp
    have e0 : gPop (.ref (S0.length + 1)) (S0 ++ [.lst RR] ++ [.lst (dueR st ++ [rwP (t, m, o, d)])]) = .ok (rwP (t, m, o, d)) (S0 ++ [.lst RR] ++ [.lst (dueR st)]) := by rw [gPop_eq g2b, s2b]
    have e1 : gApp (.ref S0.length) (rwP (t, m, o, d)) (S0 ++ [.lst RR] ++ [.lst (dueR st)]) = .ok .non (S0 ++ [.lst (RR ++ [rwP (t, m, o, d)])] ++ [.lst (dueR st)]) := by rw [gApp_eq g2a rfl (by omega), s2a]
    have main : ∀ kd : List Rw, m_part_rows [W, rwP (t, m, o, d)] (S0 ++ [.lst (RR ++ [rwP (t, m, o, d)])] ++ [.lst (dueR st)]) = .ok (.lst (kd.map rwP)) (S0 ++ [.lst (RR ++ [rwP (t, m, o, d)])] ++ [.lst (dueR st)]) → szR kd + 1 ≤ sz t → (∀ q ∈ kd, V D q.1) → rowsT t m o d ++ allS st = (t, m, o, d) :: allS (kd ++ st) →
        WP (whileF (tT (eVar 3)) nodesB (k + 1) [some W, a1, some (.ref S0.length), some (.ref (S0.length + 1)), x4] (S0 ++ [.lst RR] ++ [.lst (dueR ((t, m, o, d) :: st))])) fun fl S' => S' = S0 ++ [.lst (RR ++ (allS ((t, m, o, d) :: st)).map rwP)] ++ [.lst []] ∧ ∃ x4, fl = .nx [some W, a1, some (.ref S0.length), some (.ref (S0.length + 1)), x4] := by
      intro kd hp hk1 hk2 hk3
      have hkl := szR_len kd
      have e2 : gExt (.ref (S0.length + 1)) (.lst (kd.map rwP).reverse) (S0 ++ [.lst (RR ++ [rwP (t, m, o, d)])] ++ [.lst (dueR st)]) = .ok .non (S0 ++ [.lst (RR ++ [rwP (t, m, o, d)])] ++ [.lst (dueR (kd ++ st))]) := by
        rw [gExt_eq g2b (by simp [dueR]; omega), s2b]
        simp [dueR]
      rw [whileF, dueR_cons]
      simp! only [g2a, g2b, isLst_of g2a, isLst_of g2b, ne, e0, e1, hp, gRev, e2]
      refine wp_of (nodes_loop hD hS k (kd ++ st) (RR ++ [rwP (t, m, o, d)]) _ (by rw [szR_app]; omega) (fun q hq => by
        rcases List.mem_append.mp hq with z | z
        · exact hk2 q z
        · exact hst q z) (by simp only [szR_app, List.length_append, List.length_cons, List.length_nil]; omega)) fun fl S' hh => ?_
      refine ⟨?_, hh.2⟩
      rw [hh.1]
      show _ = S0 ++ [PV.lst (RR ++ (rowsT t m o d ++ allS st).map rwP)] ++ [.lst []]
      rw [hk3]; simp
    cases hv with
    | @lf w xs hl =>
      exact main [] (part_rows_lf hD (.lf hl)) (by simp [szR, sz]) (fun q hq => by cases hq) (by simp [rowsT])
    | @nd w ns ps h1 h5 h6 =>
      refine main (kids ps ns o (d + 1)) (part_rows_nd hD ?_ (.nd h1 h5 h6)) (by have := szR_kids o (d + 1) ps ns; simp only [sz]; omega) (fun q hq => ?_) (by rw [allS_kids]; simp [rowsT])
      · exact (hS.app).app
      · obtain ⟨z, hz, rfl⟩ := List.mem_map.mp hq
        exact h6 _ (List.of_mem_zip hz).1
theorem nodes_eq (hD : DOk D) {W : PV} {S : Sto} (hS : DicV W S D) {t : T} (hv : V D t) (h1 : len t ≤ 1500) : m_nodes [W, enc t] S = .ok (.lst ((rowsT t 0 0 1).map rwP)) S := by
  have hz := hv.sz_le hD
  refine eqn ?_
  unfold m_nodes b_nodes
  simp! only [isRef_enc]
  have := nodes_loop hD hS (a1 := some (enc t)) fuel [(t, 0, 0, 1)] [] none (by simp only [szR, fuel]; omega) (fun q hq => by rw [List.mem_singleton.mp hq]; exact hv) (by simp only [szR, List.length_nil]; omega)
  refine wp_of this fun fl S' ⟨e1, x4, e2⟩ => ?_
  subst e1 e2
  have nl : ¬ S.length < S.length := by omega
  simp! only [nl, g2a, take2, allS]
end G04
set_option Elab.async false
set_option maxRecDepth 100000
set_option maxHeartbeats 1000000
set_option linter.all false
namespace G04
open PySem PySem.Spec PyProof.Rows L2 Py
variable {D : List (Str × List Int)}
local macro_rules
  | `(tactic| simp! only [$a,*]) => `(tactic| simp only [wp_ok, wp_no, ↓wp_bind, ↓R.bind_ok, ↓sSeq, ↓sNil, ↓sSet, ↓sAsg, ↓sIf, ↓sRet, ↓sExpr, ↓sPar, ↓sPar3, ↓sFor, ↓nName, ↓nTup, ↓nCons, ↓nNil, ↓nNs, ↓eVar, ↓eC, ↓eOp, ↓eUn, ↓eArgs, ↓eNew, ↓aCons, ↓aNil, ↓tV, ↓tT, toB, truP, ↓tNotE, ↓tAndE, ↓tOrE, ↓tYesE, ↓eAndV, ↓eOrV, ↓eNotV, ↓eNotT, ↓eIf, gAdd_int, gAdd_tup, Py.gSub, gMul_l, gMul_r, gMod, gFdiv, gNeg, gLt, gLe, gGt, gGe, gInt, gIx, gEq_int, gEq_str, gEq_bl, gNe_int, gNe_str, gNe_bl, gIsN, gNotN, getQ, getL, gSetL, ↓nSubL, gDivmod, gMin2, gMax2, ↓mkDef, ↓mkNew, startP, finF, finO, finV_tup, finV_int, finV_bl, finV_lst, finV_non, finV_str, finV_ref, ↓eChain, tyP, gIsi, isiB, ↓iArgs, ↓iSeq, iterP, ↓fComp, wipeP, ↓eSl, ↓oNone, ↓oSome, gSl, ↓eMeth0, ↓eMeth1, ixN, atI0, atI1, atI2, atI3, List.length_cons, List.length_nil, List.map_cons, List.map_nil, List.replicate, List.cons_append, List.nil_append, List.append_nil, List.getElem?_cons_zero, List.getElem?_cons_succ, List.getElem?_nil, List.set_cons_zero, List.set_cons_succ, List.set_nil, List.length_set, List.length_append, Nat.add_sub_cancel, Nat.reduceAdd, Nat.reduceSub, Nat.reduceLT, Nat.reduceEqDiff, Nat.reduceLeDiff, Nat.le_refl, Nat.zero_le, if_true, if_false, ↓reduceIte, decide_eq_true_eq, Bool.false_eq_true, Bool.true_eq_false, Bool.not_true, Bool.not_false, Option.isSome_some, forall_const, not_true_eq_false, not_false_eq_true, imp_self, false_implies, true_implies, implies_true, and_true, true_and, Int.toNat_zero, Nat.zero_add, Int.reduceLE, Int.reduceLT, Int.reduceNeg, Int.reduceToNat, Int.reducePow, Int.reduceGT, Int.cast_ofNat_Int, true_or, or_true, Int.ofNat_eq_natCast, decide_true, decide_false, Int.reduceEq, List.isEmpty_cons, List.isEmpty_nil, eDGet1,  keyP, Option.map_some, Option.map_none, Option.getD_some, Option.isSome_some, reduceCtorEq, and_self,  allPure_nil, allPure_cons, Bool.and_true, Bool.true_and, Bool.false_and, Bool.and_false, Bool.not_eq_true, Bool.not_eq_false, gTupP_nil, gLstP_nil, gTupP_ok, gLstP_ok, isRef_tup, isRef_int, isRef_str, isRef_bl, Bool.or_false, Bool.or_true, Bool.true_or, Bool.false_or, $a,*])

theorem sum_rowss : ∀ (ps : List T) (ns : List Int) (o d : Int), ps.length = ns.length → (∀ p ∈ ps, ∀ m o d : Int, ((rowsT p m o d).map fun q : Rw => 1 + q.2.1).sum = m + len p) → ((rowss ps ns o d).map fun q : Rw => 1 + q.2.1).sum = ns.sum + lens ps
  | [], [], o, d, h, _ => by simp [rowss, lens]
  | p :: ps, n :: ns, o, d, h, ih => by
    have h1 := sum_rowss ps ns o d (by simpa using h) fun q hq => ih q (by simp [hq])
    have h2 := ih p (by simp) n (o + n) d
    simp only [rowss, List.map_append, List.sum_append, h1, h2, lens, List.sum_cons]; omega
  | [], _ :: _, _, _, h, _ => by simp at h
  | _ :: _, [], _, _, h, _ => by simp at h
theorem sum_rows {t : T} (h : V D t) : ∀ m o d : Int, ((rowsT t m o d).map fun q : Rw => 1 + q.2.1).sum = m + len t := by
  induction h with
  | lf _ => intro m o d; simp [rowsT, len]; omega
  | @nd w ns ps h1 h2 h3 ih =>
    intro m o d
    have := sum_rowss ps ns o (d + 1) h2 ih
    simp only [rowsT, List.map_cons, List.sum_cons, this, len]; omega
theorem dep_rowss : ∀ (ps : List T) (ns : List Int) (o d : Int), (∀ p ∈ ps, ∀ m o d : Int, ∀ q ∈ rowsT p m o d, q.2.2.2 ≤ d - 1 + dep p) → ∀ q ∈ rowss ps ns o d, q.2.2.2 ≤ d - 1 + deps ps
  | [], _, o, d, _, q, hq => by simp [rowss] at hq
  | p :: ps, [], o, d, _, q, hq => by simp [rowss] at hq
  | p :: ps, n :: ns, o, d, ih, q, hq => by
    rw [rowss] at hq
    rcases List.mem_append.mp hq with z | z
    · have := ih p (by simp) n (o + n) d q z
      simp only [deps]; omega
    · have := dep_rowss ps ns o d (fun q hq => ih q (by simp [hq])) q z
      simp only [deps]; omega
theorem dep_rows {t : T} (h : V D t) : ∀ m o d : Int, ∀ q ∈ rowsT t m o d, q.2.2.2 ≤ d - 1 + dep t := by
  induction h with
  | lf _ =>
    intro m o d q hq
    simp only [rowsT, List.mem_singleton] at hq
    subst hq; simp [dep]
  | @nd w ns ps h1 h2 h3 ih =>
    intro m o d q hq
    rw [rowsT] at hq
    rcases List.mem_cons.mp hq with z | z
    · subst z; have := deps_nn ps; simp only [dep]; omega
    · have := dep_rowss ps ns o (d + 1) ih q z
      simp only [dep]; omega
theorem len_rowss : ∀ (ps : List T) (ns : List Int) (o d : Int), (∀ p ∈ ps, ∀ m o d : Int, (rowsT p m o d).length = sz p) → (rowss ps ns o d).length ≤ szs ps
  | [], _, o, d, _ => by simp [rowss]
  | p :: ps, [], o, d, _ => by simp [rowss]
  | p :: ps, n :: ns, o, d, ih => by
    have h1 := len_rowss ps ns o d fun q hq => ih q (by simp [hq])
    have h2 := ih p (by simp) n (o + n) d
    simp only [rowss, List.length_append, szs]; omega
theorem len_rowss' : ∀ (ps : List T) (ns : List Int) (o d : Int), ps.length = ns.length → (∀ p ∈ ps, ∀ m o d : Int, (rowsT p m o d).length = sz p) → (rowss ps ns o d).length = szs ps
  | [], [], o, d, h, _ => by simp [rowss, szs]
  | p :: ps, n :: ns, o, d, h, ih => by
    have h1 := len_rowss' ps ns o d (by simpa using h) fun q hq => ih q (by simp [hq])
    have h2 := ih p (by simp) n (o + n) d
    simp only [rowss, List.length_append, szs]; omega
  | [], _ :: _, _, _, h, _ => by simp at h
  | _ :: _, [], _, _, h, _ => by simp at h
theorem len_rows {t : T} (h : V D t) : ∀ m o d : Int, (rowsT t m o d).length = sz t := by
  induction h with
  | lf _ => intro m o d; simp [rowsT, sz]
  | @nd w ns ps h1 h2 h3 ih =>
    intro m o d
    have := len_rowss' ps ns o (d + 1) h2 ih
    simp only [rowsT, List.length_cons, this, sz]; omega
theorem length_in_eq (hD : DOk D) {W : PV} {S : Sto} (hS : DicV W S D) {t : T} (hv : V D t) (h1 : len t ≤ 1500) : m_length_in [W, enc t] S = .ok (.int (len t)) S := by
  have nd := nodes_eq hD hS hv h1
  have hz := hv.sz_le hD
  have e1 : compF (nName 2) tYesE (eOp gAdd (eC (.int 1)) (eOp gIx (eVar 2) (eC (.int 1)))) [some W, some (enc t), none] ((rowsT t 0 0 1).map rwP) [] S = .ok (.lst ((rowsT t 0 0 1).map fun q => .int (1 + q.2.1))) S := by
    refine compF_gen0 _ (fun q hq => ⟨[some W, some (enc t), some (rwP q)], rfl, ?_, rfl⟩) (by rw [len_rows hv]; omega)
    refine eqn ?_
    simp! only [rwP]
  have e2 : gSumA [.lst ((rowsT t 0 0 1).map fun q => .int (1 + q.2.1))] S = .ok (.int (len t)) S := by
    have := gSumA_lst (ns := (rowsT t 0 0 1).map fun q => 1 + q.2.1) (S := S) (by simp [len_rows hv]; omega)
    rw [List.map_map, sum_rows hv] at this
    rw [show (len t) = 0 + len t by omega]
    exact this
  refine eqn ?_
  unfold m_length_in b_length_in
  simp! only [nd, e1, e2, take_self]
theorem maxI_le {m : Int} : ∀ {l : List Int}, (∀ x ∈ l, x ≤ m) → l ≠ [] → maxI l ≤ m
  | [], _, hl => absurd rfl hl
  | [x], h, _ => h x (by simp)
  | x :: y :: r, h, _ => by
    have h1 := h x (by simp)
    have h2 := maxI_le (l := y :: r) (fun z hz => h z (by simp [hz])) (by simp)
    rw [maxI]; omega
theorem rows_ne (t : T) (m o d : Int) : rowsT t m o d ≠ [] := by cases t <;> simp [rowsT]
/-! ### places -/
theorem atI_s1 {α : Type} {a : α} {l : List α} {i : Int} (h : 0 ≤ i) : atI (a :: l) (1 + i) = l[i.toNat]? := by
  rw [show (1 : Int) + i = ((i.toNat + 1 : Nat) : Int) by omega, atI_nat]; simp
theorem atI_s2 {α : Type} {a : α} {l : List α} {i : Int} (h : 0 ≤ i) : atI (a :: l) (i + 1) = l[i.toNat]? := by
  rw [Int.add_comm]; exact atI_s1 h
theorem encs_get {ps : List T} {i : Nat} {p : T} (h : ps[i]? = some p) : (encs ps)[i]? = some (enc p) := by rw [encs_map]; simp [h]
theorem encs_len (ps : List T) : (encs ps).length = ps.length := by rw [encs_map]; simp
end G04
set_option Elab.async false
set_option maxRecDepth 100000
set_option maxHeartbeats 1000000
set_option linter.all false
namespace G04
open PySem PySem.Spec PyProof.Rows L2 Py
variable {D : List (Str × List Int)}
local macro_rules
  | `(tactic| simp! only [$a,*]) => `(tactic| simp only [wp_ok, wp_no, ↓wp_bind, ↓R.bind_ok, ↓sSeq, ↓sNil, ↓sSet, ↓sAsg, ↓sIf, ↓sRet, ↓sExpr, ↓sPar, ↓sPar3, ↓sFor, ↓nName, ↓nTup, ↓nCons, ↓nNil, ↓nNs, ↓eVar, ↓eC, ↓eOp, ↓eUn, ↓eArgs, ↓eNew, ↓aCons, ↓aNil, ↓tV, ↓tT, toB, truP, ↓tNotE, ↓tAndE, ↓tOrE, ↓tYesE, ↓eAndV, ↓eOrV, ↓eNotV, ↓eNotT, ↓eIf, gAdd_int, gAdd_tup, Py.gSub, gMul_l, gMul_r, gMod, gFdiv, gNeg, gLt, gLe, gGt, gGe, gInt, gIx, gEq_int, gEq_str, gEq_bl, gNe_int, gNe_str, gNe_bl, gIsN, gNotN, getQ, getL, gSetL, ↓nSubL, gDivmod, gMin2, gMax2, ↓mkDef, ↓mkNew, startP, finF, finO, finV_tup, finV_int, finV_bl, finV_lst, finV_non, finV_str, finV_ref, ↓eChain, tyP, gIsi, isiB, ↓iArgs, ↓iSeq, iterP, ↓fComp, wipeP, ↓eSl, ↓oNone, ↓oSome, gSl, ↓eMeth0, ↓eMeth1, ixN, atI0, atI1, atI2, atI3, List.length_cons, List.length_nil, List.map_cons, List.map_nil, List.replicate, List.cons_append, List.nil_append, List.append_nil, List.getElem?_cons_zero, List.getElem?_cons_succ, List.getElem?_nil, List.set_cons_zero, List.set_cons_succ, List.set_nil, List.length_set, List.length_append, Nat.add_sub_cancel, Nat.reduceAdd, Nat.reduceSub, Nat.reduceLT, Nat.reduceEqDiff, Nat.reduceLeDiff, Nat.le_refl, Nat.zero_le, if_true, if_false, ↓reduceIte, decide_eq_true_eq, Bool.false_eq_true, Bool.true_eq_false, Bool.not_true, Bool.not_false, Option.isSome_some, forall_const, not_true_eq_false, not_false_eq_true, imp_self, false_implies, true_implies, implies_true, and_true, true_and, Int.toNat_zero, Nat.zero_add, Int.reduceLE, Int.reduceLT, Int.reduceNeg, Int.reduceToNat, Int.reducePow, Int.reduceGT, Int.cast_ofNat_Int, true_or, or_true, Int.ofNat_eq_natCast, decide_true, decide_false, Int.reduceEq, List.isEmpty_cons, List.isEmpty_nil, eDGet1,  keyP, Option.map_some, Option.map_none, Option.getD_some, Option.isSome_some, reduceCtorEq, and_self,  allPure_nil, allPure_cons, Bool.and_true, Bool.true_and, Bool.false_and, Bool.and_false, Bool.not_eq_true, Bool.not_eq_false, gTupP_nil, gLstP_nil, gTupP_ok, gLstP_ok, isRef_tup, isRef_int, isRef_str, isRef_bl, Bool.or_false, Bool.or_true, Bool.true_or, Bool.false_or, $a,*])

/-! ### a part put at a place -/
theorem cut_to {a : PV} {l : List PV} {i : Int} (h : 0 ≤ i) (h2 : i.toNat < l.length) : cutP (a :: l) none (some (1 + i)) = a :: l.take i.toNat := by
  unfold cutP
  have e : HT.sIx (a :: l).length (a :: l).length (some (1 + i)) = i.toNat + 1 := by
    have : (1 : Int) + i = ((i.toNat + 1 : Nat) : Int) := by omega
    rw [this, HT.sIx_nat]; simp; omega
  rw [e, HT.sIx_none]; simp
theorem cut_after {a : PV} {l : List PV} {i : Int} (h : 0 ≤ i) (h2 : i.toNat < l.length) : cutP (a :: l) (some (1 + i + 1)) none = l.drop (i.toNat + 1) := by
  unfold cutP
  have e : HT.sIx (a :: l).length 0 (some (1 + i + 1)) = i.toNat + 2 := by
    have : (1 : Int) + i + 1 = ((i.toNat + 2 : Nat) : Int) := by omega
    rw [this, HT.sIx_nat]; simp; omega
  rw [e, HT.sIx_none]; simp
  exact List.take_of_length_le (by simp)
theorem encs_set {ps : List T} {i : Nat} {q : T} : encs (ps.set i q) = (encs ps).set i (enc q) := by
  rw [encs_map, encs_map, List.map_set]
theorem join_set {a x : PV} {l : List PV} {i : Nat} (h : i < l.length) : a :: l.take i ++ [x] ++ l.drop (i + 1) = a :: l.set i x := by
  rw [List.set_eq_take_append_cons_drop, if_pos h]; simp
theorem cut_to2 {a : PV} {l : List PV} {i : Int} (h : 0 ≤ i) (h2 : i.toNat < l.length) : cutP (a :: l) none (some (i + 1)) = a :: l.take i.toNat := by
  rw [Int.add_comm]; exact cut_to h h2
theorem cut_after2 {a : PV} {l : List PV} {i : Int} (h : 0 ≤ i) (h2 : i.toNat < l.length) : cutP (a :: l) (some (i + 1 + 1)) none = l.drop (i.toNat + 1) := by
  rw [Int.add_comm i 1]; exact cut_after h h2
theorem gEq_tt {xs ys : List PV} {S : Sto} : gEq (.tup xs) (.tup ys) S = if SeqAt.shaped (toD (.tup xs)) = true ∧ SeqAt.shaped (toD (.tup ys)) = true then .ok (.bl (PyData.eqv (toD (.tup xs)) (toD (.tup ys)))) S else .no := rfl
theorem lay_ints : ∀ ns : List Int, PyData.canLayAll0 (toDs (ns.map .int)) = true ∧ PyData.depthAll (toDs (ns.map .int)) = 0
  | [] => ⟨rfl, rfl⟩
  | n :: ns => by
    obtain ⟨h1, h2⟩ := lay_ints ns
    simp [toDs, toD, PyData.canLayAll0, PyData.canLay0, PyData.depthAll, PyData.depth, h1, h2]
theorem sh_tup (ns : List Int) : SeqAt.shaped (toD (.tup (ns.map .int))) = true := by
  obtain ⟨h1, h2⟩ := lay_ints ns
  simp [SeqAt.shaped, toD, PyData.canLay0, PyData.depth, h1, h2]
theorem sh_lst (ns : List Int) : SeqAt.shaped (toD (.lst (ns.map .int))) = true := by
  obtain ⟨h1, h2⟩ := lay_ints ns
  simp [SeqAt.shaped, toD, PyData.canLay0, PyData.depth, h1, h2]
theorem eqv_ints : ∀ ns : List Int, PyData.eqvAll (toDs (ns.map .int)) (toDs (ns.map .int)) = true
  | [] => by simp [toDs, PyData.eqvAll]
  | n :: ns => by simp [toDs, toD, PyData.eqvAll, PyData.eqv, eqv_ints ns]
theorem gEq_e {S : Sto} : gEq (.tup []) (.tup []) S = .ok (.bl true) S := by
  rw [gEq_tt, if_pos ⟨sh_tup [], sh_tup []⟩]
  have := eqv_ints []
  simp only [List.map_nil] at this
  simp [toD, PyData.eqv, this]
theorem gEq_ne {i : Int} {pl : List Int} {S : Sto} : gEq (.tup (.int i :: pl.map .int)) (.tup []) S = .ok (.bl false) S := by
  rw [gEq_tt, if_pos ⟨sh_tup (i :: pl), sh_tup []⟩]
  simp [toD, toDs, PyData.eqv, PyData.eqvAll]
theorem law_replaced_eq (hD : DOk D) {S : Sto} {u : T} : ∀ (pl : List Int) (k : Nat) (t s : T), pl.length < k → V D t → sub pl t = some s → m__law_replaced k [enc t, .tup (pl.map .int), enc u] S = .ok (enc (rp pl t u)) S
  | pl, 0, t, s, h, _, _ => by omega
  | [], k + 1, t, s, h, hv, e => by
    refine eqn ?_
    rw [m__law_replaced]
    unfold b__law_replaced
    simp! only [finV_enc, take_self, rp, gEq_e]
  | i :: pl, k + 1, t, s, h, hv, e => by
    obtain ⟨w, ns, ps, p, rfl, h0, e1, e2⟩ := sub_cons e
    cases hv with
    | nd h1 h2 h3 =>
    have hp := getE e1
    have hq : i.toNat < (encs ps).length := by rw [encs_len]; exact hp.1
    have nm := hD.nm _ _ h1
    have ih := law_replaced_eq hD (S := S) (u := u) pl k p s (by simp at h; omega) (h3 p hp.2) e2
    have a1 := atI_s2 (a := PV.str w) (l := encs ps) h0
    rw [encs_get e1] at a1
    have j := join_set (a := PV.str w) (x := enc (rp pl p u)) hq
    have c1 := cut_to2 (a := PV.str w) h0 hq
    have c2 := cut_after2 (a := PV.str w) h0 hq
    have c3 : cutP (PV.int i :: pl.map .int) (some 1) none = pl.map .int := cut_from1
    have g1 : gAdd (.tup (PV.str w :: (encs ps).take i.toNat)) (.tup [enc (rp pl p u)]) S = .ok (.tup (PV.str w :: (encs ps).take i.toNat ++ [enc (rp pl p u)])) S := gAdd_tup (by have := encs_len ps; simp; omega)
    have g2 : gAdd (.tup (PV.str w :: (encs ps).take i.toNat ++ [enc (rp pl p u)])) (.tup ((encs ps).drop (i.toNat + 1))) S = .ok (.tup (PV.str w :: (encs ps).set i.toNat (enc (rp pl p u)))) S := by
      rw [gAdd_tup (by have := encs_len ps; simp; omega), j]
    simp only [List.cons_append] at g1 g2
    refine eqn ?_
    rw [rp_nd e1, m__law_replaced, enc, enc, encs_set]
    unfold b__law_replaced
    simp! only [finV_enc, take_self, c1, c2, c3, a1, ih, isRef_enc, g1, g2, gEq_ne]

/-! ### the checks -/
theorem check_pattern_eq (hD : DOk D) {W : PV} {S : Sto} (hS : DicV W S D) {t : T} (hv : V D t) (h1 : len t ≤ 1500) (h2 : dep t ≤ 60) : m_check_pattern [W, enc t] S = .ok .non S := by
  have f := fits_eq hD hS hv h1 h2
  refine eqn ?_
  unfold m_check_pattern b_check_pattern
  simp! only [f, take_self]
end G04
set_option Elab.async false
set_option maxRecDepth 100000
set_option maxHeartbeats 1000000
set_option linter.all false
namespace G04
open PySem PySem.Spec PyProof.Rows L2 Py
variable {D : List (Str × List Int)}
local macro_rules
  | `(tactic| simp! only [$a,*]) => `(tactic| simp only [wp_ok, wp_no, ↓wp_bind, ↓R.bind_ok, ↓sSeq, ↓sNil, ↓sSet, ↓sAsg, ↓sIf, ↓sRet, ↓sExpr, ↓sPar, ↓sPar3, ↓sFor, ↓nName, ↓nTup, ↓nCons, ↓nNil, ↓nNs, ↓eVar, ↓eC, ↓eOp, ↓eUn, ↓eArgs, ↓eNew, ↓aCons, ↓aNil, ↓tV, ↓tT, toB, truP, ↓tNotE, ↓tAndE, ↓tOrE, ↓tYesE, ↓eAndV, ↓eOrV, ↓eNotV, ↓eNotT, ↓eIf, gAdd_int, gAdd_tup, Py.gSub, gMul_l, gMul_r, gMod, gFdiv, gNeg, gLt, gLe, gGt, gGe, gInt, gIx, gEq_int, gEq_str, gEq_bl, gNe_int, gNe_str, gNe_bl, gIsN, gNotN, getQ, getL, gSetL, ↓nSubL, gDivmod, gMin2, gMax2, ↓mkDef, ↓mkNew, startP, finF, finO, finV_tup, finV_int, finV_bl, finV_lst, finV_non, finV_str, finV_ref, ↓eChain, tyP, gIsi, isiB, ↓iArgs, ↓iSeq, iterP, ↓fComp, wipeP, ↓eSl, ↓oNone, ↓oSome, gSl, ↓eMeth0, ↓eMeth1, ixN, atI0, atI1, atI2, atI3, List.length_cons, List.length_nil, List.map_cons, List.map_nil, List.replicate, List.cons_append, List.nil_append, List.append_nil, List.getElem?_cons_zero, List.getElem?_cons_succ, List.getElem?_nil, List.set_cons_zero, List.set_cons_succ, List.set_nil, List.length_set, List.length_append, Nat.add_sub_cancel, Nat.reduceAdd, Nat.reduceSub, Nat.reduceLT, Nat.reduceEqDiff, Nat.reduceLeDiff, Nat.le_refl, Nat.zero_le, if_true, if_false, ↓reduceIte, decide_eq_true_eq, Bool.false_eq_true, Bool.true_eq_false, Bool.not_true, Bool.not_false, Option.isSome_some, forall_const, not_true_eq_false, not_false_eq_true, imp_self, false_implies, true_implies, implies_true, and_true, true_and, Int.toNat_zero, Nat.zero_add, Int.reduceLE, Int.reduceLT, Int.reduceNeg, Int.reduceToNat, Int.reducePow, Int.reduceGT, Int.cast_ofNat_Int, true_or, or_true, Int.ofNat_eq_natCast, decide_true, decide_false, Int.reduceEq, List.isEmpty_cons, List.isEmpty_nil, eDGet1,  keyP, Option.map_some, Option.map_none, Option.getD_some, Option.isSome_some, reduceCtorEq, and_self,  allPure_nil, allPure_cons, Bool.and_true, Bool.true_and, Bool.false_and, Bool.and_false, Bool.not_eq_true, Bool.not_eq_false, gTupP_nil, gLstP_nil, gTupP_ok, gLstP_ok, isRef_tup, isRef_int, isRef_str, isRef_bl, Bool.or_false, Bool.or_true, Bool.true_or, Bool.false_or, $a,*])
local instance : CT := ⟨fun _ => ⟨.Pass ⟨0, 0, 0, 0⟩, "", []⟩, []⟩

/-! ### leaves among the rows -/
abbrev Ld : Type := Int × Str × List Int
def lfR (q : Rw) : Option Ld := match q.1 with
  | .lf w xs => some (q.2.2.1, w, xs)
  | .nd _ _ _ => none
mutual
theorem rows_lv : ∀ (t : T) (m o d : Int), (rowsT t m o d).filterMap lfR = (lv t o).map fun q : Lv => q.2
  | .lf w xs, m, o, d => by simp [rowsT, lv, lfR]
  | .nd w ns ps, m, o, d => by
    rw [rowsT, lv, List.filterMap_cons, ← rowss_lvs ps ns 0 o (d + 1)]; rfl
theorem rowss_lvs : ∀ (ps : List T) (ns : List Int) (i : Nat) (o d : Int), (rowss ps ns o d).filterMap lfR = (lvs ps ns i o).map fun q : Lv => q.2
  | [], ns, i, o, d => by simp [rowss, lvs]
  | p :: ps, [], i, o, d => by simp [rowss, lvs]
  | p :: ps, n :: ns, i, o, d => by
    rw [rowss, lvs, List.filterMap_append, rows_lv p n (o + n) d, rowss_lvs ps ns (i + 1) o d]
    simp [Function.comp_def]
end
def ToldL (q : Ld) : Prop := (q.2.1 = "number" ∧ True) ∨ (q.2.1 = "name" ∧ ∃ i, q.2.2 = [i] ∧ i < q.1) ∨ (q.2.1 = "hole" ∧ ∃ j ks, q.2.2 = j :: ks ∧ ks.length ≤ 100 ∧ ∀ k ∈ ks, k < q.1)
theorem ne_na : (("number" : Str) = "at") = False := by simp; decide +kernel
theorem ne_nm : (("number" : Str) = "name") = False := by simp; decide +kernel
theorem ne_ma : (("name" : Str) = "at") = False := by simp; decide +kernel
theorem ne_ha : (("hole" : Str) = "at") = False := by simp; decide +kernel
theorem ne_hm : (("hole" : Str) = "name") = False := by simp; decide +kernel
theorem ne_hn : (("hole" : Str) = "number") = False := by simp; decide +kernel
theorem told_eq (hD : DOk D) {S : Sto} {t : T} {m o d : Int} (hv : V D t) (h : ∀ q, lfR (t, m, o, d) = some q → ToldL q) : m_is_told_inside [enc t, .int o] S = .ok (.bl true) S := by
  refine eqn ?_
  unfold m_is_told_inside b_is_told_inside
  cases hv with
  | @lf w xs hl =>
    rcases h (o, w, xs) rfl with ⟨e, _⟩ | ⟨e, i, e2, e3⟩ | ⟨e, j, ks, e2, hl2, e3⟩
    · replace e : w = "number" := e
      subst e
      rw [enc]
      simp! only [ne_na, ne_nm, ne_nh, take_self]
    · replace e : w = "name" := e
      replace e2 : xs = [i] := e2
      replace e3 : i < o := e3
      subst e e2
      rw [enc]
      simp! only [ne_ma, e3, take_self]
    · replace e : w = "hole" := e
      replace e2 : xs = j :: ks := e2
      replace e3 : ∀ k ∈ ks, k < o := e3
      subst e e2
      have e : compF (nName 2) tYesE (eOp gLt (eVar 2) (eVar 1)) [some (.tup (.str "hole" :: .int j :: ks.map .int)), some (.int o), none] (ks.map .int) [] S = .ok (.lst ((ks.map PV.int).map fun _ => .bl true)) S := by
        refine compF_map0 (φ := fun _ => PV.bl true) _ (fun p hp => ?_) (by simp; omega)
        obtain ⟨k, hk2, rfl⟩ := List.mem_map.mp hp
        have := e3 k hk2
        refine ⟨eqn ?_, rfl⟩
        simp! only [this]
      rw [enc]
      simp! only [ne_ha, ne_hm, cut_from2, e, gAll_true, take_self]
  | @nd w ns ps h1 h2 h3 =>
    have hw := hD.lw _ _ h1
    have a1 : (w = "at") = False := by simp only [LW, List.mem_cons, not_or] at hw; simp [hw]
    have a2 : (w = "name") = False := by simp only [LW, List.mem_cons, not_or] at hw; simp [hw]
    have a3 : (w = "hole") = False := by simp only [LW, List.mem_cons, not_or] at hw; simp [hw]
    rw [enc]
    simp! only [a1, a2, a3, take_self]
/-- a comprehension with a filter -/
theorem compF_fil {α : Type} {g : Eg} {tt : Et} {f : Ev} {ρ : Py.Env} {S : Sto} {ι φ : α → PV} {β : α → Bool} : ∀ (xs : List α) (acc : List PV), (∀ x ∈ xs, ∃ ρ1, g (ι x) ρ S = .ok ρ1 S ∧ tt ρ1 S = .ok (β x) S ∧ (β x = true → f ρ1 S = .ok (φ x) S ∧ (φ x).isRef = false)) → acc.length + xs.length ≤ 5000 →
    compF g tt f ρ (xs.map ι) acc S = .ok (.lst (acc ++ (xs.filter β).map φ)) S
  | [], acc, _, _ => by simp [compF]
  | p :: ps, acc, h, hl => by
    obtain ⟨ρ1, h0, ht, h1⟩ := h p (by simp)
    have hl' : acc.length < sizeLine := by have := size_1000 (n := acc.length + 1) (by simp at hl; omega); omega
    cases hb : β p with
    | true =>
      obtain ⟨h1, h2⟩ := h1 hb
      have h3 : (φ p).isRef = false ∧ acc.length < sizeLine := ⟨h2, hl'⟩
      simp only [List.map_cons, compF, R.bind_ok, if_true, h0, ht, hb, h1, if_pos h3]
      have := compF_fil ps (acc ++ [φ p]) (fun q hq => h q (by simp [hq])) (by simp at hl ⊢; omega)
      simpa [hb] using this
    | false =>
      simp only [List.map_cons, compF, R.bind_ok, h0, ht, hb, Bool.false_eq_true, if_false]
      have := compF_fil ps acc (fun q hq => h q (by simp [hq])) (by simp at hl ⊢; omega)
      simpa [hb] using this
/-- the holes among leaves: number and names -/
def hoF (q : Ld) : Option (Int × List Int) := match q.2.2 with
  | j :: ks => if q.2.1 = "hole" then some (j, ks) else none
  | [] => none
def hoP (h : Int × List Int) : PV := .tup (.str "hole" :: .int h.1 :: h.2.map .int)
def isHo (q : Rw) : Bool := match q.1 with
  | .lf w _ => decide (w = "hole")
  | .nd w _ _ => decide (w = "hole")
theorem hoP_filter (hD : DOk D) : ∀ (L : List Rw), (∀ q ∈ L, V D q.1) → (L.filter isHo).map (fun q => enc q.1) = ((L.filterMap lfR).filterMap hoF).map hoP
  | [], _ => rfl
  | (t, m, o, d) :: L, h => by
    have ih := hoP_filter hD L fun q hq => h q (by simp [hq])
    have hv : V D t := h (t, m, o, d) (by simp)
    cases hv with
    | @lf w xs hl =>
      by_cases hw : w = "hole"
      · subst hw
        rcases hl with ⟨_, j, ks, rfl, _⟩ | ⟨e, _⟩ | ⟨e | e, _⟩
        · have b : isHo (.lf "hole" (j :: ks), m, o, d) = true := by simp [isHo]
          rw [List.filter_cons, if_pos b, List.map_cons, ih]
          simp [lfR, hoF, hoP, enc]
        · exact absurd e (by rw [ne_hn]; exact id)
        · exact absurd e (by rw [ne_hm]; exact id)
        · exact absurd e (by rw [ne_ha]; exact id)
      · have b : ¬ isHo (.lf w xs, m, o, d) = true := by simp [isHo, hw]
        rw [List.filter_cons, if_neg b, ih]
        have : hoF (o, w, xs) = none := by
          unfold hoF; cases xs <;> simp [hw]
        simp [lfR, this]
    | @nd w ns ps h1 h2 h3 =>
      have hw := hD.lw _ _ h1
      have a3 : ¬ w = "hole" := by simp only [LW, List.mem_cons, not_or] at hw; simp [hw]
      have b : ¬ isHo (.nd w ns ps, m, o, d) = true := by simp [isHo, a3]
      rw [List.filter_cons, if_neg b, ih]
      rw [List.filterMap_cons]; rfl
theorem rows_V {t : T} (h : V D t) : ∀ m o d : Int, ∀ q ∈ rowsT t m o d, V D q.1 := by
  have aux : ∀ (ps : List T) (ns : List Int) (o d : Int), (∀ p ∈ ps, ∀ m o d : Int, ∀ q ∈ rowsT p m o d, V D q.1) → ∀ q ∈ rowss ps ns o d, V D q.1 := by
    intro ps
    induction ps with
    | nil => intro ns o d _ q hq; simp [rowss] at hq
    | cons p ps ih =>
      intro ns o d h q hq
      cases ns with
      | nil => simp [rowss] at hq
      | cons n ns =>
        rw [rowss] at hq
        rcases List.mem_append.mp hq with z | z
        · exact h p (by simp) n (o + n) d q z
        · exact ih ns o d (fun p hp => h p (by simp [hp])) q z
  induction h with
  | lf hl =>
    intro m o d q hq
    simp only [rowsT, List.mem_singleton] at hq
    subst hq; exact .lf hl
  | @nd w ns ps h1 h2 h3 ih =>
    intro m o d q hq
    rw [rowsT] at hq
    rcases List.mem_cons.mp hq with z | z
    · subst z; exact .nd h1 h2 h3
    · exact aux ps ns o (d + 1) ih q z
def rgI (n : Nat) : List Int := (List.range n).map fun i : Nat => (i : Int)
/-- the holes of a template are its parts' -/
structure HoOk (ns : List Int) (hs : List (Int × List Int)) : Prop where
  perm : (hs.map (·.1)).Perm (rgI ns.length)
  each : ∀ h ∈ hs, (h.2.length : Int) = ns.getD h.1.toNat 0 ∧ h.2.Nodup ∧ h.2.length ≤ 2
theorem holes_eq {ns : List Int} {hs : List (Int × List Int)} {S : Sto} (h : HoOk ns hs) (hl : ns.length ≤ 20) : m_are_holes_of [.tup (ns.map .int), .lst (hs.map hoP)] S = .ok (.bl true) S := by
  have hlen : hs.length = ns.length := by have := h.perm.length_eq; simpa [rgI] using this
  have e1 : compF (nName 2) tYesE (eOp gIx (eVar 2) (eC (.int 1))) [some (.tup (ns.map .int)), some (.lst (hs.map hoP)), none] (hs.map hoP) [] S = .ok (.lst (hs.map fun q => .int q.1)) S := by
    refine compF_gen0 _ (fun q hq => ⟨[some (.tup (ns.map .int)), some (.lst (hs.map hoP)), some (hoP q)], rfl, ?_, rfl⟩) (by omega)
    refine eqn ?_
    simp! only [hoP]
  have rg : Py.intsFrom 0 ns.length = (rgI ns.length).map PV.int := by
    simp [Py.intsFrom, rgI, Function.comp_def]
  have srt : sortI (hs.map (·.1)) = rgI ns.length := by
    refine sorted_unique ((sortI_perm _).trans h.perm) (sortI_sorted _) ?_
    rw [rgI, List.pairwise_map]
    exact (List.pairwise_lt_range (n := ns.length)).imp fun z => by omega
  have e2 : gSorted [.lst (hs.map fun q => .int q.1)] S = .ok (.lst (Py.intsFrom 0 ns.length)) S := by
    have : (some (hs.map fun q => PV.int q.1)).bind intsOf = some (hs.map (·.1)) := by
      have := intsOf_map (hs.map (·.1))
      rw [List.map_map] at this
      exact this
    show (match (some (hs.map fun q => PV.int q.1)).bind intsOf with
      | some ns => R.ok (PV.lst ((sortI ns).map PV.int)) S
      | none => .no) = _
    rw [this, rg, ← srt]
  have e3 : gLstRg (.int ((ns.map PV.int).length : Nat)) S = .ok (.lst (Py.intsFrom 0 ns.length)) S := by
    unfold gLstRg
    simp only [List.length_map]
    rw [if_pos (by omega)]
    simp
  have e4 : gNe (.lst (Py.intsFrom 0 ns.length)) (.lst (Py.intsFrom 0 ns.length)) S = .ok (.bl false) S := by
    rw [rg]
    show (if SeqAt.shaped (toD (.lst _)) = true ∧ SeqAt.shaped (toD (.lst _)) = true then R.ok (PV.bl (!PyData.eqv (toD (.lst _)) (toD (.lst _)))) S else .no) = _
    rw [if_pos ⟨sh_lst _, sh_lst _⟩]
    have := eqv_ints (rgI ns.length)
    simp only [toD, PyData.eqv, this, Bool.not_true]
  have e5 : compF (nName 2) tYesE (eChain gEq gEq (eOp Py.gSub (eArgs gLen (aCons (eVar 2) aNil)) (eC (.int 2))) (eOp gIx (eVar 0) (eOp gIx (eVar 2) (eC (.int 1)))) (eUn gLenSet (eSl (eVar 2) (oSome (eC (.int 2))) oNone))) [some (.tup (ns.map .int)), some (.lst (hs.map hoP)), none] (hs.map hoP) [] S = .ok (.lst ((hs.map hoP).map fun _ => .bl true)) S := by
    refine compF_map0 (φ := fun _ => PV.bl true) _ (fun p hp => ?_) (by simp; omega)
    obtain ⟨⟨j, ks⟩, hq, rfl⟩ := List.mem_map.mp hp
    obtain ⟨g1, g2, g3⟩ := h.each _ hq
    refine ⟨eqn ?_, rfl⟩
    have hj : j ∈ rgI ns.length := h.perm.mem_iff.mp (List.mem_map.mpr ⟨_, hq, rfl⟩)
    obtain ⟨i, hi, rfl⟩ := List.mem_map.mp hj
    have hi := List.mem_range.mp hi
    have a1 : atI (ns.map PV.int) (i : Int) = some (.int ks.length) := by
      rw [atI_nat, List.getElem?_map, List.getElem?_eq_getElem hi]
      have : ns.getD i 0 = ns[i] := by simp [List.getD, hi]
      simp at g1
      simp [hi, g1]
    have a2 : gLenSet (.tup (ks.map .int)) S = .ok (.int ks.length) S := by
      unfold gLenSet
      simp only [intsOf_map]
      rw [if_pos (by simp at g3; omega), ddI_of g2]
    have a3 : ((ks.length + 1 + 1 : Nat) : Int) - 2 = ks.length := by omega
    simp! only [hoP, gLen_tup, List.length_map, a1, a2, a3, cut_from2]
  refine eqn ?_
  unfold m_are_holes_of b_are_holes_of
  simp! only [e1, e2, gLen_tup, e3, e4, e5, gAll_true, take_self]
end G04
set_option Elab.async false
set_option maxRecDepth 100000
set_option maxHeartbeats 1000000
set_option linter.all false
namespace G04
open PySem PySem.Spec PyProof.Rows L2 Py
variable {D : List (Str × List Int)}
local macro_rules
  | `(tactic| simp! only [$a,*]) => `(tactic| simp only [wp_ok, wp_no, ↓wp_bind, ↓R.bind_ok, ↓sSeq, ↓sNil, ↓sSet, ↓sAsg, ↓sIf, ↓sRet, ↓sExpr, ↓sPar, ↓sPar3, ↓sFor, ↓nName, ↓nTup, ↓nCons, ↓nNil, ↓nNs, ↓eVar, ↓eC, ↓eOp, ↓eUn, ↓eArgs, ↓eNew, ↓aCons, ↓aNil, ↓tV, ↓tT, toB, truP, ↓tNotE, ↓tAndE, ↓tOrE, ↓tYesE, ↓eAndV, ↓eOrV, ↓eNotV, ↓eNotT, ↓eIf, gAdd_int, gAdd_tup, Py.gSub, gMul_l, gMul_r, gMod, gFdiv, gNeg, gLt, gLe, gGt, gGe, gInt, gIx, gEq_int, gEq_str, gEq_bl, gNe_int, gNe_str, gNe_bl, gIsN, gNotN, getQ, getL, gSetL, ↓nSubL, gDivmod, gMin2, gMax2, ↓mkDef, ↓mkNew, startP, finF, finO, finV_tup, finV_int, finV_bl, finV_lst, finV_non, finV_str, finV_ref, ↓eChain, tyP, gIsi, isiB, ↓iArgs, ↓iSeq, iterP, ↓fComp, wipeP, ↓eSl, ↓oNone, ↓oSome, gSl, ↓eMeth0, ↓eMeth1, ixN, atI0, atI1, atI2, atI3, List.length_cons, List.length_nil, List.map_cons, List.map_nil, List.replicate, List.cons_append, List.nil_append, List.append_nil, List.getElem?_cons_zero, List.getElem?_cons_succ, List.getElem?_nil, List.set_cons_zero, List.set_cons_succ, List.set_nil, List.length_set, List.length_append, Nat.add_sub_cancel, Nat.reduceAdd, Nat.reduceSub, Nat.reduceLT, Nat.reduceEqDiff, Nat.reduceLeDiff, Nat.le_refl, Nat.zero_le, if_true, if_false, ↓reduceIte, decide_eq_true_eq, Bool.false_eq_true, Bool.true_eq_false, Bool.not_true, Bool.not_false, Option.isSome_some, forall_const, not_true_eq_false, not_false_eq_true, imp_self, false_implies, true_implies, implies_true, and_true, true_and, Int.toNat_zero, Nat.zero_add, Int.reduceLE, Int.reduceLT, Int.reduceNeg, Int.reduceToNat, Int.reducePow, Int.reduceGT, Int.cast_ofNat_Int, true_or, or_true, Int.ofNat_eq_natCast, decide_true, decide_false, Int.reduceEq, List.isEmpty_cons, List.isEmpty_nil, eDGet1,  keyP, Option.map_some, Option.map_none, Option.getD_some, Option.isSome_some, reduceCtorEq, and_self,  allPure_nil, allPure_cons, Bool.and_true, Bool.true_and, Bool.false_and, Bool.and_false, Bool.not_eq_true, Bool.not_eq_false, gTupP_nil, gLstP_nil, gTupP_ok, gLstP_ok, isRef_tup, isRef_int, isRef_str, isRef_bl, Bool.or_false, Bool.or_true, Bool.true_or, Bool.false_or, $a,*])

theorem gAll_trueA {α : Type} {xs : List α} {S : Sto} : gAll [.lst (xs.map fun _ => PV.bl true)] S = .ok (.bl true) S := by
  have := gAll_true (ps := xs.map fun _ => PV.non) (S := S)
  rw [List.map_map] at this
  exact this
structure TmOk (D : List (Str × List Int)) (ns : List Int) (t : T) : Prop where
  v : V D t
  nl : isLf t = false
  told : ∀ q ∈ lv t 0, ToldL q.2
  ln : len t ≤ 24
  sm : 1 + ns.sum ≤ len t - ns.length
  ho : HoOk ns (((lv t 0).map fun q : Lv => q.2).filterMap hoF)
theorem tmpl_eq (hD : DOk D) {W : PV} {S : Sto} (hS : DicV W S D) {ns : List Int} {t : T} (h : TmOk D ns t) (hn : ns.length ≤ 4) : m_is_template [W, .tup (ns.map .int), enc t] S = .ok (.bl true) S := by
  have il := is_leaf_eq hD h.v S
  rw [h.nl] at il
  have h24 := h.ln
  have nd := nodes_eq hD hS h.v (by omega)
  have li := length_in_eq hD hS h.v (by omega)
  have hz := h.v.sz_le hD
  have hl := len_rows h.v 0 0 1
  have e1 : compF (nName 4) tYesE (eArgs m_is_told_inside (aCons (eOp gIx (eVar 4) (eC (.int 0))) (aCons (eOp gIx (eVar 4) (eC (.int 2))) aNil))) [some W, some (.tup (ns.map .int)), some (enc t), some (.lst ((rowsT t 0 0 1).map rwP)), none] ((rowsT t 0 0 1).map rwP) [] S = .ok (.lst ((rowsT t 0 0 1).map fun _ => .bl true)) S := by
    refine compF_gen0 _ (fun q hq => ⟨[some W, some (.tup (ns.map .int)), some (enc t), some (.lst ((rowsT t 0 0 1).map rwP)), some (rwP q)], rfl, ?_, rfl⟩) (by omega)
    have hv := rows_V h.v 0 0 1 q hq
    obtain ⟨t', m, o, d⟩ := q
    have te := told_eq hD (S := S) (m := m) (o := o) (d := d) hv fun z hz => by
      have : z ∈ (rowsT t 0 0 1).filterMap lfR := List.mem_filterMap.mpr ⟨_, hq, hz⟩
      rw [rows_lv] at this
      obtain ⟨y, hy, rfl⟩ := List.mem_map.mp this
      exact h.told y hy
    refine eqn ?_
    simp! only [rwP, te]
  have e3 : compF (nName 4) (tV (eOp gEq (eOp gIx (eOp gIx (eVar 4) (eC (.int 0))) (eC (.int 0))) (eC (.str "hole")))) (eOp gIx (eVar 4) (eC (.int 0))) [some W, some (.tup (ns.map .int)), some (enc t), some (.lst ((rowsT t 0 0 1).map rwP)), none] ((rowsT t 0 0 1).map rwP) [] S = .ok (.lst ((((lv t 0).map fun q : Lv => q.2).filterMap hoF).map hoP)) S := by
    rw [← rows_lv t 0 0 1, ← hoP_filter hD _ (rows_V h.v 0 0 1)]
    have := compF_fil (g := nName 4) (tt := tV (eOp gEq (eOp gIx (eOp gIx (eVar 4) (eC (.int 0))) (eC (.int 0))) (eC (.str "hole")))) (f := eOp gIx (eVar 4) (eC (.int 0))) (ρ := [some W, some (.tup (ns.map .int)), some (enc t), some (.lst ((rowsT t 0 0 1).map rwP)), none]) (S := S) (ι := rwP) (φ := fun q => enc q.1) (β := isHo) (rowsT t 0 0 1) [] (fun q hq => ⟨[some W, some (.tup (ns.map .int)), some (enc t), some (.lst ((rowsT t 0 0 1).map rwP)), some (rwP q)], rfl, ?_, fun _ => ⟨?_, isRef_enc _⟩⟩) (by simp; omega)
    · simpa using this
    · obtain ⟨t', m, o, d⟩ := q
      have : WP ((tV (eOp gEq (eOp gIx (eOp gIx (eVar 4) (eC (.int 0))) (eC (.int 0))) (eC (.str "hole")))) [some W, some (.tup (ns.map .int)), some (enc t), some (.lst ((rowsT t 0 0 1).map rwP)), some (rwP (t', m, o, d))] S) fun b S' => b = isHo (t', m, o, d) ∧ S' = S := by
        cases t' with
        | lf w xs => simp! only [rwP, enc, isHo]
        | nd w ns ps => simp! only [rwP, enc, isHo]
      obtain ⟨b, S2, e, rfl, rfl⟩ := this.ex
      exact e
    · refine eqn ?_
      simp! only [rwP]
  have lt : m_is_length_of_template [.tup (ns.map .int), .int (len t)] S = .ok (.bl true) S := by
    have sm := gSumA_ints (ns := ns) (S := S) (by omega)
    have h1 := h.sm
    refine eqn ?_
    unfold m_is_length_of_template b_is_length_of_template
    simp! only [h24, sm, gLen_tup, List.length_map, h1, take_self]
  have ho := holes_eq (S := S) h.ho (by omega)
  refine eqn ?_
  unfold m_is_template b_is_template
  simp! only [nd, il, e1, gAll_trueA, li, lt, e3, ho, take_self]
/-! ### own words -/
def letters : Str := "abcdefghijklmnopqrstuvwxyz"
def RS : List Str := ["number", "name", "at", "hole", "boxes", "form"]
structure OwnW (w : Str) : Prop where
  l2 : 2 ≤ w.cps.size
  l8 : w.cps.size ≤ 8
  let_ : ∀ c ∈ w.cps.toList, c ∈ letters.cps.toList
  core : w ∉ ks_CORE_WORDS
  rs : w ∉ RS
theorem gLen_str {w : Str} {S : Sto} (h : w.cps.size ≤ 5000) : gLen [.str w] S = .ok (.int w.cps.size) S := by
  show (if w.cps.size ≤ sizeLine then R.ok (PV.int (w.cps.size : Nat)) S else .no) = _
  rw [if_pos (size_1000 h)]
theorem gIn_sign {c : Nat} {b : Str} {S : Sto} : gIn false (.str ⟨#[c]⟩) (.str b) S = .ok (.bl (decide (c ∈ b.cps.toList))) S := by
  show (if (#[c] : Array Nat).size = 1 then R.ok (PV.bl (if false = true then _ else decide ((#[c] : Array Nat).getD 0 0 ∈ b.cps.toList))) S else .no) = _
  rw [if_pos (show (#[c] : Array Nat).size = 1 from rfl)]; rfl
theorem own_word_eq {w : Str} {S : Sto} (h : OwnW w) : m_is_own_word [.str w] S = .ok (.bl true) S := by
  have h2 := h.l2
  have h8 := h.l8
  have e : compF (nName 1) tYesE (eOp (gIn false) (eVar 1) (eC (.str "abcdefghijklmnopqrstuvwxyz"))) [some (.str w), none] (Py.signs w) [] S = .ok (.lst ((Py.signs w).map fun _ => .bl true)) S := by
    refine compF_map0 (φ := fun _ => PV.bl true) _ (fun p hp => ?_) (by simp [Py.signs]; omega)
    obtain ⟨c, hc, rfl⟩ := List.mem_map.mp hp
    have := h.let_ c hc
    have hd : decide (c ∈ (Str.ofString "abcdefghijklmnopqrstuvwxyz").cps.toList) = true := decide_eq_true this
    refine ⟨eqn ?_, rfl⟩
    simp! only [gIn_sign, hd]
  have g2 : (2 : Int) ≤ ((w.cps.size : Nat) : Int) := by omega
  have g8 : ((w.cps.size : Nat) : Int) ≤ 8 := by omega
  have e2 : m_is_word_of_letters [.str w] S = .ok (.bl true) S := by
    refine eqn ?_
    unfold m_is_word_of_letters b_is_word_of_letters
    simp! only [gLen_str (show w.cps.size ≤ 5000 by omega), g2, g8, e, gAll_true, take_self]
  have e3 : gKIn true ks_CORE_WORDS (.str w) S = .ok (.bl true) S := by
    have := h.core
    simp [gKIn, this]
  have e4 : gIn true (.str w) (.tup c_RESERVED) S = .ok (.bl true) S := by
    have := gNin_strs (w := w) (ws := RS) (S := S)
    rw [show RS.map PV.str = c_RESERVED from rfl] at this
    rw [this]
    simp [h.rs]
  refine eqn ?_
  unfold m_is_own_word b_is_own_word
  simp! only [e2, e3, e4, take_self]

/-! ### books -/
structure Fm where
  w : Str
  ns : List Int
  t : T
def fmP (f : Fm) : PV := .tup [.str f.w, .tup (f.ns.map .int), enc f.t]
structure FmOk (D : List (Str × List Int)) (f : Fm) : Prop where
  ow : OwnW f.w
  fresh : dl D f.w = none
  nl : 1 ≤ f.ns.length ∧ f.ns.length ≤ 4 ∧ ∀ n ∈ f.ns, 0 ≤ n ∧ n ≤ 2
  tm : TmOk D f.ns f.t
def dOf (D : List (Str × List Int)) : List Fm → List (Str × List Int)
  | [] => D
  | f :: b => dOf (D ++ [(f.w, f.ns)]) b
def BkOk (D : List (Str × List Int)) : List Fm → Prop
  | [] => True
  | f :: b => FmOk D f ∧ BkOk (D ++ [(f.w, f.ns)]) b
theorem dl_app {w k : Str} {v : List Int} : ∀ D : List (Str × List Int), dl (D ++ [(k, v)]) w = (dl D w).or (if k = w then some v else none)
  | [] => by simp [dl]
  | (a, b) :: D => by
    rw [List.cons_append, dl, dl, dl_app D]
    split <;> simp
theorem DOk.add (hD : DOk D) {f : Fm} (h : FmOk D f) : DOk (D ++ [(f.w, f.ns)]) := by
  have hl : f.w ∉ LW := fun z => h.ow.rs (by revert z; simp only [LW, RS, List.mem_cons]; intro z; rcases z with z | z | z | z | z <;> simp [z] at *)
  constructor
  · intro w ns e
    rw [dl_app] at e
    cases q : dl D w with
    | some v => rw [q] at e; simp at e; subst e; exact hD.nm _ _ q
    | none =>
      rw [q] at e
      simp at e
      obtain ⟨_, rfl⟩ := e
      exact h.nl
  · intro w ns e
    rw [dl_app] at e
    cases q : dl D w with
    | some v => exact hD.lw _ _ q
    | none =>
      rw [q] at e
      simp at e
      obtain ⟨rfl, _⟩ := e
      exact hl
theorem gDIn_no {W : PV} {S : Sto} (hS : DicV W S D) {w : Str} (h : dl D w = none) : gDIn false (.str w) W S = .ok (.bl false) S := by
  unfold DicV at hS
  unfold gDIn
  rw [hS]
  simp only [keyP, dgetP_D, h, Option.map_none]
  rfl
theorem part_names_eq {ns : List Int} {S : Sto} (h : 1 ≤ ns.length ∧ ns.length ≤ 4 ∧ ∀ n ∈ ns, 0 ≤ n ∧ n ≤ 2) : m_are_part_names [.tup (ns.map .int)] S = .ok (.bl true) S := by
  obtain ⟨h1, h2, h3⟩ := h
  have h4 : ((ns.length : Nat) : Int) ≤ 4 := by omega
  have e1 : m_is_tuple_up_to [.tup (ns.map .int), .int 4] S = .ok (.bl true) S := by
    refine eqn ?_
    unfold m_is_tuple_up_to b_is_tuple_up_to
    simp! only [gLen_tup, List.length_map, h4, take_self]
  have e2 : compF (nName 1) tYesE (eArgs m_is_whole_within (aCons (eVar 1) (aCons (eC (.int 0)) (aCons (eC (.int 2)) aNil)))) [some (.tup (ns.map .int)), none] (ns.map .int) [] S = .ok (.lst ((ns.map PV.int).map fun _ => .bl true)) S := by
    refine compF_map0 (φ := fun _ => PV.bl true) _ (fun p hp => ?_) (by simp; omega)
    obtain ⟨n, hn, rfl⟩ := List.mem_map.mp hp
    refine ⟨eqn ?_, rfl⟩
    simp! only [is_within_eq (h3 n hn).1 (h3 n hn).2]
  have e3 : (ns.map PV.int).isEmpty = false := by cases ns <;> simp at h1 ⊢
  refine eqn ?_
  unfold m_are_part_names b_are_part_names
  simp! only [e1, e3, e2, gAll_true, take_self]
theorem form_eq (hD : DOk D) {W : PV} {S : Sto} (hS : DicV W S D) {f : Fm} (h : FmOk D f) : m_is_form [W, fmP f] S = .ok (.bl true) S := by
  have l24 := h.tm.ln
  have dl := h.tm.v.dep_le hD
  have e1 := fits_eq hD hS h.tm.v (by omega) (by omega)
  have e2 := tmpl_eq hD hS h.tm h.nl.2.1
  refine eqn ?_
  unfold m_is_form b_is_form fmP
  simp! only [gLen_tup, own_word_eq h.ow, gDIn_no hS h.fresh, part_names_eq h.nl, e1, e2, take_self]
/-! ### the words of a book -/
def CD : List (Str × List Int) := d_CORE_WORDS
theorem dl_mem {w : Str} {ns : List Int} : ∀ {D : List (Str × List Int)}, dl D w = some ns → (w, ns) ∈ D
  | (k, v) :: D, h => by
    rw [dl] at h
    split at h
    · rename_i e; cases h; subst e; simp
    · exact List.mem_cons_of_mem _ (dl_mem h)
theorem CD_ok : DOk CD := by
  have h1 : ∀ q ∈ CD, 1 ≤ q.2.length ∧ q.2.length ≤ 4 ∧ ∀ n ∈ q.2, 0 ≤ n ∧ n ≤ 2 := by decide +kernel
  have h2 : ∀ q ∈ CD, q.1 ∉ LW := by decide +kernel
  exact ⟨fun w ns h => h1 _ (dl_mem h), fun w ns h => h2 _ (dl_mem h)⟩
theorem dOf_ok : ∀ {D : List (Str × List Int)} (b : List Fm), DOk D → BkOk D b → DOk (dOf D b)
  | D, [], h, _ => h
  | D, f :: b, h, hb => dOf_ok b (h.add hb.1) hb.2
def bookP (b : List Fm) : PV := .tup (b.map fmP)
theorem not_any {w : Str} : ∀ D : List (Str × List Int), dl D w = none → (ksD D).any (fun j => decide (j = (.inr w : Key))) = false
  | [], _ => rfl
  | (k, v) :: D, h => by
    rw [dl] at h
    split at h
    · cases h
    · rename_i hk
      have := not_any D h
      simp only [ksD, List.map_cons, List.any_cons] at this ⊢
      rw [this]
      simp; exact hk
theorem dput_D {w : Str} {ns : List Int} (h : dl D w = none) : dputP (ksD D) (vsD D) (.inr w) (.tup (ns.map .int)) = .dic (ksD (D ++ [(w, ns)])) (vsD (D ++ [(w, ns)])) := by
  unfold dputP
  rw [not_any D h]
  simp [ksD, vsD]
theorem dicV_last {S : Sto} {D : List (Str × List Int)} : DicV (.ref S.length) (S ++ [.dic (ksD D) (vsD D)]) D := by
  unfold DicV
  simp [getD]
theorem put_eq {S0 : Sto} {w : Str} {ns : List Int} (h : dl D w = none) (hl : D.length < 5000) : gDPut (.ref S0.length) (.str w) (.tup (ns.map .int)) (S0 ++ [.dic (ksD D) (vsD D)]) = .ok .non (S0 ++ [.dic (ksD (D ++ [(w, ns)])) (vsD (D ++ [(w, ns)]))]) := by
  unfold gDPut
  simp only [keyP, get_last, set_last]
  rw [if_pos ⟨rfl, by have := size_1000 (n := D.length + 1) (by omega); simp [ksD]; omega⟩, dput_D h]
abbrev wordsB : Es := (sSeq (sIf (tNotE (tT (eArgs m_is_form (aCons (eVar 1) (aCons (eVar 3) aNil))))) sNever sNil) (sDPutE (eVar 1) (eOp gIx (eVar 3) (eC (.int 0))) (eOp gIx (eVar 3) (eC (.int 1)))))
theorem words_loop {S0 : Sto} {a0 : Option PV} : ∀ (b : List Fm) (D : List (Str × List Int)) (i : Nat) (x2 x3 : Option PV), DOk D → BkOk D b → D.length + b.length < 1000 →
    WP (forF (nTup 2 (nCons (nName 2) (nCons (nName 3) nNil))) wordsB (enumP i (b.map fmP)) [a0, some (.ref S0.length), x2, x3] (S0 ++ [.dic (ksD D) (vsD D)])) fun fl S' => S' = S0 ++ [.dic (ksD (dOf D b)) (vsD (dOf D b))] ∧ ∃ x2 x3, fl = .nx [a0, some (.ref S0.length), x2, x3]
  | [], D, i, x2, x3, hD, hb, hl => by
    rw [List.map_nil, enumP, forF]
    simp! only [dOf]
    exact ⟨_, _, rfl⟩
  | f :: b, D, i, x2, x3, hD, hb, hl => by
    have e1 := form_eq hD (W := .ref S0.length) (S := S0 ++ [.dic (ksD D) (vsD D)]) dicV_last hb.1
    have e2 := put_eq (S0 := S0) (ns := f.ns) hb.1.fresh (by simp at hl; omega)
    have f0 : fmP f = .tup [.str f.w, .tup (f.ns.map .int), enc f.t] := rfl
    rw [f0] at e1
    rw [List.map_cons, enumP, forF, f0]
    simp! only [e1, e2, sDPutE]
    exact words_loop b _ (i + 1) _ _ (hD.add hb.1) hb.2 (by simp at hl ⊢; omega)
theorem core_eq {S : Sto} : m_core_words [] S = .ok (.dic (ksD CD) (vsD CD)) S := by
  have e : eKD d_CORE_WORDS [] S = .ok (.dic (ksD CD) (vsD CD)) S := rfl
  refine eqn ?_
  unfold m_core_words b_core_words
  have nl : ¬ S.length < S.length := by omega
  simp! only [e, nl, get_last, take_app]
theorem words_eq {b : List Fm} {S : Sto} (hb : BkOk CD b) (hl : b.length ≤ 8) : m_words_of [bookP b] S = .ok (.dic (ksD (dOf CD b)) (vsD (dOf CD b))) S := by
  have h8 : ((b.length : Nat) : Int) ≤ 8 := by omega
  have e1 : m_is_tuple_up_to [.tup (b.map fmP), .int 8] S = .ok (.bl true) S := by
    refine eqn ?_
    unfold m_is_tuple_up_to b_is_tuple_up_to
    simp! only [gLen_tup, List.length_map, h8, take_self]
  have ge : gEnum [.tup (b.map fmP)] (S ++ [.dic (ksD CD) (vsD CD)]) = .ok (enumP 0 (b.map fmP)) (S ++ [.dic (ksD CD) (vsD CD)]) := rfl
  refine eqn ?_
  unfold m_words_of b_words_of bookP
  simp! only [e1, eCall0, core_eq, ge]
  have hc : CD.length = 14 := by decide +kernel
  have := words_loop (S0 := S) (a0 := some (.tup (b.map fmP))) b CD 0 none none CD_ok hb (by omega)
  refine wp_of this fun fl S' ⟨e1, x2, x3, e2⟩ => ?_
  subst e1 e2
  have nl : ¬ S.length < S.length := by omega
  simp! only [nl, get_last, take_app]
theorem dicV_dic {S : Sto} : DicV (.dic (ksD D) (vsD D)) S D := rfl
end G04
set_option Elab.async false
set_option maxRecDepth 100000
set_option maxHeartbeats 1000000
set_option linter.all false
namespace G04
open PySem PySem.Spec PyProof.Rows L2 Py
variable {D : List (Str × List Int)}
local macro_rules
  | `(tactic| simp! only [$a,*]) => `(tactic| simp only [wp_ok, wp_no, ↓wp_bind, ↓R.bind_ok, ↓sSeq, ↓sNil, ↓sSet, ↓sAsg, ↓sIf, ↓sRet, ↓sExpr, ↓sPar, ↓sPar3, ↓sFor, ↓nName, ↓nTup, ↓nCons, ↓nNil, ↓nNs, ↓eVar, ↓eC, ↓eOp, ↓eUn, ↓eArgs, ↓eNew, ↓aCons, ↓aNil, ↓tV, ↓tT, toB, truP, ↓tNotE, ↓tAndE, ↓tOrE, ↓tYesE, ↓eAndV, ↓eOrV, ↓eNotV, ↓eNotT, ↓eIf, gAdd_int, gAdd_tup, Py.gSub, gMul_l, gMul_r, gMod, gFdiv, gNeg, gLt, gLe, gGt, gGe, gInt, gIx, gEq_int, gEq_str, gEq_bl, gNe_int, gNe_str, gNe_bl, gIsN, gNotN, getQ, getL, gSetL, ↓nSubL, gDivmod, gMin2, gMax2, ↓mkDef, ↓mkNew, startP, finF, finO, finV_tup, finV_int, finV_bl, finV_lst, finV_non, finV_str, finV_ref, ↓eChain, tyP, gIsi, isiB, ↓iArgs, ↓iSeq, iterP, ↓fComp, wipeP, ↓eSl, ↓oNone, ↓oSome, gSl, ↓eMeth0, ↓eMeth1, ixN, atI0, atI1, atI2, atI3, List.length_cons, List.length_nil, List.map_cons, List.map_nil, List.replicate, List.cons_append, List.nil_append, List.append_nil, List.getElem?_cons_zero, List.getElem?_cons_succ, List.getElem?_nil, List.set_cons_zero, List.set_cons_succ, List.set_nil, List.length_set, List.length_append, Nat.add_sub_cancel, Nat.reduceAdd, Nat.reduceSub, Nat.reduceLT, Nat.reduceEqDiff, Nat.reduceLeDiff, Nat.le_refl, Nat.zero_le, if_true, if_false, ↓reduceIte, decide_eq_true_eq, Bool.false_eq_true, Bool.true_eq_false, Bool.not_true, Bool.not_false, Option.isSome_some, forall_const, not_true_eq_false, not_false_eq_true, imp_self, false_implies, true_implies, implies_true, and_true, true_and, Int.toNat_zero, Nat.zero_add, Int.reduceLE, Int.reduceLT, Int.reduceNeg, Int.reduceToNat, Int.reducePow, Int.reduceGT, Int.cast_ofNat_Int, true_or, or_true, Int.ofNat_eq_natCast, decide_true, decide_false, Int.reduceEq, List.isEmpty_cons, List.isEmpty_nil, eDGet1,  keyP, Option.map_some, Option.map_none, Option.getD_some, Option.isSome_some, reduceCtorEq, and_self,  allPure_nil, allPure_cons, Bool.and_true, Bool.true_and, Bool.false_and, Bool.and_false, Bool.not_eq_true, Bool.not_eq_false, gTupP_nil, gLstP_nil, gTupP_ok, gLstP_ok, isRef_tup, isRef_int, isRef_str, isRef_bl, Bool.or_false, Bool.or_true, Bool.true_or, Bool.false_or, $a,*])

/-! ### the law's names -/
def G1 : List Str := ["call", "pair", "plus", "minus", "times", "put"]
def G2 : List Str := ["first", "second", "box", "look", "say"]
theorem core_dl (w : Str) : dl CD w = if w ∈ G1 then some [0, 0] else if w ∈ G2 then some [0] else if w = "fn" then some [1] else if w = "again" then some [2] else if w = "test" then some [0, 0, 0] else none := by
  have key : ∀ w ∈ ks_CORE_WORDS, dl CD w = if w ∈ G1 then some [0, 0] else if w ∈ G2 then some [0] else if w = "fn" then some [1] else if w = "again" then some [2] else if w = "test" then some [0, 0, 0] else none := by decide +kernel
  by_cases h : w ∈ ks_CORE_WORDS
  · exact key w h
  · have h1 : w ∉ G1 := fun z => h (by revert z; simp only [G1, ks_CORE_WORDS, List.mem_cons]; intro z; rcases z with z | z | z | z | z | z | z <;> simp [z] at *)
    have h2 : w ∉ G2 := fun z => h (by revert z; simp only [G2, ks_CORE_WORDS, List.mem_cons]; intro z; rcases z with z | z | z | z | z | z <;> simp [z] at *)
    have h3 : ¬ w = "fn" := fun z => h (by subst z; simp [ks_CORE_WORDS])
    have h4 : ¬ w = "again" := fun z => h (by subst z; simp [ks_CORE_WORDS])
    have h5 : ¬ w = "test" := fun z => h (by subst z; simp [ks_CORE_WORDS])
    rw [if_neg h1, if_neg h2, if_neg h3, if_neg h4, if_neg h5]
    cases e : dl CD w with
    | none => rfl
    | some v =>
      have hm : w ∈ CD.map (·.1) := List.mem_map.mpr ⟨(w, v), dl_mem e, rfl⟩
      exact absurd (show w ∈ ks_CORE_WORDS from hm) h
def dlB : List Fm → Str → Option (List Int)
  | [], _ => none
  | f :: b, w => if f.w = w then some f.ns else dlB b w
theorem dl_dOf (w : Str) : ∀ (b : List Fm) (D : List (Str × List Int)), dl (dOf D b) w = (dl D w).or (dlB b w)
  | [], D => by simp [dOf, dlB]
  | f :: b, D => by
    rw [dOf, dl_dOf w b, dl_app, dlB]
    cases dl D w <;> simp
    split <;> simp
theorem names_loop {w : Str} {S : Sto} {a0 : Option PV} : ∀ (b : List Fm) (x2 : Option PV), 
    WP (forF (nName 2) (sIf (tV (eOp gEq (eOp gIx (eVar 2) (eC (.int 0))) (eVar 1))) (sRet (eOp gIx (eVar 2) (eC (.int 1)))) sNil) (b.map fmP) [a0, some (.str w), x2] S) fun fl S' => S' = S ∧ match dlB b w with
      | some ns => fl = .rt (.tup (ns.map .int))
      | none => ∃ x2, fl = .nx [a0, some (.str w), x2]
  | [], x2 => by
    rw [List.map_nil, forF, dlB]
    simp! only []
    exact ⟨_, rfl⟩
  | f :: b, x2 => by
    rw [List.map_cons, forF, dlB]
    have f0 : fmP f = .tup [.str f.w, .tup (f.ns.map .int), enc f.t] := rfl
    rw [f0]
    by_cases h : f.w = w
    · rw [if_pos h]
      simp! only [h]
    · rw [if_neg h]
      simp! only [h]
      exact names_loop b _
def nmP : Option (List Int) → PV
  | some ns => .tup (ns.map .int)
  | none => .non
theorem in_G1 {w : Str} {S : Sto} : gIn false (.str w) (.tup [.str "call", .str "pair", .str "plus", .str "minus", .str "times", .str "put"]) S = .ok (.bl (decide (w ∈ G1))) S := gIn_strs (ws := G1)
theorem in_G2 {w : Str} {S : Sto} : gIn false (.str w) (.tup [.str "first", .str "second", .str "box", .str "look", .str "say"]) S = .ok (.bl (decide (w ∈ G2))) S := gIn_strs (ws := G2)
theorem law_names_eq {b : List Fm} {w : Str} {S : Sto} : m__law_names [bookP b, .str w] S = .ok (nmP (dl (dOf CD b) w)) S := by
  refine eqn ?_
  rw [dl_dOf, core_dl]
  unfold m__law_names b__law_names bookP
  by_cases h1 : w ∈ G1
  · simp! only [in_G1, h1, take_self, Option.some_or, nmP]
  by_cases h2 : w ∈ G2
  · simp! only [in_G1, in_G2, h1, h2, take_self, Option.some_or, nmP]
  by_cases h3 : w = "fn"
  · subst h3
    simp! only [in_G1, in_G2, h1, h2, take_self, Option.some_or, nmP]
  by_cases h4 : w = "again"
  · subst h4
    simp! only [in_G1, in_G2, h1, h2, h3, take_self, Option.some_or, nmP]
  by_cases h5 : w = "test"
  · subst h5
    simp! only [in_G1, in_G2, h1, h2, h3, h4, take_self, Option.some_or, nmP]
  simp! only [in_G1, in_G2, h1, h2, h3, h4, h5, Option.none_or]
  refine wp_of (names_loop b none) fun fl S' ⟨e1, e2⟩ => ?_
  subst e1
  cases q : dlB b w with
  | none =>
    rw [q] at e2
    obtain ⟨x2, rfl⟩ := e2
    simp! only [take_self, nmP]
  | some ns =>
    rw [q] at e2
    replace e2 : fl = .rt (.tup (ns.map .int)) := e2
    subst e2
    simp! only [take_self, nmP]
theorem law_names_some {b : List Fm} {w : Str} {ns : List Int} {S : Sto} (h : dl (dOf CD b) w = some ns) : m__law_names [bookP b, .str w] S = .ok (.tup (ns.map .int)) S := by
  rw [law_names_eq, h]; rfl
/-! ### the law's length -/
theorem lens_ints : ∀ ps : List T, lens ps = (ps.map len).sum
  | [] => rfl
  | p :: ps => by rw [lens, List.map_cons, List.sum_cons, lens_ints ps]
theorem law_length_eq {b : List Fm} (hD : DOk (dOf CD b)) {S : Sto} : ∀ (k : Nat) (t : T), dep t ≤ k → V (dOf CD b) t → m__law_length k [bookP b, enc t] S = .ok (.int (len t)) S
  | 0, t, h, _ => by have := dep_pos t; omega
  | k + 1, .lf w xs, h, hv => by
    cases hv with
    | lf hl =>
    have hw := hl.lw
    refine eqn ?_
    rw [m__law_length, enc]
    unfold b__law_length
    simp! only [in_LW, hw, take_self, len]
  | k + 1, .nd w ns ps, h, hv => by
    cases hv with
    | nd h1 h2 h3 =>
    have hw := hD.lw _ _ h1
    have nm := hD.nm _ _ h1
    have e1 : compF (nName 2) tYesE (eArgs (m__law_length k) (aCons (eVar 0) (aCons (eVar 2) aNil))) [some (bookP b), some (.tup (.str w :: encs ps)), none] (encs ps) [] S = .ok (.lst (ps.map fun p => .int (len p))) S := by
      rw [encs_map]
      refine compF_gen0 _ (fun p hp => ⟨[some (bookP b), some (.tup (.str w :: ps.map enc)), some (enc p)], rfl, ?_, rfl⟩) (by omega)
      have := law_length_eq hD (S := S) k p (by have := mem_deps hp; simp only [dep] at h; omega) (h3 p hp)
      refine eqn ?_
      simp! only [this]
    have e2 : gSumA [.lst (ps.map fun p => .int (len p))] S = .ok (.int (lens ps)) S := by
      have := gSumA_lst (ns := ps.map len) (S := S) (by simp; omega)
      rw [List.map_map] at this
      rw [lens_ints]; exact this
    have e3 := gSumA_ints (ns := ns) (S := S) (by omega)
    refine eqn ?_
    rw [m__law_length, enc]
    unfold b__law_length
    simp! only [in_LW, hw, take_self, len, law_names_some h1, e1, e2, e3, cut_from1]
end G04
set_option Elab.async false
set_option maxRecDepth 100000
set_option maxHeartbeats 1000000
set_option linter.all false
namespace G04
open PySem PySem.Spec PyProof.Rows L2 Py
variable {D : List (Str × List Int)}
local macro_rules
  | `(tactic| simp! only [$a,*]) => `(tactic| simp only [wp_ok, wp_no, ↓wp_bind, ↓R.bind_ok, ↓sSeq, ↓sNil, ↓sSet, ↓sAsg, ↓sIf, ↓sRet, ↓sExpr, ↓sPar, ↓sPar3, ↓sFor, ↓nName, ↓nTup, ↓nCons, ↓nNil, ↓nNs, ↓eVar, ↓eC, ↓eOp, ↓eUn, ↓eArgs, ↓eNew, ↓aCons, ↓aNil, ↓tV, ↓tT, toB, truP, ↓tNotE, ↓tAndE, ↓tOrE, ↓tYesE, ↓eAndV, ↓eOrV, ↓eNotV, ↓eNotT, ↓eIf, gAdd_int, gAdd_tup, Py.gSub, gMul_l, gMul_r, gMod, gFdiv, gNeg, gLt, gLe, gGt, gGe, gInt, gIx, gEq_int, gEq_str, gEq_bl, gNe_int, gNe_str, gNe_bl, gIsN, gNotN, getQ, getL, gSetL, ↓nSubL, gDivmod, gMin2, gMax2, ↓mkDef, ↓mkNew, startP, finF, finO, finV_tup, finV_int, finV_bl, finV_lst, finV_non, finV_str, finV_ref, ↓eChain, tyP, gIsi, isiB, ↓iArgs, ↓iSeq, iterP, ↓fComp, wipeP, ↓eSl, ↓oNone, ↓oSome, gSl, ↓eMeth0, ↓eMeth1, ixN, atI0, atI1, atI2, atI3, List.length_cons, List.length_nil, List.map_cons, List.map_nil, List.replicate, List.cons_append, List.nil_append, List.append_nil, List.getElem?_cons_zero, List.getElem?_cons_succ, List.getElem?_nil, List.set_cons_zero, List.set_cons_succ, List.set_nil, List.length_set, List.length_append, Nat.add_sub_cancel, Nat.reduceAdd, Nat.reduceSub, Nat.reduceLT, Nat.reduceEqDiff, Nat.reduceLeDiff, Nat.le_refl, Nat.zero_le, if_true, if_false, ↓reduceIte, decide_eq_true_eq, Bool.false_eq_true, Bool.true_eq_false, Bool.not_true, Bool.not_false, Option.isSome_some, forall_const, not_true_eq_false, not_false_eq_true, imp_self, false_implies, true_implies, implies_true, and_true, true_and, Int.toNat_zero, Nat.zero_add, Int.reduceLE, Int.reduceLT, Int.reduceNeg, Int.reduceToNat, Int.reducePow, Int.reduceGT, Int.cast_ofNat_Int, true_or, or_true, Int.ofNat_eq_natCast, decide_true, decide_false, Int.reduceEq, List.isEmpty_cons, List.isEmpty_nil, eDGet1,  keyP, Option.map_some, Option.map_none, Option.getD_some, Option.isSome_some, reduceCtorEq, and_self,  allPure_nil, allPure_cons, Bool.and_true, Bool.true_and, Bool.false_and, Bool.and_false, Bool.not_eq_true, Bool.not_eq_false, gTupP_nil, gLstP_nil, gTupP_ok, gLstP_ok, isRef_tup, isRef_int, isRef_str, isRef_bl, Bool.or_false, Bool.or_true, Bool.true_or, Bool.false_or, $a,*])

/-! ### the same -/
inductive Dt : Nat → PV → Prop
  | int {k : Nat} {i : Int} : Dt (k + 1) (.int i)
  | str {k : Nat} {x : Str} : Dt (k + 1) (.str x)
  | tup {k : Nat} {xs : List PV} : (∀ x ∈ xs, Dt k x) → xs.length ≤ 1000 → Dt (k + 1) (.tup xs)
theorem Dt.up {k : Nat} {p : PV} (h : Dt k p) : Dt (k + 1) p := by
  induction h with
  | int => exact .int
  | str => exact .str
  | tup _ hl ih => exact .tup ih hl
theorem Dt.le {k m : Nat} {p : PV} (h : Dt k p) (hm : k ≤ m) : Dt m p := by
  induction hm with
  | refl => exact h
  | step _ ih => exact ih.up
theorem zip_self : ∀ xs : List PV, zipP xs xs = xs.map fun x => .tup [x, x]
  | [] => rfl
  | x :: xs => by rw [zipP, zip_self xs]; rfl
theorem same_eq : ∀ (k : Nat) (p : PV) (S : Sto), Dt k p → m__law_same k [p, p] S = .ok (.bl true) S
  | 0, p, S, h => by cases h
  | k + 1, p, S, h => by
    refine eqn ?_
    rw [m__law_same]
    unfold b__law_same
    cases h with
    | @int _ i => simp! only [take_self]
    | @str _ x => simp! only [take_self]
    | @tup _ xs hx hl =>
      have e1 : compF (nTup 2 (nCons (nName 2) (nCons (nName 3) nNil))) tYesE (eArgs (m__law_same k) (aCons (eVar 2) (aCons (eVar 3) aNil))) [some (.tup xs), some (.tup xs), none, none] (zipP xs xs) [] S = .ok (.lst (xs.map fun _ => .bl true)) S := by
        rw [zip_self]
        refine compF_gen0 _ (fun x hq => ⟨[some (.tup xs), some (.tup xs), some x, some x], rfl, ?_, rfl⟩) (by omega)
        refine eqn ?_
        simp! only [same_eq k x S (hx x hq)]
      have gz : gZip [.tup xs, .tup xs] S = .ok (zipP xs xs) S := rfl
      simp! only [gLen_tup, gz, wipe2, e1, gAll_trueA, take_self]
theorem enc_Dt (hD : DOk D) {t : T} (h : V D t) : ∀ k : Nat, dep t + 1 ≤ k → Dt k (enc t) := by
  induction h with
  | @lf w xs hl =>
    intro k hk
    simp only [dep] at hk
    have hx : xs.length ≤ 200 := by
      rcases hl with ⟨_, j, ks, rfl, _, _, h, _⟩ | ⟨_, i, rfl, _⟩ | ⟨_, i, rfl, _⟩ <;> simp <;> omega
    obtain ⟨m, rfl⟩ : ∃ m, k = m + 2 := ⟨k - 2, by omega⟩
    rw [enc]
    refine .tup (fun x hx => ?_) (by simp; omega)
    rcases List.mem_cons.mp hx with e | e
    · subst e; exact .str
    · obtain ⟨i, _, rfl⟩ := List.mem_map.mp e; exact .int
  | @nd w ns ps h1 h2 h3 ih =>
    intro k hk
    simp only [dep] at hk
    have := deps_nn ps
    have nm := hD.nm _ _ h1
    obtain ⟨m, rfl⟩ : ∃ m, k = m + 1 := ⟨k - 1, by omega⟩
    rw [enc]
    refine .tup (fun x hx => ?_) (by have := encs_len ps; simp; omega)
    rcases List.mem_cons.mp hx with e | e
    · subst e
      obtain ⟨n, rfl⟩ : ∃ n, m = n + 1 := ⟨m - 1, by omega⟩
      exact .str
    · rw [encs_map] at e
      obtain ⟨p, hp, rfl⟩ := List.mem_map.mp e
      exact ih p hp m (by have := mem_deps hp; omega)
/-! ### leaves -/
theorem gCat_eq {S : Sto} {m : Nat} {xs ys : List PV} (h : S[m]? = some (.lst xs)) (hl : xs.length + ys.length ≤ 5000) : gCat (.ref m) (.lst ys) S = .ok (.lst (xs ++ ys)) S := by
  unfold gCat
  simp only [getL, h]
  rw [if_pos (size_1000 hl)]
def lvP (pl : List Int) (q : Lv) : PV := .tup [.tup ((pl ++ q.1).map .int), .int q.2.1]
mutual
theorem lv_len : ∀ (t : T) (d : Int), (lv t d).length ≤ sz t
  | .lf w xs, d => by simp [lv, sz]
  | .nd w ns ps, d => by have := lvs_len ps ns 0 d; simp only [lv, sz]; omega
theorem lvs_len : ∀ (ps : List T) (ns : List Int) (i : Nat) (d : Int), (lvs ps ns i d).length ≤ szs ps
  | [], ns, i, d => by simp [lvs]
  | p :: ps, [], i, d => by simp [lvs]
  | p :: ps, n :: ns, i, d => by
    have h1 := lv_len p (d + n)
    have h2 := lvs_len ps ns (i + 1) d
    simp only [lvs, List.length_append, List.length_map, szs]; omega
end
theorem sz_le_szs {p : T} : ∀ {ps : List T}, p ∈ ps → sz p ≤ szs ps
  | q :: ps, h => by
    rcases List.mem_cons.mp h with e | e
    · subst e; simp only [szs]; omega
    · have := sz_le_szs e; simp only [szs]; omega
abbrev leavesB (m_self : Fn) : Es := (sAsg (eNew (eOp gCat (eVar 4) (eArgs m_self (aCons (eVar 0) (aCons (eOp gIx (eVar 1) (eOp gAdd (eVar 5) (eC (.int 1)))) (aCons (eOp gAdd (eVar 2) (eArgs gTupP (aCons (eVar 5) aNil))) (aCons (eOp gAdd (eVar 3) (eVar 6)) aNil))))))) (nName 4))
theorem leaves_eq {b : List Fm} (hD : DOk (dOf CD b)) : ∀ (k : Nat) (t : T) (pl : List Int) (d : Int) (S : Sto), dep t ≤ k → V (dOf CD b) t → sz t ≤ 1000 → pl.length + k ≤ 1000 → m__law_leaves k [bookP b, enc t, .tup (pl.map .int), .int d] S = .ok (.lst ((lv t d).map (lvP pl))) S
  | 0, t, pl, d, S, h, _, _, _ => by have := dep_pos t; omega
  | k + 1, .lf w xs, pl, d, S, h, hv, hs, hp => by
    cases hv with
    | lf hl =>
    have hw := hl.lw
    have nl : ¬ S.length < S.length := by omega
    refine eqn ?_
    rw [m__law_leaves, enc]
    unfold b__law_leaves
    simp! only [in_LW, hw, nl, get_last, take_app, lv, lvP]
  | k + 1, .nd w ns ps, pl, d, S, h, hv, hs, hp => by
    cases hv with
    | nd h1 h2 h3 =>
    have hw := hD.lw _ _ h1
    have loop : ∀ (qs : List T) (ms : List Int) (i : Nat) (m : Nat) (acc : List PV) (X : Sto) (x5 x6 : Option PV), ps.drop i = qs → (S ++ X)[m]? = some (.lst acc) → S.length ≤ m → acc.length + szs qs ≤ 1000 → qs.length = ms.length →
        WP (forF (nTup 2 (nCons (nName 5) (nCons (nName 6) nNil))) (leavesB (m__law_leaves k)) (enumP i (ms.map .int)) [some (bookP b), some (.tup (.str w :: encs ps)), some (.tup (pl.map .int)), some (.int d), some (.ref m), x5, x6] (S ++ X))
          fun fl S' => ∃ (m' : Nat) (X' : Sto) (x5 x6 : Option PV), fl = .nx [some (bookP b), some (.tup (.str w :: encs ps)), some (.tup (pl.map .int)), some (.int d), some (.ref m'), x5, x6] ∧ S' = S ++ X' ∧ S.length ≤ m' ∧ (S ++ X')[m']? = some (.lst (acc ++ (lvs qs ms i d).map (lvP pl))) := by
      intro qs ms
      induction ms generalizing qs with
      | nil =>
        intro i m acc X x5 x6 e1 e2 e3 e4 hq
        rw [List.map_nil, enumP, forF]
        simp! only []
        refine ⟨m, X, x5, x6, rfl, rfl, e3, ?_⟩
        cases qs with
        | nil => simpa [lvs] using e2
        | cons => simp at hq
      | cons n ms ih =>
        intro i m acc X x5 x6 e1 e2 e3 e4 hq
        cases qs with
        | nil => simp at hq
        | cons p qs =>
          have hpi : ps[i]? = some p := by
            have := congrArg List.head? e1
            simpa [List.head?_drop] using this
          have hpm := (getE hpi).2
          have rec_ := leaves_eq hD k p (pl ++ [(i : Int)]) (d + n) (S ++ X) (by have := mem_deps hpm; simp only [dep] at h; omega) (h3 p hpm) (by have := sz_le_szs hpm; simp only [sz] at hs; omega) (by simp; omega)
          have a1 : atI (.str w :: encs ps) ((i : Int) + 1) = some (enc p) := by rw [atI_s2 (by omega)]; simpa using encs_get hpi
          have hlv := lv_len p (d + n)
          simp only [szs] at e4
          have c1 : gCat (.ref m) (.lst ((lv p (d + n)).map (lvP (pl ++ [(i : Int)])))) (S ++ X) = .ok (.lst (acc ++ (lv p (d + n)).map (lvP (pl ++ [(i : Int)])))) (S ++ X) := gCat_eq e2 (by simp; omega)
          have ga : gAdd (.tup (pl.map .int)) (.tup [.int (i : Int)]) (S ++ X) = .ok (.tup ((pl ++ [(i : Int)]).map .int)) (S ++ X) := by
            rw [gAdd_tup (by simp; omega)]; simp
          rw [List.map_cons, enumP, forF]
          simp! only [a1, ga, rec_, c1]
          rw [List.append_assoc, show S.length + X.length = (S ++ X).length by simp]
          have ih' := ih qs (i + 1) (S ++ X).length (acc ++ (lv p (d + n)).map (lvP (pl ++ [(i : Int)]))) (X ++ [.lst (acc ++ (lv p (d + n)).map (lvP (pl ++ [(i : Int)])))]) (some (.int (i : Int))) (some (.int n)) (by rw [← List.drop_drop, e1]; rfl) (by rw [← List.append_assoc]; exact get_last) (by simp) (by simp; omega) (by simpa using hq)
          refine wp_of ih' fun fl S' ⟨m', X', y5, y6, g1, g2, g3, g4⟩ => ⟨m', X', y5, y6, g1, g2, g3, ?_⟩
          rw [g4, lvs]
          simp [lvP, Function.comp_def]
    have ge : ∀ S : Sto, gEnum [.tup (ns.map .int)] S = .ok (enumP 0 (ns.map .int)) S := fun S => rfl
    refine eqn ?_
    rw [m__law_leaves, enc]
    unfold b__law_leaves
    simp! only [in_LW, hw, law_names_some h1, ge]
    have := loop ps ns 0 S.length [] [.lst []] none none rfl get_last (Nat.le_refl _) (by simp only [sz] at hs; simp; omega) h2
    refine wp_of this fun fl S' ⟨m', X', y5, y6, g1, g2, g3, g4⟩ => ?_
    subst g1 g2
    have nl : ¬ m' < S.length := by omega
    simp! only [nl, g4, List.take_left, lv]
end G04
set_option Elab.async false
set_option maxRecDepth 100000
set_option maxHeartbeats 1000000
set_option linter.all false
namespace G04
open PySem PySem.Spec PyProof.Rows L2 Py
variable {D : List (Str × List Int)}
local macro_rules
  | `(tactic| simp! only [$a,*]) => `(tactic| simp only [wp_ok, wp_no, ↓wp_bind, ↓R.bind_ok, ↓sSeq, ↓sNil, ↓sSet, ↓sAsg, ↓sIf, ↓sRet, ↓sExpr, ↓sPar, ↓sPar3, ↓sFor, ↓nName, ↓nTup, ↓nCons, ↓nNil, ↓nNs, ↓eVar, ↓eC, ↓eOp, ↓eUn, ↓eArgs, ↓eNew, ↓aCons, ↓aNil, ↓tV, ↓tT, toB, truP, ↓tNotE, ↓tAndE, ↓tOrE, ↓tYesE, ↓eAndV, ↓eOrV, ↓eNotV, ↓eNotT, ↓eIf, gAdd_int, gAdd_tup, Py.gSub, gMul_l, gMul_r, gMod, gFdiv, gNeg, gLt, gLe, gGt, gGe, gInt, gIx, gEq_int, gEq_str, gEq_bl, gNe_int, gNe_str, gNe_bl, gIsN, gNotN, getQ, getL, gSetL, ↓nSubL, gDivmod, gMin2, gMax2, ↓mkDef, ↓mkNew, startP, finF, finO, finV_tup, finV_int, finV_bl, finV_lst, finV_non, finV_str, finV_ref, ↓eChain, tyP, gIsi, isiB, ↓iArgs, ↓iSeq, iterP, ↓fComp, wipeP, ↓eSl, ↓oNone, ↓oSome, gSl, ↓eMeth0, ↓eMeth1, ixN, atI0, atI1, atI2, atI3, List.length_cons, List.length_nil, List.map_cons, List.map_nil, List.replicate, List.cons_append, List.nil_append, List.append_nil, List.getElem?_cons_zero, List.getElem?_cons_succ, List.getElem?_nil, List.set_cons_zero, List.set_cons_succ, List.set_nil, List.length_set, List.length_append, Nat.add_sub_cancel, Nat.reduceAdd, Nat.reduceSub, Nat.reduceLT, Nat.reduceEqDiff, Nat.reduceLeDiff, Nat.le_refl, Nat.zero_le, if_true, if_false, ↓reduceIte, decide_eq_true_eq, Bool.false_eq_true, Bool.true_eq_false, Bool.not_true, Bool.not_false, Option.isSome_some, forall_const, not_true_eq_false, not_false_eq_true, imp_self, false_implies, true_implies, implies_true, and_true, true_and, Int.toNat_zero, Nat.zero_add, Int.reduceLE, Int.reduceLT, Int.reduceNeg, Int.reduceToNat, Int.reducePow, Int.reduceGT, Int.cast_ofNat_Int, true_or, or_true, Int.ofNat_eq_natCast, decide_true, decide_false, Int.reduceEq, List.isEmpty_cons, List.isEmpty_nil, eDGet1,  keyP, Option.map_some, Option.map_none, Option.getD_some, Option.isSome_some, reduceCtorEq, and_self,  allPure_nil, allPure_cons, Bool.and_true, Bool.true_and, Bool.false_and, Bool.and_false, Bool.not_eq_true, Bool.not_eq_false, gTupP_nil, gLstP_nil, gTupP_ok, gLstP_ok, isRef_tup, isRef_int, isRef_str, isRef_bl, Bool.or_false, Bool.or_true, Bool.true_or, Bool.false_or, $a,*])

theorem finV_of {n : Nat} {S' : Sto} {p : PV} (h : p.isRef = false) (e : S'.length = n) : finV n p S' = .ok p S' := by
  rw [finV_pure h, List.take_of_length_le (by omega)]
theorem atI_pos {α : Type} {l : List α} {k : Int} (h : 0 ≤ k) : atI l k = l[k.toNat]? := by
  have := atI_nat (l := l) (i := k.toNat)
  rwa [Int.toNat_of_nonneg h] at this
theorem gIx_tup {l : List PV} {k : Int} {x : PV} {S : Sto} (h : atI l k = some x) : gIx (.tup l) (.int k) S = .ok x S := by
  simp only [gIx, getQ, h]
theorem gIx_lst {l : List PV} {k : Int} {x : PV} {S : Sto} (h : atI l k = some x) : gIx (.lst l) (.int k) S = .ok x S := by
  simp only [gIx, getQ, getL, h]
theorem pick_tup {n : Nat} {S : Sto} {xs : List PV} (hw : Well S n) (h : 0 < xs.length) (hl : xs.length ≤ 5000) (hr : ∀ x ∈ xs, x.isRef = false) : WP (m__law_pick [.ref n, .tup xs] S) fun p S' => p ∈ xs ∧ Wl n S S' := by
  unfold m__law_pick b__law_pick
  simp! only [gLen_tup]
  refine wp_of (draw_ok hw (m := xs.length) (by omega) (by omega)) fun p S' ⟨k, e, h0, h1, h2⟩ => ?_
  subst e
  have hk : k.toNat < xs.length := by omega
  have a1 : atI xs k = some xs[k.toNat] := by
    rw [atI_pos h0]; simp [hk]
  have fp := finV_of (S' := S') (hr _ (List.getElem_mem hk)) h2.len
  simp! only [a1, fp]
  exact ⟨List.getElem_mem hk, h2⟩
theorem pick_lst {n : Nat} {S : Sto} {xs : List PV} (hw : Well S n) (h : 0 < xs.length) (hl : xs.length ≤ 5000) (hr : ∀ x ∈ xs, x.isRef = false) : WP (m__law_pick [.ref n, .lst xs] S) fun p S' => p ∈ xs ∧ Wl n S S' := by
  unfold m__law_pick b__law_pick
  simp! only [gLen_lst]
  refine wp_of (draw_ok hw (m := xs.length) (by omega) (by omega)) fun p S' ⟨k, e, h0, h1, h2⟩ => ?_
  subst e
  have hk : k.toNat < xs.length := by omega
  have a1 : atI xs k = some xs[k.toNat] := by
    rw [atI_pos h0]; simp [hk]
  have fp := finV_of (S' := S') (hr _ (List.getElem_mem hk)) h2.len
  simp! only [a1, fp]
  exact ⟨List.getElem_mem hk, h2⟩
theorem take_len {S S' : Sto} (h : S'.length = S.length) : S'.take S.length = S' := List.take_of_length_le (by omega)
theorem number_ok {n : Nat} {S : Sto} (hw : Well S n) : WP (m__law_number [.ref n] S) fun p S' => ∃ i : Int, p = enc (.lf "number" [i]) ∧ -999999999 ≤ i ∧ i ≤ 999999999 ∧ Wl n S S' := by
  unfold m__law_number b__law_number
  simp! only []
  refine wp_of (draw_ok hw (m := 24) (by omega) (by omega)) fun p S1 ⟨k, e, h0, h1, w1⟩ => ?_
  subst e
  by_cases c1 : k = 23
  · simp! only [c1]
    refine wp_of (draw_ok w1.w (m := 3) (by omega) (by omega)) fun p S2 ⟨j, e, h2, h3, w2⟩ => ?_
    subst e
    have w := w1.trans w2
    simp! only [take_len w.len]
    exact ⟨999999999 - j, by simp [enc], by omega, by omega, w⟩
  by_cases c2 : k = 22
  · subst c2
    simp! only []
    refine wp_of (draw_ok w1.w (m := 3) (by omega) (by omega)) fun p S2 ⟨j, e, h2, h3, w2⟩ => ?_
    subst e
    have w := w1.trans w2
    simp! only [take_len w.len]
    exact ⟨j - 999999999, by simp [enc], by omega, by omega, w⟩
  by_cases c3 : k = 21
  · subst c3
    simp! only []
    refine wp_of (draw_ok w1.w (m := 1999999999) (by omega) (by omega)) fun p S2 ⟨j, e, h2, h3, w2⟩ => ?_
    subst e
    have w := w1.trans w2
    simp! only [take_len w.len]
    exact ⟨j - 999999999, by simp [enc], by omega, by omega, w⟩
  simp! only [c1, c2, c3]
  refine wp_of (draw_ok w1.w (m := 10) (by omega) (by omega)) fun p S2 ⟨j, e, h2, h3, w2⟩ => ?_
  subst e
  have w := w1.trans w2
  have a1 : ∃ i : Int, atI [PV.int 0, .int 1, .int 2, .int 3, .int 1, .int (-1), .int 5, .int 0, .int (-2), .int 7] j = some (.int i) ∧ -999999999 ≤ i ∧ i ≤ 999999999 := by
    have : j = 0 ∨ j = 1 ∨ j = 2 ∨ j = 3 ∨ j = 4 ∨ j = 5 ∨ j = 6 ∨ j = 7 ∨ j = 8 ∨ j = 9 := by omega
    rcases this with h | h | h | h | h | h | h | h | h | h <;> subst h <;> refine ⟨_, rfl, by decide, by decide⟩
  obtain ⟨i, a1, a2, a3⟩ := a1
  simp! only [a1, take_len w.len]
  exact ⟨i, by simp [enc], a2, a3, w⟩
theorem gRange_eq {j : Int} {S : Sto} (h : -1000000 ≤ j) (h2 : j ≤ 1000000) : Py.gRange [.int j] S = .ok (Py.intsFrom 0 j.toNat) S := by
  show (if -(2 ^ 62) ≤ j ∧ j < 2 ^ 62 then R.ok (Py.intsFrom 0 j.toNat) S else .no) = _
  rw [if_pos (by omega)]
/-! ### a drawn place -/
theorem sub_snoc {pl : List Int} {t : T} {w : Str} {ns : List Int} {ps : List T} {p : T} {i : Nat} (e : sub pl t = some (.nd w ns ps)) (h : ps[i]? = some p) : sub (pl ++ [(i : Int)]) t = some p :=
  sub_app e (by rw [sub_nd (by omega) (by simpa using h)]; rfl)
theorem atI_last {α : Type} {l : List α} {x : α} : atI (l ++ [x]) (-1) = some x := by
  unfold atI ixN
  rw [if_neg (by omega), if_pos (by simp; omega)]
  simp
  have : ((-1 : Int) + (((l.length : Nat) : Int) + 1)).toNat = l.length := by omega
  simp [this]
end G04
set_option Elab.async false
set_option maxRecDepth 100000
set_option maxHeartbeats 1000000
set_option linter.all false
namespace G04
open PySem PySem.Spec PyProof.Rows L2 Py
variable {D : List (Str × List Int)}
local macro_rules
  | `(tactic| simp! only [$a,*]) => `(tactic| simp only [wp_ok, wp_no, ↓wp_bind, ↓R.bind_ok, ↓sSeq, ↓sNil, ↓sSet, ↓sAsg, ↓sIf, ↓sRet, ↓sExpr, ↓sPar, ↓sPar3, ↓sFor, ↓nName, ↓nTup, ↓nCons, ↓nNil, ↓nNs, ↓eVar, ↓eC, ↓eOp, ↓eUn, ↓eArgs, ↓eNew, ↓aCons, ↓aNil, ↓tV, ↓tT, toB, truP, ↓tNotE, ↓tAndE, ↓tOrE, ↓tYesE, ↓eAndV, ↓eOrV, ↓eNotV, ↓eNotT, ↓eIf, gAdd_int, gAdd_tup, Py.gSub, gMul_l, gMul_r, gMod, gFdiv, gNeg, gLt, gLe, gGt, gGe, gInt, gIx, gEq_int, gEq_str, gEq_bl, gNe_int, gNe_str, gNe_bl, gIsN, gNotN, getQ, getL, gSetL, ↓nSubL, gDivmod, gMin2, gMax2, ↓mkDef, ↓mkNew, startP, finF, finO, finV_tup, finV_int, finV_bl, finV_lst, finV_non, finV_str, finV_ref, ↓eChain, tyP, gIsi, isiB, ↓iArgs, ↓iSeq, iterP, ↓fComp, wipeP, ↓eSl, ↓oNone, ↓oSome, gSl, ↓eMeth0, ↓eMeth1, ixN, atI0, atI1, atI2, atI3, List.length_cons, List.length_nil, List.map_cons, List.map_nil, List.replicate, List.cons_append, List.nil_append, List.append_nil, List.getElem?_cons_zero, List.getElem?_cons_succ, List.getElem?_nil, List.set_cons_zero, List.set_cons_succ, List.set_nil, List.length_set, List.length_append, Nat.add_sub_cancel, Nat.reduceAdd, Nat.reduceSub, Nat.reduceLT, Nat.reduceEqDiff, Nat.reduceLeDiff, Nat.le_refl, Nat.zero_le, if_true, if_false, ↓reduceIte, decide_eq_true_eq, Bool.false_eq_true, Bool.true_eq_false, Bool.not_true, Bool.not_false, Option.isSome_some, forall_const, not_true_eq_false, not_false_eq_true, imp_self, false_implies, true_implies, implies_true, and_true, true_and, Int.toNat_zero, Nat.zero_add, Int.reduceLE, Int.reduceLT, Int.reduceNeg, Int.reduceToNat, Int.reducePow, Int.reduceGT, Int.cast_ofNat_Int, true_or, or_true, Int.ofNat_eq_natCast, decide_true, decide_false, Int.reduceEq, List.isEmpty_cons, List.isEmpty_nil, eDGet1,  keyP, Option.map_some, Option.map_none, Option.getD_some, Option.isSome_some, reduceCtorEq, and_self,  allPure_nil, allPure_cons, Bool.and_true, Bool.true_and, Bool.false_and, Bool.and_false, Bool.not_eq_true, Bool.not_eq_false, gTupP_nil, gLstP_nil, gTupP_ok, gLstP_ok, isRef_tup, isRef_int, isRef_str, isRef_bl, Bool.or_false, Bool.or_true, Bool.true_or, Bool.false_or, $a,*])

theorem Wl.eq {n : Nat} {S S' : Sto} (h : Wl n S S') : ∃ a b c : Int, S' = S.set n (.lst [.int a, .int b, .int c]) := by
  obtain ⟨a, b, c, e⟩ := h.w
  have hn := h.w.lt
  refine ⟨a, b, c, List.ext_getElem? fun i => ?_⟩
  by_cases hi : i = n
  · subst hi
    rw [e, List.getElem?_set_self (by have := h.len; omega)]
  · rw [h.same i hi, List.getElem?_set_ne (Ne.symm hi)]
theorem Wl.split {n : Nat} {S X S' : Sto} (h : Wl n (S ++ X) S') (hn : n < S.length) : ∃ S1, S' = S1 ++ X ∧ Wl n S S1 := by
  obtain ⟨a, b, c, e⟩ := h.eq
  refine ⟨S.set n (.lst [.int a, .int b, .int c]), ?_, Wl.set hn⟩
  rw [e, List.set_append_left _ _ hn]
theorem Well.app {S X : Sto} {n : Nat} (h : Well S n) : Well (S ++ X) n := by
  obtain ⟨a, b, c, e⟩ := h
  exact ⟨a, b, c, by rw [List.getElem?_append_left (List.getElem?_eq_some_iff.mp e).1]; exact e⟩
theorem gPopAt_eq {S : Sto} {m : Nat} {xs : List PV} {i : Int} (h : S[m]? = some (.lst xs)) (h0 : 0 ≤ i) (h1 : i < xs.length) (h2 : xs.length ≤ 5000) : gPopAt (.ref m) (.int i) S = .ok (xs[i.toNat]'(by omega)) (S.set m (.lst (xs.eraseIdx i.toNat))) := by
  unfold gPopAt
  have hx : xs[i.toNat]? = some (xs[i.toNat]'(by omega)) := List.getElem?_eq_getElem (by omega)
  simp only [h, seqIndex_of h0 h1, hx]
  rw [if_pos (by omega)]
theorem map_erase {α β : Type} (f : α → β) : ∀ (l : List α) (i : Nat), (l.map f).eraseIdx i = (l.eraseIdx i).map f
  | [], i => by simp
  | x :: l, 0 => by simp
  | x :: l, i + 1 => by simp [map_erase f l i]
theorem erase_perm {α : Type} : ∀ {l : List α} {i : Nat} (h : i < l.length), (l[i] :: l.eraseIdx i).Perm l
  | x :: l, 0, h => by simp
  | x :: l, i + 1, h => by
    have := erase_perm (l := l) (i := i) (by simpa using h)
    simp only [List.getElem_cons_succ, List.eraseIdx_cons_succ]
    exact (List.Perm.swap x _ _).trans (this.cons x)
abbrev toldB : Es := (sExpr (eMeth1 gApp (eVar 4) (eMeth1 gPopAt (eVar 3) (eArgs m__law_draw (aCons (eVar 0) (aCons (eArgs gLen (aCons (eVar 3) aNil)) aNil))))))
theorem told_loop {n : Nat} {S0 : Sto} {a1 a2 : Option PV} {dp : Int} : ∀ (items : List PV) (S : Sto) (L F : List Int) (x5 : Option PV), Well S n → S.length = S0.length → items.length ≤ L.length → (F ++ L).Nodup → (∀ x ∈ F ++ L, 0 ≤ x ∧ x < dp) → F.length + L.length ≤ 1000 →
    WP (forF (nName 5) toldB items [some (.ref n), a1, a2, some (.ref S0.length), some (.ref (S0.length + 1)), x5] (S ++ [.lst (L.map .int)] ++ [.lst (F.map .int)])) fun fl S' => ∃ (S1 : Sto) (L1 F1 : List Int) (x5 : Option PV), fl = .nx [some (.ref n), a1, a2, some (.ref S0.length), some (.ref (S0.length + 1)), x5] ∧ S' = S1 ++ [.lst (L1.map .int)] ++ [.lst (F1.map .int)] ∧ Wl n S S1 ∧ F1.Nodup ∧ (∀ x ∈ F1, 0 ≤ x ∧ x < dp) ∧ F1.length = F.length + items.length
  | [], S, L, F, x5, hw, hS, hi, nd, hr, hl => by
    rw [forF]
    simp! only []
    exact ⟨S, L, F, x5, rfl, rfl, Wl.refl hw, (List.nodup_append.mp nd).1, fun x hx => hr x (by simp [hx]), by simp⟩
  | it :: items, S, L, F, x5, hw, hS, hi, nd, hr, hl => by
    rw [forF, ← hS]
    simp only [List.length_cons] at hi
    simp! only [g2a, g2b, isLst_of g2a, isLst_of g2b]
    have gl : gLen [.ref S.length] (S ++ [.lst (L.map .int)] ++ [.lst (F.map .int)]) = .ok (.int (L.length : Nat)) (S ++ [.lst (L.map .int)] ++ [.lst (F.map .int)]) := by
      simp [gLen, getQ, getL]
    simp! only [gl]
    have hw2 : Well (S ++ [.lst (L.map .int)] ++ [.lst (F.map .int)]) n := hw.app.app
    refine wp_of (draw_ok hw2 (m := L.length) (by omega) (by omega)) fun p S2 ⟨k, ek, h0, h1, w1⟩ => ?_
    subst ek
    rw [List.append_assoc] at w1
    obtain ⟨S1, rfl, w2⟩ := w1.split hw.lt
    rw [← List.append_assoc] at *
    have hk : k.toNat < L.length := by omega
    have e1 : gPopAt (.ref S.length) (.int k) (S1 ++ [.lst (L.map .int)] ++ [.lst (F.map .int)]) = .ok (.int L[k.toNat]) (S1 ++ [.lst ((L.eraseIdx k.toNat).map .int)] ++ [.lst (F.map .int)]) := by
      rw [← w2.len, gPopAt_eq g2a h0 (by simpa using h1) (by simp; omega), s2a]
      simp [map_erase]
    have e2 : gApp (.ref (S.length + 1)) (.int L[k.toNat]) (S1 ++ [.lst ((L.eraseIdx k.toNat).map .int)] ++ [.lst (F.map .int)]) = .ok .non (S1 ++ [.lst ((L.eraseIdx k.toNat).map .int)] ++ [.lst ((F ++ [L[k.toNat]]).map .int)]) := by
      rw [← w2.len, gApp_eq g2b rfl (by simp; omega), s2b]
      simp
    simp! only [e1, e2]
    have perm : ((F ++ [L[k.toNat]]) ++ L.eraseIdx k.toNat).Perm (F ++ L) := by
      rw [List.append_assoc]
      exact List.Perm.append_left F (erase_perm hk)
    have hle : (L.eraseIdx k.toNat).length = L.length - 1 := by rw [List.length_eraseIdx]; simp [hk]
    have := told_loop (n := n) (S0 := S0) (a1 := a1) (a2 := a2) (dp := dp) items S1 (L.eraseIdx k.toNat) (F ++ [L[k.toNat]]) (some it) w2.w (by rw [w2.len, hS]) (by omega) (perm.nodup_iff.mpr nd) (fun x hx => hr x (perm.mem_iff.mp hx)) (by simp; omega)
    rw [hS]
    refine wp_of this fun fl S' ⟨S3, L1, F1, y5, g1, g2, g3, g4, g5, g6⟩ => ⟨S3, L1, F1, y5, g1, g2, w2.trans g3, g4, g5, ?_⟩
    simp at g6 ⊢; omega
theorem rgI_mem {n : Nat} {x : Int} (h : x ∈ rgI n) : 0 ≤ x ∧ x < n := by
  obtain ⟨i, hi, rfl⟩ := List.mem_map.mp h
  have := List.mem_range.mp hi
  omega
theorem rgI_nd (n : Nat) : (rgI n).Nodup := by
  unfold rgI
  exact List.Pairwise.map _ (fun a b (h : a ≠ b) => by intro e; exact h (by omega)) List.nodup_range
theorem ints_rg (n : Nat) : Py.intsFrom 0 n = (rgI n).map PV.int := by simp [Py.intsFrom, rgI, Function.comp_def]
theorem told_ok {n : Nat} {S : Sto} {dp mx : Int} (hw : Well S n) (hd : 0 ≤ dp) (hd2 : dp ≤ 500) (hm : mx ≤ 500) (hm2 : -500 ≤ mx) : WP (m__law_told [.ref n, .int dp, .int mx] S) fun p S' => Wl n S S' ∧ ∃ ks : List Int, p = .tup (ks.map .int) ∧ ks.Nodup ∧ (∀ k ∈ ks, 0 ≤ k ∧ k < dp) ∧ (ks.length : Int) ≤ max mx 0 := by
  have e0 : gLstRg (.int dp) S = .ok (.lst ((rgI dp.toNat).map .int)) S := by
    unfold gLstRg
    simp only []
    rw [if_pos (by omega), ints_rg]
  have gr : ∀ (S : Sto) (x : Int), x = (if dp < mx then dp else mx) → Py.gRange [.int x] S = .ok (Py.intsFrom 0 x.toNat) S := fun S x hx => by
    split at hx <;> subst hx <;> exact gRange_eq (by omega) (by omega)
  unfold m__law_told b__law_told
  simp! only [e0, gr]
  have := told_loop (n := n) (S0 := S) (a1 := some (.int dp)) (a2 := some (.int mx)) (dp := dp) (Py.intsFrom 0 (if dp < mx then dp else mx).toNat) S (rgI dp.toNat) [] none hw rfl (by simp [Py.intsFrom, rgI]; split <;> omega) (by simpa using rgI_nd _) (fun x hx => by have := rgI_mem (by simpa using hx); omega) (by simp [rgI]; omega)
  refine wp_of this fun fl S' ⟨S1, L1, F1, x5, g1, g2, g3, g4, g5, g6⟩ => ?_
  subst g1 g2
  have gt : gTupOf [.ref (S.length + 1)] (S1 ++ [.lst (L1.map .int)] ++ [.lst (F1.map .int)]) = .ok (.tup (F1.map .int)) (S1 ++ [.lst (L1.map .int)] ++ [.lst (F1.map .int)]) := by
    rw [← g3.len]
    simp [gTupOf, getL]
  have tk : (S1 ++ [PV.lst (L1.map PV.int)] ++ [PV.lst (F1.map PV.int)]).take S.length = S1 := by rw [← g3.len]; exact take2
  simp! only [gt, tk]
  refine ⟨g3, F1, rfl, g4, g5, ?_⟩
  simp [Py.intsFrom] at g6
  split at g6 <;> omega
end G04
set_option Elab.async false
set_option maxRecDepth 100000
set_option maxHeartbeats 1000000
set_option linter.all false
namespace G04
open PySem PySem.Spec PyProof.Rows L2 Py
variable {D : List (Str × List Int)}
local macro_rules
  | `(tactic| simp! only [$a,*]) => `(tactic| simp only [wp_ok, wp_no, ↓wp_bind, ↓R.bind_ok, ↓sSeq, ↓sNil, ↓sSet, ↓sAsg, ↓sIf, ↓sRet, ↓sExpr, ↓sPar, ↓sPar3, ↓sFor, ↓nName, ↓nTup, ↓nCons, ↓nNil, ↓nNs, ↓eVar, ↓eC, ↓eOp, ↓eUn, ↓eArgs, ↓eNew, ↓aCons, ↓aNil, ↓tV, ↓tT, toB, truP, ↓tNotE, ↓tAndE, ↓tOrE, ↓tYesE, ↓eAndV, ↓eOrV, ↓eNotV, ↓eNotT, ↓eIf, gAdd_int, gAdd_tup, Py.gSub, gMul_l, gMul_r, gMod, gFdiv, gNeg, gLt, gLe, gGt, gGe, gInt, gIx, gEq_int, gEq_str, gEq_bl, gNe_int, gNe_str, gNe_bl, gIsN, gNotN, getQ, getL, gSetL, ↓nSubL, gDivmod, gMin2, gMax2, ↓mkDef, ↓mkNew, startP, finF, finO, finV_tup, finV_int, finV_bl, finV_lst, finV_non, finV_str, finV_ref, ↓eChain, tyP, gIsi, isiB, ↓iArgs, ↓iSeq, iterP, ↓fComp, wipeP, ↓eSl, ↓oNone, ↓oSome, gSl, ↓eMeth0, ↓eMeth1, ixN, atI0, atI1, atI2, atI3, List.length_cons, List.length_nil, List.map_cons, List.map_nil, List.replicate, List.cons_append, List.nil_append, List.append_nil, List.getElem?_cons_zero, List.getElem?_cons_succ, List.getElem?_nil, List.set_cons_zero, List.set_cons_succ, List.set_nil, List.length_set, List.length_append, Nat.add_sub_cancel, Nat.reduceAdd, Nat.reduceSub, Nat.reduceLT, Nat.reduceEqDiff, Nat.reduceLeDiff, Nat.le_refl, Nat.zero_le, if_true, if_false, ↓reduceIte, decide_eq_true_eq, Bool.false_eq_true, Bool.true_eq_false, Bool.not_true, Bool.not_false, Option.isSome_some, forall_const, not_true_eq_false, not_false_eq_true, imp_self, false_implies, true_implies, implies_true, and_true, true_and, Int.toNat_zero, Nat.zero_add, Int.reduceLE, Int.reduceLT, Int.reduceNeg, Int.reduceToNat, Int.reducePow, Int.reduceGT, Int.cast_ofNat_Int, true_or, or_true, Int.ofNat_eq_natCast, decide_true, decide_false, Int.reduceEq, List.isEmpty_cons, List.isEmpty_nil, eDGet1,  keyP, Option.map_some, Option.map_none, Option.getD_some, Option.isSome_some, reduceCtorEq, and_self,  allPure_nil, allPure_cons, Bool.and_true, Bool.true_and, Bool.false_and, Bool.and_false, Bool.not_eq_true, Bool.not_eq_false, gTupP_nil, gLstP_nil, gTupP_ok, gLstP_ok, isRef_tup, isRef_int, isRef_str, isRef_bl, Bool.or_false, Bool.or_true, Bool.true_or, Bool.false_or, $a,*])

/-- S' is S but for the well at n and the list of one number at m -/
structure W2 (n m : Nat) (S S' : Sto) (l : Int) : Prop where
  len : S'.length = S.length
  same : ∀ i, i ≠ n → i ≠ m → S'[i]? = S[i]?
  w : Well S' n
  l : S'[m]? = some (.lst [.int l])
theorem W2.of {n m : Nat} {S S' : Sto} {l : Int} (h : Wl n S S') (e : S[m]? = some (.lst [.int l])) (hm : m ≠ n) : W2 n m S S' l := ⟨h.len, fun i h1 _ => h.same i h1, h.w, by rw [h.same m hm]; exact e⟩
theorem W2.trans {n m : Nat} {S S1 S2 : Sto} {l1 l2 : Int} (h : W2 n m S S1 l1) (g : W2 n m S1 S2 l2) : W2 n m S S2 l2 := ⟨g.len.trans h.len, fun i h1 h2 => (g.same i h1 h2).trans (h.same i h1 h2), g.w, g.l⟩
theorem W2.wl {n m : Nat} {S S1 S2 : Sto} {l1 : Int} (h : W2 n m S S1 l1) (g : Wl n S1 S2) (hm : m ≠ n) : W2 n m S S2 l1 := h.trans (W2.of g h.l hm)
def LvsOk (P : Ld → Prop) : List T → List Int → Int → Prop
  | t :: ts, n :: ns, d => (∀ q ∈ lv t (d + n), P q.2) ∧ LvsOk P ts ns d
  | _, _, _ => True
theorem lvs_all {P : Ld → Prop} : ∀ (ts : List T) (ns : List Int) (i : Nat) (d : Int), LvsOk P ts ns d → ∀ q ∈ lvs ts ns i d, P q.2
  | [], ns, i, d, _, q, hq => by simp [lvs] at hq
  | t :: ts, [], i, d, _, q, hq => by simp [lvs] at hq
  | t :: ts, n :: ns, i, d, h, q, hq => by
    rw [lvs] at hq
    rcases List.mem_append.mp hq with z | z
    · obtain ⟨y, hy, rfl⟩ := List.mem_map.mp z
      exact h.1 y hy
    · exact lvs_all ts ns (i + 1) d h.2 q z
/-- what a drawn leaf is -/
def LfT (free ats : Int) (q : Ld) : Prop := (q.2.1 = "number") ∨ (q.2.1 = "name" ∧ ∃ i, q.2.2 = [i] ∧ i < q.1 + free) ∨ (q.2.1 = "at" ∧ 0 < ats)
structure TrOk (D : List (Str × List Int)) (free ats deep : Int) (left left' : Int) (t : T) : Prop where
  v : V D t
  lf : ∀ q ∈ lv t deep, LfT free ats q.2
  ln : len t = 1 + left - left'
  nn : 0 ≤ left → 0 ≤ left'
  le : left' ≤ left
structure TsOk (D : List (Str × List Int)) (free ats deep : Int) (left left' : Int) (ns : List Int) (ts : List T) : Prop where
  v : ∀ t ∈ ts, V D t
  lf : LvsOk (LfT free ats) ts ns deep
  ln : lens ts = ts.length + left - left'
  nn : 0 ≤ left → 0 ≤ left'
  le : left' ≤ left
  le2 : ts.length = ns.length
theorem tree_comp {b : List Fm} {n m : Nat} {deep free ats : Int} {mself : Fn} {x6 x7 x8 x9 x10 : Option PV} (K B : Int)
    (rec_ : ∀ (S : Sto) (dp left : Int), dp ≤ B → Well S n → S[m]? = some (.lst [.int left]) → left ≤ K → 0 ≤ left → WP (mself [.ref n, bookP b, .int dp, .ref m, .int free, .int ats] S) fun p S' => ∃ t left', p = enc t ∧ TrOk (dOf CD b) free ats dp left left' t ∧ W2 n m S S' left') :
    ∀ (ns : List Int) (acc : List PV) (S : Sto) (left : Int) (x11 : Option PV), Well S n → S[m]? = some (.lst [.int left]) → left ≤ K → 0 ≤ left → acc.length + ns.length ≤ 100 → (∀ k ∈ ns, deep + k ≤ B) →
      WP (compF (nName 11) tYesE (eArgs mself (aCons (eVar 0) (aCons (eVar 1) (aCons (eOp gAdd (eVar 2) (eVar 11)) (aCons (eVar 3) (aCons (eVar 4) (aCons (eVar 5) aNil))))))) [some (.ref n), some (bookP b), some (.int deep), some (.ref m), some (.int free), some (.int ats), x6, x7, x8, x9, x10, x11] (ns.map .int) acc S)
        fun p S' => ∃ ts left', p = .lst (acc ++ ts.map enc) ∧ TsOk (dOf CD b) free ats deep left left' ns ts ∧ W2 n m S S' left'
  | [], acc, S, left, x11, hw, hl, h1, h2, h3, hB => by
    rw [List.map_nil, compF]
    exact ⟨[], left, by simp, ⟨by simp, trivial, by simp [lens], id, Int.le_refl _, rfl⟩, ⟨rfl, fun _ _ _ => rfl, hw, hl⟩⟩
  | k :: ns, acc, S, left, x11, hw, hl, h1, h2, h3, hB => by
    rw [List.map_cons, compF]
    simp! only []
    refine wp_of (rec_ S (deep + k) left (hB k (by simp)) hw hl h1 h2) fun p S1 ⟨t, l1, ep, ht, w1⟩ => ?_
    subst ep
    have ha : (enc t).isRef = false ∧ acc.length < sizeLine := ⟨isRef_enc t, by have := size_1000 (n := acc.length + 1) (by simp at h3; omega); omega⟩
    rw [if_pos ha]
    refine wp_of (tree_comp (b := b) K B rec_ ns (acc ++ [enc t]) S1 l1 _ w1.w w1.l (by have := ht.le; omega) (ht.nn h2) (by simp at h3 ⊢; omega) (fun k hk => hB k (by simp [hk]))) fun p S2 ⟨ts, l2, ep, hts, w2⟩ => ?_
    refine ⟨t :: ts, l2, by rw [ep]; simp, ⟨?_, ⟨ht.lf, hts.lf⟩, ?_, fun z => hts.nn (ht.nn z), ?_, by simp [hts.le2]⟩, w1.trans w2⟩
    · intro x hx
      rcases List.mem_cons.mp hx with e | e
      · subst e; exact ht.v
      · exact hts.v x e
    · have a := ht.ln; have c := hts.ln
      simp only [lens, List.length_cons]; omega
    · have := ht.le; have := hts.le; omega
/-! ### the words of a tree -/
theorem rep_mem {xs : List PV} {k : Nat} {p : PV} (h : p ∈ (List.replicate k xs).flatten) : p ∈ xs := by
  obtain ⟨l, hl, hp⟩ := List.mem_flatten.mp h
  rw [(List.mem_replicate.mp hl).2] at hp; exact hp
theorem gRep_ok {xs : List PV} {S : Sto} (hl : xs.length ≤ 100) : ∃ ys, gRep (.tup xs) (.int 4) S = .ok (.tup ys) S ∧ (∀ y ∈ ys, y ∈ xs) ∧ ys.length = 4 * xs.length := by
  cases xs with
  | nil => exact ⟨[], by simp [gRep], by simp, by simp⟩
  | cons x xs =>
    refine ⟨(List.replicate 4 (x :: xs)).flatten, ?_, fun y hy => rep_mem hy, by simp [List.length_flatten, List.replicate]; omega⟩
    show (if 2 ≤ (4 : Int) ∧ (4 : Int) ≤ 1000 ∧ (x :: xs).length ≤ 1000 then R.ok (PV.tup (List.replicate (4 : Int).toNat (x :: xs)).flatten) S else .no) = _
    rw [if_pos ⟨by omega, by omega, by simp at hl ⊢; omega⟩]; rfl
theorem own_names {w : Str} : ∀ {b : List Fm}, w ∈ b.map Fm.w → ∃ ns, dlB b w = some ns
  | f :: b, h => by
    rw [dlB]
    by_cases e : f.w = w
    · exact ⟨_, if_pos e⟩
    · rw [if_neg e]
      refine own_names ?_
      rcases List.mem_cons.mp h with z | z
      · exact absurd z.symm e
      · exact z
theorem word_names {b : List Fm} {w : Str} (h : w ∈ ks_CORE_WORDS ∨ w ∈ b.map Fm.w) : ∃ ns, dl (dOf CD b) w = some ns := by
  rw [dl_dOf]
  have key : ∀ w ∈ ks_CORE_WORDS, (dl CD w).isSome = true := by decide +kernel
  cases e : dl CD w with
  | some v => exact ⟨v, rfl⟩
  | none =>
    rcases h with h | h
    · have := key w h; rw [e] at this; cases this
    · obtain ⟨ns, h⟩ := own_names h
      exact ⟨ns, by simpa using h⟩
theorem comp_words {b : List Fm} {i : Nat} {ρ : Py.Env} {S : Sto} (hi : i < ρ.length) (hl : b.length ≤ 100) : compF (nName i) tYesE (eOp gIx (eVar i) (eC (.int 0))) ρ (b.map fmP) [] S = .ok (.lst ((b.map Fm.w).map .str)) S := by
  rw [List.map_map]
  refine compF_gen0 _ (fun f hf => ⟨ρ.set i (some (fmP f)), rfl, ?_, rfl⟩) (by omega)
  have : (ρ.set i (some (fmP f)))[i]? = some (some (fmP f)) := by simp [hi]
  refine eqn ?_
  have f0 : fmP f = .tup [.str f.w, .tup (f.ns.map .int), enc f.t] := rfl
  simp! only [this]
  rw [f0]
  simp! only [Function.comp_def]
end G04
set_option Elab.async false
set_option maxRecDepth 100000
set_option maxHeartbeats 1000000
set_option linter.all false
namespace G04
open PySem PySem.Spec PyProof.Rows L2 Py
variable {D : List (Str × List Int)}
local macro_rules
  | `(tactic| simp! only [$a,*]) => `(tactic| simp only [wp_ok, wp_no, ↓wp_bind, ↓R.bind_ok, ↓sSeq, ↓sNil, ↓sSet, ↓sAsg, ↓sIf, ↓sRet, ↓sExpr, ↓sPar, ↓sPar3, ↓sFor, ↓nName, ↓nTup, ↓nCons, ↓nNil, ↓nNs, ↓eVar, ↓eC, ↓eOp, ↓eUn, ↓eArgs, ↓eNew, ↓aCons, ↓aNil, ↓tV, ↓tT, toB, truP, ↓tNotE, ↓tAndE, ↓tOrE, ↓tYesE, ↓eAndV, ↓eOrV, ↓eNotV, ↓eNotT, ↓eIf, gAdd_int, gAdd_tup, Py.gSub, gMul_l, gMul_r, gMod, gFdiv, gNeg, gLt, gLe, gGt, gGe, gInt, gIx, gEq_int, gEq_str, gEq_bl, gNe_int, gNe_str, gNe_bl, gIsN, gNotN, getQ, getL, gSetL, ↓nSubL, gDivmod, gMin2, gMax2, ↓mkDef, ↓mkNew, startP, finF, finO, finV_tup, finV_int, finV_bl, finV_lst, finV_non, finV_str, finV_ref, ↓eChain, tyP, gIsi, isiB, ↓iArgs, ↓iSeq, iterP, ↓fComp, wipeP, ↓eSl, ↓oNone, ↓oSome, gSl, ↓eMeth0, ↓eMeth1, ixN, atI0, atI1, atI2, atI3, List.length_cons, List.length_nil, List.map_cons, List.map_nil, List.replicate, List.cons_append, List.nil_append, List.append_nil, List.getElem?_cons_zero, List.getElem?_cons_succ, List.getElem?_nil, List.set_cons_zero, List.set_cons_succ, List.set_nil, List.length_set, List.length_append, Nat.add_sub_cancel, Nat.reduceAdd, Nat.reduceSub, Nat.reduceLT, Nat.reduceEqDiff, Nat.reduceLeDiff, Nat.le_refl, Nat.zero_le, if_true, if_false, ↓reduceIte, decide_eq_true_eq, Bool.false_eq_true, Bool.true_eq_false, Bool.not_true, Bool.not_false, Option.isSome_some, forall_const, not_true_eq_false, not_false_eq_true, imp_self, false_implies, true_implies, implies_true, and_true, true_and, Int.toNat_zero, Nat.zero_add, Int.reduceLE, Int.reduceLT, Int.reduceNeg, Int.reduceToNat, Int.reducePow, Int.reduceGT, Int.cast_ofNat_Int, true_or, or_true, Int.ofNat_eq_natCast, decide_true, decide_false, Int.reduceEq, List.isEmpty_cons, List.isEmpty_nil, eDGet1,  keyP, Option.map_some, Option.map_none, Option.getD_some, Option.isSome_some, reduceCtorEq, and_self,  allPure_nil, allPure_cons, Bool.and_true, Bool.true_and, Bool.false_and, Bool.and_false, Bool.not_eq_true, Bool.not_eq_false, gTupP_nil, gLstP_nil, gTupP_ok, gLstP_ok, isRef_tup, isRef_int, isRef_str, isRef_bl, Bool.or_false, Bool.or_true, Bool.true_or, Bool.false_or, $a,*])
  | `(tactic| simp! only [$a,*] at $h:ident) => `(tactic| simp only [wp_ok, wp_no, ↓wp_bind, ↓R.bind_ok, ↓sSeq, ↓sNil, ↓sSet, ↓sAsg, ↓sIf, ↓sRet, ↓sExpr, ↓sPar, ↓sPar3, ↓sFor, ↓nName, ↓nTup, ↓nCons, ↓nNil, ↓nNs, ↓eVar, ↓eC, ↓eOp, ↓eUn, ↓eArgs, ↓eNew, ↓aCons, ↓aNil, ↓tV, ↓tT, toB, truP, ↓tNotE, ↓tAndE, ↓tOrE, ↓tYesE, ↓eAndV, ↓eOrV, ↓eNotV, ↓eNotT, ↓eIf, gAdd_int, gAdd_tup, Py.gSub, gMul_l, gMul_r, gMod, gFdiv, gNeg, gLt, gLe, gGt, gGe, gInt, gIx, gEq_int, gEq_str, gEq_bl, gNe_int, gNe_str, gNe_bl, gIsN, gNotN, getQ, getL, gSetL, ↓nSubL, gDivmod, gMin2, gMax2, ↓mkDef, ↓mkNew, startP, finF, finO, finV_tup, finV_int, finV_bl, finV_lst, finV_non, finV_str, finV_ref, ↓eChain, tyP, gIsi, isiB, ↓iArgs, ↓iSeq, iterP, ↓fComp, wipeP, ↓eSl, ↓oNone, ↓oSome, gSl, ↓eMeth0, ↓eMeth1, ixN, atI0, atI1, atI2, atI3, List.length_cons, List.length_nil, List.map_cons, List.map_nil, List.replicate, List.cons_append, List.nil_append, List.append_nil, List.getElem?_cons_zero, List.getElem?_cons_succ, List.getElem?_nil, List.set_cons_zero, List.set_cons_succ, List.set_nil, List.length_set, List.length_append, Nat.add_sub_cancel, Nat.reduceAdd, Nat.reduceSub, Nat.reduceLT, Nat.reduceEqDiff, Nat.reduceLeDiff, Nat.le_refl, Nat.zero_le, if_true, if_false, ↓reduceIte, decide_eq_true_eq, Bool.false_eq_true, Bool.true_eq_false, Bool.not_true, Bool.not_false, Option.isSome_some, forall_const, not_true_eq_false, not_false_eq_true, imp_self, false_implies, true_implies, implies_true, and_true, true_and, Int.toNat_zero, Nat.zero_add, Int.reduceLE, Int.reduceLT, Int.reduceNeg, Int.reduceToNat, Int.reducePow, Int.reduceGT, Int.cast_ofNat_Int, true_or, or_true, Int.ofNat_eq_natCast, decide_true, decide_false, Int.reduceEq, List.isEmpty_cons, List.isEmpty_nil, eDGet1,  keyP, Option.map_some, Option.map_none, Option.getD_some, Option.isSome_some, reduceCtorEq, and_self,  allPure_nil, allPure_cons, Bool.and_true, Bool.true_and, Bool.false_and, Bool.and_false, Bool.not_eq_true, Bool.not_eq_false, gTupP_nil, gLstP_nil, gTupP_ok, gLstP_ok, isRef_tup, isRef_int, isRef_str, isRef_bl, Bool.or_false, Bool.or_true, Bool.true_or, Bool.false_or, $a,*] at $h:ident)

theorem gTupOf_lst {xs : List PV} {S : Sto} : gTupOf [.lst xs] S = .ok (.tup xs) S := rfl
def W17 : List Str := ["call", "fn", "pair", "plus", "test", "again", "first", "second", "minus", "times", "put", "box", "look", "say", "call", "fn", "test"]
theorem tree_ok {b : List Fm} (hb : BkOk CD b) (hbl : b.length ≤ 8) {n m : Nat} (hnm : m ≠ n) {free ats : Int} (hf : free ≤ 100) (ha : ats ≤ 100) : ∀ (k : Nat) (S : Sto) (deep left : Int), left + 1 ≤ k → deep + 2 * k ≤ 1000 → 0 ≤ left → Well S n → S[m]? = some (.lst [.int left]) →
    WP (m__law_tree k [.ref n, bookP b, .int deep, .ref m, .int free, .int ats] S) fun p S' => ∃ t left', p = enc t ∧ TrOk (dOf CD b) free ats deep left left' t ∧ W2 n m S S' left'
  | 0, S, deep, left, h1, h2, h3, hw, hm => by omega
  | k + 1, S, deep, left, h1, h2, h3, hw, hm => by
    have hD := dOf_ok b CD_ok hb
    have hml : m < S.length := (List.getElem?_eq_some_iff.mp hm).1
    have cw := comp_words (b := b) (i := 10) (ρ := [some (.ref n), some (.tup (b.map fmP)), some (.int deep), some (.ref m), some (.int free), some (.int ats), some (.tup [.str "call", .str "fn", .str "pair", .str "plus", .str "test", .str "again", .str "first", .str "second", .str "minus", .str "times", .str "put", .str "box", .str "look"]), none, none, none, none, none]) (S := S) (by simp) (by omega)
    obtain ⟨ys, e1, e2, e3⟩ := gRep_ok (xs := (b.map Fm.w).map .str) (S := S) (by simp; omega)
    have hyl : ys.length ≤ 100 := by simp at e3; omega
    have rec_ := fun S dp left hdp hw hm hl h0 => tree_ok hb hbl hnm hf ha k S dp left hl hdp h0 hw hm
    rw [m__law_tree]
    unfold b__law_tree
    have bp : bookP b = .tup (b.map fmP) := rfl
    rw [bp]
    simp! only [cw, gTupOf_lst, e1]
    rw [gAdd_tup (by simp; omega)]
    simp! only []
    refine wp_of (pick_tup hw (by simp) (by simp; omega) ?_) fun p S1 ⟨hp, w1⟩ => ?_
    · intro x hx
      have hx : x ∈ W17.map PV.str ++ ys := hx
      rcases List.mem_append.mp hx with z | z
      · obtain ⟨w, _, rfl⟩ := List.mem_map.mp z; rfl
      · obtain ⟨w, _, rfl⟩ := List.mem_map.mp (e2 x z); rfl
    have hp : p ∈ W17.map PV.str ++ ys := hp
    obtain ⟨w, rfl, hwm⟩ : ∃ w, p = .str w ∧ (w ∈ ks_CORE_WORDS ∨ w ∈ b.map Fm.w) := by
      rcases List.mem_append.mp hp with z | z
      · obtain ⟨w, h, rfl⟩ := List.mem_map.mp z
        have key : ∀ w ∈ W17, w ∈ ks_CORE_WORDS := by decide +kernel
        exact ⟨w, rfl, .inl (key w h)⟩
      · obtain ⟨w, h, rfl⟩ := List.mem_map.mp (e2 p z)
        exact ⟨w, rfl, .inr h⟩
    obtain ⟨ns, hns⟩ := word_names hwm
    have nm := hD.nm _ _ hns
    have snn := sum_nn fun n hn => (nm.2.2 n hn).1
    have ln := law_names_some (S := S1) hns
    rw [bp] at ln
    have sm := gSumA_ints (ns := ns) (S := S1) (by omega)
    have w1m : S1[m]? = some (.lst [.int left]) := by rw [w1.same m hnm]; exact hm
    have tail : ∀ (S2 : Sto), Wl n S S2 → WP ((sSeq (sAsg (eArgs m__law_draw (aCons (eVar 0) (aCons (eC (.int 5)) aNil))) (nName 9)) (sSeq (sIf (tAndE (tV (eOp gLt (eVar 9) (eC (.int 3)))) (tV (eOp gGt (eOp gAdd (eVar 2) (eVar 4)) (eC (.int 0))))) (sRet (eArgs gTupP (aCons (eC (.str "name")) (aCons (eArgs m__law_draw (aCons (eVar 0) (aCons (eOp gAdd (eVar 2) (eVar 4)) aNil))) aNil)))) sNil) (sSeq (sIf (tAndE (tV (eOp gEq (eVar 9) (eC (.int 3)))) (tV (eOp gGt (eVar 5) (eC (.int 0))))) (sRet (eArgs gTupP (aCons (eC (.str "at")) (aCons (eArgs m__law_draw (aCons (eVar 0) (aCons (eVar 5) aNil))) aNil)))) sNil) (sRet (eArgs m__law_number (aCons (eVar 0) aNil))))))
        [some (.ref n), some (.tup (b.map fmP)), some (.int deep), some (.ref m), some (.int free), some (.int ats), some (.tup (W17.map PV.str ++ ys)), some (.str w), some (.tup (ns.map .int)), none, none, none] S2) fun fl S' => ∃ t left', fl = .rt (enc t) ∧ TrOk (dOf CD b) free ats deep left left' t ∧ W2 n m S S' left' := by
      intro S2 w2
      simp! only []
      refine wp_of (draw_ok w2.w (m := 5) (by omega) (by omega)) fun p S3 ⟨j, ej, j0, j1, w3⟩ => ?_
      subst ej
      have num : WP (m__law_number [.ref n] S3) fun p S' => ∃ t left', (Fl.rt p) = .rt (enc t) ∧ TrOk (dOf CD b) free ats deep left left' t ∧ W2 n m S S' left' :=
        wp_of (number_ok w3.w) fun p S4 ⟨i, ei, i0, i1, w4⟩ => ⟨.lf "number" [i], left, by rw [ei], ⟨.lf (.inr (.inl ⟨rfl, i, rfl, i0, i1⟩)), by simp [lv, LfT], by simp [len], id, Int.le_refl _⟩, W2.of ((w2.trans w3).trans w4) hm hnm⟩
      have at_ : WP ((sSeq (sIf (tAndE (tV (eOp gEq (eVar 9) (eC (.int 3)))) (tV (eOp gGt (eVar 5) (eC (.int 0))))) (sRet (eArgs gTupP (aCons (eC (.str "at")) (aCons (eArgs m__law_draw (aCons (eVar 0) (aCons (eVar 5) aNil))) aNil)))) sNil) (sRet (eArgs m__law_number (aCons (eVar 0) aNil))))
          [some (.ref n), some (.tup (b.map fmP)), some (.int deep), some (.ref m), some (.int free), some (.int ats), some (.tup (W17.map PV.str ++ ys)), some (.str w), some (.tup (ns.map .int)), some (.int j), none, none] S3) fun fl S' => ∃ t left', fl = .rt (enc t) ∧ TrOk (dOf CD b) free ats deep left left' t ∧ W2 n m S S' left' := by
        by_cases c1 : j = 3
        · by_cases c2 : 0 < ats
          · subst c1
            simp! only [c2]
            refine wp_of (draw_ok w3.w (m := ats) c2 (by omega)) fun p S4 ⟨i, ei, i0, i1, w4⟩ => ?_
            subst ei
            simp! only []
            exact ⟨.lf "at" [i], left, by simp [enc], ⟨.lf (.inr (.inr ⟨.inr rfl, i, rfl, i0⟩)), by simp [lv, LfT, c2], by simp [len], id, Int.le_refl _⟩, W2.of ((w2.trans w3).trans w4) hm hnm⟩
          · subst c1
            simp! only [c2]
            exact num
        · simp! only [c1]
          exact num
      by_cases c1 : j < 3
      · by_cases c2 : 0 < deep + free
        · simp! only [c1, c2]
          refine wp_of (draw_ok w3.w (m := deep + free) c2 (by omega)) fun p S4 ⟨i, ei, i0, i1, w4⟩ => ?_
          subst ei
          simp! only []
          exact ⟨.lf "name" [i], left, by simp [enc], ⟨.lf (.inr (.inr ⟨.inl rfl, i, rfl, i0⟩)), by simp [lv, LfT, i1], by simp [len], id, Int.le_refl _⟩, W2.of ((w2.trans w3).trans w4) hm hnm⟩
        · simp! only [c1, c2]
          simp! only [] at at_
          exact at_
      · simp! only [c1]
        simp! only [] at at_
        exact at_
    have fin : ∀ {fl : Fl} {S' : Sto}, (∃ t left', fl = .rt (enc t) ∧ TrOk (dOf CD b) free ats deep left left' t ∧ W2 n m S S' left') → WP (finF S.length fl S') fun p S' => ∃ t left', p = enc t ∧ TrOk (dOf CD b) free ats deep left left' t ∧ W2 n m S S' left' := by
      intro fl S' ⟨t, l', e, h1, h2⟩
      subst e
      simp! only [finV_enc, take_len h2.len]
      exact ⟨t, l', rfl, h1, h2⟩
    simp! only [ln, sm, gLen_tup, List.length_map, w1m]
    by_cases hc : ns.sum + (ns.length : Nat) ≤ left
    · simp! only [hc]
      refine wp_of (draw_ok w1.w (m := 6) (by omega) (by omega)) fun p S2 ⟨j, ej, j0, j1, w2⟩ => ?_
      subst ej
      by_cases hj : 0 < j
      · have w2m : S2[m]? = some (.lst [.int left]) := by rw [w2.same m hnm]; exact w1m
        have hml2 : m < S2.length := (List.getElem?_eq_some_iff.mp w2m).1
        have sm2 := gSumA_ints (ns := ns) (S := S2) (by omega)
        simp! only [hj, w2m, sm2, gLen_tup, List.length_map]
        have w3 : W2 n m S2 (S2.set m (.lst [.int (left - ns.sum - (ns.length : Nat))])) (left - ns.sum - (ns.length : Nat)) :=
          ⟨by simp, fun i _ h => by rw [List.getElem?_set_ne (Ne.symm h)], by
            obtain ⟨a, b, c, e⟩ := w2.w
            exact ⟨a, b, c, by rw [List.getElem?_set_ne hnm]; exact e⟩, by simp [hml2]⟩
        refine wp_of (tree_comp (b := b) (k - 1) (1000 - 2 * k) (fun S dp left h1 h2 h3 h4 h5 => rec_ S dp left (by omega) h2 h3 (by omega) h5) ns [] _ _ none w3.w w3.l (by omega) (by omega) (by simp; omega) (fun q hq => by have := nm.2.2 q hq; omega)) fun p S4 ⟨ts, l4, ep, hts, w4⟩ => ?_
        subst ep
        have hl4 := hts.le2
        have hend : Fl.rt (PV.tup (PV.str w :: ts.map enc)) = Fl.rt (enc (.nd w ns ts)) := by rw [enc, encs_map]
        have wa : W2 n m S S4 l4 := ((W2.of (w1.trans w2) hm hnm).trans w3).trans w4
        rw [List.nil_append]
        simp! only [gTupOf_lst]
        rw [gAdd_tup (by simp; omega)]
        simp! only [take_len wa.len]
        have hln := hts.ln
        have hnn := hts.nn (by omega)
        have hle := hts.le
        refine ⟨.nd w ns ts, l4, by rw [enc, encs_map], ⟨.nd hns (by omega) hts.v, ?_, ?_, fun _ => hnn, by omega⟩, wa⟩
        · rw [lv]; exact lvs_all ts ns 0 deep hts.lf
        · simp only [len]; omega
      · simp! only [hj]
        have tl := wp_of (tail S2 (w1.trans w2)) fun fl S' z => fin z
        simp! only [] at tl
        exact tl
    · simp! only [hc]
      have tl := wp_of (tail S1 w1) fun fl S' z => fin z
      simp! only [] at tl
      exact tl
end G04
set_option Elab.async false
set_option maxRecDepth 100000
set_option maxHeartbeats 1000000
set_option linter.all false
namespace G04
open PySem PySem.Spec PyProof.Rows L2 Py
variable {D : List (Str × List Int)}
local macro_rules
  | `(tactic| simp! only [$a,*]) => `(tactic| simp only [wp_ok, wp_no, ↓wp_bind, ↓R.bind_ok, ↓sSeq, ↓sNil, ↓sSet, ↓sAsg, ↓sIf, ↓sRet, ↓sExpr, ↓sPar, ↓sPar3, ↓sFor, ↓nName, ↓nTup, ↓nCons, ↓nNil, ↓nNs, ↓eVar, ↓eC, ↓eOp, ↓eUn, ↓eArgs, ↓eNew, ↓aCons, ↓aNil, ↓tV, ↓tT, toB, truP, ↓tNotE, ↓tAndE, ↓tOrE, ↓tYesE, ↓eAndV, ↓eOrV, ↓eNotV, ↓eNotT, ↓eIf, gAdd_int, gAdd_tup, Py.gSub, gMul_l, gMul_r, gMod, gFdiv, gNeg, gLt, gLe, gGt, gGe, gInt, gIx, gEq_int, gEq_str, gEq_bl, gNe_int, gNe_str, gNe_bl, gIsN, gNotN, getQ, getL, gSetL, ↓nSubL, gDivmod, gMin2, gMax2, ↓mkDef, ↓mkNew, startP, finF, finO, finV_tup, finV_int, finV_bl, finV_lst, finV_non, finV_str, finV_ref, ↓eChain, tyP, gIsi, isiB, ↓iArgs, ↓iSeq, iterP, ↓fComp, wipeP, ↓eSl, ↓oNone, ↓oSome, gSl, ↓eMeth0, ↓eMeth1, ixN, atI0, atI1, atI2, atI3, List.length_cons, List.length_nil, List.map_cons, List.map_nil, List.replicate, List.cons_append, List.nil_append, List.append_nil, List.getElem?_cons_zero, List.getElem?_cons_succ, List.getElem?_nil, List.set_cons_zero, List.set_cons_succ, List.set_nil, List.length_set, List.length_append, Nat.add_sub_cancel, Nat.reduceAdd, Nat.reduceSub, Nat.reduceLT, Nat.reduceEqDiff, Nat.reduceLeDiff, Nat.le_refl, Nat.zero_le, if_true, if_false, ↓reduceIte, decide_eq_true_eq, Bool.false_eq_true, Bool.true_eq_false, Bool.not_true, Bool.not_false, Option.isSome_some, forall_const, not_true_eq_false, not_false_eq_true, imp_self, false_implies, true_implies, implies_true, and_true, true_and, Int.toNat_zero, Nat.zero_add, Int.reduceLE, Int.reduceLT, Int.reduceNeg, Int.reduceToNat, Int.reducePow, Int.reduceGT, Int.cast_ofNat_Int, true_or, or_true, Int.ofNat_eq_natCast, decide_true, decide_false, Int.reduceEq, List.isEmpty_cons, List.isEmpty_nil, eDGet1,  keyP, Option.map_some, Option.map_none, Option.getD_some, Option.isSome_some, reduceCtorEq, and_self,  allPure_nil, allPure_cons, Bool.and_true, Bool.true_and, Bool.false_and, Bool.and_false, Bool.not_eq_true, Bool.not_eq_false, gTupP_nil, gLstP_nil, gTupP_ok, gLstP_ok, isRef_tup, isRef_int, isRef_str, isRef_bl, Bool.or_false, Bool.or_true, Bool.true_or, Bool.false_or, $a,*])

theorem gAdd_str {a b : Str} {S : Sto} (h : a.cps.size + b.cps.size ≤ 5000) : gAdd (.str a) (.str b) S = .ok (.str (a ++ b)) S := by
  show (if a.cps.size + b.cps.size ≤ sizeLine then R.ok (PV.str (a ++ b)) S else .no) = _
  rw [if_pos (size_1000 h)]
theorem cps_app (a b : Str) : (a ++ b).cps = a.cps ++ b.cps := rfl
theorem gIx_str {z : Str} {k : Int} {c : Nat} {S : Sto} (hl : z.cps.size ≤ 5000) (h : atI z.cps.toList k = some c) : gIx (.str z) (.int k) S = .ok (.str ⟨#[c]⟩) S := by
  show (if z.cps.size ≤ sizeLine then match atI z.cps.toList k with
    | some c => R.ok (PV.str ⟨#[c]⟩) S
    | none => .no
    else .no) = _
  rw [if_pos (size_1000 hl), h]
theorem lt26 : letters.cps.size = 26 := by decide +kernel
theorem word_loop {A : Str} (hA : A = letters) {n : Nat} {a1 x4 x5 : Option PV} : ∀ (items : List PV) (z : Str) (S : Sto) (x3 : Option PV), Well S n → z.cps.size + items.length ≤ 100 → (∀ c ∈ z.cps.toList, c ∈ letters.cps.toList) →
    WP (forF (nName 3) (sAsg (eOp gAdd (eVar 2) (eOp gIx (eC (.str A)) (eArgs m__law_draw (aCons (eVar 0) (aCons (eC (.int 26)) aNil))))) (nName 2)) items [some (.ref n), a1, some (.str z), x3, x4, x5] S) fun fl S' => Wl n S S' ∧ ∃ (z' : Str) (x3 : Option PV), fl = .nx [some (.ref n), a1, some (.str z'), x3, x4, x5] ∧ z'.cps.size = z.cps.size + items.length ∧ ∀ c ∈ z'.cps.toList, c ∈ letters.cps.toList
  | [], z, S, x3, hw, hl, hz => by
    rw [forF]
    simp! only []
    exact ⟨Wl.refl hw, z, x3, rfl, by simp, hz⟩
  | it :: items, z, S, x3, hw, hl, hz => by
    rw [forF]
    simp! only []
    refine wp_of (draw_ok hw (m := 26) (by omega) (by omega)) fun p S1 ⟨k, ek, k0, k1, w1⟩ => ?_
    subst ek
    have hk : k.toNat < letters.cps.toList.length := by have := lt26; simp; omega
    have a1 : atI letters.cps.toList k = some letters.cps.toList[k.toNat] := by rw [atI_pos k0]; exact List.getElem?_eq_getElem hk
    obtain ⟨c, a2, hcl⟩ : ∃ c, atI letters.cps.toList k = some c ∧ c ∈ letters.cps.toList := ⟨_, a1, List.getElem_mem hk⟩
    have gi : gIx (.str A) (.int k) S1 = .ok (.str ⟨#[c]⟩) S1 := by rw [hA]; exact gIx_str (z := letters) (by have := lt26; omega) a2
    have ga := gAdd_str (a := z) (b := ⟨#[c]⟩) (S := S1) (by simp at hl ⊢; omega)
    have hsl : A.length ≤ sizeLine := size_1000 (by have := lt26; rw [hA]; show letters.cps.size ≤ 5000; omega)
    have a3 : atI A.cps.toList k = some c := by rw [hA]; exact a2
    simp! only [hsl, a3, ga]
    refine wp_of (word_loop hA items (z ++ ⟨#[c]⟩) S1 _ w1.w (by rw [cps_app]; simp at hl ⊢; omega) (fun x hx => ?_)) fun fl S' ⟨w2, z', y3, g1, g2, g3⟩ => ⟨w1.trans w2, z', y3, g1, by rw [g2, cps_app]; simp; omega, g3⟩
    rw [cps_app] at hx
    simp only [Array.toList_append, List.mem_append] at hx
    rcases hx with hx | hx
    · exact hz x hx
    · simp at hx; rw [hx]; exact hcl
theorem z_not : ∀ w ∈ ks_CORE_WORDS ++ RS, w.cps.toList.getD (w.cps.size - 2) 0 ≠ 122 := by decide +kernel
def RS2 : List Str := ["at", "hole", "form", "name", "boxes", "number"]
theorem in_RS2 {w : Str} {S : Sto} : gIn false (.str w) (.tup [.str "at", .str "hole", .str "form", .str "name", .str "boxes", .str "number"]) S = .ok (.bl (decide (w ∈ RS2))) S := gIn_strs (ws := RS2)
theorem RS_RS2 {w : Str} : w ∈ RS → w ∈ RS2 := by
  have key : ∀ w ∈ RS, w ∈ RS2 := by decide +kernel
  exact key w
theorem core_none {w : Str} (h : dl CD w = none) : w ∉ ks_CORE_WORDS := fun z => by
  obtain ⟨ns, e⟩ := word_names (b := []) (.inl z)
  rw [show dOf CD [] = CD from rfl, h] at e; cases e
theorem gNotN_nm {o : Option (List Int)} {S : Sto} : gNotN (nmP o) .non S = .ok (.bl o.isSome) S := by cases o <;> rfl
def wFixA (A B : Str) : Es := (sSeq (sSet 4 (fComp (iSeq (eC (.str A))) (nName 5) (tV (eOp (gIn true) (eOp gAdd (eOp gAdd (eSl (eVar 2) oNone (oSome (eC (.int 3)))) (eC (.str B))) (eVar 5)) (eVar 1))) (eVar 5) [5])) (sSet 2 (eOp gAdd (eOp gAdd (eSl (eVar 2) oNone (oSome (eC (.int 3)))) (eC (.str B))) (eArgs m__law_pick (aCons (eVar 0) (aCons (eVar 4) aNil))))))
def zS : Str := "z"
def pre (z : Str) : Str := cutS z none (some 3)
theorem pre_list (z : Str) : (pre z).cps.toList = z.cps.toList.take 3 := by
  unfold pre cutS
  have : HT.sIx z.length z.length (some 3) = min 3 z.length := HT.sIx_nat z.length z.length 3
  rw [this, HT.sIx_none]
  simp
  show min 3 (min z.cps.size z.cps.size) = _
  omega
theorem pre_size (z : Str) : (pre z).cps.size = min 3 z.cps.size := by
  have := congrArg List.length (pre_list z)
  simpa using this
theorem zS_list : zS.cps.toList = [122] := by decide +kernel
theorem zS_size : zS.cps.size = 1 := by decide +kernel
def fixW (z : Str) (c : Nat) : Str := pre z ++ zS ++ ⟨#[c]⟩
theorem fix_list (z : Str) (c : Nat) : (fixW z c).cps.toList = z.cps.toList.take 3 ++ [122, c] := by
  unfold fixW
  rw [cps_app, cps_app]
  simp only [Array.toList_append, pre_list, zS_list]
  simp
theorem fix_size (z : Str) (c : Nat) : (fixW z c).cps.size = min 3 z.cps.size + 2 := by
  have := congrArg List.length (fix_list z c)
  simpa using this
theorem fix_own {z : Str} {c : Nat} (h2 : 2 ≤ z.cps.size) (hz : ∀ c ∈ z.cps.toList, c ∈ letters.cps.toList) (hc : c ∈ letters.cps.toList) : OwnW (fixW z c) := by
  have nk : fixW z c ∉ ks_CORE_WORDS ++ RS := fun q => z_not _ q (by
    rw [fix_list, fix_size]
    have : (min 3 z.cps.size + 2 - 2) = (z.cps.toList.take 3).length := by simp
    rw [this]
    simp [List.getD])
  have z122 : 122 ∈ letters.cps.toList := by decide +kernel
  refine ⟨by rw [fix_size]; omega, by rw [fix_size]; omega, fun x hx => ?_, fun q => nk (List.mem_append.mpr (.inl q)), fun q => nk (List.mem_append.mpr (.inr q))⟩
  rw [fix_list] at hx
  rcases List.mem_append.mp hx with q | q
  · exact hz x (List.mem_of_mem_take q)
  · simp at q
    rcases q with q | q <;> rw [q]
    · exact z122
    · exact hc
theorem fix_ne {z : Str} {c d : Nat} (h : c ≠ d) : fixW z c ≠ fixW z d := fun e => h (by
  have := congrArg (fun s : Str => s.cps.toList) e
  simp only [fix_list] at this
  simpa using this)
theorem fix_val {z : Str} {S : Sto} (hz : z.cps.size ≤ 100) : gSl (.str z) none (some 3) S = .ok (.str (pre z)) S ∧ gAdd (.str (pre z)) (.str "z") S = .ok (.str (pre z ++ zS)) S ∧ ∀ c : Nat, gAdd (.str (pre z ++ zS)) (.str ⟨#[c]⟩) S = .ok (.str (fixW z c)) S := by
  refine ⟨?_, gAdd_str (b := zS) (by rw [pre_size, zS_size]; omega), fun c => gAdd_str (by rw [cps_app]; have := pre_size z; have := zS_size; simp; omega)⟩
  show (if z.cps.size ≤ sizeLine then R.ok (PV.str (pre z)) S else .no) = _
  rw [if_pos (size_1000 (by omega))]
theorem sg26 : Py.signs ((("abcdefghijklmnopqrstuvwxyz" : String) : Str)) = letters.cps.toList.map fun c : Nat => PV.str ⟨#[c]⟩ := by
  rw [show ((("abcdefghijklmnopqrstuvwxyz" : String) : Str)) = letters from rfl, Py.signs]
theorem nodup_len {α : Type} [DecidableEq α] : ∀ {a b : List α}, a.Nodup → (∀ x ∈ a, x ∈ b) → a.length ≤ b.length
  | [], b, _, _ => by simp
  | x :: a, b, h, hs => by
    have hx := hs x (by simp)
    have h' := List.nodup_cons.mp h
    have i1 := nodup_len (b := b.erase x) h'.2 (fun y hy => (List.mem_erase_of_ne (show y ≠ x from fun e => h'.1 (by rw [← e]; exact hy))).mpr (hs y (by simp [hy])))
    have i2 := List.length_erase_of_mem hx
    have i3 : 0 < b.length := List.length_pos_of_mem hx
    simp only [List.length_cons]; omega
theorem fix_ok {A B : Str} (hA : Py.signs A = letters.cps.toList.map fun c : Nat => PV.str ⟨#[c]⟩) (hB : B = zS) {n : Nat} {S : Sto} {ahead : List Str} {z : Str} {x3 x4 x5 : Option PV} (hw : Well S n) (ha : ahead.length ≤ 20) (h2 : 2 ≤ z.cps.size) (h8 : z.cps.size ≤ 8) (hz : ∀ c ∈ z.cps.toList, c ∈ letters.cps.toList) :
    WP (wFixA A B [some (.ref n), some (.tup (ahead.map .str)), some (.str z), x3, x4, x5] S) fun fl S' => Wl n S S' ∧ ∃ w x4 x5, fl = .nx [some (.ref n), some (.tup (ahead.map .str)), some (.str w), x3, x4, x5] ∧ OwnW w ∧ w ∉ ahead := by
  have e1 : compF (nName 5) (tV (eOp (gIn true) (eOp gAdd (eOp gAdd (eSl (eVar 2) oNone (oSome (eC (.int 3)))) (eC (.str B))) (eVar 5)) (eVar 1))) (eVar 5) [some (.ref n), some (.tup (ahead.map .str)), some (.str z), x3, x4, none] (Py.signs A) [] S = .ok (.lst ([] ++ (letters.cps.toList.filter fun c => !decide (fixW z c ∈ ahead)).map fun c => PV.str ⟨#[c]⟩)) S := by
    rw [hA]
    refine compF_fil (ι := fun c : Nat => PV.str ⟨#[c]⟩) (φ := fun c : Nat => PV.str ⟨#[c]⟩) (β := fun c => !decide (fixW z c ∈ ahead)) letters.cps.toList [] (fun c hc => ⟨[some (.ref n), some (.tup (ahead.map .str)), some (.str z), x3, x4, some (.str ⟨#[c]⟩)], rfl, ?_, fun _ => ⟨rfl, rfl⟩⟩) (by have := lt26; simp; omega)
    obtain ⟨f1, f2, f3⟩ := fix_val (z := z) (S := S) (by omega)
    rw [show ((("z" : String) : Str)) = B from hB.symm] at f2
    have : WP ((tV (eOp (gIn true) (eOp gAdd (eOp gAdd (eSl (eVar 2) oNone (oSome (eC (.int 3)))) (eC (.str B))) (eVar 5)) (eVar 1))) [some (.ref n), some (.tup (ahead.map .str)), some (.str z), x3, x4, some (.str ⟨#[c]⟩)] S) fun b S' => b = (!decide (fixW z c ∈ ahead)) ∧ S' = S := by
      simp only [tV, eOp, eSl, oNone, oSome, eVar, eC, R.bind_ok, List.getElem?_cons_zero, List.getElem?_cons_succ, f1, f2, f3 c, gNin_strs, toB]
      exact ⟨rfl, rfl⟩
    obtain ⟨b, S2, e, rfl, rfl⟩ := this.ex
    exact e
  have ne : 0 < ((letters.cps.toList.filter fun c => !decide (fixW z c ∈ ahead)).map fun c => PV.str ⟨#[c]⟩).length := by
    rw [List.length_map]
    refine List.length_pos_iff.mpr fun q => ?_
    have all : ∀ c ∈ letters.cps.toList, fixW z c ∈ ahead := fun c hc => by
      have := fun r => List.filter_eq_nil_iff.mp q c hc r
      simpa using this
    have nd : (letters.cps.toList.map (fixW z)).Nodup := by
      refine List.Pairwise.map _ (fun a b (h : a ≠ b) => fix_ne h) (?_ : letters.cps.toList.Nodup)
      decide +kernel
    have := nodup_len (b := ahead) nd (fun x hx => by
      obtain ⟨c, hc, rfl⟩ := List.mem_map.mp hx
      exact all c hc)
    have h26 : letters.cps.toList.length = 26 := by rw [Array.length_toList]; exact lt26
    rw [List.length_map, h26] at this
    omega
  obtain ⟨f1, f2, _⟩ := fix_val (z := z) (S := S) (by omega)
  rw [show ((("z" : String) : Str)) = B from hB.symm] at f2
  have lb : ((letters.cps.toList.filter fun c => !decide (fixW z c ∈ ahead)).map fun c => PV.str ⟨#[c]⟩).length ≤ 5000 := by
    have l26 := lt26
    have := List.length_filter_le (fun c => !decide (fixW z c ∈ ahead)) letters.cps.toList
    have h3 : letters.cps.toList.length = 26 := by rw [Array.length_toList]; exact l26
    rw [h3] at this
    rw [List.length_map]; omega
  have out : ∀ p ∈ ((letters.cps.toList.filter fun c => !decide (fixW z c ∈ ahead)).map fun c => PV.str ⟨#[c]⟩), ∃ c, p = PV.str ⟨#[c]⟩ ∧ OwnW (fixW z c) ∧ fixW z c ∉ ahead := by
    intro p hp
    obtain ⟨c, hc, rfl⟩ := List.mem_map.mp hp
    obtain ⟨hc1, hc2⟩ := List.mem_filter.mp hc
    exact ⟨c, rfl, fix_own h2 hz hc1, by simpa using hc2⟩
  rw [List.nil_append] at e1
  generalize ((letters.cps.toList.filter fun c => !decide (fixW z c ∈ ahead)).map fun c => PV.str ⟨#[c]⟩) = L at e1 ne lb out
  unfold wFixA
  have f3 : ∀ (c : Nat) (S : Sto), gAdd (.str (pre z ++ zS)) (.str ⟨#[c]⟩) S = .ok (.str (fixW z c)) S := fun c S => (fix_val (z := z) (S := S) (by omega)).2.2 c
  have zl : z.length ≤ sizeLine := size_1000 (by show z.cps.size ≤ 5000; omega)
  have f1' : cutS z none (some 3) = pre z := rfl
  simp! only [e1, zl, f1', f2]
  refine wp_of (pick_lst hw ne lb (fun x hx => by obtain ⟨c, rfl, _⟩ := out x hx; rfl)) fun p S1 ⟨hp, w1⟩ => ?_
  obtain ⟨c, rfl, ho, hn⟩ := out p hp
  simp! only [f3]
  exact ⟨w1, fixW z c, _, _, rfl, ho, hn⟩
def wWord (A B E : Str) : Es := (sSeq (sSet 2 (eC (.str E))) (sSeq (sFor (iArgs Py.gRange (aCons (eOp gAdd (eC (.int 2)) (eArgs m__law_draw (aCons (eVar 0) (aCons (eC (.int 4)) aNil)))) aNil)) (nName 3) (sSet 2 (eOp gAdd (eVar 2) (eOp gIx (eC (.str A)) (eArgs m__law_draw (aCons (eVar 0) (aCons (eC (.int 26)) aNil))))))) (sSeq (sIf (tOrE (tV (eOp (gIn false) (eVar 2) (eVar 1))) (tOrE (tV (eOp (gIn false) (eVar 2) (eArgs gTupP (aCons (eC (.str "at")) (aCons (eC (.str "hole")) (aCons (eC (.str "form")) (aCons (eC (.str "name")) (aCons (eC (.str "boxes")) (aCons (eC (.str "number")) aNil))))))))) (tV (eOp gNotN (eArgs m__law_names (aCons (eArgs gTupP aNil) (aCons (eVar 2) aNil))) (eC .non))))) (wFixA A B) sNil) (sRet (eVar 2)))))
theorem wWord_ok {A B E : Str} (hA : A = letters) (hA2 : Py.signs A = letters.cps.toList.map fun c : Nat => PV.str ⟨#[c]⟩) (hB : B = zS) (hE : E.cps.toList = []) {n : Nat} {S : Sto} {ahead : List Str} (hw : Well S n) (ha : ahead.length ≤ 20) : WP (mkDef 2 6 (wWord A B E) [.ref n, .tup (ahead.map .str)] S) fun p S' => Wl n S S' ∧ ∃ w, p = .str w ∧ OwnW w ∧ w ∉ ahead := by
  have e00 : E.cps.size = 0 := by have := congrArg List.length hE; simpa using this
  unfold wWord
  simp! only []
  refine wp_of (draw_ok hw (m := 4) (by omega) (by omega)) fun p S1 ⟨k, ek, k0, k1, w1⟩ => ?_
  subst ek
  have gr := gRange_eq (j := 2 + k) (S := S1) (by omega) (by omega)
  simp! only [gr]
  refine wp_of (word_loop hA (a1 := some (.tup (ahead.map .str))) (x4 := none) (x5 := none) (Py.intsFrom 0 (2 + k).toNat) E S1 none w1.w (by rw [e00]; simp [Py.intsFrom]; omega) (by rw [hE]; simp)) fun fl S2 ⟨w2, z, x3, g1, g2, g3⟩ => ?_
  subst g1
  have hz : z.cps.size = (2 + k).toNat := by rw [g2, e00]; simp [Py.intsFrom]
  have w12 := w1.trans w2
  have nms : m__law_names [.tup [], .str z] S2 = .ok (nmP (dl CD z)) S2 := law_names_eq (b := []) (w := z)
  by_cases hc : z ∈ ahead ∨ z ∈ RS2 ∨ (dl CD z).isSome = true
  · have fx := fix_ok hA2 hB (S := S2) (n := n) (ahead := ahead) (z := z) (x3 := x3) (x4 := none) (x5 := none) w2.w ha (by omega) (by omega) g3
    have fin : ∀ {fl : Fl} {S' : Sto}, (Wl n S2 S' ∧ ∃ w x4 x5, fl = .nx [some (.ref n), some (.tup (ahead.map .str)), some (.str w), x3, x4, x5] ∧ OwnW w ∧ w ∉ ahead) → WP (match fl with
        | .nx ρ1 => (sRet (eVar 2)) ρ1 S'
        | fl => .ok fl S') fun fl S' => WP (finF S.length fl S') fun p S' => Wl n S S' ∧ ∃ w, p = .str w ∧ OwnW w ∧ w ∉ ahead := by
      intro fl S' ⟨w3, w, x4, x5, e, h1, h2⟩
      subst e
      have wa := w12.trans w3
      simp! only [take_len wa.len]
      exact ⟨wa, w, rfl, h1, h2⟩
    have go := wp_of fx fun fl S' z => fin z
    by_cases c1 : z ∈ ahead
    · simp! only [gIn_strs, c1]
      exact go
    by_cases c2 : z ∈ RS2
    · simp! only [gIn_strs, c1, in_RS2, c2]
      exact go
    have c3 : (dl CD z).isSome = true := by simpa [c1, c2] using hc
    obtain ⟨v, cv⟩ := Option.isSome_iff_exists.mp c3
    rw [cv] at nms
    replace nms : m__law_names [.tup [], .str z] S2 = .ok (.tup (v.map .int)) S2 := nms
    simp! only [gIn_strs, c1, in_RS2, c2, nms]
    exact go
  · obtain ⟨c1, c2⟩ := not_or.mp hc
    obtain ⟨c2, c3⟩ := not_or.mp c2
    have c3' : (dl CD z).isSome = false := by simpa using c3
    have cn : dl CD z = none := by simpa using c3'
    rw [cn] at nms
    replace nms : m__law_names [.tup [], .str z] S2 = .ok .non S2 := nms
    simp! only [gIn_strs, c1, in_RS2, c2, nms, take_len w12.len]
    exact ⟨w12, z, rfl, ⟨by omega, by omega, g3, core_none (by simpa using c3'), fun q => c2 (RS_RS2 q)⟩, c1⟩
theorem word_ok {n : Nat} {S : Sto} {ahead : List Str} (hw : Well S n) (ha : ahead.length ≤ 20) : WP (m__law_word [.ref n, .tup (ahead.map .str)] S) fun p S' => Wl n S S' ∧ ∃ w, p = .str w ∧ OwnW w ∧ w ∉ ahead :=
  wWord_ok (A := letters) (B := zS) (E := "") rfl rfl rfl (by decide +kernel) hw ha
end G04
set_option Elab.async false
set_option maxRecDepth 100000
set_option maxHeartbeats 1000000
set_option linter.all false
namespace G04
open PySem PySem.Spec PyProof.Rows L2 Py
local macro_rules
  | `(tactic| simp! only [$a,*]) => `(tactic| simp only [wp_ok, wp_no, ↓wp_bind, ↓R.bind_ok, ↓sSeq, ↓sNil, ↓sSet, ↓sAsg, ↓sIf, ↓sRet, ↓sExpr, ↓sPar, ↓sPar3, ↓sFor, ↓nName, ↓nTup, ↓nCons, ↓nNil, ↓nNs, ↓eVar, ↓eC, ↓eOp, ↓eUn, ↓eArgs, ↓eNew, ↓aCons, ↓aNil, ↓tV, ↓tT, toB, truP, ↓tNotE, ↓tAndE, ↓tOrE, ↓tYesE, ↓eAndV, ↓eOrV, ↓eNotV, ↓eNotT, ↓eIf, gAdd_int, gAdd_tup, Py.gSub, gMul_l, gMul_r, gMod, gFdiv, gNeg, gLt, gLe, gGt, gGe, gInt, gIx, gEq_int, gEq_str, gEq_bl, gNe_int, gNe_str, gNe_bl, gIsN, gNotN, getQ, getL, gSetL, ↓nSubL, gDivmod, gMin2, gMax2, ↓mkDef, ↓mkNew, startP, finF, finO, finV_tup, finV_int, finV_bl, finV_lst, finV_non, finV_str, finV_ref, ↓eChain, tyP, gIsi, isiB, ↓iArgs, ↓iSeq, iterP, ↓fComp, wipeP, ↓eSl, ↓oNone, ↓oSome, gSl, ↓eMeth0, ↓eMeth1, ixN, atI0, atI1, atI2, atI3, List.length_cons, List.length_nil, List.map_cons, List.map_nil, List.replicate, List.cons_append, List.nil_append, List.append_nil, List.getElem?_cons_zero, List.getElem?_cons_succ, List.getElem?_nil, List.set_cons_zero, List.set_cons_succ, List.set_nil, List.length_set, List.length_append, Nat.add_sub_cancel, Nat.reduceAdd, Nat.reduceSub, Nat.reduceLT, Nat.reduceEqDiff, Nat.reduceLeDiff, Nat.le_refl, Nat.zero_le, if_true, if_false, ↓reduceIte, decide_eq_true_eq, Bool.false_eq_true, Bool.true_eq_false, Bool.not_true, Bool.not_false, Option.isSome_some, forall_const, not_true_eq_false, not_false_eq_true, imp_self, false_implies, true_implies, implies_true, and_true, true_and, Int.toNat_zero, Nat.zero_add, Int.reduceLE, Int.reduceLT, Int.reduceNeg, Int.reduceToNat, Int.reducePow, Int.reduceGT, Int.cast_ofNat_Int, true_or, or_true, Int.ofNat_eq_natCast, decide_true, decide_false, Int.reduceEq, List.isEmpty_cons, List.isEmpty_nil, eDGet1,  keyP, Option.map_some, Option.map_none, Option.getD_some, Option.isSome_some, reduceCtorEq, and_self,  allPure_nil, allPure_cons, Bool.and_true, Bool.true_and, Bool.false_and, Bool.and_false, Bool.not_eq_true, Bool.not_eq_false, gTupP_nil, gLstP_nil, gTupP_ok, gLstP_ok, isRef_tup, isRef_int, isRef_str, isRef_bl, Bool.or_false, Bool.or_true, Bool.true_or, Bool.false_or, $a,*])
  | `(tactic| simp! only [$a,*] at $h:ident) => `(tactic| simp only [wp_ok, wp_no, ↓wp_bind, ↓R.bind_ok, ↓sSeq, ↓sNil, ↓sSet, ↓sAsg, ↓sIf, ↓sRet, ↓sExpr, ↓sPar, ↓sPar3, ↓sFor, ↓nName, ↓nTup, ↓nCons, ↓nNil, ↓nNs, ↓eVar, ↓eC, ↓eOp, ↓eUn, ↓eArgs, ↓eNew, ↓aCons, ↓aNil, ↓tV, ↓tT, toB, truP, ↓tNotE, ↓tAndE, ↓tOrE, ↓tYesE, ↓eAndV, ↓eOrV, ↓eNotV, ↓eNotT, ↓eIf, gAdd_int, gAdd_tup, Py.gSub, gMul_l, gMul_r, gMod, gFdiv, gNeg, gLt, gLe, gGt, gGe, gInt, gIx, gEq_int, gEq_str, gEq_bl, gNe_int, gNe_str, gNe_bl, gIsN, gNotN, getQ, getL, gSetL, ↓nSubL, gDivmod, gMin2, gMax2, ↓mkDef, ↓mkNew, startP, finF, finO, finV_tup, finV_int, finV_bl, finV_lst, finV_non, finV_str, finV_ref, ↓eChain, tyP, gIsi, isiB, ↓iArgs, ↓iSeq, iterP, ↓fComp, wipeP, ↓eSl, ↓oNone, ↓oSome, gSl, ↓eMeth0, ↓eMeth1, ixN, atI0, atI1, atI2, atI3, List.length_cons, List.length_nil, List.map_cons, List.map_nil, List.replicate, List.cons_append, List.nil_append, List.append_nil, List.getElem?_cons_zero, List.getElem?_cons_succ, List.getElem?_nil, List.set_cons_zero, List.set_cons_succ, List.set_nil, List.length_set, List.length_append, Nat.add_sub_cancel, Nat.reduceAdd, Nat.reduceSub, Nat.reduceLT, Nat.reduceEqDiff, Nat.reduceLeDiff, Nat.le_refl, Nat.zero_le, if_true, if_false, ↓reduceIte, decide_eq_true_eq, Bool.false_eq_true, Bool.true_eq_false, Bool.not_true, Bool.not_false, Option.isSome_some, forall_const, not_true_eq_false, not_false_eq_true, imp_self, false_implies, true_implies, implies_true, and_true, true_and, Int.toNat_zero, Nat.zero_add, Int.reduceLE, Int.reduceLT, Int.reduceNeg, Int.reduceToNat, Int.reducePow, Int.reduceGT, Int.cast_ofNat_Int, true_or, or_true, Int.ofNat_eq_natCast, decide_true, decide_false, Int.reduceEq, List.isEmpty_cons, List.isEmpty_nil, eDGet1,  keyP, Option.map_some, Option.map_none, Option.getD_some, Option.isSome_some, reduceCtorEq, and_self,  allPure_nil, allPure_cons, Bool.and_true, Bool.true_and, Bool.false_and, Bool.and_false, Bool.not_eq_true, Bool.not_eq_false, gTupP_nil, gLstP_nil, gTupP_ok, gLstP_ok, isRef_tup, isRef_int, isRef_str, isRef_bl, Bool.or_false, Bool.or_true, Bool.true_or, Bool.false_or, $a,*] at $h:ident)
theorem well_loop {S : Sto} {a0 a1 x4 : Option PV} : ∀ (cs : List Int) (v : Int) (x3 : Option PV),
    WP (forF (nName 3) (sAsg (eOp gMod (eArgs gInt (aCons (eOp gAdd (eOp gAdd (eOp gMul (eVar 2) (eC (.int 51787))) (eOp gMod (eArgs gInt (aCons (eVar 3) aNil)) (eC (.int 2147483549)))) (eC (.int 11))) aNil)) (eC (.int 2147483579))) (nName 2)) (cs.map .int) [a0, a1, some (.int v), x3, x4] S) fun fl S' => S' = S ∧ ∃ (v : Int) (x3 : Option PV), fl = .nx [a0, a1, some (.int v), x3, x4]
  | [], v, x3 => by
    rw [List.map_nil, forF]
    simp! only []
    exact ⟨_, _, rfl⟩
  | c :: cs, v, x3 => by
    rw [List.map_cons, forF]
    simp! only []
    exact well_loop cs _ _
theorem cut_ints (ns : List Int) (lo hi : Option Int) : ∃ cs : List Int, cutP (ns.map .int) lo hi = cs.map .int := by
  refine ⟨(ns.drop (HT.sIx ns.length 0 lo)).take (HT.sIx ns.length ns.length hi - HT.sIx ns.length 0 lo), ?_⟩
  unfold cutP
  rw [List.length_map, List.map_take, List.map_drop]
theorem well_ok {ns : List Int} {t : Int} {S : Sto} (h0 : 0 ≤ t) (ht : t ≤ 10) (hl : ns.length ≤ 63) : WP (m__law_well [.frl (ns.map .int), .int t] S) fun p S' => S' = S ∧ ∃ a b c : Int, p = .lst [.int a, .int b, .int c] := by
  obtain ⟨cs, hcs⟩ := cut_ints ns none (some 7)
  unfold m__law_well b__law_well
  have gl : gLen [.frl (ns.map .int)] S = .ok (.int (ns.length : Nat)) S := by simp [gLen, getQ, getL]
  simp! only [fSl, gSlF, hcs]
  refine wp_of (well_loop cs _ _) fun fl S' ⟨e1, v, x3, e2⟩ => ?_
  subst e1 e2
  have nl : ¬ S'.length < S'.length := by omega
  have fin : ∀ w : Int, WP ((sSeq (sAsg (eOp gMod (eArgs gInt (aCons (eOp gAdd (eOp gAdd (eOp gMul (eVar 2) (eC (.int 39119))) (eOp gMul (eOp gMod (eArgs gInt (aCons (eVar 4) aNil)) (eC (.int 2147483549))) (eC (.int 27011)))) (eC (.int 3))) aNil)) (eC (.int 2147483579))) (nName 2)) (sRet (eNew (eArgs gLstP (aCons (eIf (tOrE (tV (eOp gLt (eVar 4) (eC (.int 0)))) (tV (eOp gGe (eVar 4) (eOp gPow (eC (.int 10)) (eC (.int 14)))))) (eArgs gAbs (aCons (eVar 4) aNil)) (eC (.int 0))) (aCons (eVar 2) (aCons (eC (.int 0)) aNil)))))))
      [some (.frl (ns.map .int)), some (.int t), some (.int v), x3, some (.int w)] S') fun fl S2 => WP (finO S'.length fl S2) fun p S2 => S2 = S' ∧ ∃ a b c : Int, p = .lst [.int a, .int b, .int c] := by
    intro w
    have gp : gPow (.int 10) (.int 14) S' = .ok (.int (10 ^ 14)) S' := by
      show (if 0 ≤ (14 : Int) ∧ (14 : Int) ≤ 1000000 ∧ (10 : Int).natAbs < 2 ^ 64 then R.ok (PV.int (10 ^ (14 : Int).toNat)) S' else .no) = _
      rw [if_pos (by decide)]; rfl
    have ga : gAbs [.int w] S' = .ok (.int (if w < 0 then -w else w)) S' := rfl
    by_cases c1 : w < 0
    · simp! only [c1, ga, nl, get_last, take_app]
      exact ⟨_, _, _, rfl⟩
    · by_cases c2 : (10 : Int) ^ 14 ≤ w
      · have c2' : (100000000000000 : Int) ≤ w := by simpa using c2
        simp! only [c1, gp, c2', ga, nl, get_last, take_app]
        exact ⟨_, _, _, rfl⟩
      · have c2' : ¬ (100000000000000 : Int) ≤ w := by simpa using c2
        simp! only [c1, gp, c2', ga, nl, get_last, take_app]
        exact ⟨_, _, _, rfl⟩
  by_cases c : t < (ns.length : Nat)
  · have hk : t.toNat < ns.length := by omega
    have a1 : atI (ns.map PV.int) t = some (.int ns[t.toNat]) := by rw [atI_pos h0]; simp [hk]
    have f := fin ns[t.toNat]
    simp! only [gl, c, a1]
    simp! only [] at f
    exact f
  · have f := fin 0
    simp! only [gl, c]
    simp! only [] at f
    exact f
theorem well_okL {ns : List Int} {t : Int} {S : Sto} (h0 : 0 ≤ t) (ht : t ≤ 10) (hl : ns.length ≤ 63) : WP (m__law_well [.lst (ns.map .int), .int t] S) fun p S' => S' = S ∧ ∃ a b c : Int, p = .lst [.int a, .int b, .int c] := by
  obtain ⟨cs, hcs⟩ := cut_ints ns none (some 7)
  unfold m__law_well b__law_well
  have gl : gLen [.lst (ns.map .int)] S = .ok (.int (ns.length : Nat)) S := by simp [gLen, getQ, getL]
  simp! only [fSl, gSlF, hcs]
  refine wp_of (well_loop cs _ _) fun fl S' ⟨e1, v, x3, e2⟩ => ?_
  subst e1 e2
  have nl : ¬ S'.length < S'.length := by omega
  have fin : ∀ w : Int, WP ((sSeq (sAsg (eOp gMod (eArgs gInt (aCons (eOp gAdd (eOp gAdd (eOp gMul (eVar 2) (eC (.int 39119))) (eOp gMul (eOp gMod (eArgs gInt (aCons (eVar 4) aNil)) (eC (.int 2147483549))) (eC (.int 27011)))) (eC (.int 3))) aNil)) (eC (.int 2147483579))) (nName 2)) (sRet (eNew (eArgs gLstP (aCons (eIf (tOrE (tV (eOp gLt (eVar 4) (eC (.int 0)))) (tV (eOp gGe (eVar 4) (eOp gPow (eC (.int 10)) (eC (.int 14)))))) (eArgs gAbs (aCons (eVar 4) aNil)) (eC (.int 0))) (aCons (eVar 2) (aCons (eC (.int 0)) aNil)))))))
      [some (.lst (ns.map .int)), some (.int t), some (.int v), x3, some (.int w)] S') fun fl S2 => WP (finO S'.length fl S2) fun p S2 => S2 = S' ∧ ∃ a b c : Int, p = .lst [.int a, .int b, .int c] := by
    intro w
    have gp : gPow (.int 10) (.int 14) S' = .ok (.int (10 ^ 14)) S' := by
      show (if 0 ≤ (14 : Int) ∧ (14 : Int) ≤ 1000000 ∧ (10 : Int).natAbs < 2 ^ 64 then R.ok (PV.int (10 ^ (14 : Int).toNat)) S' else .no) = _
      rw [if_pos (by decide)]; rfl
    have ga : gAbs [.int w] S' = .ok (.int (if w < 0 then -w else w)) S' := rfl
    by_cases c1 : w < 0
    · simp! only [c1, ga, nl, get_last, take_app]
      exact ⟨_, _, _, rfl⟩
    · by_cases c2 : (10 : Int) ^ 14 ≤ w
      · have c2' : (100000000000000 : Int) ≤ w := by simpa using c2
        simp! only [c1, gp, c2', ga, nl, get_last, take_app]
        exact ⟨_, _, _, rfl⟩
      · have c2' : ¬ (100000000000000 : Int) ≤ w := by simpa using c2
        simp! only [c1, gp, c2', ga, nl, get_last, take_app]
        exact ⟨_, _, _, rfl⟩
  by_cases c : t < (ns.length : Nat)
  · have hk : t.toNat < ns.length := by omega
    have a1 : atI (ns.map PV.int) t = some (.int ns[t.toNat]) := by rw [atI_pos h0]; simp [hk]
    have f := fin ns[t.toNat]
    simp! only [gl, c, a1]
    simp! only [] at f
    exact f
  · have f := fin 0
    simp! only [gl, c]
    simp! only [] at f
    exact f
theorem well_okS {ns : List Int} {sc : PV} (hs : Py.Scr ns sc) {t : Int} {S : Sto} (h0 : 0 ≤ t) (ht : t ≤ 10) (hl : ns.length ≤ 63) : WP (m__law_well [sc, .int t] S) fun p S' => S' = S ∧ ∃ a b c : Int, p = .lst [.int a, .int b, .int c] := by
  rcases hs with rfl | rfl
  · exact well_ok h0 ht hl
  · exact well_okL h0 ht hl
end G04
set_option Elab.async false
set_option maxRecDepth 100000
set_option maxHeartbeats 1000000
set_option linter.all false
namespace G04
open PySem PySem.Spec PyProof.Rows L2 Py
variable {D : List (Str × List Int)}

/-! ### leaves popped and made holes -/
theorem filter_split {α : Type} {p : α → Bool} : ∀ (l : List α) (k : Nat) (h : k < (l.filter p).length), ∃ A B, l = A ++ (l.filter p)[k] :: B ∧ (l.filter p).eraseIdx k = A.filter p ++ B.filter p ∧ p (l.filter p)[k] = true
  | [], k, h => by simp at h
  | x :: l, k, h => by
    by_cases hx : p x = true
    · have e : (x :: l).filter p = x :: l.filter p := by simp [hx]
      cases k with
      | zero => exact ⟨[], l, by simp [e], by simp [e], by simp [e, hx]⟩
      | succ k =>
        have h' : k < (l.filter p).length := by rw [e] at h; simpa using h
        obtain ⟨A, B, h1, h2, h3⟩ := filter_split l k h'
        refine ⟨x :: A, B, ?_, ?_, ?_⟩
        · simp only [e, List.getElem_cons_succ, List.cons_append, ← h1]
        · simp [e, h2, hx]
        · simpa [e] using h3
    · have e : (x :: l).filter p = l.filter p := by simp [hx]
      have h' : k < (l.filter p).length := by rw [e] at h; exact h
      obtain ⟨A, B, h1, h2, h3⟩ := filter_split l k h'
      refine ⟨x :: A, B, ?_, ?_, ?_⟩
      · simp only [e, List.cons_append, ← h1]
      · simp only [e, h2, List.filter_cons, hx]; simp
      · simpa [e] using h3
def nhB (q : Lv) : Bool := !decide (q.2.2.1 = "hole")
/-- the leaves that are no holes -/
def nh (t : T) : List Lv := (lv t 0).filter nhB
theorem nh_V {t : T} {k : Nat} (h : k < (nh t).length) : ∃ A B, lv t 0 = A ++ (nh t)[k] :: B ∧ (nh t).eraseIdx k = A.filter nhB ++ B.filter nhB ∧ nhB (nh t)[k] = true := filter_split (lv t 0) k h
theorem nh_len (t : T) : (nh t).length ≤ sz t := Nat.le_trans (List.length_filter_le _ _) (lv_len t 0)
mutual
theorem lv_deep (hD : DOk D) : ∀ (t : T) (d : Int), V D t → ∀ q ∈ lv t d, d ≤ q.2.1 ∧ q.2.1 ≤ d + 2 * dep t
  | .lf w xs, d, h, q, hq => by
    simp only [lv, List.mem_singleton] at hq
    subst hq
    simp only [dep]; omega
  | .nd w ns ps, d, h, q, hq => by
    cases h with
    | nd h1 h2 h3 =>
    have := lvs_deep hD ps ns 0 d h3 (fun n hn => (hD.nm _ _ h1).2.2 n hn) q hq
    simp only [dep]; omega
theorem lvs_deep (hD : DOk D) : ∀ (ps : List T) (ns : List Int) (i : Nat) (d : Int), (∀ p ∈ ps, V D p) → (∀ n ∈ ns, 0 ≤ n ∧ n ≤ 2) → ∀ q ∈ lvs ps ns i d, d ≤ q.2.1 ∧ q.2.1 ≤ d + 2 + 2 * deps ps
  | [], ns, i, d, h, hn, q, hq => by simp [lvs] at hq
  | p :: ps, [], i, d, h, hn, q, hq => by simp [lvs] at hq
  | p :: ps, n :: ns, i, d, h, hn, q, hq => by
    rw [lvs] at hq
    have n1 := hn n (by simp)
    rcases List.mem_append.mp hq with z | z
    · obtain ⟨y, hy, rfl⟩ := List.mem_map.mp z
      have := lv_deep hD p (d + n) (h p (by simp)) y hy
      simp only [deps]; omega
    · have := lvs_deep hD ps ns (i + 1) d (fun p hp => h p (by simp [hp])) (fun n hn' => hn n (by simp [hn'])) q z
      simp only [deps]; omega
end
structure Put (D : List (Str × List Int)) (t : T) (k : Nat) (q : Lv) (j : Int) (ks : List Int) (t' : T) : Prop where
  v : V D t'
  ln : len t' = len t
  lfb : isLf t = false → isLf t' = false
  er : (nh t).eraseIdx k = nh t'
  ab : ∃ A B, lv t 0 = A ++ q :: B ∧ lv t' 0 = A ++ ((q.1, q.2.1, ("hole" : Str), j :: ks) : Lv) :: B
theorem rp_nlf {pl : List Int} {t s u : T} (h : isLf t = false) (e : sub pl t = some s) (hs : isLf s = true) : isLf (rp pl t u) = false := by
  cases pl with
  | nil => cases e; rw [h] at hs; cases hs
  | cons i pl =>
    obtain ⟨w, ns, ps, p, rfl, h0, e1, e2⟩ := sub_cons e
    rw [rp_nd e1]; rfl
theorem dep_le_of_sub {pl : List Int} {t s : T} (e : sub pl t = some s) : (pl.length : Int) < dep t := by
  have := sub_dep e; have := dep_pos s; omega
theorem put_hole (hD : DOk D) {t : T} (hv : V D t) {k : Nat} (hk : k < (nh t).length) {j : Int} {ks : List Int} (j0 : 0 ≤ j) (j1 : j ≤ 99) (hl : ks.length ≤ 100) (hks : ∀ x ∈ ks, 0 ≤ x) :
    Put D t k (nh t)[k] j ks (rp (nh t)[k].1 t (.lf "hole" (j :: ks))) ∧ ((nh t)[k].1.length : Int) < dep t ∧ (∃ s, sub (nh t)[k].1 t = some s) ∧ nhB (nh t)[k] = true ∧ (nh t)[k] ∈ lv t 0 := by
  obtain ⟨A, B, h1, h2, h3⟩ := nh_V hk
  generalize (nh t)[k] = q at h1 h3 ⊢
  obtain ⟨g1, g2⟩ := lv_split t 0 A q B h1
  have hu : V D (.lf "hole" (j :: ks)) := .lf (.inl ⟨rfl, j, ks, rfl, j0, j1, hl, hks⟩)
  have g3 := g2 "hole" (j :: ks)
  refine ⟨⟨rp_V hv g1 hu, ?_, fun z => rp_nlf z g1 rfl, ?_, A, B, h1, g3⟩, dep_le_of_sub g1, ⟨_, g1⟩, h3, by rw [h1]; simp⟩
  · have := rp_len (u := .lf "hole" (j :: ks)) g1
    simp only [len] at this; omega
  · rw [h2]
    unfold nh
    rw [g3, List.filter_append, List.filter_cons]
    have : ¬ nhB ((q.1, q.2.1, ("hole" : Str), j :: ks) : Lv) = true := by simp [nhB]
    rw [if_neg this]
/-! ### the holes of a form under way -/
structure FmI (D : List (Str × List Int)) (told : List Int) (t : T) (len0 : Int) : Prop where
  v : V D t
  nl : isLf t = false
  ln : len t = len0
  tl : ∀ q ∈ lv t 0, ToldL q.2
  ho : HoOk told (((lv t 0).map fun q : Lv => q.2).filterMap hoF)
  td : ∀ n ∈ told, 0 ≤ n ∧ n ≤ 2
theorem hoF_no {q : Lv} (h : nhB q = true) : hoF q.2 = none := by
  unfold hoF
  obtain ⟨pl, d, w, xs⟩ := q
  have : ¬ w = "hole" := by simpa [nhB] using h
  cases xs with
  | nil => rfl
  | cons j ks => exact if_neg this
theorem hoF_yes {pl : List Int} {d j : Int} {ks : List Int} : hoF ((pl, d, ("hole" : Str), j :: ks) : Lv).2 = some (j, ks) := by
  show (if (("hole" : Str) = "hole") then some (j, ks) else none) = _
  rw [if_pos rfl]
theorem rgI_succ (n : Nat) : rgI (n + 1) = rgI n ++ [(n : Int)] := by
  unfold rgI; rw [List.range_succ]; simp
theorem HoOk.put {told : List Int} {X Y : List (Int × List Int)} {ks : List Int} (h : HoOk told (X ++ Y)) (nd : ks.Nodup) (l2 : ks.length ≤ 2) : HoOk (told ++ [(ks.length : Int)]) (X ++ ((told.length : Int), ks) :: Y) := by
  have pm : (X ++ ((told.length : Int), ks) :: Y).Perm (X ++ Y ++ [((told.length : Int), ks)]) :=
    List.perm_middle.trans (List.perm_append_singleton _ _).symm
  refine ⟨?_, fun q hq => ?_⟩
  · have := pm.map (·.1)
    refine this.trans ?_
    rw [List.map_append, List.length_append]
    show ((X ++ Y).map (·.1) ++ [(told.length : Int)]).Perm (rgI (told.length + 1))
    rw [rgI_succ]
    exact List.Perm.append_right _ h.perm
  · rcases List.mem_append.mp (pm.mem_iff.mp hq) with z | z
    · obtain ⟨g1, g2, g3⟩ := h.each q z
      have hq1 : q.1 ∈ rgI told.length := h.perm.mem_iff.mp (List.mem_map.mpr ⟨q, z, rfl⟩)
      have := rgI_mem hq1
      refine ⟨?_, g2, g3⟩
      rw [g1]
      have hlt : q.1.toNat < told.length := by omega
      simp [List.getD, List.getElem?_append_left hlt]
    · rw [List.mem_singleton] at z
      subst z
      refine ⟨?_, nd, l2⟩
      simp [List.getD]
theorem FmI.put (hD : DOk D) {told : List Int} {t : T} {len0 : Int} (h : FmI D told t len0) {k : Nat} (hk : k < (nh t).length) {ks : List Int} (nd : ks.Nodup) (l2 : ks.length ≤ 2) (hks : ∀ x ∈ ks, 0 ≤ x ∧ x < (nh t)[k].2.1) (tl : told.length ≤ 50) :
    FmI D (told ++ [(ks.length : Int)]) (rp (nh t)[k].1 t (.lf "hole" ((told.length : Int) :: ks))) len0 := by
  obtain ⟨pt, _, _, hn, _⟩ := put_hole hD h.v hk (j := (told.length : Int)) (ks := ks) (by omega) (by omega) (by omega) (fun x hx => (hks x hx).1)
  generalize rp (nh t)[k].1 t (.lf "hole" ((told.length : Int) :: ks)) = t' at pt ⊢
  generalize (nh t)[k] = q at pt hn hks
  obtain ⟨A, B, h1, h2⟩ := pt.ab
  refine ⟨pt.v, pt.lfb h.nl, pt.ln.trans h.ln, ?_, ?_, ?_⟩
  · intro y hy
    rw [h2] at hy
    rcases List.mem_append.mp hy with z | z
    · exact h.tl y (by rw [h1]; simp [z])
    · rcases List.mem_cons.mp z with z | z
      · subst z
        exact .inr (.inr ⟨rfl, _, ks, rfl, by omega, fun x hx => (hks x hx).2⟩)
      · exact h.tl y (by rw [h1]; simp [z])
  · have ho := h.ho
    rw [h1] at ho
    rw [h2]
    simp only [List.map_append, List.map_cons, List.filterMap_append, List.filterMap_cons, hoF_yes, hoF_no hn] at ho ⊢
    exact ho.put nd l2
  · intro n hn
    rcases List.mem_append.mp hn with z | z
    · exact h.td n z
    · rw [List.mem_singleton] at z; omega
/-- at the beginning there is no hole -/
theorem hoF_T {free : Int} {q : Lv} (h : LfT free 0 q.2) : hoF q.2 = none ∧ nhB q = true := by
  have hn : nhB q = true := by
    obtain ⟨pl, d, w, xs⟩ := q
    rcases h with e | ⟨e, _⟩ | ⟨e, _⟩
    · replace e : w = "number" := e
      subst e; simp [nhB, ne_nh]
    · replace e : w = "name" := e
      subst e; simp [nhB, ne_mh]
    · replace e : w = "at" := e
      subst e; simp [nhB, ne_ah]
  exact ⟨hoF_no hn, hn⟩
theorem nh_T {free ats : Int} {q : Lv} (h : LfT free ats q.2) : nhB q = true := by
  obtain ⟨pl, d, w, xs⟩ := q
  rcases h with e | ⟨e, _⟩ | ⟨e, _⟩
  · replace e : w = "number" := e
    subst e; simp [nhB, ne_nh]
  · replace e : w = "name" := e
    subst e; simp [nhB, ne_mh]
  · replace e : w = "at" := e
    subst e; simp [nhB, ne_ah]
theorem nh_all {free ats : Int} {t : T} (h : ∀ q ∈ lv t 0, LfT free ats q.2) : nh t = lv t 0 :=
  List.filter_eq_self.mpr fun q hq => nh_T (h q hq)
theorem FmI.start {t : T} (hv : V D t) (nl : isLf t = false) (h : ∀ q ∈ lv t 0, LfT 0 0 q.2) : FmI D [] t (len t) := by
  refine ⟨hv, nl, rfl, fun q hq => ?_, ?_, by simp⟩
  · rcases h q hq with e | ⟨e, i, e2, e3⟩ | ⟨e, e2⟩
    · exact .inl ⟨e, trivial⟩
    · exact .inr (.inl ⟨e, i, e2, by omega⟩)
    · omega
  · have : (((lv t 0).map fun q : Lv => q.2).filterMap hoF) = [] := by
      rw [List.filterMap_eq_nil_iff]
      intro y hy
      obtain ⟨q, hq, rfl⟩ := List.mem_map.mp hy
      exact hoF_no (nh_T (h q hq))
    rw [this]
    exact ⟨by simp [rgI], by simp⟩
theorem lvs_ne {ps : List T} {ns : List Int} {i : Nat} {d : Int} (h : 1 ≤ ps.length) (h2 : ps.length = ns.length) (hp : ∀ p ∈ ps, ∀ d, 1 ≤ (lv p d).length) : 1 ≤ (lvs ps ns i d).length := by
  cases ps with
  | nil => simp at h
  | cons p ps =>
    cases ns with
    | nil => simp at h2
    | cons n ns =>
      have := hp p (by simp) (d + n)
      rw [lvs, List.length_append, List.length_map]; omega
theorem lv_ne (hD : DOk D) {t : T} (h : V D t) : ∀ d, 1 ≤ (lv t d).length := by
  induction h with
  | lf _ => intro d; simp [lv]
  | @nd w ns ps h1 h2 h3 ih =>
    intro d
    rw [lv]
    exact lvs_ne (by have := (hD.nm _ _ h1).1; omega) h2 ih
theorem lv_lt_len (hD : DOk D) {t : T} (h : V D t) (nl : isLf t = false) : ((lv t 0).length : Int) + 1 ≤ len t := by
  cases h with
  | lf _ => cases nl
  | @nd w ns ps h1 h2 h3 =>
    have a := sum_nn fun n hn => ((hD.nm _ _ h1).2.2 n hn).1
    have b := lvs_len ps ns 0 0
    have c := szs_le (ps := ps) fun p hp => (h3 p hp).sz_le hD
    simp only [lv, len]; omega
theorem ints_cons (a : Int) (n : Nat) : Py.intsFrom a (n + 1) = .int a :: Py.intsFrom (a + 1) n := by
  unfold Py.intsFrom
  rw [List.range_succ_eq_map]
  simp only [List.map_cons, List.map_map]
  congr 1
  · simp
  · apply List.map_congr_left
    intro i _
    simp only [Function.comp]
    congr 1
    omega
theorem ints_zero (a : Int) : Py.intsFrom a 0 = [] := rfl
end G04
set_option Elab.async false
set_option maxRecDepth 100000
set_option maxHeartbeats 2000000
set_option linter.all false
namespace G04
open PySem PySem.Spec PyProof.Rows L2 Py
variable {D : List (Str × List Int)}
local macro_rules
  | `(tactic| simp! only [$a,*]) => `(tactic| simp only [wp_ok, wp_no, ↓wp_bind, ↓R.bind_ok, ↓sSeq, ↓sNil, ↓sSet, ↓sAsg, ↓sIf, ↓sRet, ↓sExpr, ↓sPar, ↓sPar3, ↓sFor, ↓nName, ↓nTup, ↓nCons, ↓nNil, ↓nNs, ↓eVar, ↓eC, ↓eOp, ↓eUn, ↓eArgs, ↓eNew, ↓aCons, ↓aNil, ↓tV, ↓tT, toB, truP, ↓tNotE, ↓tAndE, ↓tOrE, ↓tYesE, ↓eAndV, ↓eOrV, ↓eNotV, ↓eNotT, ↓eIf, gAdd_int, gAdd_tup, Py.gSub, gMul_l, gMul_r, gMod, gFdiv, gNeg, gLt, gLe, gGt, gGe, gInt, gIx, gEq_int, gEq_str, gEq_bl, gNe_int, gNe_str, gNe_bl, gIsN, gNotN, getQ, getL, gSetL, ↓nSubL, gDivmod, gMin2, gMax2, ↓mkDef, ↓mkNew, startP, finF, finO, finV_tup, finV_int, finV_bl, finV_lst, finV_non, finV_str, finV_ref, ↓eChain, tyP, gIsi, isiB, ↓iArgs, ↓iSeq, iterP, ↓fComp, wipeP, ↓eSl, ↓oNone, ↓oSome, gSl, ↓eMeth0, ↓eMeth1, ixN, atI0, atI1, atI2, atI3, List.length_cons, List.length_nil, List.map_cons, List.map_nil, List.replicate, List.cons_append, List.nil_append, List.append_nil, List.getElem?_cons_zero, List.getElem?_cons_succ, List.getElem?_nil, List.set_cons_zero, List.set_cons_succ, List.set_nil, List.length_set, List.length_append, Nat.add_sub_cancel, Nat.reduceAdd, Nat.reduceSub, Nat.reduceLT, Nat.reduceEqDiff, Nat.reduceLeDiff, Nat.le_refl, Nat.zero_le, if_true, if_false, ↓reduceIte, decide_eq_true_eq, Bool.false_eq_true, Bool.true_eq_false, Bool.not_true, Bool.not_false, Option.isSome_some, forall_const, not_true_eq_false, not_false_eq_true, imp_self, false_implies, true_implies, implies_true, and_true, true_and, Int.toNat_zero, Nat.zero_add, Int.reduceLE, Int.reduceLT, Int.reduceNeg, Int.reduceToNat, Int.reducePow, Int.reduceGT, Int.cast_ofNat_Int, true_or, or_true, Int.ofNat_eq_natCast, decide_true, decide_false, Int.reduceEq, List.isEmpty_cons, List.isEmpty_nil, eDGet1,  keyP, Option.map_some, Option.map_none, Option.getD_some, Option.isSome_some, reduceCtorEq, and_self,  allPure_nil, allPure_cons, Bool.and_true, Bool.true_and, Bool.false_and, Bool.and_false, Bool.not_eq_true, Bool.not_eq_false, gTupP_nil, gLstP_nil, gTupP_ok, gLstP_ok, isRef_tup, isRef_int, isRef_str, isRef_bl, Bool.or_false, Bool.or_true, Bool.true_or, Bool.false_or, $a,*])

theorem Wl.split2 {n : Nat} {S S' : Sto} {A B : PV} (h : Wl n (S ++ [A] ++ [B]) S') (hn : n < S.length) : ∃ S1, S' = S1 ++ [A] ++ [B] ∧ Wl n S S1 := by
  rw [List.append_assoc] at h
  obtain ⟨S1, rfl, w⟩ := h.split hn
  exact ⟨S1, by rw [List.append_assoc], w⟩
theorem gSum2 {S : Sto} {A : PV} {ns : List Int} : gSumA [.ref (S.length + 1)] (S ++ [A] ++ [.lst (ns.map .int)]) = .ok (.int ns.sum) (S ++ [A] ++ [.lst (ns.map .int)]) := by
  simp [gSumA, getQ, getL, intsOf_map]
theorem gLen1 {S : Sto} {B : PV} {xs : List PV} : gLen [.ref S.length] (S ++ [.lst xs] ++ [B]) = .ok (.int (xs.length : Nat)) (S ++ [.lst xs] ++ [B]) := by
  simp [gLen, getQ, getL]
theorem pop2 {S S1 : Sto} (e : S1.length = S.length) {B : PV} {R : List Lv} {k : Int} (h0 : 0 ≤ k) (h1 : k.toNat < R.length) (h2 : R.length ≤ 5000) : gPopAt (.ref S.length) (.int k) (S1 ++ [.lst (R.map (lvP []))] ++ [B]) = .ok (.tup [.tup (R[k.toNat].1.map .int), .int R[k.toNat].2.1]) (S1 ++ [.lst ((R.eraseIdx k.toNat).map (lvP []))] ++ [B]) := by
  rw [← e, gPopAt_eq g2a h0 (by simp; omega) (by simpa using h2), s2a]
  simp [map_erase, lvP]
abbrev formB : Es := (sSeq (sAsg (eMeth1 gPopAt (eVar 8) (eArgs m__law_draw (aCons (eVar 0) (aCons (eArgs gLen (aCons (eVar 8) aNil)) aNil)))) (nTup 2 (nCons (nName 13) (nCons (nName 14) nNil)))) (sSeq (sSet 15 (eArgs m__law_told (aCons (eVar 0) (aCons (eVar 14) (aCons (eArgs gMin2 (aCons (eArgs m__law_pick (aCons (eVar 0) (aCons (eArgs gTupP (aCons (eC (.int 2)) (aCons (eC (.int 1)) (aCons (eC (.int 0)) (aCons (eC (.int 1)) aNil))))) aNil))) (aCons (eOp Py.gSub (eVar 11) (eArgs gSumA (aCons (eVar 9) aNil))) aNil))) aNil))))) (sSeq (sSet 7 (eArgs (m__law_replaced 64) (aCons (eVar 7) (aCons (eVar 13) (aCons (eOp gAdd (eArgs gTupP (aCons (eC (.str "hole")) (aCons (eVar 12) aNil))) (eVar 15)) aNil))))) (sExpr (eMeth1 gApp (eVar 9) (eArgs gLen (aCons (eVar 15) aNil)))))))
theorem form_loop (hD : DOk D) {n : Nat} {S0 : Sto} {a1 a2 a3 a4 a5 a6 a10 : Option PV} {sp len0 : Int} (h24 : len0 ≤ 60) : ∀ (c : Nat) (i : Int) (S : Sto) (told : List Int) (t : T) (x12 x13 x14 x15 x16 x17 : Option PV), i = (told.length : Int) → Well S n → S.length = S0.length → FmI D told t len0 → told.length + c ≤ 50 → c ≤ (nh t).length → told.sum ≤ sp →
    WP (forF (nName 12) formB (Py.intsFrom i c) [some (.ref n), a1, a2, a3, a4, a5, a6, some (enc t), some (.ref S0.length), some (.ref (S0.length + 1)), a10, some (.int sp), x12, x13, x14, x15, x16, x17] (S ++ [.lst ((nh t).map (lvP []))] ++ [.lst (told.map .int)])) fun fl S' => ∃ (S1 : Sto) (t' : T) (told' : List Int) (A : PV) (y12 y13 y14 y15 y16 y17 : Option PV), fl = .nx [some (.ref n), a1, a2, a3, a4, a5, a6, some (enc t'), some (.ref S0.length), some (.ref (S0.length + 1)), a10, some (.int sp), y12, y13, y14, y15, y16, y17] ∧ S' = S1 ++ [A] ++ [.lst (told'.map .int)] ∧ Wl n S S1 ∧ FmI D told' t' len0 ∧ told'.length = told.length + c ∧ told'.sum ≤ sp
  | 0, i, S, told, t, x12, x13, x14, x15, x16, x17, hi, hw, hS, hf, hl, hc, hs => by
    rw [ints_zero, forF]
    simp! only []
    exact ⟨S, t, told, _, _, _, _, _, _, _, rfl, rfl, Wl.refl hw, hf, rfl, hs⟩
  | c + 1, i, S, told, t, x12, x13, x14, x15, x16, x17, hi, hw, hS, hf, hl, hc, hs => by
    have hz := hf.v.sz_le hD
    have hnl := nh_len t
    have hln := hf.ln
    have hdl := hf.v.dep_le hD
    rw [ints_cons, forF, ← hS]
    simp! only [g2a, g2b, isLst_of g2a, isLst_of g2b, gLen1, List.length_map]
    have hw2 : Well (S ++ [.lst ((nh t).map (lvP []))] ++ [.lst (told.map .int)]) n := hw.app.app
    refine wp_of (draw_ok hw2 (m := (nh t).length) (by omega) (by omega)) fun p S2 ⟨k, ek, h0, h1, w1⟩ => ?_
    subst ek
    obtain ⟨S1, rfl, w2⟩ := w1.split2 hw.lt
    have hk : k.toNat < (nh t).length := by omega
    have e1 := pop2 (S := S) (S1 := S1) w2.len (B := .lst (told.map .int)) h0 hk (by omega)
    obtain ⟨_, hpl, ⟨s, hsub⟩, hnh, hmem⟩ := put_hole hD hf.v hk (j := 0) (ks := []) (by omega) (by omega) (by simp) (by simp)
    obtain ⟨d0, d1⟩ := lv_deep hD t 0 hf.v _ hmem
    generalize hq : (nh t)[k.toNat] = q at *
    have hw3 : Well (S1 ++ [.lst (((nh t).eraseIdx k.toNat).map (lvP []))] ++ [.lst (told.map .int)]) n := w2.w.app.app
    simp! only [e1]
    refine wp_of (pick_tup hw3 (xs := [.int 2, .int 1, .int 0, .int 1]) (by simp) (by simp) (by simp [isRef_int])) fun p S3 ⟨hp, w3⟩ => ?_
    obtain ⟨m, rfl, m0, m2⟩ : ∃ m : Int, p = .int m ∧ 0 ≤ m ∧ m ≤ 2 := by
      simp only [List.mem_cons, List.not_mem_nil, or_false] at hp
      rcases hp with rfl | rfl | rfl | rfl <;> exact ⟨_, rfl, by omega, by omega⟩
    obtain ⟨S4, rfl, w4⟩ := w3.split2 w2.w.lt
    have l4 : S4.length = S.length := w4.len.trans w2.len
    have e2 := gSum2 (S := S4) (A := .lst (((nh t).eraseIdx k.toNat).map (lvP []))) (ns := told)
    rw [l4] at e2
    simp! only [e2]
    have hw5 : Well (S4 ++ [.lst (((nh t).eraseIdx k.toNat).map (lvP []))] ++ [.lst (told.map .int)]) n := w4.w.app.app
    generalize hmx : (if sp - told.sum < m then sp - told.sum else m) = mx
    have mx0 : 0 ≤ mx := by rw [← hmx]; split <;> omega
    have mx1 : mx ≤ 2 := by rw [← hmx]; split <;> omega
    have mx2 : mx ≤ sp - told.sum := by rw [← hmx]; split <;> omega
    refine wp_of (told_ok hw5 (dp := q.2.1) (mx := mx) d0 (by omega) (by omega) (by omega)) fun p S5 ⟨w5, ks, ep, nd, hks, kl⟩ => ?_
    subst ep
    obtain ⟨S6, rfl, w6⟩ := w5.split2 w4.w.lt
    have l6 : S6.length = S.length := w6.len.trans l4
    have kl2 : (ks.length : Int) ≤ mx := by omega
    have e3 := law_replaced_eq hD (S := S6 ++ [.lst (((nh t).eraseIdx k.toNat).map (lvP []))] ++ [.lst (told.map .int)]) (u := .lf "hole" ((told.length : Int) :: ks)) q.1 64 t s (by omega) hf.v hsub
    have eu : enc (.lf "hole" ((told.length : Int) :: ks)) = .tup (.str "hole" :: .int i :: ks.map .int) := by rw [hi]; rfl
    rw [eu] at e3
    have ga : ∀ S : Sto, gAdd (.tup [.str "hole", .int i]) (.tup (ks.map .int)) S = .ok (.tup (.str "hole" :: .int i :: ks.map .int)) S := fun S => by
      rw [gAdd_tup (by simp; omega)]; rfl
    have e4 : gApp (.ref (S.length + 1)) (.int ks.length) (S6 ++ [.lst (((nh t).eraseIdx k.toNat).map (lvP []))] ++ [.lst (told.map .int)]) = .ok .non (S6 ++ [.lst (((nh t).eraseIdx k.toNat).map (lvP []))] ++ [.lst ((told ++ [(ks.length : Int)]).map .int)]) := by
      rw [← l6, gApp_eq g2b rfl (by simp; omega), s2b]
      simp
    have g6 : (S6 ++ [.lst (((nh t).eraseIdx k.toNat).map (lvP []))] ++ [.lst (told.map .int)])[S.length + 1]? = some (.lst (told.map .int)) := by
      rw [← l6]; exact g2b
    have hput := (hf.put hD hk (ks := ks) nd (by omega) (by rw [hq]; exact hks) (by omega))
    have her := ((put_hole hD hf.v hk (j := (told.length : Int)) (ks := ks) (by omega) (by omega) (by omega) (fun x hx => (hks x hx).1)).1).er
    rw [hq] at hput her
    simp! only [ga, e3, isLst_of g6, gLen_tup, List.length_map, e4]
    have hlc : ((nh t).eraseIdx k.toNat).length = (nh t).length - 1 := by rw [List.length_eraseIdx]; simp [hk]
    have := form_loop hD (n := n) (S0 := S0) (a1 := a1) (a2 := a2) (a3 := a3) (a4 := a4) (a5 := a5) (a6 := a6) (a10 := a10) (sp := sp) (len0 := len0) h24 c (i + 1) S6 (told ++ [(ks.length : Int)]) (rp q.1 t (.lf "hole" ((told.length : Int) :: ks))) (some (.int i)) (some (.tup (q.1.map .int))) (some (.int q.2.1)) (some (.tup (ks.map .int))) x16 x17 (by simp; omega) w6.w (by omega) hput (by simp; omega) (by rw [← her, hlc]; omega) (by simp; omega)
    rw [← her, ← hS] at this
    refine wp_of this fun fl S' ⟨S7, t', told', A, y12, y13, y14, y15, y16, y17, g1, g2, g3, g4, g5, g6⟩ => ⟨S7, t', told', A, y12, y13, y14, y15, y16, y17, g1, g2, ((w2.trans w4).trans w6).trans g3, g4, ?_, g6⟩
    simp at g5; omega
end G04
set_option Elab.async false
set_option maxRecDepth 100000
set_option maxHeartbeats 2000000
set_option linter.all false
namespace G04
open PySem PySem.Spec PyProof.Rows L2 Py
variable {D : List (Str × List Int)}
local macro_rules
  | `(tactic| simp! only [$a,*]) => `(tactic| simp only [wp_ok, wp_no, ↓wp_bind, ↓R.bind_ok, ↓sSeq, ↓sNil, ↓sSet, ↓sAsg, ↓sIf, ↓sRet, ↓sExpr, ↓sPar, ↓sPar3, ↓sFor, ↓nName, ↓nTup, ↓nCons, ↓nNil, ↓nNs, ↓eVar, ↓eC, ↓eOp, ↓eUn, ↓eArgs, ↓eNew, ↓aCons, ↓aNil, ↓tV, ↓tT, toB, truP, ↓tNotE, ↓tAndE, ↓tOrE, ↓tYesE, ↓eAndV, ↓eOrV, ↓eNotV, ↓eNotT, ↓eIf, gAdd_int, gAdd_tup, Py.gSub, gMul_l, gMul_r, gMod, gFdiv, gNeg, gLt, gLe, gGt, gGe, gInt, gIx, gEq_int, gEq_str, gEq_bl, gNe_int, gNe_str, gNe_bl, gIsN, gNotN, getQ, getL, gSetL, ↓nSubL, gDivmod, gMin2, gMax2, ↓mkDef, ↓mkNew, startP, finF, finO, finV_tup, finV_int, finV_bl, finV_lst, finV_non, finV_str, finV_ref, ↓eChain, tyP, gIsi, isiB, ↓iArgs, ↓iSeq, iterP, ↓fComp, wipeP, ↓eSl, ↓oNone, ↓oSome, gSl, ↓eMeth0, ↓eMeth1, ixN, atI0, atI1, atI2, atI3, List.length_cons, List.length_nil, List.map_cons, List.map_nil, List.replicate, List.cons_append, List.nil_append, List.append_nil, List.getElem?_cons_zero, List.getElem?_cons_succ, List.getElem?_nil, List.set_cons_zero, List.set_cons_succ, List.set_nil, List.length_set, List.length_append, Nat.add_sub_cancel, Nat.reduceAdd, Nat.reduceSub, Nat.reduceLT, Nat.reduceEqDiff, Nat.reduceLeDiff, Nat.le_refl, Nat.zero_le, if_true, if_false, ↓reduceIte, decide_eq_true_eq, Bool.false_eq_true, Bool.true_eq_false, Bool.not_true, Bool.not_false, Option.isSome_some, forall_const, not_true_eq_false, not_false_eq_true, imp_self, false_implies, true_implies, implies_true, and_true, true_and, Int.toNat_zero, Nat.zero_add, Int.reduceLE, Int.reduceLT, Int.reduceNeg, Int.reduceToNat, Int.reducePow, Int.reduceGT, Int.cast_ofNat_Int, true_or, or_true, Int.ofNat_eq_natCast, decide_true, decide_false, Int.reduceEq, List.isEmpty_cons, List.isEmpty_nil, eDGet1,  keyP, Option.map_some, Option.map_none, Option.getD_some, Option.isSome_some, reduceCtorEq, and_self,  allPure_nil, allPure_cons, Bool.and_true, Bool.true_and, Bool.false_and, Bool.and_false, Bool.not_eq_true, Bool.not_eq_false, gTupP_nil, gLstP_nil, gTupP_ok, gLstP_ok, isRef_tup, isRef_int, isRef_str, isRef_bl, Bool.or_false, Bool.or_true, Bool.true_or, Bool.false_or, $a,*])

/-- parts drawn one by one, whatever draws one -/
theorem compG {n m : Nat} {deep free ats : Int} {f : Ev} {ρ : Py.Env} {i : Nat} (K : Int) : ∀ (ns : List Int) (acc : List PV) (S : Sto) (left : Int),
    (∀ k ∈ ns, ∀ (S : Sto) (left : Int), Well S n → S[m]? = some (.lst [.int left]) → left ≤ K → 0 ≤ left → WP (f (ρ.set i (some (.int k))) S) fun p S' => ∃ t left', p = enc t ∧ TrOk D free ats (deep + k) left left' t ∧ W2 n m S S' left') →
    Well S n → S[m]? = some (.lst [.int left]) → left ≤ K → 0 ≤ left → acc.length + ns.length ≤ 100 →
      WP (compF (nName i) tYesE f ρ (ns.map .int) acc S) fun p S' => ∃ ts left', p = .lst (acc ++ ts.map enc) ∧ TsOk D free ats deep left left' ns ts ∧ W2 n m S S' left'
  | [], acc, S, left, hf, hw, hl, h1, h2, h3 => by
    rw [List.map_nil, compF]
    exact ⟨[], left, by simp, ⟨by simp, trivial, by simp [lens], id, Int.le_refl _, rfl⟩, ⟨rfl, fun _ _ _ => rfl, hw, hl⟩⟩
  | k :: ns, acc, S, left, hf, hw, hl, h1, h2, h3 => by
    rw [List.map_cons, compF]
    simp! only []
    refine wp_of (hf k (by simp) S left hw hl h1 h2) fun p S1 ⟨t, l1, ep, ht, w1⟩ => ?_
    subst ep
    have ha : (enc t).isRef = false ∧ acc.length < sizeLine := ⟨isRef_enc t, by have := size_1000 (n := acc.length + 1) (by simp at h3; omega); omega⟩
    rw [if_pos ha]
    refine wp_of (compG K ns (acc ++ [enc t]) S1 l1 (fun k hk => hf k (by simp [hk])) w1.w w1.l (by have := ht.le; omega) (ht.nn h2) (by simp at h3 ⊢; omega)) fun p S2 ⟨ts, l2, ep, hts, w2⟩ => ?_
    refine ⟨t :: ts, l2, by rw [ep]; simp, ⟨?_, ⟨ht.lf, hts.lf⟩, ?_, fun z => hts.nn (ht.nn z), ?_, by simp [hts.le2]⟩, w1.trans w2⟩
    · intro x hx
      rcases List.mem_cons.mp hx with e | e
      · subst e; exact ht.v
      · exact hts.v x e
    · have a := ht.ln; have c := hts.ln
      simp only [lens, List.length_cons]; omega
    · have := ht.le; have := hts.le; omega
def W8 : List Str := ["call", "fn", "pair", "plus", "test", "again", "first", "call"]
/-- the form's frame, as it stands behind the template -/
theorem W2.wlS {n : Nat} {S S' : Sto} {x : PV} {l : Int} (h : W2 n S.length (S ++ [x]) S' l) (hn : n < S.length) : ∃ S1, S' = S1 ++ [.lst [.int l]] ∧ Wl n S S1 := by
  obtain ⟨a, b, c, e⟩ := h.w
  refine ⟨S.set n (.lst [.int a, .int b, .int c]), ?_, Wl.set hn⟩
  refine List.ext_getElem? fun i => ?_
  by_cases h1 : i = n
  · subst h1
    rw [e, List.getElem?_append_left (by simpa using hn), List.getElem?_set_self hn]
  · by_cases h2 : i = S.length
    · subst h2
      rw [h.l, List.getElem?_append_right (by simp)]
      simp
    · rw [h.same i h1 h2]
      by_cases h3 : i < S.length
      · rw [List.getElem?_append_left h3, List.getElem?_append_left (by simpa using h3), List.getElem?_set_ne (Ne.symm h1)]
      · have a1 : (S ++ [x])[i]? = none := List.getElem?_eq_none (by simp; omega)
        have a2 : (S.set n (PV.lst [.int a, .int b, .int c]) ++ [PV.lst [.int l]])[i]? = none := List.getElem?_eq_none (by simp; omega)
        rw [a1, a2]
theorem dl_own {b : List Fm} {w : Str} (ho : OwnW w) (hn : w ∉ b.map Fm.w) : dl (dOf CD b) w = none := by
  rw [dl_dOf]
  have h1 : dl CD w = none := by
    cases e : dl CD w with
    | none => rfl
    | some v => exact absurd (List.mem_map.mpr ⟨(w, v), dl_mem e, rfl⟩ : w ∈ CD.map (·.1)) ho.core
  have h2 : dlB b w = none := by
    induction b with
    | nil => rfl
    | cons f b ih =>
      rw [dlB, if_neg (fun q => hn (by simp [q]))]
      exact ih fun q => hn (by simp [q])
  rw [h1, h2]; rfl
end G04
set_option Elab.async false
set_option maxRecDepth 100000
set_option maxHeartbeats 4000000
set_option linter.all false
namespace G04
open PySem PySem.Spec PyProof.Rows L2 Py
variable {D : List (Str × List Int)}
local macro_rules
  | `(tactic| simp! only [$a,*]) => `(tactic| simp only [wp_ok, wp_no, ↓wp_bind, ↓R.bind_ok, ↓sSeq, ↓sNil, ↓sSet, ↓sAsg, ↓sIf, ↓sRet, ↓sExpr, ↓sPar, ↓sPar3, ↓sFor, ↓nName, ↓nTup, ↓nCons, ↓nNil, ↓nNs, ↓eVar, ↓eC, ↓eOp, ↓eUn, ↓eArgs, ↓eNew, ↓aCons, ↓aNil, ↓tV, ↓tT, toB, truP, ↓tNotE, ↓tAndE, ↓tOrE, ↓tYesE, ↓eAndV, ↓eOrV, ↓eNotV, ↓eNotT, ↓eIf, gAdd_int, gAdd_tup, Py.gSub, gMul_l, gMul_r, gMod, gFdiv, gNeg, gLt, gLe, gGt, gGe, gInt, gIx, gEq_int, gEq_str, gEq_bl, gNe_int, gNe_str, gNe_bl, gIsN, gNotN, getQ, getL, gSetL, ↓nSubL, gDivmod, gMin2, gMax2, ↓mkDef, ↓mkNew, startP, finF, finO, finV_tup, finV_int, finV_bl, finV_lst, finV_non, finV_str, finV_ref, ↓eChain, tyP, gIsi, isiB, ↓iArgs, ↓iSeq, iterP, ↓fComp, wipeP, ↓eSl, ↓oNone, ↓oSome, gSl, ↓eMeth0, ↓eMeth1, ixN, atI0, atI1, atI2, atI3, List.length_cons, List.length_nil, List.map_cons, List.map_nil, List.replicate, List.cons_append, List.nil_append, List.append_nil, List.getElem?_cons_zero, List.getElem?_cons_succ, List.getElem?_nil, List.set_cons_zero, List.set_cons_succ, List.set_nil, List.length_set, List.length_append, Nat.add_sub_cancel, Nat.reduceAdd, Nat.reduceSub, Nat.reduceLT, Nat.reduceEqDiff, Nat.reduceLeDiff, Nat.le_refl, Nat.zero_le, if_true, if_false, ↓reduceIte, decide_eq_true_eq, Bool.false_eq_true, Bool.true_eq_false, Bool.not_true, Bool.not_false, Option.isSome_some, forall_const, not_true_eq_false, not_false_eq_true, imp_self, false_implies, true_implies, implies_true, and_true, true_and, Int.toNat_zero, Nat.zero_add, Int.reduceLE, Int.reduceLT, Int.reduceNeg, Int.reduceToNat, Int.reducePow, Int.reduceGT, Int.cast_ofNat_Int, true_or, or_true, Int.ofNat_eq_natCast, decide_true, decide_false, Int.reduceEq, List.isEmpty_cons, List.isEmpty_nil, eDGet1,  keyP, Option.map_some, Option.map_none, Option.getD_some, Option.isSome_some, reduceCtorEq, and_self,  allPure_nil, allPure_cons, Bool.and_true, Bool.true_and, Bool.false_and, Bool.and_false, Bool.not_eq_true, Bool.not_eq_false, gTupP_nil, gLstP_nil, gTupP_ok, gLstP_ok, isRef_tup, isRef_int, isRef_str, isRef_bl, Bool.or_false, Bool.or_true, Bool.true_or, Bool.false_or, $a,*])
  | `(tactic| simp! only [$a,*] at $h:ident) => `(tactic| simp only [wp_ok, wp_no, ↓wp_bind, ↓R.bind_ok, ↓sSeq, ↓sNil, ↓sSet, ↓sAsg, ↓sIf, ↓sRet, ↓sExpr, ↓sPar, ↓sPar3, ↓sFor, ↓nName, ↓nTup, ↓nCons, ↓nNil, ↓nNs, ↓eVar, ↓eC, ↓eOp, ↓eUn, ↓eArgs, ↓eNew, ↓aCons, ↓aNil, ↓tV, ↓tT, toB, truP, ↓tNotE, ↓tAndE, ↓tOrE, ↓tYesE, ↓eAndV, ↓eOrV, ↓eNotV, ↓eNotT, ↓eIf, gAdd_int, gAdd_tup, Py.gSub, gMul_l, gMul_r, gMod, gFdiv, gNeg, gLt, gLe, gGt, gGe, gInt, gIx, gEq_int, gEq_str, gEq_bl, gNe_int, gNe_str, gNe_bl, gIsN, gNotN, getQ, getL, gSetL, ↓nSubL, gDivmod, gMin2, gMax2, ↓mkDef, ↓mkNew, startP, finF, finO, finV_tup, finV_int, finV_bl, finV_lst, finV_non, finV_str, finV_ref, ↓eChain, tyP, gIsi, isiB, ↓iArgs, ↓iSeq, iterP, ↓fComp, wipeP, ↓eSl, ↓oNone, ↓oSome, gSl, ↓eMeth0, ↓eMeth1, ixN, atI0, atI1, atI2, atI3, List.length_cons, List.length_nil, List.map_cons, List.map_nil, List.replicate, List.cons_append, List.nil_append, List.append_nil, List.getElem?_cons_zero, List.getElem?_cons_succ, List.getElem?_nil, List.set_cons_zero, List.set_cons_succ, List.set_nil, List.length_set, List.length_append, Nat.add_sub_cancel, Nat.reduceAdd, Nat.reduceSub, Nat.reduceLT, Nat.reduceEqDiff, Nat.reduceLeDiff, Nat.le_refl, Nat.zero_le, if_true, if_false, ↓reduceIte, decide_eq_true_eq, Bool.false_eq_true, Bool.true_eq_false, Bool.not_true, Bool.not_false, Option.isSome_some, forall_const, not_true_eq_false, not_false_eq_true, imp_self, false_implies, true_implies, implies_true, and_true, true_and, Int.toNat_zero, Nat.zero_add, Int.reduceLE, Int.reduceLT, Int.reduceNeg, Int.reduceToNat, Int.reducePow, Int.reduceGT, Int.cast_ofNat_Int, true_or, or_true, Int.ofNat_eq_natCast, decide_true, decide_false, Int.reduceEq, List.isEmpty_cons, List.isEmpty_nil, eDGet1,  keyP, Option.map_some, Option.map_none, Option.getD_some, Option.isSome_some, reduceCtorEq, and_self,  allPure_nil, allPure_cons, Bool.and_true, Bool.true_and, Bool.false_and, Bool.and_false, Bool.not_eq_true, Bool.not_eq_false, gTupP_nil, gLstP_nil, gTupP_ok, gLstP_ok, isRef_tup, isRef_int, isRef_str, isRef_bl, Bool.or_false, Bool.or_true, Bool.true_or, Bool.false_or, $a,*] at $h:ident)

/-- the form's last part: leaves, holes, the loop -/
abbrev formT : Es := (sSeq (sPar 8 9 (eNew (eArgs (m__law_leaves 64) (aCons (eVar 1) (aCons (eVar 7) (aCons (eArgs gTupP aNil) (aCons (eC (.int 0)) aNil)))))) (eNew (eArgs gLstP aNil))) (sSeq (sSet 10 (eArgs gMin2 (aCons (eArgs m__law_pick (aCons (eVar 0) (aCons (eArgs gTupP (aCons (eC (.int 1)) (aCons (eC (.int 2)) (aCons (eC (.int 2)) (aCons (eC (.int 3)) (aCons (eC (.int 4)) aNil)))))) aNil))) (aCons (eArgs gLen (aCons (eVar 8) aNil)) aNil)))) (sSeq (sSet 11 (eOp Py.gSub (eOp Py.gSub (eArgs (m__law_length 64) (aCons (eVar 1) (aCons (eVar 7) aNil))) (eVar 10)) (eC (.int 1)))) (sSeq (sFor (iArgs gRange (aCons (eVar 10) aNil)) (nName 12) formB) (sRet (eArgs gTupP (aCons (eVar 3) (aCons (eArgs gTupOf (aCons (eVar 9) aNil)) (aCons (eVar 7) aNil)))))))))
theorem formT_ok {b : List Fm} (hb : BkOk CD b) {n : Nat} {S : Sto} (hw : Well S n) {t : T} {a2 a4 a5 a6 x12 x13 x14 x15 x16 x17 : Option PV} {w : Str} (hv : V (dOf CD b) t) (nl : isLf t = false) (hlf : ∀ q ∈ lv t 0, LfT 0 0 q.2) (h24 : len t ≤ 24) :
    WP (formT [some (.ref n), some (bookP b), a2, some (.str w), a4, a5, a6, some (enc t), none, none, none, none, x12, x13, x14, x15, x16, x17] S) fun fl S' => ∃ (S1 : Sto) (A B : PV) (t' : T) (told : List Int), fl = .rt (.tup [.str w, .tup (told.map .int), enc t']) ∧ S' = S1 ++ [A] ++ [B] ∧ Wl n S S1 ∧ TmOk (dOf CD b) told t' ∧ 1 ≤ told.length ∧ told.length ≤ 4 ∧ ∀ n ∈ told, 0 ≤ n ∧ n ≤ 2 := by
  have hD := dOf_ok b CD_ok hb
  have hdl := hv.dep_le hD
  have hz := hv.sz_le hD
  have e1 := leaves_eq hD 64 t [] 0 S (by omega) hv (by omega) (by simp)
  rw [List.map_nil] at e1
  have hnh := nh_all hlf
  have hne := lv_ne hD hv 0
  have hll := lv_lt_len hD hv nl
  have e2 := fun (S : Sto) => law_length_eq hD (S := S)
  unfold formT
  simp! only [e1]
  rw [← hnh]
  have hw1 : Well (S ++ [.lst ((nh t).map (lvP []))] ++ [.lst []]) n := hw.app.app
  refine wp_of (pick_tup hw1 (xs := [.int 1, .int 2, .int 2, .int 3, .int 4]) (by simp) (by simp) (by simp [isRef_int])) fun p S2 ⟨hp, w2⟩ => ?_
  obtain ⟨m, rfl, m0, m4⟩ : ∃ m : Int, p = .int m ∧ 1 ≤ m ∧ m ≤ 4 := by
    simp only [List.mem_cons, List.not_mem_nil, or_false] at hp
    rcases hp with rfl | rfl | rfl | rfl | rfl <;> exact ⟨_, rfl, by omega, by omega⟩
  obtain ⟨S3, rfl, w3⟩ := w2.split2 hw.lt
  have l3 := gLen1 (S := S3) (B := .lst []) (xs := (nh t).map (lvP []))
  rw [w3.len, List.length_map] at l3
  simp! only [l3]
  generalize hh : (if (((nh t).length : Nat) : Int) < m then (((nh t).length : Nat) : Int) else m) = hol
  rw [← hnh] at hne hll
  have ho1 : 1 ≤ hol := by rw [← hh]; split <;> omega
  have ho4 : hol ≤ 4 := by rw [← hh]; split <;> omega
  have hon : hol ≤ (nh t).length := by rw [← hh]; split <;> omega
  have l4 := e2 (S3 ++ [.lst ((nh t).map (lvP []))] ++ [.lst []]) 64 t (by omega) hv
  have gr := gRange_eq (j := hol) (S := S3 ++ [.lst ((nh t).map (lvP []))] ++ [.lst []]) (by omega) (by omega)
  simp! only [l4, gr]
  have lp := form_loop hD (n := n) (S0 := S3) (a1 := some (bookP b)) (a2 := a2) (a3 := some (.str w)) (a4 := a4) (a5 := a5) (a6 := a6) (a10 := some (.int hol)) (sp := len t - hol - 1) (len0 := len t) (by omega) hol.toNat 0 S3 [] t x12 x13 x14 x15 x16 x17 (by simp) w3.w rfl (FmI.start hv nl hlf) (by simp; omega) (by omega) (by simp; omega)
  rw [w3.len] at lp
  refine wp_of lp fun fl S' ⟨S5, t', told, A, y12, y13, y14, y15, y16, y17, g1, g2, g3, g4, g5, g6⟩ => ?_
  subst g1 g2
  have gt : gTupOf [.ref (S.length + 1)] (S5 ++ [A] ++ [.lst (told.map .int)]) = .ok (.tup (told.map .int)) (S5 ++ [A] ++ [.lst (told.map .int)]) := by
    rw [← w3.len, ← g3.len]
    simp [gTupOf, getL]
  simp! only [gt, isRef_enc]
  rw [List.length_nil, Nat.zero_add] at g5
  have gln := g4.ln
  refine ⟨S5, A, .lst (told.map .int), t', told, rfl, rfl, w3.trans g3, ⟨g4.v, g4.nl, g4.tl, by omega, by omega, g4.ho⟩, by omega, by omega, g4.td⟩
theorem form_ok {b : List Fm} (hb : BkOk CD b) (hbl : b.length ≤ 8) {n : Nat} {S : Sto} (hw : Well S n) : WP (m__law_form [.ref n, bookP b] S) fun p S' => Wl n S S' ∧ ∃ f, p = fmP f ∧ FmOk (dOf CD b) f := by
  have hD := dOf_ok b CD_ok hb
  have cw := comp_words (b := b) (i := 16) (ρ := [some (.ref n), some (.tup (b.map fmP)), none, none, none, none, none, none, none, none, none, none, none, none, none, none, none, none]) (S := S) (by simp) (by omega)
  have bp : bookP b = .tup (b.map fmP) := rfl
  unfold m__law_form b__law_form
  rw [bp]
  simp! only [cw, gTupOf_lst]
  refine wp_of (word_ok hw (ahead := b.map Fm.w) (by simp; omega)) fun p S1 ⟨w1, w, ep, how, hna⟩ => ?_
  subst ep
  simp! only []
  rw [gAdd_tup (by simp; omega)]
  simp! only []
  refine wp_of (pick_tup w1.w (by simp) (by simp; omega) ?_) fun p S2 ⟨hp, w2⟩ => ?_
  · intro x hx
    have hx : x ∈ W8.map PV.str ++ (b.map Fm.w).map PV.str := hx
    rcases List.mem_append.mp hx with z | z
    · obtain ⟨w, _, rfl⟩ := List.mem_map.mp z; rfl
    · obtain ⟨w, _, rfl⟩ := List.mem_map.mp z; rfl
  have hp : p ∈ W8.map PV.str ++ (b.map Fm.w).map PV.str := hp
  obtain ⟨r, rfl, hrm⟩ : ∃ r, p = .str r ∧ (r ∈ ks_CORE_WORDS ∨ r ∈ b.map Fm.w) := by
    rcases List.mem_append.mp hp with z | z
    · obtain ⟨r, h, rfl⟩ := List.mem_map.mp z
      have key : ∀ w ∈ W8, w ∈ ks_CORE_WORDS := by decide +kernel
      exact ⟨r, rfl, .inl (key r h)⟩
    · obtain ⟨r, h, rfl⟩ := List.mem_map.mp z
      exact ⟨r, rfl, .inr h⟩
  obtain ⟨ns, hns⟩ := word_names hrm
  have nm := hD.nm _ _ hns
  have snn := sum_nn fun n hn => (nm.2.2 n hn).1
  have ssm : ns.sum ≤ 2 * (ns.length : Nat) := by
    have := nm.2.2
    clear hns nm snn
    induction ns with
    | nil => simp
    | cons x xs ih =>
      have h1 := this x (by simp)
      have h2 := ih fun n hn => this n (by simp [hn])
      simp only [List.sum_cons, List.length_cons]; omega
  have ln := law_names_some (S := S2) hns
  rw [bp] at ln
  simp! only [ln]
  refine wp_of (pick_tup w2.w (xs := [.int 0, .int 3, .int 6, .int 6, .int 9, .int 12, .int 20]) (by simp) (by simp) (by simp [isRef_int])) fun p S3 ⟨hp, w3⟩ => ?_
  obtain ⟨m, rfl, m0, m4⟩ : ∃ m : Int, p = .int m ∧ 0 ≤ m ∧ m ≤ 20 := by
    simp only [List.mem_cons, List.not_mem_nil, or_false] at hp
    rcases hp with rfl | rfl | rfl | rfl | rfl | rfl | rfl <;> exact ⟨_, rfl, by omega, by omega⟩
  have sm := gSumA_ints (ns := ns) (S := S3) (by omega)
  simp! only [sm, gLen_tup, List.length_map]
  generalize hl0 : (if 23 - ns.sum - (ns.length : Nat) < m then 23 - ns.sum - (ns.length : Nat) else m) = l0
  have l00 : 0 ≤ l0 := by rw [← hl0]; split <;> omega
  have l01 : l0 ≤ 20 := by rw [← hl0]; split <;> omega
  have l02 : l0 ≤ 23 - ns.sum - (ns.length : Nat) := by rw [← hl0]; split <;> omega
  have w13 := (w1.trans w2).trans w3
  have hn3 := w3.w.lt
  refine wp_of (compG (D := dOf CD b) (n := n) (m := S3.length) (deep := 0) (free := 0) (ats := 0) (i := 17) 38 ns [] (S3 ++ [.lst [.int l0]]) l0 (fun k hk S left h1 h2 h3 h4 => ?_) w3.w.app get_last (by omega) l00 (by simp; omega)) fun p S4 ⟨ts, l', ep, hts, w4⟩ => ?_
  · have := nm.2.2 k hk
    simp! only []
    have := tree_ok hb (by omega) (show S3.length ≠ n by omega) (free := 0) (ats := 0) (by omega) (by omega) 40 S k left (by omega) (by omega) h4 h1 h2
    rw [bp] at this
    rw [Int.zero_add]
    exact this
  subst ep
  obtain ⟨S5, rfl, w5⟩ := w4.wlS hn3
  have htl := hts.le2
  rw [List.nil_append]
  simp! only [gTupOf_lst]
  rw [gAdd_tup (by simp; omega)]
  simp! only []
  have hend : PV.tup (PV.str r :: ts.map enc) = enc (.nd r ns ts) := by rw [enc, encs_map]
  rw [hend]
  have hln := hts.ln
  have hnn := hts.nn l00
  have tt := formT_ok hb (n := n) (S := S5 ++ [.lst [.int l']]) w5.w.app (t := .nd r ns ts) (a2 := some (.tup ((b.map Fm.w).map .str))) (a4 := some (.str r)) (a5 := some (.tup (ns.map .int))) (a6 := some (.ref S3.length)) (x12 := none) (x13 := none) (x14 := none) (x15 := none) (x16 := none) (x17 := none) (w := w) (.nd hns (by omega) hts.v) rfl (by rw [lv]; exact lvs_all ts ns 0 0 hts.lf) (by simp only [len]; omega)
  have fin := wp_of tt (Q' := fun fl S' => WP (finF S.length fl S') fun p S' => Wl n S S' ∧ ∃ f, p = fmP f ∧ FmOk (dOf CD b) f) fun fl S' ⟨S6, A, B, t', told, g1, g2, g3, g4, g5, g6, g7⟩ => by
    subst g1 g2
    obtain ⟨S7, rfl, w7⟩ := g3.split w5.w.lt
    have wa := (w13.trans w5).trans w7
    have tk : (S7 ++ [PV.lst [.int l']] ++ [A] ++ [B]).take S.length = S7 := by
      rw [← wa.len]; simp
    simp! only [tk]
    exact ⟨wa, ⟨w, told, t'⟩, rfl, how, dl_own how hna, ⟨g5, g6, g7⟩, g4⟩
  unfold formT at fin
  rw [bp] at fin
  simp! only [] at fin
  exact fin
end G04
set_option Elab.async false
set_option maxRecDepth 100000
set_option maxHeartbeats 4000000
set_option linter.all false
namespace G04
open PySem PySem.Spec PyProof.Rows L2 Py
variable {D : List (Str × List Int)}
local macro_rules
  | `(tactic| simp! only [$a,*]) => `(tactic| simp only [wp_ok, wp_no, ↓wp_bind, ↓R.bind_ok, ↓sSeq, ↓sNil, ↓sSet, ↓sAsg, ↓sIf, ↓sRet, ↓sExpr, ↓sPar, ↓sPar3, ↓sFor, ↓nName, ↓nTup, ↓nCons, ↓nNil, ↓nNs, ↓eVar, ↓eC, ↓eOp, ↓eUn, ↓eArgs, ↓eNew, ↓aCons, ↓aNil, ↓tV, ↓tT, toB, truP, ↓tNotE, ↓tAndE, ↓tOrE, ↓tYesE, ↓eAndV, ↓eOrV, ↓eNotV, ↓eNotT, ↓eIf, gAdd_int, gAdd_tup, Py.gSub, gMul_l, gMul_r, gMod, gFdiv, gNeg, gLt, gLe, gGt, gGe, gInt, gIx, gEq_int, gEq_str, gEq_bl, gNe_int, gNe_str, gNe_bl, gIsN, gNotN, getQ, getL, gSetL, ↓nSubL, gDivmod, gMin2, gMax2, ↓mkDef, ↓mkNew, startP, finF, finO, finV_tup, finV_int, finV_bl, finV_lst, finV_non, finV_str, finV_ref, ↓eChain, tyP, gIsi, isiB, ↓iArgs, ↓iSeq, iterP, ↓fComp, wipeP, ↓eSl, ↓oNone, ↓oSome, gSl, ↓eMeth0, ↓eMeth1, ixN, atI0, atI1, atI2, atI3, List.length_cons, List.length_nil, List.map_cons, List.map_nil, List.replicate, List.cons_append, List.nil_append, List.append_nil, List.getElem?_cons_zero, List.getElem?_cons_succ, List.getElem?_nil, List.set_cons_zero, List.set_cons_succ, List.set_nil, List.length_set, List.length_append, Nat.add_sub_cancel, Nat.reduceAdd, Nat.reduceSub, Nat.reduceLT, Nat.reduceEqDiff, Nat.reduceLeDiff, Nat.le_refl, Nat.zero_le, if_true, if_false, ↓reduceIte, decide_eq_true_eq, Bool.false_eq_true, Bool.true_eq_false, Bool.not_true, Bool.not_false, Option.isSome_some, forall_const, not_true_eq_false, not_false_eq_true, imp_self, false_implies, true_implies, implies_true, and_true, true_and, Int.toNat_zero, Nat.zero_add, Int.reduceLE, Int.reduceLT, Int.reduceNeg, Int.reduceToNat, Int.reducePow, Int.reduceGT, Int.cast_ofNat_Int, true_or, or_true, Int.ofNat_eq_natCast, decide_true, decide_false, Int.reduceEq, List.isEmpty_cons, List.isEmpty_nil, eDGet1,  keyP, Option.map_some, Option.map_none, Option.getD_some, Option.isSome_some, reduceCtorEq, and_self,  allPure_nil, allPure_cons, Bool.and_true, Bool.true_and, Bool.false_and, Bool.and_false, Bool.not_eq_true, Bool.not_eq_false, gTupP_nil, gLstP_nil, gTupP_ok, gLstP_ok, isRef_tup, isRef_int, isRef_str, isRef_bl, Bool.or_false, Bool.or_true, Bool.true_or, Bool.false_or, $a,*])
  | `(tactic| simp! only [$a,*] at $h:ident) => `(tactic| simp only [wp_ok, wp_no, ↓wp_bind, ↓R.bind_ok, ↓sSeq, ↓sNil, ↓sSet, ↓sAsg, ↓sIf, ↓sRet, ↓sExpr, ↓sPar, ↓sPar3, ↓sFor, ↓nName, ↓nTup, ↓nCons, ↓nNil, ↓nNs, ↓eVar, ↓eC, ↓eOp, ↓eUn, ↓eArgs, ↓eNew, ↓aCons, ↓aNil, ↓tV, ↓tT, toB, truP, ↓tNotE, ↓tAndE, ↓tOrE, ↓tYesE, ↓eAndV, ↓eOrV, ↓eNotV, ↓eNotT, ↓eIf, gAdd_int, gAdd_tup, Py.gSub, gMul_l, gMul_r, gMod, gFdiv, gNeg, gLt, gLe, gGt, gGe, gInt, gIx, gEq_int, gEq_str, gEq_bl, gNe_int, gNe_str, gNe_bl, gIsN, gNotN, getQ, getL, gSetL, ↓nSubL, gDivmod, gMin2, gMax2, ↓mkDef, ↓mkNew, startP, finF, finO, finV_tup, finV_int, finV_bl, finV_lst, finV_non, finV_str, finV_ref, ↓eChain, tyP, gIsi, isiB, ↓iArgs, ↓iSeq, iterP, ↓fComp, wipeP, ↓eSl, ↓oNone, ↓oSome, gSl, ↓eMeth0, ↓eMeth1, ixN, atI0, atI1, atI2, atI3, List.length_cons, List.length_nil, List.map_cons, List.map_nil, List.replicate, List.cons_append, List.nil_append, List.append_nil, List.getElem?_cons_zero, List.getElem?_cons_succ, List.getElem?_nil, List.set_cons_zero, List.set_cons_succ, List.set_nil, List.length_set, List.length_append, Nat.add_sub_cancel, Nat.reduceAdd, Nat.reduceSub, Nat.reduceLT, Nat.reduceEqDiff, Nat.reduceLeDiff, Nat.le_refl, Nat.zero_le, if_true, if_false, ↓reduceIte, decide_eq_true_eq, Bool.false_eq_true, Bool.true_eq_false, Bool.not_true, Bool.not_false, Option.isSome_some, forall_const, not_true_eq_false, not_false_eq_true, imp_self, false_implies, true_implies, implies_true, and_true, true_and, Int.toNat_zero, Nat.zero_add, Int.reduceLE, Int.reduceLT, Int.reduceNeg, Int.reduceToNat, Int.reducePow, Int.reduceGT, Int.cast_ofNat_Int, true_or, or_true, Int.ofNat_eq_natCast, decide_true, decide_false, Int.reduceEq, List.isEmpty_cons, List.isEmpty_nil, eDGet1,  keyP, Option.map_some, Option.map_none, Option.getD_some, Option.isSome_some, reduceCtorEq, and_self,  allPure_nil, allPure_cons, Bool.and_true, Bool.true_and, Bool.false_and, Bool.and_false, Bool.not_eq_true, Bool.not_eq_false, gTupP_nil, gLstP_nil, gTupP_ok, gLstP_ok, isRef_tup, isRef_int, isRef_str, isRef_bl, Bool.or_false, Bool.or_true, Bool.true_or, Bool.false_or, $a,*] at $h:ident)

/-- the free names that a leaf tells -/
def frN (w : Str) (xs : List Int) : List Int := if w = "name" then xs else if w = "hole" then xs.drop 1 else []
def frL (q : Ld) : List Int := ((frN q.2.1 q.2.2).filter fun k => decide (q.1 ≤ k)).map fun k => k - q.1
def LB (q : Ld) : Prop := ∀ x ∈ frL q, 0 ≤ x ∧ x ≤ 10
theorem frL_mem {q : Ld} {x : Int} (h : x ∈ frL q) : ∃ k ∈ frN q.2.1 q.2.2, q.1 ≤ k ∧ x = k - q.1 := by
  obtain ⟨k, hk, rfl⟩ := List.mem_map.mp h
  obtain ⟨h1, h2⟩ := List.mem_filter.mp hk
  exact ⟨k, h1, by simpa using h2, rfl⟩
theorem LB_T {free ats : Int} {q : Ld} (hf : free ≤ 10) (h : LfT free ats q) : LB q := by
  intro x hx
  obtain ⟨k, h1, h2, rfl⟩ := frL_mem hx
  obtain ⟨d, w, xs⟩ := q
  rcases h with e | ⟨e, i, e2, e3⟩ | ⟨e, _⟩
  · replace e : w = "number" := e
    subst e
    simp only [frN, ne_nm, ne_nh, if_false] at h1
    cases h1
  · replace e : w = "name" := e
    replace e2 : xs = [i] := e2
    subst e e2
    simp only [frN, if_true] at h1
    rw [List.mem_singleton] at h1
    replace e3 : i < d + free := e3
    replace h2 : d ≤ k := h2
    show 0 ≤ k - d ∧ k - d ≤ 10
    omega
  · replace e : w = "at" := e
    subst e
    have a1 : (("at" : Str) = "name") = False := by simp; decide +kernel
    simp only [frN, a1, ne_ah, if_false] at h1
    cases h1
theorem LB_hole {d j : Int} {ks : List Int} (h : ∀ k ∈ ks, 0 ≤ k ∧ k < d + 3) : LB ((d, ("hole" : Str), j :: ks) : Ld) := by
  intro x hx
  obtain ⟨k, h1, h2, rfl⟩ := frL_mem hx
  have a1 : (("hole" : Str) = "name") = False := ne_hm
  simp only [frN, a1, if_false, if_true, List.drop_succ_cons, List.drop_zero] at h1
  have := h k h1
  replace h2 : d ≤ k := h2
  show 0 ≤ k - d ∧ k - d ≤ 10
  omega
theorem Wl.split1 {n : Nat} {S S' : Sto} {A : PV} (h : Wl n (S ++ [A]) S') (hn : n < S.length) : ∃ S1, S' = S1 ++ [A] ∧ Wl n S S1 := h.split hn
theorem gLen0 {S : Sto} {xs : List PV} : gLen [.ref S.length] (S ++ [.lst xs]) = .ok (.int (xs.length : Nat)) (S ++ [.lst xs]) := by
  simp [gLen, getQ, getL]
theorem pop1 {S S1 : Sto} (e : S1.length = S.length) {R : List Lv} {k : Int} (h0 : 0 ≤ k) (h1 : k.toNat < R.length) (h2 : R.length ≤ 5000) : gPopAt (.ref S.length) (.int k) (S1 ++ [.lst (R.map (lvP []))]) = .ok (.tup [.tup (R[k.toNat].1.map .int), .int R[k.toNat].2.1]) (S1 ++ [.lst ((R.eraseIdx k.toNat).map (lvP []))]) := by
  rw [← e, gPopAt_eq get_last h0 (by simp; omega) (by simpa using h2), set_last]
  simp [map_erase, lvP]
abbrev moreB : Es := (sSet 8 (eOp gAdd (eVar 8) (eArgs gTupP (aCons (eArgs m__law_draw (aCons (eVar 0) (aCons (eOp gAdd (eVar 7) (eC (.int 3))) aNil))) aNil))))
theorem more_loop {n : Nat} {a1 a2 a3 a4 a5 a6 : Option PV} {dp j : Int} (hd : 0 ≤ dp) (hd2 : dp ≤ 500) : ∀ (items : List PV) (S : Sto) (ks : List Int) (x9 : Option PV), Well S n → ks.length + items.length ≤ 90 → (∀ k ∈ ks, 0 ≤ k ∧ k < dp + 3) →
    WP (forF (nName 9) moreB items [some (.ref n), a1, a2, a3, a4, a5, a6, some (.int dp), some (.tup (.str "hole" :: .int j :: ks.map .int)), x9] S) fun fl S' => Wl n S S' ∧ ∃ (ks' : List Int) (x9 : Option PV), fl = .nx [some (.ref n), a1, a2, a3, a4, a5, a6, some (.int dp), some (.tup (.str "hole" :: .int j :: ks'.map .int)), x9] ∧ ks'.length = ks.length + items.length ∧ ∀ k ∈ ks', 0 ≤ k ∧ k < dp + 3
  | [], S, ks, x9, hw, hl, hk => by
    rw [forF]
    simp! only []
    exact ⟨Wl.refl hw, ks, x9, rfl, rfl, hk⟩
  | it :: items, S, ks, x9, hw, hl, hk => by
    rw [forF]
    simp only [List.length_cons] at hl
    simp! only []
    refine wp_of (draw_ok hw (m := dp + 3) (by omega) (by omega)) fun p S1 ⟨k, ek, h0, h1, w1⟩ => ?_
    subst ek
    have ga : gAdd (.tup (.str "hole" :: .int j :: ks.map .int)) (.tup [.int k]) S1 = .ok (.tup (.str "hole" :: .int j :: (ks ++ [k]).map .int)) S1 := by
      rw [gAdd_tup (by simp; omega)]; simp
    simp! only [ga]
    refine wp_of (more_loop hd hd2 items S1 (ks ++ [k]) (some it) w1.w (by simp; omega) (fun x hx => ?_)) fun fl S' ⟨w2, ks', y9, g1, g2, g3⟩ => ⟨w1.trans w2, ks', y9, g1, by simp at g2 ⊢; omega, g3⟩
    rcases List.mem_append.mp hx with z | z
    · exact hk x z
    · rw [List.mem_singleton] at z; exact ⟨by omega, by omega⟩
abbrev holedB : Es := (sSeq (sAsg (eMeth1 gPopAt (eVar 3) (eArgs m__law_draw (aCons (eVar 0) (aCons (eArgs gLen (aCons (eVar 3) aNil)) aNil)))) (nTup 2 (nCons (nName 6) (nCons (nName 7) nNil)))) (sSeq (sSet 8 (eArgs gTupP (aCons (eC (.str "hole")) (aCons (eIf (tV (eOp gEq (eArgs m__law_draw (aCons (eVar 0) (aCons (eC (.int 3)) aNil))) (eC (.int 0)))) (eArgs m__law_draw (aCons (eVar 0) (aCons (eC (.int 100)) aNil))) (eVar 5)) aNil)))) (sSeq (sFor (iArgs gRange (aCons (eArgs m__law_draw (aCons (eVar 0) (aCons (eC (.int 3)) aNil))) aNil)) (nName 9) moreB) (sSet 4 (eArgs (m__law_replaced 64) (aCons (eVar 4) (aCons (eVar 6) (aCons (eVar 8) aNil))))))))
theorem holed_loop (hD : DOk D) {n : Nat} {S0 : Sto} {a1 a2 : Option PV} {len0 : Int} (h24 : len0 ≤ 60) : ∀ (c : Nat) (i : Int) (S : Sto) (t : T) (x5 x6 x7 x8 x9 : Option PV), 0 ≤ i → i + c ≤ 50 → Well S n → S.length = S0.length → V D t → len t = len0 → c ≤ (nh t).length → (∀ q ∈ lv t 0, LB q.2) →
    WP (forF (nName 5) holedB (Py.intsFrom i c) [some (.ref n), a1, a2, some (.ref S0.length), some (enc t), x5, x6, x7, x8, x9] (S ++ [.lst ((nh t).map (lvP []))])) fun fl S' => ∃ (S1 : Sto) (t' : T) (A : PV) (y5 y6 y7 y8 y9 : Option PV), fl = .nx [some (.ref n), a1, a2, some (.ref S0.length), some (enc t'), y5, y6, y7, y8, y9] ∧ S' = S1 ++ [A] ∧ Wl n S S1 ∧ V D t' ∧ len t' = len0 ∧ ∀ q ∈ lv t' 0, LB q.2
  | 0, i, S, t, x5, x6, x7, x8, x9, hi, hi2, hw, hS, hv, hln, hc, hlb => by
    rw [ints_zero, forF]
    simp! only []
    exact ⟨S, t, _, _, _, _, _, _, rfl, rfl, Wl.refl hw, hv, hln, hlb⟩
  | c + 1, i, S, t, x5, x6, x7, x8, x9, hi, hi2, hw, hS, hv, hln, hc, hlb => by
    have hz := hv.sz_le hD
    have hnl := nh_len t
    have hdl := hv.dep_le hD
    rw [ints_cons, forF, ← hS]
    have gl : (S ++ [PV.lst ((nh t).map (lvP []))])[S.length]? = some (.lst ((nh t).map (lvP []))) := get_last
    simp! only [gl, isLst_of gl, gLen0, List.length_map]
    refine wp_of (draw_ok (hw.app (X := [.lst ((nh t).map (lvP []))])) (m := (nh t).length) (by omega) (by omega)) fun p S2 ⟨k, ek, h0, h1, w1⟩ => ?_
    subst ek
    obtain ⟨S1, rfl, w2⟩ := w1.split1 hw.lt
    have hk : k.toNat < (nh t).length := by omega
    have e1 := pop1 (S := S) (S1 := S1) w2.len h0 hk (by omega)
    obtain ⟨_, hpl, ⟨s, hsub⟩, hnh, hmem⟩ := put_hole hD hv hk (j := 0) (ks := []) (by omega) (by omega) (by simp) (by simp)
    obtain ⟨d0, d1⟩ := lv_deep hD t 0 hv _ hmem
    generalize hq : (nh t)[k.toNat] = q at *
    simp! only [e1]
    have rest : ∀ (j : Int) (S3 : Sto), 0 ≤ j → j ≤ 99 → Wl n S1 S3 → WP ((sSeq (sFor (iArgs gRange (aCons (eArgs m__law_draw (aCons (eVar 0) (aCons (eC (.int 3)) aNil))) aNil)) (nName 9) moreB) (sSet 4 (eArgs (m__law_replaced 64) (aCons (eVar 4) (aCons (eVar 6) (aCons (eVar 8) aNil))))))
        [some (.ref n), a1, a2, some (.ref S.length), some (enc t), some (.int i), some (.tup (q.1.map .int)), some (.int q.2.1), some (.tup [.str "hole", .int j]), x9] (S3 ++ [.lst (((nh t).eraseIdx k.toNat).map (lvP []))])) fun fl S2 => WP (match fl with
          | .nx ρ2 => forF (nName 5) holedB (Py.intsFrom (i + 1) c) ρ2 S2
          | .ct ρ2 => forF (nName 5) holedB (Py.intsFrom (i + 1) c) ρ2 S2
          | .bk ρ2 => .ok (.nx ρ2) S2
          | .rt p => .ok (.rt p) S2) fun fl S' => ∃ (S1 : Sto) (t' : T) (A : PV) (y5 y6 y7 y8 y9 : Option PV), fl = .nx [some (.ref n), a1, a2, some (.ref S.length), some (enc t'), y5, y6, y7, y8, y9] ∧ S' = S1 ++ [A] ∧ Wl n S S1 ∧ V D t' ∧ len t' = len0 ∧ ∀ q ∈ lv t' 0, LB q.2 := by
      intro j S3 j0 j1 w3
      simp! only []
      refine wp_of (draw_ok (w3.w.app (X := [.lst (((nh t).eraseIdx k.toNat).map (lvP []))])) (m := 3) (by omega) (by omega)) fun p S4 ⟨o, eo, o0, o1, w4⟩ => ?_
      subst eo
      obtain ⟨S5, rfl, w5⟩ := w4.split1 w3.w.lt
      have gr := gRange_eq (j := o) (S := S5 ++ [.lst (((nh t).eraseIdx k.toNat).map (lvP []))]) (by omega) (by omega)
      simp! only [gr]
      refine wp_of (more_loop (n := n) (a1 := a1) (a2 := a2) (a3 := some (.ref S.length)) (a4 := some (enc t)) (a5 := some (.int i)) (a6 := some (.tup (q.1.map .int))) (j := j) d0 (by omega) (Py.intsFrom 0 o.toNat) _ [] x9 w5.w.app (by simp [Py.intsFrom]; omega) (by simp)) fun fl S6 ⟨w6, ks, y9, g1, g2, g3⟩ => ?_
      subst g1
      obtain ⟨S7, rfl, w7⟩ := w6.split1 w5.w.lt
      have l7 : S7.length = S.length := by have := w7.len; have := w5.len; have := w3.len; have := w2.len; omega
      have kl : ks.length ≤ 2 := by simp [Py.intsFrom] at g2; omega
      have e3 := law_replaced_eq hD (S := S7 ++ [.lst (((nh t).eraseIdx k.toNat).map (lvP []))]) (u := .lf "hole" (j :: ks)) q.1 64 t s (by omega) hv hsub
      have eu : enc (.lf "hole" (j :: ks)) = .tup (.str "hole" :: .int j :: ks.map .int) := rfl
      rw [eu] at e3
      obtain ⟨pt, _⟩ := put_hole hD hv hk (j := j) (ks := ks) j0 j1 (by omega) (fun x hx => (g3 x hx).1)
      rw [hq] at pt
      have her := pt.er
      simp! only [e3]
      have hlc : ((nh t).eraseIdx k.toNat).length = (nh t).length - 1 := by rw [List.length_eraseIdx]; simp [hk]
      have := holed_loop hD (n := n) (S0 := S0) (a1 := a1) (a2 := a2) h24 c (i + 1) S7 (rp q.1 t (.lf "hole" (j :: ks))) (some (.int i)) (some (.tup (q.1.map .int))) (some (.int q.2.1)) (some (.tup (.str "hole" :: .int j :: ks.map .int))) y9 (by omega) (by omega) w7.w (by omega) pt.v (by rw [pt.ln, hln]) (by rw [← her, hlc]; omega) (by
        obtain ⟨A, B, b1, b2⟩ := pt.ab
        intro y hy
        rw [b2] at hy
        rcases List.mem_append.mp hy with z | z
        · exact hlb y (by rw [b1]; simp [z])
        · rcases List.mem_cons.mp z with z | z
          · rw [z]; exact LB_hole g3
          · exact hlb y (by rw [b1]; simp [z]))
      rw [← her, ← hS] at this
      refine wp_of this fun fl S' ⟨S8, t', A, y5, y6, y7, y8, y9, g1, g2, g3, g4, g5⟩ => ⟨S8, t', A, y5, y6, y7, y8, y9, g1, g2, (((w2.trans w3).trans w5).trans w7).trans g3, g4, g5⟩
    refine wp_of (draw_ok (w2.w.app (X := [.lst (((nh t).eraseIdx k.toNat).map (lvP []))])) (m := 3) (by omega) (by omega)) fun p S3 ⟨o, eo, o0, o1, w3⟩ => ?_
    subst eo
    obtain ⟨S4, rfl, w4⟩ := w3.split1 w2.w.lt
    by_cases ho : o = 0
    · simp! only [ho]
      refine wp_of (draw_ok (w4.w.app (X := [.lst (((nh t).eraseIdx k.toNat).map (lvP []))])) (m := 100) (by omega) (by omega)) fun p S5 ⟨j, ej, j0, j1, w5⟩ => ?_
      subst ej
      obtain ⟨S6, rfl, w6⟩ := w5.split1 w4.w.lt
      have r := rest j S6 j0 (by omega) (w4.trans w6)
      simp! only [] at r
      simp! only []
      exact r
    · simp! only [ho]
      have r := rest i S4 hi (by omega) w4
      simp! only [] at r
      exact r
theorem holed_ok {b : List Fm} (hb : BkOk CD b) {n : Nat} {S : Sto} (hw : Well S n) {t : T} (hv : V (dOf CD b) t) {free ats : Int} (hf : free ≤ 10) (hlf : ∀ q ∈ lv t 0, LfT free ats q.2) (h24 : len t ≤ 40) : WP (m__law_holed [.ref n, bookP b, enc t] S) fun p S' => Wl n S S' ∧ ∃ t', p = enc t' ∧ V (dOf CD b) t' ∧ len t' = len t ∧ ∀ q ∈ lv t' 0, LB q.2 := by
  have hD := dOf_ok b CD_ok hb
  have hdl := hv.dep_le hD
  have hz := hv.sz_le hD
  have e1 := leaves_eq hD 64 t [] 0 S (by omega) hv (by omega) (by simp)
  rw [List.map_nil] at e1
  have hnh := nh_all hlf
  unfold m__law_holed b__law_holed
  simp! only [e1]
  rw [← hnh]
  refine wp_of (draw_ok (hw.app (X := [.lst ((nh t).map (lvP []))])) (m := 4) (by omega) (by omega)) fun p S2 ⟨k, ek, h0, h1, w1⟩ => ?_
  subst ek
  obtain ⟨S1, rfl, w2⟩ := w1.split1 hw.lt
  have l3 := gLen0 (S := S1) (xs := (nh t).map (lvP []))
  rw [w2.len, List.length_map] at l3
  generalize hh : (if (((nh t).length : Nat) : Int) < k then (((nh t).length : Nat) : Int) else k) = hol
  have ho1 : 0 ≤ hol := by rw [← hh]; split <;> omega
  have ho4 : hol ≤ 4 := by rw [← hh]; split <;> omega
  have hon : hol ≤ (nh t).length := by rw [← hh]; split <;> omega
  have gr := gRange_eq (j := hol) (S := S1 ++ [.lst ((nh t).map (lvP []))]) (by omega) (by omega)
  simp! only [l3, hh, gr]
  have lp := holed_loop hD (n := n) (S0 := S1) (a1 := some (bookP b)) (a2 := some (enc t)) (len0 := len t) (by omega) hol.toNat 0 S1 t none none none none none (by omega) (by omega) w2.w rfl hv rfl (by omega) (fun q hq => LB_T hf (hlf q hq))
  rw [w2.len] at lp
  refine wp_of lp fun fl S' ⟨S5, t', A, y5, y6, y7, y8, y9, g1, g2, g3, g4, g5⟩ => ?_
  subst g1 g2
  have wa := w2.trans g3
  have tk : (S5 ++ [A]).take S.length = S5 := by rw [← wa.len]; simp
  simp! only [finV_enc, tk]
  exact ⟨wa, t', rfl, g4, g5⟩
/-! ### books -/
theorem BkOk.snoc {f : Fm} : ∀ {b : List Fm} {D : List (Str × List Int)}, BkOk D b → FmOk (dOf D b) f → BkOk D (b ++ [f])
  | [], D, _, h => ⟨h, trivial⟩
  | g :: b, D, h, h2 => ⟨h.1, BkOk.snoc h.2 h2⟩
theorem book_loop {n : Nat} {a1 : Option PV} : ∀ (c : Nat) (i : Int) (S : Sto) (b : List Fm) (x3 : Option PV), Well S n → BkOk CD b → b.length + c ≤ 4 →
    WP (forF (nName 3) (sSet 2 (eOp gAdd (eVar 2) (eArgs gTupP (aCons (eArgs m__law_form (aCons (eVar 0) (aCons (eVar 2) aNil))) aNil)))) (Py.intsFrom i c) [some (.ref n), a1, some (bookP b), x3] S) fun fl S' => Wl n S S' ∧ ∃ (b' : List Fm) (x3 : Option PV), fl = .nx [some (.ref n), a1, some (bookP b'), x3] ∧ BkOk CD b' ∧ b'.length ≤ 4
  | 0, i, S, b, x3, hw, hb, hl => by
    rw [ints_zero, forF]
    simp! only []
    exact ⟨Wl.refl hw, b, x3, rfl, hb, by omega⟩
  | c + 1, i, S, b, x3, hw, hb, hl => by
    rw [ints_cons, forF]
    simp! only []
    refine wp_of (form_ok hb (by omega) hw) fun p S1 ⟨w1, f, ep, hf⟩ => ?_
    subst ep
    have ir : (fmP f).isRef = false := rfl
    have ga : gAdd (bookP b) (.tup [fmP f]) S1 = .ok (bookP (b ++ [f])) S1 := by
      unfold bookP
      rw [gAdd_tup (by simp; omega)]; simp
    simp! only [ir, ga]
    refine wp_of (book_loop c (i + 1) S1 (b ++ [f]) _ w1.w (hb.snoc hf) (by simp; omega)) fun fl S' ⟨w2, b', y3, g1, g2, g3⟩ => ⟨w1.trans w2, b', y3, g1, g2, g3⟩
theorem book_ok {n : Nat} {S : Sto} {m : Int} (hw : Well S n) (m0 : 0 ≤ m) (m2 : m ≤ 4) : WP (m__law_book [.ref n, .int m] S) fun p S' => Wl n S S' ∧ ∃ b, p = bookP b ∧ BkOk CD b ∧ b.length ≤ 4 := by
  unfold m__law_book b__law_book
  have gr := gRange_eq (j := m) (S := S) (by omega) (by omega)
  simp! only [gr]
  have lp := book_loop (n := n) (a1 := some (.int m)) m.toNat 0 S [] none hw trivial (by simp; omega)
  have b0 : bookP [] = .tup [] := rfl
  rw [b0] at lp
  refine wp_of lp fun fl S' ⟨w1, b', y3, g1, g2, g3⟩ => ?_
  subst g1
  have ir : (bookP b').isRef = false := rfl
  simp! only [finV_of ir w1.len]
  exact ⟨w1, b', rfl, g2, g3⟩
end G04
set_option Elab.async false
set_option maxRecDepth 100000
set_option maxHeartbeats 1000000
set_option linter.all false
namespace G04
open PySem PySem.Spec PyProof.Rows L2 Py
variable {D : List (Str × List Int)}

/-! ### terms led by ways -/
theorem nt_nm : ¬ ("number" : Str) = "name" := by rw [ne_nm]; exact id
theorem nt_nh : ¬ ("number" : Str) = "hole" := by rw [ne_nh]; exact id
theorem at_nm : (("at" : Str) = "name") = False := by simp; decide +kernel
def wy (ws : List Int) (b d k : Int) : Int := if k < d then k else d + (if k - d < (ws.length : Nat) then (ws[(k - d).toNat]?).getD 0 else k - d - (ws.length : Nat) + b)
def wl (ws : List Int) (b d : Int) (w : Str) (xs : List Int) : List Int := if w = "name" then xs.map (wy ws b d) else if w = "hole" then xs.take 1 ++ (xs.drop 1).map (wy ws b d) else xs
mutual
def ld (ws : List Int) (b : Int) : T → Int → T
  | .lf w xs, d => .lf w (wl ws b d w xs)
  | .nd w ns ps, d => .nd w ns (lds ws b ps ns d)
def lds (ws : List Int) (b : Int) : List T → List Int → Int → List T
  | [], _, _ => []
  | _ :: _, [], _ => []
  | t :: ts, n :: ns, d => ld ws b t (d + n) :: lds ws b ts ns d
end
theorem lds_zip {ws : List Int} {b : Int} : ∀ (ps : List T) (ns : List Int) (d : Int), lds ws b ps ns d = (ps.zip ns).map fun q => ld ws b q.1 (d + q.2)
  | [], _, _ => by simp [lds]
  | _ :: _, [], _ => by simp [lds]
  | t :: ts, n :: ns, d => by rw [lds, lds_zip ts ns d]; rfl
theorem getD_mem {l : List Int} {i : Nat} (h : i < l.length) : (l[i]?).getD 0 ∈ l := by
  rw [List.getElem?_eq_getElem h, Option.getD_some]; exact List.getElem_mem h
theorem wy_nn {ws : List Int} {b d k : Int} (hw : ∀ x ∈ ws, 0 ≤ x) (hb : 0 ≤ b) (hd : 0 ≤ d) (hk : 0 ≤ k) : 0 ≤ wy ws b d k := by
  unfold wy
  split
  · exact hk
  · split
    · have := hw _ (getD_mem (l := ws) (i := (k - d).toNat) (by omega))
      omega
    · omega
theorem ld_V (hD : DOk D) {ws : List Int} {b : Int} (hw : ∀ x ∈ ws, 0 ≤ x) (hb : 0 ≤ b) {t : T} (h : V D t) : ∀ d : Int, 0 ≤ d → V D (ld ws b t d) := by
  induction h with
  | @lf w xs h =>
    intro d hd
    rw [ld]
    refine .lf ?_
    unfold wl
    rcases h with ⟨e, j, ks, e2, j0, j1, kl, k0⟩ | ⟨e, i, e2, i0, i1⟩ | ⟨e | e, i, e2, i0⟩
    · subst e e2
      rw [if_neg (by rw [ne_hm]; exact id), if_pos rfl]
      refine .inl ⟨rfl, j, ks.map (wy ws b d), rfl, j0, j1, by simpa using kl, fun k hk => ?_⟩
      obtain ⟨x, hx, rfl⟩ := List.mem_map.mp hk
      exact wy_nn hw hb hd (k0 x hx)
    · subst e e2
      rw [if_neg nt_nm, if_neg nt_nh]
      exact .inr (.inl ⟨rfl, i, rfl, i0, i1⟩)
    · subst e e2
      rw [if_pos rfl]
      exact .inr (.inr ⟨.inl rfl, _, rfl, wy_nn hw hb hd i0⟩)
    · subst e e2
      rw [if_neg (by rw [at_nm]; exact id), if_neg (by rw [ne_ah]; exact id)]
      exact .inr (.inr ⟨.inr rfl, i, rfl, i0⟩)
  | @nd w ns ps h1 h2 h3 ih =>
    intro d hd
    rw [ld]
    refine .nd h1 (by rw [lds_zip]; simp [h2]) fun p hp => ?_
    rw [lds_zip] at hp
    obtain ⟨q, hq, rfl⟩ := List.mem_map.mp hp
    have := (hD.nm _ _ h1).2.2 q.2 (List.of_mem_zip hq).2
    exact ih q.1 (List.of_mem_zip hq).1 _ (by omega)
theorem lds_len {ws : List Int} {b : Int} : ∀ (ps : List T) (ns : List Int) (d : Int), ps.length = ns.length → (∀ p ∈ ps, ∀ d, len (ld ws b p d) = len p ∧ dep (ld ws b p d) = dep p) → lens (lds ws b ps ns d) = lens ps ∧ deps (lds ws b ps ns d) = deps ps
  | [], _, _, _, _ => by simp [lds]
  | _ :: _, [], _, h, _ => by simp at h
  | t :: ts, n :: ns, d, h, hp => by
    obtain ⟨i1, i2⟩ := lds_len ts ns d (by simpa using h) fun p q => hp p (by simp [q])
    obtain ⟨j1, j2⟩ := hp t (by simp) (d + n)
    rw [lds, lens, deps, i1, i2, j1, j2]
    exact ⟨rfl, rfl⟩
theorem ld_len {ws : List Int} {b : Int} {t : T} (h : V D t) : ∀ d : Int, len (ld ws b t d) = len t ∧ dep (ld ws b t d) = dep t := by
  induction h with
  | lf h => exact fun d => ⟨rfl, rfl⟩
  | @nd w ns ps h1 h2 h3 ih =>
    intro d
    obtain ⟨i1, i2⟩ := lds_len (ws := ws) (b := b) ps ns d h2 ih
    rw [ld, len, dep, i1, i2]
    exact ⟨rfl, rfl⟩
/-! ### led twice is led once -/
def both (one two : List Int) (b more : Int) : List Int := one.map (wy two more 0) ++ two.drop b.toNat
def last (two : List Int) (b more : Int) : Int := b + more - (two.length : Nat) + (if 0 < (two.length : Nat) - b then (two.length : Nat) - b else 0)
theorem last_nn {two : List Int} {b more : Int} (hb : 0 ≤ b) (hm : 0 ≤ more) : 0 ≤ last two b more := by
  unfold last
  split <;> omega
theorem both_nn {one two : List Int} {b more : Int} (h1 : ∀ x ∈ one, 0 ≤ x) (h2 : ∀ x ∈ two, 0 ≤ x) (hm : 0 ≤ more) : ∀ x ∈ both one two b more, 0 ≤ x := fun x hx => by
  rcases List.mem_append.mp hx with h | h
  · obtain ⟨y, hy, rfl⟩ := List.mem_map.mp h
    exact wy_nn h2 hm (by omega) (h1 y hy)
  · exact h2 x (List.mem_of_mem_drop h)
theorem wy_wy {one two : List Int} {b more d k : Int} (h1 : ∀ x ∈ one, 0 ≤ x) (hb : 0 ≤ b) : wy two more d (wy one b d k) = wy (both one two b more) (last two b more) d k := by
  have lb : (both one two b more).length = one.length + (two.length - b.toNat) := by simp [both]
  by_cases c : k < d
  · have e : ∀ ws z, wy ws z d k = k := fun ws z => by unfold wy; rw [if_pos c]
    rw [e one b, e two more, e]
  · by_cases c1 : k - d < (one.length : Nat)
    · have m := h1 _ (getD_mem (l := one) (i := (k - d).toNat) (by omega))
      have e1 : wy one b d k = d + (one[(k - d).toNat]?).getD 0 := by unfold wy; rw [if_neg c, if_pos c1]
      have e2 : wy (both one two b more) (last two b more) d k = d + wy two more 0 ((one[(k - d).toNat]?).getD 0) := by
        unfold wy
        rw [if_neg c, if_pos (by rw [lb]; omega)]
        have hi : (k - d).toNat < one.length := by omega
        unfold both
        rw [List.getElem?_append_left (by simpa using hi), List.getElem?_map, List.getElem?_eq_getElem hi]
        rfl
      rw [e1, e2]
      generalize (one[(k - d).toNat]?).getD 0 = y at m ⊢
      have n1 : ¬ (d + y < d) := by omega
      have n2 : ¬ (y < 0) := by omega
      unfold wy
      rw [if_neg n1, if_neg n2, show d + y - d = y by omega, show y - 0 = y by omega, Int.zero_add]
    · have e1 : wy one b d k = d + (k - d - (one.length : Nat) + b) := by unfold wy; rw [if_neg c, if_neg c1]
      rw [e1]
      have g : ¬ (d + (k - d - (one.length : Nat) + b) < d) := by omega
      unfold wy
      rw [if_neg g, if_neg c, lb, show d + (k - d - ((one.length : Nat) : Int) + b) - d = k - d - (one.length : Nat) + b by omega]
      by_cases c2 : k - d - (one.length : Nat) + b < (two.length : Nat)
      · rw [if_pos c2, if_pos (by omega)]
        unfold both
        rw [List.getElem?_append_right (by simp; omega), List.getElem?_drop, List.length_map]
        congr 3
        omega
      · rw [if_neg c2, if_neg (by omega)]
        unfold last
        split <;> omega
mutual
theorem ld_ld {one two : List Int} {b more : Int} (h1 : ∀ x ∈ one, 0 ≤ x) (hb : 0 ≤ b) : ∀ (t : T) (d : Int), ld two more (ld one b t d) d = ld (both one two b more) (last two b more) t d
  | .lf w xs, d => by
    have f : (fun x => wy two more d (wy one b d x)) = wy (both one two b more) (last two b more) d := funext fun x => wy_wy h1 hb
    rw [ld, ld, ld]
    congr 1
    unfold wl
    by_cases c : w = "name"
    · rw [if_pos c, if_pos c, if_pos c, List.map_map]
      exact congrArg (fun g => xs.map g) f
    · rw [if_neg c, if_neg c, if_neg c]
      by_cases c2 : w = "hole"
      · rw [if_pos c2, if_pos c2, if_pos c2]
        cases xs with
        | nil => rfl
        | cons x r =>
          simp only [List.take_succ_cons, List.take_zero, List.drop_succ_cons, List.drop_zero, List.cons_append, List.nil_append, List.map_map]
          exact congrArg (fun g => x :: r.map g) f
      · rw [if_neg c2, if_neg c2, if_neg c2]
  | .nd w ns ps, d => by
    rw [ld, ld, ld, lds_lds h1 hb ps ns d]
theorem lds_lds {one two : List Int} {b more : Int} (h1 : ∀ x ∈ one, 0 ≤ x) (hb : 0 ≤ b) : ∀ (ps : List T) (ns : List Int) (d : Int), lds two more (lds one b ps ns d) ns d = lds (both one two b more) (last two b more) ps ns d
  | [], _, _ => by simp [lds]
  | _ :: _, [], _ => by simp [lds]
  | t :: ts, n :: ns, d => by
    rw [lds, lds, lds, ld_ld h1 hb t (d + n), lds_lds h1 hb ts ns d]
end
theorem wy_id {d k : Int} : wy [] 0 d k = k := by
  unfold wy
  split
  · rfl
  · rw [List.length_nil]
    split <;> omega
theorem lds_id : ∀ (ps : List T) (ns : List Int) (d : Int), ps.length = ns.length → (∀ p ∈ ps, ∀ d, ld [] 0 p d = p) → lds [] 0 ps ns d = ps
  | [], _, _, _, _ => by simp [lds]
  | _ :: _, [], _, h, _ => by simp at h
  | t :: ts, n :: ns, d, h, hp => by
    rw [lds, hp t (by simp), lds_id ts ns d (by simpa using h) fun p q => hp p (by simp [q])]
theorem ld_id {t : T} (h : V D t) : ∀ d : Int, ld [] 0 t d = t := by
  induction h with
  | @lf w xs h =>
    intro d
    have f : wy [] 0 d = id := funext fun x => wy_id
    rw [ld]
    unfold wl
    rw [f]
    congr 1
    split
    · simp
    · split
      · rw [List.map_id, List.take_append_drop]
      · rfl
  | @nd w ns ps h1 h2 h3 ih =>
    intro d
    rw [ld, lds_id ps ns d h2 ih]
end G04
set_option Elab.async false
set_option maxRecDepth 100000
set_option maxHeartbeats 1000000
set_option linter.all false
namespace G04
open PySem PySem.Spec PyProof.Rows L2 Py
variable {D : List (Str × List Int)}
local macro_rules
  | `(tactic| simp! only [$a,*]) => `(tactic| simp only [wp_ok, wp_no, ↓wp_bind, ↓R.bind_ok, ↓sSeq, ↓sNil, ↓sSet, ↓sAsg, ↓sIf, ↓sRet, ↓sExpr, ↓sPar, ↓sPar3, ↓sFor, ↓nName, ↓nTup, ↓nCons, ↓nNil, ↓nNs, ↓eVar, ↓eC, ↓eOp, ↓eUn, ↓eArgs, ↓eNew, ↓aCons, ↓aNil, ↓tV, ↓tT, toB, truP, ↓tNotE, ↓tAndE, ↓tOrE, ↓tYesE, ↓eAndV, ↓eOrV, ↓eNotV, ↓eNotT, ↓eIf, gAdd_int, gAdd_tup, Py.gSub, gMul_l, gMul_r, gMod, gFdiv, gNeg, gLt, gLe, gGt, gGe, gInt, gIx, gEq_int, gEq_str, gEq_bl, gNe_int, gNe_str, gNe_bl, gIsN, gNotN, getQ, getL, gSetL, ↓nSubL, gDivmod, gMin2, gMax2, ↓mkDef, ↓mkNew, startP, finF, finO, finV_tup, finV_int, finV_bl, finV_lst, finV_non, finV_str, finV_ref, ↓eChain, tyP, gIsi, isiB, ↓iArgs, ↓iSeq, iterP, ↓fComp, wipeP, ↓eSl, ↓oNone, ↓oSome, gSl, ↓eMeth0, ↓eMeth1, ixN, atI0, atI1, atI2, atI3, List.length_cons, List.length_nil, List.map_cons, List.map_nil, List.replicate, List.cons_append, List.nil_append, List.append_nil, List.getElem?_cons_zero, List.getElem?_cons_succ, List.getElem?_nil, List.set_cons_zero, List.set_cons_succ, List.set_nil, List.length_set, List.length_append, Nat.add_sub_cancel, Nat.reduceAdd, Nat.reduceSub, Nat.reduceLT, Nat.reduceEqDiff, Nat.reduceLeDiff, Nat.le_refl, Nat.zero_le, if_true, if_false, ↓reduceIte, decide_eq_true_eq, Bool.false_eq_true, Bool.true_eq_false, Bool.not_true, Bool.not_false, Option.isSome_some, forall_const, not_true_eq_false, not_false_eq_true, imp_self, false_implies, true_implies, implies_true, and_true, true_and, Int.toNat_zero, Nat.zero_add, Int.reduceLE, Int.reduceLT, Int.reduceNeg, Int.reduceToNat, Int.reducePow, Int.reduceGT, Int.cast_ofNat_Int, true_or, or_true, Int.ofNat_eq_natCast, decide_true, decide_false, Int.reduceEq, List.isEmpty_cons, List.isEmpty_nil, eDGet1,  keyP, Option.map_some, Option.map_none, Option.getD_some, Option.isSome_some, reduceCtorEq, and_self,  allPure_nil, allPure_cons, Bool.and_true, Bool.true_and, Bool.false_and, Bool.and_false, Bool.not_eq_true, Bool.not_eq_false, gTupP_nil, gLstP_nil, gTupP_ok, gLstP_ok, isRef_tup, isRef_int, isRef_str, isRef_bl, Bool.or_false, Bool.or_true, Bool.true_or, Bool.false_or, $a,*])

theorem at_ints {ws : List Int} {i : Int} (h0 : 0 ≤ i) (h1 : i < (ws.length : Nat)) : atI (ws.map PV.int) i = some (.int ((ws[i.toNat]?).getD 0)) := by
  have hk : i.toNat < ws.length := by omega
  rw [atI_pos h0]
  simp [hk]
theorem law_way_eq {ws : List Int} {b d k : Int} {S : Sto} : m__law_way [.int k, .tup (ws.map .int), .int b, .int d] S = .ok (.int (wy ws b d k)) S := by
  refine eqn ?_
  unfold m__law_way b__law_way
  by_cases c : k < d
  · simp! only [c, take_self]
    simp [wy, c]
  · by_cases c1 : k - d < (ws.length : Nat)
    · have a1 := at_ints (ws := ws) (i := k - d) (by omega) c1
      simp! only [c, c1, gLen_tup, List.length_map, a1, take_self]
      simp [wy, c, c1]
    · simp! only [c, c1, gLen_tup, List.length_map, take_self]
      simp [wy, c, c1]
theorem led_name_eq {ws : List Int} {b d k : Int} {S : Sto} : m_led_name [.int k, .int d, .tup (ws.map .int), .int b] S = .ok (.int (wy ws b d k)) S := by
  refine eqn ?_
  unfold m_led_name b_led_name
  by_cases c : k < d
  · have c0 : k - d < 0 := by omega
    simp! only [c0, take_self]
    simp [wy, c]
  · have c0 : ¬ k - d < 0 := by omega
    by_cases c1 : k - d < (ws.length : Nat)
    · have a1 := at_ints (ws := ws) (i := k - d) (by omega) c1
      simp! only [c0, c1, gLen_tup, List.length_map, a1, take_self]
      simp only [wy, c, c1, if_true, if_false]
      congr 1
      omega
    · simp! only [c0, c1, gLen_tup, List.length_map, take_self]
      simp only [wy, c, c1, if_true, if_false]
      congr 1
      omega
def NA : List Str := ["number", "at"]
theorem in_NA {w : Str} {S : Sto} : gIn false (.str w) (.tup [.str "number", .str "at"]) S = .ok (.bl (decide (w ∈ NA))) S := gIn_strs (ws := NA)
theorem ints_mm {f : Int → Int} (ks : List Int) : (ks.map fun k => PV.int (f k)) = (ks.map f).map .int := by rw [List.map_map]; rfl
/-- the closure at a leaf of the signs pre, then ks -/
theorem clo_core {ws : List Int} {b d i : Int} {S : Sto} {xs pre : List PV} {ks : List Int} (nb : m_names_begin [.tup xs] S = .ok (.int i) S) (c1 : cutP xs none (some i) = pre) (c2 : cutP xs (some i) none = ks.map .int) (hl : pre.length + ks.length ≤ 1000) :
    m_cloZ0 [.int b, .tup (ws.map .int)] [.tup xs, .int d] S = .ok (.tup (pre ++ (ks.map (wy ws b d)).map .int)) S := by
  have e1 : compF (nName 5) tYesE (eArgs m_led_name (aCons (eVar 5) (aCons (eVar 1) (aCons (eVar 3) (aCons (eVar 2) aNil))))) [some (.tup xs), some (.int d), some (.int b), some (.tup (ws.map .int)), some (.int i), none] (ks.map .int) [] S = .ok (.lst (ks.map fun k => .int (wy ws b d k))) S := by
    refine compF_gen0 _ (fun k hk => ⟨[some (.tup xs), some (.int d), some (.int b), some (.tup (ws.map .int)), some (.int i), some (.int k)], rfl, ?_, rfl⟩) (by omega)
    refine eqn ?_
    simp! only [led_name_eq]
  rw [ints_mm (f := wy ws b d)] at e1
  have ga := gAdd_tup (xs := pre) (ys := (ks.map (wy ws b d)).map .int) (S := S) (by simp; omega)
  refine eqn ?_
  unfold m_cloZ0 b_cloZ0 mkClo startC
  simp! only [nb, c1, c2, e1, gTupOf_lst, ga, take_self]
theorem begin_1 {i : Int} {S : Sto} : m_names_begin [.tup [.str "name", .int i]] S = .ok (.int 1) S := by
  refine eqn ?_
  unfold m_names_begin b_names_begin
  simp! only [take_self]
theorem begin_2 {w : Str} {j : Int} {S : Sto} (h : w = "number" ∨ w = "at") : m_names_begin [.tup [.str w, .int j]] S = .ok (.int 2) S := by
  refine eqn ?_
  unfold m_names_begin b_names_begin
  rcases h with rfl | rfl
  · simp! only [ne_nm, ne_nh, gLen_tup, take_self]
  · simp! only [at_nm, ne_ah, gLen_tup, take_self]
theorem begin_h {j : Int} {ks : List Int} {S : Sto} : m_names_begin [.tup (.str "hole" :: .int j :: ks.map .int)] S = .ok (.int 2) S := by
  refine eqn ?_
  unfold m_names_begin b_names_begin
  simp! only [ne_hm, take_self]
theorem cutl_1 {a : PV} {l : List PV} : cutP (a :: l) none (some 1) = [a] := by
  unfold cutP
  rw [show HT.sIx (a :: l).length (a :: l).length (some 1) = 1 from by rw [show (1 : Int) = ((1 : Nat) : Int) from rfl, HT.sIx_nat]; simp]
  rw [HT.sIx_none]
  simp
theorem cutl_2 {a c : PV} {l : List PV} : cutP (a :: c :: l) none (some 2) = [a, c] := by
  unfold cutP
  rw [show HT.sIx (a :: c :: l).length (a :: c :: l).length (some 2) = 2 from by rw [show (2 : Int) = ((2 : Nat) : Int) from rfl, HT.sIx_nat]; simp]
  rw [HT.sIx_none]
  simp
theorem clo_eq {w : Str} {xs : List Int} (h : LfOk w xs) {ws : List Int} {b d : Int} {S : Sto} : m_cloZ0 [.int b, .tup (ws.map .int)] [enc (.lf w xs), .int d] S = .ok (enc (ld ws b (.lf w xs) d)) S := by
  rw [ld, enc, enc]
  unfold wl
  rcases h with ⟨e, j, ks, e2, j0, j1, kl, k0⟩ | ⟨e, i, e2, i0, i1⟩ | ⟨e | e, i, e2, i0⟩
  · subst e e2
    rw [if_neg (by rw [ne_hm]; exact id), if_pos rfl]
    exact clo_core (pre := [.str "hole", .int j]) (ks := ks) begin_h cutl_2 cut_from2 (by simp; omega)
  · subst e e2
    rw [if_neg nt_nm, if_neg nt_nh]
    exact clo_core (pre := [.str "number", .int i]) (ks := []) (begin_2 (.inl rfl)) cutl_2 cut_from2 (by simp)
  · subst e e2
    rw [if_pos rfl]
    exact clo_core (pre := [.str "name"]) (ks := [i]) begin_1 cutl_1 cut_from1 (by simp)
  · subst e e2
    rw [if_neg (by rw [at_nm]; exact id), if_neg (by rw [ne_ah]; exact id)]
    exact clo_core (pre := [.str "at", .int i]) (ks := []) (begin_2 (.inr rfl)) cutl_2 cut_from2 (by simp)
theorem allPure_encs : ∀ ps : List T, allPure (ps.map enc) = true
  | [] => rfl
  | t :: ts => by rw [List.map_cons, allPure_cons, isRef_enc, allPure_encs ts]; rfl
theorem lds_map {ws : List Int} {b d : Int} (ps : List T) (ns : List Int) : encs (lds ws b ps ns d) = (ps.zip ns).map fun q => enc (ld ws b q.1 (d + q.2)) := by
  rw [encs_map, lds_zip, List.map_map]; rfl
theorem exch_eq (hD : DOk D) {W : PV} {ws : List Int} {b : Int} : ∀ (k : Nat) (t : T) (d : Int) (S : Sto), DicV W S D → dep t ≤ k → V D t → m_exchangedZ0 k [W, enc t, .int d, .clo 0 [.int b, .tup (ws.map .int)]] S = .ok (enc (ld ws b t d)) S
  | 0, t, d, S, _, h, _ => by have := dep_pos t; omega
  | k + 1, .lf w xs, d, S, hS, h, hv => by
    have il := is_leaf_eq hD hv S
    cases hv with
    | lf hlf =>
    have ce := clo_eq hlf (ws := ws) (b := b) (d := d) (S := S)
    have ip : (enc (.lf w xs)).isRef = false := isRef_enc _
    refine eqn ?_
    rw [m_exchangedZ0]
    unfold b_exchangedZ0
    simp! only [il, isLf, eClo, clo1, ip, ce, finV_enc, take_self]
  | k + 1, .nd w ns ps, d, S, hS, h, hv => by
    have il := is_leaf_eq hD hv S
    cases hv with
    | nd h1 h2 h3 =>
    have hn := hD.nm _ _ h1
    have gz : gZip [.tup (encs ps), .tup (ns.map .int)] S = .ok ((ps.zip ns).map fun q => .tup [enc q.1, .int q.2]) S := by
      rw [← zip_enc]; rfl
    have e1 : compF (nTup 2 (nCons (nName 5) (nCons (nName 6) nNil))) tYesE (eArgs (m_exchangedZ0 k) (aCons (eVar 0) (aCons (eVar 5) (aCons (eOp gAdd (eVar 2) (eVar 6)) (aCons (eVar 3) aNil))))) [some W, some (enc (.nd w ns ps)), some (.int d), some (.clo 0 [.int b, .tup (ws.map .int)]), none, none, none]
        ((ps.zip ns).map fun q => .tup [enc q.1, .int q.2]) [] S = .ok (.lst ((ps.zip ns).map fun q => enc (ld ws b q.1 (d + q.2)))) S := by
      refine compF_gen0 _ (fun q hq => ⟨[some W, some (enc (.nd w ns ps)), some (.int d), some (.clo 0 [.int b, .tup (ws.map .int)]), none, some (enc q.1), some (.int q.2)], rfl, ?_, isRef_enc _⟩) (by simp; omega)
      have hp := (List.of_mem_zip hq).1
      have rec_ := exch_eq hD (W := W) (ws := ws) (b := b) k q.1 (d + q.2) S hS (by have := mem_deps hp; simp only [dep] at h; omega) (h3 _ hp)
      refine eqn ?_
      simp! only [rec_]
    rw [← lds_map] at e1
    have hl : (encs (lds ws b ps ns d)).length ≤ 4 := by rw [encs_map, List.length_map, lds_zip]; simp; omega
    have gt : gTupP (.str w :: encs (lds ws b ps ns d)) S = .ok (.tup (.str w :: encs (lds ws b ps ns d))) S := gTupP_ok (by rw [allPure_cons, encs_map, allPure_encs]; rfl) (by simp; omega)
    refine eqn ?_
    rw [m_exchangedZ0, ld]
    rw [enc] at il e1 ⊢
    rw [enc]
    unfold b_exchangedZ0
    simp! only [il, isLf, cut_from1, gDIx_D hS h1, gz, e1, wipe2, aStar, gt, take_self]
theorem law_led_eq {bk : List Fm} (hD : DOk (dOf CD bk)) {ws : List Int} {b : Int} : ∀ (k : Nat) (t : T) (d : Int) (S : Sto), dep t ≤ k → V (dOf CD bk) t → m__law_led k [bookP bk, enc t, .tup (ws.map .int), .int b, .int d] S = .ok (enc (ld ws b t d)) S
  | 0, t, d, S, h, _ => by have := dep_pos t; omega
  | k + 1, .lf w xs, d, S, h, hv => by
    cases hv with
    | lf hlf =>
    rw [ld, enc, enc]
    unfold wl
    refine eqn ?_
    rw [m__law_led]
    unfold b__law_led
    rcases hlf with ⟨e, j, ks, e2, j0, j1, kl, k0⟩ | ⟨e, i, e2, i0, i1⟩ | ⟨e | e, i, e2, i0⟩
    · subst e e2
      have e1 : compF (nName 8) tYesE (eArgs m__law_way (aCons (eVar 8) (aCons (eVar 2) (aCons (eVar 3) (aCons (eVar 4) aNil))))) [some (bookP bk), some (.tup (.str "hole" :: .int j :: ks.map .int)), some (.tup (ws.map .int)), some (.int b), some (.int d), none, none, none, none] (ks.map .int) [] S = .ok (.lst (ks.map fun k => .int (wy ws b d k))) S := by
        refine compF_gen0 _ (fun k hk => ⟨[some (bookP bk), some (.tup (.str "hole" :: .int j :: ks.map .int)), some (.tup (ws.map .int)), some (.int b), some (.int d), none, none, none, some (.int k)], rfl, ?_, rfl⟩) (by omega)
        refine eqn ?_
        simp! only [law_way_eq]
      rw [ints_mm (f := wy ws b d)] at e1
      have ga := gAdd_tup (xs := [.str "hole", .int j]) (ys := (ks.map (wy ws b d)).map .int) (S := S) (by simp; omega)
      rw [if_neg (by rw [ne_hm]; exact id), if_pos rfl]
      simp! only [ne_hm, cut_from2, e1, gTupOf_lst, ga, take_self, List.take_succ_cons, List.take_zero, List.drop_succ_cons, List.drop_zero]
    · subst e e2
      have a1 : decide (("number" : Str) ∈ NA) = true := by decide +kernel
      rw [if_neg nt_nm, if_neg nt_nh]
      simp! only [ne_nm, ne_nh, in_NA, a1, take_self]
    · subst e e2
      rw [if_pos rfl]
      simp! only [law_way_eq, take_self]
    · subst e e2
      have a1 : decide (("at" : Str) ∈ NA) = true := by decide +kernel
      rw [if_neg (by rw [at_nm]; exact id), if_neg (by rw [ne_ah]; exact id)]
      simp! only [at_nm, ne_ah, in_NA, a1, take_self]
  | k + 1, .nd w ns ps, d, S, h, hv => by
    cases hv with
    | nd h1 h2 h3 =>
    have hw := hD.lw _ _ h1
    have hn := hD.nm _ _ h1
    have a1 : (w = "name") = False := by simp only [LW, List.mem_cons, not_or] at hw; simp [hw]
    have a2 : (w = "hole") = False := by simp only [LW, List.mem_cons, not_or] at hw; simp [hw]
    have a3 : w ∉ NA := by simp only [LW, List.mem_cons, not_or] at hw; simp [NA, hw]
    have ln := law_names_some (S := S) h1
    have gz : gZip [.tup (encs ps), .tup (ns.map .int)] S = .ok ((ps.zip ns).map fun q => .tup [enc q.1, .int q.2]) S := by
      rw [← zip_enc]; rfl
    have e1 : compF (nTup 2 (nCons (nName 6) (nCons (nName 7) nNil))) tYesE (eArgs (m__law_led k) (aCons (eVar 0) (aCons (eVar 6) (aCons (eVar 2) (aCons (eVar 3) (aCons (eOp gAdd (eVar 4) (eVar 7)) aNil)))))) [some (bookP bk), some (enc (.nd w ns ps)), some (.tup (ws.map .int)), some (.int b), some (.int d), some (.tup (ns.map .int)), none, none, none]
        ((ps.zip ns).map fun q => .tup [enc q.1, .int q.2]) [] S = .ok (.lst ((ps.zip ns).map fun q => enc (ld ws b q.1 (d + q.2)))) S := by
      refine compF_gen0 _ (fun q hq => ⟨[some (bookP bk), some (enc (.nd w ns ps)), some (.tup (ws.map .int)), some (.int b), some (.int d), some (.tup (ns.map .int)), some (enc q.1), some (.int q.2), none], rfl, ?_, isRef_enc _⟩) (by simp; omega)
      have hp := (List.of_mem_zip hq).1
      have rec_ := law_led_eq hD (ws := ws) (b := b) k q.1 (d + q.2) S (by have := mem_deps hp; simp only [dep] at h; omega) (h3 _ hp)
      refine eqn ?_
      simp! only [rec_]
    rw [← lds_map] at e1
    have hl : (encs (lds ws b ps ns d)).length ≤ 4 := by rw [encs_map, List.length_map, lds_zip]; simp; omega
    have ga := gAdd_tup (xs := [.str w]) (ys := encs (lds ws b ps ns d)) (S := S) (by simp; omega)
    refine eqn ?_
    rw [m__law_led, ld]
    rw [enc] at e1 ⊢
    rw [enc]
    unfold b__law_led
    simp! only [a1, a2, in_NA, a3, ln, cut_from1, gz, e1, wipe2, gTupOf_lst, ga, take_self]
end G04
set_option Elab.async false
set_option maxRecDepth 100000
set_option maxHeartbeats 1000000
set_option linter.all false
namespace G04
open PySem PySem.Spec PyProof.Rows L2 Py
variable {D : List (Str × List Int)}
local macro_rules
  | `(tactic| simp! only [$a,*]) => `(tactic| simp only [wp_ok, wp_no, ↓wp_bind, ↓R.bind_ok, ↓sSeq, ↓sNil, ↓sSet, ↓sAsg, ↓sIf, ↓sRet, ↓sExpr, ↓sPar, ↓sPar3, ↓sFor, ↓nName, ↓nTup, ↓nCons, ↓nNil, ↓nNs, ↓eVar, ↓eC, ↓eOp, ↓eUn, ↓eArgs, ↓eNew, ↓aCons, ↓aNil, ↓tV, ↓tT, toB, truP, ↓tNotE, ↓tAndE, ↓tOrE, ↓tYesE, ↓eAndV, ↓eOrV, ↓eNotV, ↓eNotT, ↓eIf, gAdd_int, gAdd_tup, Py.gSub, gMul_l, gMul_r, gMod, gFdiv, gNeg, gLt, gLe, gGt, gGe, gInt, gIx, gEq_int, gEq_str, gEq_bl, gNe_int, gNe_str, gNe_bl, gIsN, gNotN, getQ, getL, gSetL, ↓nSubL, gDivmod, gMin2, gMax2, ↓mkDef, ↓mkNew, startP, finF, finO, finV_tup, finV_int, finV_bl, finV_lst, finV_non, finV_str, finV_ref, ↓eChain, tyP, gIsi, isiB, ↓iArgs, ↓iSeq, iterP, ↓fComp, wipeP, ↓eSl, ↓oNone, ↓oSome, gSl, ↓eMeth0, ↓eMeth1, ixN, atI0, atI1, atI2, atI3, List.length_cons, List.length_nil, List.map_cons, List.map_nil, List.replicate, List.cons_append, List.nil_append, List.append_nil, List.getElem?_cons_zero, List.getElem?_cons_succ, List.getElem?_nil, List.set_cons_zero, List.set_cons_succ, List.set_nil, List.length_set, List.length_append, Nat.add_sub_cancel, Nat.reduceAdd, Nat.reduceSub, Nat.reduceLT, Nat.reduceEqDiff, Nat.reduceLeDiff, Nat.le_refl, Nat.zero_le, if_true, if_false, ↓reduceIte, decide_eq_true_eq, Bool.false_eq_true, Bool.true_eq_false, Bool.not_true, Bool.not_false, Option.isSome_some, forall_const, not_true_eq_false, not_false_eq_true, imp_self, false_implies, true_implies, implies_true, and_true, true_and, Int.toNat_zero, Nat.zero_add, Int.reduceLE, Int.reduceLT, Int.reduceNeg, Int.reduceToNat, Int.reducePow, Int.reduceGT, Int.cast_ofNat_Int, true_or, or_true, Int.ofNat_eq_natCast, decide_true, decide_false, Int.reduceEq, List.isEmpty_cons, List.isEmpty_nil, eDGet1,  keyP, Option.map_some, Option.map_none, Option.getD_some, Option.isSome_some, reduceCtorEq, and_self,  allPure_nil, allPure_cons, Bool.and_true, Bool.true_and, Bool.false_and, Bool.and_false, Bool.not_eq_true, Bool.not_eq_false, gTupP_nil, gLstP_nil, gTupP_ok, gLstP_ok, isRef_tup, isRef_int, isRef_str, isRef_bl, Bool.or_false, Bool.or_true, Bool.true_or, Bool.false_or, $a,*])

theorem led_pattern_eq (hD : DOk D) {W : PV} {S : Sto} (hS : DicV W S D) {ws : List Int} {b : Int} {t : T} (hv : V D t) (hd : dep t ≤ 64) : m_led_pattern [W, enc t, .tup (ws.map .int), .int b] S = .ok (enc (ld ws b t 0)) S := by
  have ex := exch_eq hD (W := W) (ws := ws) (b := b) 64 t 0 S hS hd hv
  have ic : (enc (ld ws b t 0)).isClo = false := by cases ld ws b t 0 <;> rfl
  have hk : hofK (m_exchangedZ0 64) 0 [.int b, .tup (ws.map .int)] [W, enc t, .int 0] S = .ok (enc (ld ws b t 0)) S := by
    unfold hofK
    rw [show ([W, enc t, .int 0] ++ [PV.clo 0 [.int b, .tup (ws.map .int)]]) = [W, enc t, .int 0, .clo 0 [.int b, .tup (ws.map .int)]] from rfl, ex, R.bind_ok, ic]
    rfl
  have sh : b_led_pattern [some W, some (enc t), some (.tup (ws.map .int)), some (.int b), none] S = .ok (.rt (enc (ld ws b t 0))) S := by
    have e : b_led_pattern [some W, some (enc t), some (.tup (ws.map .int)), some (.int b), none] S = (hofK (m_exchangedZ0 64) 0 [.int b, .tup (ws.map .int)] [W, enc t, .int 0] S).bind fun p S2 => .ok (.rt p) S2 := by
      unfold b_led_pattern sHof
      rw [if_pos ⟨by show 4 < 5; decide, by decide⟩]
      rfl
    rw [e, hk]
    rfl
  refine eqn ?_
  unfold m_led_pattern
  simp! only [sh, finV_enc, take_self]
theorem ways_loop {S : Sto} {a0 : Option PV} : ∀ (ws : List Int) (i : Nat) (x1 x2 : Option PV), (∀ x ∈ ws, 0 ≤ x) →
    WP (forF (nTup 2 (nCons (nName 1) (nCons (nName 2) nNil))) (sIf (tNotE (tT (eArgs m_is_count (aCons (eVar 2) aNil)))) sNever sNil) (enumP i (ws.map .int)) [a0, x1, x2] S) fun fl S' => S' = S ∧ ∃ y1 y2, fl = .nx [a0, y1, y2]
  | [], i, x1, x2, h => by
    rw [List.map_nil, enumP, forF]
    simp! only []
    exact ⟨_, _, rfl⟩
  | x :: ws, i, x1, x2, h => by
    rw [List.map_cons, enumP, forF]
    simp! only [is_count_eq (h x (by simp))]
    exact ways_loop ws (i + 1) _ _ fun y hy => h y (by simp [hy])
theorem check_ways_eq {ws : List Int} (h : ∀ x ∈ ws, 0 ≤ x) (hl : ws.length ≤ 8) {S : Sto} : m_check_ways [.tup (ws.map .int)] S = .ok .non S := by
  have e1 : m_is_tuple_up_to [.tup (ws.map .int), .int 8] S = .ok (.bl true) S := by
    refine eqn ?_
    unfold m_is_tuple_up_to b_is_tuple_up_to
    have : ((ws.length : Nat) : Int) ≤ 8 := by omega
    simp! only [gLen_tup, List.length_map, this, take_self]
  have ge : gEnum [.tup (ws.map .int)] S = .ok (enumP 0 (ws.map .int)) S := rfl
  refine eqn ?_
  unfold m_check_ways b_check_ways
  simp! only [e1, ge]
  refine wp_of (ways_loop ws 0 _ _ h) fun fl S' ⟨g1, y1, y2, g2⟩ => ?_
  subst g1 g2
  simp! only [take_self]
theorem check_by_eq {b : Int} (h : 0 ≤ b) {S : Sto} : m_check_by [.int b] S = .ok .non S := by
  refine eqn ?_
  unfold m_check_by b_check_by
  simp! only [is_count_eq h, take_self]
theorem led_eq {bk : List Fm} (hb : BkOk CD bk) (hbl : bk.length ≤ 8) {ws : List Int} {b : Int} (hw : ∀ x ∈ ws, 0 ≤ x) (hl : ws.length ≤ 8) (h0 : 0 ≤ b) {t : T} (hv : V (dOf CD bk) t) (h1 : len t ≤ 1500) (h2 : dep t ≤ 60) (S : Sto) :
    m_led [bookP bk, enc t, .tup (ws.map .int), .int b] S = .ok (enc (ld ws b t 0)) S := by
  have hD := dOf_ok bk CD_ok hb
  have wd := words_eq (S := S) hb hbl
  have hS : DicV (.dic (ksD (dOf CD bk)) (vsD (dOf CD bk))) S (dOf CD bk) := dicV_dic
  have cp := check_pattern_eq hD hS hv h1 h2
  have cw := check_ways_eq hw hl (S := S)
  have cb := check_by_eq h0 (S := S)
  have lp := led_pattern_eq hD hS (ws := ws) (b := b) hv (by omega)
  refine eqn ?_
  unfold m_led b_led
  simp! only [wd, cp, cw, cb, lp, finV_enc, take_self]
/-! ### drawn ways -/
theorem draw_loop {n : Nat} {a1 : Option PV} : ∀ (c : Nat) (i : Int) (S : Sto) (ws : List Int) (x3 : Option PV), Well S n → (∀ x ∈ ws, 0 ≤ x) → ws.length + c ≤ 10 →
    WP (forF (nName 3) (sSet 2 (eOp gAdd (eVar 2) (eArgs gTupP (aCons (eIf (tV (eOp gEq (eArgs m__law_draw (aCons (eVar 0) (aCons (eC (.int 14)) aNil))) (eC (.int 0)))) (eOp gAdd (eOp gPow (eC (.int 10)) (eC (.int 12))) (eArgs m__law_draw (aCons (eVar 0) (aCons (eC (.int 9)) aNil)))) (eArgs m__law_draw (aCons (eVar 0) (aCons (eC (.int 7)) aNil)))) aNil)))) (Py.intsFrom i c) [some (.ref n), a1, some (.tup (ws.map .int)), x3] S)
      fun fl S' => Wl n S S' ∧ ∃ (ws' : List Int) (x3 : Option PV), fl = .nx [some (.ref n), a1, some (.tup (ws'.map .int)), x3] ∧ (∀ x ∈ ws', 0 ≤ x) ∧ ws'.length = ws.length + c
  | 0, i, S, ws, x3, hw, hb, hl => by
    rw [ints_zero, forF]
    simp! only []
    exact ⟨Wl.refl hw, ws, x3, rfl, hb, by simp⟩
  | c + 1, i, S, ws, x3, hw, hb, hl => by
    rw [ints_cons, forF]
    simp! only []
    refine wp_of (draw_ok hw (m := 14) (by omega) (by omega)) fun p S1 ⟨k, ek, k0, k1, w1⟩ => ?_
    subst ek
    have next : ∀ (z : Int) (S2 : Sto), 0 ≤ z → Wl n S S2 → WP (forF (nName 3) (sSet 2 (eOp gAdd (eVar 2) (eArgs gTupP (aCons (eIf (tV (eOp gEq (eArgs m__law_draw (aCons (eVar 0) (aCons (eC (.int 14)) aNil))) (eC (.int 0)))) (eOp gAdd (eOp gPow (eC (.int 10)) (eC (.int 12))) (eArgs m__law_draw (aCons (eVar 0) (aCons (eC (.int 9)) aNil)))) (eArgs m__law_draw (aCons (eVar 0) (aCons (eC (.int 7)) aNil)))) aNil)))) (Py.intsFrom (i + 1) c) [some (.ref n), a1, some (.tup (ws.map .int ++ [.int z])), some (.int i)] S2)
        fun fl S' => Wl n S S' ∧ ∃ (ws' : List Int) (x3 : Option PV), fl = .nx [some (.ref n), a1, some (.tup (ws'.map .int)), x3] ∧ (∀ x ∈ ws', 0 ≤ x) ∧ ws'.length = ws.length + (c + 1) := by
      intro z S2 hz w2
      have e : ws.map PV.int ++ [.int z] = (ws ++ [z]).map .int := by simp
      rw [e]
      refine wp_of (draw_loop c (i + 1) S2 (ws ++ [z]) _ w2.w (fun x hx => ?_) (by simp; omega)) fun fl S' ⟨w3, ws', y3, g1, g2, g3⟩ => ⟨w2.trans w3, ws', y3, g1, g2, by rw [g3]; simp; omega⟩
      rcases List.mem_append.mp hx with h | h
      · exact hb x h
      · rw [List.mem_singleton.mp h]; exact hz
    by_cases hk : k = 0
    · have gp : gPow (.int 10) (.int 12) S1 = .ok (.int (10 ^ 12)) S1 := by
        show (if 0 ≤ (12 : Int) ∧ (12 : Int) ≤ 1000000 ∧ (10 : Int).natAbs < 2 ^ 64 then R.ok (PV.int (10 ^ (12 : Int).toNat)) S1 else .no) = _
        rw [if_pos (by decide)]; rfl
      simp! only [hk, gp]
      refine wp_of (draw_ok w1.w (m := 9) (by omega) (by omega)) fun p S2 ⟨j, ej, j0, j1, w2⟩ => ?_
      subst ej
      have p12 : (0 : Int) ≤ 1000000000000 + j := by omega
      have ga : ∀ z : Int, gAdd (.tup (ws.map .int)) (.tup [.int z]) S2 = .ok (.tup (ws.map .int ++ [.int z])) S2 := fun z => gAdd_tup (by simp; omega)
      simp! only [ga]
      exact next _ S2 p12 (w1.trans w2)
    · simp! only [hk]
      refine wp_of (draw_ok w1.w (m := 7) (by omega) (by omega)) fun p S2 ⟨j, ej, j0, j1, w2⟩ => ?_
      subst ej
      have ga : ∀ z : Int, gAdd (.tup (ws.map .int)) (.tup [.int z]) S2 = .ok (.tup (ws.map .int ++ [.int z])) S2 := fun z => gAdd_tup (by simp; omega)
      simp! only [ga]
      exact next _ S2 j0 (w1.trans w2)
theorem law_ways_ok {n : Nat} {S : Sto} {c : Int} (hw : Well S n) (c0 : 0 ≤ c) (c1 : c ≤ 8) : WP (m__law_ways [.ref n, .int c] S) fun p S' => Wl n S S' ∧ ∃ ws : List Int, p = .tup (ws.map .int) ∧ (∀ x ∈ ws, 0 ≤ x) ∧ ((ws.length : Nat) : Int) = c := by
  unfold m__law_ways b__law_ways
  have gr := gRange_eq (j := c) (S := S) (by omega) (by omega)
  simp! only [gr]
  have lp := draw_loop (n := n) (a1 := some (.int c)) c.toNat 0 S [] none hw (by simp) (by simp; omega)
  rw [List.map_nil] at lp
  refine wp_of lp fun fl S' ⟨w1, ws', y3, g1, g2, g3⟩ => ?_
  subst g1
  have ir : (PV.tup (ws'.map .int)).isRef = false := rfl
  simp! only [finV_of ir w1.len]
  exact ⟨w1, ws', rfl, g2, by rw [g3]; simp; omega⟩
end G04
set_option Elab.async false
set_option maxRecDepth 100000
set_option maxHeartbeats 1000000
set_option linter.all false
namespace G04
open PySem PySem.Spec PyProof.Rows L2 Py
local macro_rules
  | `(tactic| simp! only [$a,*]) => `(tactic| simp only [wp_ok, wp_no, ↓wp_bind, ↓R.bind_ok, ↓sSeq, ↓sNil, ↓sSet, ↓sAsg, ↓sIf, ↓sRet, ↓sExpr, ↓sPar, ↓sPar3, ↓sFor, ↓nName, ↓nTup, ↓nCons, ↓nNil, ↓nNs, ↓eVar, ↓eC, ↓eOp, ↓eUn, ↓eArgs, ↓eNew, ↓aCons, ↓aNil, ↓tV, ↓tT, toB, truP, ↓tNotE, ↓tAndE, ↓tOrE, ↓tYesE, ↓eAndV, ↓eOrV, ↓eNotV, ↓eNotT, ↓eIf, gAdd_int, gAdd_tup, Py.gSub, gMul_l, gMul_r, gMod, gFdiv, gNeg, gLt, gLe, gGt, gGe, gInt, gIx, gEq_int, gEq_str, gEq_bl, gNe_int, gNe_str, gNe_bl, gIsN, gNotN, getQ, getL, gSetL, ↓nSubL, gDivmod, gMin2, gMax2, ↓mkDef, ↓mkNew, startP, finF, finO, finV_tup, finV_int, finV_bl, finV_lst, finV_non, finV_str, finV_ref, ↓eChain, tyP, gIsi, isiB, ↓iArgs, ↓iSeq, iterP, ↓fComp, wipeP, ↓eSl, ↓oNone, ↓oSome, gSl, ↓eMeth0, ↓eMeth1, ixN, atI0, atI1, atI2, atI3, List.length_cons, List.length_nil, List.map_cons, List.map_nil, List.replicate, List.cons_append, List.nil_append, List.append_nil, List.getElem?_cons_zero, List.getElem?_cons_succ, List.getElem?_nil, List.set_cons_zero, List.set_cons_succ, List.set_nil, List.length_set, List.length_append, Nat.add_sub_cancel, Nat.reduceAdd, Nat.reduceSub, Nat.reduceLT, Nat.reduceEqDiff, Nat.reduceLeDiff, Nat.le_refl, Nat.zero_le, if_true, if_false, ↓reduceIte, decide_eq_true_eq, Bool.false_eq_true, Bool.true_eq_false, Bool.not_true, Bool.not_false, Option.isSome_some, forall_const, not_true_eq_false, not_false_eq_true, imp_self, false_implies, true_implies, implies_true, and_true, true_and, Int.toNat_zero, Nat.zero_add, Int.reduceLE, Int.reduceLT, Int.reduceNeg, Int.reduceToNat, Int.reducePow, Int.reduceGT, Int.cast_ofNat_Int, true_or, or_true, Int.ofNat_eq_natCast, decide_true, decide_false, Int.reduceEq, List.isEmpty_cons, List.isEmpty_nil, eDGet1,  keyP, Option.map_some, Option.map_none, Option.getD_some, Option.isSome_some, reduceCtorEq, and_self,  allPure_nil, allPure_cons, Bool.and_true, Bool.true_and, Bool.false_and, Bool.and_false, Bool.not_eq_true, Bool.not_eq_false, gTupP_nil, gLstP_nil, gTupP_ok, gLstP_ok, isRef_tup, isRef_int, isRef_str, isRef_bl, Bool.or_false, Bool.or_true, Bool.true_or, Bool.false_or, $a,*])
  | `(tactic| simp! only [$a,*] at $h:ident) => `(tactic| simp only [wp_ok, wp_no, ↓wp_bind, ↓R.bind_ok, ↓sSeq, ↓sNil, ↓sSet, ↓sAsg, ↓sIf, ↓sRet, ↓sExpr, ↓sPar, ↓sPar3, ↓sFor, ↓nName, ↓nTup, ↓nCons, ↓nNil, ↓nNs, ↓eVar, ↓eC, ↓eOp, ↓eUn, ↓eArgs, ↓eNew, ↓aCons, ↓aNil, ↓tV, ↓tT, toB, truP, ↓tNotE, ↓tAndE, ↓tOrE, ↓tYesE, ↓eAndV, ↓eOrV, ↓eNotV, ↓eNotT, ↓eIf, gAdd_int, gAdd_tup, Py.gSub, gMul_l, gMul_r, gMod, gFdiv, gNeg, gLt, gLe, gGt, gGe, gInt, gIx, gEq_int, gEq_str, gEq_bl, gNe_int, gNe_str, gNe_bl, gIsN, gNotN, getQ, getL, gSetL, ↓nSubL, gDivmod, gMin2, gMax2, ↓mkDef, ↓mkNew, startP, finF, finO, finV_tup, finV_int, finV_bl, finV_lst, finV_non, finV_str, finV_ref, ↓eChain, tyP, gIsi, isiB, ↓iArgs, ↓iSeq, iterP, ↓fComp, wipeP, ↓eSl, ↓oNone, ↓oSome, gSl, ↓eMeth0, ↓eMeth1, ixN, atI0, atI1, atI2, atI3, List.length_cons, List.length_nil, List.map_cons, List.map_nil, List.replicate, List.cons_append, List.nil_append, List.append_nil, List.getElem?_cons_zero, List.getElem?_cons_succ, List.getElem?_nil, List.set_cons_zero, List.set_cons_succ, List.set_nil, List.length_set, List.length_append, Nat.add_sub_cancel, Nat.reduceAdd, Nat.reduceSub, Nat.reduceLT, Nat.reduceEqDiff, Nat.reduceLeDiff, Nat.le_refl, Nat.zero_le, if_true, if_false, ↓reduceIte, decide_eq_true_eq, Bool.false_eq_true, Bool.true_eq_false, Bool.not_true, Bool.not_false, Option.isSome_some, forall_const, not_true_eq_false, not_false_eq_true, imp_self, false_implies, true_implies, implies_true, and_true, true_and, Int.toNat_zero, Nat.zero_add, Int.reduceLE, Int.reduceLT, Int.reduceNeg, Int.reduceToNat, Int.reducePow, Int.reduceGT, Int.cast_ofNat_Int, true_or, or_true, Int.ofNat_eq_natCast, decide_true, decide_false, Int.reduceEq, List.isEmpty_cons, List.isEmpty_nil, eDGet1,  keyP, Option.map_some, Option.map_none, Option.getD_some, Option.isSome_some, reduceCtorEq, and_self,  allPure_nil, allPure_cons, Bool.and_true, Bool.true_and, Bool.false_and, Bool.and_false, Bool.not_eq_true, Bool.not_eq_false, gTupP_nil, gLstP_nil, gTupP_ok, gLstP_ok, isRef_tup, isRef_int, isRef_str, isRef_bl, Bool.or_false, Bool.or_true, Bool.true_or, Bool.false_or, $a,*] at $h:ident)

/-! ### the law -/
theorem cut_from_int {ws : List Int} {b : Int} (h : 0 ≤ b) : cutP (ws.map .int) (some b) none = (ws.drop b.toNat).map .int := by
  obtain ⟨n, rfl⟩ : ∃ n : Nat, b = n := ⟨b.toNat, by omega⟩
  unfold cutP
  rw [HT.sIx_none, HT.sIx_nat, Int.toNat_natCast, List.length_map, List.map_drop]
  by_cases c : n ≤ ws.length
  · rw [Nat.min_eq_left c, List.take_of_length_le (by simp)]
  · rw [Nat.min_eq_right (by omega), List.drop_of_length_le (by simp), List.drop_of_length_le (by simp; omega)]
    simp
/-- what a drawn pattern is -/
structure PtOk (bk : List Fm) (t : T) : Prop where
  v : V (dOf CD bk) t
  l : len t ≤ 48
theorem PtOk.ld {bk : List Fm} (hD : DOk (dOf CD bk)) {ws : List Int} {b : Int} {t : T} (h : PtOk bk t) (hw : ∀ x ∈ ws, 0 ≤ x) (hb : 0 ≤ b) : PtOk bk (ld ws b t 0) :=
  ⟨ld_V hD hw hb h.v 0 (by omega), by rw [(ld_len h.v 0).1]; exact h.l⟩
theorem PtOk.dep {bk : List Fm} (hD : DOk (dOf CD bk)) {t : T} (h : PtOk bk t) : dep t ≤ 48 := by
  have := h.v.dep_le hD
  have := h.l
  omega
theorem PtOk.dt {bk : List Fm} (hD : DOk (dOf CD bk)) {t : T} (h : PtOk bk t) : Dt 69 (enc t) := enc_Dt hD h.v 69 (by have := h.dep hD; omega)
theorem same2 {bk : List Fm} (hD : DOk (dOf CD bk)) {t : T} (h : PtOk bk t) (S : Sto) : m__law_same 70 [.tup [enc t, enc t], .tup [enc t, enc t]] S = .ok (.bl true) S :=
  same_eq 70 _ S (.tup (fun x hx => by
    simp only [List.mem_cons, List.not_mem_nil, or_false] at hx
    rcases hx with rfl | rfl <;> exact h.dt hD) (by simp))
theorem same3 {bk : List Fm} (hD : DOk (dOf CD bk)) {t u w : T} (h : PtOk bk t) (hu : PtOk bk u) (hw : PtOk bk w) (S : Sto) : m__law_same 70 [.tup [enc t, enc u, enc w], .tup [enc t, enc u, enc w]] S = .ok (.bl true) S :=
  same_eq 70 _ S (.tup (fun x hx => by
    simp only [List.mem_cons, List.not_mem_nil, or_false] at hx
    rcases hx with rfl | rfl | rfl
    · exact h.dt hD
    · exact hu.dt hD
    · exact hw.dt hD) (by simp))
theorem led_of {bk : List Fm} (hb : BkOk CD bk) (hbl : bk.length ≤ 8) {ws : List Int} {b : Int} (hw : ∀ x ∈ ws, 0 ≤ x) (hl : ws.length ≤ 8) (h0 : 0 ≤ b) {t : T} (h : PtOk bk t) (S : Sto) :
    m_led [bookP bk, enc t, .tup (ws.map .int), .int b] S = .ok (enc (ld ws b t 0)) S :=
  led_eq hb hbl hw hl h0 h.v (by have := h.l; omega) (by have := h.dep (dOf_ok bk CD_ok hb); omega) S
theorem law_led_of {bk : List Fm} (hb : BkOk CD bk) {ws : List Int} {b : Int} {t : T} (h : PtOk bk t) (S : Sto) :
    m__law_led 64 [bookP bk, enc t, .tup (ws.map .int), .int b, .int 0] S = .ok (enc (ld ws b t 0)) S :=
  law_led_eq (dOf_ok bk CD_ok hb) 64 t 0 S (by have := h.dep (dOf_ok bk CD_ok hb); omega) h.v
section
variable {bk : List Fm} {t : T} {one two eight : List Int} {b more : Int} {S : Sto} {a0 a8 a9 a10 a11 a12 a13 a14 : Option PV}
abbrev rT10 : Es := (sSeq (sSet 12 (eArgs gTupP (aCons (eArgs m_led (aCons (eVar 1) (aCons (eVar 2) (aCons (eVar 7) (aCons (eVar 5) aNil))))) (aCons (eArgs m_led (aCons (eVar 1) (aCons (eVar 2) (aCons (eArgs gTupP aNil) (aCons (eVar 5) aNil))))) (aCons (eArgs m_led (aCons (eVar 1) (aCons (eVar 2) (aCons (eArgs gTupP aNil) (aCons (eC (.int 0)) aNil))))) aNil))))) (sSeq (sSet 13 (eArgs gTupP (aCons (eArgs (m__law_led 64) (aCons (eVar 1) (aCons (eVar 2) (aCons (eVar 7) (aCons (eVar 5) (aCons (eC (.int 0)) aNil)))))) (aCons (eArgs (m__law_led 64) (aCons (eVar 1) (aCons (eVar 2) (aCons (eArgs gTupP aNil) (aCons (eVar 5) (aCons (eC (.int 0)) aNil)))))) (aCons (eVar 2) aNil))))) (sRet (eArgs (m__law_same 70) (aCons (eVar 12) (aCons (eVar 13) aNil))))))
theorem rest10_ok (hb : BkOk CD bk) (hbl : bk.length ≤ 8) (ht : PtOk bk t) (h8 : ∀ x ∈ eight, 0 ≤ x) (l8 : eight.length ≤ 8) (b0 : 0 ≤ b) :
    WP (rT10 [a0, some (bookP bk), some (enc t), some (.tup (one.map .int)), some (.tup (two.map .int)), some (.int b), some (.int more), some (.tup (eight.map .int)), a8, a9, a10, a11, a12, a13, a14] S) fun fl S' => fl = .rt (.bl true) := by
  have hD := dOf_ok bk CD_ok hb
  have n0 : ∀ x ∈ ([] : List Int), 0 ≤ x := by simp
  have e1 := led_of hb hbl h8 l8 b0 ht S
  have e2 := led_of hb hbl n0 (by simp) b0 ht S
  have e3 := led_of hb hbl n0 (by simp) (Int.le_refl 0) ht S
  have d1 := law_led_of hb (ws := eight) (b := b) ht S
  have d2 := law_led_of hb (ws := []) (b := b) ht S
  rw [List.map_nil] at e2 e3 d2
  rw [ld_id ht.v] at e3
  have s3 := same3 hD (ht.ld hD h8 b0) (ht.ld hD n0 b0) ht S
  simp! only [e1, e2, e3, d1, d2, isRef_enc, s3]
abbrev rT6 : Es := (sSeq (sSet 9 (eArgs (m__law_led 64) (aCons (eVar 1) (aCons (eVar 8) (aCons (eVar 4) (aCons (eVar 6) (aCons (eC (.int 0)) aNil))))))) (sSeq (sSet 10 (eOp gAdd (eArgs gTupOf (aCons (fComp (iSeq (eVar 3)) (nName 14) tYesE (eArgs m__law_way (aCons (eVar 14) (aCons (eVar 4) (aCons (eVar 6) (aCons (eC (.int 0)) aNil))))) [14]) aNil)) (eSl (eVar 4) (oSome (eVar 5)) oNone))) (sSeq (sSet 11 (eOp gAdd (eOp gSub (eOp gAdd (eVar 5) (eVar 6)) (eArgs gLen (aCons (eVar 4) aNil))) (eArgs gMax2 (aCons (eC (.int 0)) (aCons (eOp gSub (eArgs gLen (aCons (eVar 4) aNil)) (eVar 5)) aNil))))) (sSeq (sIf (tNotE (tT (eArgs (m__law_same 70) (aCons (eArgs gTupP (aCons (eArgs m_led (aCons (eVar 1) (aCons (eVar 8) (aCons (eVar 4) (aCons (eVar 6) aNil))))) (aCons (eArgs m_led (aCons (eVar 1) (aCons (eVar 2) (aCons (eVar 10) (aCons (eVar 11) aNil))))) aNil))) (aCons (eArgs gTupP (aCons (eVar 9) (aCons (eVar 9) aNil))) aNil))))) (sRet (eC (.bl false))) sNil) (sSeq (sSet 12 (eArgs gTupP (aCons (eArgs m_led (aCons (eVar 1) (aCons (eVar 2) (aCons (eVar 7) (aCons (eVar 5) aNil))))) (aCons (eArgs m_led (aCons (eVar 1) (aCons (eVar 2) (aCons (eArgs gTupP aNil) (aCons (eVar 5) aNil))))) (aCons (eArgs m_led (aCons (eVar 1) (aCons (eVar 2) (aCons (eArgs gTupP aNil) (aCons (eC (.int 0)) aNil))))) aNil))))) (sSeq (sSet 13 (eArgs gTupP (aCons (eArgs (m__law_led 64) (aCons (eVar 1) (aCons (eVar 2) (aCons (eVar 7) (aCons (eVar 5) (aCons (eC (.int 0)) aNil)))))) (aCons (eArgs (m__law_led 64) (aCons (eVar 1) (aCons (eVar 2) (aCons (eArgs gTupP aNil) (aCons (eVar 5) (aCons (eC (.int 0)) aNil)))))) (aCons (eVar 2) aNil))))) (sRet (eArgs (m__law_same 70) (aCons (eVar 12) (aCons (eVar 13) aNil))))))))))
theorem rest6_ok (hb : BkOk CD bk) (hbl : bk.length ≤ 8) (ht : PtOk bk t) (h1 : ∀ x ∈ one, 0 ≤ x) (l1 : one.length ≤ 4) (h2 : ∀ x ∈ two, 0 ≤ x) (l2 : two.length ≤ 4) (h8 : ∀ x ∈ eight, 0 ≤ x) (l8 : eight.length ≤ 8) (b0 : 0 ≤ b) (m0 : 0 ≤ more) :
    WP (rT6 [a0, some (bookP bk), some (enc t), some (.tup (one.map .int)), some (.tup (two.map .int)), some (.int b), some (.int more), some (.tup (eight.map .int)), some (enc (ld one b t 0)), a9, a10, a11, a12, a13, a14] S) fun fl S' => fl = .rt (.bl true) := by
  have hD := dOf_ok bk CD_ok hb
  have t1 := ht.ld hD h1 b0
  have t2 := t1.ld hD h2 m0
  have e1 := law_led_of hb (ws := two) (b := more) t1 S
  have e2 := led_of hb hbl h2 (by omega) m0 t1 S
  have hb0 := both_nn (b := b) h1 h2 m0
  have hl0 := last_nn (two := two) b0 m0
  have e3 := led_of hb hbl hb0 (by unfold both; simp; omega) hl0 ht S
  rw [← ld_ld h1 b0] at e3
  have s2 := same2 hD t2 S
  have ec : ∀ x9 x10 x11 x12 x13 x14, compF (nName 14) tYesE (eArgs m__law_way (aCons (eVar 14) (aCons (eVar 4) (aCons (eVar 6) (aCons (eC (.int 0)) aNil))))) [a0, some (bookP bk), some (enc t), some (.tup (one.map .int)), some (.tup (two.map .int)), some (.int b), some (.int more), some (.tup (eight.map .int)), some (enc (ld one b t 0)), x9, x10, x11, x12, x13, x14] (one.map .int) [] S = .ok (.lst ((one.map (wy two more 0)).map .int)) S := by
    intro x9 x10 x11 x12 x13 x14
    rw [← ints_mm (f := wy two more 0)]
    refine compF_gen0 _ (fun k hk => ⟨[a0, some (bookP bk), some (enc t), some (.tup (one.map .int)), some (.tup (two.map .int)), some (.int b), some (.int more), some (.tup (eight.map .int)), some (enc (ld one b t 0)), x9, x10, x11, x12, x13, some (.int k)], rfl, ?_, rfl⟩) (by omega)
    refine eqn ?_
    simp! only [law_way_eq]
  have cf := cut_from_int (ws := two) b0
  have ga := gAdd_tup (xs := (one.map (wy two more 0)).map .int) (ys := (two.drop b.toNat).map .int) (S := S) (by simp; omega)
  have eb : ((one.map (wy two more 0)).map PV.int ++ (two.drop b.toNat).map .int) = (both one two b more).map .int := by unfold both; simp
  rw [eb] at ga
  have el : b + more - (two.length : Nat) + (if 0 < (two.length : Nat) - b then (two.length : Nat) - b else 0) = last two b more := rfl
  simp! only [e1, ec, gTupOf_lst, cf, ga, gLen_tup, List.length_map, el, e2, e3, isRef_enc, s2]
  have := rest10_ok (S := S) (one := one) (two := two) (more := more) (a0 := a0) (a8 := some (enc (ld one b t 0))) (a9 := some (enc (ld two more (ld one b t 0) 0))) (a10 := some (.tup ((both one two b more).map .int))) (a11 := some (.int (last two b more))) (a12 := a12) (a13 := a13) (a14 := a14) hb hbl ht h8 l8 b0
  unfold rT10 at this
  simp! only [] at this
  exact this
abbrev rT4 : Es := (sSeq (sSet 8 (eArgs (m__law_led 64) (aCons (eVar 1) (aCons (eVar 2) (aCons (eVar 3) (aCons (eVar 5) (aCons (eC (.int 0)) aNil))))))) (sSeq (sIf (tNotE (tT (eArgs (m__law_same 70) (aCons (eArgs gTupP (aCons (eArgs m_led (aCons (eVar 1) (aCons (eVar 2) (aCons (eVar 3) (aCons (eVar 5) aNil))))) (aCons (eArgs m_led (aCons (eVar 1) (aCons (eVar 2) (aCons (eVar 3) (aCons (eVar 5) aNil))))) aNil))) (aCons (eArgs gTupP (aCons (eVar 8) (aCons (eVar 8) aNil))) aNil))))) (sRet (eC (.bl false))) sNil) (sSeq (sSet 9 (eArgs (m__law_led 64) (aCons (eVar 1) (aCons (eVar 8) (aCons (eVar 4) (aCons (eVar 6) (aCons (eC (.int 0)) aNil))))))) (sSeq (sSet 10 (eOp gAdd (eArgs gTupOf (aCons (fComp (iSeq (eVar 3)) (nName 14) tYesE (eArgs m__law_way (aCons (eVar 14) (aCons (eVar 4) (aCons (eVar 6) (aCons (eC (.int 0)) aNil))))) [14]) aNil)) (eSl (eVar 4) (oSome (eVar 5)) oNone))) (sSeq (sSet 11 (eOp gAdd (eOp gSub (eOp gAdd (eVar 5) (eVar 6)) (eArgs gLen (aCons (eVar 4) aNil))) (eArgs gMax2 (aCons (eC (.int 0)) (aCons (eOp gSub (eArgs gLen (aCons (eVar 4) aNil)) (eVar 5)) aNil))))) (sSeq (sIf (tNotE (tT (eArgs (m__law_same 70) (aCons (eArgs gTupP (aCons (eArgs m_led (aCons (eVar 1) (aCons (eVar 8) (aCons (eVar 4) (aCons (eVar 6) aNil))))) (aCons (eArgs m_led (aCons (eVar 1) (aCons (eVar 2) (aCons (eVar 10) (aCons (eVar 11) aNil))))) aNil))) (aCons (eArgs gTupP (aCons (eVar 9) (aCons (eVar 9) aNil))) aNil))))) (sRet (eC (.bl false))) sNil) (sSeq (sSet 12 (eArgs gTupP (aCons (eArgs m_led (aCons (eVar 1) (aCons (eVar 2) (aCons (eVar 7) (aCons (eVar 5) aNil))))) (aCons (eArgs m_led (aCons (eVar 1) (aCons (eVar 2) (aCons (eArgs gTupP aNil) (aCons (eVar 5) aNil))))) (aCons (eArgs m_led (aCons (eVar 1) (aCons (eVar 2) (aCons (eArgs gTupP aNil) (aCons (eC (.int 0)) aNil))))) aNil))))) (sSeq (sSet 13 (eArgs gTupP (aCons (eArgs (m__law_led 64) (aCons (eVar 1) (aCons (eVar 2) (aCons (eVar 7) (aCons (eVar 5) (aCons (eC (.int 0)) aNil)))))) (aCons (eArgs (m__law_led 64) (aCons (eVar 1) (aCons (eVar 2) (aCons (eArgs gTupP aNil) (aCons (eVar 5) (aCons (eC (.int 0)) aNil)))))) (aCons (eVar 2) aNil))))) (sRet (eArgs (m__law_same 70) (aCons (eVar 12) (aCons (eVar 13) aNil))))))))))))
theorem rest4_ok (hb : BkOk CD bk) (hbl : bk.length ≤ 8) (ht : PtOk bk t) (h1 : ∀ x ∈ one, 0 ≤ x) (l1 : one.length ≤ 4) (h2 : ∀ x ∈ two, 0 ≤ x) (l2 : two.length ≤ 4) (h8 : ∀ x ∈ eight, 0 ≤ x) (l8 : eight.length ≤ 8) (b0 : 0 ≤ b) (m0 : 0 ≤ more) :
    WP (rT4 [a0, some (bookP bk), some (enc t), some (.tup (one.map .int)), some (.tup (two.map .int)), some (.int b), some (.int more), some (.tup (eight.map .int)), a8, a9, a10, a11, a12, a13, a14] S) fun fl S' => fl = .rt (.bl true) := by
  have hD := dOf_ok bk CD_ok hb
  have t1 := ht.ld hD h1 b0
  have e1 := law_led_of hb (ws := one) (b := b) ht S
  have e2 := led_of hb hbl h1 (by omega) b0 ht S
  have s2 := same2 hD t1 S
  unfold rT4
  generalize hX : (sSeq (sSet 9 _) _) = X
  simp! only [e1, e2, isRef_enc, s2]
  rw [← hX]
  exact rest6_ok hb hbl ht h1 l1 h2 l2 h8 l8 b0 m0
end
end G04
set_option Elab.async false
set_option maxRecDepth 100000
set_option maxHeartbeats 1000000
set_option linter.all false
namespace G04
open PySem PySem.Spec PyProof.Rows L2 Py
local macro_rules
  | `(tactic| simp! only [$a,*]) => `(tactic| simp only [wp_ok, wp_no, ↓wp_bind, ↓R.bind_ok, ↓sSeq, ↓sNil, ↓sSet, ↓sAsg, ↓sIf, ↓sRet, ↓sExpr, ↓sPar, ↓sPar3, ↓sFor, ↓nName, ↓nTup, ↓nCons, ↓nNil, ↓nNs, ↓eVar, ↓eC, ↓eOp, ↓eUn, ↓eArgs, ↓eNew, ↓aCons, ↓aNil, ↓tV, ↓tT, toB, truP, ↓tNotE, ↓tAndE, ↓tOrE, ↓tYesE, ↓eAndV, ↓eOrV, ↓eNotV, ↓eNotT, ↓eIf, gAdd_int, gAdd_tup, Py.gSub, gMul_l, gMul_r, gMod, gFdiv, gNeg, gLt, gLe, gGt, gGe, gInt, gIx, gEq_int, gEq_str, gEq_bl, gNe_int, gNe_str, gNe_bl, gIsN, gNotN, getQ, getL, gSetL, ↓nSubL, gDivmod, gMin2, gMax2, ↓mkDef, ↓mkNew, startP, finF, finO, finV_tup, finV_int, finV_bl, finV_lst, finV_non, finV_str, finV_ref, ↓eChain, tyP, gIsi, isiB, ↓iArgs, ↓iSeq, iterP, ↓fComp, wipeP, ↓eSl, ↓oNone, ↓oSome, gSl, ↓eMeth0, ↓eMeth1, ixN, atI0, atI1, atI2, atI3, List.length_cons, List.length_nil, List.map_cons, List.map_nil, List.replicate, List.cons_append, List.nil_append, List.append_nil, List.getElem?_cons_zero, List.getElem?_cons_succ, List.getElem?_nil, List.set_cons_zero, List.set_cons_succ, List.set_nil, List.length_set, List.length_append, Nat.add_sub_cancel, Nat.reduceAdd, Nat.reduceSub, Nat.reduceLT, Nat.reduceEqDiff, Nat.reduceLeDiff, Nat.le_refl, Nat.zero_le, if_true, if_false, ↓reduceIte, decide_eq_true_eq, Bool.false_eq_true, Bool.true_eq_false, Bool.not_true, Bool.not_false, Option.isSome_some, forall_const, not_true_eq_false, not_false_eq_true, imp_self, false_implies, true_implies, implies_true, and_true, true_and, Int.toNat_zero, Nat.zero_add, Int.reduceLE, Int.reduceLT, Int.reduceNeg, Int.reduceToNat, Int.reducePow, Int.reduceGT, Int.cast_ofNat_Int, true_or, or_true, Int.ofNat_eq_natCast, decide_true, decide_false, Int.reduceEq, List.isEmpty_cons, List.isEmpty_nil, eDGet1,  keyP, Option.map_some, Option.map_none, Option.getD_some, Option.isSome_some, reduceCtorEq, and_self,  allPure_nil, allPure_cons, Bool.and_true, Bool.true_and, Bool.false_and, Bool.and_false, Bool.not_eq_true, Bool.not_eq_false, gTupP_nil, gLstP_nil, gTupP_ok, gLstP_ok, isRef_tup, isRef_int, isRef_str, isRef_bl, Bool.or_false, Bool.or_true, Bool.true_or, Bool.false_or, $a,*])

theorem right_ok {n : Nat} {S : Sto} (hw : Well S n) : WP (m__law_right [.ref n] S) fun p S' => p = .bl true := by
  unfold m__law_right b__law_right
  generalize hXC : (sSeq (sSet 8 _) _) = XC
  generalize hXB : (sSeq (sSet 2 _) _) = XB
  simp! only []
  refine wp_of (pick_tup hw (xs := [.int 0, .int 1, .int 2]) (by simp) (by simp) (by simp [isRef_int])) fun p S1 ⟨hp, w1⟩ => ?_
  obtain ⟨m, rfl, m0, m2⟩ : ∃ m : Int, p = .int m ∧ 0 ≤ m ∧ m ≤ 4 := by
    simp only [List.mem_cons, List.not_mem_nil, or_false] at hp
    rcases hp with rfl | rfl | rfl <;> exact ⟨_, rfl, by omega, by omega⟩
  try simp! only []
  refine wp_of (book_ok w1.w m0 m2) fun p S2 ⟨w2, b, ep, hb, hbl⟩ => ?_
  subst ep
  have hD := dOf_ok b CD_ok hb
  try simp! only []
  rw [← hXB]
  generalize hXD : (sSeq (sAsg _ _) _) = XD
  simp! only []
  refine wp_of (draw_ok w2.w (m := 18) (by omega) (by omega)) fun p S3 ⟨k, ek, k0, k1, w3⟩ => ?_
  subst ek
  have hn3 := w3.w.lt
  try simp! only []
  refine wp_of (draw_ok (w3.w.app (X := [.lst [.int k]])) (m := 6) (by omega) (by omega)) fun p S4 ⟨f, ef, f0, f1, w4⟩ => ?_
  subst ef
  obtain ⟨S5, rfl, w5⟩ := w4.split1 hn3
  have tr := tree_ok hb (show b.length ≤ 8 by omega) (n := n) (m := S5.length) (by have := w5.len; omega) (free := f) (ats := 3) (by omega) (by omega) 40 (S5 ++ [.lst [.int k]]) 0 k (by omega) (by omega) k0 w5.w.app get_last
  rw [w5.len] at tr
  try simp! only []
  refine wp_of tr fun p S6 ⟨t0, l4, ep, ht, w6⟩ => ?_
  subst ep
  have hln := ht.ln
  have hnn := ht.nn k0
  try simp! only []
  refine wp_of (holed_ok hb w6.w ht.v (by omega) ht.lf (by omega)) fun p S7 ⟨w7, t, ep, hv, hl, hlb⟩ => ?_
  subst ep
  have hp : PtOk b t := ⟨hv, by omega⟩
  try simp! only []
  rw [← hXD]
  simp! only []
  refine wp_of (draw_ok w7.w (m := 5) (by omega) (by omega)) fun p S8 ⟨c1, e1, c10, c11, w8⟩ => ?_
  subst e1
  try simp! only []
  refine wp_of (law_ways_ok w8.w c10 (by omega)) fun p S9 ⟨w9, one, ep1, h1, l1⟩ => ?_
  subst ep1
  try simp! only []
  refine wp_of (draw_ok w9.w (m := 5) (by omega) (by omega)) fun p S10 ⟨c2, e2, c20, c21, w10⟩ => ?_
  subst e2
  try simp! only []
  refine wp_of (law_ways_ok w10.w c20 (by omega)) fun p S11 ⟨w11, two, ep2, h2, l2⟩ => ?_
  subst ep2
  try simp! only []
  refine wp_of (draw_ok w11.w (m := 6) (by omega) (by omega)) fun p S12 ⟨by_, e3, by0, by1, w12⟩ => ?_
  subst e3
  try simp! only []
  refine wp_of (draw_ok w12.w (m := 6) (by omega) (by omega)) fun p S13 ⟨more, e4, mo0, mo1, w13⟩ => ?_
  subst e4
  try simp! only []
  refine wp_of (law_ways_ok w13.w (c := 8) (by omega) (by omega)) fun p S14 ⟨w14, eight, ep3, h8, l8⟩ => ?_
  subst ep3
  try simp! only []
  rw [← hXC]
  have r4 := rest4_ok (bk := b) (t := t) (one := one) (two := two) (eight := eight) (b := by_) (more := more) (S := S14) (a0 := some (.ref n)) (a8 := none) (a9 := none) (a10 := none) (a11 := none) (a12 := none) (a13 := none) (a14 := none) hb (by omega) hp h1 (by omega) h2 (by omega) h8 (by omega) by0 mo0
  refine wp_of r4 fun fl S' e => ?_
  subst e
  simp! only []
theorem body_ok {ns : List Int} {sc : PV} (hs : Py.Scr ns sc) (hl : ns.length ≤ 63) {i : Int} (h0 : 0 ≤ i) (h1 : i ≤ 10) {S : Sto} : WP ((eArgs m__law_right (aCons (eNew (eArgs m__law_well (aCons (eVar 0) (aCons (eVar 1) aNil)))) aNil)) [some sc, some (.int i)] S) fun p S' => p = .bl true := by
  simp! only []
  refine wp_of (well_okS hs h0 h1 hl) fun p S' ⟨e, a, b, c, ep⟩ => ?_
  subst e ep
  try simp! only []
  exact right_ok ⟨a, b, c, get_last⟩
theorem comp_true {f : Ev} {s : Option PV} (hf : ∀ i : Int, 0 ≤ i → i ≤ 10 → ∀ S, WP (f [s, some (.int i)] S) fun p S' => p = .bl true) : ∀ (c : Nat) (i : Int) (acc : List PV) (x1 : Option PV) (S : Sto), 0 ≤ i → i + c ≤ 10 → acc.length + c ≤ 100 →
    WP (compF (nName 1) tYesE f [s, x1] (Py.intsFrom i c) acc S) fun p S' => p = .lst (acc ++ (Py.intsFrom i c).map fun _ => .bl true)
  | 0, i, acc, x1, S, h0, h1, h2 => by
    rw [ints_zero, compF]
    show PV.lst acc = _
    simp
  | c + 1, i, acc, x1, S, h0, h1, h2 => by
    rw [ints_cons, compF]
    simp! only []
    refine wp_of (hf i h0 (by omega) S) fun p S1 ep => ?_
    subst ep
    have ha : (PV.bl true).isRef = false ∧ acc.length < sizeLine := ⟨rfl, by have := size_1000 (n := acc.length + 1) (by omega); omega⟩
    rw [if_pos ha]
    refine wp_of (comp_true hf c (i + 1) (acc ++ [.bl true]) x1 S1 (by omega) (by omega) (by simp; omega)) fun p S' e => ?_
    rw [e]; simp
theorem law_ok {ns : List Int} (hl : ns.length ≤ 63) {sc : PV} (hs : Py.Scr ns sc) : ∃ S', m_law [sc] [] = .ok (.bl true) S' := by
  have gl : gLen [sc] [] = .ok (.int (ns.length : Nat)) [] := by rcases hs with rfl | rfl <;> simp [gLen, getQ, getL]
  generalize hc : (if 2 < (if (3 : Int) < (ns.length : Nat) then 3 else ((ns.length : Nat) : Int)) then (if (3 : Int) < (ns.length : Nat) then 3 else ((ns.length : Nat) : Int)) else 2) = c
  have c0 : 0 ≤ c := by rw [← hc]; split <;> split <;> omega
  have c3 : c ≤ 3 := by rw [← hc]; split <;> (try split) <;> omega
  have gr := gRange_eq (j := c) (S := []) (by omega) (by omega)
  have main := comp_true (f := eArgs m__law_right (aCons (eNew (eArgs m__law_well (aCons (eVar 0) (aCons (eVar 1) aNil)))) aNil)) (s := some sc) (fun i h0 h1 S => body_ok hs hl h0 h1) c.toNat 0 [] none [] (by omega) (by omega) (by simp; omega)
  suffices h : WP (m_law [sc] []) fun p S' => p = .bl true by
    obtain ⟨p, S', e, rfl⟩ := h.ex
    exact ⟨S', e⟩
  unfold m_law b_law
  generalize (eArgs m__law_right (aCons (eNew (eArgs m__law_well (aCons (eVar 0) (aCons (eVar 1) aNil)))) aNil)) = f at main ⊢
  simp! only [gl, hc, gr]
  refine wp_of main fun p S' e => ?_
  subst e
  rw [List.nil_append]
  simp! only [gAll_true]
end G04
set_option Elab.async false
set_option maxRecDepth 100000
set_option maxHeartbeats 4000000
set_option linter.all false
namespace G04
open PySem PySem.Spec PyProof.Rows L2 Py
def ctOf (K : PySem.W.Frag) : CT := ⟨fun i => match i with | 0 => ⟨s_cloZ0, "lead", ["by", "ways"]⟩ | _ => ⟨.Pass ⟨0, 0, 0, 0⟩, "", []⟩, tabsOf K Head.own⟩
theorem txt_of {w : World} {K : PySem.W.Frag} {h : Heap} {mg : Str → Option Value} (X : K.In h) (G : h.Ns mainGlobals mg) (c : He.SaysX Head.fa Head.fn Head.ts Head.tf Head.ex w h K) : @Txt (ctOf K) K w mg :=
  letI : CT := ctOf K
  ⟨rfl,
   He.free_ok X G (c.t.d.fact 50 (f := .free "abs") rfl),
   He.free_ok X G (c.t.d.fact 51 (f := .free "all") rfl),
   He.free_ok X G (c.t.d.fact 52 (f := .free "bool") rfl),
   He.free_ok X G (c.t.d.fact 53 (f := .free "dict") rfl),
   He.free_ok X G (c.t.d.fact 54 (f := .free "divmod") rfl),
   He.free_ok X G (c.t.d.fact 55 (f := .free "enumerate") rfl),
   He.free_ok X G (c.t.d.fact 56 (f := .free "int") rfl),
   He.free_ok X G (c.t.d.fact 57 (f := .free "isinstance") rfl),
   He.free_ok X G (c.t.d.fact 58 (f := .free "len") rfl),
   He.free_ok X G (c.t.d.fact 59 (f := .free "list") rfl),
   He.free_ok X G (c.t.d.fact 60 (f := .free "max") rfl),
   He.free_ok X G (c.t.d.fact 61 (f := .free "min") rfl),
   He.free_ok X G (c.t.d.fact 62 (f := .free "range") rfl),
   He.free_ok X G (c.t.d.fact 63 (f := .free "set") rfl),
   He.free_ok X G (c.t.d.fact 64 (f := .free "sorted") rfl),
   He.free_ok X G (c.t.d.fact 65 (f := .free "str") rfl),
   He.free_ok X G (c.t.d.fact 66 (f := .free "sum") rfl),
   He.free_ok X G (c.t.d.fact 67 (f := .free "tuple") rfl),
   He.free_ok X G (c.t.d.fact 68 (f := .free "zip") rfl),
   He.int_ok X G (c.t.d.fact 69 (f := .int "GREATEST_HOLE" 99) rfl),
   He.int_ok X G (c.t.d.fact 70 (f := .int "GREATEST_NUMBER" 999999999) rfl),
   hasTup_of (He.glo_ok X G (c.t.d.fact 71 (f := .glo "LEAF_WORDS") rfl)) (He.ba (He.ba (He.ba c.more).1).1).2,
   He.str_ok X G (c.t.d.fact 72 (f := .str "LETTERS" "abcdefghijklmnopqrstuvwxyz") rfl),
   He.int_ok X G (c.t.d.fact 73 (f := .int "MAX_DEPTH" 60) rfl),
   He.int_ok X G (c.t.d.fact 74 (f := .int "MAX_FORMS" 8) rfl),
   He.int_ok X G (c.t.d.fact 75 (f := .int "MAX_LENGTH" 1500) rfl),
   He.int_ok X G (c.t.d.fact 76 (f := .int "MAX_NAMES" 2) rfl),
   He.int_ok X G (c.t.d.fact 77 (f := .int "MAX_PARTS" 4) rfl),
   He.int_ok X G (c.t.d.fact 78 (f := .int "MAX_PUT_IN" 8) rfl),
   He.int_ok X G (c.t.d.fact 79 (f := .int "MAX_TEMPLATE" 24) rfl),
   He.int_ok X G (c.t.d.fact 80 (f := .int "NAME_SIGNS" 8) rfl),
   hasTup_of (He.glo_ok X G (c.t.d.fact 81 (f := .glo "RESERVED") rfl)) (He.ba (He.ba c.more).1).2,
   He.int_ok X G (c.t.d.fact 82 (f := .int "WORD_SIGNS" 2) rfl),
   hasD_of (He.glo_ok X G (c.t.d.fact 83 (f := .glo "CORE_WORDS") rfl)) (tab_of c.t 0 rfl) (He.ba c.more).2 (by decide +kernel) (by decide +kernel)⟩
theorem cal_law {P : Program} {w : World} {K : PySem.W.Frag} {h base : Heap} {mg : Str → Option Value} {fd_law : FuncData} (X : K.In h) (G : h.Ns mainGlobals mg) (c : He.SaysX Head.fa Head.fn Head.ts Head.tf Head.ex w h K) (TB : ∀ p ∈ Head.tf.map (He.cT K), LamX.TabB base mg p.1 p.2) (F_law : FunD K "law" "law" (defArgs s_law) (defBody s_law) (defScope s_law) [] [] (He.ga K "law") fd_law) : FnOk P w K mg base CX0 72 (He.ga K "law") fd_law p_law (@spM (ctOf K) K m_law) := by
  letI : CT := ctOf K
  have T := txt_of X G c
  have nd : ndOwn K Head.own = true := (He.ba (He.ba (He.ba c.more).1).1).1
  obtain ⟨fd__law_draw, F__law_draw⟩ := c.t.d.def_ 0 (d := ⟨("_law_draw", none), "_law_draw", "_law_draw", defArgs s__law_draw, defBody s__law_draw, defScope s__law_draw, [], []⟩) rfl
  have C__law_draw := c__law_draw (P := P) (base := base) (He.glo_ok X G (c.t.d.fact 0 (f := .glo "_law_draw") rfl)) F__law_draw T
  obtain ⟨fd__law_names, F__law_names⟩ := c.t.d.def_ 1 (d := ⟨("_law_names", none), "_law_names", "_law_names", defArgs s__law_names, defBody s__law_names, defScope s__law_names, [], []⟩) rfl
  have C__law_names := c__law_names (P := P) (base := base) (He.glo_ok X G (c.t.d.fact 1 (f := .glo "_law_names") rfl)) F__law_names T
  obtain ⟨fd__law_pick, F__law_pick⟩ := c.t.d.def_ 2 (d := ⟨("_law_pick", none), "_law_pick", "_law_pick", defArgs s__law_pick, defBody s__law_pick, defScope s__law_pick, [], []⟩) rfl
  have C__law_pick := c__law_pick (P := P) (base := base) (He.glo_ok X G (c.t.d.fact 2 (f := .glo "_law_pick") rfl)) F__law_pick T C__law_draw
  obtain ⟨fd__law_word, F__law_word⟩ := c.t.d.def_ 3 (d := ⟨("_law_word", none), "_law_word", "_law_word", defArgs s__law_word, defBody s__law_word, defScope s__law_word, [], []⟩) rfl
  have C__law_word := c__law_word (P := P) (base := base) (He.glo_ok X G (c.t.d.fact 3 (f := .glo "_law_word") rfl)) F__law_word T C__law_draw C__law_names C__law_pick
  obtain ⟨fd__law_leaves, F__law_leaves⟩ := c.t.d.def_ 4 (d := ⟨("_law_leaves", none), "_law_leaves", "_law_leaves", defArgs s__law_leaves, defBody s__law_leaves, defScope s__law_leaves, [], []⟩) rfl
  have C__law_leaves := c__law_leaves (P := P) (base := base) (He.glo_ok X G (c.t.d.fact 4 (f := .glo "_law_leaves") rfl)) F__law_leaves T C__law_names 64
  obtain ⟨fd__law_told, F__law_told⟩ := c.t.d.def_ 5 (d := ⟨("_law_told", none), "_law_told", "_law_told", defArgs s__law_told, defBody s__law_told, defScope s__law_told, [], []⟩) rfl
  have C__law_told := c__law_told (P := P) (base := base) (He.glo_ok X G (c.t.d.fact 5 (f := .glo "_law_told") rfl)) F__law_told T C__law_draw
  obtain ⟨fd__law_replaced, F__law_replaced⟩ := c.t.d.def_ 6 (d := ⟨("_law_replaced", none), "_law_replaced", "_law_replaced", defArgs s__law_replaced, defBody s__law_replaced, defScope s__law_replaced, [], []⟩) rfl
  have C__law_replaced := c__law_replaced (P := P) (base := base) (He.glo_ok X G (c.t.d.fact 6 (f := .glo "_law_replaced") rfl)) F__law_replaced T 64
  obtain ⟨fd__law_length, F__law_length⟩ := c.t.d.def_ 7 (d := ⟨("_law_length", none), "_law_length", "_law_length", defArgs s__law_length, defBody s__law_length, defScope s__law_length, [], []⟩) rfl
  have C__law_length := c__law_length (P := P) (base := base) (He.glo_ok X G (c.t.d.fact 7 (f := .glo "_law_length") rfl)) F__law_length T C__law_names 64
  obtain ⟨fd__law_number, F__law_number⟩ := c.t.d.def_ 8 (d := ⟨("_law_number", none), "_law_number", "_law_number", defArgs s__law_number, defBody s__law_number, defScope s__law_number, [], []⟩) rfl
  have C__law_number := c__law_number (P := P) (base := base) (He.glo_ok X G (c.t.d.fact 8 (f := .glo "_law_number") rfl)) F__law_number T C__law_draw
  obtain ⟨fd__law_tree, F__law_tree⟩ := c.t.d.def_ 9 (d := ⟨("_law_tree", none), "_law_tree", "_law_tree", defArgs s__law_tree, defBody s__law_tree, defScope s__law_tree, [], []⟩) rfl
  have C__law_tree := c__law_tree (P := P) (base := base) (He.glo_ok X G (c.t.d.fact 9 (f := .glo "_law_tree") rfl)) F__law_tree T C__law_draw C__law_names C__law_number C__law_pick 40
  obtain ⟨fd__law_form, F__law_form⟩ := c.t.d.def_ 10 (d := ⟨("_law_form", none), "_law_form", "_law_form", defArgs s__law_form, defBody s__law_form, defScope s__law_form, [], []⟩) rfl
  have C__law_form := c__law_form (P := P) (base := base) (He.glo_ok X G (c.t.d.fact 10 (f := .glo "_law_form") rfl)) F__law_form T C__law_draw C__law_leaves C__law_length C__law_names C__law_pick C__law_replaced C__law_told C__law_tree C__law_word
  obtain ⟨fd__law_book, F__law_book⟩ := c.t.d.def_ 11 (d := ⟨("_law_book", none), "_law_book", "_law_book", defArgs s__law_book, defBody s__law_book, defScope s__law_book, [], []⟩) rfl
  have C__law_book := c__law_book (P := P) (base := base) (He.glo_ok X G (c.t.d.fact 11 (f := .glo "_law_book") rfl)) F__law_book T C__law_form
  obtain ⟨fd__law_holed, F__law_holed⟩ := c.t.d.def_ 12 (d := ⟨("_law_holed", none), "_law_holed", "_law_holed", defArgs s__law_holed, defBody s__law_holed, defScope s__law_holed, [], []⟩) rfl
  have C__law_holed := c__law_holed (P := P) (base := base) (He.glo_ok X G (c.t.d.fact 12 (f := .glo "_law_holed") rfl)) F__law_holed T C__law_draw C__law_leaves C__law_replaced
  obtain ⟨fd__law_way, F__law_way⟩ := c.t.d.def_ 13 (d := ⟨("_law_way", none), "_law_way", "_law_way", defArgs s__law_way, defBody s__law_way, defScope s__law_way, [], []⟩) rfl
  have C__law_way := c__law_way (P := P) (base := base) (He.glo_ok X G (c.t.d.fact 13 (f := .glo "_law_way") rfl)) F__law_way T
  obtain ⟨fd__law_led, F__law_led⟩ := c.t.d.def_ 14 (d := ⟨("_law_led", none), "_law_led", "_law_led", defArgs s__law_led, defBody s__law_led, defScope s__law_led, [], []⟩) rfl
  have C__law_led := c__law_led (P := P) (base := base) (He.glo_ok X G (c.t.d.fact 14 (f := .glo "_law_led") rfl)) F__law_led T C__law_names C__law_way 64
  obtain ⟨fd__law_same, F__law_same⟩ := c.t.d.def_ 15 (d := ⟨("_law_same", none), "_law_same", "_law_same", defArgs s__law_same, defBody s__law_same, defScope s__law_same, [], []⟩) rfl
  have C__law_same := c__law_same (P := P) (base := base) (He.glo_ok X G (c.t.d.fact 15 (f := .glo "_law_same") rfl)) F__law_same T 70
  obtain ⟨fd__law_ways, F__law_ways⟩ := c.t.d.def_ 16 (d := ⟨("_law_ways", none), "_law_ways", "_law_ways", defArgs s__law_ways, defBody s__law_ways, defScope s__law_ways, [], []⟩) rfl
  have C__law_ways := c__law_ways (P := P) (base := base) (He.glo_ok X G (c.t.d.fact 16 (f := .glo "_law_ways") rfl)) F__law_ways T C__law_draw
  obtain ⟨fd_core_words, F_core_words⟩ := c.t.d.def_ 17 (d := ⟨("core_words", none), "core_words", "core_words", defArgs s_core_words, defBody s_core_words, defScope s_core_words, [], []⟩) rfl
  have C_core_words := c_core_words (P := P) (base := base) (He.glo_ok X G (c.t.d.fact 17 (f := .glo "core_words") rfl)) F_core_words T
  obtain ⟨fd_is_tuple_up_to, F_is_tuple_up_to⟩ := c.t.d.def_ 18 (d := ⟨("is_tuple_up_to", none), "is_tuple_up_to", "is_tuple_up_to", defArgs s_is_tuple_up_to, defBody s_is_tuple_up_to, defScope s_is_tuple_up_to, [], []⟩) rfl
  have C_is_tuple_up_to := c_is_tuple_up_to (P := P) (base := base) (He.glo_ok X G (c.t.d.fact 18 (f := .glo "is_tuple_up_to") rfl)) F_is_tuple_up_to T
  obtain ⟨fd_is_leaf, F_is_leaf⟩ := c.t.d.def_ 19 (d := ⟨("is_leaf", none), "is_leaf", "is_leaf", defArgs s_is_leaf, defBody s_is_leaf, defScope s_is_leaf, [], []⟩) rfl
  have C_is_leaf := c_is_leaf (P := P) (base := base) (He.glo_ok X G (c.t.d.fact 19 (f := .glo "is_leaf") rfl)) F_is_leaf T
  obtain ⟨fd_is_whole, F_is_whole⟩ := c.t.d.def_ 20 (d := ⟨("is_whole", none), "is_whole", "is_whole", defArgs s_is_whole, defBody s_is_whole, defScope s_is_whole, [], []⟩) rfl
  have C_is_whole := c_is_whole (P := P) (base := base) (He.glo_ok X G (c.t.d.fact 20 (f := .glo "is_whole") rfl)) F_is_whole T
  obtain ⟨fd_is_count, F_is_count⟩ := c.t.d.def_ 21 (d := ⟨("is_count", none), "is_count", "is_count", defArgs s_is_count, defBody s_is_count, defScope s_is_count, [], []⟩) rfl
  have C_is_count := c_is_count (P := P) (base := base) (He.glo_ok X G (c.t.d.fact 21 (f := .glo "is_count") rfl)) F_is_count T C_is_whole
  obtain ⟨fd_is_whole_within, F_is_whole_within⟩ := c.t.d.def_ 22 (d := ⟨("is_whole_within", none), "is_whole_within", "is_whole_within", defArgs s_is_whole_within, defBody s_is_whole_within, defScope s_is_whole_within, [], []⟩) rfl
  have C_is_whole_within := c_is_whole_within (P := P) (base := base) (He.glo_ok X G (c.t.d.fact 22 (f := .glo "is_whole_within") rfl)) F_is_whole_within T C_is_whole
  obtain ⟨fd_is_hole_well_made, F_is_hole_well_made⟩ := c.t.d.def_ 23 (d := ⟨("is_hole_well_made", none), "is_hole_well_made", "is_hole_well_made", defArgs s_is_hole_well_made, defBody s_is_hole_well_made, defScope s_is_hole_well_made, [], []⟩) rfl
  have C_is_hole_well_made := c_is_hole_well_made (P := P) (base := base) (He.glo_ok X G (c.t.d.fact 23 (f := .glo "is_hole_well_made") rfl)) F_is_hole_well_made T C_is_count C_is_whole_within
  obtain ⟨fd_is_leaf_well_made, F_is_leaf_well_made⟩ := c.t.d.def_ 24 (d := ⟨("is_leaf_well_made", none), "is_leaf_well_made", "is_leaf_well_made", defArgs s_is_leaf_well_made, defBody s_is_leaf_well_made, defScope s_is_leaf_well_made, [], []⟩) rfl
  have C_is_leaf_well_made := c_is_leaf_well_made (P := P) (base := base) (He.glo_ok X G (c.t.d.fact 24 (f := .glo "is_leaf_well_made") rfl)) F_is_leaf_well_made T C_is_count C_is_hole_well_made C_is_whole_within
  obtain ⟨fd_own_length, F_own_length⟩ := c.t.d.def_ 25 (d := ⟨("own_length", none), "own_length", "own_length", defArgs s_own_length, defBody s_own_length, defScope s_own_length, [], []⟩) rfl
  have C_own_length := c_own_length (P := P) (base := base) (He.glo_ok X G (c.t.d.fact 25 (f := .glo "own_length") rfl)) F_own_length T C_is_leaf C_is_leaf_well_made
  obtain ⟨fd_fits, F_fits⟩ := c.t.d.def_ 26 (d := ⟨("fits", none), "fits", "fits", defArgs s_fits, defBody s_fits, defScope s_fits, [], []⟩) rfl
  have C_fits := c_fits (P := P) (base := base) (He.glo_ok X G (c.t.d.fact 26 (f := .glo "fits") rfl)) F_fits T C_is_leaf C_own_length
  obtain ⟨fd_part_rows, F_part_rows⟩ := c.t.d.def_ 27 (d := ⟨("part_rows", none), "part_rows", "part_rows", defArgs s_part_rows, defBody s_part_rows, defScope s_part_rows, [], []⟩) rfl
  have C_part_rows := c_part_rows (P := P) (base := base) (He.glo_ok X G (c.t.d.fact 27 (f := .glo "part_rows") rfl)) F_part_rows T C_is_leaf
  obtain ⟨fd_nodes, F_nodes⟩ := c.t.d.def_ 28 (d := ⟨("nodes", none), "nodes", "nodes", defArgs s_nodes, defBody s_nodes, defScope s_nodes, [], []⟩) rfl
  have C_nodes := c_nodes (P := P) (base := base) (He.glo_ok X G (c.t.d.fact 28 (f := .glo "nodes") rfl)) F_nodes T C_part_rows
  obtain ⟨fd_are_holes_of, F_are_holes_of⟩ := c.t.d.def_ 29 (d := ⟨("are_holes_of", none), "are_holes_of", "are_holes_of", defArgs s_are_holes_of, defBody s_are_holes_of, defScope s_are_holes_of, [], []⟩) rfl
  have C_are_holes_of := c_are_holes_of (P := P) (base := base) (He.glo_ok X G (c.t.d.fact 29 (f := .glo "are_holes_of") rfl)) F_are_holes_of T
  obtain ⟨fd_is_length_of_template, F_is_length_of_template⟩ := c.t.d.def_ 30 (d := ⟨("is_length_of_template", none), "is_length_of_template", "is_length_of_template", defArgs s_is_length_of_template, defBody s_is_length_of_template, defScope s_is_length_of_template, [], []⟩) rfl
  have C_is_length_of_template := c_is_length_of_template (P := P) (base := base) (He.glo_ok X G (c.t.d.fact 30 (f := .glo "is_length_of_template") rfl)) F_is_length_of_template T
  obtain ⟨fd_length_in, F_length_in⟩ := c.t.d.def_ 31 (d := ⟨("length_in", none), "length_in", "length_in", defArgs s_length_in, defBody s_length_in, defScope s_length_in, [], []⟩) rfl
  have C_length_in := c_length_in (P := P) (base := base) (He.glo_ok X G (c.t.d.fact 31 (f := .glo "length_in") rfl)) F_length_in T C_nodes
  obtain ⟨fd_is_told_inside, F_is_told_inside⟩ := c.t.d.def_ 32 (d := ⟨("is_told_inside", none), "is_told_inside", "is_told_inside", defArgs s_is_told_inside, defBody s_is_told_inside, defScope s_is_told_inside, [], []⟩) rfl
  have C_is_told_inside := c_is_told_inside (P := P) (base := base) (He.glo_ok X G (c.t.d.fact 32 (f := .glo "is_told_inside") rfl)) F_is_told_inside T
  obtain ⟨fd_is_template, F_is_template⟩ := c.t.d.def_ 33 (d := ⟨("is_template", none), "is_template", "is_template", defArgs s_is_template, defBody s_is_template, defScope s_is_template, [], []⟩) rfl
  have C_is_template := c_is_template (P := P) (base := base) (He.glo_ok X G (c.t.d.fact 33 (f := .glo "is_template") rfl)) F_is_template T C_are_holes_of C_is_leaf C_is_length_of_template C_is_told_inside C_length_in C_nodes
  obtain ⟨fd_is_word_of_letters, F_is_word_of_letters⟩ := c.t.d.def_ 34 (d := ⟨("is_word_of_letters", none), "is_word_of_letters", "is_word_of_letters", defArgs s_is_word_of_letters, defBody s_is_word_of_letters, defScope s_is_word_of_letters, [], []⟩) rfl
  have C_is_word_of_letters := c_is_word_of_letters (P := P) (base := base) (He.glo_ok X G (c.t.d.fact 34 (f := .glo "is_word_of_letters") rfl)) F_is_word_of_letters T
  obtain ⟨fd_is_own_word, F_is_own_word⟩ := c.t.d.def_ 35 (d := ⟨("is_own_word", none), "is_own_word", "is_own_word", defArgs s_is_own_word, defBody s_is_own_word, defScope s_is_own_word, [], []⟩) rfl
  have C_is_own_word := c_is_own_word (P := P) (base := base) (He.glo_ok X G (c.t.d.fact 35 (f := .glo "is_own_word") rfl)) F_is_own_word T C_is_word_of_letters
  obtain ⟨fd_are_part_names, F_are_part_names⟩ := c.t.d.def_ 36 (d := ⟨("are_part_names", none), "are_part_names", "are_part_names", defArgs s_are_part_names, defBody s_are_part_names, defScope s_are_part_names, [], []⟩) rfl
  have C_are_part_names := c_are_part_names (P := P) (base := base) (He.glo_ok X G (c.t.d.fact 36 (f := .glo "are_part_names") rfl)) F_are_part_names T C_is_tuple_up_to C_is_whole_within
  obtain ⟨fd_is_form, F_is_form⟩ := c.t.d.def_ 37 (d := ⟨("is_form", none), "is_form", "is_form", defArgs s_is_form, defBody s_is_form, defScope s_is_form, [], []⟩) rfl
  have C_is_form := c_is_form (P := P) (base := base) (He.glo_ok X G (c.t.d.fact 37 (f := .glo "is_form") rfl)) F_is_form T C_are_part_names C_fits C_is_own_word C_is_template
  obtain ⟨fd_words_of, F_words_of⟩ := c.t.d.def_ 38 (d := ⟨("words_of", none), "words_of", "words_of", defArgs s_words_of, defBody s_words_of, defScope s_words_of, [], []⟩) rfl
  have C_words_of := c_words_of (P := P) (base := base) (He.glo_ok X G (c.t.d.fact 38 (f := .glo "words_of") rfl)) F_words_of T C_core_words C_is_form C_is_tuple_up_to
  obtain ⟨fd_check_pattern, F_check_pattern⟩ := c.t.d.def_ 39 (d := ⟨("check_pattern", none), "check_pattern", "check_pattern", defArgs s_check_pattern, defBody s_check_pattern, defScope s_check_pattern, [], []⟩) rfl
  have C_check_pattern := c_check_pattern (P := P) (base := base) (He.glo_ok X G (c.t.d.fact 39 (f := .glo "check_pattern") rfl)) F_check_pattern T C_fits
  obtain ⟨fd_check_ways, F_check_ways⟩ := c.t.d.def_ 40 (d := ⟨("check_ways", none), "check_ways", "check_ways", defArgs s_check_ways, defBody s_check_ways, defScope s_check_ways, [], []⟩) rfl
  have C_check_ways := c_check_ways (P := P) (base := base) (He.glo_ok X G (c.t.d.fact 40 (f := .glo "check_ways") rfl)) F_check_ways T C_is_count C_is_tuple_up_to
  obtain ⟨fd_check_by, F_check_by⟩ := c.t.d.def_ 41 (d := ⟨("check_by", none), "check_by", "check_by", defArgs s_check_by, defBody s_check_by, defScope s_check_by, [], []⟩) rfl
  have C_check_by := c_check_by (P := P) (base := base) (He.glo_ok X G (c.t.d.fact 41 (f := .glo "check_by") rfl)) F_check_by T C_is_count
  obtain ⟨fd_names_begin, F_names_begin⟩ := c.t.d.def_ 42 (d := ⟨("names_begin", none), "names_begin", "names_begin", defArgs s_names_begin, defBody s_names_begin, defScope s_names_begin, [], []⟩) rfl
  have C_names_begin := c_names_begin (P := P) (base := base) (He.glo_ok X G (c.t.d.fact 42 (f := .glo "names_begin") rfl)) F_names_begin T
  obtain ⟨fd_led_name, F_led_name⟩ := c.t.d.def_ 43 (d := ⟨("led_name", none), "led_name", "led_name", defArgs s_led_name, defBody s_led_name, defScope s_led_name, [], []⟩) rfl
  have C_led_name := c_led_name (P := P) (base := base) (He.glo_ok X G (c.t.d.fact 43 (f := .glo "led_name") rfl)) F_led_name T
  have C_cloZ0 := c_cloZ0 (P := P) (base := base) T C_led_name C_names_begin
  obtain ⟨fd_exchangedZ0, F_exchangedZ0⟩ := c.t.d.def_ 44 (d := ⟨("exchanged", none), "exchanged", "exchanged", defArgs s_exchangedZ0, defBody s_exchangedZ0, defScope s_exchangedZ0, [], []⟩) rfl
  have C_exchangedZ0 := c_exchangedZ0 (P := P) (base := base) (He.glo_ok X G (c.t.d.fact 44 (f := .glo "exchanged") rfl)) F_exchangedZ0 T C_cloZ0 C_is_leaf 64
  obtain ⟨fd_led_pattern, F_led_pattern⟩ := c.t.d.def_ 45 (d := ⟨("led_pattern", none), "led_pattern", "led_pattern", defArgs s_led_pattern, defBody s_led_pattern, defScope s_led_pattern, [], []⟩) rfl
  have O_led_pattern : Own K mg base "led_pattern" nm_led_pattern := own_of (own := Head.own) rfl nd (by simp [Head.own]) (TB (He.cT K ("led_pattern", none)) (List.mem_map.mpr ⟨_, by simp [Head.tf, Head.own], rfl⟩))
  have C_led_pattern := c_led_pattern (P := P) (base := base) (He.glo_ok X G (c.t.d.fact 45 (f := .glo "led_pattern") rfl)) F_led_pattern T rfl O_led_pattern C_exchangedZ0
  obtain ⟨fd_led, F_led⟩ := c.t.d.def_ 46 (d := ⟨("led", none), "led", "led", defArgs s_led, defBody s_led, defScope s_led, [], []⟩) rfl
  have C_led := c_led (P := P) (base := base) (He.glo_ok X G (c.t.d.fact 46 (f := .glo "led") rfl)) F_led T C_check_by C_check_pattern C_check_ways C_led_pattern C_words_of
  obtain ⟨fd__law_right, F__law_right⟩ := c.t.d.def_ 47 (d := ⟨("_law_right", none), "_law_right", "_law_right", defArgs s__law_right, defBody s__law_right, defScope s__law_right, [], []⟩) rfl
  have C__law_right := c__law_right (P := P) (base := base) (He.glo_ok X G (c.t.d.fact 47 (f := .glo "_law_right") rfl)) F__law_right T C__law_book C__law_draw C__law_holed C__law_led C__law_pick C__law_same C__law_tree C__law_way C__law_ways C_led
  obtain ⟨fd__law_well, F__law_well⟩ := c.t.d.def_ 48 (d := ⟨("_law_well", none), "_law_well", "_law_well", defArgs s__law_well, defBody s__law_well, defScope s__law_well, [], []⟩) rfl
  have C__law_well := c__law_well (P := P) (base := base) (He.glo_ok X G (c.t.d.fact 48 (f := .glo "_law_well") rfl)) F__law_well T
  exact fn_def F_law sc_law fun cdv A outer s H E hr => e_law T C__law_right C__law_well cdv A outer s H E hr
theorem facts {P : Program} {w : World} {K : PySem.W.Frag} {h : Heap} {mg : Str → Option Value} {f : Addr} (X : K.In h) (G : h.Ns mainGlobals mg) (hfa : mg ("law" : Str) = some (.ref f)) (c : He.SaysX Head.fa Head.fn Head.ts Head.tf Head.ex w h K) :
    ∃ fd : FuncData, (∀ (s : Shared) (v : Value), BindsTo s fd ⟨[v], []⟩ [(p_law.head!, v)]) ∧ ∀ base : Heap, K.In base → base.Ns mainGlobals mg → (∀ p ∈ Head.tf.map (He.cT K), LamX.TabB base mg p.1 p.2) → FnOk P w K mg base CX0 72 f fd p_law (@spM (ctOf K) K m_law) := by
  obtain ⟨fd, F⟩ := c.t.d.def_ 49 (d := ⟨("law", none), "law", "law", defArgs s_law, defBody s_law, defScope s_law, [], []⟩) rfl
  have e := hfa.symm.trans (He.glo_ok X G (c.t.d.fact 49 (f := .glo "law") rfl))
  cases e
  have b := FunD.bindsA (ps := p_law) F fun _ _ _ _ _ _ us hl => match us, hl with | [_], _ => rfl
  exact ⟨fd, fun s v => b s [v] rfl, fun base _ _ TB => cal_law X G c TB F⟩
end G04
namespace G04
open PySem PySem.Spec PyProof.Rows L2 Py
end G04
open PySem PySem.W PySem.Calls PyProof.Rows
theorem G04.holds (math : ∀ ns : List Int, ns.length ≤ 63 → ∀ sc, Py.Scr ns sc → ∃ S', G04.m_law [sc] [] = .ok (.bl true) S') : PySem.Challenge.rw_formstead_k04_led_by_own_walk_twice_is_o.Holds := by
  w_on; o_law
  refine HandSHeadRun.head_any (r := OpenLaw.row PySem.Challenge.rw_formstead_k04_led_by_own_walk_twice_is_o) (q := view (OpenLaw.row PySem.Challenge.rw_formstead_k04_led_by_own_walk_twice_is_o).prog [78]) (H := G04.Head.hk) (ob := G04.Head.ob) (M := 4000) (loose := G04.lse) (d := HandSHeadRun.topDef (OpenLaw.row PySem.Challenge.rw_formstead_k04_led_by_own_walk_twice_is_o).prog 78) (kwd := []) G04.Head.ob_eq
    (by kernel_rfl) (fun s => by kernel_rfl) G04.run (by kernel_rfl) (by kernel_rfl) (by kernel_rfl) (by rfl) (by first | assumption | decide +kernel) (by decide +kernel) ⟨rfl, rfl, rfl, rfl, rfl, by decide +kernel⟩ ?hw ?hc
  case hw => w_witness2
  case hc =>
    refine LamX.walk_ofTsE (l := PySem.Challenge.rw_formstead_k04_led_by_own_walk_twice_is_o) (n := 63) (k := 72) (x := G04.p_law.head!) (CX := fun _ => L2.CX0) rfl (by decide) (by kernel_rfl) ⟨rfl, by decide, by decide⟩ ?F (fun _ _ _ _ _ z => z)
    intro w mg fa h Y G hmg0
    obtain ⟨K, KX, c⟩ := Y
    have hmg : mg ("law" : PySem.Str) = some (.ref fa) := by
      have e : (HandSHeadRun.topDef (OpenLaw.row PySem.Challenge.rw_formstead_k04_led_by_own_walk_twice_is_o).prog 78).name = ("law" : PySem.Str) := by kernel_rfl
      rw [← e]
      exact hmg0
    obtain ⟨fd, hb, hF⟩ := G04.facts (P := (PySem.Challenge.rw_formstead_k04_led_by_own_walk_twice_is_o).prog) (w := w) KX G hmg c
    refine ⟨K, KX, fd, G04.Head.tf.map (He.cT K), @Py.spM (G04.ctOf K) K G04.m_law, fun p hp => ?_, fun p hp => ?_, fun p hp => ?_, hb, fun H a ns hl _ hT hS => ?_, hF⟩
    · obtain ⟨q, hq, e⟩ := List.mem_map.mp hp
      rw [← e]
      exact c.empty q hq
    · obtain ⟨q, hq, e⟩ := List.mem_map.mp hp
      rw [← e]
      exact c.out q hq
    · obtain ⟨q, hq, e⟩ := List.mem_map.mp hp
      rw [← e]
      exact PySem.W.codeHd_of_K KX (c.hd q hq)
    · letI : Py.CT := G04.ctOf K
      exact Py.law_start (math ns hl) (Py.tabs_nil hT) hS
open PySem PySem.W PyProof.Rows
set_option maxRecDepth 100000 in
set_option maxHeartbeats 8000000 in
theorem PySem.Challenge.cw_formstead_k04_led_by_own_walk_twice_is_o_holds : PySem.Challenge.rw_formstead_k04_led_by_own_walk_twice_is_o.Holds := by
  exact G04.holds fun ns hl sc hs => G04.law_ok hl hs

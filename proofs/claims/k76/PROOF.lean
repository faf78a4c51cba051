import PyProof.Rows.All
import Wide.All
import OpenK.AllK
import Wide.FinOn
import HandS.ForExc
import HandS.ForMost
import HandS.Flow
import HandS.StrMore
import HandS.IsInst
import HandS.Deep
import HandS.Lambda
import PyProof.StrOps2
import HandS.Wide
import PyProof.Rows.StrCase
import HandS.Defaults
import HandS.MakeKwOnly
import HandS.Style
import PyProof.ReprRoads
import HandS.RaiseMore
import HandS.Ends
import HandS.Replace
import PyProof.Draws
import PyProof.Rows.StrLawsPart
import PyProof.ReprLen
import HandS.More
import HandS.FStr
import PyProof.StrLawsIn
import HandS.TupAny
import HandS.Exc
import HandS.ExcOwn
import HandS.ExcIs
import HandS.TupMul
import HandS.SetTxt0
import HandS.SetBool
import PyProof.Rows.SortShellAny
import HandS.EndTab
import HandS.EndOwn
import KE.KDictPairs
import KE.KDictCopyH
import PyProof.ReprDict
import HandS.ReplaceLit
import HandS.ReplaceList
import HandS.TryOnly
import PySem.Challenge.RW_asifread_k76_whole_things_read_back
set_option Elab.async false
set_option linter.all false
set_option maxRecDepth 100000
set_option Elab.async false
namespace Zd
open PySem PySem.Spec L2

/-! ### data -/
abbrev mk (cs : List Nat) : Str := ⟨cs.toArray⟩
/-- plain signs alone -/
def Asc (cs : List Nat) : Prop := ∀ c ∈ cs, c < 128
inductive KD where
  | i (n : Int) | s (cs : List Nat)
  deriving DecidableEq
def KD.k : KD → Key
  | .i n => .inl n
  | .s cs => .inr (mk cs)
inductive D where
  | non | bl (b : Bool) | int (i : Int) | str (cs : List Nat)
  | lst (xs : List D) | tup (xs : List D) | ro (xs : List D)
  | dic (kvs : List (KD × D))
  | obj (n : String) (fs : List (Str × D))
  | exc (n : Str) (fs : List (Str × D))
  | nkd (ks : List D)
/-- a caught exception of a class of the program's own, kept -/
def ExV (C : Addr) (d : Option Addr) (a : Addr) : HO := .ext fun h => ∃ (oe : Obj) (vs : Array Value), h.get? a = some oe ∧ Zc (.ref C) d oe ∧ oe.data = .fields vs
/-- the dict at d, the object o, never changed: its keys are vs -/
def NkO (d : Addr) (o : Obj) (vs : List V) : HO := .ext fun h => (d == sysModules) = false ∧ h.get? d = some o ∧ o.ExactDict ∧ ∃ es ep, o.data = .dict es ep ∧ es.size = vs.length ∧ ∀ (i : Nat) (v : V), vs[i]? = some v → ∃ en, es[i]? = some en ∧ RelV v en.key
/-- the module's name n is the class C -/
def ClsNm (K : PySem.W.Frag) (n : Str) (C : Addr) : Prop := PySem.W.nsIn K mainGlobals n = some (some (.ref C))
/-- a tuple that stands: laid, or of the written part -/
def TpA (K : PySem.W.Frag) (F : Hp) (a : Addr) (vs : List V) : Prop := F a = some (.tup vs) ∨ SqT K (fun _ => none) a vs
mutual
inductive Rp (K : PySem.W.Frag) (F : Hp) : V → D → Prop
  | non : Rp K F .non .non
  | bl (b : Bool) : Rp K F (.bl b) (.bl b)
  | int (i : Int) : Rp K F (.int i) (.int i)
  | str (cs : List Nat) : Asc cs → Rp K F (.str (mk cs)) (.str cs)
  | lst {a : Addr} {vs : List V} {xs : List D} : F a = some (.lst vs) → RpL K F vs xs → Rp K F (.ref a) (.lst xs)
  | ro {a : Addr} {vs : List V} {xs : List D} : SqL K F a vs → RpL K F vs xs → Rp K F (.ref a) (.ro xs)
  | tup {a : Addr} {vs : List V} {xs : List D} : TpA K F a vs → RpL K F vs xs → Rp K F (.ref a) (.tup xs)
  | dic {a : Addr} {kvs : List (Key × V)} {ds : List (KD × D)} : F a = some (.dK kvs) → RpD K F kvs ds → Rp K F (.ref a) (.dic ds)
  | obj {n : String} {a C dx : Addr} {fs : List (Str × V)} {ds : List (Str × D)} : F a = some (.ins C dx fs) → Cls K C → (∀ p ∈ ds, NoAttr K C p.1) → RpF K F fs ds → Rp K F (.ref a) (.obj n ds)
  | exc {a C : Addr} {n : Str} : F a = some (ExV C none a) → ClsNm K n C → Rp K F (.ref a) (.exc n [])
  | excF {a C dx : Addr} {n : Str} {fs : List (Str × V)} {d0 : Str × D} {ds : List (Str × D)} : F a = some (ExV C (some dx) a) → ClsNm K n C → F dx = some (.xd fs) → RpF K F fs (d0 :: ds) → Rp K F (.ref a) (.exc n (d0 :: ds))
  | nkd {a : Addr} {o : Obj} {vs : List V} {ks : List D} : F a = some (NkO a o vs) → RpL K F vs ks → Rp K F (.ref a) (.nkd ks)
inductive RpL (K : PySem.W.Frag) (F : Hp) : List V → List D → Prop
  | nil : RpL K F [] []
  | cons {v : V} {x : D} {vs : List V} {xs : List D} : Rp K F v x → RpL K F vs xs → RpL K F (v :: vs) (x :: xs)
inductive RpD (K : PySem.W.Frag) (F : Hp) : List (Key × V) → List (KD × D) → Prop
  | nil : RpD K F [] []
  | cons {k : KD} {v : V} {x : D} {vs : List (Key × V)} {xs : List (KD × D)} : Rp K F v x → RpD K F vs xs → RpD K F ((k.k, v) :: vs) ((k, x) :: xs)
inductive RpF (K : PySem.W.Frag) (F : Hp) : List (Str × V) → List (Str × D) → Prop
  | nil : RpF K F [] []
  | cons {k : Str} {v : V} {x : D} {vs : List (Str × V)} {xs : List (Str × D)} : Rp K F v x → RpF K F vs xs → RpF K F ((k, v) :: vs) ((k, x) :: xs)
end
section
variable {K : PySem.W.Frag} {F F' H H' : Hp}
theorem sqL_mono {a : Addr} {xs : List V} (e : Same F F') (h : SqL K F a xs) : SqL K F' a xs := e.seq h
theorem sqT_mono {a : Addr} {xs : List V} (e : Same F F') (h : SqT K F a xs) : SqT K F' a xs := by
  rcases h with (h | ⟨o, h⟩) | h
  · exact .inl (.inl (e _ _ h))
  · exact .inl (.inr ⟨o, e _ _ h⟩)
  · exact .inr h
theorem TpA.mono {a : Addr} {xs : List V} (e : Same F F') (h : TpA K F a xs) : TpA K F' a xs := by
  rcases h with h | h
  · exact .inl (e _ _ h)
  · exact .inr h
theorem TpA.sq {a : Addr} {xs : List V} (h : TpA K F a xs) : SqT K F a xs := by
  rcases h with h | h
  · exact .inl (.inl h)
  · exact sqT_mono (fun _ _ e => by cases e) h
theorem Rp.mono (e : Same F F') {v : V} {d : D} (h : Rp K F v d) : Rp K F' v d :=
  Rp.rec (motive_1 := fun v d _ => Rp K F' v d) (motive_2 := fun v d _ => RpL K F' v d) (motive_3 := fun v d _ => RpD K F' v d) (motive_4 := fun v d _ => RpF K F' v d)
    .non .bl .int .str (fun h _ r => .lst (e _ _ h) r) (fun h _ r => .ro (sqL_mono e h) r) (fun h _ r => .tup (TpA.mono e h) r) (fun h _ r => .dic (e _ _ h) r) (fun h c n _ r => .obj (e _ _ h) c n r) (fun h c => .exc (e _ _ h) c) (fun h c hd _ r => .excF (e _ _ h) c (e _ _ hd) r) (fun h _ r => .nkd (e _ _ h) r)
    .nil (fun _ _ a b => .cons a b) .nil (fun _ _ a b => .cons a b) .nil (fun _ _ a b => .cons a b) h
theorem RpL.mono (e : Same F F') : ∀ {vs : List V} {xs : List D}, RpL K F vs xs → RpL K F' vs xs
  | _, _, .nil => .nil
  | _, _, .cons h t => .cons (h.mono e) (RpL.mono e t)
theorem RpD.mono (e : Same F F') : ∀ {vs : List (Key × V)} {xs : List (KD × D)}, RpD K F vs xs → RpD K F' vs xs
  | _, _, .nil => .nil
  | _, _, .cons h t => .cons (h.mono e) (RpD.mono e t)
theorem RpF.mono (e : Same F F') : ∀ {vs : List (Str × V)} {xs : List (Str × D)}, RpF K F vs xs → RpF K F' vs xs
  | _, _, .nil => .nil
  | _, _, .cons h t => .cons (h.mono e) (RpF.mono e t)
theorem RpL.length : ∀ {vs : List V} {xs : List D}, RpL K F vs xs → vs.length = xs.length
  | _, _, .nil => rfl
  | _, _, .cons _ t => by simp [RpL.length t]
theorem RpL.get : ∀ {vs : List V} {xs : List D} {i : Nat} {v : V}, RpL K F vs xs → vs[i]? = some v → ∃ x, xs[i]? = some x ∧ Rp K F v x
  | _, _, _, _, .nil, e => by simp at e
  | _, _, 0, _, .cons h _, e => by simp at e; subst e; exact ⟨_, rfl, h⟩
  | _, _, i + 1, _, .cons _ t, e => by
    obtain ⟨x, e1, r⟩ := RpL.get (i := i) t (by simpa using e)
    exact ⟨x, by simpa using e1, r⟩
theorem RpL.get' : ∀ {vs : List V} {xs : List D} {i : Nat} {x : D}, RpL K F vs xs → xs[i]? = some x → ∃ v, vs[i]? = some v ∧ Rp K F v x
  | _, _, _, _, .nil, e => by simp at e
  | _, _, 0, _, .cons h _, e => by simp at e; subst e; exact ⟨_, rfl, h⟩
  | _, _, i + 1, _, .cons _ t, e => by
    obtain ⟨x, e1, r⟩ := RpL.get' (i := i) t (by simpa using e)
    exact ⟨x, by simpa using e1, r⟩
theorem RpL.append : ∀ {vs ws : List V} {xs ys : List D}, RpL K F vs xs → RpL K F ws ys → RpL K F (vs ++ ws) (xs ++ ys)
  | _, _, _, _, .nil, s => s
  | _, _, _, _, .cons h t, s => .cons h (RpL.append t s)
theorem RpL.take : ∀ {vs : List V} {xs : List D} (n : Nat), RpL K F vs xs → RpL K F (vs.take n) (xs.take n)
  | _, _, 0, _ => .nil
  | _, _, _ + 1, .nil => .nil
  | _, _, n + 1, .cons h t => .cons h (RpL.take n t)
theorem RpL.drop : ∀ {vs : List V} {xs : List D} (n : Nat), RpL K F vs xs → RpL K F (vs.drop n) (xs.drop n)
  | _, _, 0, h => h
  | _, _, _ + 1, .nil => .nil
  | _, _, n + 1, .cons _ t => RpL.drop n t
theorem RpL.set {v : V} {x : D} (r : Rp K F v x) : ∀ {vs : List V} {xs : List D} (n : Nat), RpL K F vs xs → RpL K F (vs.set n v) (xs.set n x)
  | _, _, _, .nil => .nil
  | _, _, 0, .cons _ t => .cons r t
  | _, _, n + 1, .cons h t => .cons h (RpL.set r n t)
theorem RpL.reverse : ∀ {vs : List V} {xs : List D}, RpL K F vs xs → RpL K F vs.reverse xs.reverse
  | _, _, .nil => .nil
  | _, _, .cons h t => by
    rw [List.reverse_cons, List.reverse_cons]
    exact (RpL.reverse t).append (.cons h .nil)
theorem RpL.strs : ∀ {css : List (List Nat)}, (∀ c ∈ css, Asc c) → RpL K F ((css.map mk).map V.str) (css.map D.str)
  | [], _ => .nil
  | c :: r, h => .cons (.str c (h c List.mem_cons_self)) (RpL.strs (css := r) fun d hd => h d (List.mem_cons_of_mem _ hd))
theorem RpL.ints : ∀ {ns : List Int}, RpL K F (ns.map V.int) (ns.map D.int)
  | [] => .nil
  | c :: r => .cons (.int c) (RpL.ints (ns := r))

/-! ### slots -/
inductive OC where
  | lst (xs : List D) | dic (kvs : List (KD × D)) | ob (n : String) (fs : List (Str × D))
@[reducible] def OC.d : OC → D
  | .lst xs => .lst xs
  | .dic kvs => .dic kvs
  | .ob n fs => .obj n fs
inductive Sl where
  | no | d (x : D) | own (c : OC) | par (c : OC) | gh (T : List (Addr × Str))
abbrev Env := List Sl
def OcOk (K : PySem.W.Frag) (F : Hp) : HO → OC → Prop
  | .lst vs, .lst xs => RpL K F vs xs
  | .dK kvs, .dic ds => RpD K F kvs ds
  | .ins C _ fs, .ob n ds => Cls K C ∧ ClsNm K (Str.ofString n) C ∧ (∀ p ∈ ds, NoAttr K C p.1) ∧ RpF K F fs ds
  | _, _ => False
theorem OcOk.mono (e : Same F F') {ho : HO} {c : OC} (h : OcOk K F ho c) : OcOk K F' ho c := by
  cases ho <;> cases c <;> first | exact RpL.mono e h | exact RpD.mono e h | exact ⟨h.1, h.2.1, h.2.2.1, RpF.mono e h.2.2.2⟩ | exact h.elim
def Sl.oc : Sl → Option OC
  | .own c => some c
  | .par c => some c
  | _ => none
def ownAt (ε : Env) (i : Nat) : Option OC := (ε[i]?).bind Sl.oc
def Sl.dat : Sl → Option D
  | .no => none
  | .gh _ => none
  | .d x => some x
  | .own c => some c.d
  | .par c => some c.d
def datAt (ε : Env) (i : Nat) : Option D := (ε[i]?).bind Sl.dat
/-- what holds through a body: the reach at its entry, the heap that it keeps, the places of the lists that it was handed -/
structure Gd where
  F0 : Hp
  H0 : Hp
  pn : List (Nat × Addr)
  tb : List (Addr × Str) := []
/-- a table of code objects at P: it may grow; the code objects that it tells lie there for good -/
def TabF (F H : Hp) (P : Addr) (q : Str) : Prop := ∃ ps : Array Value, H P = some (.tbl ps) ∧ TriplesOk ps.toList ∧ ∀ (pos : Pos) (cv : Value), codeAmong pos ps.toList = some cv → ∃ c, cv = .ref c ∧ F c = some (LamX.CodeO c q)
def Tb (T : List (Addr × Str)) (H0 F H : Hp) : Prop := ∀ p ∈ T, TabF F H p.1 p.2 ∧ F p.1 = none ∧ H0 p.1 = none
section
variable {T : List (Addr × Str)} {H0 H0' F F' H H' : Hp}
theorem Tb.nil : Tb [] H0 F H := fun _ h => nomatch h
theorem Tb.mk' (h : Tb T H0 F H) (s : Same F F') (k : ∀ p ∈ T, ∀ ps, H p.1 = some (.tbl ps) → H' p.1 = some (.tbl ps)) (f : ∀ p ∈ T, F p.1 = none → ∀ ps, H p.1 = some (.tbl ps) → F' p.1 = none) (g : ∀ p ∈ T, H0 p.1 = none → ∀ ps, H p.1 = some (.tbl ps) → H0' p.1 = none) : Tb T H0' F' H' := fun p hp => by
  obtain ⟨⟨ps, h1, h2, h3⟩, h4, h5⟩ := h p hp
  refine ⟨⟨ps, k p hp ps h1, h2, fun pos cv hc => ?_⟩, f p hp h4 ps h1, g p hp h5 ps h1⟩
  obtain ⟨c, e1, e2⟩ := h3 pos cv hc
  exact ⟨c, e1, s _ _ e2⟩
theorem Tb.anyH (h : Tb T H0 F H) (k : ∀ p ∈ T, ∀ ps, H p.1 = some (.tbl ps) → H' p.1 = some (.tbl ps)) : Tb T H0 F H' := h.mk' (.refl _) k (fun _ _ z _ _ => z) fun _ _ z _ _ => z
theorem Tb.ne {a : Addr} {o : HO} (h : Tb T H0 F H) (ha : H a = some o) (ht : ∀ ps, o ≠ .tbl ps) : ∀ p ∈ T, p.1 ≠ a := fun p hp z => by
  obtain ⟨⟨ps, h1, _⟩, _⟩ := h p hp
  rw [z, ha] at h1
  exact ht ps (Option.some.inj h1)
theorem Tb.ne0 {a : Addr} (h : Tb T H0 F H) (ha : H a = none) : ∀ p ∈ T, p.1 ≠ a := fun p hp z => by
  obtain ⟨⟨ps, h1, _⟩, _⟩ := h p hp
  rw [z, ha] at h1
  cases h1
end
structure Iv (K : PySem.W.Frag) (G : Gd) (F H : Hp) (σ : L2.St) (ε : Env) : Prop where
  s0 : Same G.F0 F
  sF : Same F H
  sH : Same G.H0 H
  fr : ∀ p, G.F0 p = none → G.H0 p ≠ none → F p = none
  len : σ.length = ε.length
  d : ∀ (i : Nat) (x : D), ε[i]? = some (Sl.d x) → ∃ v : V, σ[i]? = some (some v) ∧ Rp K F v x
  o : ∀ (i : Nat) (c : OC), ownAt ε i = some c → ∃ (p : Addr) (ho : HO), σ[i]? = some (some (V.ref p)) ∧ G.H0 p = none ∧ F p = none ∧ H p = some ho ∧ OcOk K F ho c
  dis : ∀ (i j : Nat) (p : Addr), i ≠ j → ownAt ε i ≠ none → ownAt ε j ≠ none → σ[i]? = some (some (V.ref p)) → σ[j]? ≠ some (some (V.ref p))
  pn : ∀ ip ∈ G.pn, σ[ip.1]? = some (some (V.ref ip.2)) ∧ ∃ c : OC, ε[ip.1]? = some (Sl.par c)
  tb : Tb G.tb G.H0 F H
  gh : ∀ (i : Nat) (T : List (Addr × Str)), ε[i]? = some (Sl.gh T) → G.tb = T
theorem ocok_tbl {K : PySem.W.Frag} {F : Hp} {ho : HO} {c : OC} (h : OcOk K F ho c) : ∀ ps, ho ≠ .tbl ps := fun ps z => by
  subst z
  cases c <;> exact h.elim
/-- something was laid -/
structure AL (F H F' H' : Hp) : Prop where
  sF : Same F F'
  sH : Same H H'
  sFH : Same F' H'
  fr : ∀ p, H p ≠ none → F p = none → F' p = none
theorem AL.refl (e : Same F H) : AL F H F H := ⟨.refl _, .refl _, e, fun _ _ h => h⟩
theorem AL.trans {F1 H1 F2 H2 : Hp} (a : AL F H F1 H1) (b : AL F1 H1 F2 H2) : AL F H F2 H2 :=
  ⟨a.sF.trans b.sF, a.sH.trans b.sH, b.sFH, fun p h e => b.fr p (fun z => by
    cases q : H p with
    | none => exact h q
    | some o => rw [a.sH p o q] at z; cases z) (a.fr p h e)⟩
theorem Same.new {p : Addr} {o : HO} (h : H p = none) : Same H (upd H p o) := fun b x e => by
  rw [upd_ne (ne_of_none e h)]
  exact e
theorem Same.upd2 {p : Addr} {o : HO} (e : Same F H) : Same (upd F p o) (upd H p o) := fun b x h => by
  by_cases hb : b = p
  · subst hb; rw [upd_same] at h ⊢; exact h
  · rw [upd_ne hb] at h ⊢; exact e _ _ h
theorem AL.new {p : Addr} {o : HO} (e : Same F H) (h : H p = none) : AL F H (upd F p o) (upd H p o) :=
  ⟨Same.new (e.free h), Same.new h, Same.upd2 e, fun q hq hF => by
    rw [upd_ne (fun z => hq (by rw [z]; exact h))]; exact hF⟩
theorem Iv.al {G : Gd} {σ : L2.St} {ε : Env} (I : Iv K G F H σ ε) (a : AL F H F' H') : Iv K G F' H' σ ε where
  s0 := I.s0.trans a.sF
  sF := a.sFH
  sH := I.sH.trans a.sH
  fr := fun p h0 h1 => a.fr p (fun z => by
    cases q : G.H0 p with
    | none => exact h1 q
    | some o => rw [I.sH p o q] at z; cases z) (I.fr p h0 h1)
  len := I.len
  d := fun i x e => by
    obtain ⟨v, h, r⟩ := I.d i x e
    exact ⟨v, h, r.mono a.sF⟩
  o := fun i c e => by
    obtain ⟨p, ho, h1, h2, h3, h4, h5⟩ := I.o i c e
    exact ⟨p, ho, h1, h2, a.fr p (by rw [h4]; simp) h3, a.sH _ _ h4, h5.mono a.sF⟩
  dis := I.dis
  pn := I.pn
  tb := I.tb.mk' a.sF (fun p _ ps e => a.sH _ _ e) (fun p _ z ps e => a.fr p.1 (by rw [e]; simp) z) fun _ _ z _ _ => z
  gh := I.gh
end

/-! ### operands -/
inductive Opd where
  | d (x : D) | s (i : Nat)
@[reducible] def Opd.get (ε : Env) : Opd → D
  | .d x => x
  | .s i => match datAt ε i with
    | some x => x
    | none => .non
def OpdOk (K : PySem.W.Frag) (F : Hp) (σ : L2.St) (ε : Env) (v : V) : Opd → Prop
  | .d x => Rp K F v x
  | .s i => σ[i]? = some (some v) ∧ datAt ε i ≠ none
/-- what lies there now -/
def RpB (K : PySem.W.Frag) (F H : Hp) (v : V) (d : D) : Prop := Rp K F v d ∨ ∃ p ho c, v = .ref p ∧ H p = some ho ∧ OcOk K F ho c ∧ d = c.d
structure EXD where
  cls : Str
  fs : Option (List (Str × D))
def XOk (K : PySem.W.Frag) (F H : Hp) (e : EXD) (cls : Value) (d : Option Addr) : Prop :=
  ∃ C : Addr, ClsNm K e.cls C ∧ cls = .ref C ∧ match e.fs with
    | none => d = none
    | some ds => ∃ dx fs, d = some dx ∧ H dx = some (.xd fs) ∧ RpF K F fs ds
abbrev XQ := EXD → Env → Prop
abbrev OQ := Opd → Env → Prop
abbrev TD := Env → OQ → XQ → Prop
abbrev TB := Env → (Bool → Env → Prop) → XQ → Prop
abbrev TL := Env → (List Opd → Env → Prop) → XQ → Prop
/-- the slots keep their kind -/
def Kd (ε ε' : Env) : Prop := ∀ i, datAt ε i ≠ none → datAt ε' i ≠ none
theorem Kd.refl (ε : Env) : Kd ε ε := fun _ h => h
theorem Kd.trans {a b c : Env} (x : Kd a b) (y : Kd b c) : Kd a c := fun i h => y i (x i h)
section
variable {K : PySem.W.Frag} {F F' H H' : Hp} {σ : L2.St} {ε ε' : Env} {G : Gd}
theorem OpdOk.mono {v : V} {o : Opd} (e : Same F F') (k : Kd ε ε') (h : OpdOk K F σ ε v o) : OpdOk K F' σ ε' v o := by
  cases o with
  | d x => exact Rp.mono e h
  | s i => exact ⟨h.1, k i h.2⟩
theorem OpdOk.b {v : V} {o : Opd} (I : Iv K G F H σ ε) (h : OpdOk K F σ ε v o) : RpB K F H v (o.get ε) := by
  cases o with
  | d x => exact .inl h
  | s i =>
    obtain ⟨h1, h2⟩ := h
    have own : ∀ c, ownAt ε i = some c → datAt ε i = some c.d → RpB K F H v (Opd.get ε (.s i)) := fun c e e' => by
      obtain ⟨p, ho, e1, _, _, e4, e5⟩ := I.o i c e
      rw [h1] at e1
      cases e1
      refine .inr ⟨p, ho, c, rfl, e4, e5, ?_⟩
      show (match datAt ε i with | some x => x | none => .non) = c.d
      rw [e']
    cases e : ε[i]? with
    | none => unfold datAt at h2; rw [e] at h2; exact absurd rfl h2
    | some s =>
      cases s with
      | no => unfold datAt at h2; rw [e] at h2; exact absurd rfl h2
      | gh _ => unfold datAt at h2; rw [e] at h2; exact absurd rfl h2
      | d x =>
        obtain ⟨w, h3, r⟩ := I.d i x e
        rw [h1] at h3
        cases h3
        refine .inl ?_
        show Rp K F v (match datAt ε i with | some x => x | none => .non)
        unfold datAt
        rw [e]
        exact r
      | own c => exact own c (by unfold ownAt; rw [e]; rfl) (by unfold datAt; rw [e]; rfl)
      | par c => exact own c (by unfold ownAt; rw [e]; rfl) (by unfold datAt; rw [e]; rfl)
end
section
variable (K : PySem.W.Frag) (W : WX)
def XE1 (G : Gd) (F : Hp) (σ : L2.St) (xq : XQ) : Prop := ∀ F' H' e ε' cls d, Same F F' → Iv K G F' H' σ ε' → XOk K F' H' e cls d → xq e ε' → W cls d σ H'
def LE (t : TD) : TE := fun σ H Q => ∃ G F ε q xq, Iv K G F H σ ε ∧ t ε q xq ∧
  (∀ F' H' v o ε', Same F F' → Kd ε ε' → Iv K G F' H' σ ε' → OpdOk K F' σ ε' v o → q o ε' → Q v H') ∧ XE1 K W G F σ xq
def LT (t : TB) : TT := fun σ H Q => ∃ G F ε q xq, Iv K G F H σ ε ∧ t ε q xq ∧
  (∀ F' H' b ε', Same F F' → Kd ε ε' → Iv K G F' H' σ ε' → q b ε' → Q b H') ∧ XE1 K W G F σ xq
inductive OsOk (F : Hp) (σ : L2.St) (ε : Env) : List V → List Opd → Prop
  | nil : OsOk F σ ε [] []
  | cons {v : V} {o : Opd} {vs : List V} {os : List Opd} : OpdOk K F σ ε v o → OsOk F σ ε vs os → OsOk F σ ε (v :: vs) (o :: os)
def LA (t : TL) : TA := fun σ H Q => ∃ G F ε q xq, Iv K G F H σ ε ∧ t ε q xq ∧
  (∀ F' H' vs os ε', Same F F' → Kd ε ε' → Iv K G F' H' σ ε' → OsOk K F' σ ε' vs os → q os ε' → Q vs H') ∧ XE1 K W G F σ xq
end
theorem XE1.mono {K : PySem.W.Frag} {W : WX} {G : Gd} {F F' : Hp} {σ : L2.St} {xq : XQ} (h : XE1 K W G F σ xq) (e : Same F F') : XE1 K W G F' σ xq :=
  fun F1 H1 e1 ε1 cls d s => h F1 H1 e1 ε1 cls d (e.trans s)
theorem OsOk.mono {K : PySem.W.Frag} {F F' : Hp} {σ : L2.St} {ε ε' : Env} (e : Same F F') (k : Kd ε ε') : ∀ {vs : List V} {os : List Opd}, OsOk K F σ ε vs os → OsOk K F' σ ε' vs os
  | _, _, .nil => .nil
  | _, _, .cons h t => .cons (h.mono e k) (OsOk.mono e k t)
/-- an expression and what it tells, over data -/
structure DE (X : Cx) (W : WX) (e : Expr) (t : TD) : Prop where
  pe : PE X e (LE X.K W t)
structure DT (X : Cx) (W : WX) (e : Expr) (t : TB) : Prop where
  pt : PT X e (LT X.K W t)
structure DW (X : Cx) (W : WX) (e : Expr) (t : TB) : Prop where
  pw : PW X e (LT X.K W t)
structure DA (X : Cx) (W : WX) (es : List Expr) (t : TL) : Prop where
  pa : PA X es (LA X.K W t)
theorem PE.conv {X : Cx} {e : Expr} {t t' : TE} (h : PE X e t) (c : ∀ σ H Q, t' σ H Q → t σ H Q) : PE X e t' := ⟨fun pins s σ H Q I q => h.run pins s σ H Q I (c σ H Q q)⟩
theorem PT.conv {X : Cx} {e : Expr} {t t' : TT} (h : PT X e t) (c : ∀ σ H Q, t' σ H Q → t σ H Q) : PT X e t' := ⟨fun pins s σ H Q I q => h.run pins s σ H Q I (c σ H Q q)⟩
theorem PW.conv {X : Cx} {e : Expr} {t t' : TT} (h : PW X e t) (c : ∀ σ H Q, t' σ H Q → t σ H Q) : PW X e t' := ⟨fun wh pins s σ H Q I q => h.run wh pins s σ H Q I (c σ H Q q)⟩
theorem PA.conv {X : Cx} {es : List Expr} {t t' : TA} (h : PA X es t) (c : ∀ σ H Q, t' σ H Q → t σ H Q) : PA X es t' := ⟨fun pos pins s σ H Q I q => h.run pos pins s σ H Q I (c σ H Q q)⟩
theorem PS.conv {X : Cx} {e : Stmt} {t t' : TS} (h : PS X e t) (c : ∀ D σ H, t' D σ H → t D σ H) : PS X e t' := ⟨fun pins s σ H D I q => h.run pins s σ H D I (c D σ H q)⟩
theorem PSs.conv {X : Cx} {e : List Stmt} {t t' : TS} (h : PSs X e t) (c : ∀ D σ H, t' D σ H → t D σ H) : PSs X e t' := ⟨fun pins s σ H D I q => h.run pins s σ H D I (c D σ H q)⟩

/-! ### rules by values -/
/-- a two-place operation over data: dop tells what it gives -/
structure D2 (X : Cx) (f : Value → Value → Sem Value) (dop : D → D → (D → Prop) → Prop) where
  r : R2
  h : OpR X f r
  hr : ∀ F H v w x y (q : D → Prop) (Q : VK), Same F H → RpB X.K F H v x → RpB X.K F H w y → dop x y q → (∀ F' H' z d, AL F H F' H' → Rp X.K F' z d → q d → Q z H') → r v w H Q
structure D1 (X : Cx) (f : Value → Sem Value) (dop : D → (D → Prop) → Prop) where
  r : V → Hp → VK → Prop
  h : UnR X f r
  hr : ∀ F H v x (q : D → Prop) (Q : VK), Same F H → RpB X.K F H v x → dop x q → (∀ F' H' z d, AL F H F' H' → Rp X.K F' z d → q d → Q z H') → r v H Q
inductive RpBs (K : PySem.W.Frag) (F H : Hp) : List V → List D → Prop
  | nil : RpBs K F H [] []
  | cons {v : V} {d : D} {vs : List V} {ds : List D} : RpB K F H v d → RpBs K F H vs ds → RpBs K F H (v :: vs) (d :: ds)
structure DC (X : Cx) (f : Value) (dop : List D → (D → Prop) → Prop) where
  r : List V → Hp → VK → Prop
  h : CallR X f r
  hr : ∀ F H vs xs (q : D → Prop) (Q : VK), Same F H → RpBs X.K F H vs xs → dop xs q → (∀ F' H' z d, AL F H F' H' → Rp X.K F' z d → q d → Q z H') → r vs H Q
section
variable {X : Cx} {W : WX} {a b c : Expr} {ta tb tc : TD} {pos : Pos}
def dBin (dop : D → D → (D → Prop) → Prop) (ta tb : TD) : TD := fun ε q xq => ta ε (fun x ε1 => tb ε1 (fun y ε2 => dop (x.get ε2) (y.get ε2) fun z => q (.d z) ε2) xq) xq
theorem conv2 {r : R2} {dop : D → D → (D → Prop) → Prop}
    (hr : ∀ F H v w x y (q : D → Prop) (Q : VK), Same F H → RpB X.K F H v x → RpB X.K F H w y → dop x y q → (∀ F' H' z d, AL F H F' H' → Rp X.K F' z d → q d → Q z H') → r v w H Q)
    (σ : L2.St) (H : Hp) (Q : VK) (h : LE X.K W (dBin dop ta tb) σ H Q) : tOp r (LE X.K W ta) (LE X.K W tb) σ H Q := by
  obtain ⟨G, F, ε, q, xq, I, ht, hq, hx⟩ := h
  refine ⟨G, F, ε, _, xq, I, ht, fun F1 H1 v o ε1 s1 k1 I1 r1 h1 => ?_, hx⟩
  refine ⟨G, F1, ε1, _, xq, I1, h1, fun F2 H2 w o' ε2 s2 k2 I2 r2 h2 => ?_, hx.mono s1⟩
  refine hr F2 H2 v w _ _ _ Q I2.sF ((r1.mono s2 k2).b I2) (r2.b I2) h2 fun F3 H3 z d al rz hz => ?_
  exact hq F3 H3 z (.d d) ε2 ((s1.trans s2).trans al.sF) (k1.trans k2) (I2.al al) rz hz
theorem de_op {op : Operator} {dop : D → D → (D → Prop) → Prop} (ho : D2 X (binaryOp op) dop) (ha : DE X W a ta) (hb : DE X W b tb) : DE X W (.BinOp a op b pos) (dBin dop ta tb) := by
  exact ⟨PE.conv (pe_op ho.h ha.pe hb.pe) (conv2 ho.hr)⟩
theorem de_cmp {op : CmpOp} {dop : D → D → (D → Prop) → Prop} (ho : D2 X (compareOp op) dop) (ha : DE X W a ta) (hb : DE X W b tb) (hm : behindInMarks op b = false := by rfl) : DE X W (.Compare a [op] [b] pos) (dBin dop ta tb) := by
  exact ⟨PE.conv (pe_cmpR ho.h ha.pe hb.pe hm) (conv2 ho.hr)⟩
def dUn (dop : D → (D → Prop) → Prop) (ta : TD) : TD := fun ε q xq => ta ε (fun x ε1 => dop (x.get ε1) fun z => q (.d z) ε1) xq
theorem de_un {op : UnaryOp} {dop : D → (D → Prop) → Prop} (ho : D1 X (unaryOp op) dop) (ha : DE X W a ta) : DE X W (.UnaryOp op a pos) (dUn dop ta) := by
  refine ⟨PE.conv (pe_un ho.h ha.pe) fun σ H Q h => ?_⟩
  obtain ⟨G, F, ε, q, xq, I, ht, hq, hx⟩ := h
  refine ⟨G, F, ε, _, xq, I, ht, fun F1 H1 v o ε1 s1 k1 I1 r1 h1 => ?_, hx⟩
  refine ho.hr F1 H1 v _ _ Q I1.sF (r1.b I1) h1 fun F3 H3 z d al rz hz => ?_
  exact hq F3 H3 z (.d d) ε1 (s1.trans al.sF) k1 (I1.al al) rz hz

/-! ### names and constants -/
def dC (x : D) : TD := fun ε q _ => q (.d x) ε
def dN (i : Nat) : TD := fun ε q _ => match ε[i]? with
  | some (.d x) => q (.d x) ε
  | some (.own _) => q (.s i) ε
  | some (.par _) => q (.s i) ε
  | _ => False
theorem de_c {e : Expr} {v : V} {x : D} (h : PE X e (tC v)) (r : ∀ F, Rp X.K F v x) : DE X W e (dC x) := by
  refine ⟨PE.conv h fun σ H Q h => ?_⟩
  obtain ⟨G, F, ε, q, xq, I, ht, hq, hx⟩ := h
  exact hq F H v (.d x) ε (.refl _) (.refl _) I (r F) ht
theorem de_int {i j pos} : DE X W (.Constant (.int i) j pos) (dC (.int i)) := de_c pe_int fun _ => .int _
theorem de_bl {b j pos} : DE X W (.Constant (.bool b) j pos) (dC (.bl b)) := de_c pe_bl fun _ => .bl _
theorem de_non {j pos} : DE X W (.Constant .none j pos) (dC .non) := de_c pe_non fun _ => .non
theorem de_str {x j pos} (cs : List Nat) (h : x = mk cs := by rfl) (ha : cs.all (· < 128) = true := by rfl) : DE X W (.Constant (.str x) j pos) (dC (.str cs)) := by
  subst h
  exact de_c pe_str fun _ => .str _ fun c hc => by simpa using List.all_eq_true.mp ha c hc
theorem de_n {x : Str} {i : Nat} (h : PE X (.Name x pos) (tVar i)) : DE X W (.Name x pos) (dN i) := by
  refine ⟨PE.conv h fun σ H Q h => ?_⟩
  obtain ⟨G, F, ε, q, xq, I, ht, hq, hx⟩ := h
  have ht : (match ε[i]? with | some (.d x) => q (.d x) ε | some (.own _) => q (.s i) ε | some (.par _) => q (.s i) ε | _ => False) := ht
  have own : ∀ c, ownAt ε i = some c → datAt ε i ≠ none → q (.s i) ε → tVar i σ H Q := fun c e hd hh => by
    obtain ⟨p, ho, h1, _⟩ := I.o i c e
    exact ⟨_, h1, hq F H _ (.s i) ε (.refl _) (.refl _) I ⟨h1, hd⟩ hh⟩
  cases e : ε[i]? with
  | none => rw [e] at ht; exact ht.elim
  | some s =>
    rw [e] at ht
    cases s with
    | no => exact ht.elim
    | gh _ => exact ht.elim
    | d x =>
      obtain ⟨v, h1, r⟩ := I.d i x e
      exact ⟨v, h1, hq F H v (.d x) ε (.refl _) (.refl _) I r ht⟩
    | own c => exact own c (by unfold ownAt; rw [e]; rfl) (by unfold datAt; rw [e]; simp [Sl.dat]) ht
    | par c => exact own c (by unfold ownAt; rw [e]; rfl) (by unfold datAt; rw [e]; simp [Sl.dat]) ht

/-! ### argument lists -/
def aNil : TL := fun ε q _ => q [] ε
def aCons (t : TD) (u : TL) : TL := fun ε q xq => t ε (fun x ε1 => u ε1 (fun xs ε2 => q (x :: xs) ε2) xq) xq
theorem da_nil : DA X W [] aNil := by
  refine ⟨PA.conv pa_nil fun σ H Q h => ?_⟩
  obtain ⟨G, F, ε, q, xq, I, ht, hq, hx⟩ := h
  exact hq F H [] [] ε (.refl _) (.refl _) I .nil ht
theorem da_cons {es : List Expr} {u : TL} (ha : DE X W a ta) (hr : DA X W es u) (hs : starEach (a :: es) X.env = (false, eval a X.env) :: starEach es X.env := by rfl) : DA X W (a :: es) (aCons ta u) := by
  refine ⟨PA.conv (pa_cons ha.pe hr.pa hs) fun σ H Q h => ?_⟩
  obtain ⟨G, F, ε, q, xq, I, ht, hq, hx⟩ := h
  refine ⟨G, F, ε, _, xq, I, ht, fun F1 H1 v o ε1 s1 k1 I1 r1 h1 => ?_, hx⟩
  refine ⟨G, F1, ε1, _, xq, I1, h1, fun F2 H2 vs os ε2 s2 k2 I2 r2 h2 => ?_, hx.mono s1⟩
  exact hq F2 H2 (v :: vs) (o :: os) ε2 (s1.trans s2) (k1.trans k2) I2 (.cons (r1.mono s2 k2) r2) h2
theorem OsOk.bs {K : PySem.W.Frag} {G : Gd} {F H : Hp} {σ : L2.St} {ε : Env} (I : Iv K G F H σ ε) : ∀ {vs : List V} {os : List Opd}, OsOk K F σ ε vs os → RpBs K F H vs (os.map (Opd.get ε))
  | _, _, .nil => .nil
  | _, _, .cons h t => .cons (h.b I) (OsOk.bs I t)
/-- a built-in's call -/
def dCB (dop : List D → (D → Prop) → Prop) (t : TL) : TD := fun ε q xq => t ε (fun xs ε1 => dop (xs.map (Opd.get ε1)) fun z => q (.d z) ε1) xq
theorem de_cb {f : Value} {e : Expr} {dop : List D → (D → Prop) → Prop} {t : TL} (k : DC X f dop) (h : PE X e (tCB k.r (LA X.K W t))) : DE X W e (dCB dop t) := by
  refine ⟨PE.conv h fun σ H Q h => ?_⟩
  obtain ⟨G, F, ε, q, xq, I, ht, hq, hx⟩ := h
  refine ⟨G, F, ε, _, xq, I, ht, fun F1 H1 vs os ε1 s1 k1 I1 r1 h1 => ?_, hx⟩
  refine k.hr F1 H1 vs _ _ Q I1.sF (r1.bs I1) h1 fun F3 H3 z d al rz hz => ?_
  exact hq F3 H3 z (.d d) ε1 (s1.trans al.sF) k1 (I1.al al) rz hz
end
end Zd
namespace Zd
open PySem PySem.Spec L2 TL

/-! ### what a value must be -/
section
variable {K : PySem.W.Frag} {F H : Hp} {v : V}
theorem RpB.non_ (h : RpB K F H v .non) : v = .non := by
  rcases h with h | ⟨p, ho, c, _, _, _, e⟩
  · cases h; rfl
  · cases c <;> cases e
theorem RpB.bl_ {b : Bool} (h : RpB K F H v (.bl b)) : v = .bl b := by
  rcases h with h | ⟨p, ho, c, _, _, _, e⟩
  · cases h; rfl
  · cases c <;> cases e
theorem RpB.int_ {i : Int} (h : RpB K F H v (.int i)) : v = .int i := by
  rcases h with h | ⟨p, ho, c, _, _, _, e⟩
  · cases h; rfl
  · cases c <;> cases e
theorem RpB.str_ {cs : List Nat} (h : RpB K F H v (.str cs)) : v = .str (mk cs) ∧ Asc cs := by
  rcases h with h | ⟨p, ho, c, _, _, _, e⟩
  · cases h with
    | str _ a => exact ⟨rfl, a⟩
  · cases c <;> cases e
theorem RpB.lst_ {xs : List D} (S : Same F H) (h : RpB K F H v (.lst xs)) : ∃ p vs, v = .ref p ∧ H p = some (.lst vs) ∧ RpL K F vs xs := by
  rcases h with h | ⟨p, ho, c, e1, e2, e3, e⟩
  · cases h with
    | lst a b => exact ⟨_, _, rfl, S _ _ a, b⟩
  · cases c with
    | lst ys =>
      cases e
      cases ho with
      | lst vs => exact ⟨p, vs, e1, e2, e3⟩
      | _ => exact e3.elim
    | dic _ => cases e
    | ob _ _ => cases e
theorem RpB.tup_ {xs : List D} (S : Same F H) (h : RpB K F H v (.tup xs)) : ∃ p vs, v = .ref p ∧ TpA K F p vs ∧ SqT K H p vs ∧ RpL K F vs xs := by
  rcases h with h | ⟨p, ho, c, e1, e2, e3, e⟩
  · cases h with
    | tup a b => exact ⟨_, _, rfl, a, sqT_mono S a.sq, b⟩
  · cases c <;> cases e
theorem RpB.ro_ {xs : List D} (S : Same F H) (h : RpB K F H v (.ro xs)) : ∃ p vs, v = .ref p ∧ SqL K H p vs ∧ RpL K F vs xs := by
  rcases h with h | ⟨p, ho, c, e1, e2, e3, e⟩
  · cases h with
    | ro a b => exact ⟨_, _, rfl, sqL_mono S a, b⟩
  · cases c <;> cases e
theorem RpB.dic_ {ds : List (KD × D)} (S : Same F H) (h : RpB K F H v (.dic ds)) : ∃ p kvs, v = .ref p ∧ H p = some (.dK kvs) ∧ RpD K F kvs ds := by
  rcases h with h | ⟨p, ho, c, e1, e2, e3, e⟩
  · cases h with
    | dic a b => exact ⟨_, _, rfl, S _ _ a, b⟩
  · cases c with
    | lst _ => cases e
    | ob _ _ => cases e
    | dic ys =>
      cases e
      cases ho with
      | dK vs => exact ⟨p, vs, e1, e2, e3⟩
      | _ => exact e3.elim
/-- a list of either kind, to be read -/
theorem RpB.seqL {xs : List D} (S : Same F H) (h : RpB K F H v (.lst xs) ∨ RpB K F H v (.ro xs)) : ∃ p vs, v = .ref p ∧ SqL K H p vs ∧ RpL K F vs xs := by
  rcases h with h | h
  · obtain ⟨p, vs, e1, e2, e3⟩ := h.lst_ S
    exact ⟨p, vs, e1, .of e2, e3⟩
  · exact h.ro_ S
end
theorem Asc.nil : Asc [] := fun _ h => nomatch h
theorem Asc.append {a b : List Nat} (x : Asc a) (y : Asc b) : Asc (a ++ b) := fun c h => by
  rcases List.mem_append.mp h with h | h
  · exact x c h
  · exact y c h
theorem Asc.take {a : List Nat} (n : Nat) (x : Asc a) : Asc (a.take n) := fun c h => x c (List.mem_of_mem_take h)
theorem Asc.drop {a : List Nat} (n : Nat) (x : Asc a) : Asc (a.drop n) := fun c h => x c (List.mem_of_mem_drop h)
theorem mk_len (cs : List Nat) : (mk cs).length = cs.length := by simp [mk, Str.length]
theorem mk_inj {a b : List Nat} (h : mk a = mk b) : a = b := by
  have e : tl (mk a) = tl (mk b) := congrArg tl h
  exact e
theorem mk_app (a b : List Nat) : mk a ++ mk b = mk (a ++ b) := ext_tl (by rw [tl_append])
theorem al_id {F H : Hp} (S : Same F H) : AL F H F H := AL.refl S

/-! ### numbers -/
def dAdd : D → D → (D → Prop) → Prop
  | .int i, .int j, q => q (.int (i + j))
  | .int i, .bl k, q => q (.int (i + PyProof.Rows.b2i k))
  | .str s, .str t, q => s.length + t.length ≤ sizeLine ∧ q (.str (s ++ t))
  | .lst xs, .lst ys, q => xs.length + ys.length ≤ sizeLine ∧ q (.lst (xs ++ ys))
  | .tup xs, .tup ys, q => xs ≠ [] ∧ xs.length + ys.length ≤ sizeLine ∧ q (.tup (xs ++ ys))
  | _, _, _ => False
section
variable {X : Cx}
def addR : D2 X (binaryOp .Add) dAdd where
  r := _
  h := OpR.or op_add (OpR.or op_add_ib (OpR.or op_add_str (OpR.or op_cat op_catT)))
  hr := fun F H v w x y q Q S rx ry hd hQ => by
    cases x <;> cases y <;> try exact hd.elim
    · rename_i i k
      exact .inr (.inl ⟨i, k, rx.int_, ry.bl_, hQ F H _ _ (al_id S) (.int _) hd⟩)
    · rename_i i j
      exact .inl ⟨i, j, rx.int_, ry.int_, hQ F H _ _ (al_id S) (.int _) hd⟩
    · rename_i s t
      obtain ⟨e1, a1⟩ := rx.str_
      obtain ⟨e2, a2⟩ := ry.str_
      obtain ⟨hz, hd⟩ : s.length + t.length ≤ sizeLine ∧ q (.str (s ++ t)) := hd
      refine .inr (.inr (.inl ⟨_, _, e1, e2, by rw [mk_len, mk_len]; exact hz, ?_⟩))
      rw [mk_app]
      exact hQ F H _ _ (al_id S) (.str _ (a1.append a2)) hd
    · rename_i xs ys
      obtain ⟨p, vs, e1, h1, r1⟩ := rx.lst_ S
      obtain ⟨p', vs', e2, h2, r2⟩ := ry.lst_ S
      obtain ⟨hz, hd⟩ : xs.length + ys.length ≤ sizeLine ∧ q (.lst (xs ++ ys)) := hd
      refine .inr (.inr (.inr (.inl ⟨p, p', vs, vs', e1, e2, h1, h2, by rw [r1.length, r2.length]; exact hz, fun a ha => ?_⟩)))
      have A := AL.new (o := .lst (vs ++ vs')) S ha
      exact hQ _ _ _ _ A (.lst upd_same ((r1.append r2).mono A.sF)) hd
    · rename_i xs ys
      obtain ⟨p, vs, e1, h0, h1, r1⟩ := rx.tup_ S
      obtain ⟨p', vs', e2, h0', h2, r2⟩ := ry.tup_ S
      obtain ⟨hn, hz, hd⟩ : xs ≠ [] ∧ xs.length + ys.length ≤ sizeLine ∧ q (.tup (xs ++ ys)) := hd
      refine .inr (.inr (.inr (.inr ⟨p, p', vs, vs', e1, e2, h1, h2, fun z => hn ?_, by rw [r1.length, r2.length]; exact hz, fun z => ?_, fun _ a ha => ?_⟩)))
      · subst z
        have := r1.length
        exact List.length_eq_zero_iff.mp this.symm
      · subst z
        have := r2.length
        have e : ys = [] := List.length_eq_zero_iff.mp this.symm
        subst e
        rw [List.append_nil] at hd
        exact hQ F H _ _ (al_id S) (.tup h0 r1) hd
      · have A := AL.new (o := .tup (vs ++ vs')) S ha
        exact hQ _ _ _ _ A (.tup (.inl upd_same) ((r1.append r2).mono A.sF)) hd
/-- two ints to one value -/
def dII (C : Int → Int → Prop) (g : Int → Int → D) : D → D → (D → Prop) → Prop
  | .int i, .int j, q => C i j ∧ q (g i j)
  | _, _, _ => False
def dII0 (g : Int → Int → D) : D → D → (D → Prop) → Prop
  | .int i, .int j, q => q (g i j)
  | _, _, _ => False
def iiR {f : Value → Value → Sem Value} {C : Int → Int → Prop} {g : Int → Int → V} (g' : Int → Int → D) (h : OpR X f (rI C g)) (hg : ∀ F i j, Rp X.K F (g i j) (g' i j)) : D2 X f (dII C g') where
  r := _
  h := h
  hr := fun F H v w x y q Q S rx ry hd hQ => by
    cases x <;> cases y <;> try exact hd.elim
    rename_i i j
    exact ⟨i, j, rx.int_, ry.int_, hd.1, hQ F H _ _ (al_id S) (hg F i j) hd.2⟩
def iiR0 {f : Value → Value → Sem Value} {g : Int → Int → V} (g' : Int → Int → D) (h : OpR X f (rI0 g)) (hg : ∀ F i j, Rp X.K F (g i j) (g' i j)) : D2 X f (dII0 g') where
  r := _
  h := h
  hr := fun F H v w x y q Q S rx ry hd hQ => by
    cases x <;> cases y <;> try exact hd.elim
    rename_i i j
    exact ⟨i, j, rx.int_, ry.int_, hQ F H _ _ (al_id S) (hg F i j) hd⟩
def subR : D2 X (binaryOp .Sub) (dII0 fun i j => .int (i - j)) := iiR0 _ op_sub fun _ _ _ => .int _
def fdivR : D2 X (binaryOp .FloorDiv) (dII CDiv fun i j => .int (i / j)) := iiR _ op_fdiv fun _ _ _ => .int _
def modR : D2 X (binaryOp .Mod) (dII (fun _ j => 0 < j) fun i j => .int (i % j)) := iiR _ op_mod fun _ _ _ => .int _
theorem mk_lenT (cs : List Nat) : (mk cs).length = cs.length := by simp [mk, Str.length]
theorem foldl_repS (xs : List Nat) : ∀ (m : Nat) (acc : List Nat), List.foldl (fun x1 x2 => x1 ++ x2) acc.toArray (List.replicate m xs.toArray) = (acc ++ (List.replicate m xs).flatten).toArray
  | 0, acc => by simp
  | m + 1, acc => by
    rw [List.replicate_succ, List.replicate_succ, List.foldl_cons, List.flatten_cons]
    have := foldl_repS xs m (acc ++ xs)
    rw [← List.append_assoc, ← this]
    simp
theorem op_repS {X : Cx} : OpR X (binaryOp .Mult) (fun x y H Q => ∃ (cs : List Nat) (k : Int), x = .str (mk cs) ∧ y = .int k ∧ 0 ≤ k ∧ k ≤ 1000000 ∧ cs.length * k.toNat ≤ 1000000 ∧ Q (.str (mk (List.replicate k.toNat cs).flatten)) H) := by
  intro pins s σ H x y v u Q I rx ry h
  obtain ⟨cs, k, rfl, rfl, h0, h1, h2, q⟩ := h
  obtain ⟨t1, rfl⟩ := rx
  obtain ⟨t, rfl⟩ := ry
  have e0 : (List.replicate k.toNat (mk cs).cps).foldl (· ++ ·) #[] = ((List.replicate k.toNat cs).flatten).toArray := by
    have := foldl_repS cs k.toNat []
    simpa [mk] using this
  refine P.mul_str ?_ (fun a b c => ?_) (fun a b => ?_) ?_
  · have a1 : ¬ k < -(2 ^ 63 : Int) := by omega
    have a2 : ¬ k ≥ 2 ^ 63 := by omega
    rw [decide_eq_false a1, decide_eq_false a2]; rfl
  · rw [mk_lenT] at c
    have hk : 0 < k := by omega
    have : (2 ^ 63 - 1 : Int) / k ≥ (cs.length : Int) := by
      refine (Int.le_ediv_iff_mul_le hk).mpr ?_
      have e : (cs.length : Int) * k = ((cs.length * k.toNat : Nat) : Int) := by
        rw [Int.natCast_mul, Int.toNat_of_nonneg h0]
      rw [e]; omega
    omega
  · rw [mk_lenT]
    exact decide_eq_false (Nat.not_lt.mpr (Nat.le_trans h2 (by decide)))
  · split
    · rename_i hk
      have : k.toNat = 0 := by omega
      rw [this] at q
      exact ⟨by decide, ⟨.str (mk []), _, I.tok _, ⟨_, rfl⟩, q⟩⟩
    · split
      · rename_i hk hc
        simp only [Bool.or_eq_true, beq_iff_eq] at hc
        rcases hc with hc | hc
        · subst hc
          have : (List.replicate (1 : Int).toNat cs).flatten = cs := by simp
          rw [this] at q
          exact ⟨.str (mk cs), _, I, ⟨_, rfl⟩, q⟩
        · rw [mk_lenT] at hc
          have : cs = [] := List.eq_nil_of_length_eq_zero hc
          subst this
          have e : (List.replicate k.toNat ([] : List Nat)).flatten = [] := by simp
          rw [e] at q
          exact ⟨.str (mk []), _, I, ⟨_, rfl⟩, q⟩
      · refine ⟨?_, ⟨.str (mk (List.replicate k.toNat cs).flatten), _, I.tok _, ⟨_, by rw [e0]⟩, q⟩⟩
        rw [e0]
        have e1 : (List.replicate k.toNat cs).flatten.length = cs.length * k.toNat := by simp [Nat.mul_comm]
        show (List.replicate k.toNat cs).flatten.toArray.size ≤ sizeLine
        rw [List.size_toArray, e1]
        exact Nat.le_trans h2 (by decide)
def dMul : D → D → (D → Prop) → Prop
  | .int i, .int j, q => CMul i j ∧ q (.int (i * j))
  | .str cs, .int k, q => 0 ≤ k ∧ k ≤ 1000000 ∧ cs.length * k.toNat ≤ 1000000 ∧ q (.str (List.replicate k.toNat cs).flatten)
  | .lst xs, .int k, q => -(2 ^ 63) ≤ k ∧ k < 2 ^ 63 ∧ xs.length * k.toNat ≤ sizeLine ∧ q (.lst (List.replicate k.toNat xs).flatten)
  | _, _, _ => False
theorem Asc.rep {cs : List Nat} (h : Asc cs) (n : Nat) : Asc (List.replicate n cs).flatten := fun c hc => by
  obtain ⟨l, hl, hc⟩ := List.mem_flatten.mp hc
  rw [List.eq_of_mem_replicate hl] at hc
  exact h c hc
theorem RpL.rep {K : PySem.W.Frag} {F : Hp} {vs : List V} {xs : List D} (r : RpL K F vs xs) : ∀ n : Nat, RpL K F (List.replicate n vs).flatten (List.replicate n xs).flatten
  | 0 => .nil
  | n + 1 => by
    rw [List.replicate_succ, List.replicate_succ, List.flatten_cons, List.flatten_cons]
    exact r.append (RpL.rep r n)
def mulR : D2 X (binaryOp .Mult) dMul where
  r := _
  h := OpR.or op_mul (OpR.or op_rep op_repS)
  hr := fun F H v w x y q Q S rx ry hd hQ => by
    cases x <;> cases y <;> try exact hd.elim
    · rename_i i j
      exact .inl ⟨i, j, rx.int_, ry.int_, hd.1, hQ F H _ _ (al_id S) (.int _) hd.2⟩
    · rename_i cs k
      obtain ⟨a1, a2, a3, hd⟩ := hd
      obtain ⟨e1, ha⟩ := rx.str_
      exact .inr (.inr ⟨cs, k, e1, ry.int_, a1, a2, a3, hQ F H _ _ (al_id S) (.str _ (ha.rep _)) hd⟩)
    · rename_i xs k
      obtain ⟨p, vs, e1, h1, r1⟩ := rx.lst_ S
      obtain ⟨a1, a2, a3, hd⟩ := hd
      refine .inr (.inl ⟨p, k, vs, e1, ry.int_, h1, a1, a2, by rw [r1.length]; exact a3, fun a ha => ?_⟩)
      have A := AL.new (o := .lst (List.replicate k.toNat vs).flatten) S ha
      exact hQ _ _ _ _ A (.lst upd_same ((RpL.rep r1 _).mono A.sF)) hd
def dNeg : D → (D → Prop) → Prop
  | .int i, q => q (.int (-i))
  | _, _ => False
def negR : D1 X (unaryOp .USub) dNeg where
  r := _
  h := un_neg
  hr := fun F H v x q Q S rx hd hQ => by
    cases x <;> try exact hd.elim
    exact ⟨_, rx.int_, hQ F H _ _ (al_id S) (.int _) hd⟩
end

/-! ### == -/
mutual
def toPy : D → PyData
  | .non => .none
  | .bl b => .bool b
  | .int i => .int i
  | .str cs => .str (mk cs)
  | .lst xs => .list (toPys xs)
  | .ro xs => .list (toPys xs)
  | .tup xs => .tuple (toPys xs)
  | .dic _ => .none
  | .obj _ _ => .none
  | .exc _ _ => .none
  | .nkd _ => .none
def toPys : List D → List PyData
  | [] => []
  | x :: xs => toPy x :: toPys xs
end
mutual
/-- no dicts, no objects in it -/
def cln : D → Bool
  | .non => true
  | .bl _ => true
  | .int _ => true
  | .str _ => true
  | .lst xs => clns xs
  | .ro xs => clns xs
  | .tup xs => clns xs
  | .dic _ => false
  | .obj _ _ => false
  | .exc _ _ => false
  | .nkd _ => false
def clns : List D → Bool
  | [] => true
  | x :: xs => cln x && clns xs
end
mutual
def dep : D → Nat
  | .non => 0
  | .bl _ => 0
  | .int _ => 0
  | .str _ => 0
  | .lst xs => deps xs + 1
  | .ro xs => deps xs + 1
  | .tup xs => deps xs + 1
  | .dic _ => 0
  | .obj _ _ => 0
  | .exc _ _ => 0
  | .nkd _ => 0
def deps : List D → Nat
  | [] => 0
  | x :: xs => max (dep x) (deps xs)
end
mutual
def eqD : D → D → Bool
  | .non, .non => true
  | .bl a, .bl b => a == b
  | .bl a, .int j => (if a then 1 else 0) == j
  | .int i, .bl b => i == (if b then 1 else 0)
  | .int i, .int j => i == j
  | .str x, .str y => x == y
  | .lst xs, .lst ys => eqDs xs ys
  | .lst xs, .ro ys => eqDs xs ys
  | .ro xs, .lst ys => eqDs xs ys
  | .ro xs, .ro ys => eqDs xs ys
  | .tup xs, .tup ys => eqDs xs ys
  | _, _ => false
def eqDs : List D → List D → Bool
  | [], [] => true
  | x :: xs, y :: ys => eqD x y && eqDs xs ys
  | _, _ => false
end
def okD (x : D) : Prop := cln x = true ∧ dep x ≤ 64

mutual
theorem dep_py : ∀ x : D, cln x = true → (toPy x).depth = dep x
  | .non, _ => by simp [toPy, PyData.depth, dep]
  | .bl _, _ => by simp [toPy, PyData.depth, dep]
  | .int _, _ => by simp [toPy, PyData.depth, dep]
  | .str _, _ => by simp [toPy, PyData.depth, dep]
  | .lst xs, h => by simp only [toPy, PyData.depth, dep]; rw [deps_py xs (by simpa [cln] using h)]
  | .ro xs, h => by simp only [toPy, PyData.depth, dep]; rw [deps_py xs (by simpa [cln] using h)]
  | .tup xs, h => by simp only [toPy, PyData.depth, dep]; rw [deps_py xs (by simpa [cln] using h)]
  | .dic _, h => by simp [cln] at h
  | .obj _ _, h => by simp [cln] at h
  | .exc _ _, h => by simp [cln] at h
  | .nkd _, h => by simp [cln] at h
theorem deps_py : ∀ xs : List D, clns xs = true → PyData.depthAll (toPys xs) = deps xs
  | [], _ => by simp [toPys, PyData.depthAll, deps]
  | x :: xs, h => by
    have h' : cln x = true ∧ clns xs = true := by simpa [clns] using h
    simp only [toPys, PyData.depthAll, deps]
    rw [dep_py x h'.1, deps_py xs h'.2]
end
mutual
theorem eq_py : ∀ x y : D, cln x = true → cln y = true → PyData.eqv (toPy x) (toPy y) = eqD x y
  | .dic _, _, h, _ => by simp [cln] at h
  | .obj _ _, _, h, _ => by simp [cln] at h
  | .exc _ _, _, h, _ => by simp [cln] at h
  | .nkd _, _, h, _ => by simp [cln] at h
  | _, .dic _, _, h => by simp [cln] at h
  | _, .obj _ _, _, h => by simp [cln] at h
  | _, .exc _ _, _, h => by simp [cln] at h
  | _, .nkd _, _, h => by simp [cln] at h
  | .non, y, _, _ => by cases y <;> simp [toPy, PyData.eqv, eqD, cln] at *
  | .bl _, y, _, _ => by cases y <;> simp [toPy, PyData.eqv, eqD, cln] at *
  | .int _, y, _, _ => by cases y <;> simp [toPy, PyData.eqv, eqD, cln] at *
  | .str a, .str b, _, _ => by
    simp only [toPy, PyData.eqv, eqD]
    by_cases e : a = b
    · subst e; simp
    · have : ¬ mk a = mk b := fun z => e (mk_inj z)
      rw [beq_eq_false_iff_ne.mpr e, beq_eq_false_iff_ne.mpr this]
  | .str _, .non, _, _ => by simp [toPy, PyData.eqv, eqD]
  | .str _, .bl _, _, _ => by simp [toPy, PyData.eqv, eqD]
  | .str _, .int _, _, _ => by simp [toPy, PyData.eqv, eqD]
  | .str _, .lst _, _, _ => by simp [toPy, PyData.eqv, eqD]
  | .str _, .ro _, _, _ => by simp [toPy, PyData.eqv, eqD]
  | .str _, .tup _, _, _ => by simp [toPy, PyData.eqv, eqD]
  | .lst xs, .lst ys, h, k => by simp only [toPy, PyData.eqv, eqD]; exact eqs_py xs ys (by simpa [cln] using h) (by simpa [cln] using k)
  | .lst xs, .ro ys, h, k => by simp only [toPy, PyData.eqv, eqD]; exact eqs_py xs ys (by simpa [cln] using h) (by simpa [cln] using k)
  | .ro xs, .lst ys, h, k => by simp only [toPy, PyData.eqv, eqD]; exact eqs_py xs ys (by simpa [cln] using h) (by simpa [cln] using k)
  | .ro xs, .ro ys, h, k => by simp only [toPy, PyData.eqv, eqD]; exact eqs_py xs ys (by simpa [cln] using h) (by simpa [cln] using k)
  | .tup xs, .tup ys, h, k => by simp only [toPy, PyData.eqv, eqD]; exact eqs_py xs ys (by simpa [cln] using h) (by simpa [cln] using k)
  | .lst _, .non, _, _ => by simp [toPy, PyData.eqv, eqD]
  | .lst _, .bl _, _, _ => by simp [toPy, PyData.eqv, eqD]
  | .lst _, .int _, _, _ => by simp [toPy, PyData.eqv, eqD]
  | .lst _, .str _, _, _ => by simp [toPy, PyData.eqv, eqD]
  | .lst _, .tup _, _, _ => by simp [toPy, PyData.eqv, eqD]
  | .ro _, .non, _, _ => by simp [toPy, PyData.eqv, eqD]
  | .ro _, .bl _, _, _ => by simp [toPy, PyData.eqv, eqD]
  | .ro _, .int _, _, _ => by simp [toPy, PyData.eqv, eqD]
  | .ro _, .str _, _, _ => by simp [toPy, PyData.eqv, eqD]
  | .ro _, .tup _, _, _ => by simp [toPy, PyData.eqv, eqD]
  | .tup _, .non, _, _ => by simp [toPy, PyData.eqv, eqD]
  | .tup _, .bl _, _, _ => by simp [toPy, PyData.eqv, eqD]
  | .tup _, .int _, _, _ => by simp [toPy, PyData.eqv, eqD]
  | .tup _, .str _, _, _ => by simp [toPy, PyData.eqv, eqD]
  | .tup _, .lst _, _, _ => by simp [toPy, PyData.eqv, eqD]
  | .tup _, .ro _, _, _ => by simp [toPy, PyData.eqv, eqD]
theorem eqs_py : ∀ xs ys : List D, clns xs = true → clns ys = true → PyData.eqvAll (toPys xs) (toPys ys) = eqDs xs ys
  | [], [], _, _ => by simp [toPys, PyData.eqvAll, eqDs]
  | [], _ :: _, _, _ => by simp [toPys, PyData.eqvAll, eqDs]
  | _ :: _, [], _, _ => by simp [toPys, PyData.eqvAll, eqDs]
  | x :: xs, y :: ys, h, k => by
    have h' : cln x = true ∧ clns xs = true := by simpa [clns] using h
    have k' : cln y = true ∧ clns ys = true := by simpa [clns] using k
    simp only [toPys, PyData.eqvAll, eqDs]
    rw [eq_py x y h'.1 k'.1, eqs_py xs ys h'.2 k'.2]
end
theorem strOk_asc {cs : List Nat} (h : Asc cs) : PyData.strOk (mk cs) = true := by
  unfold PyData.strOk
  rw [← Array.all_toList]
  exact List.all_eq_true.mpr fun c hc => decide_eq_true (Nat.lt_trans (h c hc) (by decide))
section
variable {K : PySem.W.Frag} {F H : Hp}
mutual
theorem dp_of : ∀ (x : D) (v : V), Same F H → cln x = true → Rp K F v x → Dp K H v (toPy x) ∧ PyData.canLay0 (toPy x) = true
  | .non, _, _, _, .non => ⟨by simp only [toPy]; exact .non, by simp [toPy, PyData.canLay0]⟩
  | .bl b, _, _, _, .bl _ => ⟨by simp only [toPy]; exact .bl b, by simp [toPy, PyData.canLay0]⟩
  | .int b, _, _, _, .int _ => ⟨by simp only [toPy]; exact .int b, by simp [toPy, PyData.canLay0]⟩
  | .str b, _, _, _, .str _ a => ⟨by simp only [toPy]; exact .str _, by simp only [toPy, PyData.canLay0]; exact strOk_asc a⟩
  | .lst xs, _, S, c, .lst h r => by
    obtain ⟨h1, h2⟩ := dps_of xs _ S (by simpa [cln] using c) r
    exact ⟨by simp only [toPy]; exact .lst (SqL.of (S _ _ h)) h1, by simp only [toPy, PyData.canLay0]; exact h2⟩
  | .ro xs, _, S, c, .ro h r => by
    obtain ⟨h1, h2⟩ := dps_of xs _ S (by simpa [cln] using c) r
    exact ⟨by simp only [toPy]; exact .lst (sqL_mono S h) h1, by simp only [toPy, PyData.canLay0]; exact h2⟩
  | .tup xs, _, S, c, .tup h r => by
    obtain ⟨h1, h2⟩ := dps_of xs _ S (by simpa [cln] using c) r
    exact ⟨by simp only [toPy]; exact .tup (sqT_mono S h.sq) h1, by simp only [toPy, PyData.canLay0]; exact h2⟩
  | .dic _, _, _, c, _ => by simp [cln] at c
  | .obj _ _, _, _, c, _ => by simp [cln] at c
  | .exc _ _, _, _, c, _ => by simp [cln] at c
  | .nkd _, _, _, c, _ => by simp [cln] at c
theorem dps_of : ∀ (xs : List D) (vs : List V), Same F H → clns xs = true → RpL K F vs xs → DpAll K H vs (toPys xs) ∧ PyData.canLayAll0 (toPys xs) = true
  | [], _, _, _, .nil => ⟨by simp only [toPys]; exact .nil, by simp [toPys, PyData.canLayAll0]⟩
  | x :: xs, _, S, c, .cons r t => by
    have c' : cln x = true ∧ clns xs = true := by simpa [clns] using c
    obtain ⟨h1, h2⟩ := dp_of x _ S c'.1 r
    obtain ⟨h3, h4⟩ := dps_of xs _ S c'.2 t
    exact ⟨by simp only [toPys]; exact .cons h1 h3, by simp only [toPys, PyData.canLayAll0, h2, h4, Bool.and_self]⟩
end
theorem RpB.dp {v : V} {x : D} (S : Same F H) (h : RpB K F H v x) (c : okD x) : Dp K H v (toPy x) ∧ SeqAt.shaped (toPy x) = true := by
  have main : ∀ z : Dp K H v (toPy x) ∧ PyData.canLay0 (toPy x) = true, Dp K H v (toPy x) ∧ SeqAt.shaped (toPy x) = true := fun z =>
    ⟨z.1, by unfold SeqAt.shaped; rw [z.2, dep_py x c.1, decide_eq_true c.2]; rfl⟩
  apply main
  rcases h with h | ⟨p, ho, oc, e1, e2, e3, e⟩
  · exact dp_of x v S c.1 h
  · subst e
    cases oc with
    | dic _ => simp [okD, cln] at c
    | ob _ _ => simp [okD, cln] at c
    | lst xs =>
      cases ho with
      | lst vs =>
        subst e1
        obtain ⟨h1, h2⟩ := dps_of xs vs S (by simpa [cln] using c.1) e3
        exact ⟨by simp only [toPy]; exact .lst (SqL.of e2) h1, by simp only [toPy, PyData.canLay0]; exact h2⟩
      | _ => exact e3.elim
end
def dEq : D → D → (D → Prop) → Prop := fun x y q => okD x ∧ okD y ∧ q (.bl (eqD x y))
def dNe : D → D → (D → Prop) → Prop := fun x y q => okD x ∧ okD y ∧ q (.bl (!eqD x y))
section
variable {X : Cx}
def eqR (hu : X.A.units + 64 < cLine) : D2 X (compareOp .Eq) dEq where
  r := _
  h := op_eqD hu
  hr := fun F H v w x y q Q S rx ry hd hQ => by
    obtain ⟨c1, c2, hd⟩ := hd
    obtain ⟨h1, h2⟩ := rx.dp S c1
    obtain ⟨h3, h4⟩ := ry.dp S c2
    refine ⟨_, _, h1, h3, h2, h4, ?_⟩
    rw [eq_py x y c1.1 c2.1]
    exact hQ F H _ _ (al_id S) (.bl _) hd
def neR (hu : X.A.units + 64 < cLine) : D2 X (compareOp .NotEq) dNe where
  r := _
  h := op_neD hu
  hr := fun F H v w x y q Q S rx ry hd hQ => by
    obtain ⟨c1, c2, hd⟩ := hd
    obtain ⟨h1, h2⟩ := rx.dp S c1
    obtain ⟨h3, h4⟩ := ry.dp S c2
    refine ⟨_, _, h1, h3, h2, h4, ?_⟩
    rw [eq_py x y c1.1 c2.1]
    exact hQ F H _ _ (al_id S) (.bl _) hd

/-! ### order -/
/-- two ints, or two texts by their signs -/
def dOrd (p : Int → Int → Bool) (s : List Nat → List Nat → Bool) : D → D → (D → Prop) → Prop
  | .int i, .int j, q => q (.bl (p i j))
  | .str a, .str b, q => q (.bl (s a b))
  | _, _, _ => False
def ordR {op : CmpOp} {p : Int → Int → Bool} {s : List Nat → List Nat → Bool} (h1 : OpR X (compareOp op) (rI0 fun i j => .bl (p i j)))
    (h2 : OpR X (compareOp op) (fun x y H Q => ∃ i j, x = .str i ∧ y = .str j ∧ Q (.bl (s (tl i) (tl j))) H)) : D2 X (compareOp op) (dOrd p s) where
  r := _
  h := OpR.or h1 h2
  hr := fun F H v w x y q Q S rx ry hd hQ => by
    cases x <;> cases y <;> try exact hd.elim
    · rename_i i j
      exact .inl ⟨i, j, rx.int_, ry.int_, hQ F H _ _ (al_id S) (.bl _) hd⟩
    · rename_i a b
      exact .inr ⟨_, _, rx.str_.1, ry.str_.1, hQ F H _ _ (al_id S) (.bl _) hd⟩
def ltR : D2 X (compareOp .Lt) (dOrd (fun i j => decide (i < j)) fun a b => decide (a < b)) := ordR op_lt op_lt_str
def leR : D2 X (compareOp .LtE) (dOrd (fun i j => decide (i ≤ j)) fun a b => !decide (b < a)) := ordR op_le op_le_str
def gtR : D2 X (compareOp .Gt) (dOrd (fun i j => decide (j < i)) fun a b => decide (b < a)) := ordR op_gt op_gt_str
def geR : D2 X (compareOp .GtE) (dOrd (fun i j => decide (j ≤ i)) fun a b => !decide (a < b)) := ordR op_ge op_ge_str

/-! ### is None -/
def isN : D → Bool
  | .non => true
  | _ => false
theorem RpB.isN {K : PySem.W.Frag} {F H : Hp} {v : V} {x : D} (h : RpB K F H v x) : decide (v = .non) = isN x := by
  rcases h with h | ⟨p, ho, c, e, _, _, e'⟩
  · cases h <;> rfl
  · subst e e'
    cases c <;> rfl
def dIsN : D → D → (D → Prop) → Prop
  | x, .non, q => q (.bl (isN x))
  | _, _, _ => False
def dNotN : D → D → (D → Prop) → Prop
  | x, .non, q => q (.bl (!isN x))
  | _, _, _ => False
def isR : D2 X (compareOp .Is) dIsN where
  r := _
  h := op_isN
  hr := fun F H v w x y q Q S rx ry hd hQ => by
    cases y <;> try exact hd.elim
    refine ⟨ry.non_, ?_⟩
    rw [rx.isN]
    exact hQ F H _ _ (al_id S) (.bl _) hd
def isnR : D2 X (compareOp .IsNot) dNotN where
  r := _
  h := op_notN
  hr := fun F H v w x y q Q S rx ry hd hQ => by
    cases y <;> try exact hd.elim
    refine ⟨ry.non_, ?_⟩
    rw [rx.isN]
    exact hQ F H _ _ (al_id S) (.bl _) hd

/-! ### in -/
def memD (x : D) (ys : List D) : Bool := ys.any fun y => eqD y x
/-- flat: none, a truth, an int, a text -/
def flt1 : D → Bool
  | .non => true
  | .bl _ => true
  | .int _ => true
  | .str _ => true
  | _ => false
theorem flat_of {K : PySem.W.Frag} {F H : Hp} {v : V} {x : D} (h : RpB K F H v x) (f : flt1 x = true) : flatV v = true := by
  rcases h with h | ⟨p, ho, c, e, _, _, e'⟩
  · cases h <;> first | rfl | cases f
  · subst e'
    cases c <;> cases f
theorem eqV_of {K : PySem.W.Frag} {F H : Hp} {v w : V} {x y : D} (h : RpB K F H v x) (k : RpB K F H w y) (f : flt1 x = true) (g : flt1 y = true) : eqV v w = eqD x y := by
  cases x <;> first | cases f | skip
  all_goals cases y <;> first | cases g | skip
  all_goals first | (rw [h.non_]) | (rw [h.bl_]) | (rw [h.int_]) | (rw [h.str_.1])
  all_goals first | (rw [k.non_]) | (rw [k.bl_]) | (rw [k.int_]) | (rw [k.str_.1])
  all_goals simp only [eqV, eqD]
  rename_i a b
  by_cases e : a = b
  · subst e; simp
  · rw [beq_eq_false_iff_ne.mpr e, beq_eq_false_iff_ne.mpr fun z => e (mk_inj z)]
theorem inV_of {K : PySem.W.Frag} {F H : Hp} {v : V} {x : D} (h : RpB K F H v x) (f : flt1 x = true) : ∀ {vs : List V} {xs : List D}, RpL K F vs xs → xs.all flt1 = true → inV v vs = memD x xs ∧ vs.all flatV = true
  | _, _, .nil, _ => ⟨rfl, rfl⟩
  | _, _, .cons r t, g => by
    have g' := Bool.and_eq_true_iff.mp (show (_ && _) = true from g)
    obtain ⟨h1, h2⟩ := inV_of h f t g'.2
    have e := eqV_of (H := H) (.inl r) h g'.1 f
    constructor
    · unfold inV memD at *
      rw [List.any_cons, List.any_cons, h1, e]
    · rw [List.all_cons, h2, flat_of (H := H) (.inl r) g'.1]
      rfl
def dInS (x : D) (cs : List Nat) (k : Bool → Prop) : Prop := match x with
  | .str [c] => k (decide (c ∈ cs))
  | _ => False
def dIn (neg : Bool) (x y : D) (q : D → Prop) : Prop := match y with
  | .str cs => dInS x cs fun b => q (.bl (if neg then !b else b))
  | .lst xs => flt1 x = true ∧ xs.all flt1 = true ∧ q (.bl (if neg then !memD x xs else memD x xs))
  | .tup xs => flt1 x = true ∧ xs.all flt1 = true ∧ q (.bl (if neg then !memD x xs else memD x xs))
  | _ => False
theorem dInS_ {x : D} {cs : List Nat} {k : Bool → Prop} (h : dInS x cs k) : ∃ c, x = .str [c] ∧ k (decide (c ∈ cs)) := by
  unfold dInS at h
  split at h
  · exact ⟨_, rfl, h⟩
  · exact h.elim
def inR : D2 X (compareOp .In) (dIn false) where
  r := _
  h := OpR.or op_in_sign op_in_seq
  hr := fun F H v w x y q Q S rx ry hd hQ => by
    cases y with
    | str cs =>
      obtain ⟨c, e, hd⟩ := dInS_ (show dInS x cs fun b => q (.bl b) from hd)
      subst e
      refine .inl ⟨c, _, rx.str_.1, ry.str_.1, ?_⟩
      exact hQ F H _ _ (al_id S) (.bl _) hd
    | lst xs =>
      obtain ⟨h1, h2, hd⟩ := hd
      obtain ⟨p, vs, e, hp, r⟩ := ry.lst_ S
      obtain ⟨e1, e2⟩ := inV_of rx h1 r h2
      refine .inr ⟨p, vs, e, .inl (SqL.of hp), flat_of rx h1, e2, ?_⟩
      rw [if_neg (by decide), e1]
      exact hQ F H _ _ (al_id S) (.bl _) hd
    | tup xs =>
      obtain ⟨h1, h2, hd⟩ := hd
      obtain ⟨p, vs, e, _, hp, r⟩ := ry.tup_ S
      obtain ⟨e1, e2⟩ := inV_of rx h1 r h2
      refine .inr ⟨p, vs, e, .inr hp, flat_of rx h1, e2, ?_⟩
      rw [if_neg (by decide), e1]
      exact hQ F H _ _ (al_id S) (.bl _) hd
    | _ => exact hd.elim
def ninR : D2 X (compareOp .NotIn) (dIn true) where
  r := _
  h := OpR.or op_notIn_sign op_notIn_seq
  hr := fun F H v w x y q Q S rx ry hd hQ => by
    cases y with
    | str cs =>
      obtain ⟨c, e, hd⟩ := dInS_ (show dInS x cs fun b => q (.bl (!b)) from hd)
      subst e
      refine .inl ⟨c, _, rx.str_.1, ry.str_.1, ?_⟩
      exact hQ F H _ _ (al_id S) (.bl _) hd
    | lst xs =>
      obtain ⟨h1, h2, hd⟩ := hd
      obtain ⟨p, vs, e, hp, r⟩ := ry.lst_ S
      obtain ⟨e1, e2⟩ := inV_of rx h1 r h2
      refine .inr ⟨p, vs, e, .inl (SqL.of hp), flat_of rx h1, e2, ?_⟩
      rw [if_pos rfl, e1]
      exact hQ F H _ _ (al_id S) (.bl _) hd
    | tup xs =>
      obtain ⟨h1, h2, hd⟩ := hd
      obtain ⟨p, vs, e, _, hp, r⟩ := ry.tup_ S
      obtain ⟨e1, e2⟩ := inV_of rx h1 r h2
      refine .inr ⟨p, vs, e, .inr hp, flat_of rx h1, e2, ?_⟩
      rw [if_pos rfl, e1]
      exact hQ F H _ _ (al_id S) (.bl _) hd
    | _ => exact hd.elim
end
end Zd
namespace Zd
open PySem PySem.Spec L2 TL

/-! ### truth -/
def dTru (x : D) (k : Bool → Prop) : Prop := match x with
  | .non => k false
  | .bl b => k b
  | .int i => k (i != 0)
  | .str cs => cs.length ≤ sizeLine ∧ k (!cs.isEmpty)
  | .lst xs => k (!xs.isEmpty)
  | .ro xs => k (!xs.isEmpty)
  | .tup xs => k (!xs.isEmpty)
  | .dic ds => k (!ds.isEmpty)
  | .obj _ _ => False
  | .exc _ _ => False
  | .nkd _ => False
theorem RpL.empty {K : PySem.W.Frag} {F : Hp} {vs : List V} {xs : List D} (r : RpL K F vs xs) : vs.isEmpty = xs.isEmpty := by cases r <;> rfl
theorem RpD.empty {K : PySem.W.Frag} {F : Hp} {vs : List (Key × V)} {xs : List (KD × D)} (r : RpD K F vs xs) : vs.isEmpty = xs.isEmpty := by cases r <;> rfl
theorem len_bne (cs : List Nat) : (((mk cs).length : Int) != 0) = !cs.isEmpty := by
  rw [mk_len]
  cases cs with
  | nil => rfl
  | cons c r =>
    have : ((r.length + 1 : Nat) : Int) ≠ 0 := by omega
    simp
    omega
theorem tru_of {K : PySem.W.Frag} {F H : Hp} {v : V} {x : D} {k : Bool → Prop} (S : Same F H) (h : RpB K F H v x) (hk : dTru x k) : ∃ b, TruV K v H b ∧ k b := by
  cases x with
  | non => rw [h.non_]; exact ⟨_, rfl, hk⟩
  | bl b => rw [h.bl_]; exact ⟨_, rfl, hk⟩
  | int i => rw [h.int_]; exact ⟨_, rfl, hk⟩
  | str cs =>
    rw [h.str_.1]
    exact ⟨!cs.isEmpty, ⟨by rw [mk_len]; exact hk.1, (len_bne cs).symm⟩, hk.2⟩
  | lst xs =>
    obtain ⟨p, vs, e, hp, r⟩ := h.lst_ S
    subst e
    exact ⟨_, .inl ⟨vs, SqL.of hp, by rw [r.empty]⟩, hk⟩
  | ro xs =>
    obtain ⟨p, vs, e, hp, r⟩ := h.ro_ S
    subst e
    exact ⟨_, .inl ⟨vs, hp, by rw [r.empty]⟩, hk⟩
  | tup xs =>
    obtain ⟨p, vs, e, _, hp, r⟩ := h.tup_ S
    subst e
    exact ⟨_, .inr (.inl ⟨vs, hp, by rw [r.empty]⟩), hk⟩
  | dic ds =>
    obtain ⟨p, vs, e, hp, r⟩ := h.dic_ S
    subst e
    exact ⟨_, .inr (.inr ⟨vs, hp, by rw [r.empty]⟩), hk⟩
  | obj _ _ => exact hk.elim
  | exc _ _ => exact hk.elim
  | nkd _ => exact hk.elim
section
variable {X : Cx} {W : WX} {a b c : Expr} {ta tb tc : TD} {A B : TB} {pos : Pos}
def bTru (t : TD) : TB := fun ε q xq => t ε (fun x ε1 => dTru (x.get ε1) fun b => q b ε1) xq
theorem dt_tru (ha : DE X W a ta) (he : ∀ whole, isTrue a X.env whole = (do let v ← whole; standAt a.pos; holding [v] (truthy v)) := by intro _; rfl) : DT X W a (bTru ta) := by
  refine ⟨PT.conv (pt_truth ha.pe he) fun σ H Q h => ?_⟩
  obtain ⟨G, F, ε, q, xq, I, ht, hq, hx⟩ := h
  refine ⟨G, F, ε, _, xq, I, ht, fun F1 H1 v o ε1 s1 k1 I1 r1 h1 => ?_, hx⟩
  obtain ⟨b, hb, hk⟩ := tru_of I1.sF (r1.b I1) h1
  exact ⟨b, hb, hq F1 H1 b ε1 s1 k1 I1 hk⟩
def kB (k : Bool → Prop) (z : D) : Prop := match z with
  | .bl b => k b
  | _ => False
def bCmp (dop : D → D → (D → Prop) → Prop) (ta tb : TD) : TB := fun ε q xq => ta ε (fun x ε1 => tb ε1 (fun y ε2 => dop (x.get ε2) (y.get ε2) (kB fun b => q b ε2)) xq) xq
theorem Rp.kB_ {K : PySem.W.Frag} {F : Hp} {z : V} {d : D} {k : Bool → Prop} (r : Rp K F z d) (h : kB k d) : ∃ b, z = .bl b ∧ k b := by
  cases d <;> try exact h.elim
  cases r
  exact ⟨_, rfl, h⟩
theorem dt_cmp {op : CmpOp} {dop : D → D → (D → Prop) → Prop} (ho : D2 X (compareOp op) dop) (ha : DE X W a ta) (hb : DE X W b tb) (hm : behindInMarks op b = false := by rfl) : DT X W (.Compare a [op] [b] pos) (bCmp dop ta tb) := by
  refine ⟨PT.conv (pt_cmpR ho.h ha.pe hb.pe hm) fun σ H Q h => ?_⟩
  obtain ⟨G, F, ε, q, xq, I, ht, hq, hx⟩ := h
  refine ⟨G, F, ε, _, xq, I, ht, fun F1 H1 v o ε1 s1 k1 I1 r1 h1 => ?_, hx⟩
  refine ⟨G, F1, ε1, _, xq, I1, h1, fun F2 H2 w o' ε2 s2 k2 I2 r2 h2 => ?_, hx.mono s1⟩
  refine ho.hr F2 H2 v w _ _ _ _ I2.sF ((r1.mono s2 k2).b I2) (r2.b I2) h2 fun F3 H3 z d al rz hz => ?_
  obtain ⟨b, e, hb⟩ := rz.kB_ hz
  exact ⟨b, e, hq F3 H3 b ε2 ((s1.trans s2).trans al.sF) (k1.trans k2) (I2.al al) hb⟩
def bNot (A : TB) : TB := fun ε q xq => A ε (fun b ε1 => q (!b) ε1) xq
theorem dt_not (ha : DT X W a A) : DT X W (.UnaryOp .Not a pos) (bNot A) := by
  refine ⟨PT.conv (pt_not ha.pt) fun σ H Q h => ?_⟩
  obtain ⟨G, F, ε, q, xq, I, ht, hq, hx⟩ := h
  exact ⟨G, F, ε, _, xq, I, ht, fun F1 H1 b ε1 s1 k1 I1 h1 => hq F1 H1 _ ε1 s1 k1 I1 h1, hx⟩
def bAnd (A B : TB) : TB := fun ε q xq => A ε (fun b ε1 => if b = true then B ε1 q xq else q false ε1) xq
def bOr (A B : TB) : TB := fun ε q xq => A ε (fun b ε1 => if b = true then q true ε1 else B ε1 q xq) xq
theorem dw_and1 (ha : DT X W a A) : DW X W (.BoolOp .And [a] pos) A := ⟨pw_and1 ha.pt⟩
theorem dw_or1 (ha : DT X W a A) : DW X W (.BoolOp .Or [a] pos) A := ⟨pw_or1 ha.pt⟩
theorem dw_and {rest : List Expr} (ha : DT X W a A) (hb : DW X W (.BoolOp .And (b :: rest) pos) B) : DW X W (.BoolOp .And (a :: b :: rest) pos) (bAnd A B) := by
  refine ⟨PW.conv (pw_and ha.pt hb.pw) fun σ H Q h => ?_⟩
  obtain ⟨G, F, ε, q, xq, I, ht, hq, hx⟩ := h
  refine ⟨G, F, ε, _, xq, I, ht, fun F1 H1 c ε1 s1 k1 I1 h1 => ?_, hx⟩
  cases c with
  | true => exact ⟨G, F1, ε1, q, xq, I1, h1, fun F2 H2 d ε2 s2 k2 I2 h2 => hq F2 H2 d ε2 (s1.trans s2) (k1.trans k2) I2 h2, hx.mono s1⟩
  | false => exact hq F1 H1 false ε1 s1 k1 I1 h1
theorem dw_or {rest : List Expr} (ha : DT X W a A) (hb : DW X W (.BoolOp .Or (b :: rest) pos) B) : DW X W (.BoolOp .Or (a :: b :: rest) pos) (bOr A B) := by
  refine ⟨PW.conv (pw_or ha.pt hb.pw) fun σ H Q h => ?_⟩
  obtain ⟨G, F, ε, q, xq, I, ht, hq, hx⟩ := h
  refine ⟨G, F, ε, _, xq, I, ht, fun F1 H1 c ε1 s1 k1 I1 h1 => ?_, hx⟩
  cases c with
  | true => exact hq F1 H1 true ε1 s1 k1 I1 h1
  | false => exact ⟨G, F1, ε1, q, xq, I1, h1, fun F2 H2 d ε2 s2 k2 I2 h2 => hq F2 H2 d ε2 (s1.trans s2) (k1.trans k2) I2 h2, hx.mono s1⟩
theorem dt_w (h : DW X W a A) : DT X W a A := ⟨h.pw.pt⟩
/-- and, or as values -/
def dAndV (ta tb : TD) : TD := fun ε q xq => ta ε (fun x ε1 => dTru (x.get ε1) fun b => if b = true then tb ε1 q xq else q x ε1) xq
def dOrV (ta tb : TD) : TD := fun ε q xq => ta ε (fun x ε1 => dTru (x.get ε1) fun b => if b = true then q x ε1 else tb ε1 q xq) xq
def dNotV (ta : TD) : TD := fun ε q xq => ta ε (fun x ε1 => dTru (x.get ε1) fun b => q (.d (.bl (!b))) ε1) xq
theorem de_one {op} (h : DE X W a ta) : DE X W (.BoolOp op [a] pos) ta := ⟨pe_one h.pe⟩
theorem de_and {rest : List Expr} (ha : DE X W a ta) (hb : DE X W (.BoolOp .And (b :: rest) pos) tb) : DE X W (.BoolOp .And (a :: b :: rest) pos) (dAndV ta tb) := by
  refine ⟨PE.conv (pe_andT ha.pe hb.pe) fun σ H Q h => ?_⟩
  obtain ⟨G, F, ε, q, xq, I, ht, hq, hx⟩ := h
  refine ⟨G, F, ε, _, xq, I, ht, fun F1 H1 v o ε1 s1 k1 I1 r1 h1 => ?_, hx⟩
  obtain ⟨c, hb, hk⟩ := tru_of I1.sF (r1.b I1) h1
  refine ⟨c, hb, ?_⟩
  cases c with
  | true => exact ⟨G, F1, ε1, q, xq, I1, hk, fun F2 H2 v' o' ε2 s2 k2 I2 r2 h2 => hq F2 H2 v' o' ε2 (s1.trans s2) (k1.trans k2) I2 r2 h2, hx.mono s1⟩
  | false => exact hq F1 H1 v o ε1 s1 k1 I1 r1 hk
theorem de_or {rest : List Expr} (ha : DE X W a ta) (hb : DE X W (.BoolOp .Or (b :: rest) pos) tb) : DE X W (.BoolOp .Or (a :: b :: rest) pos) (dOrV ta tb) := by
  refine ⟨PE.conv (pe_orT ha.pe hb.pe) fun σ H Q h => ?_⟩
  obtain ⟨G, F, ε, q, xq, I, ht, hq, hx⟩ := h
  refine ⟨G, F, ε, _, xq, I, ht, fun F1 H1 v o ε1 s1 k1 I1 r1 h1 => ?_, hx⟩
  obtain ⟨c, hb, hk⟩ := tru_of I1.sF (r1.b I1) h1
  refine ⟨c, hb, ?_⟩
  cases c with
  | true => exact hq F1 H1 v o ε1 s1 k1 I1 r1 hk
  | false => exact ⟨G, F1, ε1, q, xq, I1, hk, fun F2 H2 v' o' ε2 s2 k2 I2 r2 h2 => hq F2 H2 v' o' ε2 (s1.trans s2) (k1.trans k2) I2 r2 h2, hx.mono s1⟩
theorem de_not (ha : DE X W a ta) : DE X W (.UnaryOp .Not a pos) (dNotV ta) := by
  refine ⟨PE.conv (pe_notT ha.pe) fun σ H Q h => ?_⟩
  obtain ⟨G, F, ε, q, xq, I, ht, hq, hx⟩ := h
  refine ⟨G, F, ε, _, xq, I, ht, fun F1 H1 v o ε1 s1 k1 I1 r1 h1 => ?_, hx⟩
  obtain ⟨c, hb, hk⟩ := tru_of I1.sF (r1.b I1) h1
  exact ⟨c, hb, hq F1 H1 _ (.d (.bl (!c))) ε1 s1 k1 I1 (Rp.bl _) hk⟩
def dIf (A : TB) (ta tb : TD) : TD := fun ε q xq => A ε (fun b ε1 => if b = true then ta ε1 q xq else tb ε1 q xq) xq
theorem de_if (hc : DT X W c A) (ha : DE X W a ta) (hb : DE X W b tb) : DE X W (.IfExp c a b pos) (dIf A ta tb) := by
  refine ⟨PE.conv (pe_ifExp hc.pt ha.pe hb.pe) fun σ H Q h => ?_⟩
  obtain ⟨G, F, ε, q, xq, I, ht, hq, hx⟩ := h
  refine ⟨G, F, ε, _, xq, I, ht, fun F1 H1 c ε1 s1 k1 I1 h1 => ?_, hx⟩
  cases c with
  | true => exact ⟨G, F1, ε1, q, xq, I1, h1, fun F2 H2 v' o' ε2 s2 k2 I2 r2 h2 => hq F2 H2 v' o' ε2 (s1.trans s2) (k1.trans k2) I2 r2 h2, hx.mono s1⟩
  | false => exact ⟨G, F1, ε1, q, xq, I1, h1, fun F2 H2 v' o' ε2 s2 k2 I2 r2 h2 => hq F2 H2 v' o' ε2 (s1.trans s2) (k1.trans k2) I2 r2 h2, hx.mono s1⟩
/-- a op1 b op2 c -/
def dChain (d1 d2 : D → D → (D → Prop) → Prop) (ta tb tc : TD) : TD := fun ε q xq => ta ε (fun x ε1 => tb ε1 (fun y ε2 => d1 (x.get ε2) (y.get ε2) (kB fun b =>
  if b = true then tc ε2 (fun z ε3 => d2 (y.get ε3) (z.get ε3) fun w => q (.d w) ε3) xq else q (.d (.bl false)) ε2)) xq) xq
def bChain (d1 d2 : D → D → (D → Prop) → Prop) (ta tb tc : TD) : TB := fun ε q xq => ta ε (fun x ε1 => tb ε1 (fun y ε2 => d1 (x.get ε2) (y.get ε2) (kB fun b =>
  if b = true then tc ε2 (fun z ε3 => d2 (y.get ε3) (z.get ε3) (kB fun w => q w ε3)) xq else q false ε2)) xq) xq
theorem de_chain {op op' : CmpOp} {d1 d2 : D → D → (D → Prop) → Prop} (h1 : D2 X (compareOp op) d1) (h2 : D2 X (compareOp op') d2) (ha : DE X W a ta) (hb : DE X W b tb) (hc : DE X W c tc)
    (hm : lastMarks [op, op'] [b, c] = false := by with_unfolding_all rfl) : DE X W (.Compare a [op, op'] [b, c] pos) (dChain d1 d2 ta tb tc) := by
  refine ⟨PE.conv (pe_chain h1.h h2.h ha.pe hb.pe hc.pe hm) fun σ H Q h => ?_⟩
  obtain ⟨G, F, ε, q, xq, I, ht, hq, hx⟩ := h
  refine ⟨G, F, ε, _, xq, I, ht, fun F1 H1 v o ε1 s1 k1 I1 r1 g1 => ?_, hx⟩
  refine ⟨G, F1, ε1, _, xq, I1, g1, fun F2 H2 w o' ε2 s2 k2 I2 r2 g2 => ?_, hx.mono s1⟩
  refine h1.hr F2 H2 v w _ _ _ _ I2.sF ((r1.mono s2 k2).b I2) (r2.b I2) g2 fun F3 H3 z d al rz hz => ?_
  obtain ⟨k, e, hk⟩ := rz.kB_ hz
  refine ⟨k, e, ?_⟩
  have I3 := I2.al al
  cases k with
  | false => exact hq F3 H3 _ (.d (.bl false)) ε2 ((s1.trans s2).trans al.sF) (k1.trans k2) I3 (.bl _) hk
  | true =>
    refine ⟨G, F3, ε2, _, xq, I3, hk, fun F4 H4 u o'' ε3 s4 k4 I4 r4 g4 => ?_, hx.mono ((s1.trans s2).trans al.sF)⟩
    refine h2.hr F4 H4 w u _ _ _ _ I4.sF (((r2.mono al.sF (Kd.refl _)).mono s4 k4).b I4) (r4.b I4) g4 fun F5 H5 z' d' al' rz' hz' => ?_
    exact hq F5 H5 _ (.d d') ε3 ((((s1.trans s2).trans al.sF).trans s4).trans al'.sF) ((k1.trans k2).trans k4) (I4.al al') rz' hz'
theorem dt_chain {op op' : CmpOp} {d1 d2 : D → D → (D → Prop) → Prop} (h1 : D2 X (compareOp op) d1) (h2 : D2 X (compareOp op') d2) (ha : DE X W a ta) (hb : DE X W b tb) (hc : DE X W c tc)
    (hm : lastMarks [op, op'] [b, c] = false := by with_unfolding_all rfl) : DT X W (.Compare a [op, op'] [b, c] pos) (bChain d1 d2 ta tb tc) := by
  refine ⟨PT.conv (pt_chain h1.h h2.h ha.pe hb.pe hc.pe hm) fun σ H Q h => ?_⟩
  obtain ⟨G, F, ε, q, xq, I, ht, hq, hx⟩ := h
  refine ⟨G, F, ε, _, xq, I, ht, fun F1 H1 v o ε1 s1 k1 I1 r1 g1 => ?_, hx⟩
  refine ⟨G, F1, ε1, _, xq, I1, g1, fun F2 H2 w o' ε2 s2 k2 I2 r2 g2 => ?_, hx.mono s1⟩
  refine h1.hr F2 H2 v w _ _ _ _ I2.sF ((r1.mono s2 k2).b I2) (r2.b I2) g2 fun F3 H3 z d al rz hz => ?_
  obtain ⟨k, e, hk⟩ := rz.kB_ hz
  refine ⟨k, e, ?_⟩
  have I3 := I2.al al
  cases k with
  | false => exact ⟨false, rfl, hq F3 H3 false ε2 ((s1.trans s2).trans al.sF) (k1.trans k2) I3 hk⟩
  | true =>
    refine ⟨G, F3, ε2, _, xq, I3, hk, fun F4 H4 u o'' ε3 s4 k4 I4 r4 g4 => ?_, hx.mono ((s1.trans s2).trans al.sF)⟩
    refine h2.hr F4 H4 w u _ _ _ _ I4.sF (((r2.mono al.sF (Kd.refl _)).mono s4 k4).b I4) (r4.b I4) g4 fun F5 H5 z' d' al' rz' hz' => ?_
    obtain ⟨b, e, hb⟩ := rz'.kB_ hz'
    exact ⟨b, e, hq F5 H5 b ε3 ((((s1.trans s2).trans al.sF).trans s4).trans al'.sF) ((k1.trans k2).trans k4) (I4.al al') hb⟩

/-! ### items, slices -/
def ixd (o : Option D) (q : D → Prop) : Prop := match o with
  | some x => q x
  | none => False
def dIx (x y : D) (q : D → Prop) : Prop := match x, y with
  | .lst xs, .int i => ixd (atI xs i) q
  | .ro xs, .int i => ixd (atI xs i) q
  | .tup xs, .int i => ixd (atI xs i) q
  | .str cs, .int i => cs.length ≤ sizeLine ∧ ixd ((atI cs i).map fun c => .str [c]) q
  | _, _ => False
theorem ixd_ {o : Option D} {q : D → Prop} (h : ixd o q) : ∃ x, o = some x ∧ q x := by
  cases o with
  | none => exact h.elim
  | some x => exact ⟨x, rfl, h⟩
theorem RpL.at {K : PySem.W.Frag} {F : Hp} {vs : List V} {xs : List D} {i : Int} {x : D} (r : RpL K F vs xs) (h : atI xs i = some x) : ∃ v, atI vs i = some v ∧ Rp K F v x := by
  unfold atI at *
  rw [r.length]
  cases e : ixN xs.length i with
  | none => rw [e] at h; cases h
  | some j =>
    rw [e] at h
    exact r.get' h
theorem at_mem {cs : List Nat} {i : Int} {c : Nat} (h : atI cs i = some c) : c ∈ cs := by
  unfold atI at h
  cases e : ixN cs.length i with
  | none => rw [e] at h; cases h
  | some j =>
    rw [e] at h
    exact List.mem_of_getElem? (show cs[j]? = some c from h)
theorem de_ix (ha : DE X W a ta) (hb : DE X W b tb) (hs : PlainIx b := by exact fun _ _ => rfl) : DE X W (.Subscript a b pos) (dBin dIx ta tb) := by
  refine ⟨PE.conv (pe_ix ix_seq ha.pe hb.pe hs) (conv2 ?_)⟩
  intro F H v w x y q Q S rx ry hd hQ
  cases y with
  | int i =>
    cases x with
    | lst xs =>
      obtain ⟨p, vs, e, hp, r⟩ := rx.lst_ S
      obtain ⟨d, e2, hd⟩ := ixd_ hd
      obtain ⟨u, e3, ru⟩ := r.at e2
      exact .inl ⟨p, vs, i, u, e, ry.int_, SqL.of hp, e3, hQ F H _ _ (al_id S) ru hd⟩
    | ro xs =>
      obtain ⟨p, vs, e, hp, r⟩ := rx.ro_ S
      obtain ⟨d, e2, hd⟩ := ixd_ hd
      obtain ⟨u, e3, ru⟩ := r.at e2
      exact .inl ⟨p, vs, i, u, e, ry.int_, hp, e3, hQ F H _ _ (al_id S) ru hd⟩
    | tup xs =>
      obtain ⟨p, vs, e, _, hp, r⟩ := rx.tup_ S
      obtain ⟨d, e2, hd⟩ := ixd_ hd
      obtain ⟨u, e3, ru⟩ := r.at e2
      exact .inr (.inl ⟨p, vs, i, u, e, ry.int_, hp, e3, hQ F H _ _ (al_id S) ru hd⟩)
    | str cs =>
      obtain ⟨hz, hd⟩ := hd
      obtain ⟨d, e2, hd⟩ := ixd_ hd
      cases e4 : atI cs i with
      | none => rw [e4] at e2; cases e2
      | some c =>
        rw [e4] at e2
        cases e2
        obtain ⟨e1, a1⟩ := rx.str_
        exact .inr (.inr ⟨_, i, c, e1, ry.int_, by rw [mk_len]; exact hz, e4, hQ F H _ _ (al_id S) (.str [c] fun k hk => by
          rw [List.mem_singleton.mp hk]; exact a1 c (at_mem e4)) hd⟩)
    | _ => exact hd.elim
  | _ => cases x <;> exact hd.elim
abbrev TOd := Env → (Option Int → Env → Prop) → XQ → Prop
structure DO (X : Cx) (W : WX) (e : Option Expr) (t : TOd) : Prop where
  po : PO X e (fun σ H Q => ∃ G F ε q xq, Iv X.K G F H σ ε ∧ t ε q xq ∧ (∀ F' H' o ε', Same F F' → Kd ε ε' → Iv X.K G F' H' σ ε' → q o ε' → Q o H') ∧ XE1 X.K W G F σ xq)
theorem PO.conv {e : Option Expr} {t t' : TO} (h : PO X e t) (c : ∀ σ H Q, t' σ H Q → t σ H Q) : PO X e t' := ⟨fun pins s σ H Q I q => h.run pins s σ H Q I (c σ H Q q)⟩
def oNone : TOd := fun ε q _ => q none ε
def kI (k : Int → Prop) (z : D) : Prop := match z with
  | .int i => k i
  | _ => False
def oSome (t : TD) : TOd := fun ε q xq => t ε (fun x ε1 => kI (fun i => q (some i) ε1) (x.get ε1)) xq
theorem do_none : DO X W none oNone := by
  refine ⟨PO.conv po_none fun σ H Q h => ?_⟩
  obtain ⟨G, F, ε, q, xq, I, ht, hq, hx⟩ := h
  exact hq F H none ε (.refl _) (.refl _) I ht
theorem RpB.kI_ {K : PySem.W.Frag} {F H : Hp} {z : V} {d : D} {k : Int → Prop} (r : RpB K F H z d) (h : kI k d) : ∃ i, z = .int i ∧ k i := by
  cases d <;> try exact h.elim
  exact ⟨_, r.int_, h⟩
theorem do_some (ha : DE X W a ta) : DO X W (some a) (oSome ta) := by
  refine ⟨PO.conv (po_some ha.pe) fun σ H Q h => ?_⟩
  obtain ⟨G, F, ε, q, xq, I, ht, hq, hx⟩ := h
  refine ⟨G, F, ε, _, xq, I, ht, fun F1 H1 v o ε1 s1 k1 I1 r1 h1 => ?_, hx⟩
  obtain ⟨i, e, hi⟩ := (r1.b I1).kI_ h1
  exact ⟨i, e, hq F1 H1 (some i) ε1 s1 k1 I1 hi⟩
def cut {α : Type} (xs : List α) (lo hi : Option Int) : List α := (xs.drop (HT.sIx xs.length 0 lo)).take (HT.sIx xs.length xs.length hi - HT.sIx xs.length 0 lo)
def dSl (x : D) (lo hi : Option Int) (q : D → Prop) : Prop := match x with
  | .lst xs => q (.lst (cut xs lo hi))
  | .ro xs => q (.lst (cut xs lo hi))
  | .tup xs => ¬ (HT.sIx xs.length 0 lo = 0 ∧ HT.sIx xs.length xs.length hi = xs.length) ∧ q (.tup (cut xs lo hi))
  | .str cs => cs.length ≤ sizeLine ∧ q (.str (cut cs lo hi))
  | _ => False
def dSlice (ta : TD) (tl th : TOd) : TD := fun ε q xq => ta ε (fun x ε1 => tl ε1 (fun lo ε2 => th ε2 (fun hi ε3 => dSl (x.get ε3) lo hi fun z => q (.d z) ε3) xq) xq) xq
theorem RpL.cut {K : PySem.W.Frag} {F : Hp} {vs : List V} {xs : List D} (r : RpL K F vs xs) (lo hi : Option Int) : RpL K F (cutV vs lo hi) (Zd.cut xs lo hi) := by
  unfold cutV Zd.cut
  rw [r.length]
  exact (r.drop _).take _
theorem Asc.cut {cs : List Nat} (h : Asc cs) (lo hi : Option Int) : Asc (Zd.cut cs lo hi) := (h.drop _).take _
theorem cutS_mk (cs : List Nat) (lo hi : Option Int) : cutS (mk cs) lo hi = mk (cut cs lo hi) := by
  unfold cutS cut
  rw [mk_len]
theorem de_slice {lo hi : Option Expr} {tl th : TOd} {p2 : Pos} (ha : DE X W a ta) (hl : DO X W lo tl) (hh : DO X W hi th) : DE X W (.Subscript a (.Slice lo hi none p2) pos) (dSlice ta tl th) := by
  refine ⟨PE.conv (pe_slice (SlR.or sl_list (SlR.or sl_tup sl_str)) ha.pe hl.po hh.po) fun σ H Q h => ?_⟩
  obtain ⟨G, F, ε, q, xq, I, ht, hq, hx⟩ := h
  refine ⟨G, F, ε, _, xq, I, ht, fun F1 H1 v o ε1 s1 k1 I1 r1 h1 => ?_, hx⟩
  refine ⟨G, F1, ε1, _, xq, I1, h1, fun F2 H2 l ε2 s2 k2 I2 h2 => ?_, hx.mono s1⟩
  refine ⟨G, F2, ε2, _, xq, I2, h2, fun F3 H3 u ε3 s3 k3 I3 h3 => ?_, hx.mono (s1.trans s2)⟩
  have rx := (r1.mono (s2.trans s3) (k2.trans k3)).b I3
  have S := I3.sF
  generalize o.get ε3 = x at h3 rx
  have fin := fun F4 H4 z d (al : AL F3 H3 F4 H4) (rz : Rp X.K F4 z d) (hz : q (.d d) ε3) => hq F4 H4 z (.d d) ε3 (((s1.trans s2).trans s3).trans al.sF) ((k1.trans k2).trans k3) (I3.al al) rz hz
  cases x with
  | lst xs =>
    obtain ⟨p, vs, e, hp, r⟩ := rx.lst_ S
    refine .inl ⟨p, vs, e, SqL.of hp, fun a ha => ?_⟩
    have A := AL.new (o := .lst (cutV vs l u)) S ha
    exact fin _ _ _ _ A (.lst upd_same ((r.cut l u).mono A.sF)) h3
  | ro xs =>
    obtain ⟨p, vs, e, hp, r⟩ := rx.ro_ S
    refine .inl ⟨p, vs, e, hp, fun a ha => ?_⟩
    have A := AL.new (o := .lst (cutV vs l u)) S ha
    exact fin _ _ _ _ A (.lst upd_same ((r.cut l u).mono A.sF)) h3
  | tup xs =>
    obtain ⟨p, vs, e, _, hp, r⟩ := rx.tup_ S
    obtain ⟨hw, h3⟩ := h3
    refine .inr (.inl ⟨p, vs, e, hp, by rw [r.length]; exact hw, fun a ha => ?_⟩)
    have A := AL.new (o := .tup (cutV vs l u)) S ha
    exact fin _ _ _ _ A (.tup (.inl upd_same) ((r.cut l u).mono A.sF)) h3
  | str cs =>
    obtain ⟨hz, h3⟩ := h3
    obtain ⟨e1, a1⟩ := rx.str_
    refine .inr (.inr ⟨_, e1, by rw [mk_len]; exact hz, ?_⟩)
    rw [cutS_mk]
    exact fin _ _ _ _ (al_id S) (.str _ (a1.cut l u)) h3
  | _ => exact h3.elim
end
end Zd
namespace Zd
open PySem PySem.Spec L2 TL

/-! ### the slots change -/
theorem own_lt {ε : Env} {i : Nat} {c : OC} (h : ownAt ε i = some c) : i < ε.length := by
  unfold ownAt at h
  cases e : ε[i]? with
  | none => rw [e] at h; cases h
  | some s => exact (List.getElem?_eq_some_iff.mp e).1
theorem get_set {α : Type} {l : List α} {i j : Nat} {x y : α} (h : (l.set i x)[j]? = some y) : (j = i ∧ y = x) ∨ (j ≠ i ∧ l[j]? = some y) := by
  by_cases e : i = j
  · subst e
    by_cases hi : i < l.length
    · rw [List.getElem?_set_self hi] at h
      exact .inl ⟨rfl, (Option.some.inj h).symm⟩
    · rw [List.getElem?_eq_none (by simpa using hi)] at h
      cases h
  · rw [List.getElem?_set_ne e] at h
    exact .inr ⟨fun z => e z.symm, h⟩
theorem own_set {ε : Env} {i j : Nat} {s : Sl} {c : OC} (h : ownAt (ε.set i s) j = some c) : (j = i ∧ s.oc = some c) ∨ (j ≠ i ∧ ownAt ε j = some c) := by
  unfold ownAt at h
  cases e : (ε.set i s)[j]? with
  | none => rw [e] at h; cases h
  | some t =>
    rw [e] at h
    have h : t.oc = some c := h
    rcases get_set e with ⟨e1, e2⟩ | ⟨e1, e2⟩
    · exact .inl ⟨e1, by rw [← e2]; exact h⟩
    · exact .inr ⟨e1, by unfold ownAt; rw [e2]; exact h⟩
theorem own_set_ne {ε : Env} {i j : Nat} {s : Sl} (h : j ≠ i) : ownAt (ε.set i s) j = ownAt ε j := by
  unfold ownAt
  rw [List.getElem?_set_ne fun z => h z.symm]
theorem own_set_self {ε : Env} {i : Nat} {s : Sl} (h : i < ε.length) : ownAt (ε.set i s) i = s.oc := by
  unfold ownAt
  rw [List.getElem?_set_self h]
  rfl
/-- not a list that was handed in -/
def notPar (ε : Env) (i : Nat) : Prop := match ε[i]? with
  | some (.par _) => False
  | _ => True
section
variable {K : PySem.W.Frag} {G : Gd} {F H F' H' : Hp} {σ : L2.St} {ε : Env}
theorem notPar.ne {i : Nat} (h : notPar ε i) (I : Iv K G F H σ ε) : ∀ ip ∈ G.pn, ip.1 ≠ i := fun ip hm e => by
  obtain ⟨_, c, q⟩ := I.pn ip hm
  unfold notPar at h
  rw [← e, q] at h
  exact h
/-- a settled value at slot i -/
theorem Iv.setd {i : Nat} {v : V} {x : D} (I : Iv K G F H σ ε) (np : notPar ε i) (r : Rp K F v x) : Iv K G F H (σ.set i (some v)) (ε.set i (.d x)) where
  s0 := I.s0
  sF := I.sF
  sH := I.sH
  fr := I.fr
  tb := I.tb
  gh := fun j T e => by
    rcases get_set e with ⟨_, e2⟩ | ⟨_, e2⟩
    · cases e2
    · exact I.gh j T e2
  len := by simp [I.len]
  d := fun j y e => by
    rcases get_set e with ⟨e1, e2⟩ | ⟨e1, e2⟩
    · cases e2
      subst e1
      have hj : j < σ.length := by
        have := (List.getElem?_eq_some_iff.mp e).1
        rw [List.length_set] at this
        rw [I.len]; exact this
      exact ⟨v, by rw [List.getElem?_set_self hj], r⟩
    · obtain ⟨w, h1, h2⟩ := I.d j y e2
      exact ⟨w, by rw [List.getElem?_set_ne fun z => e1 z.symm]; exact h1, h2⟩
  o := fun j c e => by
    rcases own_set e with ⟨_, e2⟩ | ⟨e1, e2⟩
    · cases e2
    · obtain ⟨p, ho, h1, h2⟩ := I.o j c e2
      exact ⟨p, ho, by rw [List.getElem?_set_ne fun z => e1 z.symm]; exact h1, h2⟩
  dis := fun j k p hjk hj hk h => by
    have nj : j ≠ i := fun e => by
      cases q : ownAt (ε.set i (.d x)) j with
      | none => exact hj q
      | some c => rcases own_set q with ⟨_, e2⟩ | ⟨e1, _⟩
                  · cases e2
                  · exact e1 e
    have nk : k ≠ i := fun e => by
      cases q : ownAt (ε.set i (.d x)) k with
      | none => exact hk q
      | some c => rcases own_set q with ⟨_, e2⟩ | ⟨e1, _⟩
                  · cases e2
                  · exact e1 e
    rw [List.getElem?_set_ne fun z => nj z.symm] at h
    rw [List.getElem?_set_ne fun z => nk z.symm]
    rw [own_set_ne nj] at hj
    rw [own_set_ne nk] at hk
    exact I.dis j k p hjk hj hk h
  pn := fun ip hm => by
    obtain ⟨h1, c, h2⟩ := I.pn ip hm
    have ne := np.ne I ip hm
    exact ⟨by rw [List.getElem?_set_ne fun z => ne z.symm]; exact h1, c, by rw [List.getElem?_set_ne fun z => ne z.symm]; exact h2⟩
/-- slot i is forgotten -/
theorem Iv.forget {i : Nat} (I : Iv K G F H σ ε) (np : ownAt ε i = none) : Iv K G F H (σ.set i none) (ε.set i .no) where
  s0 := I.s0
  sF := I.sF
  sH := I.sH
  fr := I.fr
  tb := I.tb
  gh := fun j T e => by
    rcases get_set e with ⟨_, e2⟩ | ⟨_, e2⟩
    · cases e2
    · exact I.gh j T e2
  len := by simp [I.len]
  d := fun j y e => by
    rcases get_set e with ⟨e1, e2⟩ | ⟨e1, e2⟩
    · cases e2
    · obtain ⟨w, h1, h2⟩ := I.d j y e2
      exact ⟨w, by rw [List.getElem?_set_ne fun z => e1 z.symm]; exact h1, h2⟩
  o := fun j c e => by
    rcases own_set e with ⟨_, e2⟩ | ⟨e1, e2⟩
    · cases e2
    · obtain ⟨p, ho, h1, h2⟩ := I.o j c e2
      exact ⟨p, ho, by rw [List.getElem?_set_ne fun z => e1 z.symm]; exact h1, h2⟩
  dis := fun j k p hjk hj hk h => by
    have nj : j ≠ i := fun e => by
      cases q : ownAt (ε.set i .no) j with
      | none => exact hj q
      | some c => rcases own_set q with ⟨_, e2⟩ | ⟨e1, _⟩
                  · cases e2
                  · exact e1 e
    have nk : k ≠ i := fun e => by
      cases q : ownAt (ε.set i .no) k with
      | none => exact hk q
      | some c => rcases own_set q with ⟨_, e2⟩ | ⟨e1, _⟩
                  · cases e2
                  · exact e1 e
    rw [List.getElem?_set_ne fun z => nj z.symm] at h
    rw [List.getElem?_set_ne fun z => nk z.symm]
    rw [own_set_ne nj] at hj
    rw [own_set_ne nk] at hk
    exact I.dis j k p hjk hj hk h
  pn := fun ip hm => by
    obtain ⟨h1, c, h2⟩ := I.pn ip hm
    have ne : ip.1 ≠ i := fun e => by
      subst e
      unfold ownAt at np
      rw [h2] at np
      cases np
    exact ⟨by rw [List.getElem?_set_ne fun z => ne z.symm]; exact h1, c, by rw [List.getElem?_set_ne fun z => ne z.symm]; exact h2⟩
/-- a new list of one's own at slot i -/
theorem Iv.seto {i : Nat} {p : Addr} {ho : HO} {c : OC} (I : Iv K G F H σ ε) (np : notPar ε i) (h1 : H p = some ho) (h2 : F p = none) (h3 : G.H0 p = none) (h4 : ∀ j, σ[j]? = some (some (.ref p)) → ownAt ε j = none) (h5 : OcOk K F ho c) :
    Iv K G F H (σ.set i (some (.ref p))) (ε.set i (.own c)) where
  s0 := I.s0
  sF := I.sF
  sH := I.sH
  fr := I.fr
  tb := I.tb
  gh := fun j T e => by
    rcases get_set e with ⟨_, e2⟩ | ⟨_, e2⟩
    · cases e2
    · exact I.gh j T e2
  len := by simp [I.len]
  d := fun j y e => by
    rcases get_set e with ⟨e1, e2⟩ | ⟨e1, e2⟩
    · cases e2
    · obtain ⟨w, h1, h2⟩ := I.d j y e2
      exact ⟨w, by rw [List.getElem?_set_ne fun z => e1 z.symm]; exact h1, h2⟩
  o := fun j c' e => by
    rcases own_set e with ⟨e1, e2⟩ | ⟨e1, e2⟩
    · cases e2
      subst e1
      have hj : j < σ.length := by rw [I.len]; simpa using own_lt e
      exact ⟨p, ho, by rw [List.getElem?_set_self hj], h3, h2, h1, h5⟩
    · obtain ⟨p, ho, h1, h2⟩ := I.o j c' e2
      exact ⟨p, ho, by rw [List.getElem?_set_ne fun z => e1 z.symm]; exact h1, h2⟩
  dis := fun j k q hjk hj hk h z => by
    by_cases ej : j = i
    · by_cases ek : k = i
      · exact hjk (ej.trans ek.symm)
      · subst ej
        rw [own_set_ne ek] at hk
        rw [List.getElem?_set_ne fun z => ek z.symm] at z
        have hq : q = p := by
          have hl := (List.getElem?_eq_some_iff.mp h).1
          rw [List.length_set] at hl
          rw [List.getElem?_set_self hl] at h
          cases h; rfl
        rw [hq] at z
        exact hk (h4 k z)
    · rw [own_set_ne ej] at hj
      rw [List.getElem?_set_ne fun z => ej z.symm] at h
      by_cases ek : k = i
      · subst ek
        have hq : q = p := by
          have hl := (List.getElem?_eq_some_iff.mp z).1
          rw [List.length_set] at hl
          rw [List.getElem?_set_self hl] at z
          cases z; rfl
        rw [hq] at h
        exact hj (h4 j h)
      · rw [own_set_ne ek] at hk
        rw [List.getElem?_set_ne fun z => ek z.symm] at z
        exact I.dis j k q hjk hj hk h z
  pn := fun ip hm => by
    obtain ⟨h1, c, h2⟩ := I.pn ip hm
    have ne := np.ne I ip hm
    exact ⟨by rw [List.getElem?_set_ne fun z => ne z.symm]; exact h1, c, by rw [List.getElem?_set_ne fun z => ne z.symm]; exact h2⟩
/-- the content of slot i is another -/
def putOc (ε : Env) (i : Nat) (c : OC) : Env := match ε[i]? with
  | some (.par _) => ε.set i (.par c)
  | _ => ε.set i (.own c)
theorem putOc_own {i j : Nat} {c c0 c' : OC} (h0 : ownAt ε i = some c0) (h : ownAt (putOc ε i c) j = some c') : (j = i ∧ c' = c) ∨ (j ≠ i ∧ ownAt ε j = some c') := by
  unfold putOc at h
  split at h
  · rcases own_set h with ⟨a, b⟩ | h
    · exact .inl ⟨a, (Option.some.inj b).symm⟩
    · exact .inr h
  · rcases own_set h with ⟨a, b⟩ | h
    · exact .inl ⟨a, (Option.some.inj b).symm⟩
    · exact .inr h
theorem dat_set_ne {ε : Env} {i j : Nat} {s : Sl} (h : j ≠ i) : datAt (ε.set i s) j = datAt ε j := by
  unfold datAt
  rw [List.getElem?_set_ne fun z => h z.symm]
theorem dat_set_self {ε : Env} {i : Nat} {s : Sl} (h : i < ε.length) : datAt (ε.set i s) i = s.dat := by
  unfold datAt
  rw [List.getElem?_set_self h]
  rfl
theorem putOc_kd {i : Nat} {c c0 : OC} (h0 : ownAt ε i = some c0) : Kd ε (putOc ε i c) := fun j hj => by
  by_cases e : j = i
  · subst e
    have hl := own_lt h0
    unfold putOc
    split <;> rw [dat_set_self hl] <;> simp [Sl.dat]
  · unfold putOc
    split <;> rw [dat_set_ne e] <;> exact hj
theorem putOc_len {i : Nat} {c : OC} : (putOc ε i c).length = ε.length := by unfold putOc; split <;> simp
theorem Iv.mut {i : Nat} {p : Addr} {ho' : HO} {c c' : OC} (I : Iv K G F H σ ε) (e : ownAt ε i = some c) (es : σ[i]? = some (some (.ref p))) (ok : OcOk K F ho' c') : Iv K G F (upd H p ho') σ (putOc ε i c') := by
  obtain ⟨p', ho, h1, h2, h3, h4, h5⟩ := I.o i c e
  rw [es] at h1
  cases h1
  refine ⟨I.s0, fun a o q => ?_, fun a o q => ?_, I.fr, by rw [putOc_len]; exact I.len, fun j x q => ?_, fun j cj q => ?_, fun j k q hjk hj hk => ?_, fun ip hm => ?_, I.tb.anyH fun p' hp' ps' e' => by rw [upd_ne (I.tb.ne h4 (ocok_tbl h5) p' hp')]; exact e', fun j T z => I.gh j T (by
    unfold putOc at z
    split at z
    all_goals
      rcases get_set z with ⟨_, z2⟩ | ⟨_, z2⟩
      · cases z2
      · exact z2)⟩
  · rw [upd_ne (ne_of_none q h3)]
    exact I.sF a o q
  · rw [upd_ne (ne_of_none q h2)]
    exact I.sH a o q
  · refine I.d j x ?_
    unfold putOc at q
    split at q
    · rcases get_set q with ⟨_, z⟩ | ⟨_, z⟩
      · cases z
      · exact z
    · rcases get_set q with ⟨_, z⟩ | ⟨_, z⟩
      · cases z
      · exact z
  · rcases putOc_own e q with ⟨e1, e2⟩ | ⟨e1, e2⟩
    · subst e1 e2
      exact ⟨p, ho', es, h2, h3, upd_same, ok⟩
    · obtain ⟨q, hq, a1, a2, a3, a4, a5⟩ := I.o j cj e2
      have ne : q ≠ p := fun z => by
        subst z
        exact I.dis j i q e1 (by rw [e2]; simp) (by rw [e]; simp) a1 es
      exact ⟨q, hq, a1, a2, a3, by rw [upd_ne ne]; exact a4, a5⟩
  · have back : ∀ n, ownAt (putOc ε i c') n ≠ none → ownAt ε n ≠ none := fun n hn => by
      cases z : ownAt (putOc ε i c') n with
      | none => exact absurd z hn
      | some cz =>
        rcases putOc_own e z with ⟨e1, _⟩ | ⟨_, e2⟩
        · rw [e1, e]; simp
        · rw [e2]; simp
    exact I.dis j k q hjk (back j hj) (back k hk)
  · obtain ⟨a1, c0, a2⟩ := I.pn ip hm
    refine ⟨a1, ?_⟩
    by_cases ei : ip.1 = i
    · unfold putOc
      rw [← ei, a2]
      have hl : ip.1 < ε.length := (List.getElem?_eq_some_iff.mp a2).1
      exact ⟨c', by simp only; rw [List.getElem?_set_self hl]⟩
    · refine ⟨c0, ?_⟩
      unfold putOc
      split <;> rw [List.getElem?_set_ne fun z => ei z.symm] <;> exact a2
/-- one's own list at slot i is settled -/
theorem Iv.settle {i : Nat} {c : OC} (I : Iv K G F H σ ε) (e : ε[i]? = some (.own c)) : ∃ p ho, σ[i]? = some (some (.ref p)) ∧ H p = some ho ∧ F p = none ∧ Same F (upd F p ho) ∧ Rp K (upd F p ho) (.ref p) c.d ∧ Iv K G (upd F p ho) H σ (ε.set i (.d c.d)) := by
  have eo : ownAt ε i = some c := by unfold ownAt; rw [e]; rfl
  obtain ⟨p, ho, h1, h2, h3, h4, h5⟩ := I.o i c eo
  have S : Same F (upd F p ho) := Same.new h3
  have r : Rp K (upd F p ho) (.ref p) c.d := by
    cases c with
    | lst xs =>
      cases ho with
      | lst vs => exact .lst upd_same (RpL.mono S h5)
      | _ => exact h5.elim
    | dic xs =>
      cases ho with
      | dK vs => exact .dic upd_same (RpD.mono S h5)
      | _ => exact h5.elim
    | ob n xs =>
      cases ho with
      | ins C dx vs => exact .obj upd_same h5.1 h5.2.2.1 (RpF.mono S h5.2.2.2)
      | _ => exact h5.elim
  refine ⟨p, ho, h1, h4, h3, S, r, I.s0.trans S, fun a o q => ?_, I.sH, fun a a1 a2 => ?_, by simp [I.len], fun j x q => ?_, fun j cj q => ?_, fun j k q hjk hj hk => ?_, fun ip hm => ?_, I.tb.mk' S (fun _ _ _ e => e) (fun p' hp' z _ _ => by rw [upd_ne (I.tb.ne h4 (ocok_tbl h5) p' hp')]; exact z) (fun _ _ z _ _ => z), fun j T z => by
    rcases get_set z with ⟨_, z2⟩ | ⟨_, z2⟩
    · cases z2
    · exact I.gh j T z2⟩
  · by_cases ea : a = p
    · subst ea; rw [upd_same] at q; rw [h4]; exact q
    · rw [upd_ne ea] at q; exact I.sF a o q
  · rw [upd_ne (fun z => a2 (by rw [z]; exact h2))]
    exact I.fr a a1 a2
  · rcases get_set q with ⟨e1, e2⟩ | ⟨e1, e2⟩
    · cases e2
      subst e1
      exact ⟨_, h1, r⟩
    · obtain ⟨w, b1, b2⟩ := I.d j x e2
      exact ⟨w, b1, b2.mono S⟩
  · rcases own_set q with ⟨_, e2⟩ | ⟨e1, e2⟩
    · cases e2
    · obtain ⟨q', hq, a1, a2, a3, a4, a5⟩ := I.o j cj e2
      have ne : q' ≠ p := fun z => by
        subst z
        exact I.dis j i q' e1 (by rw [e2]; simp) (by rw [eo]; simp) a1 h1
      exact ⟨q', hq, a1, a2, by rw [upd_ne ne]; exact a3, a4, a5.mono S⟩
  · have back : ∀ n, ownAt (ε.set i (.d c.d)) n ≠ none → ownAt ε n ≠ none := fun n hn => by
      cases z : ownAt (ε.set i (.d c.d)) n with
      | none => exact absurd z hn
      | some cz =>
        rcases own_set z with ⟨_, e1⟩ | ⟨_, e2⟩
        · cases e1
        · rw [e2]; simp
    exact I.dis j k q hjk (back j hj) (back k hk)
  · obtain ⟨a1, c0, a2⟩ := I.pn ip hm
    have ne : ip.1 ≠ i := fun z => by rw [z, e] at a2; cases a2
    exact ⟨a1, c0, by rw [List.getElem?_set_ne fun z => ne z.symm]; exact a2⟩
/-- an operand settled: a list of one's own is so from now on -/
def fz (ε : Env) (o : Opd) (k : D → Env → Prop) : Prop := match o with
  | .d x => k x ε
  | .s i => match ε[i]? with
    | some (.own c) => k c.d (ε.set i (.d c.d))
    | some (.d x) => k x ε
    | _ => False
/-- as OpdOk, of a slot that may have been settled since -/
def OpdW (K : PySem.W.Frag) (F : Hp) (σ : L2.St) (v : V) : Opd → Prop
  | .d x => Rp K F v x
  | .s i => σ[i]? = some (some v)
theorem OpdOk.w {v : V} {o : Opd} (h : OpdOk K F σ ε v o) : OpdW K F σ v o := by cases o with
  | d x => exact h
  | s i => exact h.1
theorem OpdW.mono {v : V} {o : Opd} (e : Same F F') (h : OpdW K F σ v o) : OpdW K F' σ v o := by cases o with
  | d x => exact Rp.mono e h
  | s i => exact h
theorem fz_of {v : V} {o : Opd} {k : D → Env → Prop} (I : Iv K G F H σ ε) (r : OpdW K F σ v o) (h : fz ε o k) : ∃ F' x ε', Same F F' ∧ Kd ε ε' ∧ Iv K G F' H σ ε' ∧ Rp K F' v x ∧ k x ε' := by
  cases o with
  | d x => exact ⟨F, x, ε, .refl _, .refl _, I, r, h⟩
  | s i =>
    have h : (match ε[i]? with | some (.own c) => k c.d (ε.set i (.d c.d)) | some (.d x) => k x ε | _ => False) := h
    have r : σ[i]? = some (some v) := r
    split at h
    · rename_i c e
      obtain ⟨p, ho, h1, h4, h3, S, rr, I'⟩ := I.settle e
      rw [r] at h1
      cases h1
      exact ⟨_, _, _, S, fun j hj => by
        by_cases ej : j = i
        · subst ej
          rw [dat_set_self (List.getElem?_eq_some_iff.mp e).1]
          simp [Sl.dat]
        · rw [dat_set_ne ej]; exact hj, I', rr, h⟩
    · rename_i x e
      obtain ⟨w, h1, rr⟩ := I.d i x e
      rw [r] at h1
      cases h1
      exact ⟨F, x, ε, .refl _, .refl _, I, rr, h⟩
    · exact h.elim
end

inductive OsW (K : PySem.W.Frag) (F : Hp) (σ : L2.St) : List V → List Opd → Prop
  | nil : OsW K F σ [] []
  | cons {v : V} {o : Opd} {vs : List V} {os : List Opd} : OpdW K F σ v o → OsW K F σ vs os → OsW K F σ (v :: vs) (o :: os)
theorem OsOk.ws {K : PySem.W.Frag} {F : Hp} {σ : L2.St} {ε : Env} : ∀ {vs : List V} {os : List Opd}, OsOk K F σ ε vs os → OsW K F σ vs os
  | _, _, .nil => .nil
  | _, _, .cons h t => .cons h.w (OsOk.ws t)
theorem OsW.mono {K : PySem.W.Frag} {F F' : Hp} {σ : L2.St} (e : Same F F') : ∀ {vs : List V} {os : List Opd}, OsW K F σ vs os → OsW K F' σ vs os
  | _, _, .nil => .nil
  | _, _, .cons h t => .cons (h.mono e) (OsW.mono e t)
theorem OsOk.len {K : PySem.W.Frag} {F : Hp} {σ : L2.St} {ε : Env} : ∀ {vs : List V} {os : List Opd}, OsOk K F σ ε vs os → vs.length = os.length
  | _, _, .nil => rfl
  | _, _, .cons _ t => by simp [OsOk.len t]
/-- all settled, from the left -/
def fzs : Env → List Opd → (List D → Env → Prop) → Prop
  | ε, [], k => k [] ε
  | ε, o :: r, k => fz ε o fun x ε1 => fzs ε1 r fun xs ε2 => k (x :: xs) ε2
theorem fzs_of {K : PySem.W.Frag} {G : Gd} {H : Hp} {σ : L2.St} : ∀ {vs : List V} {os : List Opd} {F : Hp} {ε : Env} {k : List D → Env → Prop}, Iv K G F H σ ε → OsW K F σ vs os → fzs ε os k →
    ∃ F' xs ε', Same F F' ∧ Kd ε ε' ∧ Iv K G F' H σ ε' ∧ RpL K F' vs xs ∧ k xs ε'
  | _, _, F, ε, _, I, .nil, h => ⟨F, [], ε, .refl _, .refl _, I, .nil, h⟩
  | _, _, F, ε, k, I, .cons r t, h => by
    obtain ⟨F1, x, ε1, s1, k1, I1, r1, h1⟩ := fz_of I r h
    obtain ⟨F2, xs, ε2, s2, k2, I2, r2, h2⟩ := fzs_of I1 (t.mono s1) h1
    exact ⟨F2, x :: xs, ε2, s1.trans s2, k1.trans k2, I2, .cons (r1.mono s2) r2, h2⟩
section
variable {X : Cx} {W : WX} {pos : Pos}
def dTup (t : TL) : TD := fun ε q xq => t ε (fun os ε1 => os.length ≤ sizeLine ∧ fzs ε1 os fun xs ε2 => q (.d (.tup xs)) ε2) xq
def dLst (t : TL) : TD := fun ε q xq => t ε (fun os ε1 => os.length ≤ sizeLine ∧ fzs ε1 os fun xs ε2 => q (.d (.lst xs)) ε2) xq
theorem de_tup {es : List Expr} {t : TL} {x1} (h : DA X W es t) : DE X W (.Tuple es x1 pos) (dTup t) := by
  refine ⟨PE.conv (pe_tup h.pa) fun σ H Q h => ?_⟩
  obtain ⟨G, F, ε, q, xq, I, ht, hq, hx⟩ := h
  refine ⟨G, F, ε, _, xq, I, ht, fun F1 H1 vs os ε1 s1 k1 I1 r1 h1 => ⟨by rw [r1.len]; exact h1.1, fun p hp => ?_⟩, hx⟩
  obtain ⟨F2, xs, ε2, s2, k2, I2, r, hk⟩ := fzs_of I1 r1.ws h1.2
  have A := AL.new (o := .tup vs) I2.sF hp
  exact hq _ _ _ (.d (.tup xs)) ε2 ((s1.trans s2).trans A.sF) (k1.trans k2) (I2.al A) (Rp.tup (.inl upd_same) (r.mono A.sF)) hk
theorem de_lst {es : List Expr} {t : TL} (h : DA X W es t) : DE X W (.List es pos) (dLst t) := by
  refine ⟨PE.conv (pe_lst h.pa) fun σ H Q h => ?_⟩
  obtain ⟨G, F, ε, q, xq, I, ht, hq, hx⟩ := h
  refine ⟨G, F, ε, _, xq, I, ht, fun F1 H1 vs os ε1 s1 k1 I1 r1 h1 => ⟨by rw [r1.len]; exact h1.1, fun p hp => ?_⟩, hx⟩
  obtain ⟨F2, xs, ε2, s2, k2, I2, r, hk⟩ := fzs_of I1 r1.ws h1.2
  have A := AL.new (o := .lst vs) I2.sF hp
  exact hq _ _ _ (.d (.lst xs)) ε2 ((s1.trans s2).trans A.sF) (k1.trans k2) (I2.al A) (Rp.lst upd_same (r.mono A.sF)) hk
end

/-! ### statements -/
structure DEnds where
  nx : Env → Prop
  rt : D → Env → Prop
  bk : Env → Prop := fun _ => False
  ct : Env → Prop := fun _ => False
  xq : XQ := fun _ _ => False
  ro : OC → Env → Prop := fun _ _ => False
abbrev TSd := DEnds → Env → Prop
structure EOk (K : PySem.W.Frag) (W : WX) (G : Gd) (F : Hp) (De : Ends) (Dn : DEnds) : Prop where
  nx : ∀ F' H' σ' ε', Same F F' → Iv K G F' H' σ' ε' → Dn.nx ε' → De.nx σ' H'
  rt : ∀ F' H' σ' ε' v d, Same F F' → Iv K G F' H' σ' ε' → Rp K F' v d → Dn.rt d ε' → De.rt v H'
  bk : ∀ F' H' σ' ε', Same F F' → Iv K G F' H' σ' ε' → Dn.bk ε' → De.bk σ' H'
  ct : ∀ F' H' σ' ε', Same F F' → Iv K G F' H' σ' ε' → Dn.ct ε' → De.ct σ' H'
  xq : ∀ F' H' σ' ε' e cls d, Same F F' → Iv K G F' H' σ' ε' → XOk K F' H' e cls d → Dn.xq e ε' → W cls d σ' H'
  ro : ∀ F' H' σ' ε' (i : Nat) (p : Addr) (c : OC), Same F F' → Iv K G F' H' σ' ε' → ε'[i]? = some (Sl.own c) → σ'[i]? = some (some (V.ref p)) → Dn.ro c ε' → De.rt (V.ref p) H'
theorem EOk.mono {K : PySem.W.Frag} {W : WX} {G : Gd} {F F' : Hp} {De : Ends} {Dn : DEnds} (h : EOk K W G F De Dn) (s : Same F F') : EOk K W G F' De Dn :=
  ⟨fun F1 H1 σ1 ε1 a => h.nx F1 H1 σ1 ε1 (s.trans a), fun F1 H1 σ1 ε1 v d a => h.rt F1 H1 σ1 ε1 v d (s.trans a), fun F1 H1 σ1 ε1 a => h.bk F1 H1 σ1 ε1 (s.trans a),
    fun F1 H1 σ1 ε1 a => h.ct F1 H1 σ1 ε1 (s.trans a), fun F1 H1 σ1 ε1 e cls d a => h.xq F1 H1 σ1 ε1 e cls d (s.trans a), fun F1 H1 σ1 ε1 i p c a => h.ro F1 H1 σ1 ε1 i p c (s.trans a)⟩
theorem EOk.x {K : PySem.W.Frag} {W : WX} {G : Gd} {F : Hp} {De : Ends} {Dn : DEnds} {σ : L2.St} (h : EOk K W G F De Dn) : XE1 K W G F σ Dn.xq := fun F' H' e ε' cls d a I => h.xq F' H' σ ε' e cls d a I
def LS (K : PySem.W.Frag) (W : WX) (t : TSd) : TS := fun De σ H => ∃ G F ε Dn, Iv K G F H σ ε ∧ t Dn ε ∧ EOk K W G F De Dn
structure DS (X : Cx) (W : WX) (st : Stmt) (t : TSd) : Prop where
  ps : PS X st (LS X.K W t)
structure DSs (X : Cx) (W : WX) (st : List Stmt) (t : TSd) : Prop where
  pss : PSs X st (LS X.K W t)
section
variable {X : Cx} {W : WX} {a b c : Expr} {ta tb tc : TD} {A B : TB} {pos : Pos} {st : Stmt} {rest : List Stmt} {t u : TSd}
def sNil : TSd := fun Dn ε => Dn.nx ε
def sSeq (t u : TSd) : TSd := fun Dn ε => t { Dn with nx := fun ε' => u Dn ε' } ε
theorem dss_nil : DSs X W [] sNil := ⟨PSs.conv pss_nil fun De σ H ⟨G, F, ε, Dn, I, ht, ok⟩ => ok.nx F H σ ε (.refl _) I ht⟩
theorem dss_cons (h1 : DS X W st t) (h2 : DSs X W rest u) : DSs X W (st :: rest) (sSeq t u) := by
  refine ⟨PSs.conv (pss_cons h1.ps h2.pss) fun De σ H ⟨G, F, ε, Dn, I, ht, ok⟩ => ?_⟩
  exact ⟨G, F, ε, { Dn with nx := fun ε' => u Dn ε' }, I, ht, fun F1 H1 σ1 ε1 s I1 h => ⟨G, F1, ε1, Dn, I1, h, ok.mono s⟩, ok.rt, ok.bk, ok.ct, ok.xq, ok.ro⟩
theorem dss_one (h1 : DS X W st t) : DSs X W [st] t := ⟨pss_one h1.ps⟩
theorem ds_pass : DS X W (.Pass pos) sNil := ⟨PS.conv ps_pass fun De σ H ⟨G, F, ε, Dn, I, ht, ok⟩ => ok.nx F H σ ε (.refl _) I ht⟩
def sBrk : TSd := fun Dn ε => Dn.bk ε
def sCnt : TSd := fun Dn ε => Dn.ct ε
theorem ds_break : DS X W (.Break pos) sBrk := ⟨PS.conv ps_break fun De σ H ⟨G, F, ε, Dn, I, ht, ok⟩ => ok.bk F H σ ε (.refl _) I ht⟩
theorem ds_continue : DS X W (.Continue pos) sCnt := ⟨PS.conv ps_continue fun De σ H ⟨G, F, ε, Dn, I, ht, ok⟩ => ok.ct F H σ ε (.refl _) I ht⟩
def sExpr (t : TD) : TSd := fun Dn ε => t ε (fun _ ε1 => Dn.nx ε1) Dn.xq
theorem ds_expr (h : DE X W a ta) (hs : swapsWith a none pos.line X.env = pure false := by rfl) : DS X W (.Expr a pos) (sExpr ta) := by
  refine ⟨PS.conv (ps_expr h.pe hs) fun De σ H ⟨G, F, ε, Dn, I, ht, ok⟩ => ?_⟩
  exact ⟨G, F, ε, _, _, I, ht, fun F1 H1 v o ε1 s1 k1 I1 r1 h1 => ok.nx F1 H1 σ ε1 s1 I1 h1, ok.x⟩
def sRet (t : TD) : TSd := fun Dn ε => t ε (fun o ε1 => fz ε1 o fun x ε2 => Dn.rt x ε2) Dn.xq
theorem ds_ret (h : DE X W a ta) : DS X W (.Return (some a) pos) (sRet ta) := by
  refine ⟨PS.conv (ps_ret h.pe) fun De σ H ⟨G, F, ε, Dn, I, ht, ok⟩ => ?_⟩
  refine ⟨G, F, ε, _, _, I, ht, fun F1 H1 v o ε1 s1 k1 I1 r1 h1 => ?_, ok.x⟩
  obtain ⟨F2, x, ε2, s2, _, I2, r2, h2⟩ := fz_of I1 r1.w h1
  exact ok.rt F2 H1 σ ε2 v x (s1.trans s2) I2 r2 h2
/-- return x, x a list of one's own that goes to the asker -/
def sRetO (i : Nat) : TSd := fun Dn ε => match ε[i]? with
  | some (.own c) => Dn.ro c ε
  | _ => False
theorem ds_retO {i : Nat} (h : PE X a (tVar i)) : DS X W (.Return (some a) pos) (sRetO i) := by
  refine ⟨PS.conv (ps_ret h) fun De σ H ⟨G, F, ε, Dn, I, ht, ok⟩ => ?_⟩
  unfold sRetO at ht
  split at ht
  · rename_i c e
    obtain ⟨p, ho, h1, _⟩ := I.o i c (by unfold ownAt; rw [e]; rfl)
    exact ⟨.ref p, h1, ok.ro F H σ ε i p c (.refl _) I e h1 ht⟩
  · exact ht.elim
def sRetN : TSd := fun Dn ε => Dn.rt .non ε
theorem ds_retN : DS X W (.Return none pos) sRetN := ⟨PS.conv ps_retN fun De σ H ⟨G, F, ε, Dn, I, ht, ok⟩ => ok.rt F H σ ε .non .non (.refl _) I .non ht⟩
def sIf (A : TB) (t u : TSd) : TSd := fun Dn ε => A ε (fun b ε1 => if b = true then t Dn ε1 else u Dn ε1) Dn.xq
theorem ds_if {p q : List Stmt} (hc : DT X W c A) (ha : DSs X W p t) (hb : DSs X W q u) : DS X W (.If c p q pos) (sIf A t u) := by
  refine ⟨PS.conv (ps_if hc.pt ha.pss hb.pss) fun De σ H ⟨G, F, ε, Dn, I, ht, ok⟩ => ?_⟩
  refine ⟨G, F, ε, _, _, I, ht, fun F1 H1 b ε1 s1 k1 I1 h1 => ?_, ok.x⟩
  cases b with
  | true => exact ⟨G, F1, ε1, Dn, I1, h1, ok.mono s1⟩
  | false => exact ⟨G, F1, ε1, Dn, I1, h1, ok.mono s1⟩

/-! targets -/
abbrev TGd := D → Env → (Env → Prop) → Prop
/-- what a raw target does, over data; the slots vs alone are stored to -/
def GSnd (K : PySem.W.Frag) (r : TG) (g : TGd) (vs : List Nat) : Prop := ∀ G F H σ ε v x k (Q : L2.St → Hp → Prop), Iv K G F H σ ε → Rp K F v x → g x ε k → (∀ σ' ε', Iv K G F H σ' ε' → wipe σ' vs = wipe σ vs → k ε' → Q σ' H) → r v σ H Q
structure DG (X : Cx) (tg : Expr) (r : TG) (g : TGd) (vs : List Nat) : Prop where
  pg : PG X tg r
  snd : GSnd X.K r g vs
def gN (i : Nat) : TGd := fun x ε k => notPar ε i ∧ k (ε.set i (.d x))
theorem wipe_set (σ : L2.St) (i : Nat) (v : Option V) : ∀ vs : List Nat, i ∈ vs → wipe (σ.set i v) vs = wipe σ vs
  | w :: vs, h => by
    unfold wipe
    by_cases e : i ∈ vs
    · rw [wipe_set σ i v vs e]
    · have hw : i = w := by
        rcases List.mem_cons.mp h with h | h
        · exact h
        · exact absurd h e
      subst hw
      have : wipe (σ.set i v) vs = (wipe σ vs).set i v := by
        clear h
        induction vs with
        | nil => rfl
        | cons u r ih =>
          unfold wipe
          have hu : i ≠ u := fun z => e (by rw [z]; exact List.mem_cons_self)
          rw [ih fun z => e (List.mem_cons_of_mem _ z), List.set_comm _ _ hu]
      rw [this, List.set_set]
theorem dg_n {x : Str} {i : Nat} {p : Pos} (h : PG X (.Name x p) (gName i)) : DG X (.Name x p) (gName i) (gN i) [i] :=
  ⟨h, fun G F H σ ε v x k Q I r ⟨np, hk⟩ hQ => hQ _ _ (I.setd np r) (wipe_set σ i _ [i] List.mem_cons_self) hk⟩
abbrev TGsd := List D → Env → (Env → Prop) → Prop
structure DGs (X : Cx) (tgs : List Expr) (r : TGs) (g : TGsd) (vs : List Nat) : Prop where
  pg : PGs X tgs r
  snd : ∀ G F H σ ε us xs k (Q : L2.St → Hp → Prop), Iv X.K G F H σ ε → RpL X.K F us xs → g xs ε k → (∀ σ' ε', Iv X.K G F H σ' ε' → wipe σ' vs = wipe σ vs → k ε' → Q σ' H) → r us σ H Q
def gNil0 : TGsd := fun xs ε k => match xs with
  | [] => k ε
  | _ => False
def gCons0 (g : TGd) (r : TGsd) : TGsd := fun xs ε k => match xs with
  | x :: xs => g x ε fun ε1 => r xs ε1 k
  | _ => False
theorem dgs_nil {vs : List Nat} : DGs X [] gNil gNil0 vs := ⟨pgs_nil, fun G F H σ ε us xs k Q I r h hQ => by
  cases r with
  | nil => exact ⟨rfl, hQ σ ε I rfl h⟩
  | cons _ _ => exact h.elim⟩
theorem wipe_sub {σ σ' : L2.St} : ∀ {ws vs : List Nat}, (∀ i ∈ vs, i ∈ ws) → wipe σ' vs = wipe σ vs → wipe σ' ws = wipe σ ws := by
  intro ws vs hs e
  have len : σ'.length = σ.length := by rw [← wipe_length σ' vs, e, wipe_length]
  have key : ∀ (τ : L2.St) (us : List Nat) (j : Nat), (wipe τ us)[j]? = if j ∈ us then (if j < τ.length then some none else none) else τ[j]? := by
    intro τ us j
    induction us with
    | nil => simp [wipe]
    | cons u r ih =>
      unfold wipe
      by_cases hu : u = j
      · subst hu
        by_cases hl : u < τ.length
        · rw [List.getElem?_set_self (by rw [wipe_length]; exact hl)]; simp [hl]
        · rw [List.getElem?_eq_none (by rw [List.length_set, wipe_length]; omega)]; simp [hl]
      · rw [List.getElem?_set_ne hu, ih]
        have : j ∈ u :: r ↔ j ∈ r := by
          rw [List.mem_cons]
          exact ⟨fun h => h.elim (fun z => absurd z.symm hu) id, .inr⟩
        simp only [this]
  apply List.ext_getElem?
  intro j
  rw [key, key]
  by_cases h : j ∈ ws
  · simp [h, len]
  · have hv : j ∉ vs := fun z => h (hs j z)
    have := congrArg (fun l => l[j]?) e
    simp only [key, if_neg hv] at this
    simp [h, this]
theorem dgs_cons {e : Expr} {es : List Expr} {r1 : TG} {r2 : TGs} {g : TGd} {r : TGsd} {vs ws us : List Nat} (h1 : DG X e r1 g vs) (h2 : DGs X es r2 r ws) (sv : ∀ i ∈ vs, i ∈ us := by decide) (sw : ∀ i ∈ ws, i ∈ us := by decide)
    (hs : (assignEach (e :: es) X.env).map (·.2) = assign e X.env :: (assignEach es X.env).map (·.2) := by rfl) : DGs X (e :: es) (gCons r1 r2) (gCons0 g r) us := by
  refine ⟨pgs_cons h1.pg h2.pg hs, fun G F H σ ε us' xs k Q I r h hQ => ?_⟩
  cases r with
  | nil => exact h.elim
  | cons r0 rs =>
    refine ⟨_, _, rfl, h1.snd G F H σ ε _ _ _ _ I r0 h fun σ1 ε1 I1 w1 h1 => ?_⟩
    exact h2.snd G F H σ1 ε1 _ _ _ _ I1 rs h1 fun σ2 ε2 I2 w2 h2 => hQ σ2 ε2 I2 ((wipe_sub sw w2).trans (wipe_sub sv w1)) h2
def gTup0 (r : TGsd) : TGd := fun x ε k => match x with
  | .tup xs => r xs ε k
  | _ => False
/-- so many names -/
def gLen : TGsd → Nat → Prop := fun r n => ∀ xs ε k, r xs ε k → xs.length = n
theorem gLen_nil : gLen gNil0 0 := fun xs ε k h => by cases xs with | nil => rfl | cons _ _ => exact h.elim
theorem gLen_n {i : Nat} {r : TGsd} {n : Nat} (h : gLen r n) : gLen (gCons0 (gN i) r) (n + 1) := fun xs ε k q => by
  cases xs with
  | nil => exact q.elim
  | cons x xs => rw [List.length_cons, h _ _ _ q.2]
theorem dg_tup {es : List Expr} {k : Nat} {r1 : TGs} {r : TGsd} {vs : List Nat} {n : Nat} (hc : X.calm = true) (h : DGs X es r1 r vs) (hlen : gLen r n)
    (hn : (assignEach es X.env).length = n := by rfl) (hst : (assignEach es X.env).findIdx? (·.1) = none := by rfl) : DG X (.Tuple es k pos) (gTup X.K n r1) (gTup0 r) vs := by
  refine ⟨pg_tup hc h.pg hn hst, fun G F H σ ε v x k Q I rx hx hQ => ?_⟩
  cases x <;> try exact hx.elim
  rename_i xs
  cases rx with
  | tup hq rs => exact ⟨_, _, rfl, sqT_mono I.sF hq.sq, by rw [rs.length]; exact hlen _ _ _ hx, h.snd G F H σ ε _ _ _ _ I rs hx hQ⟩
def sAsg (t : TD) (g : TGd) : TSd := fun Dn ε => t ε (fun o ε1 => fz ε1 o fun x ε2 => g x ε2 Dn.nx) Dn.xq
theorem ds_set {x : Str} {i : Nat} {p : Pos} (h : DE X W a ta) (hN : X.N.Nodup) (hi : X.N[i]? = some x) (hx : L2.Loc X.env.scope x) (hs : swapsWith a (some (.Name x p)) pos.line X.env = pure false := by rfl)
    (hf : X.fn x = true ∨ X.env.scope.names.lookup x = some .local := by first | exact .inl rfl | exact .inr rfl) : DS X W (.Assign [.Name x p] a pos) (sAsg ta (gN i)) := by
  refine ⟨PS.conv (ps_set hN hi hx h.pe hs hf) fun De σ H ⟨G, F, ε, Dn, I, ht, ok⟩ => ?_⟩
  refine ⟨G, F, ε, _, _, I, ht, fun F1 H1 v o ε1 s1 k1 I1 r1 h1 => ?_, ok.x⟩
  obtain ⟨F2, y, ε2, s2, _, I2, r2, np, h2⟩ := fz_of I1 r1.w h1
  exact ok.nx F2 H1 _ _ (s1.trans s2) (I2.setd np r2) h2
theorem ds_asg {tg : Expr} {r0 : TG} {g : TGd} {vs : List Nat} (h : DE X W a ta) (hg : DG X tg r0 g vs) (hs : swapsWithSole [tg] a pos.line X.env = pure false := by rfl) (hw : swappedStores [tg] a X.env = pure none := by rfl)
    (h1 : (assignEach [tg] X.env).map (·.2) = [assign tg X.env] := by rfl) : DS X W (.Assign [tg] a pos) (sAsg ta g) := by
  refine ⟨PS.conv (ps_asg h.pe hg.pg hs hw h1) fun De σ H ⟨G, F, ε, Dn, I, ht, ok⟩ => ?_⟩
  refine ⟨G, F, ε, _, _, I, ht, fun F1 H1 v o ε1 s1 k1 I1 r1 h1 => ?_, ok.x⟩
  obtain ⟨F2, y, ε2, s2, _, I2, r2, h2⟩ := fz_of I1 r1.w h1
  exact hg.snd G F2 H1 σ ε2 v y _ _ I2 r2 h2 fun σ' ε' I' _ h' => ok.nx F2 H1 σ' ε' (s1.trans s2) I' h'
/-- x op= e at a name -/
def sAug (i : Nat) (t : TD) (dop : D → D → (D → Prop) → Prop) : TSd := fun Dn ε => match ε[i]? with
  | some (.d x) => t ε (fun o ε1 => match ε1[i]? with
    | some (.d _) => dop x (o.get ε1) fun z => Dn.nx (ε1.set i (.d z))
    | _ => False) Dn.xq
  | _ => False
structure DIp (X : Cx) (op : Operator) (dop : D → D → (D → Prop) → Prop) where
  r : TIp
  h : PIp X op r
  hr : ∀ F H v w x y (q : D → Prop) (Q : VK), Same F H → RpB X.K F H v x → RpB X.K F H w y → dop x y q → (∀ F' H' z d, AL F H F' H' → Rp X.K F' z d → q d → Q z H') → r v w H Q
theorem ds_aug {i : Nat} {x : Str} {op : Operator} {dop : D → D → (D → Prop) → Prop} {p : Pos} (k : DIp X op dop) (hN : X.N.Nodup) (hi : X.N[i]? = some x) (hx : L2.Loc X.env.scope x) (h : DE X W a ta)
    (hf : X.fn x = true ∨ X.env.scope.names.lookup x = some .local := by first | exact .inl rfl | exact .inr rfl) : DS X W (.AugAssign (.Name x p) op a pos) (sAug i ta dop) := by
  refine ⟨PS.conv (ps_aug hN hi hx h.pe k.h hf) fun De σ H ⟨G, F, ε, Dn, I, ht, ok⟩ => ?_⟩
  unfold sAug at ht
  split at ht
  · rename_i y e
    obtain ⟨v, hv, rv⟩ := I.d i y e
    refine ⟨v, hv, G, F, ε, _, _, I, ht, fun F1 H1 w o ε1 s1 k1 I1 r1 h1 => ?_, ok.x⟩
    split at h1
    · rename_i y' e'
      refine k.hr F1 H1 v w _ _ _ _ I1.sF (.inl (rv.mono s1)) (r1.b I1) h1 fun F2 H2 z d al rz hz => ?_
      exact ok.nx F2 H2 _ _ (s1.trans al.sF) ((I1.al al).setd (by unfold notPar; rw [e']; trivial) rz) hz
    · exact h1.elim
  · exact ht.elim
def ipAdd : D → D → (D → Prop) → Prop := dII0 fun i j => .int (i + j)
def ipSub : D → D → (D → Prop) → Prop := dII0 fun i j => .int (i - j)
def ip_addR : DIp X .Add ipAdd where
  r := _
  h := ip_add
  hr := fun F H v w x y q Q S rx ry hd hQ => by
    cases x <;> cases y <;> try exact hd.elim
    exact ⟨_, _, rx.int_, ry.int_, hQ F H _ _ (al_id S) (.int _) hd⟩
def ip_subR : DIp X .Sub ipSub where
  r := _
  h := ip_sub
  hr := fun F H v w x y q Q S rx ry hd hQ => by
    cases x <;> cases y <;> try exact hd.elim
    exact ⟨_, _, rx.int_, ry.int_, hQ F H _ _ (al_id S) (.int _) hd⟩
end
end Zd
namespace Zd
open PySem PySem.Spec L2 TL

/-! ### what is walked -/
/-- the iterator J tells just xs, whatever comes of the heap beyond F -/
def ItOk (K : PySem.W.Frag) (F : Hp) (J : It) (xs : List D) : Prop := ∀ F' H', Same F F' → Same F' H' →
  (∀ i x, xs[i]? = some x → J.go i H' ∧ ∀ v H2, J.yld i H' v H2 → ∃ F2, AL F' H' F2 H2 ∧ Rp K F2 v x) ∧ J.stop xs.length H'
abbrev TId := Env → (List D → Env → Prop) → XQ → Prop
def LI (K : PySem.W.Frag) (W : WX) (t : TId) : TI := fun σ H R => ∃ G F ε q xq, Iv K G F H σ ε ∧ t ε q xq ∧
  (∀ F' H' J xs ε', Same F F' → Kd ε ε' → Iv K G F' H' σ ε' → ItOk K F' J xs → q xs ε' → R J H') ∧ XE1 K W G F σ xq
structure DI (X : Cx) (W : WX) (tg iter : Expr) (t : TId) : Prop where
  pi : PI X tg iter (LI X.K W t)
theorem PI.conv {X : Cx} {tg iter : Expr} {t t' : TI} (h : PI X tg iter t) (c : ∀ σ H R, t' σ H R → t σ H R) : PI X tg iter t' := ⟨fun pins s σ H R I q => h.run pins s σ H R I (c σ H R q)⟩
/-- a list, a tuple or a text -/
def iSeq (K : PySem.W.Frag) (tl : TE) : TI := fun σ H R => tl σ H fun x H1 =>
  (∃ a, x = .ref a ∧ (∃ xs, SqL K H1 a xs) ∧ R (Itl K a) H1) ∨ (∃ a, x = .ref a ∧ (∃ xs, SqT K H1 a xs) ∧ R (Itt K a) H1) ∨ ∃ z, x = .str z ∧ R (Its z) H1
theorem pi_seq {X : Cx} {tg l : Expr} {tl : TE} (hl : PE X l tl) : PI X tg l (iSeq X.K tl) := by
  refine ⟨fun pins s σ H R I h => ?_⟩
  refine thn (hl.run pins s σ H _ I h) fun v s1 ⟨x, H1, I1, r1, q1⟩ => ?_
  rcases q1 with ⟨a, e, ⟨xs, hq⟩, q⟩ | ⟨a, e, ⟨xs, hq⟩, q⟩ | ⟨x, ex, q⟩
  · subst e
    cases r1
    obtain ⟨its, rv, p, hz⟩ := I1.list hq
    refine wpAny_pyIter_list p.isList ?_
    refine ⟨s1.heap.objs.size, [s1.heap.objs.size], _, _, H1, rfl, I1.kept (t' := s1.toks) fun b o e => Heap.get?_push_of_some _ e, turn_list a _, ⟨_, Heap.get?_push_size _ rfl, rfl, rfl⟩, fun b hb => ?_, q⟩
    have e : b = s1.heap.objs.size := by simpa using hb
    subst e
    exact I1.fpOk (Nat.le_refl _) (I1.hok.fresh (Nat.le_refl _))
  · subst e
    cases r1
    obtain ⟨its, rv, p, hz⟩ := I1.tuple hq
    refine wpAny_pyIter_tuple (show s1.heap.IsTuple a its.toArray from p) ?_
    refine ⟨s1.heap.objs.size, [s1.heap.objs.size], _, _, H1, rfl, I1.kept (t' := s1.toks) fun b o e => Heap.get?_push_of_some _ e, turn_tuple a _, ⟨_, Heap.get?_push_size _ rfl, rfl, rfl⟩, fun b hb => ?_, q⟩
    have e : b = s1.heap.objs.size := by simpa using hb
    subst e
    exact I1.fpOk (Nat.le_refl _) (I1.hok.fresh (Nat.le_refl _))
  · subst ex
    obtain ⟨t, rfl⟩ := r1
    cases ha : x.cps.all (· < 128)
    · exact wpAny_pyIter_wide ha (pi_one (tk := s1.toks) I1 _ (turn_str _ x t "str_iterator" (.inr rfl)) ⟨_, Heap.get?_push_size _ rfl, rfl, rfl⟩ q)
    · exact wpAny_pyIter_ascii ha (pi_one (tk := s1.toks) I1 _ (turn_str _ x t "str_ascii_iterator" (.inl rfl)) ⟨_, Heap.get?_push_size _ rfl, rfl, rfl⟩ q)
def itemsOf (x : D) (k : List D → Prop) : Prop := match x with
  | .lst xs => k xs
  | .ro xs => k xs
  | .tup xs => k xs
  | .str cs => k (cs.map fun c => .str [c])
  | _ => False
theorem RpL.none_ {K : PySem.W.Frag} {F : Hp} {vs : List V} {xs : List D} (r : RpL K F vs xs) : vs.length ≤ xs.length := by rw [r.length]; exact Nat.le_refl _
section
variable {X : Cx} {W : WX} {a b c : Expr} {ta tb tc : TD} {A B : TB} {pos : Pos} {tg iter : Expr} {ti : TId} {body : List Stmt} {t u : TSd} {g : TGd}
theorem itok_list {K : PySem.W.Frag} {F : Hp} {p : Addr} {vs : List V} {xs : List D} (hq : SqL K F p vs) (r : RpL K F vs xs) : ItOk K F (Itl K p) xs := fun F' H' s1 s2 => by
  have hq' : SqL K H' p vs := sqL_mono (s1.trans s2) hq
  refine ⟨fun i x hx => ?_, vs, hq', r.none_⟩
  obtain ⟨v, hv, rv⟩ := r.get' hx
  refine ⟨⟨vs, v, hq', hv⟩, fun w H2 ⟨e, hy⟩ => ?_⟩
  subst e
  have := hy vs hq'
  rw [hv] at this
  cases this
  exact ⟨F', al_id s2, rv.mono s1⟩
theorem itok_tup {K : PySem.W.Frag} {F : Hp} {p : Addr} {vs : List V} {xs : List D} (hq : SqT K F p vs) (r : RpL K F vs xs) : ItOk K F (Itt K p) xs := fun F' H' s1 s2 => by
  have hq' : SqT K H' p vs := sqT_mono (s1.trans s2) hq
  refine ⟨fun i x hx => ?_, vs, hq', r.none_⟩
  obtain ⟨v, hv, rv⟩ := r.get' hx
  refine ⟨⟨vs, v, hq', hv⟩, fun w H2 ⟨e, hy⟩ => ?_⟩
  subst e
  have := hy vs hq'
  rw [hv] at this
  cases this
  exact ⟨F', al_id s2, rv.mono s1⟩
theorem itok_str {K : PySem.W.Frag} {F : Hp} {cs : List Nat} (ha : Asc cs) : ItOk K F (Its (mk cs)) (cs.map fun c => .str [c]) := fun F' H' s1 s2 => by
  refine ⟨fun i x hx => ?_, by show (mk cs).cps.size ≤ _; simp [mk]⟩
  rw [List.getElem?_map] at hx
  cases e : cs[i]? with
  | none => rw [e] at hx; cases hx
  | some c =>
    rw [e] at hx
    cases hx
    have hi := (List.getElem?_eq_some_iff.mp e).1
    refine ⟨by show i < (mk cs).cps.size; simpa [mk] using hi, fun w H2 ⟨e2, c', hc, ew⟩ => ?_⟩
    subst e2 ew
    have e3 : (mk cs).cps[i]? = cs[i]? := by simp [mk]
    rw [e3, e] at hc
    cases hc
    exact ⟨F', al_id s2, Rp.str [c] fun k hk => by rw [List.mem_singleton.mp hk]; exact ha c (List.mem_of_getElem? e)⟩
theorem itok_rng {K : PySem.W.Frag} {F : Hp} {lo : Int} {n : Nat} : ItOk K F (Itr lo n) ((List.range n).map fun (i : Nat) => D.int (lo + i)) := fun F' H' s1 s2 => by
  refine ⟨fun i x hx => ?_, by show n ≤ _; simp⟩
  rw [List.getElem?_map] at hx
  cases e : (List.range n)[i]? with
  | none => rw [e] at hx; cases hx
  | some j =>
    rw [e] at hx
    cases hx
    obtain ⟨h1, h2⟩ := List.getElem?_eq_some_iff.mp e
    have h3 : i < n := by simpa using h1
    have h4 : i = j := by simpa using h2
    subst h4
    refine ⟨h3, fun w H2 ⟨e2, ew⟩ => ?_⟩
    subst e2 ew
    exact ⟨F', al_id s2, Rp.int _⟩
def iSeqD (ta : TD) : TId := fun ε q xq => ta ε (fun o ε1 => fz ε1 o fun x ε2 => itemsOf x fun xs => q xs ε2) xq
theorem di_seq (h : DE X W iter ta) : DI X W tg iter (iSeqD ta) := by
  refine ⟨PI.conv (pi_seq h.pe) fun σ H R ⟨G, F, ε, q, xq, I, ht, hq, hx⟩ => ?_⟩
  refine ⟨G, F, ε, _, xq, I, ht, fun F1 H1 v o ε1 s1 k1 I1 r1 h1 => ?_, hx⟩
  obtain ⟨F2, x, ε2, s2, k2, I2, r2, h2⟩ := fz_of I1 r1.w h1
  have S := I2.sF
  cases x with
  | lst xs =>
    cases r2 with
    | lst hp r => exact .inl ⟨_, rfl, ⟨_, .of (S _ _ hp)⟩, hq F2 H1 _ xs ε2 (s1.trans s2) (k1.trans k2) I2 (itok_list (.of hp) r) h2⟩
  | ro xs =>
    cases r2 with
    | ro hp r => exact .inl ⟨_, rfl, ⟨_, sqL_mono S hp⟩, hq F2 H1 _ xs ε2 (s1.trans s2) (k1.trans k2) I2 (itok_list hp r) h2⟩
  | tup xs =>
    cases r2 with
    | tup hp r => exact .inr (.inl ⟨_, rfl, ⟨_, sqT_mono S hp.sq⟩, hq F2 H1 _ xs ε2 (s1.trans s2) (k1.trans k2) I2 (itok_tup hp.sq r) h2⟩)
  | str cs =>
    cases r2 with
    | str _ ha => exact .inr (.inr ⟨_, rfl, hq F2 H1 _ _ ε2 (s1.trans s2) (k1.trans k2) I2 (itok_str ha) h2⟩)
  | _ => exact h2.elim
def rngOf (xs : List D) (k : List D → Prop) : Prop := match xs with
  | [.int j] => -(2 ^ 62) ≤ j ∧ j < 2 ^ 62 ∧ k ((List.range j.toNat).map fun (i : Nat) => .int i)
  | _ => False
def rngOf2 (xs : List D) (k : List D → Prop) : Prop := match xs with
  | [.int i, .int j] => (-(2 ^ 62) ≤ i ∧ i < 2 ^ 62 ∧ -(2 ^ 62) ≤ j ∧ j < 2 ^ 62) ∧ k ((List.range (j - i).toNat).map fun (m : Nat) => .int (i + m))
  | _ => False
def iRngD (t : TL) : TId := fun ε q xq => t ε (fun os ε1 => rngOf (os.map (Opd.get ε1)) fun xs => q xs ε1) xq
def iRng2D (t : TL) : TId := fun ε q xq => t ε (fun os ε1 => rngOf2 (os.map (Opd.get ε1)) fun xs => q xs ε1) xq
theorem di_range1 {ta : TL} (h : PI X tg iter (iRng1 (LA X.K W ta))) : DI X W tg iter (iRngD ta) := by
  refine ⟨PI.conv h fun σ H R ⟨G, F, ε, q, xq, I, ht, hq, hx⟩ => ?_⟩
  refine ⟨G, F, ε, _, xq, I, ht, fun F1 H1 vs os ε1 s1 k1 I1 r1 h1 => ?_, hx⟩
  have rb := r1.bs I1
  generalize os.map (Opd.get ε1) = xs at rb h1
  unfold rngOf at h1
  split at h1
  · rename_i j
    cases rb with
    | cons r0 rr =>
      cases rr
      rw [r0.int_]
      obtain ⟨h2, h3, h4⟩ := h1
      refine ⟨j, rfl, h2, h3, hq F1 H1 _ _ ε1 s1 k1 I1 itok_rng ?_⟩
      simpa using h4
  · exact h1.elim
theorem di_range2 {ta : TL} (h : PI X tg iter (iRng2 (LA X.K W ta))) : DI X W tg iter (iRng2D ta) := by
  refine ⟨PI.conv h fun σ H R ⟨G, F, ε, q, xq, I, ht, hq, hx⟩ => ?_⟩
  refine ⟨G, F, ε, _, xq, I, ht, fun F1 H1 vs os ε1 s1 k1 I1 r1 h1 => ?_, hx⟩
  have rb := r1.bs I1
  generalize os.map (Opd.get ε1) = xs at rb h1
  unfold rngOf2 at h1
  split at h1
  · rename_i i j
    cases rb with
    | cons r0 rr =>
      cases rr with
      | cons r1' rr' =>
        cases rr'
        rw [r0.int_, r1'.int_]
        exact ⟨i, j, rfl, h1.1, hq F1 H1 _ _ ε1 s1 k1 I1 itok_rng h1.2⟩
  · exact h1.elim

/-! ### loops -/
def forD (g : TGd) (t : TSd) : List D → DEnds → Env → Prop
  | [], Dn, ε => Dn.nx ε
  | x :: xs, Dn, ε => g x ε fun ε1 => t { Dn with nx := fun ε2 => forD g t xs Dn ε2, ct := fun ε2 => forD g t xs Dn ε2, bk := Dn.nx } ε1
def sFor (ti : TId) (g : TGd) (t : TSd) : TSd := fun Dn ε => ti ε (fun xs ε1 => forD g t xs Dn ε1) Dn.xq
theorem ds_for {r : TG} {vs : List Nat} (hp : PassesOwn (model X.prog X.w) X.A X.env X.xe) (hc : X.calm = true) (hi : DI X W tg iter ti) (hg : DG X tg r g vs) (hb : DSs X W body t)
    (hs : ∀ x, foldedSetIterable iter X.env x = pure x := by intro _; rfl) : DS X W (.For tg iter body [] pos) (sFor ti g t) := by
  refine ⟨PS.conv (ps_for hp hc hi.pi hg.pg hb.pss hs) fun De σ H ⟨G, F, ε, Dn, I, ht, ok⟩ => ?_⟩
  refine ⟨G, F, ε, _, _, I, ht, fun F1 H1 J xs ε1 s1 _ I1 it h1 => ?_, ok.x⟩
  refine ⟨fun i m σ' H' => ∃ F' ε', Same F1 F' ∧ Iv X.K G F' H' σ' ε' ∧ m = xs.length - i ∧ i ≤ xs.length ∧ forD g t (xs.drop i) Dn ε',
    ⟨xs.length, F1, ε1, .refl _, I1, by omega, Nat.zero_le _, by simpa using h1⟩, fun i m σ' H' ⟨F', ε', s', I', em, hi, hf⟩ => ?_⟩
  obtain ⟨go, stop⟩ := it F' H' s' I'.sF
  by_cases hlt : i < xs.length
  · have ex : xs[i]? = some xs[i] := List.getElem?_eq_getElem hlt
    obtain ⟨hgo, hy⟩ := go i _ ex
    refine .inr ⟨hgo, fun σ'' H'' => ∃ F'' ε'', Same F1 F'' ∧ Iv X.K G F'' H'' σ'' ε'' ∧ forD g t (xs.drop (i + 1)) Dn ε'', fun σ'' H'' ⟨F'', ε'', a, b, c⟩ => ⟨xs.length - (i + 1), by omega, F'', ε'', a, b, rfl, hlt, c⟩, fun v H2 y => ?_⟩
    obtain ⟨F2, al, rv⟩ := hy v H2 y
    rw [List.drop_eq_getElem_cons hlt] at hf
    refine hg.snd G F2 H2 σ' ε' v _ _ _ (I'.al al) rv hf fun σ3 ε3 I3 _ h3 => ?_
    have s3 : Same F1 F2 := s'.trans al.sF
    refine ⟨G, F2, ε3, _, I3, h3, fun F4 H4 σ4 ε4 s4 I4 h4 => ⟨F4, ε4, s3.trans s4, I4, h4⟩, fun F4 H4 σ4 ε4 v d s4 => ok.rt F4 H4 σ4 ε4 v d (s1.trans (s3.trans s4)), fun F4 H4 σ4 ε4 s4 => ok.nx F4 H4 σ4 ε4 (s1.trans (s3.trans s4)),
      fun F4 H4 σ4 ε4 s4 I4 h4 => ⟨F4, ε4, s3.trans s4, I4, h4⟩, fun F4 H4 σ4 ε4 e cls d s4 => ok.xq F4 H4 σ4 ε4 e cls d (s1.trans (s3.trans s4)), fun F4 H4 σ4 ε4 i p c s4 => ok.ro F4 H4 σ4 ε4 i p c (s1.trans (s3.trans s4))⟩
  · have e : i = xs.length := by omega
    subst e
    rw [List.drop_length] at hf
    exact .inl ⟨stop, ok.nx F' H' σ' ε' (s1.trans s') I' hf⟩
def whileD (A : TB) (t : TSd) : Nat → DEnds → Env → Prop
  | 0, _, _ => False
  | n + 1, Dn, ε => A ε (fun b ε1 => if b = true then t { Dn with nx := fun ε2 => whileD A t n Dn ε2, ct := fun ε2 => whileD A t n Dn ε2, bk := Dn.nx } ε1 else Dn.nx ε1) Dn.xq
def sWhile (A : TB) (t : TSd) : TSd := fun Dn ε => ∃ n, whileD A t n Dn ε
theorem ds_while (hp : PassesOwn (model X.prog X.w) X.A X.env X.xe) (hc : DT X W c A) (hb : DSs X W body t) : DS X W (.While c body [] pos) (sWhile A t) := by
  refine ⟨PS.conv (ps_while hp hc.pt hb.pss) fun De σ H ⟨G, F, ε, Dn, I, ⟨n, ht⟩, ok⟩ => ?_⟩
  refine ⟨fun m σ' H' => ∃ F' ε', Same F F' ∧ Iv X.K G F' H' σ' ε' ∧ whileD A t m Dn ε', ⟨n, F, ε, .refl _, I, ht⟩, fun m σ' H' ⟨F', ε', s', I', hw⟩ => ?_⟩
  cases m with
  | zero => exact hw.elim
  | succ m =>
    refine ⟨G, F', ε', _, _, I', hw, fun F1 H1 b ε1 s1 k1 I1 h1 => ?_, (ok.mono s').x⟩
    have s2 := s'.trans s1
    cases b with
    | false => exact ok.nx F1 H1 σ' ε1 s2 I1 h1
    | true =>
      refine ⟨fun σ4 H4 => ∃ F4 ε4, Same F F4 ∧ Iv X.K G F4 H4 σ4 ε4 ∧ whileD A t m Dn ε4, fun σ4 H4 z => ⟨m, Nat.lt_succ_self m, z⟩, G, F1, ε1, _, I1, h1, fun F4 H4 σ4 ε4 s4 I4 h4 => ⟨F4, ε4, s2.trans s4, I4, h4⟩, fun F4 H4 σ4 ε4 v d s4 => ok.rt F4 H4 σ4 ε4 v d (s2.trans s4), fun F4 H4 σ4 ε4 s4 => ok.nx F4 H4 σ4 ε4 (s2.trans s4),
        fun F4 H4 σ4 ε4 s4 I4 h4 => ⟨F4, ε4, s2.trans s4, I4, h4⟩, fun F4 H4 σ4 ε4 e cls d s4 => ok.xq F4 H4 σ4 ε4 e cls d (s2.trans s4), fun F4 H4 σ4 ε4 i p c s4 => ok.ro F4 H4 σ4 ε4 i p c (s2.trans s4)⟩
end

/-! ### new lists of one's own -/
abbrev TN := Env → (OC → Env → Prop) → XQ → Prop
def LN (K : PySem.W.Frag) (W : WX) (t : TN) : TE := fun σ H Q => ∃ G F ε q xq, Iv K G F H σ ε ∧ t ε q xq ∧
  (∀ F' H' p ho c ε', Same F F' → Kd ε ε' → Iv K G F' H' σ ε' → H' p = some ho → F' p = none → G.H0 p = none → (∀ i, σ[i]? = some (some (.ref p)) → ownAt ε' i = none) → OcOk K F' ho c → q c ε' → Q (.ref p) H') ∧ XE1 K W G F σ xq
structure DN (X : Cx) (W : WX) (e : Expr) (t : TN) : Prop where
  pe : PE X e (LN X.K W t)
section
variable {K : PySem.W.Frag} {G : Gd} {F H F' H' : Hp} {σ : L2.St} {ε : Env}
/-- a new object that is not yet anyone's -/
theorem Iv.laid {p : Addr} {ho : HO} (I : Iv K G F H σ ε) (h : H p = none) : Iv K G F (upd H p ho) σ ε ∧ F p = none ∧ G.H0 p = none ∧ ∀ i, σ[i]? = some (some (.ref p)) → ownAt ε i = none := by
  have hF := I.sF.free h
  have h0 := I.sH.free h
  refine ⟨⟨I.s0, fun a o q => by rw [upd_ne (ne_of_none q hF)]; exact I.sF a o q, fun a o q => by rw [upd_ne (ne_of_none q h0)]; exact I.sH a o q, I.fr, I.len, I.d, fun i c e => ?_, I.dis, I.pn, I.tb.anyH fun p' hp' ps' e' => by rw [upd_ne (I.tb.ne0 h p' hp')]; exact e', I.gh⟩, hF, h0, fun i e => ?_⟩
  · obtain ⟨a, o, h1, h2, h3, h4, h5⟩ := I.o i c e
    exact ⟨a, o, h1, h2, h3, by rw [upd_ne (ne_of_none h4 h)]; exact h4, h5⟩
  · cases z : ownAt ε i with
    | none => rfl
    | some c =>
      obtain ⟨a, o, h1, h2, h3, h4, h5⟩ := I.o i c z
      rw [e] at h1
      cases h1
      rw [h] at h4
      cases h4
/-- .. is settled -/
theorem Iv.give {p : Addr} {ho : HO} {c : OC} (I : Iv K G F H σ ε) (h1 : H p = some ho) (h2 : F p = none) (h3 : G.H0 p = none) (h4 : ∀ i, σ[i]? = some (some (.ref p)) → ownAt ε i = none) (h5 : OcOk K F ho c) :
    Same F (upd F p ho) ∧ Iv K G (upd F p ho) H σ ε ∧ Rp K (upd F p ho) (.ref p) c.d := by
  have S : Same F (upd F p ho) := Same.new h2
  refine ⟨S, ⟨I.s0.trans S, fun a o q => ?_, I.sH, fun a a1 a2 => ?_, I.len, fun i x e => ?_, fun i c e => ?_, I.dis, I.pn, I.tb.mk' S (fun _ _ _ e => e) (fun p' hp' z _ _ => by rw [upd_ne (I.tb.ne h1 (ocok_tbl h5) p' hp')]; exact z) (fun _ _ z _ _ => z), I.gh⟩, ?_⟩
  · by_cases ea : a = p
    · subst ea; rw [upd_same] at q; rw [h1]; exact q
    · rw [upd_ne ea] at q; exact I.sF a o q
  · rw [upd_ne (fun z => a2 (by rw [z]; exact h3))]
    exact I.fr a a1 a2
  · obtain ⟨v, a1, a2⟩ := I.d i x e
    exact ⟨v, a1, a2.mono S⟩
  · obtain ⟨a, o, b1, b2, b3, b4, b5⟩ := I.o i c e
    have ne : a ≠ p := fun z => by
      subst z
      have := h4 i b1
      rw [e] at this
      cases this
    exact ⟨a, o, b1, b2, by rw [upd_ne ne]; exact b3, b4, b5.mono S⟩
  · cases c with
    | lst xs =>
      cases ho with
      | lst vs => exact .lst upd_same (RpL.mono S h5)
      | _ => exact h5.elim
    | dic xs =>
      cases ho with
      | dK vs => exact .dic upd_same (RpD.mono S h5)
      | _ => exact h5.elim
    | ob n xs =>
      cases ho with
      | ins C dx vs => exact .obj upd_same h5.1 h5.2.2.1 (RpF.mono S h5.2.2.2)
      | _ => exact h5.elim
def Gd.plus (G : Gd) (a : Addr) (o : HO) : Gd := { G with H0 := upd G.H0 a o }
theorem Iv.plus {a : Addr} {o : HO} (I : Iv K G F H σ ε) (h : H a = some o) (hF : F a = none) (h4 : ∀ i, σ[i]? = some (some (.ref a)) → ownAt ε i = none) (ht : ∀ ps, o ≠ .tbl ps := by intro _ z; cases z) : Iv K (G.plus a o) F H σ ε where
  gh := I.gh
  tb := I.tb.mk' (.refl _) (fun _ _ _ e => e) (fun _ _ z _ _ => z) fun p' hp' z _ _ => by rw [show (G.plus a o).H0 p'.1 = G.H0 p'.1 from upd_ne (I.tb.ne h ht p' hp')]; exact z
  s0 := I.s0
  sF := I.sF
  sH := fun b u q => by
    by_cases eb : b = a
    · subst eb
      rw [show (G.plus b o).H0 b = some o from upd_same] at q
      cases q; exact h
    · rw [show (G.plus a o).H0 b = G.H0 b from upd_ne eb] at q
      exact I.sH b u q
  fr := fun p h0 h1 => by
    by_cases eb : p = a
    · rw [eb]; exact hF
    · rw [show (G.plus a o).H0 p = G.H0 p from upd_ne eb] at h1
      exact I.fr p h0 h1
  len := I.len
  d := I.d
  o := fun i c e => by
    obtain ⟨b, u, b1, b2, b3, b4, b5⟩ := I.o i c e
    have ne : b ≠ a := fun z => by
      subst z
      have := h4 i b1
      rw [e] at this
      cases this
    exact ⟨b, u, b1, by rw [show (G.plus a o).H0 b = G.H0 b from upd_ne ne]; exact b2, b3, b4, b5⟩
  dis := I.dis
  pn := I.pn
theorem Iv.bump {a : Addr} {o o' : HO} (I : Iv K (G.plus a o) F H σ ε) (hF : F a = none) : Iv K (G.plus a o') F (upd H a o') σ ε where
  gh := I.gh
  tb := by
    have ne : ∀ p ∈ G.tb, p.1 ≠ a := fun p hp z => by
      obtain ⟨_, _, h0⟩ := I.tb p hp
      rw [z, show (G.plus a o).H0 a = some o from upd_same] at h0
      cases h0
    exact I.tb.mk' (.refl _) (fun p hp ps e => by rw [upd_ne (ne p hp)]; exact e) (fun _ _ z _ _ => z) fun p hp z _ _ => by
      rw [show (G.plus a o').H0 p.1 = G.H0 p.1 from upd_ne (ne p hp)]
      rwa [show (G.plus a o).H0 p.1 = G.H0 p.1 from upd_ne (ne p hp)] at z
  s0 := I.s0
  sF := fun b u q => by rw [upd_ne (ne_of_none q hF)]; exact I.sF b u q
  sH := fun b u q => by
    by_cases eb : b = a
    · subst eb
      rw [show (G.plus b o').H0 b = some o' from upd_same] at q
      rw [upd_same]; exact q
    · rw [show (G.plus a o').H0 b = G.H0 b from upd_ne eb] at q
      rw [upd_ne eb]
      exact I.sH b u (by rw [show (G.plus a o).H0 b = G.H0 b from upd_ne eb]; exact q)
  fr := fun p h0 h1 => by
    by_cases eb : p = a
    · rw [eb]; exact hF
    · refine I.fr p h0 ?_
      rw [show (G.plus a o).H0 p = G.H0 p from upd_ne eb]
      rw [show (G.plus a o').H0 p = G.H0 p from upd_ne eb] at h1
      exact h1
  len := I.len
  d := I.d
  o := fun i c e => by
    obtain ⟨b, u, b1, b2, b3, b4, b5⟩ := I.o i c e
    have ne : b ≠ a := fun z => by
      subst z
      rw [show (G.plus b o).H0 b = some o from upd_same] at b2
      cases b2
    refine ⟨b, u, b1, ?_, b3, by rw [upd_ne ne]; exact b4, b5⟩
    rw [show (G.plus a o').H0 b = G.H0 b from upd_ne ne]
    rw [show (G.plus a o).H0 b = G.H0 b from upd_ne ne] at b2
    exact b2
  dis := I.dis
  pn := I.pn
theorem Iv.minus {a : Addr} {o : HO} (I : Iv K (G.plus a o) F H σ ε) (h0 : G.H0 a = none) : Iv K G F H σ ε ∧ ∀ i, σ[i]? = some (some (.ref a)) → ownAt ε i = none := by
  refine ⟨⟨I.s0, I.sF, fun b u q => I.sH b u ?_, fun p h1 h2 => I.fr p h1 ?_, I.len, I.d, fun i c e => ?_, I.dis, I.pn, I.tb.mk' (.refl _) (fun _ _ _ e => e) (fun _ _ z _ _ => z) fun p hp z _ _ => by
    have ne : p.1 ≠ a := fun e => by
      rw [e, show (G.plus a o).H0 a = some o from upd_same] at z
      cases z
    rwa [show (G.plus a o).H0 p.1 = G.H0 p.1 from upd_ne ne] at z, I.gh⟩, fun i e => ?_⟩
  · rw [show (G.plus a o).H0 b = G.H0 b from upd_ne (ne_of_none q h0)]; exact q
  · rw [show (G.plus a o).H0 p = G.H0 p from upd_ne (fun z => h2 (by rw [z]; exact h0))]; exact h2
  · obtain ⟨b, u, b1, b2, b3, b4, b5⟩ := I.o i c e
    have ne : b ≠ a := fun z => by
      subst z
      rw [show (G.plus b o).H0 b = some o from upd_same] at b2
      cases b2
    exact ⟨b, u, b1, by rw [← show (G.plus a o).H0 b = G.H0 b from upd_ne ne]; exact b2, b3, b4, b5⟩
  · cases z : ownAt ε i with
    | none => rfl
    | some c =>
      obtain ⟨b, u, b1, b2, b3, b4, b5⟩ := I.o i c z
      rw [e] at b1
      cases b1
      rw [show (G.plus a o).H0 a = some o from upd_same] at b2
      cases b2
end
section
variable {X : Cx} {W : WX} {a b c : Expr} {ta tb tc : TD} {A B : TB} {pos : Pos} {tg iter : Expr} {ti : TId} {t : TN}
def dNew (t : TN) : TD := fun ε q xq => t ε (fun c ε1 => q (.d c.d) ε1) xq
theorem ln_le {te : TE} (h : ∀ σ H Q, LN X.K W t σ H Q → te σ H Q) (σ : L2.St) (H : Hp) (Q : VK) : LE X.K W (dNew t) σ H Q → te σ H Q := fun ⟨G, F, ε, q, xq, I, ht, hq, hx⟩ => by
  refine h σ H Q ⟨G, F, ε, _, xq, I, ht, fun F1 H1 p ho c ε1 s1 k1 I1 h1 h2 h3 h4 h5 hk => ?_, hx⟩
  obtain ⟨S, I2, r⟩ := I1.give h1 h2 h3 h4 h5
  exact hq _ H1 _ (.d c.d) ε1 (s1.trans S) k1 I2 r hk
theorem de_new {e : Expr} (h : DN X W e t) : DE X W e (dNew t) := ⟨PE.conv h.pe (ln_le fun _ _ _ q => q)⟩
def nLst (t : TL) : TN := fun ε q xq => t ε (fun os ε1 => os.length ≤ sizeLine ∧ fzs ε1 os fun xs ε2 => q (.lst xs) ε2) xq
theorem dn_lst {es : List Expr} {t : TL} (h : DA X W es t) : DN X W (.List es pos) (nLst t) := by
  refine ⟨PE.conv (pe_lst h.pa) fun σ H Q h => ?_⟩
  obtain ⟨G, F, ε, q, xq, I, ht, hq, hx⟩ := h
  refine ⟨G, F, ε, _, xq, I, ht, fun F1 H1 vs os ε1 s1 k1 I1 r1 h1 => ⟨by rw [r1.len]; exact h1.1, fun p hp => ?_⟩, hx⟩
  obtain ⟨F2, xs, ε2, s2, k2, I2, r, hk⟩ := fzs_of I1 r1.ws h1.2
  obtain ⟨I3, a1, a2, a3⟩ := I2.laid (ho := .lst vs) hp
  exact hq _ _ p _ (.lst xs) ε2 (s1.trans s2) (k1.trans k2) I3 upd_same a1 a2 a3 r hk
/-- x = a new list, of one's own -/
def sSetO (i : Nat) (t : TN) : TSd := fun Dn ε => t ε (fun c ε1 => notPar ε1 i ∧ Dn.nx (ε1.set i (.own c))) Dn.xq
theorem seto_of {i : Nat} {te : TE} (h : ∀ σ H Q, LN X.K W t σ H Q → te σ H Q) (De : Ends) (σ : L2.St) (H : Hp) : LS X.K W (sSetO i t) De σ H → tAsg te (gName i) De σ H := fun ⟨G, F, ε, Dn, I, ht, ok⟩ => by
  refine h σ H _ ⟨G, F, ε, _, _, I, ht, fun F1 H1 p ho c ε1 s1 k1 I1 h1 h2 h3 h4 h5 hk => ?_, ok.x⟩
  exact ok.nx F1 H1 _ _ s1 (I1.seto hk.1 h1 h2 h3 h4 h5) hk.2
theorem ds_seto {x : Str} {i : Nat} {p : Pos} (h : DN X W a t) (hN : X.N.Nodup) (hi : X.N[i]? = some x) (hx : L2.Loc X.env.scope x) (hs : swapsWith a (some (.Name x p)) pos.line X.env = pure false := by rfl)
    (hf : X.fn x = true ∨ X.env.scope.names.lookup x = some .local := by first | exact .inl rfl | exact .inr rfl) : DS X W (.Assign [.Name x p] a pos) (sSetO i t) :=
  ⟨PS.conv (ps_set hN hi hx h.pe hs hf) (seto_of fun _ _ _ q => q)⟩
end
end Zd
namespace Zd
open PySem PySem.Spec L2 TL

/-! ### comprehensions -/
def wipeE (ε : Env) : List Nat → Env
  | [] => ε
  | v :: vs => (wipeE ε vs).set v .no
/-- the slots vs as they were in ε -/
def unw (ε η : Env) : List Nat → Env
  | [] => η
  | v :: vs => (unw ε η vs).set v (match ε[v]? with
    | some s => s
    | none => .no)
def noOwn (ε : Env) (vs : List Nat) : Prop := ∀ v ∈ vs, ownAt ε v = none
theorem wipeE_len (ε : Env) : ∀ vs : List Nat, (wipeE ε vs).length = ε.length
  | [] => rfl
  | v :: vs => by unfold wipeE; rw [List.length_set, wipeE_len ε vs]
theorem unw_len (ε η : Env) : ∀ vs : List Nat, (unw ε η vs).length = η.length
  | [] => rfl
  | v :: vs => by unfold unw; rw [List.length_set, unw_len ε η vs]
section
variable {K : PySem.W.Frag} {G : Gd} {F H F' H' : Hp} {σ : L2.St} {ε : Env}
theorem wipeE_own : ∀ {vs : List Nat} {i : Nat}, ownAt (wipeE ε vs) i ≠ none → ownAt ε i ≠ none
  | [], _, h => h
  | v :: vs, i, h => by
    unfold wipeE at h
    by_cases e : i = v
    · subst e
      cases z : ownAt ((wipeE ε vs).set i .no) i with
      | none => exact absurd z h
      | some c =>
        rcases own_set z with ⟨_, e2⟩ | ⟨e1, _⟩
        · cases e2
        · exact absurd rfl e1
    · rw [own_set_ne e] at h
      exact wipeE_own h
theorem Iv.wipe (I : Iv K G F H σ ε) : ∀ {vs : List Nat}, noOwn ε vs → Iv K G F H (L2.wipe σ vs) (wipeE ε vs)
  | [], _ => I
  | v :: vs, h => by
    have J := Iv.wipe I (vs := vs) fun w hw => h w (List.mem_cons_of_mem _ hw)
    unfold L2.wipe wipeE
    refine J.forget ?_
    cases z : ownAt (wipeE ε vs) v with
    | none => rfl
    | some c => exact absurd (h v List.mem_cons_self) (wipeE_own (by rw [z]; simp))
theorem wipe_get {σ σ' : L2.St} {vs : List Nat} {j : Nat} (e : L2.wipe σ' vs = L2.wipe σ vs) (h : j ∉ vs) : σ'[j]? = σ[j]? := by
  have key : ∀ (τ : L2.St) (us : List Nat), j ∉ us → (L2.wipe τ us)[j]? = τ[j]? := by
    intro τ us
    induction us with
    | nil => intro _; rfl
    | cons u r ih =>
      intro hj
      unfold L2.wipe
      rw [List.getElem?_set_ne fun z => hj (by rw [z]; exact List.mem_cons_self), ih fun z => hj (List.mem_cons_of_mem _ z)]
  rw [← key σ' vs h, e, key σ vs h]
theorem unw_get {ε η : Env} : ∀ {vs : List Nat} {j : Nat}, j < η.length → η.length = ε.length → (unw ε η vs)[j]? = if j ∈ vs then ε[j]? else η[j]?
  | [], _, _, _ => by simp [unw]
  | v :: vs, j, hj, hl => by
    unfold unw
    by_cases e : v = j
    · subst e
      rw [List.getElem?_set_self (by rw [unw_len]; exact hj), if_pos List.mem_cons_self]
      have : v < ε.length := by omega
      rw [List.getElem?_eq_getElem this]
    · rw [List.getElem?_set_ne e, unw_get hj hl]
      have : j ∈ v :: vs ↔ j ∈ vs := by
        rw [List.mem_cons]
        exact ⟨fun h => h.elim (fun z => absurd z.symm e) id, .inr⟩
      simp only [this]
theorem unw_own {η : Env} {vs : List Nat} (hl : η.length = ε.length) (hn : noOwn ε vs) {j : Nat} {c : OC} (h : ownAt (unw ε η vs) j = some c) : j ∉ vs ∧ ownAt η j = some c := by
  have hj : j < η.length := by have := own_lt h; rw [unw_len] at this; exact this
  unfold ownAt at h
  rw [unw_get hj hl] at h
  by_cases e : j ∈ vs
  · rw [if_pos e] at h
    have := hn j e
    unfold ownAt at this
    rw [this] at h
    cases h
  · rw [if_neg e] at h
    exact ⟨e, h⟩
/-- back behind a turn -/
theorem Iv.unw {F0 H0 : Hp} {G0 : Gd} {σ2 : L2.St} {η : Env} {vs : List Nat} (I0 : Iv K G0 F0 H0 σ ε) (I : Iv K G F H σ2 η) (hs : Same F0 F) (hw : L2.wipe σ2 vs = L2.wipe (L2.wipe σ vs) vs) (hn : noOwn ε vs) (hp : G.pn = G0.pn) (ht : G.tb = G0.tb := by rfl) : Iv K G F H σ (unw ε η vs) := by
  have hl2 : σ2.length = σ.length := by
    have := congrArg List.length hw
    rw [wipe_length, wipe_length, wipe_length] at this
    exact this
  have hl : η.length = ε.length := by rw [← I.len, hl2, I0.len]
  have gs : ∀ j, j ∉ vs → σ2[j]? = σ[j]? := fun j hj => by
    rw [wipe_get hw hj]
    have key : ∀ (τ : L2.St) (us : List Nat), j ∉ us → (L2.wipe τ us)[j]? = τ[j]? := by
      intro τ us
      induction us with
      | nil => intro _; rfl
      | cons u r ih =>
        intro hj
        unfold L2.wipe
        rw [List.getElem?_set_ne fun z => hj (by rw [z]; exact List.mem_cons_self), ih fun z => hj (List.mem_cons_of_mem _ z)]
    exact key σ vs hj
  refine ⟨I.s0, I.sF, I.sH, I.fr, by rw [unw_len, hl, I0.len], fun j x e => ?_, fun j c e => ?_, fun i j p hij hi hj e => ?_, fun ip hm => ?_, I.tb, fun j T e => by
    have hj : j < η.length := by have := (List.getElem?_eq_some_iff.mp e).1; rw [unw_len] at this; exact this
    rw [unw_get hj hl] at e
    by_cases ev : j ∈ vs
    · rw [if_pos ev] at e
      rw [ht]; exact I0.gh j T e
    · rw [if_neg ev] at e
      exact I.gh j T e⟩
  · have hj : j < η.length := by have := (List.getElem?_eq_some_iff.mp e).1; rw [unw_len] at this; exact this
    rw [unw_get hj hl] at e
    by_cases ev : j ∈ vs
    · rw [if_pos ev] at e
      obtain ⟨v, h1, h2⟩ := I0.d j x e
      exact ⟨v, h1, h2.mono hs⟩
    · rw [if_neg ev] at e
      obtain ⟨v, h1, h2⟩ := I.d j x e
      exact ⟨v, by rw [← gs j ev]; exact h1, h2⟩
  · obtain ⟨ev, e2⟩ := unw_own hl hn e
    obtain ⟨p, ho, h1, h2⟩ := I.o j c e2
    exact ⟨p, ho, by rw [← gs j ev]; exact h1, h2⟩
  · cases z1 : ownAt (Zd.unw ε η vs) i with
    | none => exact absurd z1 hi
    | some c1 =>
      cases z2 : ownAt (Zd.unw ε η vs) j with
      | none => exact absurd z2 hj
      | some c2 =>
        obtain ⟨v1, o1⟩ := unw_own hl hn z1
        obtain ⟨v2, o2⟩ := unw_own hl hn z2
        rw [← gs j v2]
        rw [← gs i v1] at e
        exact I.dis i j p hij (by rw [o1]; simp) (by rw [o2]; simp) e
  · obtain ⟨h1, c, h2⟩ := I.pn ip hm
    obtain ⟨h3, c', h4⟩ := I0.pn ip (by rw [← hp]; exact hm)
    have hj : ip.1 < η.length := (List.getElem?_eq_some_iff.mp h2).1
    refine ⟨h3, ?_⟩
    rw [unw_get hj hl]
    by_cases ev : ip.1 ∈ vs
    · rw [if_pos ev]; exact ⟨c', h4⟩
    · rw [if_neg ev]; exact ⟨c, h2⟩
theorem unw_kd {η : Env} {vs : List Nat} (hl : η.length = ε.length) (k : ∀ i, i ∉ vs → datAt ε i ≠ none → datAt η i ≠ none) : Kd ε (unw ε η vs) := fun j hj => by
  have hjl : j < η.length := by
    rw [hl]
    unfold datAt at hj
    cases e : ε[j]? with
    | none => rw [e] at hj; exact absurd rfl hj
    | some s => exact (List.getElem?_eq_some_iff.mp e).1
  unfold datAt
  rw [unw_get hjl hl]
  by_cases ev : j ∈ vs
  · rw [if_pos ev]; exact hj
  · rw [if_neg ev]; exact k j ev hj
theorem wipeE_dat {vs : List Nat} {j : Nat} (h : j ∉ vs) : datAt (wipeE ε vs) j = datAt ε j := by
  induction vs with
  | nil => rfl
  | cons v r ih =>
    unfold wipeE
    rw [dat_set_ne fun z => h (by rw [z]; exact List.mem_cons_self), ih fun z => h (List.mem_cons_of_mem _ z)]
end
abbrev xNo : XQ := fun _ _ => False
abbrev WNo : WX := fun _ _ _ _ => False
theorem x1No {K : PySem.W.Frag} {G : Gd} {F : Hp} {σ : L2.St} : XE1 K WNo G F σ xNo := fun _ _ _ _ _ _ _ _ _ h => h
/-- turn by turn: the slots vs are the comprehension's own -/
def lcD (vs : List Nat) (g : TGd) (A : TB) (te : TD) : List D → List D → Env → (List D → Env → Prop) → Prop
  | [], acc, ε, k => k acc ε
  | x :: xs, acc, ε, k => noOwn ε vs ∧ g x (wipeE ε vs) fun η1 => A η1 (fun b η2 =>
      if b = true then te η2 (fun o η3 => fz η3 o fun y η4 => acc.length < sizeLine ∧ lcD vs g A te xs (acc ++ [y]) (unw ε η4 vs) k) xNo
      else lcD vs g A te xs acc (unw ε η2 vs) k) xNo
def nLc (ti : TId) (vs : List Nat) (g : TGd) (A : TB) (te : TD) : TN := fun ε q xq => ti ε (fun xs ε1 => lcD vs g A te xs [] ε1 fun acc ε2 => q (.lst acc) ε2) xq
/-- a target keeps the kinds of the others -/
def GKd (g : TGd) (vs : List Nat) : Prop := ∀ x ε k, g x ε k → g x ε fun ε' => k ε' ∧ ε'.length = ε.length ∧ ∀ i, i ∉ vs → datAt ε' i = datAt ε i
theorem gkd_n {i : Nat} : GKd (gN i) [i] := fun x ε k ⟨h1, h2⟩ => ⟨h1, h2, by simp, fun j hj => dat_set_ne (by simpa using hj)⟩
def GsKd (g : TGsd) (vs : List Nat) : Prop := ∀ xs ε k, g xs ε k → g xs ε fun ε' => k ε' ∧ ε'.length = ε.length ∧ ∀ i, i ∉ vs → datAt ε' i = datAt ε i
theorem gskd_nil {vs : List Nat} : GsKd gNil0 vs := fun xs ε k h => by
  cases xs with
  | nil => exact ⟨h, rfl, fun _ _ => rfl⟩
  | cons _ _ => exact h.elim
theorem gskd_n {i : Nat} {r : TGsd} {vs : List Nat} (h : GsKd r vs) (hi : i ∈ vs := by decide) : GsKd (gCons0 (gN i) r) vs := fun xs ε k q => by
  cases xs with
  | nil => exact q.elim
  | cons x xs =>
    obtain ⟨q1, q2⟩ := q
    refine ⟨q1, ?_⟩
    have q3 := h _ _ _ q2
    have e : (fun ε' => k ε' ∧ ε'.length = (ε.set i (.d x)).length ∧ ∀ j, j ∉ vs → datAt ε' j = datAt (ε.set i (.d x)) j) = (fun ε' => k ε' ∧ ε'.length = ε.length ∧ ∀ j, j ∉ vs → datAt ε' j = datAt ε j) := by
      funext ε'
      apply propext
      constructor
      · rintro ⟨a, b, c⟩
        exact ⟨a, by rw [b]; simp, fun j hj => by rw [c j hj]; exact dat_set_ne fun z => hj (by rw [z]; exact hi)⟩
      · rintro ⟨a, b, c⟩
        exact ⟨a, by rw [b]; simp, fun j hj => by rw [c j hj]; exact (dat_set_ne fun z => hj (by rw [z]; exact hi)).symm⟩
    rw [← e]
    exact q3
theorem gkd_tup {r : TGsd} {vs : List Nat} (h : GsKd r vs) : GKd (gTup0 r) vs := fun x ε k q => by
  cases x <;> try exact q.elim
  exact h _ _ _ q
theorem wipe_at (τ : L2.St) (us : List Nat) (j : Nat) : (L2.wipe τ us)[j]? = if j ∈ us then (if j < τ.length then some none else none) else τ[j]? := by
  induction us with
  | nil => simp [L2.wipe]
  | cons u r ih =>
    unfold L2.wipe
    by_cases hu : u = j
    · subst hu
      by_cases hl : u < τ.length
      · rw [List.getElem?_set_self (by rw [wipe_length]; exact hl)]; simp [hl]
      · rw [List.getElem?_eq_none (by rw [List.length_set, wipe_length]; omega)]; simp [hl]
    · rw [List.getElem?_set_ne hu, ih]
      have : j ∈ u :: r ↔ j ∈ r := by
        rw [List.mem_cons]
        exact ⟨fun h => h.elim (fun z => absurd z.symm hu) id, .inr⟩
      simp only [this]
theorem wipe_idem (σ : L2.St) (vs : List Nat) : L2.wipe (L2.wipe σ vs) vs = L2.wipe σ vs := by
  apply List.ext_getElem?
  intro j
  rw [wipe_at, wipe_at, wipe_length]
  by_cases h : j ∈ vs
  · simp [h]
  · simp [h]
theorem lc_of {K : PySem.W.Frag} {W : WX} {ti : TId} {r : TG} {g : TGd} {vs : List Nat} {A : TB} {te : TD} (snd : GSnd K r g vs) (gk : GKd g vs) (σ : L2.St) (H : Hp) (Q : VK) :
    LN K W (nLc ti vs g A te) σ H Q → tLc (LI K W ti) r (LT K WNo A) (LE K WNo te) vs σ H Q := fun ⟨G, F, ε, q, xq, I, ht, hq, hx⟩ => by
  refine ⟨G, F, ε, _, xq, I, ht, fun F1 H1 J xs ε1 s1 k1 I1 it h1 => ?_, hx⟩
  intro Dl hD
  obtain ⟨J1, e1, e2, e3⟩ := I1.laid (ho := .lst []) hD
  refine ⟨fun i m H' => ∃ F' ε' accV acc, Same F1 F' ∧ Kd ε1 ε' ∧ Iv K (G.plus Dl (.lst accV)) F' H' σ ε' ∧ H' Dl = some (.lst accV) ∧ F' Dl = none ∧ RpL K F' accV acc ∧ m = xs.length - i ∧ i ≤ xs.length ∧ lcD vs g A te (xs.drop i) acc ε' fun acc ε2 => q (.lst acc) ε2,
    ⟨xs.length, F1, ε1, [], [], .refl _, .refl _, J1.plus upd_same e1 e3, upd_same, e1, .nil, by omega, Nat.zero_le _, by simpa using h1⟩, ?_⟩
  rintro i m H' ⟨F', ε', accV, acc, s', k', I', hDl, fDl, ra, em, hi, hl⟩
  obtain ⟨go, stop⟩ := it F' H' s' I'.sF
  by_cases hlt : i < xs.length
  · have ex : xs[i]? = some xs[i] := List.getElem?_eq_getElem hlt
    obtain ⟨hgo, hy⟩ := go i _ ex
    rw [List.drop_eq_getElem_cons hlt] at hl
    obtain ⟨hno, hl⟩ := hl
    refine .inr ⟨hgo, fun H'' => ∃ F'' ε'' accV' acc', Same F1 F'' ∧ Kd ε1 ε'' ∧ Iv K (G.plus Dl (.lst accV')) F'' H'' σ ε'' ∧ H'' Dl = some (.lst accV') ∧ F'' Dl = none ∧ RpL K F'' accV' acc' ∧ lcD vs g A te (xs.drop (i + 1)) acc' ε'' fun acc ε2 => q (.lst acc) ε2,
      fun H'' ⟨F'', ε'', accV', acc', b1, b2, b3, b4, b5, b6, b7⟩ => ⟨xs.length - (i + 1), by omega, F'', ε'', accV', acc', b1, b2, b3, b4, b5, b6, rfl, hlt, b7⟩, fun v H2 y => ?_⟩
    obtain ⟨F2, al, rv⟩ := hy v H2 y
    have I2 := I'.al al
    have f0 : G.F0 Dl = none := Same.free I'.s0 fDl
    have h0 : (G.plus Dl (.lst accV)).H0 Dl ≠ none := by rw [show (G.plus Dl (.lst accV)).H0 Dl = some (.lst accV) from upd_same]; simp
    refine snd _ F2 H2 _ _ v _ _ _ (I2.wipe hno) rv (gk _ _ _ hl) fun σ3 η1 I3 w3 ⟨h3, l3, d3⟩ => ?_
    refine ⟨w3.trans (wipe_idem σ vs), ?_⟩
    refine ⟨_, F2, η1, _, xNo, I3, h3, fun F4 H4 b η2 s4 k4 I4 h4 => ?_, x1No⟩
    have dk : ∀ i, i ∉ vs → datAt ε' i ≠ none → datAt η2 i ≠ none := fun j hj hd => k4 j (by rw [d3 j hj, wipeE_dat hj]; exact hd)
    have len2 : η2.length = ε'.length := by rw [← I4.len, I3.len, l3, wipeE_len]
    cases b with
    | false =>
      refine ⟨F4, _, accV, acc, (s'.trans al.sF).trans s4, k'.trans (unw_kd len2 dk), Iv.unw I2 I4 s4 w3 hno rfl, I4.sH _ _ upd_same, I4.fr _ f0 h0, ra.mono (al.sF.trans s4), h4⟩
    | true =>
      refine ⟨_, F4, η2, _, xNo, I4, h4, fun F5 H5 w o η3 s5 k5 I5 r5 h5 => ?_, x1No⟩
      obtain ⟨F6, y, η4, s6, k6, I6, r6, hz, h6⟩ := fz_of I5 r5.w h5
      refine ⟨accV, I6.sH _ _ upd_same, by rw [ra.length]; exact hz, ?_⟩
      have f6 : F6 Dl = none := I6.fr _ f0 h0
      have len4 : η4.length = ε'.length := by rw [← I6.len, I3.len, l3, wipeE_len]
      refine ⟨F6, _, accV ++ [w], acc ++ [y], ((s'.trans al.sF).trans s4).trans (s5.trans s6), k'.trans (unw_kd len4 fun j hj hd => k6 j (k5 j (dk j hj hd))), (Iv.unw I2 I6 (s4.trans (s5.trans s6)) w3 hno rfl).bump f6, upd_same, f6,
        (ra.mono (al.sF.trans (s4.trans (s5.trans s6)))).append (.cons r6 .nil), h6⟩
  · have e : i = xs.length := by omega
    subst e
    rw [List.drop_length] at hl
    obtain ⟨I7, e7⟩ := I'.minus e2
    exact .inl ⟨stop, hq F' H' Dl _ (.lst acc) ε' (s1.trans s') (k1.trans k') I7 hDl fDl e2 e7 ra hl⟩
structure DTs (X : Cx) (W : WX) (ifs : List Expr) (A : TB) : Prop where
  pts : PTs X ifs (LT X.K W A)
theorem PTs.conv {X : Cx} {ifs : List Expr} {t t' : TT} (h : PTs X ifs t) (c : ∀ σ H Q, t' σ H Q → t σ H Q) : PTs X ifs t' := ⟨fun pins s σ H Q I q => h.run pins s σ H Q I (c σ H Q q)⟩
def bYes : TB := fun ε q _ => q true ε
section
variable {X : Cx} {W : WX} {a b c : Expr} {ta tb tc : TD} {A B : TB} {pos : Pos} {tg iter elt : Expr} {ti : TId} {te : TD} {g : TGd} {ifs : List Expr} {scope : Scope} {own : List (Str × Nat)} {r : TG}
theorem dts_nil : DTs X W [] bYes := ⟨PTs.conv pts_nil fun σ H Q ⟨G, F, ε, q, xq, I, ht, hq, hx⟩ => hq F H true ε (.refl _) (.refl _) I ht⟩
theorem dts_one (h : DT X W c A) : DTs X W [c] A := ⟨pts_one h.pt⟩
theorem dn_lc (hc : X.calm = true) (hN : X.N.Nodup) (hi : DI X W tg iter ti) (ok : BlkOk X.N X.env.scope scope own)
    (hg : ∀ (s : Shared) (H : Hp) (C : Addr) (cl : List (Str × Addr)) (fp : List Addr), DG (X.blk s H scope (compEnvC scope cl C X.env) fp) tg r g (own.map (·.2))) (gk : GKd g (own.map (·.2)))
    (ht : ∀ (s : Shared) (H : Hp) (C : Addr) (cl : List (Str × Addr)) (fp : List Addr), DTs (X.blk s H scope (compEnvC scope cl C X.env) fp) WNo ifs A)
    (he : ∀ (s : Shared) (H : Hp) (C : Addr) (cl : List (Str × Addr)) (fp : List Addr), DE (X.blk s H scope (compEnvC scope cl C X.env) fp) WNo elt te) (snd : GSnd X.K r g (own.map (·.2)))
    (hs : ∀ x, foldedSetIterable iter X.env x = pure x := by intro _; rfl) : DN X W (.ListComp elt [⟨tg, iter, ifs, 0⟩] scope pos) (nLc ti (own.map (·.2)) g A te) :=
  ⟨PE.conv (pe_lc (g := r) (tt := LT X.K WNo A) (te := LE X.K WNo te) hc hN hi.pi ok (fun s H C cl fp => (hg s H C cl fp).pg) (fun s H C cl fp => (ht s H C cl fp).pts) (fun s H C cl fp => (he s H C cl fp).pe) hs) (lc_of snd gk)⟩
theorem gs_n {K : PySem.W.Frag} {i : Nat} : GSnd K (gName i) (gN i) [i] := fun G F H σ ε v x k Q I r ⟨np, hk⟩ hQ => hQ _ _ (I.setd np r) (wipe_set σ i _ [i] List.mem_cons_self) hk
/-- name = [..] -/
theorem ds_setLc {i : Nat} {y : Str} {py : Pos} {spos : Pos} (hc : X.calm = true) (hN : X.N.Nodup) (hy : X.N[i]? = some y) (hyl : X.env.scope.names.lookup y = some .local)
    (hsw : swapsWith (.ListComp elt [⟨tg, iter, ifs, 0⟩] scope pos) (some (.Name y py)) spos.line X.env = pure true) (hi : DI X W tg iter ti) (ok : BlkOk X.N X.env.scope scope own)
    (hg : ∀ (s : Shared) (H : Hp) (C : Addr) (cl : List (Str × Addr)) (fp : List Addr), DG (X.blk s H scope (compEnvC scope cl C X.env) fp) tg r g (own.map (·.2))) (gk : GKd g (own.map (·.2)))
    (ht : ∀ (s : Shared) (H : Hp) (C : Addr) (cl : List (Str × Addr)) (fp : List Addr), DTs (X.blk s H scope (compEnvC scope cl C X.env) fp) WNo ifs A)
    (he : ∀ (s : Shared) (H : Hp) (C : Addr) (cl : List (Str × Addr)) (fp : List Addr), DE (X.blk s H scope (compEnvC scope cl C X.env) fp) WNo elt te) (snd : GSnd X.K r g (own.map (·.2)))
    (hs : ∀ x, foldedSetIterable iter X.env x = pure x := by intro _; rfl) : DS X W (.Assign [.Name y py] (.ListComp elt [⟨tg, iter, ifs, 0⟩] scope pos) spos) (sAsg (dNew (nLc ti (own.map (·.2)) g A te)) (gN i)) := by
  refine ⟨PS.conv (L2.ps_setLc (g := r) (tt := LT X.K WNo A) (te := LE X.K WNo te) hc hN hy hyl hsw hi.pi ok (fun s H C cl fp => (hg s H C cl fp).pg) (fun s H C cl fp => (ht s H C cl fp).pts) (fun s H C cl fp => (he s H C cl fp).pe) hs) fun De σ H ⟨G, F, ε, Dn, I, h, ok⟩ => ?_⟩
  have h : dNew (nLc ti (own.map (·.2)) g A te) ε (fun o ε1 => fz ε1 o fun x ε2 => gN i x ε2 Dn.nx) Dn.xq := h
  refine ln_le (X := X) (t := nLc ti (own.map (·.2)) g A te) (lc_of (W := W) snd gk) σ H _ ⟨G, F, ε, _, _, I, h, fun F1 H1 v o ε1 s1 k1 I1 r1 h1 => ?_, ok.x⟩
  obtain ⟨F2, y, ε2, s2, _, I2, r2, np, h2⟩ := fz_of I1 r1.w h1
  exact ok.nx F2 H1 _ _ (s1.trans s2) (I2.setd np r2) h2
theorem ds_setLcO {i : Nat} {y : Str} {py : Pos} {spos : Pos} (hc : X.calm = true) (hN : X.N.Nodup) (hy : X.N[i]? = some y) (hyl : X.env.scope.names.lookup y = some .local)
    (hsw : swapsWith (.ListComp elt [⟨tg, iter, ifs, 0⟩] scope pos) (some (.Name y py)) spos.line X.env = pure true) (hi : DI X W tg iter ti) (ok : BlkOk X.N X.env.scope scope own)
    (hg : ∀ (s : Shared) (H : Hp) (C : Addr) (cl : List (Str × Addr)) (fp : List Addr), DG (X.blk s H scope (compEnvC scope cl C X.env) fp) tg r g (own.map (·.2))) (gk : GKd g (own.map (·.2)))
    (ht : ∀ (s : Shared) (H : Hp) (C : Addr) (cl : List (Str × Addr)) (fp : List Addr), DTs (X.blk s H scope (compEnvC scope cl C X.env) fp) WNo ifs A)
    (he : ∀ (s : Shared) (H : Hp) (C : Addr) (cl : List (Str × Addr)) (fp : List Addr), DE (X.blk s H scope (compEnvC scope cl C X.env) fp) WNo elt te) (snd : GSnd X.K r g (own.map (·.2)))
    (hs : ∀ x, foldedSetIterable iter X.env x = pure x := by intro _; rfl) : DS X W (.Assign [.Name y py] (.ListComp elt [⟨tg, iter, ifs, 0⟩] scope pos) spos) (sSetO i (nLc ti (own.map (·.2)) g A te)) :=
  ⟨PS.conv (L2.ps_setLc (g := r) (tt := LT X.K WNo A) (te := LE X.K WNo te) hc hN hy hyl hsw hi.pi ok (fun s H C cl fp => (hg s H C cl fp).pg) (fun s H C cl fp => (ht s H C cl fp).pts) (fun s H C cl fp => (he s H C cl fp).pe) hs) (seto_of (X := X) (lc_of (W := W) snd gk))⟩

/-! ### lists of one's own, changed -/
def appAt (ε : Env) (i : Nat) (x : D) (k : Env → Prop) : Prop := match ownAt ε i with
  | some (.lst xs) => xs.length < sizeLine ∧ k (putOc ε i (.lst (xs ++ [x])))
  | _ => False
def isLst (o : Option OC) : Prop := match o with
  | some (.lst _) => True
  | _ => False
def sApp (i : Nat) (t : TD) : TSd := fun Dn ε => isLst (ownAt ε i) ∧ t ε (fun o ε1 => fz ε1 o fun x ε2 => appAt ε2 i x Dn.nx) Dn.xq
theorem ds_app {i : Nat} (h : PS X (.Expr c pos) (tDrop (tBM X.K "list" rAppend (tVar i) (tCons (LE X.K W ta) tNil)))) : DS X W (.Expr c pos) (sApp i ta) := by
  refine ⟨PS.conv h fun De σ H ⟨G, F, ε, Dn, I, ⟨hn, ht⟩, ok⟩ => ?_⟩
  cases e : ownAt ε i with
  | none => rw [e] at hn; exact hn.elim
  | some c0 =>
    obtain ⟨p, ho, h1, h2, h3, h4, h5⟩ := I.o i c0 e
    have ty : tyV X.K "list" (.ref p) H := by
      cases c0 with
      | lst xs =>
        cases ho with
        | lst vs => exact .inl ⟨rfl, vs, SqL.of h4⟩
        | _ => exact h5.elim
      | dic ds => rw [e] at hn; exact hn.elim
      | ob _ _ => rw [e] at hn; exact hn.elim
    refine ⟨_, h1, ?_⟩
    refine ⟨?_, G, F, ε, _, _, I, ht, fun F1 H1 v o ε1 s1 k1 I1 r1 h1' => ?_, ok.x⟩
    · exact ty
    · obtain ⟨F2, x, ε2, s2, _, I2, r2, hk⟩ := fz_of I1 r1.w h1'
      unfold appAt at hk
      split at hk
      · rename_i xs e2
        obtain ⟨p', ho', g1, g2, g3, g4, g5⟩ := I2.o i _ e2
        rw [h1] at g1
        cases g1
        cases ho' with
        | lst vs =>
          refine ⟨p, vs, v, rfl, rfl, g4, by rw [RpL.length g5]; exact hk.1, ?_⟩
          exact ok.nx F2 _ σ _ (s1.trans s2) (I2.mut e2 h1 (show OcOk X.K F2 (.lst (vs ++ [v])) (.lst (xs ++ [x])) from RpL.append g5 (.cons r2 .nil))) hk.2
        | _ => exact g5.elim
      · exact hk.elim
/-- xs[j] = e -/
def setAt (ε : Env) (i : Nat) (j x : D) (k : Env → Prop) : Prop := match ownAt ε i, j with
  | some (.lst xs), .int n => match ixN xs.length n with
    | some m => k (putOc ε i (.lst (xs.set m x)))
    | none => False
  | _, _ => False
def sSetAt (i : Nat) (te ti : TD) : TSd := fun Dn ε => te ε (fun o ε1 => fz ε1 o fun x ε2 => ownAt ε2 i ≠ none ∧ ti ε2 (fun j ε3 => setAt ε3 i (j.get ε3) x Dn.nx) Dn.xq) Dn.xq
theorem ds_setat {i : Nat} {st : Stmt} (h : PS X st (tAsg (LE X.K W ta) (gSub (tVar i) (LE X.K W tb) rSetL))) : DS X W st (sSetAt i ta tb) := by
  refine ⟨PS.conv h fun De σ H ⟨G, F, ε, Dn, I, ht, ok⟩ => ?_⟩
  refine ⟨G, F, ε, _, _, I, ht, fun F1 H1 v o ε1 s1 k1 I1 r1 h1 => ?_, ok.x⟩
  obtain ⟨F2, x, ε2, s2, _, I2, r2, hn, h2⟩ := fz_of I1 r1.w h1
  cases e : ownAt ε2 i with
  | none => exact absurd e hn
  | some c0 =>
    obtain ⟨p, ho, g1, _⟩ := I2.o i c0 e
    refine ⟨_, g1, G, F2, ε2, _, _, I2, h2, fun F3 H3 w o' ε3 s3 k3 I3 r3 h3 => ?_, (ok.mono (s1.trans s2)).x⟩
    have rb := r3.b I3
    generalize o'.get ε3 = y at rb h3
    unfold setAt at h3
    split at h3
    · rename_i xs n e3
      split at h3
      · rename_i m em
        obtain ⟨p', ho', q1, q2, q3, q4, q5⟩ := I3.o i _ e3
        rw [g1] at q1
        cases q1
        cases ho' with
        | lst vs =>
          refine ⟨p, vs, n, m, rfl, rb.int_, q4, by rw [RpL.length q5]; exact em, ?_⟩
          exact ok.nx F3 _ σ _ ((s1.trans s2).trans s3) (I3.mut e3 g1 (show OcOk X.K F3 (.lst (vs.set m v)) (.lst (xs.set m x)) from RpL.set (r2.mono s3) m q5)) h3
        | _ => exact q5.elim
      · exact h3.elim
    · exact h3.elim
end
end Zd
namespace Zd
open PySem PySem.Spec L2 TL

/-! ### what a def promises, over data -/
/-- arguments: settled ones, and lists handed in to be changed; what is wanted of what comes back, and of what is raised -/
abbrev FS := List Sl → (D → List Sl → Prop) → (EXD → List Sl → Prop) → Prop
inductive AsOk (K : PySem.W.Frag) (F H : Hp) : List V → List Sl → Prop
  | nil : AsOk K F H [] []
  | d {v : V} {x : D} {vs : List V} {as : List Sl} : Rp K F v x → AsOk K F H vs as → AsOk K F H (v :: vs) (.d x :: as)
  | par {p : Addr} {ho : HO} {c : OC} {vs : List V} {as : List Sl} : F p = none → H p = some ho → OcOk K F ho c → AsOk K F H vs as → AsOk K F H (.ref p :: vs) (.par c :: as)
/-- the addresses of the lists handed in -/
def pars : List V → List Sl → List Addr
  | .ref p :: vs, .par _ :: as => p :: pars vs as
  | _ :: vs, _ :: as => pars vs as
  | _, _ => []
/-- the arguments behind: the lists handed in as they are then -/
inductive AsBk (K : PySem.W.Frag) (F H : Hp) : List V → List Sl → List Sl → Prop
  | nil : AsBk K F H [] [] []
  | d {v : V} {x : D} {vs : List V} {as bs : List Sl} : AsBk K F H vs as bs → AsBk K F H (v :: vs) (.d x :: as) (.d x :: bs)
  | par {p : Addr} {ho : HO} {c c' : OC} {vs : List V} {as bs : List Sl} : F p = none → H p = some ho → OcOk K F ho c' → AsBk K F H vs as bs → AsBk K F H (.ref p :: vs) (.par c :: as) (.par c' :: bs)
structure Back (K : PySem.W.Frag) (F H : Hp) (vs : List V) (as : List Sl) (F' H' : Hp) (as' : List Sl) : Prop where
  s : Same F F'
  sF : Same F' H'
  keep : ∀ p o, H p = some o → p ∉ pars vs as → H' p = some o
  fr : ∀ p, H p ≠ none → F p = none → F' p = none
  bk : AsBk K F' H' vs as as'
def spOf (K : PySem.W.Frag) (fs : FS) : Sp := fun vs H Q E => ∃ F as q xq, Same F H ∧ AsOk K F H vs as ∧ (pars vs as).Nodup ∧ fs as q xq ∧
  (∀ F' H' v d as', Back K F H vs as F' H' as' → Rp K F' v d → q d as' → Q v H') ∧
  (∀ F' H' e cls dx as', Back K F H vs as F' H' as' → XOk K F' H' e cls dx → xq e as' → E cls dx H')
/-- so many arguments are wanted -/
def FLen (fs : FS) (n : Nat) : Prop := ∀ as q xq, fs as q xq → as.length = n
theorem AsOk.len {K : PySem.W.Frag} {F H : Hp} : ∀ {vs : List V} {as : List Sl}, AsOk K F H vs as → vs.length = as.length
  | _, _, .nil => rfl
  | _, _, .d _ t => by simp [AsOk.len t]
  | _, _, .par _ _ _ t => by simp [AsOk.len t]
/-- where they stand -/
def pnAt : Nat → List V → List Sl → List (Nat × Addr)
  | i, .ref p :: vs, .par _ :: as => (i, p) :: pnAt (i + 1) vs as
  | i, _ :: vs, _ :: as => pnAt (i + 1) vs as
  | _, _, _ => []
section
variable {K : PySem.W.Frag} {F H : Hp}
theorem AsOk.get_d : ∀ {vs : List V} {as : List Sl} {i : Nat} {x : D}, AsOk K F H vs as → as[i]? = some (.d x) → ∃ v, vs[i]? = some v ∧ Rp K F v x
  | _, _, _, _, .nil, e => by simp at e
  | _, _, 0, _, .d r _, e => by simp at e; subst e; exact ⟨_, rfl, r⟩
  | _, _, 0, _, .par _ _ _ _, e => by simp at e
  | _, _, i + 1, _, .d _ t, e => by
    obtain ⟨v, e1, r⟩ := AsOk.get_d (i := i) t (by simpa using e)
    exact ⟨v, by simpa using e1, r⟩
  | _, _, i + 1, _, .par _ _ _ t, e => by
    obtain ⟨v, e1, r⟩ := AsOk.get_d (i := i) t (by simpa using e)
    exact ⟨v, by simpa using e1, r⟩
theorem AsOk.get_p : ∀ {vs : List V} {as : List Sl} {i : Nat} {c : OC}, AsOk K F H vs as → as[i]? = some (.par c) → ∃ p ho, vs[i]? = some (.ref p) ∧ p ∈ pars vs as ∧ F p = none ∧ H p = some ho ∧ OcOk K F ho c
  | _, _, _, _, .nil, e => by simp at e
  | _, _, 0, _, .d r _, e => by simp at e
  | _, _, 0, _, .par a b c _, e => by simp at e; subst e; exact ⟨_, _, rfl, List.mem_cons_self, a, b, c⟩
  | _, _, i + 1, _, .d (v := v) _ t, e => by
    obtain ⟨p, ho, e1, m, r⟩ := AsOk.get_p (i := i) t (by simpa using e)
    refine ⟨p, ho, by simpa using e1, ?_, r⟩
    unfold pars
    cases v <;> exact m
  | _, _, i + 1, _, .par _ _ _ t, e => by
    obtain ⟨p, ho, e1, m, r⟩ := AsOk.get_p (i := i) t (by simpa using e)
    exact ⟨p, ho, by simpa using e1, List.mem_cons_of_mem _ m, r⟩
theorem AsOk.no_own : ∀ {vs : List V} {as : List Sl} {i : Nat} {c : OC}, AsOk K F H vs as → as[i]? = some (.own c) → False
  | _, _, _, _, .nil, e => by simp at e
  | _, _, 0, _, .d r _, e => by simp at e
  | _, _, 0, _, .par _ _ _ _, e => by simp at e
  | _, _, i + 1, _, .d _ t, e => AsOk.no_own (i := i) t (by simpa using e)
  | _, _, i + 1, _, .par _ _ _ t, e => AsOk.no_own (i := i) t (by simpa using e)
theorem AsOk.no_gh : ∀ {vs : List V} {as : List Sl} {i : Nat} {T : List (Addr × Str)}, AsOk K F H vs as → as[i]? = some (.gh T) → False
  | _, _, _, _, .nil, e => by simp at e
  | _, _, 0, _, .d r _, e => by simp at e
  | _, _, 0, _, .par _ _ _ _, e => by simp at e
  | _, _, i + 1, _, .d _ t, e => AsOk.no_gh (i := i) t (by simpa using e)
  | _, _, i + 1, _, .par _ _ _ t, e => AsOk.no_gh (i := i) t (by simpa using e)
theorem AsOk.apart : ∀ {vs : List V} {as : List Sl} {i j : Nat} {p : Addr} {c c' : OC}, AsOk K F H vs as → (pars vs as).Nodup → i ≠ j → as[i]? = some (.par c) → as[j]? = some (.par c') → vs[i]? = some (.ref p) → vs[j]? ≠ some (.ref p)
  | _, _, _, _, _, _, _, .nil, _, _, e, _, _ => by simp at e
  | _, _, 0, 0, _, _, _, _, _, h, _, _, _ => absurd rfl h
  | _, _, 0, j + 1, _, _, _, .d _ _, _, _, e, _, _ => by simp at e
  | _, _, 0, j + 1, _, _, _, .par _ _ _ t, nd, _, _, e2, e3 => fun z => by
    obtain ⟨q, ho, g1, g2, _⟩ := AsOk.get_p (i := j) t (by simpa using e2)
    simp at e3 z
    subst e3
    rw [g1] at z
    cases z
    exact (List.nodup_cons.mp nd).1 g2
  | _, _, i + 1, 0, _, _, _, .d _ _, _, _, _, e, _ => by simp at e
  | _, _, i + 1, 0, _, _, _, .par _ _ _ t, nd, _, e2, _, e3 => fun z => by
    obtain ⟨q, ho, g1, g2, _⟩ := AsOk.get_p (i := i) t (by simpa using e2)
    simp at e3 z
    subst z
    rw [g1] at e3
    cases e3
    exact (List.nodup_cons.mp nd).1 g2
  | _, _, i + 1, j + 1, _, _, _, .d (v := v) (vs := vs) (as := as) _ t, nd, h, e1, e2, e3 => by
    have nd' : (pars vs as).Nodup := by
      unfold pars at nd
      cases v <;> exact nd
    simpa using AsOk.apart (i := i) (j := j) t nd' (fun z => h (by rw [z])) (by simpa using e1) (by simpa using e2) (by simpa using e3)
  | _, _, i + 1, j + 1, _, _, _, .par _ _ _ t, nd, h, e1, e2, e3 => by
    simpa using AsOk.apart (i := i) (j := j) t (List.nodup_cons.mp nd).2 (fun z => h (by rw [z])) (by simpa using e1) (by simpa using e2) (by simpa using e3)
theorem pnAt_of : ∀ {vs : List V} {as : List Sl} {k : Nat} {ip : Nat × Addr}, AsOk K F H vs as → ip ∈ pnAt k vs as → ∃ i c, ip.1 = k + i ∧ as[i]? = some (.par c) ∧ vs[i]? = some (.ref ip.2)
  | _, _, _, _, .nil, h => by simp [pnAt] at h
  | _, _, k, ip, .d (v := v) (vs := vs) (as := as) _ t, h => by
    have h' : ip ∈ pnAt (k + 1) vs as := by
      unfold pnAt at h
      cases v <;> exact h
    obtain ⟨i, c, e1, e2, e3⟩ := pnAt_of t h'
    exact ⟨i + 1, c, by omega, by simpa using e2, by simpa using e3⟩
  | _, _, k, ip, .par (c := c) _ _ _ t, h => by
    unfold pnAt at h
    rcases List.mem_cons.mp h with h | h
    · subst h
      exact ⟨0, c, rfl, rfl, rfl⟩
    · obtain ⟨i, c, e1, e2, e3⟩ := pnAt_of t h
      exact ⟨i + 1, c, by omega, by simpa using e2, by simpa using e3⟩
theorem pnAt_mem : ∀ {vs : List V} {as : List Sl} {k i : Nat} {c : OC} {p : Addr}, AsOk K F H vs as → as[i]? = some (.par c) → vs[i]? = some (.ref p) → (k + i, p) ∈ pnAt k vs as
  | _, _, _, _, _, _, .nil, e, _ => by simp at e
  | _, _, _, 0, _, _, .d _ _, e, _ => by simp at e
  | _, _, k, 0, _, _, .par _ _ _ t, e, e2 => by
    simp at e2
    subst e2
    exact List.mem_cons_self
  | _, _, k, i + 1, _, _, .d (v := v) _ t, e, e2 => by
    have := pnAt_mem (k := k + 1) (i := i) t (by simpa using e) (by simpa using e2)
    have e3 : k + 1 + i = k + (i + 1) := by omega
    rw [e3] at this
    unfold pnAt
    cases v <;> exact this
  | _, _, k, i + 1, _, _, .par _ _ _ t, e, e2 => by
    have := pnAt_mem (k := k + 1) (i := i) t (by simpa using e) (by simpa using e2)
    have e3 : k + 1 + i = k + (i + 1) := by omega
    rw [e3] at this
    exact List.mem_cons_of_mem _ this
/-- the lists handed in, left out -/
def less (H : Hp) (ps : List Addr) : Hp := fun p => if p ∈ ps then none else H p
theorem less_in {ps : List Addr} {p : Addr} (h : p ∈ ps) : less H ps p = none := by unfold less; rw [if_pos h]
theorem less_out {ps : List Addr} {p : Addr} (h : p ∉ ps) : less H ps p = H p := by unfold less; rw [if_neg h]
/-- what is wanted of the slots ahead -/
def outs : List Sl → Env → List Sl
  | [], _ => []
  | .par _ :: as, s :: ε => s :: outs as ε
  | a :: as, _ :: ε => a :: outs as ε
  | a :: as, [] => a :: outs as []
def env0 (as : List Sl) (n : Nat) : Env := as ++ List.replicate (n - as.length) .no
theorem start_iv {vs : List V} {as : List Sl} {N : List Str} (S : Same F H) (a : AsOk K F H vs as) (nd : (pars vs as).Nodup) (hn : as.length ≤ N.length) :
    Iv K ⟨F, less H (pars vs as), pnAt 0 vs as, []⟩ F H (L2.start N vs) (env0 as N.length) := by
  have hl := a.len
  have getE : ∀ {i : Nat} {s : Sl}, (env0 as N.length)[i]? = some s → s ≠ .no → as[i]? = some s := fun {i s} e hs => by
    unfold env0 at e
    by_cases h : i < as.length
    · rw [List.getElem?_append_left h] at e; exact e
    · rw [List.getElem?_append_right (by omega)] at e
      exact absurd (List.eq_of_mem_replicate (List.mem_of_getElem? e)) hs
  have getS : ∀ {i : Nat} {v : V}, vs[i]? = some v → (L2.start N vs)[i]? = some (some v) := fun {i v} e => by
    unfold L2.start
    have h : i < (vs.map some).length := by simpa using (List.getElem?_eq_some_iff.mp e).1
    rw [List.getElem?_append_left h, List.getElem?_map, e]
    rfl
  have own : ∀ {i : Nat} {c : OC}, ownAt (env0 as N.length) i = some c → as[i]? = some (.par c) := fun {i c} e => by
    unfold ownAt at e
    cases q : (env0 as N.length)[i]? with
    | none => rw [q] at e; cases e
    | some s =>
      rw [q] at e
      cases s with
      | no => cases e
      | gh _ => cases e
      | d x => cases e
      | own c' => exact (a.no_own (getE q (by simp))).elim
      | par c' => cases e; exact getE q (by simp)
  refine ⟨.refl _, S, fun p o e => ?_, fun p h1 h2 => h1, ?_, fun i x e => ?_, fun i c e => ?_, fun i j p hij hi hj e => ?_, fun ip hm => ?_, Tb.nil, fun i T e => (a.no_gh (getE e (by simp))).elim⟩
  · by_cases hp : p ∈ pars vs as
    · have e : less H (pars vs as) p = some o := e
      rw [less_in hp] at e; cases e
    · have e : less H (pars vs as) p = some o := e
      rw [less_out hp] at e; exact e
  · unfold L2.start env0
    simp
    omega
  · obtain ⟨v, h1, h2⟩ := a.get_d (getE e (by simp))
    exact ⟨v, getS h1, h2⟩
  · obtain ⟨p, ho, h1, h2, h3, h4, h5⟩ := a.get_p (own e)
    exact ⟨p, ho, getS h1, less_in h2, h3, h4, h5⟩
  · cases z1 : ownAt (env0 as N.length) i with
    | none => exact absurd z1 hi
    | some c1 =>
      cases z2 : ownAt (env0 as N.length) j with
      | none => exact absurd z2 hj
      | some c2 =>
        obtain ⟨p1, _, g1, _⟩ := a.get_p (own z1)
        obtain ⟨p2, _, g2, _⟩ := a.get_p (own z2)
        rw [getS g1] at e
        cases e
        rw [getS g2]
        intro z
        cases z
        exact a.apart nd hij (own z1) (own z2) g1 g2
  · obtain ⟨i, c, e1, e2, e3⟩ := pnAt_of a hm
    have e1 : ip.1 = i := by omega
    rw [e1]
    refine ⟨getS e3, c, ?_⟩
    unfold env0
    have h : i < as.length := (List.getElem?_eq_some_iff.mp e2).1
    rw [List.getElem?_append_left h]
    exact e2
theorem outs_bk {F' H' : Hp} : ∀ {vs : List V} {as : List Sl} {ε : Env}, AsOk K F H vs as →
    (∀ (i : Nat) (c : OC) (p : Addr), as[i]? = some (Sl.par c) → vs[i]? = some (V.ref p) → ∃ (c' : OC) (ho : HO), ε[i]? = some (Sl.par c') ∧ F' p = none ∧ H' p = some ho ∧ OcOk K F' ho c') → AsBk K F' H' vs as (outs as ε)
  | _, _, _, .nil, _ => .nil
  | _, _, [], .d _ t, f => .d (outs_bk t fun i c p e1 e2 => by
      obtain ⟨c', ho, a, b⟩ := f (i + 1) c p (by simpa using e1) (by simpa using e2)
      simp at a)
  | _, _, [], .par _ _ _ _, f => by
    obtain ⟨c', ho, e1, _⟩ := f 0 _ _ rfl rfl
    simp at e1
  | _, _, s :: ε, .d r t, f => .d (outs_bk t fun i c p e1 e2 => by
      obtain ⟨c', ho, a, b⟩ := f (i + 1) c p (by simpa using e1) (by simpa using e2)
      exact ⟨c', ho, by simpa using a, b⟩)
  | _, _, s :: ε, .par a b c t, f => by
    obtain ⟨c', ho, e1, e2, e3, e4⟩ := f 0 _ _ rfl rfl
    simp at e1
    subst e1
    exact .par e2 e3 e4 (outs_bk t fun i c p e1 e2 => by
      obtain ⟨c', ho, a, b⟩ := f (i + 1) c p (by simpa using e1) (by simpa using e2)
      exact ⟨c', ho, by simpa using a, b⟩)
theorem end_back {vs : List V} {as : List Sl} {F' H' : Hp} {σ : L2.St} {ε : Env} (a : AsOk K F H vs as)
    (I : Iv K ⟨F, less H (pars vs as), pnAt 0 vs as, []⟩ F' H' σ ε) : Back K F H vs as F' H' (outs as ε) := by
  refine ⟨I.s0, I.sF, fun p o e hp => I.sH p o (show less H (pars vs as) p = some o by rw [less_out hp]; exact e), fun p h1 h2 => ?_, ?_⟩
  · by_cases hp : p ∈ pars vs as
    · -- one of the lists handed in: still one's own
      have : ∃ (i : Nat) (c : OC), as[i]? = some (Sl.par c) ∧ vs[i]? = some (V.ref p) := by
        clear I
        induction a with
        | nil => simp [pars] at hp
        | d r t ih =>
          rename_i v x vs as
          have hp' : p ∈ pars vs as := by
            unfold pars at hp
            cases v <;> exact hp
          obtain ⟨i, c, e1, e2⟩ := ih hp'
          exact ⟨i + 1, c, by simpa using e1, by simpa using e2⟩
        | par b1 b2 b3 t ih =>
          rename_i q ho c vs as
          unfold pars at hp
          rcases List.mem_cons.mp hp with e | hp
          · subst e; exact ⟨0, c, rfl, rfl⟩
          · obtain ⟨i, c, e1, e2⟩ := ih hp
            exact ⟨i + 1, c, by simpa using e1, by simpa using e2⟩
      obtain ⟨i, c, e1, e2⟩ := this
      have hm := pnAt_mem (k := 0) a e1 e2
      obtain ⟨g1, c', g2⟩ := I.pn _ hm
      obtain ⟨q, ho, q1, q2, q3, _⟩ := I.o (0 + i) c' (by unfold ownAt; rw [g2]; rfl)
      rw [g1] at q1
      cases q1
      exact q3
    · exact I.fr p h2 (show less H (pars vs as) p ≠ none by rw [less_out hp]; exact h1)
  · refine outs_bk a fun i c p e1 e2 => ?_
    have hm := pnAt_mem (k := 0) a e1 e2
    obtain ⟨g1, c', g2⟩ := I.pn _ hm
    obtain ⟨q, ho, q1, q2, q3, q4, q5⟩ := I.o (0 + i) c' (by unfold ownAt; rw [g2]; rfl)
    rw [g1] at q1
    cases q1
    rw [Nat.zero_add] at g2
    exact ⟨c', ho, g2, q3, q4, q5⟩
end
section
variable {P : Program} {w : World} {K : PySem.W.Frag} {mg : Str → Option Value} {base : Heap}
abbrev WE1 (E : XK) : WX := fun cls d _ H => E cls d H
/-- THE RULE for a def: its body over data -/
theorem fn_ok {x qual : Str} {st : Stmt} {f : Addr} {fd : FuncData} {N ps : List Str} {k : Nat} {fs : FS} (F : Fun K x qual st f fd) (S : FnScope N ps (defScope st)) (hps : ps.length ≤ N.length) (hfl : FLen fs ps.length)
    (hbody : ∀ (cdv : Value) (A : Around) (outer : List PySem.Env) (s : Shared) (H : Hp) (E : XK), Room k (A.deeper (PyProof.Rows.envOfC qual (defScope st) s.heap.objs.size f cdv)) →
      ∃ t, DSs (cxOf (L2.CX P w) P w K mg base N qual (defScope st) f cdv A outer s H E) (WE1 E) (defBody st) t ∧
        ∀ as q xq, fs as q xq → t { nx := fun ε => q .non (outs as ε), rt := fun d ε => q d (outs as ε), xq := fun e ε => xq e (outs as ε) } (env0 as N.length)) :
    FnOk P w K mg base (L2.CX P w) (k + 1) f fd ps (spOf K fs) := by
  refine F.okX S (fun vs H Q E h => ?_) fun cdv A outer s H vs Q E hr h => ?_
  · obtain ⟨F0, as, q, xq, S0, a, nd, hfs, _⟩ := h
    rw [a.len, hfl _ _ _ hfs]
  obtain ⟨F0, as, q, xq, S0, a, nd, hfs, hq, hx⟩ := h
  have hl := hfl _ _ _ hfs
  obtain ⟨t, ht, hv⟩ := hbody cdv A outer s H E hr
  have hla := a.len
  refine ⟨_, ht.pss, ⟨F0, less H (pars vs as), pnAt 0 vs as, []⟩, F0, env0 as N.length, _, start_iv S0 a nd (by omega), hv as q xq hfs, ?_⟩
  have bk : ∀ {F' H' : Hp} {σ' : L2.St} {ε' : Env}, Iv K ⟨F0, less H (pars vs as), pnAt 0 vs as, []⟩ F' H' σ' ε' → Back K F0 H vs as F' H' (outs as ε') := fun {F' H' σ' ε'} I => end_back a I
  exact ⟨fun F' H' σ' ε' _ I h => hq F' H' .non .non _ (bk I) .non h, fun F' H' σ' ε' v d _ I r h => hq F' H' v d _ (bk I) r h, fun _ _ _ _ _ _ h => h.elim, fun _ _ _ _ _ _ h => h.elim,
    fun F' H' σ' ε' e cls d _ I xo h => hx F' H' e cls d _ (bk I) xo h, fun _ _ _ _ _ _ _ _ _ _ _ h => h.elim⟩
end
end Zd
namespace Zd
open PySem PySem.Spec L2 TL

/-! ### a def is called -/
/-- the arguments as the def takes them -/
def args1 (ε : Env) : Opd → Option Sl
  | .d x => some (.d x)
  | .s i => match ε[i]? with
    | some (.own c) => some (.par c)
    | some (.par c) => some (.par c)
    | some (.d x) => some (.d x)
    | _ => none
def argsD (ε : Env) : List Opd → (List Sl → Prop) → Prop
  | [], k => k []
  | o :: os, k => match args1 ε o with
    | some a => argsD ε os fun as => k (a :: as)
    | none => False
/-- the slots of one's own lists among them -/
def ownsOf (ε : Env) : List Opd → List Nat
  | [] => []
  | .d _ :: os => ownsOf ε os
  | .s i :: os => match ownAt ε i with
    | some _ => i :: ownsOf ε os
    | none => ownsOf ε os
theorem ownsOf_s {ε : Env} {i : Nat} {os : List Opd} (b : ownAt ε i ≠ none) : ownsOf ε (.s i :: os) = i :: ownsOf ε os := by
  show (match ownAt ε i with | some _ => i :: ownsOf ε os | none => ownsOf ε os) = _
  cases e : ownAt ε i with
  | none => exact absurd e b
  | some c => rfl
/-- behind the call -/
def backs : List Opd → List Sl → Env → Env
  | .s i :: os, .par c :: as, ε => backs os as (putOc ε i c)
  | _ :: os, _ :: as, ε => backs os as ε
  | _, _, ε => ε
def dCall (fs : FS) (t : TL) : TD := fun ε q xq => t ε (fun os ε1 => (ownsOf ε1 os).Nodup ∧ argsD ε1 os fun as => fs as (fun d as' => q (.d d) (backs os as' ε1)) fun e as' => xq e (backs os as' ε1)) xq
/-- .. that raises nothing here -/
def dCallN (fs : FS) (t : TL) : TD := fun ε q xq => t ε (fun os ε1 => (ownsOf ε1 os).Nodup ∧ argsD ε1 os fun as => fs as (fun d as' => q (.d d) (backs os as' ε1)) fun _ _ => False) xq
section
variable {K : PySem.W.Frag} {G : Gd} {F H F' H' : Hp} {σ : L2.St} {ε : Env}
theorem argsD_of (I : Iv K G F H σ ε) : ∀ {vs : List V} {os : List Opd} {k : List Sl → Prop}, OsOk K F σ ε vs os → argsD ε os k → ∃ as, AsOk K F H vs as ∧ k as
  | _, _, _, .nil, h => ⟨[], .nil, h⟩
  | _, _, k, .cons (v := v) (o := o) (os := os) r t, h => by
    have h : (match args1 ε o with | some a => argsD ε os fun as => k (a :: as) | none => False) := h
    cases o with
    | d x =>
      obtain ⟨as, h1, h2⟩ := argsD_of I t h
      exact ⟨_, .d r h1, h2⟩
    | s i =>
      obtain ⟨r1, r2⟩ := r
      cases e : ε[i]? with
      | none => simp only [args1, e] at h
      | some s =>
        cases s with
        | no => simp only [args1, e] at h
        | gh _ => simp only [args1, e] at h
        | d x =>
          simp only [args1, e] at h
          obtain ⟨as, h1, h2⟩ := argsD_of I t h
          obtain ⟨w, g1, g2⟩ := I.d i x e
          rw [r1] at g1
          cases g1
          exact ⟨_, .d g2 h1, h2⟩
        | own c =>
          simp only [args1, e] at h
          obtain ⟨as, h1, h2⟩ := argsD_of I t h
          obtain ⟨p, ho, g1, g2, g3, g4, g5⟩ := I.o i c (by unfold ownAt; rw [e]; rfl)
          rw [r1] at g1
          cases g1
          exact ⟨_, .par g3 g4 g5 h1, h2⟩
        | par c =>
          simp only [args1, e] at h
          obtain ⟨as, h1, h2⟩ := argsD_of I t h
          obtain ⟨p, ho, g1, g2, g3, g4, g5⟩ := I.o i c (by unfold ownAt; rw [e]; rfl)
          rw [r1] at g1
          cases g1
          exact ⟨_, .par g3 g4 g5 h1, h2⟩
/-- as AsOk, with the operands that the arguments are -/
inductive Ar (K : PySem.W.Frag) (F H : Hp) (σ : L2.St) (ε : Env) : List V → List Opd → List Sl → Prop
  | nil : Ar K F H σ ε [] [] []
  | d {v : V} {o : Opd} {x : D} {vs : List V} {os : List Opd} {as : List Sl} : (∀ i, o = .s i → ownAt ε i = none) → Ar K F H σ ε vs os as → Ar K F H σ ε (v :: vs) (o :: os) (.d x :: as)
  | par {p : Addr} {i : Nat} {c : OC} {vs : List V} {os : List Opd} {as : List Sl} : σ[i]? = some (some (.ref p)) → ownAt ε i ≠ none → Ar K F H σ ε vs os as → Ar K F H σ ε (.ref p :: vs) (.s i :: os) (.par c :: as)
theorem argsD_ar (I : Iv K G F H σ ε) : ∀ {vs : List V} {os : List Opd} {k : List Sl → Prop}, OsOk K F σ ε vs os → argsD ε os k → ∃ as, AsOk K F H vs as ∧ Ar K F H σ ε vs os as ∧ k as
  | _, _, _, .nil, h => ⟨[], .nil, .nil, h⟩
  | _, _, k, .cons (v := v) (o := o) (os := os) r t, h => by
    have h : (match args1 ε o with | some a => argsD ε os fun as => k (a :: as) | none => False) := h
    cases o with
    | d x =>
      obtain ⟨as, h1, h3, h2⟩ := argsD_ar I t h
      exact ⟨_, .d r h1, .d (fun i e => nomatch e) h3, h2⟩
    | s i =>
      obtain ⟨r1, r2⟩ := r
      cases e : ε[i]? with
      | none => simp only [args1, e] at h
      | some s =>
        cases s with
        | no => simp only [args1, e] at h
        | gh _ => simp only [args1, e] at h
        | d x =>
          simp only [args1, e] at h
          obtain ⟨as, h1, h3, h2⟩ := argsD_ar I t h
          obtain ⟨w, g1, g2⟩ := I.d i x e
          rw [r1] at g1
          cases g1
          exact ⟨_, .d g2 h1, .d (fun j ej => by cases ej; unfold ownAt; rw [e]; rfl) h3, h2⟩
        | own c =>
          simp only [args1, e] at h
          obtain ⟨as, h1, h3, h2⟩ := argsD_ar I t h
          have eo : ownAt ε i = some c := by unfold ownAt; rw [e]; rfl
          obtain ⟨p, ho, g1, g2, g3, g4, g5⟩ := I.o i c eo
          rw [r1] at g1
          cases g1
          exact ⟨_, .par g3 g4 g5 h1, .par r1 (by rw [eo]; simp) h3, h2⟩
        | par c =>
          simp only [args1, e] at h
          obtain ⟨as, h1, h3, h2⟩ := argsD_ar I t h
          have eo : ownAt ε i = some c := by unfold ownAt; rw [e]; rfl
          obtain ⟨p, ho, g1, g2, g3, g4, g5⟩ := I.o i c eo
          rw [r1] at g1
          cases g1
          exact ⟨_, .par g3 g4 g5 h1, .par r1 (by rw [eo]; simp) h3, h2⟩
theorem Ar.pars_mem : ∀ {vs : List V} {os : List Opd} {as : List Sl} {p : Addr}, Ar K F H σ ε vs os as → p ∈ pars vs as → ∃ i, i ∈ ownsOf ε os ∧ σ[i]? = some (some (.ref p)) ∧ ownAt ε i ≠ none
  | _, _, _, _, .nil, h => by simp [pars] at h
  | _, _, _, p, .d (v := v) (o := o) (vs := vs) (os := os) (as := as) a t, h => by
    have h' : p ∈ pars vs as := by
      unfold pars at h
      cases v <;> exact h
    obtain ⟨i, h1, h2⟩ := Ar.pars_mem t h'
    refine ⟨i, ?_, h2⟩
    cases o with
    | d _ => exact h1
    | s j =>
      unfold ownsOf
      rw [a j rfl]
      exact h1
  | _, _, _, p, .par (i := i) (os := os) a b t, h => by
    have hm : ownsOf ε (.s i :: os) = i :: ownsOf ε os := ownsOf_s b
    rw [hm]
    unfold pars at h
    rcases List.mem_cons.mp h with e | h
    · subst e; exact ⟨i, List.mem_cons_self, a, b⟩
    · obtain ⟨j, h1, h2⟩ := Ar.pars_mem t h
      exact ⟨j, List.mem_cons_of_mem _ h1, h2⟩
theorem Ar.nodup (I : Iv K G F H σ ε) : ∀ {vs : List V} {os : List Opd} {as : List Sl}, Ar K F H σ ε vs os as → (ownsOf ε os).Nodup → (pars vs as).Nodup
  | _, _, _, .nil, _ => by simp [pars]
  | _, _, _, .d (v := v) (o := o) (vs := vs) (os := os) (as := as) a t, nd => by
    have nd' : (ownsOf ε os).Nodup := by
      cases o with
      | d _ => exact nd
      | s j =>
        unfold ownsOf at nd
        rw [a j rfl] at nd
        exact nd
    have := Ar.nodup I t nd'
    unfold pars
    cases v <;> exact this
  | _, _, _, .par (p := p) (i := i) (os := os) a b t, nd => by
    have hm : ownsOf ε (.s i :: os) = i :: ownsOf ε os := ownsOf_s b
    rw [hm] at nd
    obtain ⟨n1, n2⟩ := List.nodup_cons.mp nd
    unfold pars
    refine List.nodup_cons.mpr ⟨fun h => ?_, Ar.nodup I t n2⟩
    obtain ⟨j, h1, h2, h3⟩ := Ar.pars_mem t h
    have hij : i ≠ j := fun e => n1 (e ▸ h1)
    exact I.dis i j p hij b h3 a h2
/-- what the slots hold behind -/
structure Bk (ε ε' : Env) (N : Nat → Option OC) : Prop where
  len : ε'.length = ε.length
  own : ∀ j, ownAt ε' j = match N j with | some c => some c | none => ownAt ε j
  d : ∀ (j : Nat) (x : D), ε'[j]? = some (Sl.d x) → ε[j]? = some (Sl.d x)
  par : ∀ (j : Nat) (c : OC), ε[j]? = some (Sl.par c) → ∃ c' : OC, ε'[j]? = some (Sl.par c')
  kd : Kd ε ε'
  gh : ∀ (j : Nat) (T : List (Addr × Str)), ε'[j]? = some (Sl.gh T) → ε[j]? = some (Sl.gh T)
theorem putOc_get {i j : Nat} {c : OC} {c0 : OC} (h0 : ownAt ε i = some c0) : ownAt (putOc ε i c) j = if j = i then some c else ownAt ε j := by
  by_cases e : j = i
  · subst e
    rw [if_pos rfl]
    unfold putOc
    split <;> rw [own_set_self (own_lt h0)] <;> rfl
  · rw [if_neg e]
    unfold putOc
    split <;> rw [own_set_ne e]
theorem putOc_d {i j : Nat} {c : OC} {x : D} (h : (putOc ε i c)[j]? = some (.d x)) : ε[j]? = some (.d x) := by
  unfold putOc at h
  split at h
  · rcases get_set h with ⟨_, z⟩ | ⟨_, z⟩
    · cases z
    · exact z
  · rcases get_set h with ⟨_, z⟩ | ⟨_, z⟩
    · cases z
    · exact z
theorem putOc_gh {i j : Nat} {c : OC} {T : List (Addr × Str)} (h : (putOc ε i c)[j]? = some (.gh T)) : ε[j]? = some (.gh T) := by
  unfold putOc at h
  split at h
  · rcases get_set h with ⟨_, z⟩ | ⟨_, z⟩
    · cases z
    · exact z
  · rcases get_set h with ⟨_, z⟩ | ⟨_, z⟩
    · cases z
    · exact z
theorem putOc_par {i j : Nat} {c c1 : OC} (h : ε[j]? = some (.par c1)) : ∃ c', (putOc ε i c)[j]? = some (.par c') := by
  have hl : j < ε.length := (List.getElem?_eq_some_iff.mp h).1
  unfold putOc
  by_cases e : i = j
  · subst e
    rw [h]
    exact ⟨c, by simp only; rw [List.getElem?_set_self hl]⟩
  · split <;> exact ⟨c1, by rw [List.getElem?_set_ne e]; exact h⟩
theorem Bk.refl (ε : Env) : Bk ε ε fun _ => none := ⟨rfl, fun _ => rfl, fun _ _ h => h, fun _ c h => ⟨c, h⟩, .refl _, fun _ _ h => h⟩
/-- slots and their new contents -/
inductive Nw : List V → List Opd → List Sl → List (Nat × Addr × OC) → Prop
  | nil : Nw [] [] [] []
  | d {v : V} {o : Opd} {x : D} {vs : List V} {os : List Opd} {as : List Sl} {l} : Nw vs os as l → Nw (v :: vs) (o :: os) (.d x :: as) l
  | par {p : Addr} {i : Nat} {c : OC} {vs : List V} {os : List Opd} {as : List Sl} {l} : Nw vs os as l → Nw (.ref p :: vs) (.s i :: os) (.par c :: as) ((i, p, c) :: l)
theorem backs_eq : ∀ {vs : List V} {os : List Opd} {as : List Sl} {l : List (Nat × Addr × OC)} {ε : Env}, Nw vs os as l → backs os as ε = l.foldl (fun ε t => putOc ε t.1 t.2.2) ε
  | _, _, _, _, _, .nil => rfl
  | _, _, _, _, ε, .d (o := o) t => by
    have := backs_eq (ε := ε) t
    cases o <;> exact this
  | _, _, _, _, ε, .par (i := i) (c := c) t => backs_eq (ε := putOc ε i c) t
theorem nw_of {F2 H2 : Hp} : ∀ {vs : List V} {os : List Opd} {as as' : List Sl}, Ar K F H σ ε vs os as → AsBk K F2 H2 vs as as' → ∃ l, Nw vs os as' l ∧
    (∀ t ∈ l, σ[t.1]? = some (some (.ref t.2.1)) ∧ ownAt ε t.1 ≠ none ∧ ∃ ho, F2 t.2.1 = none ∧ H2 t.2.1 = some ho ∧ OcOk K F2 ho t.2.2) ∧ l.map (·.1) = ownsOf ε os ∧ l.map (·.2.1) = pars vs as
  | _, _, _, _, .nil, .nil => ⟨[], .nil, fun _ h => (by simp at h), rfl, rfl⟩
  | _, _, _, _, .d (v := v) (o := o) a t, .d t' => by
    obtain ⟨l, h1, h2, h3, h4⟩ := nw_of t t'
    refine ⟨l, .d h1, h2, ?_, ?_⟩
    · rw [h3]
      cases o with
      | d _ => rfl
      | s j => conv => rhs; unfold ownsOf
               rw [a j rfl]
    · rw [h4]
      conv => rhs; unfold pars
      cases v <;> rfl
  | _, _, _, _, .par (p := p) (i := i) (os := os) a b t, .par e1 e2 e3 t' => by
    obtain ⟨l, h1, h2, h3, h4⟩ := nw_of t t'
    refine ⟨_, .par h1, fun z hz => ?_, ?_, ?_⟩
    · rcases List.mem_cons.mp hz with e | hz
      · subst e; exact ⟨a, b, _, e1, e2, e3⟩
      · exact h2 z hz
    · have hm : ownsOf ε (.s i :: os) = i :: ownsOf ε os := ownsOf_s b
      rw [hm, List.map_cons, h3]
    · unfold pars
      rw [List.map_cons, h4]
theorem fold_bk : ∀ (l : List (Nat × Addr × OC)) (ε : Env), (∀ t ∈ l, ownAt ε t.1 ≠ none) → (l.map (·.1)).Nodup →
    Bk ε (l.foldl (fun ε t => putOc ε t.1 t.2.2) ε) fun j => (l.find? fun t => t.1 == j).map (·.2.2)
  | [], ε, _, _ => Bk.refl ε
  | t :: l, ε, h, nd => by
    obtain ⟨n1, n2⟩ := List.nodup_cons.mp (show (t.1 :: l.map (·.1)).Nodup from nd)
    have h0 := h t List.mem_cons_self
    cases e0 : ownAt ε t.1 with
    | none => exact absurd e0 h0
    | some c0 =>
      have hown : ∀ u ∈ l, ownAt (putOc ε t.1 t.2.2) u.1 ≠ none := fun u hu => by
        rw [putOc_get e0]
        split
        · simp
        · exact h u (List.mem_cons_of_mem _ hu)
      have B := fold_bk l (putOc ε t.1 t.2.2) hown n2
      rw [List.foldl_cons]
      refine ⟨B.len.trans putOc_len, fun j => ?_, fun j x q => putOc_d (B.d j x q), fun j c q => ?_, (putOc_kd e0).trans B.kd, fun j T q => putOc_gh (B.gh j T q)⟩
      · rw [B.own j, List.find?_cons]
        by_cases ej : t.1 = j
        · subst ej
          have : (l.find? fun u => u.1 == t.1) = none := by
            apply List.find?_eq_none.mpr
            intro u hu hq
            exact n1 (List.mem_map.mpr ⟨u, hu, by simpa using hq⟩)
          rw [this]
          simp only [Option.map_none, beq_self_eq_true]
          rw [putOc_get e0, if_pos rfl]
          rfl
        · have : (t.1 == j) = false := by simpa using ej
          rw [this]
          simp only
          rw [putOc_get e0, if_neg fun z => ej z.symm]
      · obtain ⟨c', q'⟩ := putOc_par (i := t.1) (c := t.2.2) q
        exact B.par j c' q'
/-- the slots behind a call -/
theorem Iv.back {vs : List V} {os : List Opd} {as as' : List Sl} (I : Iv K G F H σ ε) (ar : Ar K F H σ ε vs os as) (nd : (ownsOf ε os).Nodup) (b : Back K F H vs as F' H' as') : Iv K G F' H' σ (backs os as' ε) ∧ Kd ε (backs os as' ε) := by
  obtain ⟨l, n1, n2, n3, n4⟩ := nw_of ar b.bk
  have hB := fold_bk l ε (fun t ht => (n2 t ht).2.1) (by rw [n3]; exact nd)
  rw [backs_eq n1]
  generalize hε : l.foldl (fun ε t => putOc ε t.1 t.2.2) ε = ε' at hB
  have inl : ∀ {j c}, ((l.find? fun t => t.1 == j).map (·.2.2)) = some c → ∃ t ∈ l, t.1 = j ∧ t.2.2 = c := fun {j c} e => by
    cases q : l.find? fun t => t.1 == j with
    | none => rw [q] at e; cases e
    | some t =>
      rw [q] at e
      exact ⟨t, List.mem_of_find?_eq_some q, by simpa using List.find?_some q, Option.some.inj e⟩
  have notin : ∀ {j}, ((l.find? fun t => t.1 == j).map (·.2.2)) = none → ∀ t ∈ l, t.1 ≠ j := fun {j} e t ht z => by
    cases q : l.find? fun t => t.1 == j with
    | none => exact absurd (List.find?_eq_none.mp q t ht) (by simpa using z)
    | some t => rw [q] at e; cases e
  have back : ∀ {j}, ownAt ε' j ≠ none → ownAt ε j ≠ none := fun {j} h => by
    rw [hB.own j] at h
    cases q : (l.find? fun t => t.1 == j).map (·.2.2) with
    | none => rw [q] at h; exact h
    | some c =>
      obtain ⟨t, ht, e1, _⟩ := inl q
      rw [← e1]
      exact (n2 t ht).2.1
  have ntb : ∀ (p : Addr) (ps : Array Value), H p = some (.tbl ps) → p ∈ pars vs as → False := fun p ps e hp => by
    obtain ⟨i, _, h2, h3⟩ := ar.pars_mem hp
    cases q : ownAt ε i with
    | none => exact h3 q
    | some c =>
      obtain ⟨p', ho, g1, _, _, g4, g5⟩ := I.o i c q
      rw [h2] at g1
      cases g1
      rw [e] at g4
      cases g4
      exact ocok_tbl g5 ps rfl
  refine ⟨⟨I.s0.trans b.s, b.sF, fun p o e => ?_, fun p h0 h1 => ?_, by rw [hB.len, I.len], fun j x e => ?_, fun j c e => ?_, fun i j p hij hi hj e => I.dis i j p hij (back hi) (back hj) e, fun ip hm => ?_, I.tb.mk' b.s (fun p _ ps e => b.keep p.1 _ e fun hp => ntb p.1 ps e hp) (fun p _ z ps e => b.fr p.1 (by rw [e]; simp) z) fun _ _ z _ _ => z, fun j T z => I.gh j T (hB.gh j T z)⟩, hB.kd⟩
  · refine b.keep p o (I.sH p o e) fun hp => ?_
    obtain ⟨i, _, h2, h3⟩ := ar.pars_mem hp
    cases q : ownAt ε i with
    | none => exact h3 q
    | some c =>
      obtain ⟨p', ho, g1, g2, _⟩ := I.o i c q
      rw [h2] at g1
      cases g1
      rw [e] at g2
      cases g2
  · refine b.fr p (fun z => ?_) (I.fr p h0 h1)
    cases q : G.H0 p with
    | none => exact h1 q
    | some o => rw [I.sH p o q] at z; cases z
  · obtain ⟨v, h1, h2⟩ := I.d j x (hB.d j x e)
    exact ⟨v, h1, h2.mono b.s⟩
  · rw [hB.own j] at e
    cases q : (l.find? fun t => t.1 == j).map (·.2.2) with
    | some c' =>
      rw [q] at e
      cases e
      obtain ⟨t, ht, e1, e2⟩ := inl q
      obtain ⟨g1, g2, ho, g3, g4, g5⟩ := n2 t ht
      rw [e1] at g1 g2
      cases q2 : ownAt ε j with
      | none => exact absurd q2 g2
      | some c2 =>
        obtain ⟨p', ho', k1, k2, _⟩ := I.o j c2 q2
        rw [g1] at k1
        cases k1
        rw [← e2]
        exact ⟨_, ho, g1, k2, g3, g4, g5⟩
    | none =>
      rw [q] at e
      have e : ownAt ε j = some c := e
      obtain ⟨p, ho, k1, k2, k3, k4, k5⟩ := I.o j c e
      refine ⟨p, ho, k1, k2, b.fr p (by rw [k4]; simp) k3, b.keep p ho k4 fun hp => ?_, k5.mono b.s⟩
      rw [← n4] at hp
      obtain ⟨t, ht, e1⟩ := List.mem_map.mp hp
      have hne := notin q t ht
      obtain ⟨g1, g2, _⟩ := n2 t ht
      rw [e1] at g1
      exact I.dis t.1 j p hne g2 (by rw [e]; simp) g1 k1
  · obtain ⟨h1, c, h2⟩ := I.pn ip hm
    exact ⟨h1, hB.par _ _ h2⟩
end
section
variable {X : Cx} {W : WX} {e : Expr} {t : TL} {fs : FS}
theorem de_call (h : PE X e (tCallS (spOf X.K fs) (WE W) (LA X.K W t))) : DE X W e (dCall fs t) := by
  refine ⟨PE.conv h fun σ H Q ⟨G, F, ε, q, xq, I, ht, hq, hx⟩ => ?_⟩
  refine ⟨G, F, ε, _, xq, I, ht, fun F1 H1 vs os ε1 s1 k1 I1 r1 ⟨nd, h1⟩ => ?_, hx⟩
  obtain ⟨as, a1, ar, h2⟩ := argsD_ar I1 r1 h1
  refine ⟨F1, as, _, _, I1.sF, a1, ar.nodup I1 nd, h2, fun F2 H2 v d as' b rv hk => ?_, fun F2 H2 ee cls dx as' b xo hk => ?_⟩
  · obtain ⟨I2, k2⟩ := I1.back ar nd b
    exact hq F2 H2 v (.d d) _ (s1.trans b.s) (k1.trans k2) I2 rv hk
  · obtain ⟨I2, k2⟩ := I1.back ar nd b
    exact hx F2 H2 ee _ cls dx (s1.trans b.s) I2 xo hk
theorem de_callN (h : PE X e (tCall (spOf X.K fs) [] E0 (LA X.K W t))) : DE X W e (dCallN fs t) := by
  refine ⟨PE.conv h fun σ H Q ⟨G, F, ε, q, xq, I, ht, hq, hx⟩ => ?_⟩
  refine ⟨G, F, ε, _, xq, I, ht, fun F1 H1 vs os ε1 s1 k1 I1 r1 ⟨nd, h1⟩ => ?_, hx⟩
  obtain ⟨as, a1, ar, h2⟩ := argsD_ar I1 r1 h1
  rw [List.append_nil]
  refine ⟨F1, as, _, _, I1.sF, a1, ar.nodup I1 nd, h2, fun F2 H2 v d as' b rv hk => ?_, fun F2 H2 ee cls dx as' b xo hk => hk.elim⟩
  obtain ⟨I2, k2⟩ := I1.back ar nd b
  exact hq F2 H2 v (.d d) _ (s1.trans b.s) (k1.trans k2) I2 rv hk
end
end Zd
namespace Zd
open PySem PySem.Spec L2 TL

/-! ### built-ins -/
section
variable {K : PySem.W.Frag} {F H : Hp}
theorem RpBs.one {vs : List V} {x : D} (r : RpBs K F H vs [x]) : ∃ v, vs = [v] ∧ RpB K F H v x := by
  cases r with
  | cons a b => cases b; exact ⟨_, rfl, a⟩
theorem RpBs.two {vs : List V} {x y : D} (r : RpBs K F H vs [x, y]) : ∃ v w, vs = [v, w] ∧ RpB K F H v x ∧ RpB K F H w y := by
  cases r with
  | cons a b =>
    obtain ⟨w, rfl, c⟩ := b.one
    exact ⟨_, _, rfl, a, c⟩
end
/-- one operand -/
def d1 (f : D → (D → Prop) → Prop) (xs : List D) (q : D → Prop) : Prop := match xs with
  | [x] => f x q
  | _ => False
def d2 (f : D → D → (D → Prop) → Prop) (xs : List D) (q : D → Prop) : Prop := match xs with
  | [x, y] => f x y q
  | _ => False
theorem d1_ {f : D → (D → Prop) → Prop} {xs : List D} {q : D → Prop} (h : d1 f xs q) : ∃ x, xs = [x] ∧ f x q := by
  unfold d1 at h
  split at h
  · exact ⟨_, rfl, h⟩
  · exact h.elim
theorem d2_ {f : D → D → (D → Prop) → Prop} {xs : List D} {q : D → Prop} (h : d2 f xs q) : ∃ x y, xs = [x, y] ∧ f x y q := by
  unfold d2 at h
  split at h
  · exact ⟨_, _, rfl, h⟩
  · exact h.elim
def fLen (x : D) (q : D → Prop) : Prop := match x with
  | .str cs => cs.length ≤ sizeLine ∧ q (.int cs.length)
  | .lst xs => q (.int xs.length)
  | .ro xs => q (.int xs.length)
  | .tup xs => q (.int xs.length)
  | .dic ds => q (.int ds.length)
  | _ => False
theorem RpD.length {K : PySem.W.Frag} {F : Hp} : ∀ {vs : List (Key × V)} {xs : List (KD × D)}, RpD K F vs xs → vs.length = xs.length
  | _, _, .nil => rfl
  | _, _, .cons _ t => by simp [RpD.length t]
section
variable {X : Cx}
theorem CallR.or {f : Value} {r r' : List V → Hp → VK → Prop} (h : CallR X f r) (h' : CallR X f r') : CallR X f (fun xs H Q => r xs H Q ∨ r' xs H Q) := by
  intro pins s σ H xs us Q I rs q
  rcases q with q | q
  · exact h pins s σ H xs us Q I rs q
  · exact h' pins s σ H xs us Q I rs q
def lenR : DC X (.builtin "len") (d1 fLen) where
  r := _
  h := CallR.or call_len call_lenD
  hr := fun F H vs xs q Q S rs hd hQ => by
    obtain ⟨x, rfl, hd⟩ := d1_ hd
    obtain ⟨v, rfl, rx⟩ := rs.one
    cases x with
    | str cs => exact .inl ⟨_, cs.length, rfl, by rw [rx.str_.1]; exact ⟨by rw [mk_len]; exact hd.1, (mk_len cs).symm⟩, hQ F H _ _ (al_id S) (.int _) hd.2⟩
    | lst xs =>
      obtain ⟨p, vs, e, hp, r⟩ := rx.lst_ S
      exact .inl ⟨_, xs.length, rfl, by rw [e]; exact .inl ⟨vs, .of hp, r.length.symm⟩, hQ F H _ _ (al_id S) (.int _) hd⟩
    | ro xs =>
      obtain ⟨p, vs, e, hp, r⟩ := rx.ro_ S
      exact .inl ⟨_, xs.length, rfl, by rw [e]; exact .inl ⟨vs, hp, r.length.symm⟩, hQ F H _ _ (al_id S) (.int _) hd⟩
    | tup xs =>
      obtain ⟨p, vs, e, _, hp, r⟩ := rx.tup_ S
      exact .inl ⟨_, xs.length, rfl, by rw [e]; exact .inr ⟨vs, hp, r.length.symm⟩, hQ F H _ _ (al_id S) (.int _) hd⟩
    | dic ds =>
      obtain ⟨p, kvs, e, hp, r⟩ := rx.dic_ S
      refine .inr ⟨p, kvs, by rw [e], hp, ?_⟩
      rw [r.length]
      exact hQ F H _ _ (al_id S) (.int _) hd
    | _ => exact hd.elim
def fII (g : Int → Int → Int) (x y : D) (q : D → Prop) : Prop := match x, y with
  | .int i, .int j => q (.int (g i j))
  | _, _ => False
def iiC {f : Value} {g : Int → Int → Int} (h : CallR X f (fun xs H Q => ∃ i j, xs = [.int i, .int j] ∧ Q (.int (g i j)) H)) : DC X f (d2 (fII g)) where
  r := _
  h := h
  hr := fun F H vs xs q Q S rs hd hQ => by
    obtain ⟨x, y, rfl, hd⟩ := d2_ hd
    obtain ⟨v, w, rfl, rx, ry⟩ := rs.two
    cases x <;> cases y <;> try exact hd.elim
    exact ⟨_, _, by rw [rx.int_, ry.int_], hQ F H _ _ (al_id S) (.int _) hd⟩
def maxI (i j : Int) : Int := if j > i then j else i
def minI (i j : Int) : Int := if j < i then j else i
def maxR (hc : X.calm = true) : DC X (.builtin "max") (d2 (fII maxI)) := iiC (call_max2 hc)
def minR (hc : X.calm = true) : DC X (.builtin "min") (d2 (fII minI)) := iiC (call_min2 hc)
def fInt (x : D) (q : D → Prop) : Prop := match x with
  | .int i => q (.int i)
  | .bl b => q (.int (if b then 1 else 0))
  | _ => False
def intR : DC X (.type "int") (d1 fInt) where
  r := _
  h := call_int1
  hr := fun F H vs xs q Q S rs hd hQ => by
    obtain ⟨x, rfl, hd⟩ := d1_ hd
    obtain ⟨v, rfl, rx⟩ := rs.one
    cases x with
    | bl b => exact .inr ⟨b, by rw [rx.bl_], hQ F H _ _ (al_id S) (.int _) hd⟩
    | int i => exact .inl ⟨i, by rw [rx.int_], hQ F H _ _ (al_id S) (.int _) hd⟩
    | _ => exact hd.elim
/-- list(x), tuple(x) -/
def fList (x : D) (q : D → Prop) : Prop := match x with
  | .lst xs => q (.lst xs)
  | .ro xs => q (.lst xs)
  | .tup xs => q (.lst xs)
  | _ => False
def fTuple (x : D) (q : D → Prop) : Prop := match x with
  | .lst xs => q (.tup xs)
  | .ro xs => q (.tup xs)
  | .tup xs => q (.tup xs)
  | _ => False
def listR : DC X (.type "list") (d1 fList) where
  r := _
  h := call_list_of
  hr := fun F H vs xs q Q S rs hd hQ => by
    obtain ⟨x, rfl, hd⟩ := d1_ hd
    obtain ⟨v, rfl, rx⟩ := rs.one
    have fin : ∀ {p : Addr} {vs : List V} {xs : List D}, v = .ref p → (SqL X.K H p vs ∨ SqT X.K H p vs) → RpL X.K F vs xs → q (.lst xs) → ∃ p ys, [v] = [V.ref p] ∧ (SqL X.K H p ys ∨ SqT X.K H p ys) ∧ ∀ l, H l = none → Q (.ref l) (upd H l (.lst ys)) := fun {p vs xs} e h r hd => by
      refine ⟨p, vs, by rw [e], h, fun a ha => ?_⟩
      have A := AL.new (o := .lst vs) S ha
      exact hQ _ _ _ _ A (.lst upd_same (r.mono A.sF)) hd
    cases x with
    | lst xs => obtain ⟨p, vs, e, hp, r⟩ := rx.lst_ S; exact fin e (.inl (.of hp)) r hd
    | ro xs => obtain ⟨p, vs, e, hp, r⟩ := rx.ro_ S; exact fin e (.inl hp) r hd
    | tup xs => obtain ⟨p, vs, e, _, hp, r⟩ := rx.tup_ S; exact fin e (.inr hp) r hd
    | _ => exact hd.elim
def tupleR : DC X (.type "tuple") (d1 fTuple) where
  r := _
  h := call_tuple_of
  hr := fun F H vs xs q Q S rs hd hQ => by
    obtain ⟨x, rfl, hd⟩ := d1_ hd
    obtain ⟨v, rfl, rx⟩ := rs.one
    cases x with
    | lst xs =>
      obtain ⟨p, vs, e, hp, r⟩ := rx.lst_ S
      refine ⟨p, vs, by rw [e], .inl ⟨.of hp, fun a ha => ?_⟩⟩
      have A := AL.new (o := .tup vs) S ha
      exact hQ _ _ _ _ A (.tup (.inl upd_same) (r.mono A.sF)) hd
    | ro xs =>
      obtain ⟨p, vs, e, hp, r⟩ := rx.ro_ S
      refine ⟨p, vs, by rw [e], .inl ⟨hp, fun a ha => ?_⟩⟩
      have A := AL.new (o := .tup vs) S ha
      exact hQ _ _ _ _ A (.tup (.inl upd_same) (r.mono A.sF)) hd
    | tup xs =>
      obtain ⟨p, vs, e, h0, hp, r⟩ := rx.tup_ S
      exact ⟨p, vs, by rw [e], .inr ⟨hp, hQ F H _ _ (al_id S) (.tup h0 r) hd⟩⟩
    | _ => exact hd.elim
/-- all(..), any(..) of a list of truths -/
def blsOf : List D → Option (List Bool)
  | [] => some []
  | .bl b :: r => match blsOf r with
    | some bs => some (b :: bs)
    | none => none
  | _ => none
theorem bls_of {K : PySem.W.Frag} {F : Hp} : ∀ {vs : List V} {xs : List D} {bs : List Bool}, RpL K F vs xs → blsOf xs = some bs → vs = bs.map V.bl
  | _, _, _, .nil, h => by cases h; rfl
  | _, x :: xs, bs, .cons r t, h => by
    cases x <;> try cases h
    rename_i b
    cases r
    have h : (match blsOf xs with | some bs => some (b :: bs) | none => none) = some bs := h
    cases e : blsOf xs with
    | none => rw [e] at h; cases h
    | some cs =>
      rw [e] at h
      cases h
      rw [bls_of t e]
      rfl
def fBls (g : List Bool → Bool) (x : D) (q : D → Prop) : Prop := match x with
  | .lst xs => match blsOf xs with
    | some bs => q (.bl (g bs))
    | none => False
  | _ => False
theorem fBls_ {g : List Bool → Bool} {x : D} {q : D → Prop} (h : fBls g x q) : ∃ xs bs, x = .lst xs ∧ blsOf xs = some bs ∧ q (.bl (g bs)) := by
  cases x <;> try exact h.elim
  rename_i xs
  have h : (match blsOf xs with | some bs => q (.bl (g bs)) | none => False) := h
  cases e : blsOf xs with
  | none => rw [e] at h; exact h.elim
  | some bs => rw [e] at h; exact ⟨xs, bs, rfl, e, h⟩
def blsC {f : Value} {g : List Bool → Bool} (h : CallR X f (fun vs H Q => ∃ (a : Addr) (bs : List Bool), vs = [V.ref a] ∧ SqL X.K H a (bs.map V.bl) ∧ Q (.bl (g bs)) H)) : DC X f (d1 (fBls g)) where
  r := _
  h := h
  hr := fun F H vs xs q Q S rs hd hQ => by
    obtain ⟨x, rfl, hd⟩ := d1_ hd
    obtain ⟨v, rfl, rx⟩ := rs.one
    obtain ⟨xs, bs, rfl, e1, hd⟩ := fBls_ hd
    obtain ⟨p, vs, e, hp, r⟩ := rx.lst_ S
    refine ⟨p, bs, by rw [e], ?_, hQ F H _ _ (al_id S) (.bl _) hd⟩
    rw [← bls_of r e1]
    exact .of hp
def allR (hc : X.calm = true) : DC X (.builtin "all") (d1 (fBls fun bs => bs.all id)) := blsC (cr_all hc)
def anyR (hc : X.calm = true) : DC X (.builtin "any") (d1 (fBls fun bs => bs.any id)) := blsC (cr_any hc)
/-- sum(..) of a list of ints -/
def intsOf : List D → Option (List Int)
  | [] => some []
  | .int b :: r => match intsOf r with
    | some bs => some (b :: bs)
    | none => none
  | _ => none
theorem ints_of {K : PySem.W.Frag} {F : Hp} : ∀ {vs : List V} {xs : List D} {bs : List Int}, RpL K F vs xs → intsOf xs = some bs → vs = bs.map V.int
  | _, _, _, .nil, h => by cases h; rfl
  | _, x :: xs, bs, .cons r t, h => by
    cases x <;> try cases h
    rename_i b
    cases r
    have h : (match intsOf xs with | some bs => some (b :: bs) | none => none) = some bs := h
    cases e : intsOf xs with
    | none => rw [e] at h; cases h
    | some cs =>
      rw [e] at h
      cases h
      rw [ints_of t e]
      rfl
def fSum (x : D) (q : D → Prop) : Prop := match x with
  | .lst xs => match intsOf xs with
    | some bs => q (.int bs.sum)
    | none => False
  | _ => False
def sumR (hc : X.calm = true) : DC X (.builtin "sum") (d1 fSum) where
  r := _
  h := cr_sum hc
  hr := fun F H vs xs q Q S rs hd hQ => by
    obtain ⟨x, rfl, hd⟩ := d1_ hd
    obtain ⟨v, rfl, rx⟩ := rs.one
    cases x with
    | lst xs =>
      have hd : (match intsOf xs with | some bs => q (.int bs.sum) | none => False) := hd
      cases e1 : intsOf xs with
      | none => rw [e1] at hd; exact hd.elim
      | some bs =>
        rw [e1] at hd
        obtain ⟨p, vs, e, hp, r⟩ := rx.lst_ S
        refine ⟨p, bs, by rw [e], ?_, hQ F H _ _ (al_id S) (.int _) hd⟩
        rw [← ints_of r e1]
        exact .of hp
    | _ => exact hd.elim
def fdivW : D2 X (binaryOp .FloorDiv) (dII CDivW fun i j => .int (i / j)) := iiR _ op_fdivW fun _ _ _ => .int _
def powR : D2 X (binaryOp .Pow) (dII CPow fun i j => .int (i ^ j.toNat)) := iiR _ op_pow fun _ _ _ => .int _
/-- isinstance(x, T), T a built-in class -/
def tyD : D → Option String
  | .non => some "NoneType"
  | .bl _ => some "bool"
  | .int _ => some "int"
  | .str _ => some "str"
  | .lst _ => some "list"
  | .tup _ => some "tuple"
  | .dic _ => some "dict"
  | _ => none
def fIsi (T : String) (x : D) (q : D → Prop) : Prop := match tyD x with
  | some t => match kitB t T with
    | some b => q (.bl b)
    | none => False
  | none => False
theorem ty_of {K : PySem.W.Frag} {F H : Hp} {v : V} {x : D} {t : String} (S : Same F H) (r : RpB K F H v x) (h : tyD x = some t) : TyX K H v (.type t) := by
  cases x with
  | non => cases h; rw [r.non_]; exact .base .non
  | bl _ => cases h; rw [r.bl_]; exact .base (.bl _)
  | int _ => cases h; rw [r.int_]; exact .base (.int _)
  | str _ => cases h; rw [r.str_.1]; exact .base (.str _)
  | lst _ => cases h; obtain ⟨p, vs, e, hp, _⟩ := r.lst_ S; rw [e]; exact .base (.lst hp)
  | tup _ =>
    cases h
    obtain ⟨p, vs, e, hp, _, _⟩ := r.tup_ S
    rw [e]
    rcases hp with hp | ((hp | ⟨_, hp⟩) | ⟨o, its, n, hk, hc, _⟩)
    · exact .base (.tup (S _ _ hp))
    · cases hp
    · cases hp
    · exact .kTuple hk hc
  | dic _ => cases h; obtain ⟨p, vs, e, hp, _⟩ := r.dic_ S; rw [e]; exact .base (.dK hp)
  | ro _ => cases h
  | obj _ _ => cases h
  | exc _ _ => cases h
  | nkd _ => cases h
/-- the class itself, as a value -/
theorem de_isi {W : WX} {a : Expr} {ta : TD} {x T : Str} {p p2 pos : Pos} {n : String} (ha : DE X W a ta) (hg : Gl X "isinstance") (hm : X.mg "isinstance" = none) (hT : PE X (.Name T p2) (tC (.ty n)))
    (hs : starEach [a, .Name T p2] X.env = (false, eval a X.env) :: starEach [.Name T p2] X.env := by rfl) (hs2 : starEach [.Name T p2] X.env = (false, eval (.Name T p2) X.env) :: starEach [] X.env := by rfl)
    (hpl : (backTo pos (starEach [.Name T p2] X.env)).any (·.1) = false := by rfl) : DE X W (.Call (.Name "isinstance" p) [a, .Name T p2] [] pos) (fun ε q xq => ta ε (fun o ε1 => fIsi n (o.get ε1) fun z => q (.d z) ε1) xq) := by
  refine ⟨PE.conv (pe_callB call_isi hg hm PyProof.Rows.boot_isinstance (pa_cons ha.pe (pa_cons hT pa_nil hs2) hs) (by decide) (by decide) hs hpl) fun σ H Q ⟨G, F, ε, q, xq, I, ht, hq, hx⟩ => ?_⟩
  refine ⟨G, F, ε, _, xq, I, ht, fun F1 H1 v o ε1 s1 k1 I1 r1 h1 => ?_, hx⟩
  have rb := r1.b I1
  generalize o.get ε1 = y at rb h1
  unfold fIsi at h1
  cases e1 : tyD y with
  | none => rw [e1] at h1; exact h1.elim
  | some t =>
    rw [e1] at h1
    cases e2 : kitB t n with
    | none => simp only [e2] at h1
    | some b =>
      simp only [e2] at h1
      exact ⟨v, .ty n, _, _, b, rfl, .ty n, ty_of I1.sF rb e1, kit_ty e2, hq F1 H1 _ (.d (.bl b)) ε1 s1 k1 I1 (Rp.bl b) h1⟩
end
end Zd
namespace Zd
open PySem PySem.Spec L2 TL

/-! ### texts -/
def isS (x : D) : Prop := match x with
  | .str _ => True
  | _ => False
structure DM1 (X : Cx) (id : String) (dop : D → D → (D → Prop) → Prop) where
  r : V → List V → Hp → VK → Prop
  h : MtR X id r
  hr : ∀ F H v w x y (q : D → Prop) (Q : VK), Same F H → RpB X.K F H v x → RpB X.K F H w y → dop x y q → (∀ F' H' z d, AL F H F' H' → Rp X.K F' z d → q d → Q z H') → r v [w] H Q
structure DM0 (X : Cx) (id : String) (dop : D → (D → Prop) → Prop) where
  r : V → List V → Hp → VK → Prop
  h : MtR X id r
  hr : ∀ F H v x (q : D → Prop) (Q : VK), Same F H → RpB X.K F H v x → dop x q → (∀ F' H' z d, AL F H F' H' → Rp X.K F' z d → q d → Q z H') → r v [] H Q
def dM1 (dop : D → D → (D → Prop) → Prop) (ta tb : TD) : TD := fun ε q xq => ta ε (fun o ε1 => isS (o.get ε1) ∧ tb ε1 (fun o' ε2 => dop (o.get ε2) (o'.get ε2) fun z => q (.d z) ε2) xq) xq
def dM0 (dop : D → (D → Prop) → Prop) (ta : TD) : TD := fun ε q xq => ta ε (fun o ε1 => isS (o.get ε1) ∧ dop (o.get ε1) fun z => q (.d z) ε1) xq
theorem isS_ {K : PySem.W.Frag} {F H : Hp} {v : V} {x : D} (r : RpB K F H v x) (h : isS x) : ∃ a, v = .str a := by
  cases x with
  | str cs => exact ⟨_, r.str_.1⟩
  | _ => exact h.elim
section
variable {X : Cx} {W : WX} {e : Expr} {ta tb : TD} {id : String}
theorem de_m1 {dop : D → D → (D → Prop) → Prop} (k : DM1 X id dop) (h : PE X e (tM1 k.r (LE X.K W ta) (LE X.K W tb))) : DE X W e (dM1 dop ta tb) := by
  refine ⟨PE.conv h fun σ H Q ⟨G, F, ε, q, xq, I, ht, hq, hx⟩ => ?_⟩
  refine ⟨G, F, ε, _, xq, I, ht, fun F1 H1 v o ε1 s1 k1 I1 r1 ⟨hs, h1⟩ => ⟨isS_ (r1.b I1) hs, ?_⟩, hx⟩
  refine ⟨G, F1, ε1, _, xq, I1, h1, fun F2 H2 w o' ε2 s2 k2 I2 r2 h2 => ?_, hx.mono s1⟩
  refine k.hr F2 H2 v w _ _ _ Q I2.sF ((r1.mono s2 k2).b I2) (r2.b I2) h2 fun F3 H3 z d al rz hz => ?_
  exact hq F3 H3 z (.d d) ε2 ((s1.trans s2).trans al.sF) (k1.trans k2) (I2.al al) rz hz
theorem de_m0 {dop : D → (D → Prop) → Prop} (k : DM0 X id dop) (h : PE X e (tM0 k.r (LE X.K W ta))) : DE X W e (dM0 dop ta) := by
  refine ⟨PE.conv h fun σ H Q ⟨G, F, ε, q, xq, I, ht, hq, hx⟩ => ?_⟩
  refine ⟨G, F, ε, _, xq, I, ht, fun F1 H1 v o ε1 s1 k1 I1 r1 ⟨hs, h1⟩ => ⟨isS_ (r1.b I1) hs, ?_⟩, hx⟩
  refine k.hr F1 H1 v _ _ Q I1.sF (r1.b I1) h1 fun F3 H3 z d al rz hz => ?_
  exact hq F3 H3 z (.d d) ε1 (s1.trans al.sF) k1 (I1.al al) rz hz
end
theorem Asc.one {c : Nat} (h : c < 128) : Asc [c] := fun k hk => by rw [List.mem_singleton.mp hk]; exact h
theorem spl_asc (S : List Nat) : ∀ (n : Nat) (acc l : List Nat), Asc acc → Asc l → ∀ p ∈ spl S n acc l, Asc p := by
  intro n acc l
  fun_induction spl S n acc l with
  | case1 n acc => intro h _ p hp; rw [List.mem_singleton.mp hp]; exact h
  | case2 acc c r hc ih =>
    intro h1 h2 p hp
    rcases List.mem_cons.mp hp with e | hp
    · rw [e]; exact h1
    · exact ih Asc.nil (fun k hk => h2 k (List.mem_cons_of_mem _ hk)) p hp
  | case3 acc c r hc ih =>
    intro h1 h2
    exact ih (h1.append (Asc.one (h2 c List.mem_cons_self))) fun k hk => h2 k (List.mem_cons_of_mem _ hk)
  | case4 acc c r k ih =>
    intro h1 h2
    exact ih h1 fun k hk => h2 k (List.mem_cons_of_mem _ hk)
theorem par_asc (S : List Nat) : ∀ (acc l u w : List Nat), Asc acc → Asc l → par S acc l = some (u, w) → Asc u ∧ Asc w := by
  intro acc l
  fun_induction par S acc l with
  | case1 acc => intro u w _ _ h; cases h
  | case2 acc c r hc =>
    intro u w h1 h2 h
    cases h
    exact ⟨h1, h2.drop _⟩
  | case3 acc c r hc ih =>
    intro u w h1 h2 h
    exact ih u w (h1.append (Asc.one (h2 c List.mem_cons_self))) (fun k hk => h2 k (List.mem_cons_of_mem _ hk)) h
theorem mk256 {b : List Nat} (h : Asc b) : (mk b).cps.all (· < 256) = true := by
  rw [← Array.all_toList]
  exact List.all_eq_true.mpr fun c hc => decide_eq_true (Nat.lt_trans (h c hc) (by decide))
theorem map_mk_tl (ys : List Str) : (ys.map tl).map mk = ys := by
  rw [List.map_map]
  conv => rhs; rw [← List.map_id ys]
  exact List.map_congr_left fun y _ => mk_tl y
def fSplit (x y : D) (q : D → Prop) : Prop := match x, y with
  | .str a, .str b => b ≠ [] ∧ a.length + 2 ≤ sizeLine ∧ q (.lst ((spl b 0 [] a).map .str))
  | _, _ => False
def fPart (x y : D) (q : D → Prop) : Prop := match x, y with
  | .str a, .str b => b ≠ [] ∧ a.length ≤ sizeLine ∧ q (match par b [] a with
    | some (u, w) => .tup [.str u, .str b, .str w]
    | none => .tup [.str a, .str [], .str []])
  | _, _ => False
/-- the texts of a list -/
def strsOf : List D → Option (List (List Nat))
  | [] => some []
  | .str b :: r => match strsOf r with
    | some bs => some (b :: bs)
    | none => none
  | _ => none
theorem strsOf_map : ∀ css : List (List Nat), strsOf (css.map D.str) = some css
  | [] => rfl
  | c :: r => by
    show (match strsOf (r.map D.str) with | some bs => some (c :: bs) | none => none) = _
    rw [strsOf_map r]
theorem strs_of {K : PySem.W.Frag} {F : Hp} : ∀ {vs : List V} {xs : List D} {bs : List (List Nat)}, RpL K F vs xs → strsOf xs = some bs → vs = (bs.map mk).map V.str ∧ ∀ b ∈ bs, Asc b
  | _, _, _, .nil, h => by cases h; exact ⟨rfl, fun _ h => nomatch h⟩
  | _, x :: xs, bs, .cons r t, h => by
    cases x <;> try cases h
    rename_i b
    cases r with
    | str _ a =>
      have h : (match strsOf xs with | some bs => some (b :: bs) | none => none) = some bs := h
      cases e : strsOf xs with
      | none => rw [e] at h; cases h
      | some cs =>
        rw [e] at h
        cases h
        obtain ⟨h1, h2⟩ := strs_of t e
        rw [h1]
        refine ⟨rfl, fun c hc => ?_⟩
        rcases List.mem_cons.mp hc with e | hc
        · rw [e]; exact a
        · exact h2 c hc
def jn (s : List Nat) (xs : List D) (q : D → Prop) : Prop := match strsOf xs with
  | some css => (css.map List.length).sum + css.length * s.length ≤ 16777216 ∧ q (.str (joinL s css))
  | none => False
def fJoin (x y : D) (q : D → Prop) : Prop := match x, y with
  | .str s, .lst xs => jn s xs q
  | .str s, .tup xs => jn s xs q
  | _, _ => False
theorem joinL_asc {s : List Nat} (hs : Asc s) : ∀ {css : List (List Nat)}, (∀ c ∈ css, Asc c) → Asc (joinL s css)
  | [], _ => Asc.nil
  | [p], h => h p List.mem_cons_self
  | p :: q :: r, h => (h p List.mem_cons_self).append (hs.append (joinL_asc hs fun c hc => h c (List.mem_cons_of_mem _ hc)))
def fLower (x : D) (q : D → Prop) : Prop := match x with
  | .str a => a.length ≤ 5592405 ∧ q (.str (a.map PyProof.Rows.lo1))
  | _ => False
def fUpper (x : D) (q : D → Prop) : Prop := match x with
  | .str a => a.length ≤ 5592405 ∧ q (.str (a.map PyProof.Rows.up1))
  | _ => False
def fStarts (x y : D) (q : D → Prop) : Prop := match x, y with
  | .str a, .str b => q (.bl (pre b a))
  | _, _ => False
theorem starts_pre (a b : List Nat) : Txt.startswith (mk a) (mk b) = pre b a := by
  unfold Txt.startswith
  cases b with
  | nil =>
    have h1 : Builtin.Str.subAt (mk a) (mk []) 0 = true := by
      unfold Builtin.Str.subAt
      simp [mk, Str.length]
    rw [h1]
    simp [mk, Str.length, pre]
  | cons c r =>
    have h := at_iff (x := mk a) (y := mk (c :: r)) (by simp [mk]) 0
    have e : tl (mk a) = a := rfl
    have e2 : tl (mk (c :: r)) = c :: r := rfl
    rw [e, e2, List.drop_zero] at h
    cases hp : pre (c :: r) a with
    | true =>
      obtain ⟨h1, h2⟩ := h.mpr hp
      rw [h2, decide_eq_true h1]
      rfl
    | false =>
      have hn : ¬ PySem.StrLaws.At (mk a) (mk (c :: r)) (mk a).length 0 := fun z => by rw [h.mp z] at hp; cases hp
      by_cases h1 : 0 + (mk (c :: r)).length ≤ (mk a).length
      · have h2 : Builtin.Str.subAt (mk a) (mk (c :: r)) 0 = false := by
          cases q : Builtin.Str.subAt (mk a) (mk (c :: r)) 0 with
          | false => rfl
          | true => exact absurd ⟨h1, q⟩ hn
        rw [h2, Bool.and_false]
      · rw [decide_eq_false h1, Bool.false_and]
section
variable {X : Cx}
def splitR : DM1 X "str.split" fSplit where
  r := _
  h := mt_split
  hr := fun F H v w x y q Q S rx ry hd hQ => by
    cases x <;> cases y <;> try exact hd.elim
    rename_i a b
    obtain ⟨hb, hz, hd⟩ := hd
    obtain ⟨e1, a1⟩ := rx.str_
    obtain ⟨e2, a2⟩ := ry.str_
    have hs : (Txt.split (mk a) (mk b)).map tl = spl b 0 [] a := split_spl _ _ hb (kind_ok (mk256 a2))
    refine ⟨_, _, e1, by rw [e2], by rw [mk_len]; cases b with | nil => exact absurd rfl hb | cons _ _ => rfl, by rw [mk_len]; exact hz, fun p hp => ?_⟩
    have hy : Txt.split (mk a) (mk b) = (spl b 0 [] a).map mk := by rw [← hs, map_mk_tl]
    rw [hy]
    have A := AL.new (o := .lst (((spl b 0 [] a).map mk).map V.str)) S hp
    exact hQ _ _ _ _ A (.lst upd_same (RpL.strs (spl_asc b 0 [] a Asc.nil a1))) hd
def partR : DM1 X "str.partition" fPart where
  r := _
  h := mt_partition
  hr := fun F H v w x y q Q S rx ry hd hQ => by
    cases x <;> cases y <;> try exact hd.elim
    rename_i a b
    obtain ⟨hb, hz, hd⟩ := hd
    obtain ⟨e1, a1⟩ := rx.str_
    obtain ⟨e2, a2⟩ := ry.str_
    refine ⟨_, _, e1, by rw [e2], by rw [mk_len]; cases b with | nil => exact absurd rfl hb | cons _ _ => rfl, by rw [mk_len]; exact hz, fun p hp => ?_⟩
    rw [partition_par (mk a) (mk b) hb]
    have e3 : par (tl (mk b)) [] (tl (mk a)) = par b [] a := rfl
    rw [e3]
    cases e : par b [] a with
    | none =>
      rw [e] at hd
      have A := AL.new (o := .tup [V.str (mk a), V.str (mk []), V.str (mk [])]) S hp
      exact hQ _ _ _ _ A (.tup (.inl upd_same) (.cons (.str a a1) (.cons (.str [] Asc.nil) (.cons (.str [] Asc.nil) .nil)))) hd
    | some uw =>
      obtain ⟨u, w'⟩ := uw
      rw [e] at hd
      obtain ⟨b1, b2⟩ := par_asc b [] a u w' Asc.nil a1 e
      have A := AL.new (o := .tup [V.str (mk u), V.str (mk b), V.str (mk w')]) S hp
      exact hQ _ _ _ _ A (.tup (.inl upd_same) (.cons (.str u b1) (.cons (.str b a2) (.cons (.str w' b2) .nil)))) hd
def joinR : DM1 X "str.join" fJoin where
  r := _
  h := mt_join
  hr := fun F H v w x y q Q S rx ry hd hQ => by
    have fin : ∀ {s : List Nat} {xs : List D} {p : Addr} {vs : List V}, RpB X.K F H v (.str s) → w = .ref p → (SqL X.K H p vs ∨ SqT X.K H p vs) → RpL X.K F vs xs → jn s xs q →
        ∃ a p, ∃ ys : List Str, v = .str a ∧ [w] = [.ref p] ∧ (SqL X.K H p (ys.map V.str) ∨ SqT X.K H p (ys.map V.str)) ∧ (ys.map (·.length)).sum + ys.length * a.length ≤ 16777216 ∧ Q (.str (Txt.join a ys)) H := by
      intro s xs p vs rx e hp r hd
      unfold jn at hd
      cases e1 : strsOf xs with
      | none => rw [e1] at hd; exact hd.elim
      | some css =>
        rw [e1] at hd
        obtain ⟨h1, h2⟩ := strs_of r e1
        obtain ⟨e3, a3⟩ := rx.str_
        refine ⟨mk s, p, css.map mk, e3, by rw [e], by rw [← h1]; exact hp, ?_, ?_⟩
        · rw [List.map_map, List.length_map, mk_len]
          have : (List.length ∘ tl) ∘ mk = List.length := rfl
          have e5 : (fun x : Str => x.length) ∘ mk = List.length := funext fun c => mk_len c
          rw [e5]
          exact hd.1
        · have e6 : Txt.join (mk s) (css.map mk) = mk (joinL s css) := by
            apply ext_tl
            rw [join_eq, tl_join, List.map_map]
            have : tl ∘ mk = id := rfl
            rw [this, List.map_id]
          rw [e6]
          exact hQ F H _ _ (al_id S) (.str _ (joinL_asc a3 h2)) hd.2
    cases x <;> cases y <;> try exact hd.elim
    · obtain ⟨p, vs, e, hp, r⟩ := ry.lst_ S
      exact fin rx e (.inl (.of hp)) r hd
    · obtain ⟨p, vs, e, _, hp, r⟩ := ry.tup_ S
      exact fin rx e (.inr hp) r hd
def lowerR : DM0 X "str.lower" fLower where
  r := _
  h := mt_lower
  hr := fun F H v x q Q S rx hd hQ => by
    cases x <;> try exact hd.elim
    rename_i a
    obtain ⟨e1, a1⟩ := rx.str_
    refine ⟨_, e1, rfl, by rw [mk_len]; exact hd.1, ?_⟩
    have e : Txt.lower (mk a) = mk (a.map PyProof.Rows.lo1) := by rw [PyProof.Rows.lower_ascii (x := mk a) a1]; apply ext_tl; simp [tl]
    rw [e]
    exact hQ F H _ _ (al_id S) (.str _ fun c hc => by
      obtain ⟨d, hd, rfl⟩ := List.mem_map.mp hc
      have := a1 d hd
      unfold PyProof.Rows.lo1
      split <;> omega) hd.2
def upperR : DM0 X "str.upper" fUpper where
  r := _
  h := mt_upper
  hr := fun F H v x q Q S rx hd hQ => by
    cases x <;> try exact hd.elim
    rename_i a
    obtain ⟨e1, a1⟩ := rx.str_
    refine ⟨_, e1, rfl, by rw [mk_len]; exact hd.1, ?_⟩
    have e : Txt.upper (mk a) = mk (a.map PyProof.Rows.up1) := by rw [PyProof.Rows.upper_ascii (x := mk a) a1]; apply ext_tl; simp [tl]
    rw [e]
    exact hQ F H _ _ (al_id S) (.str _ fun c hc => by
      obtain ⟨d, hd, rfl⟩ := List.mem_map.mp hc
      have := a1 d hd
      unfold PyProof.Rows.up1
      split <;> omega) hd.2
def startsR : DM1 X "str.startswith" fStarts where
  r := _
  h := mt_startswith
  hr := fun F H v w x y q Q S rx ry hd hQ => by
    cases x <;> cases y <;> try exact hd.elim
    rename_i a b
    refine ⟨_, _, rx.str_.1, by rw [ry.str_.1], ?_⟩
    rw [starts_pre]
    exact hQ F H _ _ (al_id S) (.bl _) hd
end
end Zd
namespace Zd
open PySem PySem.Spec L2 TL

/-! ### calls with keywords -/
/-- the positional values, then the keywords' in the parameters' order -/
def gP {α : Type} (ix : List Nat) (us ws : List α) : List α := us ++ ix.filterMap fun i => ws[i]?
theorem pick_vals {zs : List V} {ws : List Value} (r : Vals zs ws) : ∀ ix : List Nat, Vals (ix.filterMap fun i => zs[i]?) (ix.filterMap fun i => ws[i]?)
  | [] => .nil
  | i :: ix => by
    rw [List.filterMap_cons, List.filterMap_cons]
    cases e : zs[i]? with
    | none => rw [r.none_of e]; exact pick_vals r ix
    | some x =>
      obtain ⟨u, e1, r1⟩ := r.get e
      rw [e1]
      exact .cons r1 (pick_vals r ix)
section
variable {K : PySem.W.Frag}
theorem kb_of {x qual : Str} {st : Stmt} {f : Addr} {fd : FuncData} {ps : List Str} (F : Fun K x qual st f fd) (n : Nat) (ks : List Str) (ix : List Nat)
    (h : ∀ (kV doc pm : Value) (an : Option Addr) (cdv ct : Value) (us ws : List Value), us.length = n → ws.length = ks.length → bindArgs (PySem.W.fnOf x qual (defArgs st) (defBody st) (defScope st) .none kV doc pm an cdv ct) ⟨us, ks.zip ws⟩ = pure (ps.zip (gP ix us ws))) :
    KBn K fd ps n ks (gP ix) (gP ix) := by
  obtain ⟨oc, od, kV, doc, pm, an, cdv, ct, osl, rfl, lk, hcd⟩ := F.ex
  exact ⟨fun s us ws _ h1 h2 => .of_eq (h kV doc pm an cdv ct us ws h1 h2), fun r1 r2 => r1.append (pick_vals r2 ix)⟩
end
section
variable {X : Cx} {CX : CXT} {k n : Nat} {f : Addr} {fd : FuncData} {ps ks : List Str} {sp : Sp} {E : XK} {x : Str} {p pos : Pos} {kws : List Keyword} {t tk : TA} {g : List Value → List Value → List Value} {gV : List V → List V → List V}
/-- f(k = v, ..) -/
theorem pe_callN0 (F : FnOk X.prog X.w X.K X.mg X.base CX k f fd ps sp) (hr : Room k X.A) (hg : Gl X x) (hm : X.mg x = some (.ref f)) (hk : PySem.W.keepIn X.K (.ref f) = true) (hb : KBn X.K fd ps 0 ks g gV) (hx : Passes CX X E) (hkw : PK X kws tk)
    (hall : (backToKw pos (keywordEach kws X.env)).all (·.1.isSome) = true := by rfl) (hks : (backToKw pos (keywordEach kws X.env)).filterMap (·.1) = ks := by rfl) (hdb : (x == ("__debug__" : Str)) = false := by decide)
    (hpl : ((backTo pos (starEach [] X.env)).any (·.1) || (backToKw pos (keywordEach kws X.env)).any (·.1.isNone)) = false := by rfl) :
    PE X (.Call (.Name x p) [] kws pos) (tCallN 0 ks.length sp gV E tNil tk) := by
  refine ⟨fun pins s σ H Q I h => wpAny_Call_Name_kw (ld_glob I hg hm (PySem.W.callWith_KW0 (h₀ := X.base) I.ok.mod.kin hk hall ?_ hpl) hdb)⟩
  refine thn (hkw.run pos pins s σ H _ I h) fun ws s2 ⟨zs, H2, I2, rz, l1, l2, q2⟩ => ⟨I2.kIn, ?_⟩
  rw [hks]
  exact run_fnN (us := []) (vs := []) F hr hb hx I2 .nil rz rfl l2 q2
end
theorem PK.conv {X : Cx} {kws : List Keyword} {t t' : TA} (h : PK X kws t) (c : ∀ σ H Q, t' σ H Q → t σ H Q) : PK X kws t' := ⟨fun pos pins s σ H Q I q => h.run pos pins s σ H Q I (c σ H Q q)⟩
structure DK (X : Cx) (W : WX) (kws : List Keyword) (t : TL) : Prop where
  pk : PK X kws (LA X.K W t)
section
variable {X : Cx} {W : WX} {a e : Expr} {ta : TD} {kws : List Keyword} {t u tk : TL} {nm : Option Str} {kpos : Pos} {fs : FS} {n m : Nat} {ix : List Nat}
theorem la_cons {σ : L2.St} {H : Hp} {Q : List V → Hp → Prop} (h : LA X.K W (aCons ta u) σ H Q) : tCons (LE X.K W ta) (LA X.K W u) σ H Q := by
  obtain ⟨G, F, ε, q, xq, I, ht, hq, hx⟩ := h
  refine ⟨G, F, ε, _, xq, I, ht, fun F1 H1 v o ε1 s1 k1 I1 r1 h1 => ?_, hx⟩
  refine ⟨G, F1, ε1, _, xq, I1, h1, fun F2 H2 vs os ε2 s2 k2 I2 r2 h2 => ?_, hx.mono s1⟩
  exact hq F2 H2 (v :: vs) (o :: os) ε2 (s1.trans s2) (k1.trans k2) I2 (.cons (r1.mono s2 k2) r2) h2
theorem dk_nil : DK X W [] aNil := ⟨PK.conv pk_nil fun σ H Q ⟨G, F, ε, q, xq, I, ht, hq, hx⟩ => hq F H [] [] ε (.refl _) (.refl _) I .nil ht⟩
theorem dk_cons (ha : DE X W a ta) (hr : DK X W kws u) : DK X W (⟨nm, a, kpos⟩ :: kws) (aCons ta u) := ⟨PK.conv (pk_cons ha.pe hr.pk) fun σ H Q h => la_cons h⟩
/-- both in a row -/
def aApp (ix : List Nat) (n m : Nat) (t tk : TL) : TL := fun ε q xq => t ε (fun os ε1 => tk ε1 (fun ks ε2 => os.length = n ∧ ks.length = m ∧ q (gP ix os ks) ε2) xq) xq
theorem OsOk.app {K : PySem.W.Frag} {F : Hp} {σ : L2.St} {ε : Env} : ∀ {vs ws : List V} {os us : List Opd}, OsOk K F σ ε vs os → OsOk K F σ ε ws us → OsOk K F σ ε (vs ++ ws) (os ++ us)
  | _, _, _, _, .nil, h => h
  | _, _, _, _, .cons r t, h => .cons r (OsOk.app t h)
theorem OsOk.get {K : PySem.W.Frag} {F : Hp} {σ : L2.St} {ε : Env} : ∀ {vs : List V} {os : List Opd} {i : Nat}, OsOk K F σ ε vs os → (vs[i]? = none ∧ os[i]? = none) ∨ ∃ v o, vs[i]? = some v ∧ os[i]? = some o ∧ OpdOk K F σ ε v o
  | _, _, _, .nil => .inl ⟨by simp, by simp⟩
  | _, _, 0, .cons r _ => .inr ⟨_, _, rfl, rfl, r⟩
  | _, _, i + 1, .cons _ t => by simpa using OsOk.get (i := i) t
theorem OsOk.pick {K : PySem.W.Frag} {F : Hp} {σ : L2.St} {ε : Env} {vs : List V} {os : List Opd} (h : OsOk K F σ ε vs os) : ∀ ix : List Nat, OsOk K F σ ε (ix.filterMap fun i => vs[i]?) (ix.filterMap fun i => os[i]?)
  | [] => .nil
  | i :: ix => by
    rw [List.filterMap_cons, List.filterMap_cons]
    rcases OsOk.get (i := i) h with ⟨e1, e2⟩ | ⟨v, o, e1, e2, r⟩
    · rw [e1, e2]; exact OsOk.pick h ix
    · rw [e1, e2]; exact .cons r (OsOk.pick h ix)
theorem la_app {σ : L2.St} {H : Hp} {R : List V → Hp → Prop} (h : LA X.K W (aApp ix n m t tk) σ H R) : LA X.K W t σ H fun vs H1 => LA X.K W tk σ H1 fun zs H2 => vs.length = n ∧ zs.length = m ∧ R (gP ix vs zs) H2 := by
  obtain ⟨G, F, ε, q, xq, I, ht, hq, hx⟩ := h
  refine ⟨G, F, ε, _, xq, I, ht, fun F1 H1 vs os ε1 s1 k1 I1 r1 h1 => ?_, hx⟩
  refine ⟨G, F1, ε1, _, xq, I1, h1, fun F2 H2 zs us ε2 s2 k2 I2 r2 ⟨l1, l2, h2⟩ => ?_, hx.mono s1⟩
  exact ⟨by rw [r1.len]; exact l1, by rw [r2.len]; exact l2, hq F2 H2 _ _ ε2 (s1.trans s2) (k1.trans k2) I2 ((r1.mono s2 k2).app (r2.pick ix)) h2⟩
theorem de_callK (h : PE X e (tCallN n m (spOf X.K fs) (gP ix) E0 (LA X.K W t) (LA X.K W tk))) : DE X W e (dCallN fs (aApp ix n m t tk)) := by
  refine ⟨PE.conv h fun σ H Q ⟨G, F, ε, q, xq, I, ht, hq, hx⟩ => ?_⟩
  refine la_app (R := fun vs H2 => spOf X.K fs vs H2 Q E0) ⟨G, F, ε, _, xq, I, ht, fun F1 H1 vs os ε1 s1 k1 I1 r1 ⟨nd, h1⟩ => ?_, hx⟩
  obtain ⟨as, a1, ar, h2⟩ := argsD_ar I1 r1 h1
  refine ⟨F1, as, _, _, I1.sF, a1, ar.nodup I1 nd, h2, fun F2 H2 v d as' b rv hk => ?_, fun F2 H2 ee cls dx as' b xo hk => hk.elim⟩
  obtain ⟨I2, k2⟩ := I1.back ar nd b
  exact hq F2 H2 v (.d d) _ (s1.trans b.s) (k1.trans k2) I2 rv hk
theorem tnil_la {σ : L2.St} {H : Hp} {R : List V → Hp → Prop} (h : LA X.K W aNil σ H R) : tNil σ H R := by
  obtain ⟨G, F, ε, q, xq, I, ht, hq, hx⟩ := h
  exact hq F H [] [] ε (.refl _) (.refl _) I .nil ht
theorem de_callK0 (h : PE X e (tCallN 0 m (spOf X.K fs) (gP ix) E0 tNil (LA X.K W tk))) : DE X W e (dCallN fs (aApp ix 0 m aNil tk)) := by
  refine de_callK (n := 0) (t := aNil) ⟨fun pins s σ H Q I q => h.run pins s σ H Q I (tnil_la (X := X) (W := W) q)⟩
end
/-- a reading that may be weakened -/
def MonoD (t : TD) : Prop := ∀ ε (q q' : OQ) xq, (∀ o ε', q o ε' → q' o ε') → t ε q xq → t ε q' xq
def MonoL (t : TL) : Prop := ∀ ε (q q' : List Opd → Env → Prop) xq, (∀ o ε', q o ε' → q' o ε') → t ε q xq → t ε q' xq
end Zd
namespace Zd
open PySem PySem.Spec L2 TL

/-! ### a, b = x, y -/
inductive Nw2 where
  | o (x : Opd) | n (c : OC)
inductive Nd where
  | d (x : D) | n (c : OC)
@[reducible] def Nd.sl : Nd → Sl
  | .d x => .d x
  | .n c => .own c
/-- values in a row, some of them new lists; the guard grows by these -/
inductive Pd (K : PySem.W.Frag) (F : Hp) (σ : L2.St) : Gd → List V → List Nw2 → Gd → Prop
  | nil {G : Gd} : Pd K F σ G [] [] G
  | o {G Gn : Gd} {v : V} {o : Opd} {vs : List V} {ys : List Nw2} : OpdW K F σ v o → Pd K F σ G vs ys Gn → Pd K F σ G (v :: vs) (.o o :: ys) Gn
  | n {G Gn : Gd} {p : Addr} {ho : HO} {c : OC} {vs : List V} {ys : List Nw2} : G.H0 p = none ∧ G.F0 p = none → OcOk K F ho c → Pd K F σ (G.plus p ho) vs ys Gn → Pd K F σ G (.ref p :: vs) (.n c :: ys) Gn
inductive Ps (K : PySem.W.Frag) (F : Hp) : Gd → List V → List Nd → Gd → Prop
  | nil {G : Gd} : Ps K F G [] [] G
  | d {G Gn : Gd} {v : V} {x : D} {vs : List V} {ys : List Nd} : Rp K F v x → Ps K F G vs ys Gn → Ps K F G (v :: vs) (.d x :: ys) Gn
  | n {G Gn : Gd} {p : Addr} {ho : HO} {c : OC} {vs : List V} {ys : List Nd} : G.H0 p = none ∧ G.F0 p = none → OcOk K F ho c → Ps K F (G.plus p ho) vs ys Gn → Ps K F G (.ref p :: vs) (.n c :: ys) Gn
section
variable {K : PySem.W.Frag} {F F' H : Hp} {σ : L2.St} {G Gn : Gd} {ε : Env}
theorem Pd.mono (e : Same F F') : ∀ {G : Gd} {vs : List V} {ys : List Nw2}, Pd K F σ G vs ys Gn → Pd K F' σ G vs ys Gn
  | _, _, _, .nil => .nil
  | _, _, _, .o r t => .o (r.mono e) (Pd.mono e t)
  | _, _, _, .n a b t => .n a (b.mono e) (Pd.mono e t)
theorem Ps.mono (e : Same F F') : ∀ {G : Gd} {vs : List V} {ys : List Nd}, Ps K F G vs ys Gn → Ps K F' G vs ys Gn
  | _, _, _, .nil => .nil
  | _, _, _, .d r t => .d (r.mono e) (Ps.mono e t)
  | _, _, _, .n a b t => .n a (b.mono e) (Ps.mono e t)
def fz2 : Env → List Nw2 → (List Nd → Env → Prop) → Prop
  | ε, [], k => k [] ε
  | ε, .o o :: r, k => fz ε o fun x ε1 => fz2 ε1 r fun ys ε2 => k (.d x :: ys) ε2
  | ε, .n c :: r, k => fz2 ε r fun ys ε2 => k (.n c :: ys) ε2
theorem fz2_of : ∀ {G : Gd} {vs : List V} {ys : List Nw2} {F : Hp} {ε : Env} {k : List Nd → Env → Prop}, Iv K Gn F H σ ε → Pd K F σ G vs ys Gn → fz2 ε ys k → ∃ F' zs ε', Same F F' ∧ Iv K Gn F' H σ ε' ∧ Ps K F' G vs zs Gn ∧ k zs ε'
  | _, _, _, F, ε, _, I, .nil, h => ⟨F, [], ε, .refl _, I, .nil, h⟩
  | _, _, _, F, ε, k, I, .o r t, h => by
    obtain ⟨F1, x, ε1, s1, k1, I1, r1, h1⟩ := fz_of I r h
    obtain ⟨F2, zs, ε2, s2, I2, r2, h2⟩ := fz2_of I1 (t.mono s1) h1
    exact ⟨F2, _, ε2, s1.trans s2, I2, .d (r1.mono s2) r2, h2⟩
  | _, _, _, F, ε, k, I, .n a b t, h => by
    obtain ⟨F2, zs, ε2, s2, I2, r2, h2⟩ := fz2_of I t h
    exact ⟨F2, _, ε2, s2, I2, .n a (b.mono s2) r2, h2⟩
/-- stored from the right -/
def puts : List Nat → List Nd → Env → (Env → Prop) → Prop
  | [], [], ε, k => k ε
  | i :: is, y :: ys, ε, k => puts is ys ε fun ε1 => notPar ε1 i ∧ k (ε1.set i y.sl)
  | _, _, _, _ => False
def putsV : List Nat → List V → L2.St → L2.St
  | i :: is, v :: vs, σ => (putsV is vs σ).set i (some v)
  | _, _, σ => σ
theorem plus_at {G : Gd} {p : Addr} {ho : HO} : (G.plus p ho).H0 p = some ho := upd_same
theorem plus_ne {G : Gd} {p a : Addr} {ho : HO} (h : a ≠ p) : (G.plus p ho).H0 a = G.H0 a := upd_ne h
theorem puts_of : ∀ {G : Gd} {is : List Nat} {vs : List V} {zs : List Nd} {ε : Env} {k : Env → Prop}, Iv K Gn F H σ ε → Ps K F G vs zs Gn → puts is zs ε k → ∃ ε', Iv K G F H (putsV is vs σ) ε' ∧ k ε'
  | _, [], _, _, ε, _, I, .nil, h => ⟨ε, I, h⟩
  | _, _ :: _, _, _, _, _, _, .nil, h => h.elim
  | _, [], _, _, _, _, _, .d _ _, h => h.elim
  | _, [], _, _, _, _, _, .n _ _ _, h => h.elim
  | G, i :: is, _, _, ε, k, I, .d r t, h => by
    obtain ⟨ε1, I1, np, h1⟩ := puts_of I t h
    exact ⟨_, I1.setd np r, h1⟩
  | G, i :: is, _, _, ε, k, I, .n (p := p) (ho := ho) (c := c) a b t, h => by
    obtain ⟨ε1, I1, np, h1⟩ := puts_of I t h
    have f0 : F p = none := I1.fr p a.2 (by rw [plus_at]; simp)
    obtain ⟨I2, e2⟩ := I1.minus a.1
    exact ⟨_, I2.seto np (I1.sH _ _ plus_at) f0 a.1 e2 b, h1⟩
end
abbrev TL2 := Env → (List Nw2 → Env → Prop) → XQ → Prop
def LA2 (K : PySem.W.Frag) (W : WX) (t : TL2) : TA := fun σ H Q => ∃ G F ε q xq, Iv K G F H σ ε ∧ t ε q xq ∧
  (∀ F' H' vs ys ε' Gn, Same F F' → Iv K Gn F' H' σ ε' → Gn.pn = G.pn → Pd K F' σ G vs ys Gn → q ys ε' → Q vs H') ∧ XE1 K W G F σ xq
structure DA2 (X : Cx) (W : WX) (es : List Expr) (t : TL2) : Prop where
  pa : PA X es (LA2 X.K W t)
theorem XE1.unplus {K : PySem.W.Frag} {W : WX} {G : Gd} {F : Hp} {σ : L2.St} {xq : XQ} {p : Addr} {ho : HO} (h : XE1 K W G F σ xq) (h0 : G.H0 p = none) : XE1 K W (G.plus p ho) F σ xq :=
  fun F' H' e ε' cls d s I xo q => h F' H' e ε' cls d s (I.minus h0).1 xo q
section
variable {X : Cx} {W : WX} {a : Expr} {ta : TD} {es : List Expr} {u : TL2} {tn : TN} {t : TL2} {pos : Pos}
def a2Nil : TL2 := fun ε q _ => q [] ε
def a2Cons (t : TD) (u : TL2) : TL2 := fun ε q xq => t ε (fun x ε1 => u ε1 (fun xs ε2 => q (.o x :: xs) ε2) xq) xq
def a2New (t : TN) (u : TL2) : TL2 := fun ε q xq => t ε (fun c ε1 => u ε1 (fun xs ε2 => q (.n c :: xs) ε2) xq) xq
theorem da2_nil : DA2 X W [] a2Nil := ⟨PA.conv pa_nil fun σ H Q ⟨G, F, ε, q, xq, I, ht, hq, hx⟩ => hq F H [] [] ε G (.refl _) I rfl .nil ht⟩
theorem da2_cons (ha : DE X W a ta) (hr : DA2 X W es u) (hs : starEach (a :: es) X.env = (false, eval a X.env) :: starEach es X.env := by rfl) : DA2 X W (a :: es) (a2Cons ta u) := by
  refine ⟨PA.conv (pa_cons ha.pe hr.pa hs) fun σ H Q ⟨G, F, ε, q, xq, I, ht, hq, hx⟩ => ?_⟩
  refine ⟨G, F, ε, _, xq, I, ht, fun F1 H1 v o ε1 s1 k1 I1 r1 h1 => ?_, hx⟩
  refine ⟨G, F1, ε1, _, xq, I1, h1, fun F2 H2 vs ys ε2 Gn s2 I2 e2 p2 h2 => ?_, hx.mono s1⟩
  exact hq F2 H2 (v :: vs) (.o o :: ys) ε2 Gn (s1.trans s2) I2 e2 (.o (r1.w.mono s2) p2) h2
theorem da2_new (ha : DN X W a tn) (hr : DA2 X W es u) (hs : starEach (a :: es) X.env = (false, eval a X.env) :: starEach es X.env := by rfl) : DA2 X W (a :: es) (a2New tn u) := by
  refine ⟨PA.conv (pa_cons ha.pe hr.pa hs) fun σ H Q ⟨G, F, ε, q, xq, I, ht, hq, hx⟩ => ?_⟩
  refine ⟨G, F, ε, _, xq, I, ht, fun F1 H1 p ho c ε1 s1 k1 I1 h1 h2 h3 h4 h5 hk => ?_, hx⟩
  have f0 : G.F0 p = none := Same.free I1.s0 h2
  refine ⟨G.plus p ho, F1, ε1, _, xq, I1.plus h1 h2 h4 (ocok_tbl h5), hk, fun F2 H2 vs ys ε2 Gn s2 I2 e2 p2 h2' => ?_, (hx.mono s1).unplus h3⟩
  exact hq F2 H2 (.ref p :: vs) (.n c :: ys) ε2 Gn (s1.trans s2) I2 e2 (.n ⟨h3, f0⟩ (h5.mono s2) p2) h2'
def sPar (is : List Nat) (t : TL2) : TSd := fun Dn ε => t ε (fun ys ε1 => ys.length = is.length ∧ fz2 ε1 ys fun zs ε2 => puts is zs ε2 Dn.nx) Dn.xq
theorem Pd.len {K : PySem.W.Frag} {F : Hp} {σ : L2.St} {Gn : Gd} : ∀ {G : Gd} {vs : List V} {ys : List Nw2}, Pd K F σ G vs ys Gn → vs.length = ys.length
  | _, _, _, .nil => rfl
  | _, _, _, .o _ t => by simp [Pd.len t]
  | _, _, _, .n _ _ t => by simp [Pd.len t]
theorem sPar_of {is : List Nat} {De : Ends} {σ : L2.St} {H : Hp} (h : LS X.K W (sPar is t) De σ H) : LA2 X.K W t σ H fun vs H1 => vs.length = is.length ∧ De.nx (putsV is vs σ) H1 := by
  obtain ⟨G, F, ε, Dn, I, ht, ok⟩ := h
  refine ⟨G, F, ε, _, _, I, ht, fun F1 H1 vs ys ε1 Gn s1 I1 e1 p1 ⟨hl, h1⟩ => ?_, ok.x⟩
  obtain ⟨F2, zs, ε2, s2, I2, q2, h2⟩ := fz2_of I1 p1 h1
  obtain ⟨ε3, I3, h3⟩ := puts_of I2 q2 h2
  exact ⟨by rw [p1.len, hl], ok.nx F2 H1 _ ε3 (s1.trans s2) I3 h3⟩
theorem ds_par2 {i j : Nat} {st : Stmt} (h : PS X st (tPar i j (LA2 X.K W t))) (hij : i ≠ j) : DS X W st (sPar [i, j] t) := by
  refine ⟨PS.conv h fun De σ H hh => ?_⟩
  obtain ⟨G, F, ε, q, xq, I, ht, hq, hx⟩ := sPar_of hh
  refine ⟨G, F, ε, q, xq, I, ht, fun F1 H1 vs ys ε1 Gn s1 I1 e1 p1 hk => ?_, hx⟩
  obtain ⟨hl, hn⟩ := hq F1 H1 vs ys ε1 Gn s1 I1 e1 p1 hk
  match vs, hl, hn with
  | [v, w], _, hn =>
    refine ⟨v, w, rfl, ?_⟩
    rw [List.set_comm _ _ hij]
    exact hn
theorem ds_par3 {i j l : Nat} {st : Stmt} (h : PS X st (tPar3 i j l (LA2 X.K W t))) (hij : i ≠ j) (hil : i ≠ l) (hjl : j ≠ l) : DS X W st (sPar [i, j, l] t) := by
  refine ⟨PS.conv h fun De σ H hh => ?_⟩
  obtain ⟨G, F, ε, q, xq, I, ht, hq, hx⟩ := sPar_of hh
  refine ⟨G, F, ε, q, xq, I, ht, fun F1 H1 vs ys ε1 Gn s1 I1 e1 p1 hk => ?_, hx⟩
  obtain ⟨hl, hn⟩ := hq F1 H1 vs ys ε1 Gn s1 I1 e1 p1 hk
  match vs, hl, hn with
  | [u, v, w], _, hn =>
    refine ⟨u, v, w, rfl, ?_⟩
    have e : ((σ.set i (some u)).set j (some v)).set l (some w) = putsV [i, j, l] [u, v, w] σ := by
      show _ = ((σ.set l (some w)).set j (some v)).set i (some u)
      rw [List.set_comm _ _ hij, List.set_comm _ _ hil, List.set_comm _ _ hjl]
    rw [e]
    exact hn

/-! ### constants of the module -/
theorem de_gc {x : Str} {p : Pos} {v : V} {d : D} (h : ∃ u, X.mg x = some u ∧ RelV v u) (hg : Gl X x) (r : ∀ F, Rp X.K F v d) (hd : (x == ("__debug__" : Str)) = false := by decide) : DE X W (.Name x p) (dC d) := by
  obtain ⟨u, h1, h2⟩ := h
  exact de_c (pe_glob hg h1 h2 hd) r
theorem asc_of {cs : List Nat} (h : cs.all (· < 128) = true) : Asc cs := fun c hc => by simpa using List.all_eq_true.mp h c hc
end

/-! ### a def of the text, with its promise -/
structure Cal (P : Program) (w : World) (K : PySem.W.Frag) (mg : Str → Option Value) (base : Heap) (k : Nat) (x : Str) (st : Stmt) (ps : List Str) (fs : FS) (f : Addr) (fd : FuncData) : Prop where
  F : Fun K x x st f fd
  g : mg x = some (.ref f)
  b : Binds K fd ps []
  ok : FnOk P w K mg base (L2.CX P w) k f fd ps (spOf K fs)
/-- what a law promises: the script in, True out -/
def fsLaw : FS := fun as q _ => ∃ ns : List Int, as = [.d (.ro (ns.map D.int))] ∧ ns.length ≤ 63 ∧ ∀ as', q (.bl true) as'
theorem flen_law : FLen fsLaw 1 := fun as q xq ⟨_, h, _⟩ => by rw [h]; rfl
theorem law_sp {K : PySem.W.Frag} {H : Hp} {a : Addr} {ns : List Int} (hl : ns.length ≤ 63) (hS : SqL K H a (ns.map V.int)) : spOf K fsLaw [.ref a] H (fun v _ => v = .bl true) fun _ _ _ => False := by
  refine ⟨H, [.d (.ro (ns.map D.int))], fun d _ => d = .bl true, fun _ _ => False, .refl _, .d (.ro hS RpL.ints) .nil, by simp [pars], ⟨ns, rfl, hl, fun _ => rfl⟩, fun F' H' v d as' _ r e => ?_, fun _ _ _ _ _ _ _ _ z => z⟩
  subst e
  cases r
  rfl
theorem law_cx {P : Program} {w : World} {H : Hp} {s : Shared} {e : Value} {s' : Shared} (h : L2.CX P w [] H s (fun _ _ _ => False) e s') : False := by
  obtain ⟨_, _, _, _, _, _, _, _, _, _, _, _, z⟩ := h
  exact z
theorem bt_len : bootBuiltins "len" = some (.builtin "len") := PySem.boot_len
theorem bt_max : bootBuiltins "max" = some (.builtin "max") := PyProof.Rows.boot_max
theorem bt_min : bootBuiltins "min" = some (.builtin "min") := PyProof.Rows.boot_min
theorem bt_sum : bootBuiltins "sum" = some (.builtin "sum") := PyProof.Rows.boot_sum
theorem bt_all : bootBuiltins "all" = some (.builtin "all") := PyProof.Rows.boot_all
theorem bt_any : bootBuiltins "any" = some (.builtin "any") := PyProof.Rows.boot_any
theorem bt_int : bootBuiltins "int" = some (.type "int") := PyProof.Rows.boot_int
theorem bt_list : bootBuiltins "list" = some (.type "list") := PyProof.Rows.boot_list
theorem bt_tuple : bootBuiltins "tuple" = some (.type "tuple") := PyProof.Rows.boot_tuple
theorem bt_str : bootBuiltins "str" = some (.type "str") := PyProof.Rows.boot_str
theorem bt_repr : bootBuiltins "repr" = some (.builtin "repr") := PyProof.Rows.boot_repr
theorem bt_sorted : bootBuiltins "sorted" = some (.builtin "sorted") := PyProof.Rows.boot_sorted
def dSub : D → D → (D → Prop) → Prop := dII0 fun i j => .int (i - j)
def dFdiv : D → D → (D → Prop) → Prop := dII CDivW fun i j => .int (i / j)
def dMod : D → D → (D → Prop) → Prop := dII (fun _ j => 0 < j) fun i j => .int (i % j)
def dPow : D → D → (D → Prop) → Prop := dII CPow fun i j => .int (i ^ j.toNat)
def dLt : D → D → (D → Prop) → Prop := dOrd (fun i j => decide (i < j)) fun a b => decide (a < b)
def dLe : D → D → (D → Prop) → Prop := dOrd (fun i j => decide (i ≤ j)) fun a b => !decide (b < a)
def dGt : D → D → (D → Prop) → Prop := dOrd (fun i j => decide (j < i)) fun a b => decide (b < a)
def dGe : D → D → (D → Prop) → Prop := dOrd (fun i j => decide (j ≤ i)) fun a b => !decide (a < b)
section
variable {X : Cx}
def rSub : D2 X (binaryOp .Sub) dSub := subR
def rFdiv : D2 X (binaryOp .FloorDiv) dFdiv := fdivW
def rMod : D2 X (binaryOp .Mod) dMod := modR
def rPow : D2 X (binaryOp .Pow) dPow := powR
def rLt : D2 X (compareOp .Lt) dLt := ltR
def rLe : D2 X (compareOp .LtE) dLe := leR
def rGt : D2 X (compareOp .Gt) dGt := gtR
def rGe : D2 X (compareOp .GtE) dGe := geR
end
end Zd
namespace Zd
open PySem PySem.Spec L2 TL
def dIsi (n : String) (ta : TD) : TD := fun ε q xq => ta ε (fun o ε1 => fIsi n (o.get ε1) fun z => q (.d z) ε1) xq
section
variable {X : Cx} {W : WX} {a : Expr} {ta : TD} {T : Str} {p p2 pos : Pos} {n : String}
theorem de_isT (ha : DE X W a ta) (hg : Gl X "isinstance") (hm : X.mg "isinstance" = none) (hT : PE X (.Name T p2) (tC (.ty n)))
    (hs : starEach [a, .Name T p2] X.env = (false, eval a X.env) :: starEach [.Name T p2] X.env := by rfl) (hs2 : starEach [.Name T p2] X.env = (false, eval (.Name T p2) X.env) :: starEach [] X.env := by rfl)
    (hpl : (backTo pos (starEach [.Name T p2] X.env)).any (·.1) = false := by rfl) : DE X W (.Call (.Name "isinstance" p) [a, .Name T p2] [] pos) (dIsi n ta) := de_isi (x := "") ha hg hm hT hs hs2 hpl
end
theorem bt_bool : bootBuiltins "bool" = some (.type "bool") := by rfl
/-! ### facts for the work on readings -/
/-- a slot of which no more is known than that it is no handed-in list -/
def Sl.opt : Option D → Sl
  | none => .no
  | some x => .d x
def Sl.np : Sl → Prop
  | .par _ => False
  | _ => True
section
variable {α : Type} {s : Sl} {ε : Env} {i : Nat} {x : D} {c : OC} {o : Option D}
theorem np_zero : notPar (s :: ε) 0 = s.np := by cases s <;> rfl
theorem np_succ : notPar (s :: ε) (i + 1) = notPar ε i := rfl
theorem np_no : Sl.np .no = True := rfl
theorem np_d : Sl.np (.d x) = True := rfl
theorem np_own : Sl.np (.own c) = True := rfl
theorem np_opt : Sl.np (.opt o) = True := by cases o <;> rfl
theorem np_par : Sl.np (.par c) = False := rfl
variable {a b d e f : α} {xs : List α}
theorem ix_nat {n j : Nat} (h : j < n) : ixN n (j : Int) = some j := by
  unfold ixN
  rw [if_pos (by omega), if_pos (by omega)]
  simp
theorem at_nat {j : Nat} (h : j < xs.length) : atI xs (j : Int) = xs[j]? := by
  unfold atI
  rw [ix_nat h]
  rfl
theorem at_0 : atI (a :: xs) 0 = some a := at_nat (j := 0) (by simp)
theorem at_1 : atI (a :: b :: xs) 1 = some b := at_nat (j := 1) (by simp)
theorem at_2 : atI (a :: b :: d :: xs) 2 = some d := at_nat (j := 2) (by simp)
theorem at_3 : atI (a :: b :: d :: e :: xs) 3 = some e := at_nat (j := 3) (by simp)
theorem at_4 : atI (a :: b :: d :: e :: f :: xs) 4 = some f := at_nat (j := 4) (by simp)
/-- the i-th -/
theorem at_of {i : Int} {ys : List α} (h0 : 0 ≤ i) (h : i < ys.length) : ∃ y, atI ys i = some y ∧ y ∈ ys := by
  have hn : i.toNat < ys.length := by omega
  refine ⟨ys[i.toNat], ?_, List.getElem_mem hn⟩
  unfold atI ixN
  simp [h0]
  split <;> first | simp [List.getElem?_eq_getElem hn] | omega
theorem ok_int {i : Int} : okD (.int i) = True := by simp [okD, cln, dep]
theorem ok_str {cs : List Nat} : okD (.str cs) = True := by simp [okD, cln, dep]
theorem ok_bl {b : Bool} : okD (.bl b) = True := by simp [okD, cln, dep]
theorem ok_non : okD .non = True := by simp [okD, cln, dep]
theorem clns_ints (ns : List Int) : clns (ns.map D.int) = true ∧ deps (ns.map D.int) = 0 := by
  induction ns with
  | nil => exact ⟨rfl, rfl⟩
  | cons n ns ih => simp [clns, deps, cln, dep, ih]
theorem ok_ro_ints {ns : List Int} : okD (.ro (ns.map D.int)) = True := by simp [okD, cln, dep, clns_ints]
theorem ok_nil : okD (.lst []) = True := by simp [okD, cln, dep, clns, deps]
theorem eq_str {x y : List Nat} : eqD (.str x) (.str y) = decide (x = y) := by rw [eqD]; by_cases h : x = y <;> simp [h]
theorem eq_int {x y : Int} : eqD (.int x) (.int y) = decide (x = y) := by rw [eqD]; by_cases h : x = y <;> simp [h]
theorem eq_ro_nil {ns : List Int} : eqD (.ro (ns.map D.int)) (.lst []) = ns.isEmpty := by cases ns <;> simp [eqD, eqDs]
theorem ix_0 {n : Nat} : ixN (n + 1) 0 = some 0 := ix_nat (j := 0) (by omega)
theorem ix_1 {n : Nat} : ixN (n + 1 + 1) 1 = some 1 := ix_nat (j := 1) (by omega)
end
theorem k_ii : kitB "int" "int" = some true := by rfl
theorem k_ib : kitB "int" "bool" = some false := by rfl
theorem k_bi : kitB "bool" "int" = some true := by rfl
theorem k_bb : kitB "bool" "bool" = some true := by rfl
theorem k_ss : kitB "str" "str" = some true := by rfl
theorem cmul_l {i j : Int} (h : -(2 ^ 64) < i ∧ i < 2 ^ 64) : CMul i j := .inl h
theorem cmul_r {i j : Int} (h : -(2 ^ 64) < j ∧ j < 2 ^ 64) : CMul i j := .inr h
theorem cdivw_of {i j : Int} (h : 0 < j) (h2 : j < 2 ^ 200) : CDivW i j := by
  refine ⟨h, ?_⟩
  have : j.natAbs < 2 ^ 200 := by omega
  have h3 : j.natAbs ≠ 0 := by omega
  have := (Nat.log2_lt h3).mpr this
  omega
def allD : List Opd → Prop
  | [] => True
  | .d _ :: os => allD os
  | .s _ :: _ => False
theorem backs_d : ∀ {os : List Opd} {as : List Sl} {ε : Env}, allD os → backs os as ε = ε
  | [], _, _, _ => by simp [backs]
  | .d _ :: _, [], _, _ => by simp [backs]
  | .d _ :: os, _ :: as, _, h => by simp only [backs]; exact backs_d (os := os) (as := as) h
  | .s _ :: _, _, _, h => h.elim
section
variable {a b c d e : D} {as : List Sl} {ε : Env}
theorem backs_1 : backs [.d a] as ε = ε := backs_d trivial
theorem backs_2 : backs [.d a, .d b] as ε = ε := backs_d trivial
theorem backs_3 : backs [.d a, .d b, .d c] as ε = ε := backs_d trivial
theorem backs_4 : backs [.d a, .d b, .d c, .d d] as ε = ε := backs_d trivial
theorem backs_5 : backs [.d a, .d b, .d c, .d d, .d e] as ε = ε := backs_d trivial
end
theorem fz_d {ε : Env} {x : D} {k : D → Env → Prop} : fz ε (.d x) k = k x ε := rfl
/-- a loop, by what holds behind so many passes -/
theorem forD_ind {g : TGd} {t : TSd} {Dn : DEnds} (I : List D → Env → Prop) {xs : List D} {ε : Env} (h : I [] ε) (hn : ∀ ε, I xs ε → Dn.nx ε)
    (hs : ∀ pre x post ε (K : Env → Prop), xs = pre ++ x :: post → I pre ε → (∀ ε', I (pre ++ [x]) ε' → K ε') → g x ε fun ε1 => t { Dn with nx := K, ct := K, bk := Dn.nx } ε1) : forD g t xs Dn ε := by
  have : ∀ post pre ε, xs = pre ++ post → I pre ε → forD g t post Dn ε := by
    intro post
    induction post with
    | nil => intro pre ε e hI; exact hn ε (by rw [e, List.append_nil]; exact hI)
    | cons x post ih => intro pre ε e hI; exact hs pre x post ε _ e hI fun ε' h' => ih (pre ++ [x]) ε' (by rw [e]; simp) h'
  exact this xs [] ε rfl h
end Zd
namespace Zd
open PySem PySem.Spec L2 TL
section
variable {x x2 y y2 z z2 : D} {q : D → Prop} {k : Bool → Prop} {kl : List D → Prop} {xs xs2 : List D} {os os2 : List Opd} {ε ε2 : Env} {ke : Env → Prop} {kd : D → Env → Prop} {i i2 : Nat} {r : TGsd} {g : TGd} {f1 : D → (D → Prop) → Prop} {f2 : D → D → (D → Prop) → Prop} {fi : Int → Int → Int} {C : Int → Int → Prop} {gi : Int → Int → D} {ka : List Sl → Prop} {ob ob2 : Option D} {n : String} {b : Bool} {xz : XQ}
theorem x_sSeq (t u : TSd) (Dn : DEnds) (ε : Env) : sSeq t u Dn ε = (t { Dn with nx := fun ε' => u Dn ε' } ε) := rfl
theorem x_sIf (A : TB) (t u : TSd) (Dn : DEnds) (ε : Env) : sIf A t u Dn ε = (A ε (fun b ε1 => if b = true then t Dn ε1 else u Dn ε1) Dn.xq) := rfl
theorem x_sRet (t : TD) (Dn : DEnds) (ε : Env) : sRet t Dn ε = (t ε (fun o ε1 => fz ε1 o fun x ε2 => Dn.rt x ε2) Dn.xq) := rfl
theorem x_sAsg (t : TD) (g : TGd) (Dn : DEnds) (ε : Env) : sAsg t g Dn ε = (t ε (fun o ε1 => fz ε1 o fun x ε2 => g x ε2 Dn.nx) Dn.xq) := rfl
theorem x_sNil  (Dn : DEnds) (ε : Env) : sNil  Dn ε = (Dn.nx ε) := rfl
theorem x_sSetAt (i : Nat) (te ti : TD) (Dn : DEnds) (ε : Env) : sSetAt i te ti Dn ε = (te ε (fun o ε1 => fz ε1 o fun x ε2 => ownAt ε2 i ≠ none ∧ ti ε2 (fun j ε3 => setAt ε3 i (j.get ε3) x Dn.nx) Dn.xq) Dn.xq) := rfl
theorem x_sSetO (i : Nat) (t : TN) (Dn : DEnds) (ε : Env) : sSetO i t Dn ε = (t ε (fun c ε1 => notPar ε1 i ∧ Dn.nx (ε1.set i (.own c))) Dn.xq) := rfl
theorem x_sPar (is : List Nat) (t : TL2) (Dn : DEnds) (ε : Env) : sPar is t Dn ε = (t ε (fun ys ε1 => ys.length = is.length ∧ fz2 ε1 ys fun zs ε2 => puts is zs ε2 Dn.nx) Dn.xq) := rfl
theorem x_sApp (i : Nat) (t : TD) (Dn : DEnds) (ε : Env) : sApp i t Dn ε = (isLst (ownAt ε i) ∧ t ε (fun o ε1 => fz ε1 o fun x ε2 => appAt ε2 i x Dn.nx) Dn.xq) := rfl
theorem x_sRetN  (Dn : DEnds) (ε : Env) : sRetN  Dn ε = (Dn.rt .non ε) := rfl
theorem x_sExpr (t : TD) (Dn : DEnds) (ε : Env) : sExpr t Dn ε = (t ε (fun _ ε1 => Dn.nx ε1) Dn.xq) := rfl
theorem x_sFor (ti : TId) (g : TGd) (t : TSd) (Dn : DEnds) (ε : Env) : sFor ti g t Dn ε = (ti ε (fun xs ε1 => forD g t xs Dn ε1) Dn.xq) := rfl
theorem x_bCmp (dop : D → D → (D → Prop) → Prop) (ta tb : TD) (ε : Env) (q : Bool → Env → Prop) (xq : XQ) : bCmp dop ta tb ε q xq = (ta ε (fun x ε1 => tb ε1 (fun y ε2 => dop (x.get ε2) (y.get ε2) (kB fun b => q b ε2)) xq) xq) := rfl
theorem x_bTru (t : TD) (ε : Env) (q : Bool → Env → Prop) (xq : XQ) : bTru t ε q xq = (t ε (fun x ε1 => dTru (x.get ε1) fun b => q b ε1) xq) := rfl
theorem x_bNot (A : TB) (ε : Env) (q : Bool → Env → Prop) (xq : XQ) : bNot A ε q xq = (A ε (fun b ε1 => q (!b) ε1) xq) := rfl
theorem x_bAnd (A B : TB) (ε : Env) (q : Bool → Env → Prop) (xq : XQ) : bAnd A B ε q xq = (A ε (fun b ε1 => if b = true then B ε1 q xq else q false ε1) xq) := rfl
theorem x_bOr (A B : TB) (ε : Env) (q : Bool → Env → Prop) (xq : XQ) : bOr A B ε q xq = (A ε (fun b ε1 => if b = true then q true ε1 else B ε1 q xq) xq) := rfl
theorem x_dBin (dop : D → D → (D → Prop) → Prop) (ta tb : TD) (ε : Env) (q : OQ) (xq : XQ) : dBin dop ta tb ε q xq = (ta ε (fun x ε1 => tb ε1 (fun y ε2 => dop (x.get ε2) (y.get ε2) fun z => q (.d z) ε2) xq) xq) := rfl
theorem x_dUn (dop : D → (D → Prop) → Prop) (ta : TD) (ε : Env) (q : OQ) (xq : XQ) : dUn dop ta ε q xq = (ta ε (fun x ε1 => dop (x.get ε1) fun z => q (.d z) ε1) xq) := rfl
theorem x_dC (x : D) (ε : Env) (q : OQ) (z2 : XQ) : dC x ε q z2 = (q (.d x) ε) := rfl
theorem x_dN (i : Nat) (ε : Env) (q : OQ) (z2 : XQ) : dN i ε q z2 = (match ε[i]? with
  | some (.d x) => q (.d x) ε
  | some (.own _) => q (.s i) ε
  | some (.par _) => q (.s i) ε
  | _ => False) := rfl
theorem x_dCB (dop : List D → (D → Prop) → Prop) (t : TL) (ε : Env) (q : OQ) (xq : XQ) : dCB dop t ε q xq = (t ε (fun xs ε1 => dop (xs.map (Opd.get ε1)) fun z => q (.d z) ε1) xq) := rfl
theorem x_dIf (A : TB) (ta tb : TD) (ε : Env) (q : OQ) (xq : XQ) : dIf A ta tb ε q xq = (A ε (fun b ε1 => if b = true then ta ε1 q xq else tb ε1 q xq) xq) := rfl
theorem x_dAndV (ta tb : TD) (ε : Env) (q : OQ) (xq : XQ) : dAndV ta tb ε q xq = (ta ε (fun x ε1 => dTru (x.get ε1) fun b => if b = true then tb ε1 q xq else q x ε1) xq) := rfl
theorem x_dOrV (ta tb : TD) (ε : Env) (q : OQ) (xq : XQ) : dOrV ta tb ε q xq = (ta ε (fun x ε1 => dTru (x.get ε1) fun b => if b = true then q x ε1 else tb ε1 q xq) xq) := rfl
theorem x_dNotV (ta : TD) (ε : Env) (q : OQ) (xq : XQ) : dNotV ta ε q xq = (ta ε (fun x ε1 => dTru (x.get ε1) fun b => q (.d (.bl (!b))) ε1) xq) := rfl
theorem x_dIsi (n : String) (ta : TD) (ε : Env) (q : OQ) (xq : XQ) : dIsi n ta ε q xq = (ta ε (fun o ε1 => fIsi n (o.get ε1) fun z => q (.d z) ε1) xq) := rfl
theorem x_dTup (t : TL) (ε : Env) (q : OQ) (xq : XQ) : dTup t ε q xq = (t ε (fun os ε1 => os.length ≤ sizeLine ∧ fzs ε1 os fun xs ε2 => q (.d (.tup xs)) ε2) xq) := rfl
theorem x_dLst (t : TL) (ε : Env) (q : OQ) (xq : XQ) : dLst t ε q xq = (t ε (fun os ε1 => os.length ≤ sizeLine ∧ fzs ε1 os fun xs ε2 => q (.d (.lst xs)) ε2) xq) := rfl
theorem x_dNew (t : TN) (ε : Env) (q : OQ) (xq : XQ) : dNew t ε q xq = (t ε (fun c ε1 => q (.d c.d) ε1) xq) := rfl
theorem x_dSlice (ta : TD) (tl th : TOd) (ε : Env) (q : OQ) (xq : XQ) : dSlice ta tl th ε q xq = (ta ε (fun x ε1 => tl ε1 (fun lo ε2 => th ε2 (fun hi ε3 => dSl (x.get ε3) lo hi fun z => q (.d z) ε3) xq) xq) xq) := rfl
theorem x_oNone  (ε : Env) (q : Option Int → Env → Prop) (z2 : XQ) : oNone  ε q z2 = (q none ε) := rfl
theorem x_oSome (t : TD) (ε : Env) (q : Option Int → Env → Prop) (xq : XQ) : oSome t ε q xq = (t ε (fun x ε1 => kI (fun i => q (some i) ε1) (x.get ε1)) xq) := rfl
theorem x_aNil  (ε : Env) (q : List Opd → Env → Prop) (z2 : XQ) : aNil  ε q z2 = (q [] ε) := rfl
theorem x_aCons (t : TD) (u : TL) (ε : Env) (q : List Opd → Env → Prop) (xq : XQ) : aCons t u ε q xq = (t ε (fun x ε1 => u ε1 (fun xs ε2 => q (x :: xs) ε2) xq) xq) := rfl
theorem x_aApp (ix : List Nat) (n m : Nat) (t tk : TL) (ε : Env) (q : List Opd → Env → Prop) (xq : XQ) : aApp ix n m t tk ε q xq = (t ε (fun os ε1 => tk ε1 (fun ks ε2 => os.length = n ∧ ks.length = m ∧ q (gP ix os ks) ε2) xq) xq) := rfl
theorem x_a2Nil  (ε : Env) (q : List Nw2 → Env → Prop) (z2 : XQ) : a2Nil  ε q z2 = (q [] ε) := rfl
theorem x_a2Cons (t : TD) (u : TL2) (ε : Env) (q : List Nw2 → Env → Prop) (xq : XQ) : a2Cons t u ε q xq = (t ε (fun x ε1 => u ε1 (fun xs ε2 => q (.o x :: xs) ε2) xq) xq) := rfl
theorem x_a2New (t : TN) (u : TL2) (ε : Env) (q : List Nw2 → Env → Prop) (xq : XQ) : a2New t u ε q xq = (t ε (fun c ε1 => u ε1 (fun xs ε2 => q (.n c :: xs) ε2) xq) xq) := rfl
theorem x_nLst (t : TL) (ε : Env) (q : OC → Env → Prop) (xq : XQ) : nLst t ε q xq = (t ε (fun os ε1 => os.length ≤ sizeLine ∧ fzs ε1 os fun xs ε2 => q (.lst xs) ε2) xq) := rfl
theorem x_nLc (ti : TId) (vs : List Nat) (g : TGd) (A : TB) (te : TD) (ε : Env) (q : OC → Env → Prop) (xq : XQ) : nLc ti vs g A te ε q xq = (ti ε (fun xs ε1 => lcD vs g A te xs [] ε1 fun acc ε2 => q (.lst acc) ε2) xq) := rfl
theorem x_gN (i : Nat) (x : D) (ε : Env) (k : Env → Prop) : gN i x ε k = (notPar ε i ∧ k (ε.set i (.d x))) := rfl
theorem x_dCall (fs : FS) (t : TL) (ε : Env) (q : OQ) (xq : XQ) : dCall fs t ε q xq = (t ε (fun os ε1 => (ownsOf ε1 os).Nodup ∧ argsD ε1 os fun as => fs as (fun d as' => q (.d d) (backs os as' ε1)) fun e as' => xq e (backs os as' ε1)) xq) := rfl
theorem x_dCallN (fs : FS) (t : TL) (ε : Env) (q : OQ) (xq : XQ) : dCallN fs t ε q xq = (t ε (fun os ε1 => (ownsOf ε1 os).Nodup ∧ argsD ε1 os fun as => fs as (fun d as' => q (.d d) (backs os as' ε1)) fun _ _ => False) xq) := rfl
theorem x_iRngD (t : TL) (ε : Env) (q : List D → Env → Prop) (xq : XQ) : iRngD t ε q xq = (t ε (fun os ε1 => rngOf (os.map (Opd.get ε1)) fun xs => q xs ε1) xq) := rfl
theorem x_iRng2D (t : TL) (ε : Env) (q : List D → Env → Prop) (xq : XQ) : iRng2D t ε q xq = (t ε (fun os ε1 => rngOf2 (os.map (Opd.get ε1)) fun xs => q xs ε1) xq) := rfl
theorem x_iSeqD (ta : TD) (ε : Env) (q : List D → Env → Prop) (xq : XQ) : iSeqD ta ε q xq = (ta ε (fun o ε1 => fz ε1 o fun x ε2 => itemsOf x fun xs => q xs ε2) xq) := rfl
theorem x_dM0 (dop : D → (D → Prop) → Prop) (ta : TD) (ε : Env) (q : OQ) (xq : XQ) : dM0 dop ta ε q xq = (ta ε (fun o ε1 => isS (o.get ε1) ∧ dop (o.get ε1) fun z => q (.d z) ε1) xq) := rfl
theorem x_dM1 (dop : D → D → (D → Prop) → Prop) (ta tb : TD) (ε : Env) (q : OQ) (xq : XQ) : dM1 dop ta tb ε q xq = (ta ε (fun o ε1 => isS (o.get ε1) ∧ tb ε1 (fun o' ε2 => dop (o.get ε2) (o'.get ε2) fun z => q (.d z) ε2) xq) xq) := rfl
theorem x_bYes  (ε : Env) (q : Bool → Env → Prop) (z2 : XQ) : bYes  ε q z2 = (q true ε) := rfl
theorem x_dChain (d1 d2 : D → D → (D → Prop) → Prop) (ta tb tc : TD) (ε : Env) (q : OQ) (xq : XQ) : dChain d1 d2 ta tb tc ε q xq = (ta ε (fun x ε1 => tb ε1 (fun y ε2 => d1 (x.get ε2) (y.get ε2) (kB fun b =>
  if b = true then tc ε2 (fun z ε3 => d2 (y.get ε3) (z.get ε3) fun w => q (.d w) ε3) xq else q (.d (.bl false)) ε2)) xq) xq) := rfl
theorem x_bChain (d1 d2 : D → D → (D → Prop) → Prop) (ta tb tc : TD) (ε : Env) (q : Bool → Env → Prop) (xq : XQ) : bChain d1 d2 ta tb tc ε q xq = (ta ε (fun x ε1 => tb ε1 (fun y ε2 => d1 (x.get ε2) (y.get ε2) (kB fun b =>
  if b = true then tc ε2 (fun z ε3 => d2 (y.get ε3) (z.get ε3) (kB fun w => q w ε3)) xq else q false ε2)) xq) xq) := rfl
theorem x_sBrk  (Dn : DEnds) (ε : Env) : sBrk  Dn ε = (Dn.bk ε) := rfl
theorem x_sCnt  (Dn : DEnds) (ε : Env) : sCnt  Dn ε = (Dn.ct ε) := rfl
end
/-- a statement that is not come to -/
def sNever : TSd := fun _ _ => False
theorem ds_never {X : Cx} {W : WX} {st : Stmt} : DS X W st sNever := ⟨⟨fun pins s De σ H I ⟨_, _, _, _, _, h, _⟩ => h.elim⟩⟩
/-- one statement at a time -/
theorem seq_of {t u : TSd} {Dn : DEnds} {ε : Env} (h : ∀ K : Env → Prop, (∀ ε', u Dn ε' → K ε') → t { Dn with nx := K } ε) : sSeq t u Dn ε := h _ fun _ h => h
/-- a comprehension, by what holds behind so many turns -/
theorem lcD_ind {vs : List Nat} {g : TGd} {A : TB} {te : TD} {k : List D → Env → Prop} (I : List D → List D → Env → Prop) {xs : List D} {ε : Env} (h : I [] [] ε) (hn : ∀ acc ε, I xs acc ε → k acc ε)
    (hs : ∀ pre x post acc ε (K : List D → Env → Prop), xs = pre ++ x :: post → I pre acc ε → (∀ acc' ε', I (pre ++ [x]) acc' ε' → K acc' ε') → noOwn ε vs ∧ g x (wipeE ε vs) fun η1 => A η1 (fun b η2 =>
      if b = true then te η2 (fun o η3 => fz η3 o fun y η4 => acc.length < sizeLine ∧ K (acc ++ [y]) (unw ε η4 vs)) xNo
      else K acc (unw ε η2 vs)) xNo) : lcD vs g A te xs [] ε k := by
  have : ∀ post pre acc ε, xs = pre ++ post → I pre acc ε → lcD vs g A te post acc ε k := by
    intro post
    induction post with
    | nil => intro pre acc ε e hI; exact hn acc ε (by rw [e, List.append_nil]; exact hI)
    | cons x post ih => intro pre acc ε e hI; exact hs pre x post acc ε (fun acc' ε' => lcD vs g A te post acc' ε' k) e hI fun acc' ε' h' => ih (pre ++ [x]) acc' ε' (by rw [e]; simp) h'
  exact this xs [] [] ε rfl h
/-- .. that leaves the names as they are -/
theorem lc_fm {vs : List Nat} {g : TGd} {A : TB} {te : TD} {k : List D → Env → Prop} {xs : List D} {ε : Env} (f : D → List D) (h : k (xs.flatMap f) ε) (hl : xs.length < 1000000) (h1 : ∀ x ∈ xs, (f x).length ≤ 1)
    (hs : ∀ x acc (K : List D → Env → Prop), x ∈ xs → acc.length < sizeLine → K (acc ++ f x) ε → noOwn ε vs ∧ g x (wipeE ε vs) fun η1 => A η1 (fun b η2 =>
      if b = true then te η2 (fun o η3 => fz η3 o fun y η4 => acc.length < sizeLine ∧ K (acc ++ [y]) (unw ε η4 vs)) xNo
      else K acc (unw ε η2 vs)) xNo) : lcD vs g A te xs [] ε k := by
  refine lcD_ind (fun pre acc ε' => ε' = ε ∧ acc = pre.flatMap f ∧ acc.length ≤ pre.length) ⟨rfl, rfl, Nat.le_refl _⟩ (fun acc ε' ⟨e1, e2, _⟩ => by rw [e1, e2]; exact h) ?_
  rintro pre x post acc ε' K e ⟨rfl, rfl, e3⟩ hK
  have hx : x ∈ xs := by rw [e]; simp
  have hlen : pre.length < 1000000 := by
    have := congrArg List.length e
    simp at this
    omega
  refine hs x _ K hx (Nat.lt_of_le_of_lt e3 (Nat.lt_of_lt_of_le hlen (by decide))) (hK _ _ ⟨rfl, by simp, ?_⟩)
  have := h1 x hx
  simp only [List.length_append, List.length_singleton]
  omega
theorem noOwn_1 {ε : Env} {i : Nat} : noOwn ε [i] = (ownAt ε i = none) := by simp [noOwn]
theorem oc_opt {o : Option D} : Sl.oc (.opt o) = none := by cases o <;> rfl
theorem rv_int {i : Int} {t : Tok} : RelV (.int i) (.int i t) := ⟨_, rfl⟩
theorem rv_str {cs : List Nat} {s : Str} {t : Tok} (h : s = mk cs) : RelV (.str (mk cs)) (.str s t) := ⟨_, by rw [h]⟩

end Zd
namespace Zd
open PySem PySem.Spec L2 TL

/-! ### repr -/
theorem ascF {l : List Nat} {acc : Array Nat} {q : Nat} (hq : q = 34 ∨ q = 39) (ha : ∀ c ∈ acc, c < 128) (hl : Asc l) : ∀ c ∈ l.foldl (fun out c => out ++ (Builtin.Str.reprChar q c).toArray) acc, c < 128 := by
  induction l generalizing acc with
  | nil => exact ha
  | cons d l ih =>
    refine ih (fun c hc => ?_) fun c hc => hl c (List.mem_cons_of_mem _ hc)
    rcases Array.mem_append.mp hc with h | h
    · exact ha c h
    · have hd : d < 128 := hl d List.mem_cons_self
      have key : ∀ q ∈ [34, 39], ∀ d < 128, ∀ c ∈ Builtin.Str.reprChar q d, c < 128 := by decide +kernel
      exact key q (by rcases hq with rfl | rfl <;> simp) d hd c (by simpa using h)
#check @reprText
#print Builtin.Str.reprChar
end Zd
namespace Zd
open PySem PySem.Spec L2 TL
theorem tl_repr (cs : List Nat) (h : Asc cs) : Asc (tl (reprText (mk cs))) := by
  unfold reprText tl
  intro c hc
  have hq : reprQuote (mk cs) = 34 ∨ reprQuote (mk cs) = 39 := by
    unfold reprQuote
    split
    · exact .inl rfl
    · exact .inr rfl
  have hc : c ∈ (Array.foldl (fun out c => out ++ (Builtin.Str.reprChar (reprQuote (mk cs)) c).toArray) #[reprQuote (mk cs)] (mk cs).cps).push (reprQuote (mk cs)) := by simpa using hc
  rcases Array.mem_push.mp hc with hc | hc
  · rw [← Array.foldl_toList] at hc
    refine ascF hq (fun d hd => ?_) (l := cs) h c hc
    have : d = reprQuote (mk cs) := by simpa using hd
    rw [this]
    rcases hq with e | e <;> rw [e] <;> decide
  · rw [hc]
    rcases hq with e | e <;> rw [e] <;> decide
theorem asc_num (n : Nat) : Asc (numL n) := fun c hc => by
  have := numL_digits n c hc
  omega
theorem asc_of_str {s : String} (h : (s.toList.map Char.toNat).all (· < 128) = true) : Asc (tl (Str.ofString s)) := by
  rw [tl_ofString]
  exact asc_of h
theorem asc_app {a b : List Nat} (h : Asc a) (h' : Asc b) : Asc (a ++ b) := h.append h'
theorem asc_from : ∀ (ts : List Str) (k : Nat) (acc : Str), Asc (tl acc) → (∀ t ∈ ts, Asc (tl t)) → Asc (tl (textFrom k acc ts))
  | [], _, _, h, _ => h
  | t :: ts, k, acc, h, h2 => by
    refine asc_from ts (k + 1) _ ?_ fun x hx => h2 x (List.mem_cons_of_mem _ hx)
    rw [tl_append, tl_append]
    refine asc_app (asc_app h ?_) (h2 t List.mem_cons_self)
    split <;> exact asc_of_str (by decide)
theorem asc_list {ts : List Str} (h : ∀ t ∈ ts, Asc (tl t)) : Asc (tl (listText ts)) := by
  unfold listText
  rw [tl_append]
  exact asc_app (asc_from ts 0 _ (asc_of_str (by decide)) h) (asc_of_str (by decide))
theorem asc_tup {ts : List Str} (h : ∀ t ∈ ts, Asc (tl t)) : Asc (tl (tupleText ts)) := by
  unfold tupleText
  rw [tl_append, tl_append, tl_join]
  refine asc_app (asc_app (asc_of_str (by decide)) (joinL_asc (asc_of_str (by decide)) ?_)) (by split <;> exact asc_of_str (by decide))
  intro c hc
  obtain ⟨t, ht, rfl⟩ := List.mem_map.mp hc
  exact h t ht
theorem asc_int (i : Int) : Asc (tl (Str.ofString (toString i))) := by
  cases i with
  | ofNat n => rw [show (Int.ofNat n) = ((n : Nat) : Int) from rfl, tl_num]; exact asc_num n
  | negSucc n =>
    rw [tl_ofString]
    have e : (toString (Int.negSucc n)).toList = '-' :: (toString (n + 1)).toList := by
      show ("-" ++ toString (n + 1)).toList = _
      simp
    rw [e, List.map_cons]
    intro c hc
    rcases List.mem_cons.mp hc with rfl | hc
    · decide
    · have := tl_num (n + 1)
      rw [tl_ofString] at this
      have e2 : (toString (((n + 1 : Nat)) : Int)) = toString (n + 1) := rfl
      rw [e2] at this
      rw [this] at hc
      exact asc_num _ c hc
end Zd
namespace Zd
open PySem PySem.Spec L2 TL

/-! ### promises where no list is being written further up -/
def NoG (A : Around) : Prop := A.guards = some []
structure FnG (P : Program) (w : World) (K : PySem.W.Frag) (mg : Str → Option Value) (base : Heap) (CX : CXT) (k : Nat) (f : Addr) (fd : FuncData) (ps : List Str) (sp : Sp) : Prop where
  ln : ∀ {vs H Q E}, sp vs H Q E → vs.length = ps.length
  go : ∀ {A outer s H args us vs Q E}, NoG A → Room k A → Env0 P w K mg base A outer s H → BindsTo s fd args (ps.zip us) → Vals vs us → sp vs H Q E →
    codeAny (model P w) A (.call (.ref f) args) (CR CX outer P w H s Q E) s
section
variable {P : Program} {w : World} {K : PySem.W.Frag} {mg : Str → Option Value} {base : Heap} {CX : CXT} {k : Nat} {f : Addr} {ps : List Str} {sp : Sp} {fd : FuncData}
theorem FnG.up {j : Nat} (F : FnG P w K mg base CX j f fd ps sp) (h : j ≤ k) : FnG P w K mg base CX k f fd ps sp := ⟨F.ln, fun g r => F.go g (r.mono h)⟩
theorem FnG.of {x qual : Str} {st : Stmt} {N : List Str} (F : Fun K x qual st f fd) (S : FnScope N ps (defScope st)) (ln : ∀ {vs H Q E}, sp vs H Q E → vs.length = ps.length)
    (body : ∀ (cdv : Value) (A : Around) (outer : List PySem.Env) (s : Shared) (H : Hp) (vs : List V) (Q : VK) (E : XK), NoG A → Room k (A.deeper (PyProof.Rows.envOfC qual (defScope st) s.heap.objs.size f cdv)) → sp vs H Q E →
      ∃ t, PSs (cxOf CX P w K mg base N qual (defScope st) f cdv A outer s H E) (defBody st) t ∧ t { nx := fun _ H' => Q .non H', rt := Q } (L2.start N vs) H) : FnG P w K mg base CX (k + 1) f fd ps sp := by
  obtain ⟨_, _, _, _, _, _, cdv, _, _, rfl, look, code⟩ := F.ex
  refine ⟨ln, @fun A outer s H args us vs Q E g room e0 bd rl hsp => ?_⟩
  have old : ∀ b o, base.get? b = some o → s.heap.get? b = some o := fun b o e => (e0.bs b o e).1
  have inH := e0.mod.kin.keeps old
  refine codeAny_call_function room.depth (inH _ _ look) rfl S.co S.gen rfl (PySem.W.codeRec_of inH code) (bd _ _ _ _ (wpAny_newFunctionEnv_cells S.kind ?_ ?_))
  · rintro ⟨n, v⟩ hy
    exact (S.par n (List.of_mem_zip hy).1).imp id fun q => ⟨q, PySem.W.cellsFrom_some _ _ _ (.inl q)⟩
  · rintro env rfl s1 x
    obtain ⟨t, hp, ht⟩ := body cdv A outer s H vs Q E g (room.deeper _) hsp
    refine ⟨(e0.mod.nolimit.keeps old).keeps x.toInCall.keep, codeAny_func (wpAny_mono (hp.run [] s1 _ H _ (inv_start S room.hd e0 (ln hsp) rl x) ht) (fun fl s' hs => ?_) fun _ _ h => h)⟩
    have hu : ∀ {σ : L2.St} {H' : Hp} {v : V} {u : Value}, L2.Inv (cxOf CX P w K mg base N qual (defScope st) f cdv A outer s H E) [] σ H' s' → RelV v u → Q v H' → CE outer P w H s Q u s' := fun J rv q => ⟨_, _, J.os, J.bare, J.base, J.hok, rv, q⟩
    exact match fl, hs with
      | .ret _, ⟨_, _, _, J, rv, q⟩ => hu J rv q
      | .next, ⟨_, _, J, q⟩ => hu (v := .non) (u := .none) J rfl q
      | .brk, ⟨_, _, _, q⟩ => q.elim
      | .cont, ⟨_, _, _, q⟩ => q.elim
end
section
variable {X : Cx} {CX : CXT} {k n : Nat} {f : Addr} {fd : FuncData} {ps ks : List Str} {sp : Sp} {E : XK} {g : List Value → List Value → List Value} {gV : List V → List V → List V}
variable {pins : List (Addr × Obj)} {σ : L2.St} {H : Hp} {s : Shared} {Q : VK} {us ws ds : List Value} {vs zs dvs : List V}
/-- a def is called, its values bound -/
theorem run_G {kw : List (Str × Value)} {as : List V} {bs : List Value} (F : FnG X.prog X.w X.K X.mg X.base CX k f fd ps sp) (hg : NoG X.A) (hr : Room k X.A) (hx : PassesAt CX X σ E) (I : L2.Inv X pins σ H s)
    (bd : as.length = ps.length → BindsTo s fd ⟨us, kw⟩ (ps.zip bs)) (rl : Vals as bs) (h : sp as H Q E) : wpAny (model X.prog X.w) X.A (call (.ref f) us kw) (EP X pins σ Q) X.xe s := by
  refine wpAny_call (codeAny_mono (F.go hg hr I.env0 (bd (F.ln h)) rl h) ?_)
  rintro (e | fl) s' q
  · exact hx pins H s e s' I q
  · cases fl <;> first | exact I.after q | exact q.elim
theorem passesAt_of (h : Passes CX X E) : PassesAt CX X σ E := fun pins H s e s' I c => h pins σ H s e s' I c
end
section
variable {X : Cx} {CX : CXT} {k n : Nat} {f : Addr} {fd : FuncData} {ps ks : List Str} {sp : Sp} {g : List Value → List Value → List Value} {gV : List V → List V → List V}
variable {x : Str} {p pos : Pos} {e : Expr} {es : List Expr} {kws : List Keyword} {t tk : TA}
/-- f(e, ..) -/
theorem pe_G {W : WX} (F : FnG X.prog X.w X.K X.mg X.base CX k f fd ps sp) (gd : NoG X.A) (hr : Room k X.A) (hg : Gl X x) (hm : X.mg x = some (.ref f)) (hk : PySem.W.keepIn X.K (.ref f) = true) (hb : Binds X.K fd ps []) (hx : ∀ σ, PassesAt CX X σ (WE W σ))
    (ha : PA X (e :: es) t) (hdb : (x == ("__debug__" : Str)) = false := by decide) (he : starEach (e :: es) X.env = (false, eval e X.env) :: starEach es X.env := by rfl)
    (hpl : (backTo pos (starEach es X.env)).any (·.1) = false := by rfl) : PE X (.Call (.Name x p) (e :: es) [] pos) (tCallS sp (WE W) t) := by
  refine ⟨fun pins s σ H Q I h => wpAny_Call_Name_kw (ld_glob I hg hm (PySem.W.callWith_K (h₀ := X.base) I.ok.mod.kin hk ?_ he hpl) hdb)⟩
  refine thn (ha.run pos pins s σ H _ I h) fun us s1 ⟨vs, H1, I1, r, q⟩ => ⟨I1.kIn, run_G F gd hr (hx σ) I1 (fun hl => ?_) r q⟩
  have b := hb s1 us I1.kIn (by rw [List.append_nil, ← r.length]; exact hl)
  rwa [List.append_nil] at b
end
end Zd
namespace Zd
open PySem PySem.Spec L2 TL
section
variable {X : Cx} {CX : CXT} {k n : Nat} {f : Addr} {fd : FuncData} {ps ks : List Str} {sp : Sp} {E : XK} {g : List Value → List Value → List Value} {gV : List V → List V → List V}
variable {x : Str} {p pos : Pos} {e : Expr} {es : List Expr} {kws : List Keyword} {t tk : TA}
/-- f(k = v, ..) -/
theorem pe_GN0 (F : FnG X.prog X.w X.K X.mg X.base CX k f fd ps sp) (gd : NoG X.A) (hr : Room k X.A) (hg : Gl X x) (hm : X.mg x = some (.ref f)) (hk : PySem.W.keepIn X.K (.ref f) = true) (hb : KBn X.K fd ps 0 ks g gV) (hx : Passes CX X E) (hw : PK X kws tk)
    (h1 : (backToKw pos (keywordEach kws X.env)).all (·.1.isSome) = true := by rfl) (h2 : (backToKw pos (keywordEach kws X.env)).filterMap (·.1) = ks := by rfl) (h3 : (x == ("__debug__" : Str)) = false := by decide)
    (h4 : ((backTo pos (starEach [] X.env)).any (·.1) || (backToKw pos (keywordEach kws X.env)).any (·.1.isNone)) = false := by rfl) : PE X (.Call (.Name x p) [] kws pos) (tCallN 0 ks.length sp gV E tNil tk) := by
  refine ⟨fun pins s σ H Q I h => wpAny_Call_Name_kw (ld_glob I hg hm (PySem.W.callWith_KW0 (h₀ := X.base) I.ok.mod.kin hk h1 ?_ h4) h3)⟩
  refine thn (hw.run pos pins s σ H _ I h) fun ws s2 ⟨zs, H2, I2, rz, l1, l2, q2⟩ => ⟨I2.kIn, ?_⟩
  rw [h2]
  exact run_G (us := []) F gd hr (passesAt_of hx) I2 (fun _ => hb.to s2 [] ws I2.kIn l1 (rz.length.symm.trans l2)) (hb.rel .nil rz) q2
/-- f(e, .., k = v, ..) -/
theorem pe_GN (F : FnG X.prog X.w X.K X.mg X.base CX k f fd ps sp) (gd : NoG X.A) (hr : Room k X.A) (hg : Gl X x) (hm : X.mg x = some (.ref f)) (hk : PySem.W.keepIn X.K (.ref f) = true) (hb : KBn X.K fd ps n ks g gV) (hx : Passes CX X E)
    (ha : PA X (e :: es) t) (hw : PK X kws tk) (h1 : (backToKw pos (keywordEach kws X.env)).all (·.1.isSome) = true := by rfl) (h2 : (backToKw pos (keywordEach kws X.env)).filterMap (·.1) = ks := by rfl)
    (h3 : (x == ("__debug__" : Str)) = false := by decide) (he : starEach (e :: es) X.env = (false, eval e X.env) :: starEach es X.env := by rfl)
    (h4 : ((backTo pos (starEach (e :: es) X.env)).any (·.1) || (backToKw pos (keywordEach kws X.env)).any (·.1.isNone)) = false := by rfl) : PE X (.Call (.Name x p) (e :: es) kws pos) (tCallN n ks.length sp gV E t tk) := by
  refine ⟨fun pins s σ H Q I h => wpAny_Call_Name_kw (ld_glob I hg hm (PySem.W.callWith_KW (h₀ := X.base) I.ok.mod.kin hk h1 (thn (ha.run pos pins s σ H _ I h) ?_) h4 he) h3)⟩
  rintro us s1 ⟨vs, H1, I1, r, q⟩
  refine thn (hw.run pos pins s1 σ H1 _ I1 q) ?_
  rintro ws s2 ⟨zs, H2, I2, rz, l1, l2, q2⟩
  refine ⟨I2.kIn, ?_⟩
  rw [h2]
  exact run_G F gd hr (passesAt_of hx) I2 (fun _ => hb.to s2 us ws I2.kIn (r.length.symm.trans l1) (rz.length.symm.trans l2)) (hb.rel r rz) q2
end

/-! ### the law's own call -/
section
variable {P : Program} {w : World} {K : PySem.W.Frag} {mg mb : Str → Option Value} {CX : CXT} {k : Nat} {fa a : Addr} {fd : FuncData} {x : Str} {sp : Sp} {s1 : Shared} {vs : List Value} {ns : List Int}
abbrev scr (vs : List Value) : Obj := { cls := .type "list", data := .seq vs.toArray }
/-- nothing is tracked but the script -/
structure Alone (H : Hp) (a : Addr) : Prop where
  at_ : ∀ b, H b ≠ none → b = a
  only : Only H
theorem law_core {H : Hp} (al : Alone H a) (KX : K.In s1.heap) (hns : s1.heap.Ns mainGlobals mg) (hb : s1.heap.Ns builtinsNs mb) (hbb : ∀ y : Str, y ≠ "__name__" → mb y = bootBuiltins y) (lim : s1.heap.NoLimit) (gens : s1.gens = #[])
    (ha : s1.heap.get? a = some (scr vs)) (hr : Room k callerA) (F : ∀ base : Heap, K.In base → base.Ns mainGlobals mg → FnG P w K mg base CX k fa fd [x] sp) (bd : ∀ (s : Shared) (u : Value), BindsTo s fd ⟨[u], []⟩ [(x, u)])
    (hsp : sp [.ref a] H (fun v _ => v = .bl true) fun _ _ _ => False) (hCX : ∀ e s', CX [] H s1 (fun _ _ _ => False) e s' → False) (ok : HOk P w H s1.heap) (hK : H a ≠ none → K.lookup a = none) :
    codeAny (model P w) callerA (.call (.ref fa) ⟨[.ref a], []⟩) (fun r s' => r = .ok (.ret (.bool true)) ∧ OldK s1.heap s'.heap ∧ s'.os = s1.os ∧ PyProof.Rows.AllBare s'.gens) s1 := by
  have free : ∀ {b : Addr} {o : Obj}, s1.heap.get? b = some o → (b = a → o ≠ scr vs) → H b = none := fun {b o} e z => by
    by_cases q : H b = none
    · exact q
    · have hba := al.at_ b q
      subst hba
      rw [ha] at e
      exact absurd (Option.some.inj e).symm (z rfl)
  have nsH : ∀ {b : Addr} {m : Str → Option Value}, s1.heap.Ns b m → (hidT s1.heap H).Ns b m := fun {b m} ⟨o, es, ep, e, d, r⟩ =>
    ⟨o, es, ep, hidT_get e (free e fun _ z => by rw [z] at d; cases d), d, r⟩
  have inH : K.In (hidT s1.heap H) := fun b o e => hidT_get (KX b o e) (by
    by_cases q : H b = none
    · exact q
    · have hba := al.at_ b q
      subst hba
      rw [hK q] at e
      cases e)
  obtain ⟨mc, c1, c2⟩ := lim
  have env : Env0 P w K mg (hidT s1.heap H) callerA [] s1 H := by
    refine ⟨rfl, ⟨inH, nsH hns, ⟨mb, nsH hb, hbb⟩, ⟨mc, nsH c1, c2⟩⟩, fun _ _ e => of_hidT e, Nat.le_of_eq (hidT_size _ _), trivial, ?_, ok, .of_eq gens⟩
    intro b hb
    exact (List.not_mem_nil hb).elim
  refine codeAny_mono ((F _ inH (nsH hns)).go (us := [.ref a]) (vs := [.ref a]) (by rfl) hr env (bd s1 (.ref a)) (.cons rfl .nil) hsp) ?_
  rintro (e | fl) s' h
  · exact (hCX e s' h).elim
  match fl, h with
  | .next, h => exact h.elim
  | .brk, h => exact h.elim
  | .cont, h => exact h.elim
  | .ret u, ⟨v, H', os, bare, un, ok', rv, q⟩ =>
    have q : v = .bl true := q
    subst q
    have rv : u = Value.bool true := rv
    subst rv
    refine ⟨rfl, OldK.of_keep fun b o e => ?_, os, bare⟩
    cases q : H b with
    | none => exact un.keep b o e q (fun z => (List.not_mem_nil z).elim) (by simp)
    | some y =>
      obtain z | ⟨ob, xs, z⟩ := al.only b
      · rw [q] at z
        cases z
      · have g1 := (ok b _ z).1
        have g2 := (ok' b _ (un.frzs b ob _ z)).1
        rw [e] at g1
        cases g1
        exact g2
/-- the heap in which the script alone is tracked -/
def soleH (a : Addr) (vs : List Value) (ns : List Int) : Hp := fun b => if b = a then some (.frz (scr vs) (.lst (ns.map V.int))) else none
theorem sole_at : soleH a vs ns a = some (.frz (scr vs) (.lst (ns.map V.int))) := by simp [soleH]
theorem sole_ne {b : Addr} (h : b ≠ a) : soleH a vs ns b = none := by simp [soleH, h]
theorem law_G (KX : K.In s1.heap) (hns : s1.heap.Ns mainGlobals mg) (hb : s1.heap.Ns builtinsNs mb) (hbb : ∀ y : Str, y ≠ "__name__" → mb y = bootBuiltins y) (lim : s1.heap.NoLimit) (gens : s1.gens = #[])
    (ha : s1.heap.get? a = some (scr vs)) (hi : PyProof.Rows.IntsAre vs ns) (hl : ns.length ≤ sizeLine) (hr : Room k callerA) (F : ∀ base : Heap, K.In base → base.Ns mainGlobals mg → FnG P w K mg base CX k fa fd [x] sp)
    (bd : ∀ (s : Shared) (u : Value), BindsTo s fd ⟨[u], []⟩ [(x, u)]) (hsp : ∀ H : Hp, SqL K H a (ns.map V.int) → sp [.ref a] H (fun v _ => v = .bl true) fun _ _ _ => False)
    (hCX : ∀ H e s', CX [] H s1 (fun _ _ _ => False) e s' → False) :
    codeAny (model P w) callerA (.call (.ref fa) ⟨[.ref a], []⟩) (fun r s' => r = .ok (.ret (.bool true)) ∧ OldK s1.heap s'.heap ∧ s'.os = s1.os ∧ PyProof.Rows.AllBare s'.gens) s1 := by
  have rv := vals_ints hi
  have nl := hi.length
  by_cases hk : K.lookup a = none
  · have al : Alone (soleH a vs ns) a := by
      refine ⟨fun b h => ?_, fun b => ?_⟩
      · by_cases e : b = a
        · exact e
        · exact absurd (sole_ne e) h
      · by_cases e : b = a
        · subst e; exact .inr ⟨_, _, sole_at⟩
        · exact .inl (sole_ne e)
    refine law_core al KX hns hb hbb lim gens ha hr F bd (hsp _ (.inl (.inr ⟨_, sole_at⟩))) (hCX _) (fun b u z => ?_) fun _ => hk
    by_cases e : b = a
    · subst e
      rw [sole_at] at z
      cases z
      exact ⟨ha, by rw [List.length_map]; exact hl, vs, _, rv, ha⟩
    · rw [sole_ne e] at z
      cases z
  · obtain ⟨o, ho⟩ := Option.ne_none_iff_exists'.mp hk
    have e := KX a o ho
    rw [ha] at e
    obtain rfl := Option.some.inj e
    refine law_core (H := fun _ => none) ⟨fun b h => absurd rfl h, fun b => .inl rfl⟩ KX hns hb hbb lim gens ha hr F bd (hsp _ (.inr ⟨_, vs.toArray, _, ho, rfl, rfl, rfl, ?_, by simpa using rv⟩)) (hCX _) (fun b u z => nomatch z) fun z => absurd rfl z
    rw [List.size_toArray, nl]
    exact hl
theorem walk_G {l : PySem.W.OpenLaw} {n k : Nat} {q : Program} {loose : List Str} {XP : (Str → Option Value) → Heap → Prop} {YP : World → Heap → Prop} {d : DefRec} {K : Params → PySem.W.Frag} {CX : World → CXT} {sp : World → Sp} {x : Str}
    (hn : l.most = some n) (h2 : n ≤ sizeLine) (hdf : d.params.defaults = []) (hr : Room k callerA) (hY : ∀ (w : World) (h : Heap), YP w h → (K w.params).In h)
    (F : ∀ (w : World) (mg : Str → Option Value) (fa : Addr) (h : Heap), (K w.params).In h → h.Ns mainGlobals mg → mg d.name = some (.ref fa) →
      ∃ fd : FuncData, (∀ (s : Shared) (u : Value), BindsTo s fd ⟨[u], []⟩ [(x, u)]) ∧ ∀ base : Heap, (K w.params).In base → base.Ns mainGlobals mg → FnG l.prog w (K w.params) mg base (CX w) k fa fd [x] (sp w))
    (hsp : ∀ (w : World) (H : Hp) (a : Addr) (ns : List Int), ns.length ≤ n → SqL (K w.params) H a (ns.map V.int) → sp w [.ref a] H (fun v _ => v = .bl true) fun _ _ _ => False)
    (hCX : ∀ (w : World) (H : Hp) (s : Shared) (e : Value) (s' : Shared), CX w [] H s (fun _ _ _ => False) e s' → False) :
    PySem.W.WalkO q loose XP YP l.row.toRowW d [] (fun f vs => PySem.call f vs) := by
  refine Att.attach_call hn hdf fun w s₀ s₁ mg mb fa o pm cd doc a vs ns G Y ho hd hcd hmg hobj hints hlen hg => ?_
  obtain ⟨fd, bd, hF⟩ := F w mg fa _ (hY w _ Y) G.T.g hmg
  exact law_G (hY w _ Y) G.T.g G.T.b G.T.builtins G.T.nolimit hg hobj hints (Nat.le_trans hlen h2) hr hF bd (fun H hS => hsp w H a ns hlen hS) fun H e s' => hCX w H _ e s'
end
end Zd
namespace Zd
open PySem PySem.Spec L2 TL
section
variable {X : Cx}
/-- repr of plain data, told by the library's rules for each kind -/
theorem call_reprD (gd : NoG X.A) (hu : X.A.units + 66 < cLine) : CallR X (.builtin "repr") (fun xs H Q => ∃ v d, xs = [v] ∧ Dp X.K H v d ∧ SeqAt.shaped d = true ∧ d.showable = true ∧ d.hasDict = false ∧ d.depth ≤ 64 ∧ d.shown.length ≤ sizeLine ∧ Q (.str d.shown) H) := by
  rintro pins s σ H xs us Q I r ⟨v, d, rfl, hd, _, hs, hnd, hdep, hsz, q⟩
  obtain ⟨u, rfl, ru⟩ := vals1 r
  obtain ⟨as, rd⟩ := Dp.reads I d v u hd ru
  cases rd with
  | none => exact PySem.P.repr_of_none ⟨.str _, H, I.tok _, ⟨_, rfl⟩, q⟩
  | bool b => exact PySem.P.repr_of_bool ⟨.str _, H, I.tok _, ⟨_, rfl⟩, q⟩
  | int i t => exact PySem.P.repr_of_int (by simpa [PyData.showable] using hs) ⟨.str _, H, I.tok _, ⟨_, rfl⟩, q⟩
  | str x t => exact PySem.P.repr_of_str ⟨.str _, H, I.tok _, ⟨_, rfl⟩, q⟩ hsz
  | list a b c e => exact repr_of_reads' (.list a b c e) hs (PyData.noDict_hsm hnd) gd (by omega) (fun _ _ e => e) (fun h' u tk k => ⟨.str _, H, I.kept k, ⟨_, rfl⟩, q⟩) hsz
  | tuple a b c e => exact repr_of_reads' (.tuple a b c e) hs (PyData.noDict_hsm hnd) gd (by omega) (fun _ _ e => e) (fun h' u tk k => ⟨.str _, H, I.kept k, ⟨_, rfl⟩, q⟩) hsz
  | _ => simp [PyData.hasDict] at hnd
end
section
variable {K : PySem.W.Frag} {F : Hp}
mutual
theorem sh_asc : ∀ (x : D) (v : V), cln x = true → Rp K F v x → Asc (tl (toPy x).shown)
  | .non, _, _, _ => by simp only [toPy, PyData.shown]; exact asc_of_str (by decide)
  | .bl b, _, _, _ => by
    simp only [toPy, PyData.shown]
    cases b <;> exact asc_of_str (by decide)
  | .int i, _, _, _ => by simp only [toPy, PyData.shown]; exact asc_int i
  | .str cs, _, _, .str _ a => by simp only [toPy, PyData.shown]; exact tl_repr cs a
  | .lst xs, _, c, .lst _ r => by simp only [toPy, PyData.shown]; exact asc_list (shs_asc xs _ (by simpa [cln] using c) r)
  | .ro xs, _, c, .ro _ r => by simp only [toPy, PyData.shown]; exact asc_list (shs_asc xs _ (by simpa [cln] using c) r)
  | .tup xs, _, c, .tup _ r => by simp only [toPy, PyData.shown]; exact asc_tup (shs_asc xs _ (by simpa [cln] using c) r)
  | .dic _, _, c, _ => by simp [cln] at c
  | .obj _ _, _, c, _ => by simp [cln] at c
  | .exc _ _, _, c, _ => by simp [cln] at c
  | .nkd _, _, c, _ => by simp [cln] at c
theorem shs_asc : ∀ (xs : List D) (vs : List V), clns xs = true → RpL K F vs xs → ∀ t ∈ PyData.shownAll (toPys xs), Asc (tl t)
  | [], _, _, _ => by simp [toPys, PyData.shownAll]
  | x :: xs, _, c, .cons r t => by
    have c' : cln x = true ∧ clns xs = true := by simpa [clns] using c
    simp only [toPys, PyData.shownAll]
    intro y hy
    rcases List.mem_cons.mp hy with e | hy
    · rw [e]; exact sh_asc x _ c'.1 r
    · exact shs_asc xs _ c'.2 t y hy
end
theorem RpB.sh_asc {H : Hp} {v : V} {x : D} (h : RpB K F H v x) (c : cln x = true) : Asc (tl (toPy x).shown) := by
  rcases h with h | ⟨p, ho, oc, e1, e2, e3, e⟩
  · exact Zd.sh_asc x v c h
  · subst e
    cases oc with
    | dic _ => simp [cln] at c
    | ob _ _ => simp [cln] at c
    | lst xs =>
      cases ho with
      | lst vs => simp only [toPy, PyData.shown]; exact asc_list (shs_asc xs vs (by simpa [cln] using c) e3)
      | _ => exact e3.elim
end
/-- the text that repr tells -/
def rep (x : D) : List Nat := tl (toPy x).shown
def repOk (x : D) : Prop := okD x ∧ (toPy x).showable = true ∧ (rep x).length ≤ sizeLine
def fRepr (x : D) (q : D → Prop) : Prop := repOk x ∧ q (.str (rep x))
section
variable {X : Cx}
def reprR (gd : NoG X.A) (hu : X.A.units + 66 < cLine) : DC X (.builtin "repr") (d1 fRepr) where
  r := _
  h := call_reprD gd hu
  hr := fun F H vs xs q Q S rs hd hQ => by
    obtain ⟨x, rfl, ⟨ok, sh, sz⟩, hd⟩ := d1_ hd
    obtain ⟨v, rfl, rx⟩ := rs.one
    obtain ⟨h1, h2⟩ := rx.dp S ok
    have h3 : (PyData.canLay0 (toPy x) && decide (PyData.depth (toPy x) ≤ 64)) = true := h2
    simp only [Bool.and_eq_true, decide_eq_true_eq] at h3
    refine ⟨v, _, rfl, h1, h2, sh, PyData.hasDict_of_canLay _ h3.1, h3.2, ?_, ?_⟩
    · simpa [rep, tl, Str.length] using sz
    · have e : (toPy x).shown = mk (rep x) := (mk_tl _).symm
      rw [e]
      exact hQ F H _ _ (al_id S) (.str _ (rx.sh_asc ok.1)) hd
end
end Zd
namespace Zd
open PySem PySem.Spec L2 TL
theorem room66 {k : Nat} {A : Around} (hr : Room k A) : A.units + 66 < cLine := by
  have := hr.un
  omega
section
variable {P : Program} {w : World} {K : PySem.W.Frag} {mg : Str → Option Value} {base : Heap}
/-- THE RULE for a def, where no list is being written -/
theorem fn_okG {x qual : Str} {st : Stmt} {f : Addr} {fd : FuncData} {N ps : List Str} {k : Nat} {fs : FS} (F : Fun K x qual st f fd) (S : FnScope N ps (defScope st)) (hps : ps.length ≤ N.length) (hfl : FLen fs ps.length)
    (hbody : ∀ (cdv : Value) (A : Around) (outer : List PySem.Env) (s : Shared) (H : Hp) (E : XK), NoG A → Room k (A.deeper (PyProof.Rows.envOfC qual (defScope st) s.heap.objs.size f cdv)) →
      ∃ t, DSs (cxOf (L2.CX P w) P w K mg base N qual (defScope st) f cdv A outer s H E) (WE1 E) (defBody st) t ∧
        ∀ as q xq, fs as q xq → t { nx := fun ε => q .non (outs as ε), rt := fun d ε => q d (outs as ε), xq := fun e ε => xq e (outs as ε) } (env0 as N.length)) :
    FnG P w K mg base (L2.CX P w) (k + 1) f fd ps (spOf K fs) := by
  refine FnG.of F S (fun {vs H Q E} h => ?_) fun cdv A outer s H vs Q E gd hr h => ?_
  · obtain ⟨F0, as, q, xq, S0, a, nd, hfs, _⟩ := h
    rw [a.len, hfl _ _ _ hfs]
  obtain ⟨F0, as, q, xq, S0, a, nd, hfs, hq, hx⟩ := h
  have hl := hfl _ _ _ hfs
  obtain ⟨t, ht, hv⟩ := hbody cdv A outer s H E gd hr
  have hla := a.len
  refine ⟨_, ht.pss, ⟨F0, less H (pars vs as), pnAt 0 vs as, []⟩, F0, env0 as N.length, _, start_iv S0 a nd (by omega), hv as q xq hfs, ?_⟩
  have bk : ∀ {F' H' : Hp} {σ' : L2.St} {ε' : Env}, Iv K ⟨F0, less H (pars vs as), pnAt 0 vs as, []⟩ F' H' σ' ε' → Back K F0 H vs as F' H' (outs as ε') := fun {F' H' σ' ε'} I => end_back a I
  exact ⟨fun F' H' σ' ε' _ I h => hq F' H' .non .non _ (bk I) .non h, fun F' H' σ' ε' v d _ I r h => hq F' H' v d _ (bk I) r h, fun _ _ _ _ _ _ h => h.elim, fun _ _ _ _ _ _ h => h.elim,
    fun F' H' σ' ε' e cls d _ I xo h => hx F' H' e cls d _ (bk I) xo h, fun _ _ _ _ _ _ _ _ _ _ _ h => h.elim⟩
end
structure CalG (P : Program) (w : World) (K : PySem.W.Frag) (mg : Str → Option Value) (base : Heap) (k : Nat) (x : Str) (st : Stmt) (ps : List Str) (fs : FS) (f : Addr) (fd : FuncData) : Prop where
  F : Fun K x x st f fd
  g : mg x = some (.ref f)
  b : Binds K fd ps []
  ok : FnG P w K mg base (L2.CX P w) k f fd ps (spOf K fs)
section
variable {X : Cx} {CX : CXT} {k : Nat} {f : Addr} {fd : FuncData} {ps : List Str} {sp : Sp} {x : Str} {p pos : Pos} {e : Expr} {es : List Expr} {t : TA}
/-- f(e, ..), nothing raised -/
theorem pe_GC (F : FnG X.prog X.w X.K X.mg X.base CX k f fd ps sp) (gd : NoG X.A) (hr : Room k X.A) (hg : Gl X x) (hm : X.mg x = some (.ref f)) (hk : PySem.W.keepIn X.K (.ref f) = true) (hb : Binds X.K fd ps []) (hx : Passes CX X E0)
    (ha : PA X (e :: es) t) (hdb : (x == ("__debug__" : Str)) = false := by decide) (he : starEach (e :: es) X.env = (false, eval e X.env) :: starEach es X.env := by rfl)
    (hpl : (backTo pos (starEach es X.env)).any (·.1) = false := by rfl) : PE X (.Call (.Name x p) (e :: es) [] pos) (tCall sp [] E0 t) := by
  refine ⟨fun pins s σ H Q I h => wpAny_Call_Name_kw (ld_glob I hg hm (PySem.W.callWith_K (h₀ := X.base) I.ok.mod.kin hk ?_ he hpl) hdb)⟩
  refine thn (ha.run pos pins s σ H _ I h) fun us s1 ⟨vs, H1, I1, r, q⟩ => ⟨I1.kIn, run_G F gd hr (passesAt_of hx) I1 (fun hl => ?_) r ?_⟩
  · have b := hb s1 us I1.kIn (by rw [List.append_nil, ← r.length]; exact hl)
    rwa [List.append_nil] at b
  · have q : sp (vs ++ []) H1 Q E0 := q
    rwa [List.append_nil] at q
end
end Zd
namespace Zd
open PySem PySem.Spec L2 TL
section
variable {X : Cx} {W : WX} {pos : Pos}
/-- {} -/
theorem de_dic0 : DE X W (.Dict [] [] pos) (dC (.dic [])) := by
  refine ⟨PE.conv pe_dnewK fun σ H Q ⟨G, F, ε, q, xq, I, ht, hq, hx⟩ p hp => ?_⟩
  have A := AL.new (o := .dK []) I.sF hp
  exact hq _ _ _ (.d (.dic [])) ε A.sF (.refl _) (I.al A) (Rp.dic upd_same .nil) ht
end
/-- the place of a sign in a text that has it -/
def fIdx (x y : D) (q : D → Prop) : Prop := match x, y with
  | .str a, .str [c] => c ∈ a ∧ a.length ≤ sizeLine ∧ ∀ i : Nat, a[i]? = some c → (∀ j, j < i → a[j]? ≠ some c) → q (.int i)
  | _, _ => False
/-- slots of a comprehension's targets, in a row -/
theorem k_sdic : kitB "dict" "str" = some false := by rfl
theorem k_slst : kitB "list" "str" = some false := by rfl
theorem k_stup : kitB "tuple" "str" = some false := by rfl
theorem k_sint : kitB "int" "str" = some false := by rfl
theorem k_sbl : kitB "bool" "str" = some false := by rfl
theorem k_snon : kitB "NoneType" "str" = some false := by rfl
theorem k_tt : kitB "tuple" "tuple" = some true := by rfl
theorem k_tl : kitB "list" "tuple" = some false := by rfl
theorem k_ts : kitB "str" "tuple" = some false := by rfl
theorem k_ll : kitB "list" "list" = some true := by rfl
/-! ### enumerate(text) -/
/-- each sign with its place, in new pairs -/
def Ies (x : Str) : It :=
  ⟨fun i _ => i < x.cps.size, fun i H v H' => ∃ T c, v = .ref T ∧ H T = none ∧ H' = upd H T (.tup [.int (i : Nat), .str ⟨#[c]⟩]) ∧ x.cps[i]? = some c, fun i _ => x.cps.size ≤ i⟩
def StE (e it : Addr) (x : Str) (t : Tok) (i : Nat) (h : Heap) : Prop := (∃ old, IsEnum h e it ((i : Nat) : Int) old) ∧ h.IsStrIter it "str_ascii_iterator" x t i ∧ e ≠ it ∧ i ≤ x.cps.size
theorem turn_ies {P : Program} {w : World} {K : PySem.W.Frag} {elts : List Expr} {kk : Nat} {tpos : Pos} (e it : Addr) (x : Str) (t : Tok) : Turn P w K (.Tuple elts kk tpos) (Ies x) [e, it] e (StE e it x t) where
  mem := List.mem_cons_self
  obj := by
    rintro i h ⟨⟨old, he⟩, ⟨o, ho, hc, hd⟩, _, _⟩ b hb
    rcases List.mem_cons.mp hb with rfl | hb
    · exact ⟨_, he, fun v q => nomatch q⟩
    · rw [List.mem_singleton.mp hb]
      exact ⟨o, ho, fun v q => by rw [hd] at q; cases q⟩
  keep := by
    rintro i h h' ⟨⟨old, he⟩, ⟨o, ho, r⟩, hne, hz⟩ k
    exact ⟨⟨old, k e (by simp) _ he⟩, ⟨o, k it (by simp) _ ho, r⟩, hne, hz⟩
  item := by
    rintro X rfl rfl rfl hc i pins s σ H E I hf ⟨⟨old, he⟩, hit, hne, hz⟩ hg
    have hel : e < s.heap.objs.size := Heap.lt_size he
    refine wpAny_pyNext_enum_itemD (Draws.strAscii (A := X.A.in1) (I.ok.hd hc) it x t) he hit hg hne (by simpa using hne) ?_
    rintro y h' tk ⟨c, u, hx, rfl⟩ out hit' hT hsz hk
    refine ⟨_, rfl, wpAny_letOwnedTupleGo_enum (s := { s with heap := h', toks := tk + 1 }) out fun h2 he2 sb => ?_⟩
    have hT2 : h2.get? s.heap.objs.size = some { cls := .type "tuple", data := .seq #[.int i tk, .str ⟨#[c]⟩ u] } := (sb.2 _ (Nat.ne_of_gt hel)).trans hT
    have new : ObjOk X.prog X.w (upd H s.heap.objs.size (.tup [.int (i : Nat), .str ⟨#[c]⟩])) h2 s.heap.objs.size (.tup [.int (i : Nat), .str ⟨#[c]⟩]) :=
      ⟨by show 2 ≤ sizeLine; decide, [.int i tk, .str ⟨#[c]⟩ u], .cons ⟨_, rfl⟩ (.cons ⟨_, rfl⟩ .nil), ⟨_, hT2, rfl, _, rfl⟩⟩
    have J : L2.Inv X pins σ (upd H s.heap.objs.size (.tup [.int (i : Nat), .str ⟨#[c]⟩])) { s with heap := h2, toks := tk + 1 } :=
      I.turnedNew (ch := [e, it]) (fun b ob hb q => (sb.2 b fun z => hb (by simp [z])).trans (hk b ob (fun z => hb (by simp [z])) (fun z => hb (by simp [z])) q)) hf (Nat.le_refl _) new
    obtain ⟨o, g1, g2⟩ := hit'
    refine ⟨.ref s.heap.objs.size, _, J, rfl, ⟨_, c, rfl, I.hok.fresh (Nat.le_refl _), rfl, hx⟩, ⟨⟨.str ⟨#[c]⟩ u, ?_⟩, ⟨o, (sb.2 it (Ne.symm hne)).trans g1, g2⟩, hne, hg⟩, fun b hb => ?_⟩
    · rw [show ((i + 1 : Nat) : Int) = (i : Int) + 1 by omega]
      exact he2
    · have lt : b < s.heap.objs.size := by
        rcases List.mem_cons.mp hb with rfl | hb
        · exact hel
        · rw [List.mem_singleton.mp hb]
          obtain ⟨_, q, _⟩ := hit
          exact Heap.lt_size q
      rw [upd_ne (Nat.ne_of_lt lt)]
      exact (hf b hb).1
  done := by
    rintro X rfl rfl rfl hc i pins s σ H E I hf ⟨⟨old, he⟩, hit, hne, hz⟩ hg
    obtain ⟨f0, f1, f2, f3, f4, f5⟩ := hf it (by simp)
    obtain rfl : i = x.cps.size := Nat.le_antisymm hz hg
    exact wpAny_pyNext_enum_endD (Draws.strAscii (A := X.A.in1) (I.ok.hd hc) it x t) he hit fun h' eb => ⟨rfl, I.turned (t' := s.toks) (fun b o hb q => eb b o hb q) f0 f1 f3 f4 f5⟩
  self := fun A i s Q E st h => let ⟨⟨_, he⟩, _⟩ := st; wpAny_pyIter_enum he h
/-- .. whose end is read as a row of pairs -/
def iEnumS (ta : TA) : TI := fun σ H R => ta σ H fun vs H1 => ∃ y : Str, vs = [.str y] ∧ y.cps.all (· < 128) = true ∧ R (Ies y) H1
theorem pi_enumT {X : Cx} {e : Expr} {ta : TA} {p pos tpos : Pos} {elts : List Expr} {kk : Nat} (hg : Gl X "enumerate") (hm : X.mg "enumerate" = none) (ha : PA X [e] ta) (hs : starEach [e] X.env = [(false, eval e X.env)] := by rfl) :
    PI X (.Tuple elts kk tpos) (.Call (.Name "enumerate" p) [e] [] pos) (iEnumS ta) := by
  refine ⟨fun pins s σ H R I h => PyProof.Rows.Call_ (ld_blt I hg hm PyProof.Rows.boot_enumerate (PyProof.Rows.callWith_type1 (thn (ha.run pos pins s σ H _ I h) ?_) hs rfl))⟩
  rintro us s1 ⟨vs, H1, I1, r1, y, rfl, hy, q⟩
  cases r1 with
  | cons r rr =>
    cases rr
    obtain ⟨t, rfl⟩ := r
    refine call_enumerate_str fun h' he hit hsz hk => wpAny_pyIter_enum he ?_
    have J : L2.Inv X pins σ H1 { s1 with heap := h' } := I1.kept (t' := s1.toks) hk
    have ty : strIterType y = "str_ascii_iterator" := by simp [strIterType, hy]
    rw [ty] at hit
    refine ⟨s1.heap.objs.size + 1, [s1.heap.objs.size + 1, s1.heap.objs.size], _, _, H1, rfl, J, turn_ies (s1.heap.objs.size + 1) s1.heap.objs.size y t, ⟨⟨.none, he⟩, hit, Nat.succ_ne_self _, Nat.zero_le _⟩, fun b hb => ?_, q⟩
    have hle : s1.heap.objs.size ≤ b := by
      rcases List.mem_cons.mp hb with rfl | hb
      · exact Nat.le_succ _
      · exact Nat.le_of_eq (List.mem_singleton.mp hb).symm
    exact I1.fpOk hle (I1.hok.fresh hle)
end Zd
namespace Zd
open PySem PySem.Spec L2 TL
/-- the pairs that enumerate tells of a text -/
def enumS (cs : List Nat) : List D := cs.zipIdx.map fun p => .tup [.int (p.2 : Nat), .str [p.1]]
theorem itok_ies {K : PySem.W.Frag} {F : Hp} {cs : List Nat} (ha : Asc cs) : ItOk K F (Ies (mk cs)) (enumS cs) := fun F' H' s1 s2 => by
  refine ⟨fun i x hx => ?_, by show (mk cs).cps.size ≤ _; simp [mk, enumS]⟩
  unfold enumS at hx
  rw [List.getElem?_map, List.getElem?_zipIdx] at hx
  cases e : cs[i]? with
  | none => rw [e] at hx; cases hx
  | some c =>
    rw [e] at hx
    simp only [Option.map_some, Nat.zero_add, Option.some.injEq] at hx
    subst hx
    have hi := (List.getElem?_eq_some_iff.mp e).1
    refine ⟨by show i < (mk cs).cps.size; simpa [mk] using hi, fun v H2 ⟨T, c', e1, hT, e2, hc⟩ => ?_⟩
    subst e1 e2
    have e3 : (mk cs).cps[i]? = cs[i]? := by simp [mk]
    rw [e3, e] at hc
    cases hc
    have A := AL.new (o := .tup [.int (i : Nat), .str ⟨#[c]⟩]) s2 hT
    exact ⟨_, A, .tup (.inl upd_same) (.cons (.int _) (.cons (.str [c] fun k hk => by rw [List.mem_singleton.mp hk]; exact ha c (List.mem_of_getElem? e)) .nil))⟩
def enumOf (xs : List D) (k : List D → Prop) : Prop := match xs with
  | [.str cs] => k (enumS cs)
  | _ => False
def iEnumD (t : TL) : TId := fun ε q xq => t ε (fun os ε1 => enumOf (os.map (Opd.get ε1)) fun xs => q xs ε1) xq
section
variable {X : Cx} {W : WX} {tg iter : Expr} {ta : TL}
theorem di_enum (h : PI X tg iter (iEnumS (LA X.K W ta))) : DI X W tg iter (iEnumD ta) := by
  refine ⟨PI.conv h fun σ H R ⟨G, F, ε, q, xq, I, ht, hq, hx⟩ => ?_⟩
  refine ⟨G, F, ε, _, xq, I, ht, fun F1 H1 vs os ε1 s1 k1 I1 r1 h1 => ?_, hx⟩
  have rb := r1.bs I1
  generalize os.map (Opd.get ε1) = xs at rb h1
  unfold enumOf at h1
  split at h1
  · obtain ⟨v, rfl, rx⟩ := rb.one
    obtain ⟨e1, a1⟩ := rx.str_
    subst e1
    refine ⟨_, rfl, ?_, hq F1 H1 _ _ ε1 s1 k1 I1 (itok_ies a1) h1⟩
    rw [← Array.all_toList]
    exact List.all_eq_true.mpr fun c hc => decide_eq_true (a1 c hc)
  · exact h1.elim
end
end Zd
namespace Zd
open PySem PySem.Spec L2 TL
/-- where a sign stands in a text that has it -/
def fInd (x y : D) (q : D → Prop) : Prop := match x, y with
  | .str a, .str [c] => c ∈ a ∧ ∀ i : Nat, a[i]? = some c → q (.int i)
  | _, _ => False
section
variable {X : Cx}
def indR : DM1 X "str.index" fInd where
  r := _
  h := mt_sindex
  hr := fun F H v w x y q Q S rx ry hd hQ => by
    unfold fInd at hd
    split at hd
    · rename_i a c
      obtain ⟨hm, hd⟩ := hd
      obtain ⟨e1, a1⟩ := rx.str_
      obtain ⟨e2, a2⟩ := ry.str_
      have hf := StrLaws.found_one (mk a) c
      rw [decide_eq_true (show c ∈ (mk a).cps.toList from hm)] at hf
      cases ho : Builtin.Str.occurrences (mk a) ⟨#[c]⟩ 0 (mk a).length 1 with
      | nil => rw [ho] at hf; cases hf
      | cons i rest =>
        have hs := StrLaws.occ_spec (mk a) ⟨#[c]⟩ 0 (mk a).length 1 i (by rw [ho]; exact List.mem_cons_self)
        have hi := (StrLaws.subAt_one (mk a) c i).mp hs
        refine ⟨mk a, ⟨#[c]⟩, i, rest, e1, by rw [e2], ho, hQ F H _ _ (al_id S) (.int _) (hd i ?_)⟩
        simpa [mk] using hi
    · exact hd.elim
end
end Zd
namespace Zd
theorem x_iEnumD (t : TL) (ε : Env) (q : List D → Env → Prop) (xq : XQ) : iEnumD t ε q xq = (t ε (fun os ε1 => enumOf (os.map (Opd.get ε1)) fun xs => q xs ε1) xq) := rfl
end Zd
namespace Zd
open PySem PySem.Spec L2 TL

/-! ### promises that tell a new list, the asker's own -/
abbrev FO := List Sl → (OC → List Sl → Prop) → (EXD → List Sl → Prop) → Prop
def FOLen (fo : FO) (n : Nat) : Prop := ∀ as q xq, fo as q xq → as.length = n
def spO (K : PySem.W.Frag) (fo : FO) : Sp := fun vs H Q E => ∃ F as q xq, Same F H ∧ AsOk K F H vs as ∧ (pars vs as).Nodup ∧ fo as q xq ∧
  (∀ F' H' p ho c as', Back K F H vs as F' H' as' → H' p = some ho → F' p = none → H p = none → OcOk K F' ho c → q c as' → Q (.ref p) H') ∧
  (∀ F' H' e cls dx as', Back K F H vs as F' H' as' → XOk K F' H' e cls dx → xq e as' → E cls dx H')
theorem pars_at {K : PySem.W.Frag} {F H : Hp} {p : Addr} : ∀ {vs : List V} {as : List Sl}, AsOk K F H vs as → p ∈ pars vs as → ∃ (i : Nat) (c : OC), as[i]? = some (Sl.par c) ∧ vs[i]? = some (V.ref p)
  | _, _, .nil, h => by simp [pars] at h
  | _, _, .d (v := v) (vs := vs) (as := as) _ t, h => by
    have h' : p ∈ pars vs as := by
      unfold pars at h
      cases v <;> exact h
    obtain ⟨i, c, e1, e2⟩ := pars_at t h'
    exact ⟨i + 1, c, by simpa using e1, by simpa using e2⟩
  | _, _, .par (c := c) _ _ _ t, h => by
    unfold pars at h
    rcases List.mem_cons.mp h with rfl | h
    · exact ⟨0, c, rfl, rfl⟩
    · obtain ⟨i, c, e1, e2⟩ := pars_at t h
      exact ⟨i + 1, c, by simpa using e1, by simpa using e2⟩
section
variable {P : Program} {w : World} {K : PySem.W.Frag} {mg : Str → Option Value} {base : Heap}
theorem fn_okO {x qual : Str} {st : Stmt} {f : Addr} {fd : FuncData} {N ps : List Str} {k : Nat} {fo : FO} (F : Fun K x qual st f fd) (S : FnScope N ps (defScope st)) (hps : ps.length ≤ N.length) (hfl : FOLen fo ps.length)
    (hbody : ∀ (cdv : Value) (A : Around) (outer : List PySem.Env) (s : Shared) (H : Hp) (E : XK), NoG A → Room k (A.deeper (PyProof.Rows.envOfC qual (defScope st) s.heap.objs.size f cdv)) →
      ∃ t, DSs (cxOf (L2.CX P w) P w K mg base N qual (defScope st) f cdv A outer s H E) (WE1 E) (defBody st) t ∧
        ∀ as q xq, fo as q xq → t { nx := fun _ => False, rt := fun _ _ => False, xq := fun e ε => xq e (outs as ε), ro := fun c ε => q c (outs as ε) } (env0 as N.length)) :
    FnG P w K mg base (L2.CX P w) (k + 1) f fd ps (spO K fo) := by
  refine FnG.of F S (fun {vs H Q E} h => ?_) fun cdv A outer s H vs Q E gd hr h => ?_
  · obtain ⟨F0, as, q, xq, S0, a, nd, hfs, _⟩ := h
    rw [a.len, hfl _ _ _ hfs]
  obtain ⟨F0, as, q, xq, S0, a, nd, hfs, hq, hx⟩ := h
  have hl := hfl _ _ _ hfs
  obtain ⟨t, ht, hv⟩ := hbody cdv A outer s H E gd hr
  have hla := a.len
  refine ⟨_, ht.pss, ⟨F0, less H (pars vs as), pnAt 0 vs as, []⟩, F0, env0 as N.length, _, start_iv S0 a nd (by omega), hv as q xq hfs, ?_⟩
  refine ⟨fun _ _ _ _ _ _ h => h.elim, fun _ _ _ _ _ _ _ _ _ h => h.elim, fun _ _ _ _ _ _ h => h.elim, fun _ _ _ _ _ _ h => h.elim,
    fun F' H' σ' ε' e cls d _ I xo h => hx F' H' e cls d _ (end_back a I) xo h, fun F' H' σ' ε' i p c _ I e1 e2 h => ?_⟩
  have eo : ownAt ε' i = some c := by unfold ownAt; rw [e1]; rfl
  obtain ⟨p', ho, g1, g2, g3, g4, g5⟩ := I.o i c eo
  rw [e2] at g1
  cases g1
  refine hq F' H' p ho c _ (end_back a I) g4 g3 ?_ g5 h
  by_cases hp : p ∈ pars vs as
  · obtain ⟨j, c', b1, b2⟩ := pars_at a hp
    obtain ⟨m1, c2, m2⟩ := I.pn _ (pnAt_mem (k := 0) a b1 b2)
    have hij : i ≠ 0 + j := fun z => by
      rw [← z, e1] at m2
      cases m2
    exact absurd m1 (I.dis i (0 + j) p hij (by rw [eo]; simp) (by unfold ownAt; rw [m2]; simp [Sl.oc]) e2)
  · have g2 : less H (pars vs as) p = none := g2
    rwa [less_out hp] at g2
end
theorem own_put {ε ε0 : Env} {i : Nat} {c : OC} (h0 : ownAt ε0 i ≠ none) (h : ∀ j, ownAt ε j ≠ none → ownAt ε0 j ≠ none) : ∀ j, ownAt (putOc ε i c) j ≠ none → ownAt ε0 j ≠ none := fun j hj => by
  by_cases e : j = i
  · rw [e]; exact h0
  · refine h j ?_
    unfold putOc ownAt at hj
    unfold ownAt
    split at hj <;> rwa [List.getElem?_set_ne (Ne.symm e)] at hj
theorem own_backs {K : PySem.W.Frag} {F H F' H' : Hp} {σ : L2.St} {ε0 : Env} {i : Nat} : ∀ {vs : List V} {os : List Opd} {as as' : List Sl} {ε : Env}, Ar K F H σ ε0 vs os as → AsBk K F' H' vs as as' → (∀ j, ownAt ε j ≠ none → ownAt ε0 j ≠ none) →
    ownAt (backs os as' ε) i ≠ none → ownAt ε0 i ≠ none
  | _, _, _, _, _, .nil, .nil, h, hi => h i (by simpa [backs] using hi)
  | _, _, _, _, _, .d (o := o) _ t, .d u, h, hi => by
    refine own_backs t u h ?_
    cases o <;> simpa only [backs] using hi
  | _, _, _, _, _, .par _ b t, .par _ _ _ u, h, hi => own_backs t u (own_put b h) (by simpa only [backs] using hi)
def dCallO (fo : FO) (t : TL) : TN := fun ε q xq => t ε (fun os ε1 => (ownsOf ε1 os).Nodup ∧ argsD ε1 os fun as => fo as (fun c as' => q c (backs os as' ε1)) fun e as' => xq e (backs os as' ε1)) xq
def dCallON (fo : FO) (t : TL) : TN := fun ε q xq => t ε (fun os ε1 => (ownsOf ε1 os).Nodup ∧ argsD ε1 os fun as => fo as (fun c as' => q c (backs os as' ε1)) fun _ _ => False) xq
section
variable {X : Cx} {W : WX} {e : Expr} {t : TL} {fo : FO}
theorem dn_callN (h : PE X e (tCall (spO X.K fo) [] E0 (LA X.K W t))) : DN X W e (dCallON fo t) := by
  refine ⟨PE.conv h fun σ H Q ⟨G, F, ε, q, xq, I, ht, hq, hx⟩ => ?_⟩
  refine ⟨G, F, ε, _, xq, I, ht, fun F1 H1 vs os ε1 s1 k1 I1 r1 ⟨nd, h1⟩ => ?_, hx⟩
  obtain ⟨as, a1, ar, h2⟩ := argsD_ar I1 r1 h1
  rw [List.append_nil]
  refine ⟨F1, as, _, _, I1.sF, a1, ar.nodup I1 nd, h2, fun F2 H2 p ho c as' b g1 g2 g3 g4 hk => ?_, fun F2 H2 ee cls dx as' b xo hk => hk.elim⟩
  obtain ⟨I2, k2⟩ := I1.back ar nd b
  refine hq F2 H2 p ho c _ (s1.trans b.s) (k1.trans k2) I2 g1 g2 ?_ (fun i hi => ?_) g4 hk
  · cases z : G.H0 p with
    | none => rfl
    | some o => rw [I1.sH p o z] at g3; cases g3
  · cases z : ownAt (backs os as' ε1) i with
    | none => rfl
    | some c2 =>
      have z2 : ownAt ε1 i ≠ none := own_backs ar b.bk (fun _ h => h) (by rw [z]; simp)
      cases z3 : ownAt ε1 i with
      | none => exact absurd z3 z2
      | some c3 =>
        obtain ⟨p', ho', m1, _, _, m4, _⟩ := I1.o i c3 z3
        rw [hi] at m1
        cases m1
        rw [g3] at m4
        cases m4
end
end Zd
namespace Zd
open PySem PySem.Spec L2 TL
structure CalO (P : Program) (w : World) (K : PySem.W.Frag) (mg : Str → Option Value) (base : Heap) (k : Nat) (x : Str) (st : Stmt) (ps : List Str) (fo : FO) (f : Addr) (fd : FuncData) : Prop where
  F : Fun K x x st f fd
  g : mg x = some (.ref f)
  b : Binds K fd ps []
  ok : FnG P w K mg base (L2.CX P w) k f fd ps (spO K fo)
section
variable {X : Cx} {W : WX} {a b c e : Expr} {A : TB} {t tk : TL} {ta tb : TN} {fo : FO} {pos : Pos} {n m : Nat} {ix : List Nat}
def nIf (A : TB) (ta tb : TN) : TN := fun ε q xq => A ε (fun b ε1 => if b = true then ta ε1 q xq else tb ε1 q xq) xq
theorem dn_if (hc : DT X W c A) (ha : DN X W a ta) (hb : DN X W b tb) : DN X W (.IfExp c a b pos) (nIf A ta tb) := by
  refine ⟨PE.conv (pe_ifExp hc.pt ha.pe hb.pe) fun σ H Q h => ?_⟩
  obtain ⟨G, F, ε, q, xq, I, ht, hq, hx⟩ := h
  refine ⟨G, F, ε, _, xq, I, ht, fun F1 H1 v ε1 s1 k1 I1 h1 => ?_, hx⟩
  have go : ∀ tx : TN, tx ε1 q xq → LN X.K W tx σ H1 Q := fun tx h => ⟨G, F1, ε1, q, xq, I1, h, fun F' H' p ho c ε' s k => hq F' H' p ho c ε' (s1.trans s) (k1.trans k), hx.mono s1⟩
  cases v with
  | true => exact go ta h1
  | false => exact go tb h1
/-- what a call of this kind tells, from its values -/
theorem on_of {fo : FO} {σ : L2.St} {H : Hp} {Q : VK} {F1 H1 : Hp} {G : Gd} {ε1 : Env} {q : OC → Env → Prop} {vs : List V} {os : List Opd} (I1 : Iv X.K G F1 H1 σ ε1) (r1 : OsOk X.K F1 σ ε1 vs os) (nd : (ownsOf ε1 os).Nodup)
    (h1 : argsD ε1 os fun as => fo as (fun c as' => q c (backs os as' ε1)) fun _ _ => False)
    (hq : ∀ F' H' p ho c ε', Same F1 F' → Kd ε1 ε' → Iv X.K G F' H' σ ε' → H' p = some ho → F' p = none → G.H0 p = none → (∀ i, σ[i]? = some (some (.ref p)) → ownAt ε' i = none) → OcOk X.K F' ho c → q c ε' → Q (.ref p) H') : spO X.K fo vs H1 Q E0 := by
  obtain ⟨as, a1, ar, h2⟩ := argsD_ar I1 r1 h1
  refine ⟨F1, as, _, _, I1.sF, a1, ar.nodup I1 nd, h2, fun F2 H2 p ho c as' b g1 g2 g3 g4 hk => ?_, fun F2 H2 ee cls dx as' b xo hk => hk.elim⟩
  obtain ⟨I2, k2⟩ := I1.back ar nd b
  refine hq F2 H2 p ho c _ b.s k2 I2 g1 g2 ?_ (fun i hi => ?_) g4 hk
  · cases z : G.H0 p with
    | none => rfl
    | some o => rw [I1.sH p o z] at g3; cases g3
  · cases z : ownAt (backs os as' ε1) i with
    | none => rfl
    | some c2 =>
      have z2 : ownAt ε1 i ≠ none := own_backs ar b.bk (fun _ h => h) (by rw [z]; simp)
      cases z3 : ownAt ε1 i with
      | none => exact absurd z3 z2
      | some c3 =>
        obtain ⟨p', ho', m1, _, _, m4, _⟩ := I1.o i c3 z3
        rw [hi] at m1
        cases m1
        rw [g3] at m4
        cases m4
theorem dn_callK (h : PE X e (tCallN n m (spO X.K fo) (gP ix) E0 (LA X.K W t) (LA X.K W tk))) : DN X W e (dCallON fo (aApp ix n m t tk)) := by
  refine ⟨PE.conv h fun σ H Q ⟨G, F, ε, q, xq, I, ht, hq, hx⟩ => ?_⟩
  refine la_app (R := fun vs H2 => spO X.K fo vs H2 Q E0) ⟨G, F, ε, _, xq, I, ht, fun F1 H1 vs os ε1 s1 k1 I1 r1 ⟨nd, h1⟩ => ?_, hx⟩
  exact on_of (H := H) I1 r1 nd h1 fun F' H' p ho c ε' s k => hq F' H' p ho c ε' (s1.trans s) (k1.trans k)
theorem dn_callK0 (h : PE X e (tCallN 0 m (spO X.K fo) (gP ix) E0 tNil (LA X.K W tk))) : DN X W e (dCallON fo (aApp ix 0 m aNil tk)) := by
  refine dn_callK (n := 0) (t := aNil) ⟨fun pins s σ H Q I q => h.run pins s σ H Q I (tnil_la (X := X) (W := W) q)⟩
end
theorem x_dCallON (fo : FO) (t : TL) (ε : Env) (q : OC → Env → Prop) (xq : XQ) : dCallON fo t ε q xq = (t ε (fun os ε1 => (ownsOf ε1 os).Nodup ∧ argsD ε1 os fun as => fo as (fun c as' => q c (backs os as' ε1)) fun _ _ => False) xq) := rfl
theorem x_nIf (A : TB) (ta tb : TN) (ε : Env) (q : OC → Env → Prop) (xq : XQ) : nIf A ta tb ε q xq = (A ε (fun b ε1 => if b = true then ta ε1 q xq else tb ε1 q xq) xq) := rfl
end Zd
namespace Zd
open PySem PySem.Spec L2 TL

/-! ### how long a shown thing is -/
mutual
def wt : D → Nat
  | .non => 0
  | .bl _ => 0
  | .int _ => 41
  | .str cs => cs.length
  | .lst xs => wts xs
  | .ro xs => wts xs
  | .tup xs => wts xs
  | .dic _ => 0
  | .obj _ _ => 0
  | .exc _ _ => 0
  | .nkd _ => 0
def wts : List D → Nat
  | [] => 0
  | x :: xs => wt x + 1 + wts xs
end
mutual
/-- small ints, plain signs -/
def smi : D → Bool
  | .non => true
  | .bl _ => true
  | .int i => decide (i.natAbs < 10 ^ 12)
  | .str cs => cs.all (· < 128)
  | .lst xs => smis xs
  | .ro xs => smis xs
  | .tup xs => smis xs
  | .dic _ => false
  | .obj _ _ => false
  | .exc _ _ => false
  | .nkd _ => false
def smis : List D → Bool
  | [] => true
  | x :: xs => smi x && smis xs
end
theorem log_small {n : Nat} (h : n < 10 ^ 12) : n.log2 < 40 := by
  by_cases h0 : n = 0
  · subst h0; decide
  · exact (Nat.log2_lt h0).mpr (Nat.lt_trans h (by decide))
mutual
theorem wt_py : ∀ x : D, smi x = true → (toPy x).weight ≤ wt x ∧ (toPy x).leavesShort 13 = true ∧ (toPy x).showable = true
  | .non, _ => ⟨Nat.le_refl _, rfl, rfl⟩
  | .bl _, _ => ⟨Nat.le_refl _, rfl, rfl⟩
  | .int i, h => by
    have h : i.natAbs < 10 ^ 12 := by simpa [smi] using h
    have hl := log_small h
    simp only [toPy, PyData.weight, PyData.leavesShort, PyData.showable, wt, decide_eq_true_eq]
    refine ⟨?_, PyData.shown_int_le h, by omega⟩
    split <;> omega
  | .str cs, h => by
    have h : ∀ c ∈ cs, c < 128 := by simpa [smi] using h
    simp only [toPy, PyData.weight, PyData.leavesShort, PyData.showable, wt]
    refine ⟨by simp, ?_, by trivial⟩
    simp only [List.all_eq_true, decide_eq_true_eq]
    intro c hc
    have := h c (by simpa using hc)
    have e : (16 : Nat) ^ 8 = 4294967296 := by decide
    omega
  | .lst xs, h => by
    have := wts_py xs (by simpa [smi] using h)
    simpa only [toPy, PyData.weight, PyData.leavesShort, PyData.showable, wt] using this
  | .ro xs, h => by
    have := wts_py xs (by simpa [smi] using h)
    simpa only [toPy, PyData.weight, PyData.leavesShort, PyData.showable, wt] using this
  | .tup xs, h => by
    have := wts_py xs (by simpa [smi] using h)
    simpa only [toPy, PyData.weight, PyData.leavesShort, PyData.showable, wt] using this
  | .dic _, h => by simp [smi] at h
  | .obj _ _, h => by simp [smi] at h
  | .exc _ _, h => by simp [smi] at h
  | .nkd _, h => by simp [smi] at h
theorem wts_py : ∀ xs : List D, smis xs = true → PyData.weightAll (toPys xs) ≤ wts xs ∧ PyData.leavesShortAll 13 (toPys xs) = true ∧ PyData.showableAll (toPys xs) = true
  | [], _ => ⟨Nat.le_refl _, rfl, rfl⟩
  | x :: xs, h => by
    have h' : smi x = true ∧ smis xs = true := by simpa [smis] using h
    obtain ⟨a1, a2, a3⟩ := wt_py x h'.1
    obtain ⟨b1, b2, b3⟩ := wts_py xs h'.2
    simp only [toPys, PyData.weightAll, PyData.leavesShortAll, PyData.showableAll, wts, a2, a3, b2, b3]
    exact ⟨by omega, by trivial, by trivial⟩
end
theorem repOk_of {x : D} (h : okD x) (hs : smi x = true) (hw : wt x ≤ 1048576) : repOk x := by
  obtain ⟨h1, h2, h3⟩ := wt_py x hs
  refine ⟨h, h3, ?_⟩
  have := PyData.shown_fits (B := 13) (by decide) (by decide) h2 (Nat.le_trans h1 (Nat.le_trans hw (by decide)))
  simpa [rep, tl, Str.length] using this
theorem smis_of {xs : List D} (h : ∀ x ∈ xs, smi x = true) : smis xs = true := by
  induction xs with
  | nil => rfl
  | cons x xs ih => simp [smis, h x List.mem_cons_self, ih fun y hy => h y (List.mem_cons_of_mem _ hy)]
theorem wts_le {xs : List D} {b : Nat} (h : ∀ x ∈ xs, wt x ≤ b) : wts xs ≤ xs.length * (b + 1) := by
  induction xs with
  | nil => simp [wts]
  | cons x xs ih =>
    have h1 := h x List.mem_cons_self
    have h2 := ih fun y hy => h y (List.mem_cons_of_mem _ hy)
    rw [wts, List.length_cons, Nat.succ_mul]
    omega
theorem clns_of {xs : List D} (h : ∀ x ∈ xs, cln x = true) : clns xs = true := by
  induction xs with
  | nil => rfl
  | cons x xs ih => simp [clns, h x List.mem_cons_self, ih fun y hy => h y (List.mem_cons_of_mem _ hy)]
theorem deps_of {xs : List D} {b : Nat} (h : ∀ x ∈ xs, dep x ≤ b) : deps xs ≤ b := by
  induction xs with
  | nil => simp [deps]
  | cons x xs ih =>
    have h1 := h x List.mem_cons_self
    have h2 := ih fun y hy => h y (List.mem_cons_of_mem _ hy)
    simp [deps]
    omega
theorem repOk_bl (b : Bool) : repOk (.bl b) := repOk_of (by simp [okD, cln, dep]) rfl (by simp [wt])
theorem repOk_int {i : Int} (h : i.natAbs < 10 ^ 12) : repOk (.int i) := repOk_of (by simp [okD, cln, dep]) (by simpa [smi] using h) (by simp [wt])
theorem repOk_str {cs : List Nat} (h : Asc cs) (hl : cs.length ≤ 1000000) : repOk (.str cs) := repOk_of (by simp [okD, cln, dep]) (by simp only [smi, List.all_eq_true, decide_eq_true_eq]; exact h) (by simp [wt]; omega)
theorem repOk_non : repOk .non := repOk_of (by simp [okD, cln, dep]) rfl (by simp [wt])
end Zd
namespace Zd
open PySem PySem.Spec L2 TL

/-! ### a comprehension with two fors -/
def lc2D (vs vs1 : List Nat) (g : TGd) (A : TB) (ti1 : TId) (g1 : TGd) (A1 : TB) (te : TD) : List D → List D → Env → (List D → Env → Prop) → Prop
  | [], acc, ε, k => k acc ε
  | x :: xs, acc, ε, k => noOwn ε vs ∧ g x (wipeE ε vs) fun η1 => A η1 (fun b η2 =>
      if b = true then ti1 η2 (fun ys η3 => lcD vs1 g1 A1 te ys acc η3 fun acc' η4 => lc2D vs vs1 g A ti1 g1 A1 te xs acc' (unw ε η4 vs) k) xNo
      else lc2D vs vs1 g A ti1 g1 A1 te xs acc (unw ε η2 vs) k) xNo
def nLc2 (ti : TId) (vs vs1 : List Nat) (g : TGd) (A : TB) (ti1 : TId) (g1 : TGd) (A1 : TB) (te : TD) : TN := fun ε q xq => ti ε (fun xs ε1 => lc2D vs vs1 g A ti1 g1 A1 te xs [] ε1 fun acc ε2 => q (.lst acc) ε2) xq
theorem gs_in {K : PySem.W.Frag} {i : Nat} {vs : List Nat} (h : i ∈ vs := by decide) : GSnd K (gName i) (gN i) vs := fun G F H σ ε v x k Q I r ⟨np, hk⟩ hQ => hQ _ _ (I.setd np r) (wipe_set σ i _ vs h) hk
theorem gkd_in {i : Nat} {vs : List Nat} (h : i ∈ vs := by decide) : GKd (gN i) vs := fun x ε k ⟨h1, h2⟩ => ⟨h1, h2, by simp, fun j hj => dat_set_ne (fun z => hj (by rw [z]; exact h))⟩
theorem lc2_of {K : PySem.W.Frag} {W : WX} {ti ti1 : TId} {r r1 : TG} {g g1 : TGd} {vs vs1 : List Nat} {A A1 : TB} {te : TD} (snd : GSnd K r g vs) (gk : GKd g vs) (snd1 : GSnd K r1 g1 vs1) (gk1 : GKd g1 vs1) (hv : ∀ i ∈ vs1, i ∈ vs) (σ : L2.St) (H : Hp) (Q : VK) :
    LN K W (nLc2 ti vs vs1 g A ti1 g1 A1 te) σ H Q → tLc2 (LI K W ti) r (LT K WNo A) (LI K WNo ti1) r1 (LT K WNo A1) (LE K WNo te) vs vs1 σ H Q := fun ⟨G, F, ε, q, xq, I, ht, hq, hx⟩ => by
  refine ⟨G, F, ε, _, xq, I, ht, fun F1 H1 J xs ε1 s1 k1 I1 it h1 => ?_, hx⟩
  intro Dl hD
  obtain ⟨J1, e1, e2, e3⟩ := I1.laid (ho := .lst []) hD
  refine ⟨fun i m H' => ∃ F' ε' accV acc, Same F1 F' ∧ Kd ε1 ε' ∧ Iv K (G.plus Dl (.lst accV)) F' H' σ ε' ∧ H' Dl = some (.lst accV) ∧ F' Dl = none ∧ RpL K F' accV acc ∧ m = xs.length - i ∧ i ≤ xs.length ∧ lc2D vs vs1 g A ti1 g1 A1 te (xs.drop i) acc ε' fun acc ε2 => q (.lst acc) ε2,
    ⟨xs.length, F1, ε1, [], [], .refl _, .refl _, J1.plus upd_same e1 e3, upd_same, e1, .nil, by omega, Nat.zero_le _, by simpa using h1⟩, ?_⟩
  rintro i m H' ⟨F', ε', accV, acc, s', k', I', hDl, fDl, ra, em, hi, hl⟩
  obtain ⟨go, stop⟩ := it F' H' s' I'.sF
  by_cases hlt : i < xs.length
  · have ex : xs[i]? = some xs[i] := List.getElem?_eq_getElem hlt
    obtain ⟨hgo, hy⟩ := go i _ ex
    rw [List.drop_eq_getElem_cons hlt] at hl
    obtain ⟨hno, hl⟩ := hl
    refine .inr ⟨hgo, fun H'' => ∃ F'' ε'' accV' acc', Same F1 F'' ∧ Kd ε1 ε'' ∧ Iv K (G.plus Dl (.lst accV')) F'' H'' σ ε'' ∧ H'' Dl = some (.lst accV') ∧ F'' Dl = none ∧ RpL K F'' accV' acc' ∧ lc2D vs vs1 g A ti1 g1 A1 te (xs.drop (i + 1)) acc' ε'' fun acc ε2 => q (.lst acc) ε2,
      fun H'' ⟨F'', ε'', accV', acc', b1, b2, b3, b4, b5, b6, b7⟩ => ⟨xs.length - (i + 1), by omega, F'', ε'', accV', acc', b1, b2, b3, b4, b5, b6, rfl, hlt, b7⟩, fun v H2 y => ?_⟩
    obtain ⟨F2, al, rv⟩ := hy v H2 y
    have I2 := I'.al al
    have f0 : G.F0 Dl = none := Same.free I'.s0 fDl
    have h0 : ∀ a : List V, (G.plus Dl (.lst a)).H0 Dl ≠ none := fun a => by rw [show (G.plus Dl (.lst a)).H0 Dl = some (.lst a) from upd_same]; simp
    refine snd _ F2 H2 _ _ v _ _ _ (I2.wipe hno) rv (gk _ _ _ hl) fun σ3 η1 I3 w3 ⟨h3, l3, d3⟩ => ?_
    refine ⟨w3.trans (wipe_idem σ vs), ?_⟩
    refine ⟨_, F2, η1, _, xNo, I3, h3, fun F4 H4 b η2 s4 k4 I4 h4 => ?_, x1No⟩
    have dk : ∀ i, i ∉ vs → datAt ε' i ≠ none → datAt η2 i ≠ none := fun j hj hd => k4 j (by rw [d3 j hj, wipeE_dat hj]; exact hd)
    have len2 : η2.length = ε'.length := by rw [← I4.len, I3.len, l3, wipeE_len]
    cases b with
    | false =>
      refine ⟨F4, _, accV, acc, (s'.trans al.sF).trans s4, k'.trans (unw_kd len2 dk), Iv.unw I2 I4 s4 w3 hno rfl, I4.sH _ _ upd_same, I4.fr _ f0 (h0 _), ra.mono (al.sF.trans s4), h4⟩
    | true =>
      refine ⟨_, F4, η2, _, xNo, I4, h4, fun F5 H5 J5 ys η3 s5 k5 I5 it5 h5 => ?_, x1No⟩
      refine ⟨fun j k Hj => ∃ F' η' accV' acc', Same F5 F' ∧ Kd η3 η' ∧ Iv K (G.plus Dl (.lst accV')) F' Hj σ3 η' ∧ Hj Dl = some (.lst accV') ∧ F' Dl = none ∧ RpL K F' accV' acc' ∧ k = ys.length - j ∧ j ≤ ys.length ∧ lcD vs1 g1 A1 te (ys.drop j) acc' η' fun acc' η4 => lc2D vs vs1 g A ti1 g1 A1 te (xs.drop (i + 1)) acc' (unw ε' η4 vs) fun acc ε2 => q (.lst acc) ε2,
        ⟨ys.length, F5, η3, accV, acc, .refl _, .refl _, I5, I5.sH _ _ upd_same, I5.fr _ f0 (h0 _), ra.mono (al.sF.trans (s4.trans s5)), by omega, Nat.zero_le _, by simpa using h5⟩, ?_⟩
      rintro j kk Hj ⟨Fj, ηj, accVj, accj, sj, kj, Ij, hDlj, fDlj, raj, emj, hij, hlj⟩
      obtain ⟨go5, stop5⟩ := it5 Fj Hj sj Ij.sF
      by_cases hltj : j < ys.length
      · have exj : ys[j]? = some ys[j] := List.getElem?_eq_getElem hltj
        obtain ⟨hgo5, hy5⟩ := go5 j _ exj
        rw [List.drop_eq_getElem_cons hltj] at hlj
        obtain ⟨hnoj, hlj⟩ := hlj
        refine .inr ⟨hgo5, fun H'' => ∃ F'' η'' accV' acc', Same F5 F'' ∧ Kd η3 η'' ∧ Iv K (G.plus Dl (.lst accV')) F'' H'' σ3 η'' ∧ H'' Dl = some (.lst accV') ∧ F'' Dl = none ∧ RpL K F'' accV' acc' ∧ lcD vs1 g1 A1 te (ys.drop (j + 1)) acc' η'' fun acc' η4 => lc2D vs vs1 g A ti1 g1 A1 te (xs.drop (i + 1)) acc' (unw ε' η4 vs) fun acc ε2 => q (.lst acc) ε2,
          fun H'' ⟨F'', η'', accV', acc', b1, b2, b3, b4, b5, b6, b7⟩ => ⟨ys.length - (j + 1), by omega, F'', η'', accV', acc', b1, b2, b3, b4, b5, b6, rfl, hltj, b7⟩, fun v6 H6 y6 => ?_⟩
        obtain ⟨F6, al6, rv6⟩ := hy5 v6 H6 y6
        have I6 := Ij.al al6
        refine snd1 _ F6 H6 _ _ v6 _ _ _ (I6.wipe hnoj) rv6 (gk1 _ _ _ hlj) fun σ7 η7 I7 w7 ⟨h7, l7, d7⟩ => ?_
        refine ⟨w7.trans (wipe_idem σ3 vs1), ?_⟩
        refine ⟨_, F6, η7, _, xNo, I7, h7, fun F8 H8 b8 η8 s8 k8 I8 h8 => ?_, x1No⟩
        have dk8 : ∀ i, i ∉ vs1 → datAt ηj i ≠ none → datAt η8 i ≠ none := fun j hj hd => k8 j (by rw [d7 j hj, wipeE_dat hj]; exact hd)
        have len8 : η8.length = ηj.length := by rw [← I8.len, I7.len, l7, wipeE_len]
        cases b8 with
        | false =>
          exact ⟨F8, _, accVj, accj, (sj.trans al6.sF).trans s8, kj.trans (unw_kd len8 dk8), Iv.unw I6 I8 s8 w7 hnoj rfl, I8.sH _ _ upd_same, I8.fr _ f0 (h0 _), raj.mono (al6.sF.trans s8), h8⟩
        | true =>
          refine ⟨_, F8, η8, _, xNo, I8, h8, fun F9 H9 w9 o9 η9 s9 k9 I9 r9 h9 => ?_, x1No⟩
          obtain ⟨FA, yA, ηA, sA, kA, IA, rA, hzA, hA⟩ := fz_of I9 r9.w h9
          refine ⟨accVj, IA.sH _ _ upd_same, by rw [raj.length]; exact hzA, ?_⟩
          have fA : FA Dl = none := IA.fr _ f0 (h0 _)
          have lenA : ηA.length = ηj.length := by rw [← IA.len, I7.len, l7, wipeE_len]
          exact ⟨FA, _, accVj ++ [w9], accj ++ [yA], ((sj.trans al6.sF).trans s8).trans (s9.trans sA), kj.trans (unw_kd lenA fun j hj hd => kA j (k9 j (dk8 j hj hd))), (Iv.unw I6 IA (s8.trans (s9.trans sA)) w7 hnoj rfl).bump fA, upd_same, fA,
            (raj.mono (al6.sF.trans (s8.trans (s9.trans sA)))).append (.cons rA .nil), hA⟩
      · have e : j = ys.length := by omega
        subst e
        rw [List.drop_length] at hlj
        have lenJ : ηj.length = ε'.length := by rw [← Ij.len, I3.len, l3, wipeE_len]
        refine .inl ⟨stop5, Fj, _, accVj, accj, ((s'.trans al.sF).trans s4).trans (s5.trans sj), k'.trans (unw_kd lenJ fun j hj hd => kj j (k5 j (dk j hj hd))), ?_, hDlj, fDlj, raj, hlj⟩
        exact Iv.unw I2 Ij (s4.trans (s5.trans sj)) w3 hno rfl
  · have e : i = xs.length := by omega
    subst e
    rw [List.drop_length] at hl
    obtain ⟨I7, e7⟩ := I'.minus e2
    exact .inl ⟨stop, hq F' H' Dl _ (.lst acc) ε' (s1.trans s') (k1.trans k') I7 hDl fDl e2 e7 ra hl⟩
end Zd
namespace Zd
open PySem PySem.Spec L2 TL
section
variable {X : Cx} {W : WX} {elt tg iter tg1 iter1 : Expr} {ti ti1 : TId} {te : TD} {g g1 : TGd} {A A1 : TB} {ifs ifs1 : List Expr} {scope : Scope} {own : List (Str × Nat)} {vs0 vs1 : List Nat} {r r1 : TG} {pos : Pos}
theorem dn_lc2 (hc : X.calm = true) (hN : X.N.Nodup) (hi : DI X W tg iter ti) (ok : BlkOk X.N X.env.scope scope own) (hv : ∀ i ∈ vs1, i ∈ own.map (·.2))
    (hg : ∀ (s : Shared) (H : Hp) (C : Addr) (cl : List (Str × Addr)) (fp : List Addr), DG (X.blk s H scope (compEnvC scope cl C X.env) fp) tg r g vs0) (gk : GKd g (own.map (·.2)))
    (ht : ∀ (s : Shared) (H : Hp) (C : Addr) (cl : List (Str × Addr)) (fp : List Addr), DTs (X.blk s H scope (compEnvC scope cl C X.env) fp) WNo ifs A)
    (hi1 : ∀ (s : Shared) (H : Hp) (C : Addr) (cl : List (Str × Addr)) (fp : List Addr), DI (X.blk s H scope (compEnvC scope cl C X.env) fp) WNo tg1 iter1 ti1)
    (hg1 : ∀ (s : Shared) (H : Hp) (C : Addr) (cl : List (Str × Addr)) (fp : List Addr), DG (X.blk s H scope (compEnvC scope cl C X.env) fp) tg1 r1 g1 vs1) (gk1 : GKd g1 vs1)
    (ht1 : ∀ (s : Shared) (H : Hp) (C : Addr) (cl : List (Str × Addr)) (fp : List Addr), DTs (X.blk s H scope (compEnvC scope cl C X.env) fp) WNo ifs1 A1)
    (he : ∀ (s : Shared) (H : Hp) (C : Addr) (cl : List (Str × Addr)) (fp : List Addr), DE (X.blk s H scope (compEnvC scope cl C X.env) fp) WNo elt te) (snd : GSnd X.K r g (own.map (·.2))) (snd1 : GSnd X.K r1 g1 vs1)
    (hs : ∀ x, foldedSetIterable iter X.env x = pure x := by intro _; rfl) (hs1 : ∀ env x, foldedSetIterable iter1 env x = pure x := by intro _ _; rfl) :
    DN X W (.ListComp elt [⟨tg, iter, ifs, 0⟩, ⟨tg1, iter1, ifs1, 0⟩] scope pos) (nLc2 ti (own.map (·.2)) vs1 g A ti1 g1 A1 te) :=
  ⟨PE.conv (pe_lc2 (g := r) (g1 := r1) (tt := LT X.K WNo A) (tt1 := LT X.K WNo A1) (te := LE X.K WNo te) hc hN hi.pi ok hv (fun s H C cl fp => (hg s H C cl fp).pg) (fun s H C cl fp => (ht s H C cl fp).pts) (fun s H C cl fp => (hi1 s H C cl fp).pi) (fun s H C cl fp => (hg1 s H C cl fp).pg) (fun s H C cl fp => (ht1 s H C cl fp).pts) (fun s H C cl fp => (he s H C cl fp).pe) hs hs1) (lc2_of snd gk snd1 gk1 hv)⟩
end
end Zd
namespace Zd
open PySem PySem.Spec L2 TL

/-! ### a def that calls itself: a contract for each rank -/
def pr (f : Nat → FS) : Nat → FS
  | 0 => fun _ _ _ => False
  | n + 1 => f n
theorem bot_ok {P : Program} {w : World} {K : PySem.W.Frag} {mg : Str → Option Value} {base : Heap} {CX : CXT} {k : Nat} {f : Addr} {fd : FuncData} {ps : List Str} : FnG P w K mg base CX k f fd ps (spOf K fun _ _ _ => False) :=
  ⟨fun {_ _ _ _} ⟨_, _, _, _, _, _, _, z, _⟩ => z.elim, fun {_ _ _ _ _ _ _ _ _} _ _ _ _ _ ⟨_, _, _, _, _, _, _, z, _⟩ => z.elim⟩

/-! ### dict(list of pairs), list(dict) -/
def putD (kvs : List (KD × D)) (k : KD) (v : D) : List (KD × D) :=
  if (kvs.any fun kv => decide (kv.1 = k)) = true then kvs.map (fun kv => if kv.1 = k then (kv.1, v) else kv) else kvs ++ [(k, v)]
def mergeD (kvs more : List (KD × D)) : List (KD × D) := more.foldl (fun acc kv => putD acc kv.1 kv.2) kvs
theorem kd_inj {a b : KD} : a.k = b.k ↔ a = b := by
  constructor
  · intro h
    cases a <;> cases b <;> simp [KD.k] at h
    · rw [h]
    · rw [h]
  · intro h; rw [h]
section
variable {K : PySem.W.Frag} {F : Hp}
theorem RpD.append : ∀ {vs ws : List (Key × V)} {xs ys : List (KD × D)}, RpD K F vs xs → RpD K F ws ys → RpD K F (vs ++ ws) (xs ++ ys)
  | _, _, _, _, .nil, h => h
  | _, _, _, _, .cons h t, h2 => .cons h (RpD.append t h2)
theorem RpD.anyk {k : KD} : ∀ {vs : List (Key × V)} {xs : List (KD × D)}, RpD K F vs xs → (vs.any fun kv => decide (kv.1 = k.k)) = (xs.any fun kv => decide (kv.1 = k))
  | _, _, .nil => rfl
  | _, _, .cons (k := k2) h t => by
    have e : decide (k2.k = k.k) = decide (k2 = k) := by simp [kd_inj]
    simp only [List.any_cons, RpD.anyk t, e]
theorem RpD.put1 {k : KD} {v : V} {x : D} (r : Rp K F v x) : ∀ {vs : List (Key × V)} {xs : List (KD × D)}, RpD K F vs xs → RpD K F (vs.map fun kv => if kv.1 = k.k then (kv.1, v) else kv) (xs.map fun kv => if kv.1 = k then (kv.1, x) else kv)
  | _, _, .nil => .nil
  | _, _, .cons (k := k2) h t => by
    simp only [List.map_cons]
    by_cases e : k2 = k
    · rw [if_pos (kd_inj.mpr e), if_pos e]
      exact .cons r (RpD.put1 r t)
    · rw [if_neg (fun z => e (kd_inj.mp z)), if_neg e]
      exact .cons h (RpD.put1 r t)
theorem RpD.put {k : KD} {v : V} {x : D} (r : Rp K F v x) {vs : List (Key × V)} {xs : List (KD × D)} (h : RpD K F vs xs) : RpD K F (putK vs k.k v) (putD xs k x) := by
  unfold putK putD
  rw [h.anyk]
  split
  · exact h.put1 r
  · exact h.append (.cons r .nil)
theorem RpD.mergeD : ∀ {ws : List (Key × V)} {ys : List (KD × D)} {vs : List (Key × V)} {xs : List (KD × D)}, RpD K F ws ys → RpD K F vs xs → RpD K F (mergeK vs ws) (Zd.mergeD xs ys)
  | _, _, _, _, .nil, h => h
  | _, _, vs, xs, @RpD.cons _ _ k v x ws ys r t, h => show RpD K F (mergeK (putK vs k.k v) ws) (Zd.mergeD (putD xs k x) ys) from RpD.mergeD t (h.put r)
def pairsOf : List D → Option (List (KD × D))
  | [] => some []
  | x :: xs => match x, pairsOf xs with
    | .tup [.str c, y], some r => some ((.s c, y) :: r)
    | .tup [.int i, y], some r => some ((.i i, y) :: r)
    | _, _ => none
theorem pairs_of {H : Hp} (S : Same F H) : ∀ {vs : List V} {xs : List D} {kvs : List (KD × D)}, RpL K F vs xs → pairsOf xs = some kvs →
    ∃ (ps : List Addr) (ks : List (Key × V)), vs = ps.map V.ref ∧ PySem.Paired (fun p kv => SqT K H p [kV kv.1, kv.2]) ps ks ∧ RpD K F ks kvs
  | _, _, _, .nil, e => by
    cases e
    exact ⟨[], [], rfl, .nil, .nil⟩
  | _, _, _, .cons r t, e => by
    unfold pairsOf at e
    split at e
    · rename_i c y rr er
      cases e
      obtain ⟨ps, ks, e1, e2, e3⟩ := pairs_of S t er
      cases r with
      | tup ta rl =>
        cases rl with
        | cons r1 rl =>
          cases rl with
          | cons r2 rl =>
            cases rl
            cases r1
            exact ⟨_ :: ps, _ :: ks, by rw [e1]; rfl, .cons (sqT_mono S ta.sq) e2, .cons (k := .s c) r2 e3⟩
    · rename_i i y rr er
      cases e
      obtain ⟨ps, ks, e1, e2, e3⟩ := pairs_of S t er
      cases r with
      | tup ta rl =>
        cases rl with
        | cons r1 rl =>
          cases rl with
          | cons r2 rl =>
            cases rl
            cases r1
            exact ⟨_ :: ps, _ :: ks, by rw [e1]; rfl, .cons (sqT_mono S ta.sq) e2, .cons (k := .i i) r2 e3⟩
    · cases e
end
def fDict (x : D) (q : D → Prop) : Prop := match x with
  | .lst xs => match pairsOf xs with
    | some kvs => q (.dic (mergeD [] kvs))
    | none => False
  | _ => False
def keyD : KD → D
  | .i n => .int n
  | .s c => .str c
def KD.plain : KD → Prop
  | .i _ => True
  | .s c => Asc c
def fListK (x : D) (q : D → Prop) : Prop := match x with
  | .dic kvs => (∀ kv ∈ kvs, kv.1.plain) ∧ q (.lst (kvs.map fun kv => keyD kv.1))
  | _ => False
theorem keys_rp {K : PySem.W.Frag} {F : Hp} : ∀ {vs : List (Key × V)} {xs : List (KD × D)}, RpD K F vs xs → (∀ kv ∈ xs, kv.1.plain) → RpL K F (vs.map fun kv => kV kv.1) (xs.map fun kv => keyD kv.1)
  | _, _, .nil, _ => .nil
  | _, _, .cons (k := k) r t, h => by
    have h1 := h _ List.mem_cons_self
    refine .cons ?_ (keys_rp t fun kv hkv => h kv (List.mem_cons_of_mem _ hkv))
    cases k with
    | i n => exact .int n
    | s c => exact .str c h1
section
variable {X : Cx}
def dictR (hc : X.calm = true) : DC X (.type "dict") (d1 fDict) where
  r := _
  h := call_dictP hc
  hr := fun F H vs xs q Q S rs hd hQ => by
    obtain ⟨x, rfl, hd⟩ := d1_ hd
    obtain ⟨v, rfl, rx⟩ := rs.one
    cases x with
    | lst xs =>
      obtain ⟨p, vs, e, hp, r⟩ := rx.lst_ S
      have hd : (match pairsOf xs with | some kvs => q (.dic (mergeD [] kvs)) | none => False) := hd
      cases ep : pairsOf xs with
      | none => rw [ep] at hd; exact hd.elim
      | some kvs =>
        rw [ep] at hd
        obtain ⟨ps, ks, e1, e2, e3⟩ := pairs_of S r ep
        subst e1
        refine ⟨p, ps, ks, by rw [e], .of hp, e2, fun a ha => ?_⟩
        have A := AL.new (o := .dK (mergeK [] ks)) S ha
        exact hQ _ _ _ _ A (.dic upd_same ((RpD.mergeD e3 .nil).mono A.sF)) hd
    | _ => exact hd.elim
def listKR (hc : X.calm = true) : DC X (.type "list") (d1 fListK) where
  r := _
  h := call_listD hc
  hr := fun F H vs xs q Q S rs hd hQ => by
    obtain ⟨x, rfl, hd⟩ := d1_ hd
    obtain ⟨v, rfl, rx⟩ := rs.one
    cases x with
    | dic kvs =>
      obtain ⟨p, vs, e, hp, r⟩ := rx.dic_ S
      obtain ⟨h1, h2⟩ := hd
      refine ⟨p, vs, by rw [e], .inl hp, fun a ha => ?_⟩
      have A := AL.new (o := .lst (vs.map fun kv => kV kv.1)) S ha
      exact hQ _ _ _ _ A (.lst upd_same (keys_rp (r.mono A.sF) h1)) h2
    | _ => exact hd.elim
end
/-! ### str(number) -/
def fStr (x : D) (q : D → Prop) : Prop := match x with
  | .int i => 0 ≤ i ∧ i < 1000000000000 ∧ q (.str (numL i.toNat))
  | _ => False
section
variable {X : Cx}
def strR : DC X (.type "str") (d1 fStr) where
  r := _
  h := call_str_int
  hr := fun F H vs xs q Q S rs hd hQ => by
    obtain ⟨x, rfl, hd⟩ := d1_ hd
    obtain ⟨v, rfl, rx⟩ := rs.one
    cases x with
    | int i =>
      obtain ⟨h1, h2, h3⟩ := hd
      have hl := log_small (show i.natAbs < 10 ^ 12 by omega)
      refine ⟨i, by rw [rx.int_], by omega, ?_⟩
      have e : ((toString i : String) : Str) = mk (numL i.toNat) := by
        have := tl_num i.toNat
        rw [show ((i.toNat : Nat) : Int) = i by omega] at this
        rw [← this]
      rw [e]
      exact hQ F H _ _ (al_id S) (.str _ (asc_num _)) h3
    | _ => exact hd.elim
end
theorem bt_dict : bootBuiltins "dict" = some (.type "dict") := PyProof.Rows.boot_dict
end Zd
namespace Zd
open PySem PySem.Spec L2 TL
section
variable {ti ti1 : TId} {vs vs1 : List Nat} {g g1 : TGd} {A A1 : TB} {te : TD} {ε : Env} {q : OC → Env → Prop} {xq : XQ} {N : Nat}
theorem x_nLc2 : nLc2 ti vs vs1 g A ti1 g1 A1 te ε q xq = ti ε (fun xs ε1 => lc2D vs vs1 g A ti1 g1 A1 te xs [] ε1 fun acc ε2 => q (.lst acc) ε2) xq := rfl
theorem lc_from {α : Type} {φ : α → D} {k : List D → Env → Prop} (f : α → List D) : ∀ (ys : List α) (acc0 : List D), k (acc0 ++ ys.flatMap f) ε → acc0.length + (ys.flatMap f).length ≤ N →
    (∀ y acc (K : List D → Env → Prop), y ∈ ys → acc.length + (f y).length ≤ N → K (acc ++ f y) ε → noOwn ε vs ∧ g (φ y) (wipeE ε vs) fun η1 => A η1 (fun b η2 =>
      if b = true then te η2 (fun o η3 => fz η3 o fun y η4 => acc.length < sizeLine ∧ K (acc ++ [y]) (unw ε η4 vs)) xNo
      else K acc (unw ε η2 vs)) xNo) → lcD vs g A te (ys.map φ) acc0 ε k
  | [], acc0, h, _, _ => by
    have h : k (acc0 ++ []) ε := h
    rw [List.append_nil] at h
    exact h
  | y :: ys, acc0, h, hl, hs => by
    rw [List.flatMap_cons, ← List.append_assoc] at h
    rw [List.flatMap_cons, List.length_append] at hl
    exact hs y acc0 (fun acc ε' => lcD vs g A te (ys.map φ) acc ε' k) List.mem_cons_self (by omega)
      (lc_from f ys (acc0 ++ f y) h (by rw [List.length_append]; omega) fun z acc K hz => hs z acc K (List.mem_cons_of_mem _ hz))
theorem lc2_from {α : Type} {φ : α → D} {k : List D → Env → Prop} (f : α → List D) : ∀ (ys : List α) (acc0 : List D), k (acc0 ++ ys.flatMap f) ε → acc0.length + (ys.flatMap f).length ≤ N →
    (∀ y acc (K : List D → Env → Prop), y ∈ ys → acc.length + (f y).length ≤ N → K (acc ++ f y) ε → noOwn ε vs ∧ g (φ y) (wipeE ε vs) fun η1 => A η1 (fun b η2 =>
      if b = true then ti1 η2 (fun zs η3 => lcD vs1 g1 A1 te zs acc η3 fun acc' η4 => K acc' (unw ε η4 vs)) xNo
      else K acc (unw ε η2 vs)) xNo) → lc2D vs vs1 g A ti1 g1 A1 te (ys.map φ) acc0 ε k
  | [], acc0, h, _, _ => by
    have h : k (acc0 ++ []) ε := h
    rw [List.append_nil] at h
    exact h
  | y :: ys, acc0, h, hl, hs => by
    rw [List.flatMap_cons, ← List.append_assoc] at h
    rw [List.flatMap_cons, List.length_append] at hl
    exact hs y acc0 (fun acc ε' => lc2D vs vs1 g A ti1 g1 A1 te (ys.map φ) acc ε' k) List.mem_cons_self (by omega)
      (lc2_from f ys (acc0 ++ f y) h (by rw [List.length_append]; omega) fun z acc K hz => hs z acc K (List.mem_cons_of_mem _ hz))
end
theorem noOwn_2 {ε : Env} {i j : Nat} : noOwn ε [i, j] = (ownAt ε i = none ∧ ownAt ε j = none) := by simp [noOwn]
end Zd
namespace Zd
open PySem PySem.Spec L2 TL
/-- a loop over things that are told of ys, by what holds behind so many -/
theorem for_map {α : Type} {φ : α → D} {g : TGd} {t : TSd} {Dn : DEnds} (I : List α → Env → Prop) (ys : List α) {ε : Env} (h : I [] ε) (hn : ∀ ε, I ys ε → Dn.nx ε)
    (hs : ∀ pre y post ε (K : Env → Prop), ys = pre ++ y :: post → I pre ε → (∀ ε', I (pre ++ [y]) ε' → K ε') → g (φ y) ε fun ε1 => t { Dn with nx := K, ct := K, bk := Dn.nx } ε1) : forD g t (ys.map φ) Dn ε := by
  have : ∀ post pre ε, ys = pre ++ post → I pre ε → forD g t (post.map φ) Dn ε := by
    intro post
    induction post with
    | nil => intro pre ε e hI; exact hn ε (by rw [e, List.append_nil]; exact hI)
    | cons x post ih => intro pre ε e hI; exact hs pre x post ε _ e hI fun ε' h' => ih (pre ++ [x]) ε' (by rw [e]; simp) h'
  exact this ys [] ε rfl h
end Zd
namespace Zd
open PySem PySem.Spec L2 TL
theorem while_ind {A : TB} {t : TSd} {Dn : DEnds} {ε : Env} (I : Nat → Env → Prop) (m : Nat) (h : I m ε)
    (hs : ∀ m ε (K : Env → Prop), I m ε → (∀ m' ε', m' < m → I m' ε' → K ε') → A ε (fun b ε1 => if b = true then t { Dn with nx := K, ct := K, bk := Dn.nx } ε1 else Dn.nx ε1) Dn.xq) : sWhile A t Dn ε := by
  have : ∀ n m ε, m < n → I m ε → whileD A t n Dn ε := by
    intro n
    induction n with
    | zero => intro m ε hm; exact absurd hm (Nat.not_lt_zero _)
    | succ n ih => intro m ε hm hI; exact hs m ε (fun ε2 => whileD A t n Dn ε2) hI fun m' ε' hlt hI' => ih m' ε' (by omega) hI'
  exact ⟨m + 1, this _ _ _ (Nat.lt_succ_self m) h⟩
end Zd
namespace Zd
open PySem PySem.Spec L2 TL

/-! ### a dict of the module, of texts to tuples of texts -/
structure KTb (K : PySem.W.Frag) (w : World) (p : Addr) (tbl : List (List Nat × List (List Nat))) : Prop where
  go : ∀ c ws, tbl.lookup c = some ws → ∃ a, KDct K w p (mk c) (.ref a) ∧ SqT K (fun _ => none) a ((ws.map mk).map V.str) ∧ ∀ x ∈ ws, Asc x
theorem KTb.nil {K : PySem.W.Frag} {w : World} {p : Addr} : KTb K w p [] := ⟨fun _ _ h => by cases h⟩
theorem KTb.cons {K : PySem.W.Frag} {w : World} {p a : Addr} {k : List Nat} {x : Str} {ws : List (List Nat)} {tbl : List (List Nat × List (List Nat))} {es : Array DictEntry} {n m : Nat} {dd : Option Addr} {its : Array Value} {sl : Array (Option Value)}
    (hx : x = Zd.mk k) (hl : K.lookup p = some ⟨.type "dict", none, .dict es n, #[]⟩) (hk : PySem.W.KeysLit w.params es.toList) (e : PySem.W.nsIn K p x = some (some (.ref a)))
    (t : K.lookup a = some ⟨.type "tuple", dd, .seq its m, sl⟩) (u : Vals ((ws.map Zd.mk).map V.str) its.toList) (hz : ws.length ≤ 1000) (ha : ∀ x ∈ ws, Asc x) (T : KTb K w p tbl) : KTb K w p ((k, ws) :: tbl) := by
  refine ⟨fun c vs h => ?_⟩
  rw [List.lookup_cons] at h
  split at h
  · rename_i hc
    have hc : c = k := by simpa using hc
    subst hc
    cases h
    refine ⟨a, ⟨es, n, _, hl, hk, by rw [← hx]; exact e, rfl⟩, .inr ⟨_, its, m, t, rfl, rfl, ?_, u⟩, ha⟩
    have := u.length
    simp at this
    exact Nat.le_trans (show its.size ≤ 1000 by omega) (by decide)
  · exact T.go c vs h
def kdAt (tbl : List (List Nat × List (List Nat))) (x : D) (q : D → Prop) : Prop := match x with
  | .str c => match tbl.lookup c with
    | some ws => q (.tup (ws.map D.str))
    | none => False
  | _ => False
def dKd (tbl : List (List Nat × List (List Nat))) (tb : TD) : TD := fun ε q xq => tb ε (fun o ε1 => kdAt tbl (o.get ε1) fun z => q (.d z) ε1) xq
section
variable {X : Cx} {W : WX} {b : Expr} {tb : TD} {pos : Pos}
theorem x_dKd {tbl : List (List Nat × List (List Nat))} {ε : Env} {q : OQ} {xq : XQ} : dKd tbl tb ε q xq = tb ε (fun o ε1 => kdAt tbl (o.get ε1) fun z => q (.d z) ε1) xq := rfl
theorem de_kd {x : Str} {pn : Pos} {p : Addr} {tbl : List (List Nat × List (List Nat))} (h : X.mg x = some (.ref p) ∧ KTb X.K X.w p tbl) (hg : Gl X x) (hb : DE X W b tb) (hs : PlainIx b := by exact fun _ _ => rfl) (hd : (x == ("__debug__" : Str)) = false := by decide) :
    DE X W (.Subscript (.Name x pn) b pos) (dKd tbl tb) := by
  refine ⟨PE.conv (pe_ix ix_kdict (pe_glob (v := .ref p) hg h.1 rfl hd) hb.pe hs) fun σ H Q ⟨G, F, ε, q, xq, I, ht, hq, hx⟩ => ?_⟩
  refine ⟨G, F, ε, _, xq, I, ht, fun F1 H1 v o ε1 s1 k1 I1 r1 h1 => ?_, hx⟩
  have rb := r1.b I1
  generalize o.get ε1 = y at rb h1
  cases y with
  | str c =>
    have h1 : (match tbl.lookup c with | some ws => q (.d (.tup (ws.map D.str))) ε1 | none => False) := h1
    cases e : tbl.lookup c with
    | none => rw [e] at h1; exact h1.elim
    | some ws =>
      rw [e] at h1
      obtain ⟨a, kd, sq, ha⟩ := h.2.go c ws e
      exact ⟨p, mk c, .ref a, rfl, rb.str_.1, kd, hq F1 H1 _ (.d (.tup (ws.map D.str))) ε1 s1 k1 I1 (.tup (.inr sq) (RpL.strs ha)) h1⟩
  | _ => exact h1.elim

/-! ### f-strings -/
def fmtD (x : D) (q : D → Prop) : Prop := match x with
  | .str c => c.length ≤ sizeLine ∧ q (.str c)
  | .int i => 0 ≤ i ∧ i < 1000000000000 ∧ q (.str (numL i.toNat))
  | _ => False
def dFmt (t : TD) : TD := fun ε q xq => t ε (fun o ε1 => fmtD (o.get ε1) fun z => q (.d z) ε1) xq
theorem x_dFmt {t : TD} {ε : Env} {q : OQ} {xq : XQ} : dFmt t ε q xq = t ε (fun o ε1 => fmtD (o.get ε1) fun z => q (.d z) ε1) xq := rfl
theorem num_mk {i : Int} (h : 0 ≤ i) : ((toString i : String) : Str) = mk (numL i.toNat) := by
  have := tl_num i.toNat
  rw [show ((i.toNat : Nat) : Int) = i by omega] at this
  rw [← this]
  first | done | exact (mk_tl _).symm
theorem de_fmt {e : Expr} {t : TD} (h : DE X W e t) : DE X W (.FormattedValue e (-1) none pos) (dFmt t) := by
  refine ⟨PE.conv (pe_fmt h.pe) fun σ H Q ⟨G, F, ε, q, xq, I, ht, hq, hx⟩ => ?_⟩
  refine ⟨G, F, ε, _, xq, I, ht, fun F1 H1 v o ε1 s1 k1 I1 r1 h1 => ?_, hx⟩
  have rb := r1.b I1
  generalize o.get ε1 = y at rb h1
  cases y with
  | str c =>
    obtain ⟨h1, h2⟩ := h1
    obtain ⟨e, ha⟩ := rb.str_
    exact .inl ⟨mk c, e, by simpa [Str.length] using h1, hq F1 H1 _ (.d (.str c)) ε1 s1 k1 I1 (.str c ha) h2⟩
  | int i =>
    obtain ⟨h1, h2, h3⟩ := h1
    have hl := log_small (show i.natAbs < 10 ^ 12 by omega)
    refine .inr ⟨i, rb.int_, by omega, ?_⟩
    rw [num_mk h1]
    exact hq F1 H1 _ (.d (.str _)) ε1 s1 k1 I1 (.str _ (asc_num _)) h3
  | _ => exact h1.elim
def jsAt (acc : List Nat) (x : D) (k : List Nat → Prop) : Prop := match x with
  | .str c => (acc ++ c).length ≤ sizeLine ∧ k (acc ++ c)
  | _ => False
def dJs : List TD → List Nat → Env → (List Nat → Env → Prop) → XQ → Prop
  | [], acc, ε, k, _ => k acc ε
  | t :: ts, acc, ε, k, xq => t ε (fun o ε1 => jsAt acc (o.get ε1) fun acc' => dJs ts acc' ε1 k xq) xq
def dJ (ts : List TD) : TD := fun ε q xq => dJs ts [] ε (fun cs ε1 => q (.d (.str cs)) ε1) xq
inductive DJ (X : Cx) (W : WX) : List Expr → List TD → Prop where
  | nil : DJ X W [] []
  | cons {e : Expr} {t : TD} {es : List Expr} {ts : List TD} (h : DE X W e t) (r : DJ X W es ts) : DJ X W (e :: es) (t :: ts)
theorem DJ.pj {es : List Expr} {ts : List TD} (h : DJ X W es ts) : PJ X es (ts.map (LE X.K W)) := by
  induction h with
  | nil => exact .nil
  | cons h r ih => exact .cons h.pe ih
theorem js_of {K : PySem.W.Frag} {σ : L2.St} {R : Str → Hp → Prop} {G : Gd} {k : List Nat → Env → Prop} {xq : XQ} : ∀ (ts : List TD) (acc : List Nat) (F H : Hp) (ε : Env), Asc acc → Iv K G F H σ ε → dJs ts acc ε k xq →
    (∀ F' H' cs ε', Same F F' → Kd ε ε' → Iv K G F' H' σ ε' → Asc cs → k cs ε' → R (mk cs) H') → XE1 K W G F σ xq → tJs (ts.map (LE K W)) (mk acc) σ H R
  | [], acc, F, H, ε, ha, I, h, hk, _ => hk F H acc ε (.refl _) (.refl _) I ha h
  | t :: ts, acc, F, H, ε, ha, I, h, hk, hx => by
    refine ⟨G, F, ε, _, xq, I, h, fun F1 H1 v o ε1 s1 k1 I1 r1 h1 => ?_, hx⟩
    have rb := r1.b I1
    generalize o.get ε1 = y at rb h1
    cases y with
    | str c =>
      obtain ⟨h1, h2⟩ := h1
      obtain ⟨e, hc⟩ := rb.str_
      refine ⟨mk c, e, ?_, ?_⟩
      · rw [mk_app]; simpa [Str.length] using h1
      · rw [mk_app]
        exact js_of ts (acc ++ c) F1 H1 ε1 (ha.append hc) I1 h2 (fun F' H' cs ε' s' k' => hk F' H' cs ε' (s1.trans s') (k1.trans k')) (hx.mono s1)
    | _ => exact h1.elim
theorem de_joined {v1 v2 : Expr} {rest : List Expr} {ts : List TD} (h : DJ X W (v1 :: v2 :: rest) ts) : DE X W (.JoinedStr (v1 :: v2 :: rest) pos) (dJ ts) := by
  refine ⟨PE.conv (pe_joined h.pj) fun σ H Q ⟨G, F, ε, q, xq, I, ht, hq, hx⟩ => ?_⟩
  exact js_of ts [] F H ε Asc.nil I ht (fun F' H' cs ε' s' k' I' ha hk => hq F' H' _ (.d (.str cs)) ε' s' k' I' (.str cs ha) hk) hx
theorem x_dJ {ts : List TD} {ε : Env} {q : OQ} {xq : XQ} : dJ ts ε q xq = dJs ts [] ε (fun cs ε1 => q (.d (.str cs)) ε1) xq := rfl
theorem js_nil {acc : List Nat} {ε : Env} {k : List Nat → Env → Prop} {xq : XQ} : dJs [] acc ε k xq = k acc ε := rfl
theorem js_cons {t : TD} {ts : List TD} {acc : List Nat} {ε : Env} {k : List Nat → Env → Prop} {xq : XQ} : dJs (t :: ts) acc ε k xq = t ε (fun o ε1 => jsAt acc (o.get ε1) fun acc' => dJs ts acc' ε1 k xq) xq := rfl
end
end Zd
namespace Zd
open PySem PySem.Spec L2 TL
theorem asc_all {ws : List (List Nat)} (h : (ws.all fun x => x.all (· < 128)) = true) : ∀ x ∈ ws, Asc x := fun x hx => asc_of (List.all_eq_true.mp h x hx)
end Zd
namespace Zd
open PySem PySem.Spec L2 TL
/-! ### isinstance(x, (A, B)) -/
def fIsi2 (n1 n2 : String) (x : D) (q : D → Prop) : Prop := match tyD x with
  | some t => match kitB t n1, kitB t n2 with
    | some b1, some b2 => q (.bl (b1 || b2))
    | _, _ => False
  | none => False
def dIsi2 (n1 n2 : String) (ta : TD) : TD := fun ε q xq => ta ε (fun o ε1 => fIsi2 n1 n2 (o.get ε1) fun z => q (.d z) ε1) xq
theorem RpB.al {K : PySem.W.Frag} {F H F' H' : Hp} {v : V} {x : D} (A : AL F H F' H') (h : RpB K F H v x) : RpB K F' H' v x := by
  rcases h with h | ⟨p, ho, c, e1, e2, e3, e4⟩
  · exact .inl (h.mono A.sF)
  · exact .inr ⟨p, ho, c, e1, A.sH _ _ e2, e3.mono A.sF, e4⟩
section
variable {X : Cx} {W : WX} {a : Expr} {ta : TD}
theorem x_dIsi2 {n1 n2 : String} {ε : Env} {q : OQ} {xq : XQ} : dIsi2 n1 n2 ta ε q xq = ta ε (fun o ε1 => fIsi2 n1 n2 (o.get ε1) fun z => q (.d z) ε1) xq := rfl
theorem de_isi2 {T1 T2 : Str} {p p1 p2 p3 pos : Pos} {x1 : Nat} {n1 n2 : String} (ha : DE X W a ta) (hg : Gl X "isinstance") (hm : X.mg "isinstance" = none) (h1 : PE X (.Name T1 p1) (tC (.ty n1))) (h2 : PE X (.Name T2 p2) (tC (.ty n2)))
    (e1 : starEach [.Name T1 p1, .Name T2 p2] X.env = (false, eval (.Name T1 p1) X.env) :: starEach [.Name T2 p2] X.env := by rfl) (e2 : starEach [.Name T2 p2] X.env = (false, eval (.Name T2 p2) X.env) :: starEach [] X.env := by rfl)
    (hs : starEach [a, .Tuple [.Name T1 p1, .Name T2 p2] x1 p3] X.env = (false, eval a X.env) :: starEach [.Tuple [.Name T1 p1, .Name T2 p2] x1 p3] X.env := by rfl)
    (hs2 : starEach [.Tuple [.Name T1 p1, .Name T2 p2] x1 p3] X.env = (false, eval (.Tuple [.Name T1 p1, .Name T2 p2] x1 p3) X.env) :: starEach [] X.env := by rfl)
    (hpl : (backTo pos (starEach [.Tuple [.Name T1 p1, .Name T2 p2] x1 p3] X.env)).any (·.1) = false := by rfl) :
    DE X W (.Call (.Name "isinstance" p) [a, .Tuple [.Name T1 p1, .Name T2 p2] x1 p3] [] pos) (dIsi2 n1 n2 ta) := by
  refine ⟨PE.conv (pe_callB call_isiT hg hm PyProof.Rows.boot_isinstance (pa_cons ha.pe (pa_cons (pe_tup (pa_cons h1 (pa_cons h2 pa_nil e2) e1)) pa_nil hs2) hs) (by decide) (by decide) hs hpl) fun σ H Q ⟨G, F, ε, q, xq, I, ht, hq, hx⟩ => ?_⟩
  refine ⟨G, F, ε, _, xq, I, ht, fun F1 H1 v o ε1 s1 k1 I1 r1 h1 => ?_, hx⟩
  have rb := r1.b I1
  generalize o.get ε1 = y at rb h1
  refine ⟨(by decide : 2 ≤ sizeLine), fun p hp => ?_⟩
  unfold fIsi2 at h1
  cases c1 : tyD y with
  | none => rw [c1] at h1; exact h1.elim
  | some t =>
    rw [c1] at h1
    cases c2 : kitB t n1 with
    | none => simp only [c2] at h1
    | some b1 =>
      cases c3 : kitB t n2 with
      | none => simp only [c2, c3] at h1
      | some b2 =>
        simp only [c2, c3] at h1
        have A := AL.new (o := .tup [.ty n1, .ty n2]) I1.sF hp
        have I2 := I1.al A
        refine ⟨v, p, _, .type t, _, b1 || b2, rfl, upd_same, .cons (.ty n1) (.cons (.ty n2) .nil), ty_of I2.sF (RpB.al A rb) c1, ?_, hq _ _ _ (.d (.bl (b1 || b2))) ε1 (s1.trans A.sF) k1 I2 (Rp.bl _) h1⟩
        cases b1 with
        | true => exact kitAny_cons (r := true) (kit_ty c2) (fun z => by cases z) fun _ => rfl
        | false =>
          refine kitAny_cons (r := false || b2) (kit_ty c2) (fun _ => ?_) fun z => by cases z
          cases b2 with
          | true => exact kitAny_cons (r := true) (kit_ty c3) (fun z => by cases z) fun _ => rfl
          | false => exact kitAny_cons (r := false) (kit_ty c3) (fun _ => kitAny_nil) fun z => by cases z
end
end Zd
namespace Zd
open PySem PySem.Spec L2 TL

/-! ### objects with fields -/
def fldAt (f : Str) (x : D) (q : D → Prop) : Prop := match x with
  | .obj _ ds => match ds.lookup f with
    | some z => q z
    | none => False
  | _ => False
def dFld (f : Str) (t : TD) : TD := fun ε q xq => t ε (fun o ε1 => fldAt f (o.get ε1) fun z => q (.d z) ε1) xq
theorem RpF.look {K : PySem.W.Frag} {F : Hp} {f : Str} {z : D} : ∀ {vs : List (Str × V)} {ds : List (Str × D)}, RpF K F vs ds → ds.lookup f = some z → ∃ v, vs.lookup f = some v ∧ Rp K F v z ∧ ∃ p ∈ ds, p.1 = f
  | _, _, .nil, e => by cases e
  | _, _, .cons (k := k) r t, e => by
    rw [List.lookup_cons] at e ⊢
    split at e
    · rename_i h
      cases e
      refine ⟨_, rfl, r, _, List.mem_cons_self, ?_⟩
      simpa using (beq_iff_eq.mp h).symm
    · rename_i h
      obtain ⟨v, h1, h2, p, h3, h4⟩ := RpF.look t e
      exact ⟨v, h1, h2, p, List.mem_cons_of_mem _ h3, h4⟩
section
variable {X : Cx} {W : WX} {e : Expr} {t : TD} {pos : Pos}
theorem x_dFld {f : Str} {ε : Env} {q : OQ} {xq : XQ} : dFld f t ε q xq = t ε (fun o ε1 => fldAt f (o.get ε1) fun z => q (.d z) ε1) xq := rfl
theorem de_fld {f : Str} (h : DE X W e t) (hb : attributeBase e f X.env (eval e X.env) = eval e X.env) : DE X W (.Attribute e f pos) (dFld f t) := by
  refine ⟨PE.conv (pe_fld h.pe hb) fun σ H Q ⟨G, F, ε, q, xq, I, ht, hq, hx⟩ => ?_⟩
  refine ⟨G, F, ε, _, xq, I, ht, fun F1 H1 v o ε1 s1 k1 I1 r1 h1 => ?_, hx⟩
  have rb := r1.b I1
  generalize o.get ε1 = y at rb h1
  cases y with
  | obj n ds =>
    have h1 : (match ds.lookup f with | some z => q (.d z) ε1 | none => False) := h1
    cases el : ds.lookup f with
    | none => rw [el] at h1; exact h1.elim
    | some z =>
      rw [el] at h1
      rcases rb with rb | ⟨p, ho, c, b1, b2, b3, e4⟩
      · cases rb with
        | obj ha c n r =>
          obtain ⟨v, e1, e2, p, e3, e4⟩ := r.look el
          exact ⟨_, _, _, _, v, rfl, I1.sF _ _ ha, c, by rw [← e4]; exact n p e3, e1, hq F1 H1 v (.d z) ε1 s1 k1 I1 e2 h1⟩
      · cases c with
        | lst _ => cases e4
        | dic _ => cases e4
        | ob _ _ =>
          cases e4
          cases ho with
          | ins C dx vs =>
            obtain ⟨c, _, n, r⟩ := b3
            obtain ⟨w, e1, e2, p', e3, e4⟩ := r.look el
            exact ⟨p, C, dx, vs, w, b1, b2, c, by rw [← e4]; exact n p' e3, e1, hq F1 H1 w (.d z) ε1 s1 k1 I1 e2 h1⟩
          | _ => exact b3.elim
  | _ => exact h1.elim
end
end Zd
namespace Zd
open PySem PySem.Spec L2 TL
/-! ### objects made: __init__ puts its parameters into fields -/
def spInit (C : Addr) (names : List Str) : Sp := fun vs H Q _ => ∃ x dx us, vs = .ref x :: us ∧ us.length = names.length ∧ H x = some (.ins C dx []) ∧ Q .non (upd H x (.ins C dx (names.zip us)))
structure InitOk (P : Program) (w : World) (K : PySem.W.Frag) (mg : Str → Option Value) (base : Heap) (k : Nat) (x : Str) (names : List Str) (C : Addr) : Prop where
  g : mg x = some (.ref C)
  cls : Cls K C
  na : ∀ n ∈ names, NoAttr K C n
  made : ∃ f fd ps, Mk K C f ∧ Binds K fd ps [] ∧ FnOk P w K mg base (L2.CX P w) k f fd ps (spInit C names)
def dMake (n : String) (names : List Str) (t : TL) : TD := fun ε q xq => t ε (fun os ε1 => os.length = names.length ∧ fzs ε1 os fun xs ε2 => q (.d (.obj n (names.zip xs))) ε2) xq
theorem zip_rp {K : PySem.W.Frag} {F : Hp} : ∀ {names : List Str} {vs : List V} {xs : List D}, RpL K F vs xs → RpF K F (names.zip vs) (names.zip xs)
  | [], _, _, _ => by simp only [List.zip_nil_left]; exact .nil
  | _ :: _, _, _, .nil => by simp only [List.zip_nil_right]; exact .nil
  | n :: names, _, _, .cons r t => by
    rw [List.zip_cons_cons, List.zip_cons_cons]
    exact .cons r (zip_rp t)
theorem putF_new {f : Str} {v : V} : ∀ {fs : List (Str × V)}, (∀ p ∈ fs, p.1 ≠ f) → putF f v fs = fs ++ [(f, v)]
  | [], _ => rfl
  | (g, x) :: r, h => by
    have hg : g ≠ f := h _ List.mem_cons_self
    show (if g = f then (g, v) :: r else (g, x) :: putF f v r) = _
    rw [if_neg hg, putF_new fun p hp => h p (List.mem_cons_of_mem _ hp)]
    rfl
section
variable {X : Cx} {W : WX} {e : Expr} {es : List Expr} {t : TL} {pos p : Pos}
theorem x_dMake {n : String} {names : List Str} {ε : Env} {q : OQ} {xq : XQ} : dMake n names t ε q xq = t ε (fun os ε1 => os.length = names.length ∧ fzs ε1 os fun xs ε2 => q (.d (.obj n (names.zip xs))) ε2) xq := rfl
theorem de_make {x : Str} {names : List Str} {C : Addr} {k : Nat} (n : String) (M : InitOk X.prog X.w X.K X.mg X.base k x names C) (hr : Room (k + 1) X.A) (hg : Gl X x) (ha : DA X W (e :: es) t)
    (hdb : (x == ("__debug__" : Str)) = false := by decide) (he : starEach (e :: es) X.env = (false, eval e X.env) :: starEach es X.env := by rfl) (hpl : (backTo pos (starEach es X.env)).any (·.1) = false := by rfl) :
    DE X W (.Call (.Name x p) (e :: es) [] pos) (dMake n names t) := by
  obtain ⟨f, fd, ps, mk, hb, F⟩ := M.made
  refine ⟨PE.conv (pe_make (ds := []) (dvs := []) mk F hr hg M.g hb .nil passL ha.pa hdb he hpl) fun σ H Q ⟨G, F, ε, q, xq, I, ht, hq, hx⟩ => ?_⟩
  refine ⟨G, F, ε, _, xq, I, ht, fun F1 H1 vs os ε1 s1 k1 I1 r1 h1 => ?_, hx⟩
  intro x0 dx hx0 hdx hne
  obtain ⟨F2, xs, ε2, s2, k2, I2, r, hk⟩ := fzs_of I1 r1.ws h1.2
  have hlen : (vs ++ []).length = names.length := by rw [List.append_nil, r1.len]; exact h1.1
  refine ⟨x0, dx, vs ++ [], rfl, hlen, upd_same, rfl, ?_⟩
  rw [upd_upd, List.append_nil]
  have A1 := AL.new (o := .own x0) I2.sF hdx
  have A2 := AL.new (o := .ins C dx (names.zip vs)) A1.sFH (show upd H1 dx (.own x0) x0 = none by rw [upd_ne (Ne.symm hne)]; exact hx0)
  have A := A1.trans A2
  refine hq _ _ _ (.d (.obj n (names.zip xs))) ε2 ((s1.trans s2).trans A.sF) (k1.trans k2) (I2.al A) (Rp.obj upd_same M.cls (fun p hp => M.na _ (List.of_mem_zip hp).1) (zip_rp (r.mono A.sF))) hk
end
end Zd
namespace Zd
open PySem PySem.Spec L2 TL
def clsBody : Stmt → List Stmt
  | .ClassDef _ _ _ body _ _ _ _ _ _ _ => body
  | _ => []
end Zd
namespace Zd
open PySem PySem.Spec L2 TL
/-! ### text.find(sub, from) -/
def hitAt (a b : List Nat) (i : Nat) : Bool := decide (i + b.length ≤ a.length) && ((a.drop i).take b.length == b)
def findL (a b : List Nat) (i : Nat) : Int := match (List.range' i (a.length + 1 - i)).find? (hitAt a b) with
  | some k => (k : Nat)
  | none => -1
theorem occ_stay (s sub : Str) (hi : Nat) : ∀ (l : List Nat) (st : Array Nat × Nat), 1 ≤ st.fst.size → (forIn l st (StrLaws.occBody s sub hi 1)).run.fst = st.fst
  | [], st, _ => by simp
  | a :: l, st, h => by
    rw [List.forIn_cons]
    have e : StrLaws.occBody s sub hi 1 a st = pure (ForInStep.yield (st.fst, st.snd)) := by
      unfold StrLaws.occBody
      rw [if_neg fun z => by have := z.1.1.1; omega]
    rw [e]
    exact occ_stay s sub hi l _ h
theorem occ_first (s sub : Str) (hi : Nat) : ∀ (l : List Nat) (free : Nat), (∀ i ∈ l, free ≤ i) →
    (forIn l ((#[] : Array Nat), free) (StrLaws.occBody s sub hi 1)).run.fst = match l.find? (fun i => decide (i + sub.length ≤ hi) && Builtin.Str.subAt s sub i) with
      | some k => #[k]
      | none => #[]
  | [], free, _ => by simp
  | a :: l, free, hf => by
    rw [List.forIn_cons]
    have ha : free ≤ a := hf a List.mem_cons_self
    by_cases hc : a + sub.length ≤ hi ∧ Builtin.Str.subAt s sub a = true
    · have e : StrLaws.occBody s sub hi 1 a ((#[] : Array Nat), free) = pure (ForInStep.yield (#[a], a + sub.length)) := by
        unfold StrLaws.occBody
        rw [if_pos ⟨⟨⟨by simp, ha⟩, hc.1⟩, hc.2⟩]
        rfl
      rw [e, List.find?_cons_of_pos (by simp [hc])]
      exact occ_stay s sub hi l (#[a], a + sub.length) (by simp)
    · have e : StrLaws.occBody s sub hi 1 a ((#[] : Array Nat), free) = pure (ForInStep.yield ((#[] : Array Nat), free)) := by
        unfold StrLaws.occBody
        rw [if_neg fun z => hc ⟨z.1.2, z.2⟩]
      rw [e, List.find?_cons_of_neg (by simpa using hc)]
      exact occ_first s sub hi l free fun i hi' => hf i (List.mem_cons_of_mem _ hi')
theorem find3_L (a b : List Nat) {i : Int} (h : 0 ≤ i) : Txt.find3 (mk a) (mk b) i = findL a b i.toNat := by
  unfold Txt.find3 findL
  have e1 : fromIndex (mk a).length i = i.toNat := by
    unfold fromIndex
    rw [if_neg (by omega)]
    omega
  rw [e1, StrLaws.occ_eq, occ_first _ _ _ _ _ (fun j hj => by simp [List.mem_range'] at hj; omega)]
  have e2 : (fun j => decide (j + (mk b).length ≤ (mk a).length) && Builtin.Str.subAt (mk a) (mk b) j) = hitAt a b := by
    funext j
    unfold hitAt
    rw [StrLaws.subAt_eq, mk_len, mk_len]
  rw [e2, mk_len]
  cases (List.range' i.toNat (a.length + 1 - i.toNat)).find? (hitAt a b) <;> rfl
def fFind3 (x : D) (ys : List D) (q : D → Prop) : Prop := match x, ys with
  | .str a, [.str b, .int i] => 0 ≤ i ∧ q (.int (findL a b i.toNat))
  | _, _ => False
def dMn (dop : D → List D → (D → Prop) → Prop) (to : TD) (t : TL) : TD := fun ε q xq => to ε (fun x ε1 => isS (x.get ε1) ∧ t ε1 (fun os ε2 => dop (x.get ε2) (os.map (Opd.get ε2)) fun z => q (.d z) ε2) xq) xq
section
variable {X : Cx} {W : WX} {o e : Expr} {es : List Expr} {to : TD} {t : TL} {apos pos : Pos}
theorem x_dMn {dop : D → List D → (D → Prop) → Prop} {ε : Env} {q : OQ} {xq : XQ} : dMn dop to t ε q xq = to ε (fun x ε1 => isS (x.get ε1) ∧ t ε1 (fun os ε2 => dop (x.get ε2) (os.map (Opd.get ε2)) fun z => q (.d z) ε2) xq) xq := rfl
theorem de_find3 (ho : DE X W o to) (ha : DA X W (e :: es) t)
    (h : PE X (.Call (.Attribute o "find" apos) (e :: es) [] pos) (tBM X.K "str" (fun x xs H Q => ∃ (a b : Str) (i : Int), x = .str a ∧ xs = [.str b, .int i] ∧ Q (.int (Txt.find3 a b i)) H) (LE X.K W to) (LA X.K W t))) :
    DE X W (.Call (.Attribute o "find" apos) (e :: es) [] pos) (dMn fFind3 to t) := by
  refine ⟨PE.conv h fun σ H Q ⟨G, F, ε, q, xq, I, ht, hq, hx⟩ => ?_⟩
  refine ⟨G, F, ε, _, xq, I, ht, fun F1 H1 v o1 ε1 s1 k1 I1 r1 ⟨hs, h1⟩ => ?_, hx⟩
  have rb := r1.b I1
  refine ⟨?_, G, F1, ε1, _, xq, I1, h1, fun F2 H2 vs os ε2 s2 k2 I2 r2 h2 => ?_, hx.mono s1⟩
  · generalize o1.get ε1 = y at rb hs
    cases y with
    | str c => rw [rb.str_.1]; rfl
    | _ => exact hs.elim
  · have rx := (r1.mono s2 k2).b I2
    have rs := r2.bs I2
    generalize o1.get ε2 = y at rx h2
    generalize os.map (Opd.get ε2) = ys at rs h2
    unfold fFind3 at h2
    split at h2
    · rename_i a b i
      cases rs with
      | cons r3 rs =>
        cases rs with
        | cons r4 rs =>
          cases rs
          refine ⟨mk a, mk b, i, rx.str_.1, by rw [r3.str_.1, r4.int_], ?_⟩
          rw [find3_L a b h2.1]
          exact hq _ _ _ (.d (.int _)) ε2 (s1.trans s2) (k1.trans k2) I2 (Rp.int _) h2.2
    · exact h2.elim
end
end Zd
namespace Zd
open PySem PySem.Spec L2 TL
/-! ### repr, plain signs known of what lies there -/
mutual
def smi2 : D → Bool
  | .non => true
  | .bl _ => true
  | .int i => decide (i.natAbs < 10 ^ 12)
  | .str _ => true
  | .lst xs => smis2 xs
  | .ro xs => smis2 xs
  | .tup xs => smis2 xs
  | .dic _ => false
  | .obj _ _ => false
  | .exc _ _ => false
  | .nkd _ => false
def smis2 : List D → Bool
  | [] => true
  | x :: xs => smi2 x && smis2 xs
end
section
variable {K : PySem.W.Frag} {F : Hp}
mutual
theorem smi_rp : ∀ (x : D) (v : V), smi2 x = true → Rp K F v x → smi x = true
  | .non, _, _, _ => rfl
  | .bl _, _, _, _ => rfl
  | .int i, _, h, _ => h
  | .str cs, _, _, .str _ a => by simp only [smi, List.all_eq_true, decide_eq_true_eq]; exact a
  | .lst xs, _, h, .lst _ r => smis_rp xs _ h r
  | .ro xs, _, h, .ro _ r => smis_rp xs _ h r
  | .tup xs, _, h, .tup _ r => smis_rp xs _ h r
  | .dic _, _, h, _ => by simp [smi2] at h
  | .obj _ _, _, h, _ => by simp [smi2] at h
  | .exc _ _, _, h, _ => by simp [smi2] at h
  | .nkd _, _, h, _ => by simp [smi2] at h
theorem smis_rp : ∀ (xs : List D) (vs : List V), smis2 xs = true → RpL K F vs xs → smis xs = true
  | [], _, _, _ => rfl
  | x :: xs, _, h, .cons r t => by
    have h' : smi2 x = true ∧ smis2 xs = true := by simpa [smis2] using h
    simp only [smis, Bool.and_eq_true]
    exact ⟨smi_rp x _ h'.1 r, smis_rp xs _ h'.2 t⟩
end
theorem RpB.smi {H : Hp} {v : V} {x : D} (h : RpB K F H v x) (c : smi2 x = true) : Zd.smi x = true := by
  rcases h with h | ⟨p, ho, oc, e1, e2, e3, e⟩
  · exact smi_rp x v c h
  · subst e
    cases oc with
    | dic _ => simp [smi2] at c
    | ob _ _ => simp [smi2] at c
    | lst xs =>
      cases ho with
      | lst vs => exact smis_rp xs vs c e3
      | _ => exact e3.elim
end
def fRepr2 (x : D) (q : D → Prop) : Prop := (okD x ∧ smi2 x = true ∧ wt x ≤ 1048576) ∧ q (.str (rep x))
def reprR2 {X : Cx} (gd : NoG X.A) (hu : X.A.units + 66 < cLine) : DC X (.builtin "repr") (d1 fRepr2) where
  r := _
  h := call_reprD gd hu
  hr := fun F H vs xs q Q S rs hd hQ => by
    obtain ⟨x, rfl, ⟨ok, sm, wl⟩, hd⟩ := d1_ hd
    have rs2 := rs
    obtain ⟨v, rfl, rx⟩ := rs.one
    obtain ⟨_, h2, h3⟩ := repOk_of ok (rx.smi sm) wl
    exact (reprR gd hu).hr F H [v] [x] q Q S rs2 ⟨⟨ok, h2, h3⟩, hd⟩ hQ
theorem smis2_of {xs : List D} (h : ∀ x ∈ xs, smi2 x = true) : smis2 xs = true := by
  induction xs with
  | nil => rfl
  | cons x xs ih => simp [smis2, h x List.mem_cons_self, ih fun y hy => h y (List.mem_cons_of_mem _ hy)]
end Zd
namespace Zd
open PySem PySem.Spec L2 TL
/-! ### xs.insert(i, y) -/
def insAt (ε : Env) (i : Nat) (os : List Opd) (k : Env → Prop) : Prop := match os with
  | [a, .d x] => kI (fun n => match ownAt ε i with
    | some (.lst xs) => 0 ≤ n ∧ n < 2 ^ 63 ∧ xs.length < sizeLine ∧ k (putOc ε i (.lst (xs.take n.toNat ++ [x] ++ xs.drop n.toNat)))
    | _ => False) (a.get ε)
  | _ => False
def sIns (i : Nat) (t : TL) : TSd := fun Dn ε => isLst (ownAt ε i) ∧ t ε (fun os ε1 => insAt ε1 i os Dn.nx) Dn.xq
theorem x_sIns (i : Nat) (t : TL) (Dn : DEnds) (ε : Env) : sIns i t Dn ε = (isLst (ownAt ε i) ∧ t ε (fun os ε1 => insAt ε1 i os Dn.nx) Dn.xq) := rfl
section
variable {X : Cx} {W : WX} {c : Expr} {pos : Pos}
theorem ds_ins {i : Nat} {t : TL} (h : PS X (.Expr c pos) (tDrop (tBM X.K "list" (fun x vs H Q => ∃ (l : Addr) (xs : List V) (i : Int) (y : V), x = .ref l ∧ vs = [.int i, y] ∧ H l = some (.lst xs) ∧ xs.length < sizeLine ∧ 0 ≤ i ∧ i < 2 ^ 63 ∧
    Q .non (upd H l (.lst (xs.take i.toNat ++ [y] ++ xs.drop i.toNat)))) (tVar i) (LA X.K W t)))) : DS X W (.Expr c pos) (sIns i t) := by
  refine ⟨PS.conv h fun De σ H ⟨G, F, ε, Dn, I, ⟨hn, ht⟩, ok⟩ => ?_⟩
  cases e : ownAt ε i with
  | none => rw [e] at hn; exact hn.elim
  | some c0 =>
    obtain ⟨p, ho, h1, h2, h3, h4, h5⟩ := I.o i c0 e
    have ty : tyV X.K "list" (.ref p) H := by
      cases c0 with
      | lst xs =>
        cases ho with
        | lst vs => exact .inl ⟨rfl, vs, SqL.of h4⟩
        | _ => exact h5.elim
      | dic ds => rw [e] at hn; exact hn.elim
      | ob _ _ => rw [e] at hn; exact hn.elim
    refine ⟨_, h1, ?_⟩
    refine ⟨ty, G, F, ε, _, _, I, ht, fun F1 H1 vs os ε1 s1 k1 I1 r1 hk => ?_, ok.x⟩
    unfold insAt at hk
    split at hk
    · rename_i a x
      cases r1 with
      | cons ra r2 =>
        cases r2 with
        | cons rb r3 =>
          cases r3
          obtain ⟨n, e2, hk⟩ := (ra.b I1).kI_ hk
          split at hk
          · rename_i xs e3
            obtain ⟨p', ho', g1, g2, g3, g4, g5⟩ := I1.o i _ e3
            rw [h1] at g1
            cases g1
            cases ho' with
            | lst ws =>
              obtain ⟨n0, n1, n2, hk⟩ := hk
              refine ⟨p, ws, n, _, rfl, by rw [e2], g4, by rw [RpL.length g5]; exact n2, n0, n1, ?_⟩
              exact ok.nx F1 _ σ _ s1 (I1.mut e3 h1 (show OcOk X.K F1 (.lst (ws.take n.toNat ++ [_] ++ ws.drop n.toNat)) (.lst (xs.take n.toNat ++ [x] ++ xs.drop n.toNat)) from RpL.append (RpL.append (RpL.take _ g5) (.cons rb .nil)) (RpL.drop _ g5))) hk
            | _ => exact g5.elim
          · exact hk.elim
    · exact hk.elim
end
end Zd
namespace Zd
open PySem PySem.Spec L2 TL
/-! ### enumerate(list) -/
def enumL (xs : List D) : List D := xs.zipIdx.map fun p => .tup [.int (p.2 : Nat), p.1]
theorem itok_enum {K : PySem.W.Frag} {F : Hp} {p : Addr} {vs : List V} {xs : List D} (hq : SqL K F p vs) (r : RpL K F vs xs) : ItOk K F (Ite K p) (enumL xs) := fun F' H' s1 s2 => by
  have hq' : SqL K H' p vs := sqL_mono (s1.trans s2) hq
  refine ⟨fun i x hx => ?_, vs, hq', by simp [enumL, r.length]⟩
  unfold enumL at hx
  rw [List.getElem?_map, List.getElem?_zipIdx] at hx
  cases e : xs[i]? with
  | none => rw [e] at hx; cases hx
  | some c =>
    rw [e] at hx
    simp only [Option.map_some, Nat.zero_add, Option.some.injEq] at hx
    subst hx
    obtain ⟨v, hv, rv⟩ := r.get' e
    refine ⟨⟨vs, v, hq', hv⟩, fun w H2 ⟨T, x', e1, hT, e2, hx'⟩ => ?_⟩
    subst e1 e2
    have := hx' vs hq'
    rw [hv] at this
    cases this
    have A := AL.new (o := .tup [.int (i : Nat), v]) s2 hT
    exact ⟨_, A, .tup (.inl upd_same) (.cons (.int _) (.cons ((rv.mono s1).mono A.sF) .nil))⟩
def enumLOf (os : List Opd) (k : List D → Prop) : Prop := match os with
  | [.d (.lst xs)] => k (enumL xs)
  | [.d (.ro xs)] => k (enumL xs)
  | _ => False
def iEnumLD (t : TL) : TId := fun ε q xq => t ε (fun os ε1 => enumLOf os fun xs => q xs ε1) xq
theorem x_iEnumLD (t : TL) (ε : Env) (q : List D → Env → Prop) (xq : XQ) : iEnumLD t ε q xq = (t ε (fun os ε1 => enumLOf os fun xs => q xs ε1) xq) := rfl
section
variable {X : Cx} {W : WX} {tg iter : Expr} {ta : TL}
theorem di_enumL (h : PI X tg iter (iEnum X.K (LA X.K W ta))) : DI X W tg iter (iEnumLD ta) := by
  refine ⟨PI.conv h fun σ H R ⟨G, F, ε, q, xq, I, ht, hq, hx⟩ => ?_⟩
  refine ⟨G, F, ε, _, xq, I, ht, fun F1 H1 vs os ε1 s1 k1 I1 r1 h1 => ?_, hx⟩
  unfold enumLOf at h1
  split at h1
  · cases r1 with
    | cons ra r2 =>
      cases r2
      cases ra with
      | lst a b => exact ⟨_, _, rfl, .of (I1.sF _ _ a), hq F1 H1 _ _ ε1 s1 k1 I1 (itok_enum (.of a) b) h1⟩
  · cases r1 with
    | cons ra r2 =>
      cases r2
      cases ra with
      | ro a b => exact ⟨_, _, rfl, sqL_mono I1.sF a, hq F1 H1 _ _ ε1 s1 k1 I1 (itok_enum a b) h1⟩
  · exact h1.elim
end
/-! ### new lists of one's own by * and + -/
structure N2 (X : Cx) (f : Value → Value → Sem Value) (nop : D → D → (List D → Prop) → Prop) where
  r : R2
  h : OpR X f r
  hr : ∀ F H v w x y (q : List D → Prop) (Q : VK), Same F H → RpB X.K F H v x → RpB X.K F H w y → nop x y q → (∀ p vs zs, H p = none → RpL X.K F vs zs → q zs → Q (.ref p) (upd H p (.lst vs))) → r v w H Q
def nBin (nop : D → D → (List D → Prop) → Prop) (ta tb : TD) : TN := fun ε q xq => ta ε (fun x ε1 => tb ε1 (fun y ε2 => nop (x.get ε2) (y.get ε2) fun zs => q (.lst zs) ε2) xq) xq
theorem x_nBin (nop : D → D → (List D → Prop) → Prop) (ta tb : TD) (ε : Env) (q : OC → Env → Prop) (xq : XQ) : nBin nop ta tb ε q xq = (ta ε (fun x ε1 => tb ε1 (fun y ε2 => nop (x.get ε2) (y.get ε2) fun zs => q (.lst zs) ε2) xq) xq) := rfl
section
variable {X : Cx} {W : WX} {a b : Expr} {ta tb : TD} {pos : Pos}
theorem dn_op {op : Operator} {nop : D → D → (List D → Prop) → Prop} (ho : N2 X (binaryOp op) nop) (ha : DE X W a ta) (hb : DE X W b tb) : DN X W (.BinOp a op b pos) (nBin nop ta tb) := by
  refine ⟨PE.conv (pe_op ho.h ha.pe hb.pe) fun σ H Q ⟨G, F, ε, q, xq, I, ht, hq, hx⟩ => ?_⟩
  refine ⟨G, F, ε, _, xq, I, ht, fun F1 H1 v o ε1 s1 k1 I1 r1 h1 => ?_, hx⟩
  refine ⟨G, F1, ε1, _, xq, I1, h1, fun F2 H2 w o' ε2 s2 k2 I2 r2 h2 => ?_, hx.mono s1⟩
  refine ho.hr F2 H2 v w _ _ _ Q I2.sF ((r1.mono s2 k2).b I2) (r2.b I2) h2 fun p vs zs hp rl hz => ?_
  obtain ⟨I3, a1, a2, a3⟩ := I2.laid (ho := .lst vs) hp
  exact hq _ _ p _ (.lst zs) ε2 (s1.trans s2) (k1.trans k2) I3 upd_same a1 a2 a3 rl hz
def dMulN (x y : D) (q : List D → Prop) : Prop := dMul x y fun z => match z with
  | .lst zs => q zs
  | _ => False
def dAddN (x y : D) (q : List D → Prop) : Prop := match x, y with
  | .lst xs, .lst ys => xs.length + ys.length ≤ sizeLine ∧ q (xs ++ ys)
  | _, _ => False
def mulN : N2 X (binaryOp .Mult) dMulN where
  r := _
  h := op_rep
  hr := fun F H v w x y q Q S rx ry hd hQ => by
    unfold dMulN at hd
    cases x <;> cases y <;> try exact hd.elim
    · exact hd.2.elim
    · exact hd.2.2.2.elim
    · rename_i xs k
      obtain ⟨p, vs, e1, h1, r1⟩ := rx.lst_ S
      obtain ⟨a1, a2, a3, hd⟩ := hd
      exact ⟨p, k, vs, e1, ry.int_, h1, a1, a2, by rw [r1.length]; exact a3, fun a ha => hQ a _ _ ha (RpL.rep r1 _) hd⟩
def addN : N2 X (binaryOp .Add) dAddN where
  r := _
  h := op_cat
  hr := fun F H v w x y q Q S rx ry hd hQ => by
    cases x <;> cases y <;> try exact hd.elim
    rename_i xs ys
    obtain ⟨p, vs, e1, h1, r1⟩ := rx.lst_ S
    obtain ⟨p', vs', e2, h2, r2⟩ := ry.lst_ S
    obtain ⟨hz, hd⟩ := hd
    exact ⟨p, p', vs, vs', e1, e2, h1, h2, by rw [r1.length, r2.length]; exact hz, fun a ha => hQ a _ _ ha (r1.append r2) hd⟩
end
end Zd
namespace Zd
open PySem PySem.Spec L2 TL
/-! ### a call whose last argument is a new list that the def may change -/
def LAT (K : PySem.W.Frag) (W : WX) (t : TL) (tn : TN) : TA := fun σ H Q => ∃ (G : Gd) (F : Hp) (ε : Env) (q : List Opd → OC → Env → Prop) (xq : XQ), Iv K G F H σ ε ∧ t ε (fun os ε1 => tn ε1 (fun c ε2 => q os c ε2) xq) xq ∧
  (∀ F' H' vs os p ho c ε', Same F F' → Kd ε ε' → Iv K G F' H' σ ε' → OsOk K F' σ ε' vs os → H' p = some ho → F' p = none → G.H0 p = none → (∀ i, σ[i]? = some (some (.ref p)) → ownAt ε' i = none) → OcOk K F' ho c → q os c ε' → Q (vs ++ [.ref p]) H') ∧ XE1 K W G F σ xq
structure DAT (X : Cx) (W : WX) (es : List Expr) (t : TL) (tn : TN) : Prop where
  pa : PA X es (LAT X.K W t tn)
section
variable {X : Cx} {W : WX} {a e : Expr} {es : List Expr} {ta : TD} {u t : TL} {tn : TN}
theorem dat_last (h : DN X W e tn) (hs : starEach [e] X.env = (false, eval e X.env) :: starEach [] X.env := by rfl) : DAT X W [e] aNil tn := by
  refine ⟨PA.conv (pa_cons h.pe pa_nil hs) fun σ H Q ⟨G, F, ε, q, xq, I, ht, hq, hx⟩ => ?_⟩
  refine ⟨G, F, ε, _, xq, I, ht, fun F' H' p ho c ε' s k I' a b c' d ok hk => ?_, hx⟩
  exact hq F' H' [] [] p ho c ε' s k I' .nil a b c' d ok hk
theorem dat_cons (ha : DE X W a ta) (hr : DAT X W es u tn) (hs : starEach (a :: es) X.env = (false, eval a X.env) :: starEach es X.env := by rfl) : DAT X W (a :: es) (aCons ta u) tn := by
  refine ⟨PA.conv (pa_cons ha.pe hr.pa hs) fun σ H Q ⟨G, F, ε, q, xq, I, ht, hq, hx⟩ => ?_⟩
  refine ⟨G, F, ε, _, xq, I, ht, fun F1 H1 v o ε1 s1 k1 I1 r1 h1 => ?_, hx⟩
  refine ⟨G, F1, ε1, _, xq, I1, h1, fun F2 H2 vs os p ho c ε2 s2 k2 I2 r2 a b c' d ok h2 => ?_, hx.mono s1⟩
  exact hq F2 H2 (v :: vs) (o :: os) p ho c ε2 (s1.trans s2) (k1.trans k2) I2 (.cons (r1.mono s2 k2) r2) a b c' d ok h2
end
section
variable {K : PySem.W.Frag} {G : Gd} {F H F' H' : Hp} {σ : L2.St} {ε : Env}
theorem AsOk.snoc {p : Addr} {ho : HO} {c : OC} : ∀ {vs : List V} {as : List Sl}, AsOk K F H vs as → F p = none → H p = some ho → OcOk K F ho c → AsOk K F H (vs ++ [.ref p]) (as ++ [.par c])
  | _, _, .nil, a, b, e => .par a b e .nil
  | _, _, .d r t, a, b, e => .d r (AsOk.snoc t a b e)
  | _, _, .par x y z t, a, b, e => .par x y z (AsOk.snoc t a b e)
theorem pars_snoc {p : Addr} {c : OC} : ∀ {vs : List V} {as : List Sl}, AsOk K F H vs as → pars (vs ++ [.ref p]) (as ++ [.par c]) = pars vs as ++ [p]
  | _, _, .nil => rfl
  | _, _, .d (v := v) r t => by
    have := pars_snoc (p := p) (c := c) t
    cases v <;> (simp only [List.cons_append, pars] at this ⊢; exact this)
  | _, _, .par x y z t => by
    have := pars_snoc (p := p) (c := c) t
    simp only [List.cons_append, pars] at this ⊢
    rw [this]
theorem AsBk.snoc {p : Addr} {c : OC} : ∀ {vs : List V} {as bs : List Sl}, AsOk K F H vs as → AsBk K F' H' (vs ++ [.ref p]) (as ++ [.par c]) bs → ∃ cs c', bs = cs ++ [.par c'] ∧ AsBk K F' H' vs as cs
  | _, _, _, .nil, .par a b e t => by
    cases t
    exact ⟨[], _, rfl, .nil⟩
  | _, _, _, .d r t, .d t' => by
    obtain ⟨cs, c', e, h⟩ := AsBk.snoc t t'
    exact ⟨_ :: cs, c', by rw [e]; rfl, .d h⟩
  | _, _, _, .par x y z t, .par a b e1 t' => by
    obtain ⟨cs, c', e, h⟩ := AsBk.snoc t t'
    exact ⟨_ :: cs, c', by rw [e]; rfl, .par a b e1 h⟩
theorem AsBk.less {p : Addr} : ∀ {vs : List V} {as bs : List Sl}, AsBk K F' H' vs as bs → p ∉ pars vs as → AsBk K F' (less H' [p]) vs as bs
  | _, _, _, .nil, _ => .nil
  | _, _, _, .d (v := v) (vs := vs) (as := as) t, h => by
    refine .d (AsBk.less t ?_)
    have h' : p ∉ pars vs as := by
      intro z
      refine h ?_
      unfold pars
      cases v <;> exact z
    exact h'
  | _, _, _, .par a b e t, h => by
    unfold pars at h
    refine .par a ?_ e (AsBk.less t fun z => h (List.mem_cons_of_mem _ z))
    rw [less_out (fun z => h (by rw [List.mem_singleton.mp z]; exact List.mem_cons_self))]
    exact b
theorem Iv.less {p : Addr} (I : Iv K G F H σ ε) (hF : F p = none) (h0 : G.H0 p = none) (ho : ∀ i, σ[i]? = some (some (.ref p)) → ownAt ε i = none) (tn : ∀ p' ∈ G.tb, p'.1 ≠ p) : Iv K G F (less H [p]) σ ε where
  s0 := I.s0
  sF := fun a o e => by
    rw [less_out (fun z => by rw [List.mem_singleton.mp z, hF] at e; cases e)]
    exact I.sF a o e
  sH := fun a o e => by
    rw [less_out (fun z => by rw [List.mem_singleton.mp z, h0] at e; cases e)]
    exact I.sH a o e
  fr := I.fr
  gh := I.gh
  tb := I.tb.anyH fun p' hp' ps' e' => by rw [less_out (fun z => tn p' hp' (List.mem_singleton.mp z))]; exact e'
  len := I.len
  d := I.d
  o := fun i c e => by
    obtain ⟨q, oo, h1, h2, h3, h4, h5⟩ := I.o i c e
    refine ⟨q, oo, h1, h2, h3, ?_, h5⟩
    rw [less_out (fun z => by
      have := ho i (by rw [← List.mem_singleton.mp z]; exact h1)
      rw [e] at this; cases this)]
    exact h4
  dis := I.dis
  pn := I.pn
theorem Iv.more {p : Addr} (I : Iv K G F (Zd.less H [p]) σ ε) : Iv K G F H σ ε := by
  have sub : ∀ a o, Zd.less H [p] a = some o → H a = some o := fun a o e => by
    by_cases z : a ∈ [p]
    · rw [less_in z] at e; cases e
    · rw [less_out z] at e; exact e
  exact ⟨I.s0, fun a o e => sub a o (I.sF a o e), fun a o e => sub a o (I.sH a o e), I.fr, I.len, I.d, fun i c e => by
    obtain ⟨q, oo, h1, h2, h3, h4, h5⟩ := I.o i c e
    exact ⟨q, oo, h1, h2, h3, sub _ _ h4, h5⟩, I.dis, I.pn, I.tb.anyH fun p' hp' ps' e' => sub _ _ e', I.gh⟩
end
def dCallT (fs : FS) (t : TL) (tn : TN) : TD := fun ε q xq => t ε (fun os ε1 => tn ε1 (fun c ε2 => (ownsOf ε2 os).Nodup ∧ argsD ε2 os fun as => fs (as ++ [.par c]) (fun d as' => q (.d d) (backs os (as'.take as.length) ε2)) fun _ _ => False) xq) xq
theorem x_dCallT (fs : FS) (t : TL) (tn : TN) (ε : Env) (q : OQ) (xq : XQ) : dCallT fs t tn ε q xq = (t ε (fun os ε1 => tn ε1 (fun c ε2 => (ownsOf ε2 os).Nodup ∧ argsD ε2 os fun as => fs (as ++ [.par c]) (fun d as' => q (.d d) (backs os (as'.take as.length) ε2)) fun _ _ => False) xq) xq) := rfl
section
variable {X : Cx} {W : WX} {e : Expr} {t : TL} {tn : TN} {fs : FS}
theorem AsBk.len {K : PySem.W.Frag} {F H : Hp} : ∀ {vs : List V} {as bs : List Sl}, AsBk K F H vs as bs → bs.length = as.length
  | _, _, _, .nil => rfl
  | _, _, _, .d t => by simp [AsBk.len t]
  | _, _, _, .par _ _ _ t => by simp [AsBk.len t]
theorem Ar.anyH {K : PySem.W.Frag} {F H H' : Hp} {σ : L2.St} {ε : Env} : ∀ {vs : List V} {os : List Opd} {as : List Sl}, Ar K F H σ ε vs os as → Ar K F H' σ ε vs os as
  | _, _, _, .nil => .nil
  | _, _, _, .d a t => .d a (Ar.anyH t)
  | _, _, _, .par a b t => .par a b (Ar.anyH t)
theorem de_callT (h : PE X e (tCall (spOf X.K fs) [] E0 (LAT X.K W t tn))) : DE X W e (dCallT fs t tn) := by
  refine ⟨PE.conv h fun σ H Q ⟨G, F, ε, q, xq, I, ht, hq, hx⟩ => ?_⟩
  refine ⟨G, F, ε, _, xq, I, ht, fun F1 H1 vs os p ho c ε1 s1 k1 I1 r1 a b c0 d ok ⟨nd, h1⟩ => ?_, hx⟩
  obtain ⟨as, a1, ar, h2⟩ := argsD_ar I1 r1 h1
  rw [List.append_nil]
  have hn : p ∉ pars vs as := fun z => by
    obtain ⟨i, _, e2, e3⟩ := ar.pars_mem z
    exact e3 (d i e2)
  have hp : pars (vs ++ [.ref p]) (as ++ [.par c]) = pars vs as ++ [p] := pars_snoc a1
  refine ⟨F1, as ++ [.par c], _, _, I1.sF, a1.snoc b a ok, ?_, h2, fun F2 H2 v dd as' bk rv hk => ?_, fun F2 H2 ee cls dx as' b xo hk => hk.elim⟩
  · rw [hp]
    refine List.nodup_append.mpr ⟨ar.nodup I1 nd, by simp, fun x hx y hy => ?_⟩
    rw [List.mem_singleton.mp hy]
    exact fun z => hn (z ▸ hx)
  · obtain ⟨cs, c', e1, bk'⟩ := AsBk.snoc a1 bk.bk
    have f2 : F2 p = none := bk.fr p (by rw [a]; simp) b
    have B : Back X.K F1 (less H1 [p]) vs as F2 (less H2 [p]) cs := by
      refine ⟨bk.s, fun x o z => ?_, fun x o z hx' => ?_, fun x h1 h2 => ?_, bk'.less hn⟩
      · rw [less_out (fun w => by rw [List.mem_singleton.mp w, f2] at z; cases z)]
        exact bk.sF x o z
      · by_cases w : x ∈ [p]
        · rw [less_in w] at z; cases z
        · rw [less_out w] at z ⊢
          refine bk.keep x o z ?_
          rw [hp]
          intro m
          rcases List.mem_append.mp m with m | m
          · exact hx' m
          · exact w m
      · refine bk.fr x ?_ h2
        by_cases w : x ∈ [p]
        · rw [less_in w] at h1; exact absurd rfl h1
        · rw [less_out w] at h1; exact h1
    obtain ⟨I2, k2⟩ := (I1.less b c0 d (I1.tb.ne a (ocok_tbl ok))).back ar.anyH nd B
    have e2 : as'.take as.length = cs := by rw [e1, ← bk'.len, List.take_left']; rfl
    rw [e2] at hk
    exact hq F2 H2 v (.d dd) _ (s1.trans bk.s) (k1.trans k2) I2.more rv hk
end
end Zd
namespace Zd
open PySem PySem.Spec L2 TL
/-! ### a tuple of names as the target of a comprehension -/
def GSs (K : PySem.W.Frag) (r : TGs) (g : TGsd) (vs : List Nat) : Prop := ∀ G F H σ ε us xs k (Q : L2.St → Hp → Prop), Iv K G F H σ ε → RpL K F us xs → g xs ε k → (∀ σ' ε', Iv K G F H σ' ε' → wipe σ' vs = wipe σ vs → k ε' → Q σ' H) → r us σ H Q
theorem gss_nil {K : PySem.W.Frag} {vs : List Nat} : GSs K gNil gNil0 vs := fun G F H σ ε us xs k Q I r h hQ => by
  cases r with
  | nil => exact ⟨rfl, hQ σ ε I rfl h⟩
  | cons _ _ => exact h.elim
theorem gss_cons {K : PySem.W.Frag} {i : Nat} {r : TGs} {g : TGsd} {vs : List Nat} (h2 : GSs K r g vs) (hi : i ∈ vs := by decide) : GSs K (gCons (gName i) r) (gCons0 (gN i) g) vs := fun G F H σ ε us xs k Q I r h hQ => by
  cases r with
  | nil => exact h.elim
  | cons r0 rs =>
    have h : gN i _ ε fun ε1 => g _ ε1 k := h
    refine ⟨_, _, rfl, gs_in hi G F H σ ε _ _ _ _ I r0 h fun σ1 ε1 I1 w1 h1 => ?_⟩
    exact h2 G F H σ1 ε1 _ _ _ _ I1 rs h1 fun σ2 ε2 I2 w2 h2 => hQ σ2 ε2 I2 (w2.trans w1) h2
theorem gs_tup {K : PySem.W.Frag} {r1 : TGs} {r : TGsd} {vs : List Nat} {n : Nat} (h : GSs K r1 r vs) (hlen : gLen r n) : GSnd K (gTup K n r1) (gTup0 r) vs := fun G F H σ ε v x k Q I rx hx hQ => by
  cases x <;> try exact hx.elim
  rename_i xs
  cases rx with
  | tup hq rs => exact ⟨_, _, rfl, sqT_mono I.sF hq.sq, by rw [rs.length]; exact hlen _ _ _ hx, h G F H σ ε _ _ _ _ I rs hx hQ⟩
end Zd
namespace Zd
open PySem PySem.Spec PyProof.Rows L2 TL
/-! ### t[::-1] of a tuple -/
section
variable {prog : Program} {w : World} {A : Around} {E : Value → Shared → Prop} {s : Shared}
theorem adj_back (n : Nat) : Builtin.Slice.sliceAdjust none none (-1) (n : Int) = ((n : Int) - 1, -1) := rfl
theorem plc_back (n : Nat) : Builtin.Slice.slicePlaces ((n : Int) - 1) (-1) (-1) = n := by
  unfold Builtin.Slice.slicePlaces
  have c1 : ¬ ((-1 : Int) > 0) := by decide
  rw [if_neg c1, show (-(-1) : Int) = 1 from rfl, Int.ediv_one]
  split <;> omega
theorem fm_some {α β : Type} {f : α → Option β} {g : α → β} : ∀ l : List α, (∀ m ∈ l, f m = some (g m)) → l.filterMap f = l.map g
  | [], _ => rfl
  | a :: l, h => by
    rw [List.filterMap_cons, h a List.mem_cons_self, List.map_cons, fm_some l fun m hm => h m (List.mem_cons_of_mem _ hm)]
theorem app_back {sl : Addr} {u : Tok} {n : Nat} {Q : Int × Int × Nat → Shared → Prop} (ho : s.heap.IsSliceOf sl .none .none (.int (-1) u)) (h : Q ((n : Int) - 1, -1, n) s) :
    wpAny (model prog w) A (Builtin.Slice.sliceApplied (.ref sl) (pure (n : Int))) Q E s := by
  obtain ⟨o, g1, g2, g3⟩ := ho
  unfold Builtin.Slice.sliceApplied Builtin.Slice.sliceFields
  refine wpAny_bind (wpAny_bind ?_)
  refine wpAny_field g1 g3 (x := .none) rfl ?_
  refine wpAny_bind (wpAny_field g1 g3 (x := .none) rfl ?_)
  refine wpAny_bind (wpAny_field g1 g3 (x := .int (-1) u) rfl (wpAny_pure ?_))
  refine wpAny_bind (HT.slicePart_ (IsPart.int (-1) u) ?_)
  show wpAny _ _ (if ((-1 : Int) == 0) = true then _ else _) _ _ s
  rw [if_neg (by decide)]
  refine wpAny_bind (HT.slicePart_ IsPart.none ?_)
  refine wpAny_bind (HT.slicePart_ IsPart.none ?_)
  refine wpAny_bind (wpAny_pure ?_)
  show wpAny _ _ (match Builtin.Slice.sliceAdjust none none (-1) (n : Int) with | (p, q) => pure (p, (-1 : Int), Builtin.Slice.slicePlaces p q (-1))) _ _ s
  rw [adj_back]
  show wpAny _ _ (pure ((n : Int) - 1, (-1 : Int), Builtin.Slice.slicePlaces ((n : Int) - 1) (-1) (-1))) _ _ s
  rw [plc_back]
  exact wpAny_pure h
theorem pick_back (xs : Array Value) : ((List.range xs.size).filterMap fun (m : Nat) => xs[(((xs.size : Nat) : Int) - 1 + (m : Int) * (-1)).toNat]?) = xs.toList.reverse := by
  have e : ∀ m ∈ List.range xs.size, (fun (m : Nat) => xs[(((xs.size : Nat) : Int) - 1 + (m : Int) * (-1)).toNat]?) m = some ((fun m => (xs.toList.reverse)[m]?.getD .none) m) := fun m hm => by
    have hm := List.mem_range.mp hm
    have e1 : (((xs.size : Nat) : Int) - 1 + (m : Int) * (-1)).toNat = xs.size - 1 - m := by omega
    have hl : m < xs.toList.reverse.length := by simpa using hm
    show xs[(((xs.size : Nat) : Int) - 1 + (m : Int) * (-1)).toNat]? = some (xs.toList.reverse[m]?.getD .none)
    rw [e1, List.getElem?_eq_getElem hl, List.getElem_reverse]
    have h2 : xs.size - 1 - m < xs.size := by omega
    rw [Array.getElem?_eq_getElem h2]
    simp
  rw [fm_some _ e]
  apply List.ext_getElem?
  intro i
  rw [List.getElem?_map]
  by_cases hi : i < xs.size
  · have hl : i < xs.toList.reverse.length := by simpa using hi
    rw [List.getElem?_range hi, Option.map_some, List.getElem?_eq_getElem hl, Option.getD_some]
  · rw [List.getElem?_eq_none (by simpa using Nat.le_of_not_lt hi), List.getElem?_eq_none (by simpa using Nat.le_of_not_lt hi)]
    rfl
theorem get_back {t sl : Addr} {items : Array Value} {u : Tok} {Q : Value → Shared → Prop} (ht : PyProof.Rows.IsTup s.heap t items) (hs : s.heap.IsSliceOf sl .none .none (.int (-1) u))
    (h : Q (.ref s.heap.objs.size) { s with heap := s.heap.push { cls := .type "tuple", data := .seq items.toList.reverse.toArray } }) (hz : items.size ≤ sizeLine) :
    wpAny (model prog w) A (getItem (.ref t) (.ref sl)) Q E s := by
  have big : sizeOk (.seq items.toList.reverse.toArray) := by
    show items.toList.reverse.toArray.size ≤ sizeLine
    simpa using hz
  have ts : s.TypeIs (.ref sl) "slice" := by
    obtain ⟨o, g1, g2, _⟩ := hs
    exact ⟨o, g1, g2⟩
  unfold getItem
  try with_reducible refine wpAny_holding ?_
  first
    | refine wpAny_bind (wpAny_pure ?_)
    | skip
  have tt := ht.typeIs
  refine wpAny_bind (wpAny_sequenceKey tt (by decide) ?_)
  refine wpAny_bind (wpAny_callSpecial?_slot (name := Str.ofString "__getitem__") tt PyProof.Rows.slot_tuple_getitem ?_)
  refine wpAny_call_entry PyProof.Rows.slot_tuple_getitem tt PyProof.Rows.entry_tuple_getitem ?_ (PyProof.Rows.args_tuple_getitem _ _)
  show wpAny _ _ (Builtin.Tuple.tupleItemsOf (.ref t) >>= _) _ _ s
  refine wpAny_bind (PyProof.Rows.tupleItemsOf_ ht ?_)
  refine wpAny_bind (wpAny_typeOf ts ?_)
  rw [if_pos (by decide)]
  refine wpAny_bind (app_back hs ?_)
  show wpAny _ _ (if ((((items.size : Nat) : Int) - 1) == 0 && (-1 : Int) == 1 && items.size == items.size) = true then _ else _) _ _ s
  rw [if_neg (by simp), pick_back]
  first
    | exact wpAny_bind (m := Builtin.Tuple.tupleExact _) (wpAny_newObj_type (wpAny_pure ⟨_, rfl, wpAny_pure h⟩) big)
    | exact wpAny_bind (m := Builtin.Tuple.tupleExact _) (wpAny_newObj_type (wpAny_bind (wpAny_pure (wpAny_pure ⟨_, rfl, wpAny_pure h⟩))) big)
    | exact wpAny_bind (wpAny_bind (m := Builtin.Tuple.tupleExact _) (wpAny_newObj_type (wpAny_pure (wpAny_pure ⟨_, rfl, wpAny_pure h⟩)) big))
    | exact wpAny_bind (wpAny_bind (m := Builtin.Tuple.tupleExact _) (wpAny_newObj_type (wpAny_pure ⟨_, rfl, wpAny_pure h⟩) big))
end
section
variable {X : Cx} {W : WX}
def rdBack (K : PySem.W.Frag) (te : TE) : TE := fun σ H Q => te σ H fun x H1 => ∃ a xs, x = .ref a ∧ SqT K H1 a xs ∧ ∀ p, H1 p = none → Q (.ref p) (upd H1 p (.tup xs.reverse))
theorem pe_back {e : Expr} {te : TE} {k : Nat} {p1 p2 p3 pos : Pos} (he : PE X e te) : PE X (.Subscript e (.Slice none none (some (.UnaryOp .USub (.Constant (.int 1) k p1) p2)) p3) pos) (rdBack X.K te) := by
  constructor
  intro pins s σ H Q I h
  have step : PO X (some (.UnaryOp .USub (.Constant (.int 1) k p1) p2)) (tPart (tUn (rU fun i => .int (-i)) (tC (.int 1)))) := po_some (pe_un un_neg pe_int)
  refine PyProof.Rows.Subscript_ (thn (he.run pins s σ H _ I h) ?_)
  rintro v s1 ⟨x, H1, I1, r1, a, xs, rfl, hq, q⟩
  cases r1
  refine wpAny_Slice (thn (po_none.run pins s1 σ H1 (fun o J => o = none ∧ J = H1) I1 ⟨rfl, rfl⟩) ?_)
  rintro v1 s2 ⟨o1, H2, I2, w1, rfl, rfl⟩
  refine thn (po_none.run pins s2 σ H2 (fun o J => o = none ∧ J = H2) I2 ⟨rfl, rfl⟩) ?_
  rintro v2 s3 ⟨o2, H3, I3, w2, rfl, rfl⟩
  refine thn (step.run pins s3 σ H3 (fun o J => o = some (-1) ∧ J = H3) I3 ⟨1, rfl, -1, rfl, rfl, rfl⟩) ?_
  rintro v3 s4 ⟨o3, H4, I4, w3, rfl, rfl⟩
  cases w1
  cases w2
  cases w3
  rename_i tk
  have J : Inv X pins σ H4 { s4 with heap := s4.heap.push { cls := .type "slice", data := .fields #[.none, .none, .int (-1) tk] } } := I4.kept (t' := s4.toks) fun b ob z => Heap.get?_push_of_some _ z
  obtain ⟨its, r, ht, hz⟩ := J.tuple hq
  have hl := r.length
  show wpAny (model X.prog X.w) X.A (subscriptTail e (.Slice none none (some (.UnaryOp .USub (.Constant (.int 1) k p1) p2)) p3) (.ref a) (.ref s4.heap.objs.size)) (EP X pins σ Q) X.xe _
  refine tail_any (ops := [.ref a, .ref s4.heap.objs.size]) ht.typeIs PyProof.Rows.slot_tuple_getitem.lookup ?_ (by with_unfolding_all rfl)
  refine get_back ht (Heap.IsSliceOf.new _ .none .none (.int (-1) tk)) ?_ (by rw [List.size_toArray]; omega)
  refine ⟨.ref _, _, J.laid (t' := s4.toks) (o := .tup xs.reverse) (fun b ob z => Heap.get?_push_of_some _ z) (Nat.le_refl _) ?_, rfl, q _ (J.hok.fresh (Nat.le_refl _))⟩
  refine ⟨by rw [List.length_reverse]; omega, _, r.reverse, ?_⟩
  exact ⟨_, Heap.get?_push_size _ rfl, rfl, _, rfl⟩
def dBack (x : D) (q : D → Prop) : Prop := match x with
  | .tup xs => q (.tup xs.reverse)
  | _ => False
def dRevT (ta : TD) : TD := fun ε q xq => ta ε (fun x ε1 => dBack (x.get ε1) fun z => q (.d z) ε1) xq
theorem x_dRevT (ta : TD) (ε : Env) (q : OQ) (xq : XQ) : dRevT ta ε q xq = (ta ε (fun x ε1 => dBack (x.get ε1) fun z => q (.d z) ε1) xq) := rfl
theorem de_back {e : Expr} {ta : TD} {k : Nat} {p1 p2 p3 pos : Pos} (ha : DE X W e ta) : DE X W (.Subscript e (.Slice none none (some (.UnaryOp .USub (.Constant (.int 1) k p1) p2)) p3) pos) (dRevT ta) := by
  refine ⟨PE.conv (pe_back ha.pe) fun σ H Q ⟨G, F, ε, q, xq, I, ht, hq, hx⟩ => ?_⟩
  refine ⟨G, F, ε, _, xq, I, ht, fun F1 H1 v o ε1 s1 k1 I1 r1 h1 => ?_, hx⟩
  have rb := r1.b I1
  generalize o.get ε1 = y at rb h1
  cases y with
  | tup xs =>
    obtain ⟨p, vs, e, _, hp, r⟩ := rb.tup_ I1.sF
    refine ⟨p, vs, e, hp, fun a ha => ?_⟩
    have A := AL.new (o := .tup vs.reverse) I1.sF ha
    exact hq _ _ _ (.d (.tup xs.reverse)) ε1 (s1.trans A.sF) k1 (I1.al A) (.tup (.inl upd_same) (r.reverse.mono A.sF)) h1
  | _ => exact h1.elim
end
end Zd
namespace Zd
open PySem PySem.Spec L2 PyProof.Rows

/-! ### an exception that is kept under its name when the suite has ended -/
/-- what lay untracked is tracked from here -/
theorem adopt {X : Cx} {pins : List (Addr × Obj)} {σ : L2.St} {H : Hp} {s : Shared} {a C : Addr} {d : Option Addr} {oe : Obj} {vs : Array Value}
    (I : Inv X ((a, oe) :: pins) σ H s) (hz : Zc (.ref C) d oe) (hd : oe.data = .fields vs) (h0 : X.s_0.heap.get? a = none) (hp : ∀ p ∈ X.pn ++ pins, p.1 ≠ a) :
    Inv X pins σ (upd H a (ExV C d a)) s := by
  have pa := I.pin (a, oe) (List.mem_append_right _ List.mem_cons_self)
  obtain ⟨g, na, nL, nF, nc⟩ := pa
  have ne0 : ∀ b o, X.s_0.heap.get? b = some o → b ≠ a := fun b o e z => by rw [z, h0] at e; cases e
  have st : ∀ {x : Addr} {o : HO}, H x = some o → upd H a (ExV C d a) x = some o := fun {x o} e => by rw [upd_ne (fun z => by rw [z, na] at e; cases e)]; exact e
  have off : ∀ {x : Addr}, x ≠ a → H x = none → upd H a (ExV C d a) x = none := fun {x} n e => by rw [upd_ne n]; exact e
  exact
    { ok := I.ok, os := I.os, bare := I.bare, loc := I.loc, cell := I.cell, len := I.len
      base :=
        { keep := I.base.keep, slot := I.base.slot, there := I.base.there
          free := fun b o e n x => off (ne0 b o e) (I.base.free b o e n x)
          tups := fun b xs e => st (I.base.tups b xs e)
          frzs := fun b o u e => st (I.base.frzs b o u e)
          tbls := fun b ps e => let ⟨m, q⟩ := I.base.tbls b ps e; ⟨m, st q⟩ }
      free := off (Ne.symm nL) I.free
      freeC := fun x c e => off (fun z => by
        obtain ⟨v, o, ho, hv⟩ := I.cell x c e
        rw [z, g] at ho
        cases ho
        exact nc _ hv) (I.freeC x c e)
      pin := fun p m => by
        obtain ⟨q1, q2, q3⟩ := I.pin p ((List.mem_append.mp m).elim (List.mem_append_left _) fun z => List.mem_append_right _ (List.mem_cons_of_mem _ z))
        exact ⟨q1, off (hp p m) q2, q3⟩
      hok := fun b o e => by
        by_cases hb : b = a
        · subst hb
          rw [upd_same] at e
          cases e
          exact ⟨⟨oe, vs, g, hz, hd⟩, ⟨oe, g⟩, fun h1 h2 ⟨o1, v1, e1, z1, d1⟩ k => ⟨o1, v1, k _ e1, z1, d1⟩⟩
        · rw [upd_ne hb] at e
          exact (I.hok b o e).stay (fun _ _ _ q => q) (fun _ q => st q) fun _ _ q => st q }
/-- the ends of a suite that keeps the exception at a -/
def keepE (i : Nat) (a C : Addr) (d : Option Addr) (D : Ends) : Ends where
  nx := fun st Hs => Hs a = none → D.nx (st.set i none) (upd Hs a (ExV C d a))
  rt := fun _ _ => False
  bk := fun _ _ => False
  ct := fun _ _ => False
/-- what a clause wishes whose suite keeps what it caught -/
def wKeep (K : PySem.W.Frag) (c : Value) (i : Nat) (ts : TS) (Wo : WX) (D : Ends) : WX := fun k d st Hs =>
  ∃ y, PySem.W.exmOne K k c = some y ∧ (y = true → ∃ C, k = .ref C ∧ ∀ a, Hs a = none → ts (keepE i a C d D) (st.set i (some (.ref a))) Hs) ∧ (y = false → Wo k d st Hs)
section
variable {X : Cx} {x n : Str} {c : Value} {i : Nat} {body suite : List Stmt} {b1 : Stmt} {np pos pos' : Pos} {tb : WX → TS} {ts : TS} {Wo : WX}
/-- an address of the suite's own pin, back in the def's context -/
theorem from_suite {a : Addr} {q : Addr × Obj} {pins : List (Addr × Obj)} {st : L2.St} {Hs : Hp} {s : Shared} (J : Inv (X.suite a (q :: (X.pn ++ pins))) [] st Hs s) (ok : X.Ok) : Inv X (q :: pins) st Hs s :=
  { ok := ok, os := J.os, bare := J.bare, base := J.base, loc := J.loc, cell := J.cell, free := J.free, freeC := J.freeC, hok := J.hok, len := J.len
    pin := fun p m => J.pin p (List.mem_append_left _ (by
      rcases List.mem_append.mp m with z | z
      · exact List.mem_cons_of_mem _ (List.mem_append_left _ z)
      · rcases List.mem_cons.mp z with z | z
        · rw [z]; exact List.mem_cons_self
        · exact List.mem_cons_of_mem _ (List.mem_append_right _ z))) }
theorem ps_tryV (hs : X.stack = X.env :: X.outer) (hf : X.env.frame = some X.env.locals) (hex : X.ex = []) (hN : X.N.Nodup) (hi : X.N[i]? = some n) (hln : X.env.kindOf n = some .local) (hc : Names X x c) (tk : Takes X Wo)
    (hb : ∀ (V : WX) (pn : List (Addr × Obj)) (xe : Value → Shared → Prop), Takes (X.tr pn xe) V → PassesOwn (model X.prog X.w) X.A X.env xe → PSs (X.tr pn xe) body (tb V))
    (hsu : ∀ (a : Addr) (oe : Obj) (pn : List (Addr × Obj)), PSs (X.suite a ((a, oe) :: pn)) (b1 :: suite) ts) :
    PS X (.Try body [.ExceptHandler (some (.Name x np)) (some n) (b1 :: suite) pos'] [] [] pos) (fun D st Hs => tb (wKeep X.K c i ts Wo D) D st Hs) := by
  constructor
  intro pins sh st Hs D I hw
  have ok := I.ok
  have fr0 : X.A.frames = some (X.env :: X.outer) := ok.frames.trans (congrArg some hs)
  apply wpAny_Try_except
  have run := (hb (wKeep X.K c i ts Wo D) (X.pn ++ pins) (fun e z => wpAny (model X.prog X.w) X.A (noteFrame e X.env) (fun _ z2 => wpAny (model X.prog X.w) X.A (setFlight e none) (fun _ z3 =>
    wpAny (model X.prog X.w) X.A (handleBy e X.env [.ExceptHandler (some (.Name x np)) (some n) (b1 :: suite) pos']) (SP X pins D) X.xe z3) X.xe z2) X.xe z) ?lands PassesOwn.looking).run [] sh st Hs D (I.toTry _) hw
  case lands =>
    rintro u z ⟨a, B, sI, pins1, st1, H1, k, d, rfl, J0, nb, up, sky, na, os, ag, y, hy, yes, no⟩
    have J : Inv X pins st1 H1 sI := J0.ofTry ok
    replace sky : Sky B (X.env :: X.outer) a (Zc k d) X.env.locals z.heap := hs ▸ sky
    show wpAny (model X.prog X.w) X.A (noteFrame (.ref a) X.env) _ _ _
    apply Sky.land Zc.steady fr0 hf sky
    intro h3 fl3 up3
    obtain ⟨o3, v3, g3, z3, d3⟩ := fl3.there
    have J3 : Inv X pins st1 H1 { z with heap := h3 } := J.landed nb fl3.1 (up.trans up3) os ag
    have offFr : a ∉ frs (X.env :: X.outer) := fun m => by
      obtain ⟨_, o', e', nf⟩ := fl3.2.2.1.mem m
      rw [g3] at e'
      cases e'
      exact nf _ d3
    have nL : a ≠ X.env.locals := fun e => offFr (by unfold frs; rw [List.mem_filterMap]; exact ⟨X.env, List.mem_cons_self, by rw [hf, e]⟩)
    have nF : a ∉ X.fs := fun m => by
      obtain ⟨e, he, q⟩ := List.mem_filterMap.mp m
      exact offFr (by unfold frs; rw [List.mem_filterMap]; exact ⟨e, List.mem_cons_of_mem _ he, q⟩)
    have fresh : sI.heap.get? a = none := by
      cases e : sI.heap.get? a with
      | none => rfl
      | some o =>
        have := nb a o e (by rw [hs]; exact offFr)
        rw [fl3.2.1] at this
        cases this
    have fresh0 : X.s_0.heap.get? a = none := by
      cases e : X.s_0.heap.get? a with
      | none => rfl
      | some o =>
        obtain ⟨o', e'⟩ := J.base.there a o e (by rw [hex]; simp)
        rw [fresh] at e'
        cases e'
    have apart : ∀ p ∈ X.pn ++ pins, p.1 ≠ a := fun p m e => by
      have := (J.pin p m).1
      rw [e, fresh] at this
      cases this
    have S3 := J3.suite g3 d3 na nL nF
    apply wpAny_handleBy_cons _ (by intro q; cases q)
    apply codeAny_handlers_test
    have ty : PySem.W.Looks (model X.prog X.w) h3 (typeOf (.ref a)) k := fun A Q E s kk q => wpAny_typeOf_ref (kk _ _ g3) (z3.1.symm ▸ q)
    have mt := PySem.W.exm_one (M := model X.prog X.w) (J3.kIn) ty hy
    have nm : ∀ {Q E : Value → Shared → Prop}, Q c { z with heap := h3 } → wpAny (model X.prog X.w) (X.A.mark (some (.ref a))) (eval (.Name x np) X.env) Q E { z with heap := h3 } := fun {Q E} q => by
      obtain ⟨g1, g2, hm | ⟨hm, hv, hn⟩⟩ := hc
      · exact ld_glob (X := X.suite a ((a, o3) :: (X.pn ++ pins))) S3 g1 hm q g2
      · exact ld_blt (X := X.suite a ((a, o3) :: (X.pn ++ pins))) S3 g1 hm hv q hn g2
    apply nm
    apply mt.here
    cases y with
    | true =>
      obtain ⟨C, rfl, go⟩ := yes rfl
      apply codeAny_handlers_suite_as
      apply HandSPX.lands_againZ fl3
      intro h4 fl4 up4
      obtain ⟨o4, v4, g4, z4, d4⟩ := fl4.there
      have J4 : Inv X pins st1 H1 { z with heap := h4 } := J.landed nb fl4.1 ((up.trans up3).trans up4) os ag
      apply store_ok (X := X.suite a ((a, o4) :: (X.pn ++ pins))) (v := .ref a) (J4.suite g4 d4 na nL nF) hN hi (.inl hln) rfl _ (.inr hln)
      intro s5 S5
      refine wpAny_mono ((hsu a o4 (X.pn ++ pins)).run [] s5 _ H1 _ S5 (go a na)) (fun f s6 sp => ?_) fun _ _ q => q.elim
      cases f with
      | next =>
        obtain ⟨st6, H6, S6, q6⟩ := sp
        have J6 := from_suite S6 ok
        exact gone_ok J6 hN hi hln fun s7 J7 => ⟨_, _, adopt J7 z4 d4 fresh0 apart, q6 (J6.pin (a, o4) (List.mem_append_right _ List.mem_cons_self)).2.1⟩
      | brk =>
        obtain ⟨_, _, _, q6⟩ := sp
        exact q6.elim
      | cont =>
        obtain ⟨_, _, _, q6⟩ := sp
        exact q6.elim
      | ret u =>
        obtain ⟨_, _, _, _, _, q6⟩ := sp
        exact q6.elim
    | false =>
      show wpAny _ X.A (handleBy (.ref a) X.env []) _ _ _
      apply wpAny_handleBy_nil
      obtain ⟨_, _, _, oe, vs, T, oT, tv, he, hz, hd, h1, hr⟩ := id fl3
      unfold PySem.passOn
      apply wpAny_bind
      apply wpAny_field he hd h1
      rw [if_neg (by simp)]
      have fly : wpAny (model X.prog X.w) X.A (setFlight (.ref a) X.env.frame) (fun _ s4 => wpAny (model X.prog X.w) X.A (throw (.ref a) : Sem Flow) (SP X pins D) X.xe s4) X.xe { z with heap := h3 } := by
        rw [hf]
        apply HandSPX.setFlight_upZ fl3
        intro h4 held up4
        exact wpAny_throw (tk _ _ ⟨a, B, sI, pins, st1, H1, k, d, rfl, J, nb, (up.trans up3).trans up4, .inr (.inr (by rw [hs]; exact held)), na, os, ag, no rfl⟩)
      first
        | exact wpAny_bind (wpAny_pure (wpAny_bind fly))
        | exact wpAny_bind fly
  refine wpAny_mono run (fun f s1 sp => ?_) fun e s1 he => he
  cases f with
  | next =>
    obtain ⟨st', H', J', q⟩ := sp
    exact wpAny_execs_nil ⟨st', H', J'.ofTry ok, q⟩
  | brk =>
    obtain ⟨st', H', J', q⟩ := sp
    exact ⟨st', H', J'.ofTry ok, q⟩
  | cont =>
    obtain ⟨st', H', J', q⟩ := sp
    exact ⟨st', H', J'.ofTry ok, q⟩
  | ret u =>
    obtain ⟨v, st', H', J', r, q⟩ := sp
    exact ⟨v, st', H', J'.ofTry ok, r, q⟩
end
#print axioms ps_tryV
end Zd
namespace Zd
open PySem PySem.Spec L2 PyProof.Rows TL

/-! ### exceptions over data: raise, try .. except C as e: m = e, isinstance of what is kept -/
/-- an own class that may be raised -/
structure ExR (K : PySem.W.Frag) (mg : Str → Option Value) (n : Str) (C : Addr) : Prop where
  g : mg n = some (.ref C)
  nm : ClsNm K n C
  x : PySem.W.excIn K C [.type "ValueError", .type "Exception", .type "BaseException", .type "object"] "ValueError.__new__" = true
  k : PySem.W.keepIn K (.ref C) = true
  b : PySem.W.subIn K (.ref C) (.type "BaseException") = some true
  t : PySem.W.typeIn K (.ref C) = some (.type "type")
theorem ClsNm.eq {K : PySem.W.Frag} {n : Str} {C C' : Addr} (a : ClsNm K n C) (b : ClsNm K n C') : C' = C := by
  have e := a.symm.trans b
  cases e
  rfl
/-- which kept classes the except clause for c takes -/
def ExM (K : PySem.W.Frag) (tab : List (Str × Bool)) (c : Value) : Prop := ∀ n b C, tab.lookup n = some b → ClsNm K n C → PySem.W.exmOne K (.ref C) c = some b
/-- of which kept classes isinstance(e, c) says what -/
def ExI (K : PySem.W.Frag) (tab : List (Str × Bool)) (c : Value) : Prop := ∀ n b C, tab.lookup n = some b → ClsNm K n C → ExcC K C ∧ PySem.W.kitOne K (.ref C) c = some b
theorem ExM.nil {K : PySem.W.Frag} {c : Value} : ExM K [] c := fun _ _ _ h => by cases h
theorem ExM.cons {K : PySem.W.Frag} {c : Value} {n : Str} {b : Bool} {C : Addr} {tab : List (Str × Bool)} (hn : ClsNm K n C) (h : PySem.W.exmOne K (.ref C) c = some b) (t : ExM K tab c) : ExM K ((n, b) :: tab) c := fun m y D e hm => by
  rw [List.lookup_cons] at e
  by_cases q : m = n
  · subst q
    rw [beq_self_eq_true] at e
    cases e
    rw [hn.eq hm]
    exact h
  · rw [beq_eq_false_iff_ne.mpr q] at e
    exact t m y D e hm
theorem ExI.nil {K : PySem.W.Frag} {c : Value} : ExI K [] c := fun _ _ _ h => by cases h
theorem ExI.cons {K : PySem.W.Frag} {c : Value} {n : Str} {b : Bool} {C : Addr} {tab : List (Str × Bool)} (hn : ClsNm K n C) (x : ExcC K C) (h : PySem.W.kitOne K (.ref C) c = some b) (t : ExI K tab c) : ExI K ((n, b) :: tab) c := fun m y D e hm => by
  rw [List.lookup_cons] at e
  by_cases q : m = n
  · subst q
    rw [beq_self_eq_true] at e
    cases e
    rw [hn.eq hm]
    exact ⟨x, h⟩
  · rw [beq_eq_false_iff_ne.mpr q] at e
    exact t m y D e hm
def sRaise (n : Str) : TSd := fun Dn ε => Dn.xq ⟨n, none⟩ ε
section
variable {X : Cx} {W : WX} {x m : Str} {C : Addr} {j0 : Nat} {p p2 pos pos2 : Pos}
theorem ds_raise (hc : X.calm = true) (tk : Takes X W) (R : ExR X.K X.mg x C) (hg : Gl X x) (hdb : (x == ("__debug__" : Str)) = false := by decide) :
    DS X W (.Raise (some (.Call (.Name x p) [.Constant (.str m) j0 p2] [] pos)) none pos2) (sRaise x) :=
  ⟨PS.conv (ps_raise hc tk (pmk_own PySem.F.excBase_ValueError R.x R.g R.k (raises_own R.b R.t) hg hdb)) fun De σ H ⟨G, F, ε, Dn, I, ht, ok⟩ =>
    ok.xq F H σ ε ⟨x, none⟩ (.ref C) none (.refl _) I ⟨C, R.nm, rfl, rfl⟩ ht⟩
/-- what the clause does with what it caught: kept at slot j; the clause's own name i goes -/
def sTryV (tb : TSd) (i j : Nat) (tab : List (Str × Bool)) : TSd := fun Dn ε => tb { Dn with xq := fun e ε1 => match tab.lookup e.cls with
  | some true => e.fs = none ∧ i < ε1.length ∧ ownAt ε1 i = none ∧ notPar ε1 j ∧ Dn.nx ((ε1.set j (.d (.exc e.cls []))).set i .no)
  | some false => Dn.xq e ε1
  | none => False } ε
variable {n y : Str} {c : Value} {i j : Nat} {body : List Stmt} {np np2 jp pos' : Pos} {tb : TSd} {tab : List (Str × Bool)}
theorem ds_tryV (hs : X.stack = X.env :: X.outer) (hf : X.env.frame = some X.env.locals) (hex : X.ex = []) (hN : X.N.Nodup) (hi : X.N[i]? = some n) (hln : X.env.kindOf n = some .local) (hj : X.N[j]? = some y) (hly : Loc X.env.scope y) (hij : i ≠ j)
    (hc : Names X x c) (tk : Takes X W) (hm : ExM X.K tab c)
    (hb : ∀ (V : WX) (pn : List (Addr × Obj)) (xe : Value → Shared → Prop), Takes (X.tr pn xe) V → PassesOwn (model X.prog X.w) X.A X.env xe → DSs (X.tr pn xe) V body tb)
    (hsu : ∀ (a : Addr) (oe : Obj) (pn : List (Addr × Obj)), PSs (X.suite a ((a, oe) :: pn)) [.Assign [.Name y jp] (.Name n np2) pos2] (tAsg (tVar i) (gName j))) :
    DS X W (.Try body [.ExceptHandler (some (.Name x np)) (some n) [.Assign [.Name y jp] (.Name n np2) pos2] pos'] [] [] pos) (sTryV tb i j tab) := by
  refine ⟨PS.conv (ps_tryV (tb := fun V => LS X.K V tb) (ts := tAsg (tVar i) (gName j)) hs hf hex hN hi hln hc tk (fun V pn xe t po => (hb V pn xe t po).pss) hsu) fun De σ H ⟨G, F, ε, Dn, I, ht, ok⟩ => ?_⟩
  refine ⟨G, F, ε, _, I, ht, ok.nx, ok.rt, ok.bk, ok.ct, fun F1 H1 σ1 ε1 e cls d s1 I1 xo h1 => ?_, ok.ro⟩
  obtain ⟨C, nm, rfl, xf⟩ := xo
  cases hl : tab.lookup e.cls with
  | none => simp only [hl] at h1
  | some b =>
    have hb := hm e.cls b C hl nm
    refine ⟨b, hb, fun e1 => ?_, fun e1 => ?_⟩
    · subst e1
      simp only [hl] at h1
      obtain ⟨e2, li, oi, npj, h2⟩ := h1
      rw [e2] at xf
      have xf : d = none := xf
      subst xf
      refine ⟨C, rfl, fun a na => ?_⟩
      have lσ : i < σ1.length := by rw [I1.len]; exact li
      refine ⟨.ref a, by rw [List.getElem?_set_self lσ], fun na' => ?_⟩
      have al : AL F1 H1 (upd F1 a (ExV C none a)) (upd H1 a (ExV C none a)) := .new I1.sF na
      have I2 := ((I1.al al).setd npj (Rp.exc (n := e.cls) (upd_same ..) nm)).forget (i := i) (by rw [own_set_ne hij]; exact oi)
      have es : ((σ1.set i (some (.ref a))).set j (some (.ref a))).set i none = (σ1.set j (some (.ref a))).set i none := by
        rw [List.set_comm _ _ (Ne.symm hij), List.set_set, List.set_comm _ _ hij]
      show De.nx (((σ1.set i (some (.ref a))).set j (some (.ref a))).set i none) (upd H1 a (ExV C none a))
      rw [es, List.set_comm _ _ (Ne.symm hij)]
      rw [List.set_comm _ _ (Ne.symm hij)] at I2
      exact ok.nx _ _ _ _ (s1.trans al.sF) I2 h2
    · subst e1
      simp only [hl] at h1
      exact ok.xq F1 H1 σ1 ε1 e _ d s1 I1 ⟨C, nm, rfl, xf⟩ h1
end

/-! ### isinstance of a kept exception -/
/-- a kept exception's class at Hp -/
def rIsV (K : PySem.W.Frag) : List V → Hp → VK → Prop := fun xs H Q => ∃ (a C : Addr) (c : V) (u : Value) (b : Bool), xs = [.ref a, c] ∧ ClsV c u ∧ H a = some (ExV C none a) ∧ ExcC K C ∧ PySem.W.kitOne K (.ref C) u = some b ∧ Q (.bl b) H
theorem call_isV {X : Cx} : CallR X (.builtin "isinstance") (rIsV X.K) := by
  intro pn sh σ H xs us Q I r h
  obtain ⟨a, C, c, u, b, rfl, k, ea, xc, e, q⟩ := h
  obtain ⟨u1, u2, rfl, r1, r2⟩ := vals2 r
  have e2 := k.eq r2
  subst e2
  cases (show u1 = Value.ref a from r1)
  obtain ⟨⟨oe, vs, hg, hz, hv⟩, _⟩ := I.hok a _ ea
  have J : PySem.W.InstAt sh.heap a oe C none := by
    obtain ⟨oc, od, oda, osl⟩ := oe
    obtain ⟨z1, z2⟩ := hz
    cases z1
    cases z2
    cases hv
    exact ⟨hg, rfl, rfl, trivial⟩
  exact PySem.W.kia_one (PySem.W.handS_kitx_exc xc.hg xc.hk xc.hs xc.hd xc.ha xc.hn xc.ht xc.hm) I.kIn J e (fun z => nomatch z) fun tk => ⟨.bl b, H, I.kept (t' := tk) fun _ _ z => z, rfl, q⟩
def dIsE (tab : List (Str × Bool)) (ta : TD) : TD := fun ε q xq => ta ε (fun o ε1 => match o.get ε1 with
  | .exc n [] => (match tab.lookup n with
    | some b => q (.d (.bl b)) ε1
    | none => False)
  | _ => False) xq
theorem x_dIsE (tab : List (Str × Bool)) (ta : TD) (ε : Env) (q : OQ) (xq : XQ) : dIsE tab ta ε q xq = (ta ε (fun o ε1 => match o.get ε1 with
  | .exc n [] => (match tab.lookup n with
    | some b => q (.d (.bl b)) ε1
    | none => False)
  | _ => False) xq) := rfl
section
variable {X : Cx} {W : WX} {a : Expr} {ta : TD} {T : Str} {p p2 pos : Pos} {cv : V} {c : Value} {tab : List (Str × Bool)}
theorem de_isE (ha : DE X W a ta) (hg : Gl X "isinstance") (hm : X.mg "isinstance" = none) (hT : PE X (.Name T p2) (tC cv)) (kc : ClsV cv c) (ht : ExI X.K tab c)
    (hs : starEach [a, .Name T p2] X.env = (false, eval a X.env) :: starEach [.Name T p2] X.env := by rfl) (hs2 : starEach [.Name T p2] X.env = (false, eval (.Name T p2) X.env) :: starEach [] X.env := by rfl)
    (hpl : (backTo pos (starEach [.Name T p2] X.env)).any (·.1) = false := by rfl) : DE X W (.Call (.Name "isinstance" p) [a, .Name T p2] [] pos) (dIsE tab ta) := by
  refine ⟨PE.conv (pe_callB call_isV hg hm PyProof.Rows.boot_isinstance (pa_cons ha.pe (pa_cons hT pa_nil hs2) hs) (by decide) (by decide) hs hpl) fun σ H Q ⟨G, F, ε, q, xq, I, hw, hq, hx⟩ => ?_⟩
  refine ⟨G, F, ε, _, xq, I, hw, fun F1 H1 v o ε1 s1 k1 I1 r1 h1 => ?_, hx⟩
  have rb := r1.b I1
  generalize o.get ε1 = z at rb h1
  split at h1
  · rename_i n
    split at h1
    · rename_i b hl
      rcases rb with rb | ⟨_, _, oc, _, _, _, e⟩
      · cases rb with
        | @exc ad C _ hF nm =>
          obtain ⟨xc, kt⟩ := ht n b C hl nm
          exact ⟨ad, C, cv, c, b, rfl, kc, I1.sF _ _ hF, xc, kt, hq F1 H1 _ (.d (.bl b)) ε1 s1 k1 I1 (Rp.bl b) h1⟩
      · cases oc <;> cases e
    · exact h1.elim
  · exact h1.elim
end
end Zd
set_option maxHeartbeats 4000000
namespace Zd
open PySem PySem.Spec L2 PyProof.Rows TL

/-! ### tuples, empty ones too: t + u, t * k, t[lo:hi] -/
/-- () * k is () itself -/
theorem mul_none (l : Addr) (n : Nat) (dd : Option Addr) (sl : Array (Option Value)) (k : Int) (u : Tok) (lo : (decide (k < -(2 ^ 63)) || decide (k ≥ 2 ^ 63)) = false) :
    Meets (Builtin.«tuple.__mul__» ⟨[.ref l, .int k u], []⟩) (fun _ R s => s.heap.get? l = some { cls := .type "tuple", dict := dd, data := .seq #[] n, slots := sl } ∧ R (.ok (.ret (Value.ref l))) s) :=
  .of_wp fun prog w A R s h => by
    obtain ⟨hp, g, d, tk, os⟩ := s
    obtain ⟨at_, h⟩ := h
    have ix := AutoSeq1.idx_int
    wp_walk using wpAny_loadPart' at_
    repeat (first
      | (refine wpAny_ite_false (decide_eq_false (by rw [lo]; exact Bool.false_ne_true)) ?_; wp_walk using wpAny_loadPart' at_)
      | (refine wpAny_ite_true (by rfl) ?_; wp_walk using wpAny_loadPart' at_))
    exact ⟨_, rfl, h⟩
section
variable {X : Cx}
theorem op_repT0 : OpR X (binaryOp .Mult) (fun x y H Q => ∃ l k, x = .ref l ∧ y = .int k ∧ SqT X.K H l [] ∧ 2 ≤ k ∧ k ≤ 1000 ∧ Q (.ref l) H) := by
  intro pn sh σ H x y v u Q I rx ry h
  obtain ⟨l, k, rfl, rfl, hT, h1, h2, q⟩ := h
  cases rx
  obtain ⟨t, rfl⟩ := ry
  obtain ⟨its, r, ⟨⟨cls, dd, data, sl⟩, ho, hc, n, hd⟩, hs⟩ := I.tuple hT
  cases r
  cases hc
  cases hd
  have lo : (decide (k < -(2 ^ 63)) || decide (k ≥ 2 ^ 63)) = false := by
    rw [Bool.or_eq_false_iff]
    exact ⟨decide_eq_false (by omega), decide_eq_false (by omega)⟩
  exact wpAny_binaryOp_repeat_ref (T := "tuple") (U := "int") (by decide) ⟨_, ho, rfl⟩ (fun s' => typeIs_int s' k t) noFill_tuple_mul F.fills_int_mul F.slot_int_rmul repeat_tuple F.slot_int_index.lookup
    (call_meets F.slot_int_rmul (typeIs_int sh k t) F.entry_int_rmul (F.args_int_rmul_2 _ _) (int_rmul_tuple k t l #[] n dd sl)
      ⟨ho, rfl, ⟨_, ho, rfl⟩, call_meets F.slot_tuple_mul ⟨_, ho, rfl⟩ F.entry_tuple_mul (F.args_tuple_mul_2 _ _) (mul_none l n dd sl k t lo) ⟨ho, ⟨.ref l, H, I, rfl, q⟩⟩⟩)
def dAddA : D → D → (D → Prop) → Prop
  | .tup xs, .tup ys, q => xs.length + ys.length ≤ sizeLine ∧ q (.tup (xs ++ ys))
  | x, y, q => dAdd x y q
def addRA : D2 X (binaryOp .Add) dAddA where
  r := _
  h := OpR.or addR.h op_catA
  hr := fun F H v w x y q Q S rx ry hd hQ => by
    have old : dAdd x y q → addR.r v w H Q := fun z => addR.hr F H v w x y q Q S rx ry z hQ
    cases x <;> cases y <;> try exact .inl (old hd)
    rename_i xs ys
    obtain ⟨p, vs, e1, h0, h1, r1⟩ := rx.tup_ S
    obtain ⟨p', vs', e2, h0', h2, r2⟩ := ry.tup_ S
    obtain ⟨hz, hd⟩ : xs.length + ys.length ≤ sizeLine ∧ q (.tup (xs ++ ys)) := hd
    refine .inr ⟨p, p', vs, vs', e1, e2, h1, h2, by rw [r1.length, r2.length]; exact hz, fun z => ?_, fun _ z => ?_, fun _ _ a ha => ?_⟩
    · subst z
      cases r1
      exact hQ F H _ _ (al_id S) (.tup h0' r2) hd
    · subst z
      cases r2
      rw [List.append_nil] at hd
      exact hQ F H _ _ (al_id S) (.tup h0 r1) hd
    · have A := AL.new (o := .tup (vs ++ vs')) S ha
      exact hQ _ _ _ _ A (.tup (.inl upd_same) ((r1.append r2).mono A.sF)) hd
def dMulA : D → D → (D → Prop) → Prop
  | .tup xs, .int k, q => 2 ≤ k ∧ k ≤ 1000 ∧ xs.length ≤ 1000 ∧ q (.tup (List.replicate k.toNat xs).flatten)
  | x, y, q => dMul x y q
def mulRA : D2 X (binaryOp .Mult) dMulA where
  r := _
  h := OpR.or mulR.h (OpR.or op_repT op_repT0)
  hr := fun F H v w x y q Q S rx ry hd hQ => by
    have old : dMul x y q → mulR.r v w H Q := fun z => mulR.hr F H v w x y q Q S rx ry z hQ
    cases x <;> cases y <;> try exact .inl (old hd)
    rename_i xs k
    obtain ⟨p, vs, e1, h0, h1, r1⟩ := rx.tup_ S
    obtain ⟨a1, a2, a3, hd⟩ : 2 ≤ k ∧ k ≤ 1000 ∧ xs.length ≤ 1000 ∧ q (.tup (List.replicate k.toNat xs).flatten) := hd
    by_cases hn : vs = []
    · subst hn
      cases r1
      have e : (List.replicate k.toNat ([] : List D)).flatten = [] := by simp
      rw [e] at hd
      exact .inr (.inr ⟨p, k, e1, ry.int_, h1, a1, a2, hQ F H _ _ (al_id S) (.tup h0 .nil) hd⟩)
    · refine .inr (.inl ⟨p, k, vs, e1, ry.int_, h1, hn, a1, a2, by rw [r1.length]; exact a3, fun a ha => ?_⟩)
      have A := AL.new (o := .tup (List.replicate k.toNat vs).flatten) S ha
      exact hQ _ _ _ _ A (.tup (.inl upd_same) ((RpL.rep r1 _).mono A.sF)) hd
def dSlA (x : D) (lo hi : Option Int) (q : D → Prop) : Prop := match x with
  | .tup xs => q (.tup (cut xs lo hi))
  | x => dSl x lo hi q
def dSliceA (ta : TD) (tl th : TOd) : TD := fun ε q xq => ta ε (fun x ε1 => tl ε1 (fun lo ε2 => th ε2 (fun hi ε3 => dSlA (x.get ε3) lo hi fun z => q (.d z) ε3) xq) xq) xq
theorem x_dSliceA (ta : TD) (tl th : TOd) (ε : Env) (q : OQ) (xq : XQ) : dSliceA ta tl th ε q xq = (ta ε (fun x ε1 => tl ε1 (fun lo ε2 => th ε2 (fun hi ε3 => dSlA (x.get ε3) lo hi fun z => q (.d z) ε3) xq) xq) xq) := rfl
theorem cut_whole {α : Type} {xs : List α} {lo hi : Option Int} (h : HT.sIx xs.length 0 lo = 0 ∧ HT.sIx xs.length xs.length hi = xs.length) : cut xs lo hi = xs := by
  unfold cut
  rw [h.1, h.2]
  simp
variable {W : WX} {a : Expr} {ta : TD} {pos : Pos}
theorem de_sliceA {lo hi : Option Expr} {tl th : TOd} {p2 : Pos} (ha : DE X W a ta) (hl : DO X W lo tl) (hh : DO X W hi th) : DE X W (.Subscript a (.Slice lo hi none p2) pos) (dSliceA ta tl th) := by
  refine ⟨PE.conv (pe_slice (SlR.or sl_list (SlR.or sl_tupA sl_str)) ha.pe hl.po hh.po) fun σ H Q ⟨G, F, ε, q, xq, I, ht, hq, hx⟩ => ?_⟩
  refine ⟨G, F, ε, _, xq, I, ht, fun F1 H1 v o ε1 s1 k1 I1 r1 h1 => ?_, hx⟩
  refine ⟨G, F1, ε1, _, xq, I1, h1, fun F2 H2 l ε2 s2 k2 I2 h2 => ?_, hx.mono s1⟩
  refine ⟨G, F2, ε2, _, xq, I2, h2, fun F3 H3 u ε3 s3 k3 I3 h3 => ?_, hx.mono (s1.trans s2)⟩
  have rx := (r1.mono (s2.trans s3) (k2.trans k3)).b I3
  have S := I3.sF
  generalize o.get ε3 = x at h3 rx
  have fin := fun F4 H4 z d (al : AL F3 H3 F4 H4) (rz : Rp X.K F4 z d) (hz : q (.d d) ε3) => hq F4 H4 z (.d d) ε3 (((s1.trans s2).trans s3).trans al.sF) ((k1.trans k2).trans k3) (I3.al al) rz hz
  cases x with
  | lst xs =>
    obtain ⟨p, vs, e, hp, r⟩ := rx.lst_ S
    refine .inl ⟨p, vs, e, SqL.of hp, fun a ha => ?_⟩
    have A := AL.new (o := .lst (cutV vs l u)) S ha
    exact fin _ _ _ _ A (.lst upd_same ((r.cut l u).mono A.sF)) h3
  | ro xs =>
    obtain ⟨p, vs, e, hp, r⟩ := rx.ro_ S
    refine .inl ⟨p, vs, e, hp, fun a ha => ?_⟩
    have A := AL.new (o := .lst (cutV vs l u)) S ha
    exact fin _ _ _ _ A (.lst upd_same ((r.cut l u).mono A.sF)) h3
  | tup xs =>
    obtain ⟨p, vs, e, h0, hp, r⟩ := rx.tup_ S
    have hl := r.length
    refine .inr (.inl ⟨p, vs, e, hp, fun hw => ?_, fun _ a ha => ?_⟩)
    · rw [hl] at hw
      have h3 : q (.d (.tup (cut xs l u))) ε3 := h3
      rw [cut_whole hw] at h3
      rw [e] at rx
      exact fin _ _ _ _ (al_id S) (.tup h0 r) h3
    · have A := AL.new (o := .tup (cutV vs l u)) S ha
      exact fin _ _ _ _ A (.tup (.inl upd_same) ((r.cut l u).mono A.sF)) h3
  | str cs =>
    obtain ⟨hz, h3⟩ : cs.length ≤ sizeLine ∧ q (.d (.str (cut cs l u))) ε3 := h3
    obtain ⟨e1, a1⟩ := rx.str_
    refine .inr (.inr ⟨_, e1, by rw [mk_len]; exact hz, ?_⟩)
    rw [cutS_mk]
    exact fin _ _ _ _ (al_id S) (.str _ (a1.cut l u)) h3
  | _ => exact h3.elim
end
end Zd
namespace Zd
open PySem PySem.Spec L2 TL

/-! ### x, y = a, b where a name of the two is seen from a comprehension: the pair is laid -/
theorem Iv.lay {K : PySem.W.Frag} {G : Gd} {F H : Hp} {σ : L2.St} {ε : Env} {p : Addr} {o : HO} (I : Iv K G F H σ ε) (na : H p = none) : Iv K G F (upd H p o) σ ε :=
  { s0 := I.s0, sF := I.sF.trans (Same.new na), sH := I.sH.trans (Same.new na), fr := I.fr, len := I.len, d := I.d, dis := I.dis, pn := I.pn, tb := I.tb.anyH fun p' hp' ps' e' => by rw [upd_ne (I.tb.ne0 na p' hp')]; exact e'
    gh := I.gh
    o := fun i c e => by
      obtain ⟨q, ho, h1, h2, h3, h4, h5⟩ := I.o i c e
      exact ⟨q, ho, h1, h2, h3, by rw [upd_ne (ne_of_none h4 na)]; exact h4, h5⟩ }
section
variable {X : Cx} {W : WX} {a b : Expr} {x y : Str} {i j : Nat} {t : TL2} {px py pt pt2 pos : Pos} {k k2}
theorem ds_parC (hc : X.calm = true) (hN : X.N.Nodup) (hi : X.N[i]? = some x) (hj : X.N[j]? = some y) (hij : i ≠ j) (hx : L2.Loc X.env.scope x) (hy : L2.Loc X.env.scope y) (ha : DA2 X W [a, b] t)
    (fx : X.fn x = true ∨ X.env.scope.names.lookup x = some .local := by first | exact .inl rfl | exact .inr rfl) (fy : X.fn y = true ∨ X.env.scope.names.lookup y = some .local := by first | exact .inl rfl | exact .inr rfl)
    (hs : swapsWithSole [.Tuple [.Name x px, .Name y py] k pt] (.Tuple [a, b] k2 pt2) pos.line X.env = pure false := by rfl) (hw : swappedStores [.Tuple [.Name x px, .Name y py] k pt] (.Tuple [a, b] k2 pt2) X.env = pure none := by rfl)
    (h1 : (assignEach [.Tuple [.Name x px, .Name y py] k pt] X.env).map (·.2) = [assign (.Tuple [.Name x px, .Name y py] k pt) X.env] := by rfl)
    (hn : (assignEach [.Name x px, .Name y py] X.env).length = 2 := by rfl) (hst : (assignEach [.Name x px, .Name y py] X.env).findIdx? (·.1) = none := by rfl) :
    DS X W (.Assign [.Tuple [.Name x px, .Name y py] k pt] (.Tuple [a, b] k2 pt2) pos) (sPar [i, j] t) := by
  refine ⟨PS.conv (ps_asg (pe_tup ha.pa) (pg_tup hc (pgs_cons (pg_name hN hi hx fx) (pgs_cons (pg_name hN hj hy fy) pgs_nil)) hn hst) hs hw h1) fun De σ H ⟨G, F, ε, Dn, I, ht, ok⟩ => ?_⟩
  refine ⟨G, F, ε, _, _, I, ht, fun F1 H1 vs ys ε1 Gn s1 I1 e1 p1 ⟨hl, h1⟩ => ?_, ok.x⟩
  have hv : vs.length = 2 := by rw [p1.len, hl]; rfl
  obtain ⟨v, w, rfl⟩ : ∃ v w, vs = [v, w] := match vs, hv with
    | [v, w], _ => ⟨v, w, rfl⟩
  refine ⟨by simp; decide, fun p hp => ⟨p, [v, w], rfl, .inl (.inl upd_same), rfl, v, [w], rfl, w, [], rfl, rfl, ?_⟩⟩
  obtain ⟨F2, zs, ε2, s2, I2, q2, h2⟩ := fz2_of I1 p1 h1
  obtain ⟨ε3, I3, h3⟩ := puts_of (I2.lay (o := .tup [v, w]) hp) q2 h2
  have e : putsV [i, j] [v, w] σ = (σ.set i (some v)).set j (some w) := by
    show (σ.set j (some w)).set i (some v) = _
    rw [List.set_comm _ _ (Ne.symm hij)]
  rw [e] at I3
  exact ok.nx F2 _ _ ε3 (s1.trans s2) I3 h3
end
end Zd
set_option maxHeartbeats 2000000
namespace Zd
open PySem PySem.Spec L2 PyProof.Rows PySem.Froz

/-! ### sets of texts -/
/-- the set at a holds the texts l, each once; its table can be walked -/
def SetX (P : Program) (w : World) (h : Heap) (a : Addr) (l : List Str) : Prop :=
  ∃ D : SD, h.get? a = some (sObj "set" D) ∧ TxOk P w D l ∧ l.Nodup ∧ D.1.size < scanBound ∧ Ris D.2.2.place.toList ∧ (w.params.followText "set-order" = true ∨ D.2.2.led = true)
section
variable {P : Program} {w : World} {A : Around} {E : Value → Shared → Prop} {s : Shared} {a : Addr} {l : List Str}
theorem SetX.at {h h' : Heap} (R : SetX P w h a l) (k : ∀ o, h.get? a = some o → h'.get? a = some o) : SetX P w h' a l := by
  obtain ⟨D, ho, r⟩ := R
  exact ⟨D, k _ ho, r⟩
theorem SetX.new {h : Heap} (P : Program) (w : World) : SetX P w (h.push { cls := .type "set", dict := none, data := .set #[] 0 (.fresh 0 0 (!w.params.followText "set-order")) }) h.objs.size [] := by
  refine ⟨(#[], 0, .fresh 0 0 (!w.params.followText "set-order")), Heap.get?_push_size _ rfl, .nil (by rfl), List.nodup_nil, (show 0 < scanBound by decide), List.Pairwise.nil, ?_⟩
  show _ ∨ (!w.params.followText "set-order") = true
  cases w.params.followText "set-order"
  · exact .inr rfl
  · exact .inl rfl
theorem tailTx_more {ep : Nat} {es : Array (Int × Value)} {t : SetTable} {d : Bool} {c : Prop} (r : Ris t.place.toList) (g : c ∨ t.led = true) : Ris (tailTx ep es t d).2.2.place.toList ∧ (c ∨ (tailTx ep es t d).2.2.led = true) := by
  unfold tailTx
  split
  · exact ⟨relayAll_ris _ _ _, g.imp id fun z => (relayAll_led t es _).trans z⟩
  · exact ⟨r, g⟩
theorem addTx_more {h : Int} {v : Value} {D : SD} {c : Prop} (r : Ris D.2.2.place.toList) (g : c ∨ D.2.2.led = true) : Ris (addTx h v D).2.2.place.toList ∧ (c ∨ (addTx h v D).2.2.led = true) := by
  have r1 := layNew_ris D.2.2 D.1 h v r
  have g1 : c ∨ (layNew D.2.2 D.1 h v).2.1.led = true := g.imp id fun z => (layNew_led D.2.2 D.1 h v).trans z
  unfold addTx
  refine tailTx_more ?_ ?_
  · split
    · exact r1
    · exact r1
  · split
    · exact g1
    · exact g1
/-- found.add(k) -/
theorem addX {k : Str} {u : Tok} {Q : Value → Shared → Prop} (R : SetX P w s.heap a l) (room : l.length + 1 < scanBound)
    (hQ : ∀ h', Heap.SameBut a s.heap h' → SetX P w h' a (if k ∈ l then l else k :: l) → Q .none { s with heap := h', toks := s.toks + 1 }) :
    wpAny (model P w) A (call (.builtin "set.add") [.ref a, .str k u]) Q E s := by
  obtain ⟨D, ho, T, nd, hb, ris, led⟩ := id R
  have ty : s.TypeIs (.ref a) "set" := ⟨_, ho, rfl⟩
  apply wpAny_call_entry F.slot_set_add ty F.entry_set_add _ (F.args_set_add_2 _ _)
  unfold Builtin.«set.add» Builtin.Frozenset.oneOther
  simp only [List.isEmpty_nil, bind_assoc]
  unfold Builtin.Frozenset.addrOf setAdd
  apply wpAny_bind
  apply wpAny_pure
  try dsimp only
  apply wpAny_bind
  apply wpAny_pure
  try dsimp only
  apply wpAny_bind
  apply wpAny_holding
  apply wpAny_bind
  apply (strKind P w).pyHash (is_str k u)
  by_cases hk : k ∈ l
  · obtain ⟨es, ep, t⟩ := D
    have key : (PySem.strKind P w).is k (.str k u) = true := is_str k u
    have there : ∃ j, List.findIdx? (fun e => (PySem.strKind P w).is k e.2) es.toList = some j := by
      cases e : List.findIdx? (fun e => (PySem.strKind P w).is k e.2) es.toList with
      | some j => exact ⟨j, rfl⟩
      | none =>
        obtain ⟨q, hq, z⟩ := (T.mem k).mp hk
        have := List.findIdx?_eq_none_iff.mp e q hq
        rw [z] at this
        cases this
    obtain ⟨j, hj⟩ := there
    unfold setAddHashed setAddHashedIn
    apply wpAny_holding
    apply wpAny_bind
    apply wpAny_setState_of (s := { s with toks := s.toks + 1 }) ho rfl T.fit
    dsimp only
    rw [byScan_of rfl hb T.el]
    simp only [↓reduceIte]
    unfold setAddByScan
    apply wpAny_bind
    apply wpAny_bind
    apply wpAny_rule
    apply wpAny_bind
    apply wpAny_setScan_of (knd := PySem.strKind P w) (k := k) (s := { s with toks := s.toks + 1 }) key ho rfl T.fit T.el
    rw [hj]
    dsimp only
    refine wpAny_pure (wpAny_pure ?_)
    show wpAny _ _ (ret Value.none) _ _ _
    refine wpAny_pure ⟨_, rfl, ?_⟩
    have R2 := hQ s.heap (Heap.SameBut.refl a s.heap)
    rw [if_pos hk] at R2
    exact R2 R
  · apply add_x (s := { s with toks := s.toks + 1 }) ho T hk room
    show wpAny _ _ (ret Value.none) _ _ _
    refine wpAny_pure ⟨_, rfl, ?_⟩
    have ho2 : (s.heap.update a (fun _ => sObj "set" (addTx (hashStr w k) (.str k u) D))).get? a = some (sObj "set" (addTx (hashStr w k) (.str k u) D)) := get_upd _ ho rfl
    obtain ⟨m1, m2⟩ := addTx_more (h := hashStr w k) (v := .str k u) ris led
    have T2 := add_ok (w := w) (P := P) (k := k) u T
    refine hQ _ (Heap.SameBut.update s.heap a _) ?_
    rw [if_neg hk]
    exact ⟨_, ho2, T2, List.nodup_cons.mpr ⟨hk, nd⟩, by rw [T2.sz, List.length_cons]; exact room, m1, m2⟩
/-! ### sorted -/
def txtV : Value → Str
  | .str k _ => k
  | _ => ⟨#[]⟩
theorem strs_txt : ∀ (vs : List Value), (∀ v ∈ vs, ∃ k u, v = Value.str k u) → StrsAre vs (vs.map txtV)
  | [], _ => .nil
  | v :: vs, h => by
    obtain ⟨k, u, rfl⟩ := h v List.mem_cons_self
    exact .cons k u (strs_txt vs fun x hx => h x (List.mem_cons_of_mem _ hx))
theorem perm_of_mem : ∀ {l m : List Str}, l.Nodup → (∀ k ∈ l, k ∈ m) → m.length = l.length → m.Perm l
  | [], m, _, _, e => by
    rw [List.eq_nil_of_length_eq_zero e]
  | k :: l, m, d, h, e => by
    have hk := h k List.mem_cons_self
    obtain ⟨d1, d2⟩ := List.nodup_cons.mp d
    have pe := List.perm_cons_erase hk
    have le : (m.erase k).length = l.length := by
      rw [List.length_erase_of_mem hk, e, List.length_cons]
      rfl
    have ih := perm_of_mem d2 (fun x hx => (List.mem_erase_of_ne (fun z => d1 (by rw [← z]; exact hx))).mpr (h x (List.mem_cons_of_mem _ hx))) le
    exact pe.trans (ih.cons k)
theorem sortedX {Q : Value → Shared → Prop} (R : SetX P w s.heap a l) (hh : A.handled = none)
    (hQ : ∀ (s' : Shared) (p : Addr) (out : Array Value) (c : Nat) (ys : List Str), (∀ b o, s.heap.get? b = some o → s'.heap.get? b = some o) → s'.gens = s.gens → s'.os = s.os → s.heap.objs.size ≤ p →
      s'.heap.get? p = some (seqObj "list" out c) → StrsAre out.toList ys → ys.Perm l → sortedS ys = true → Q (.ref p) s') :
    wpAny (model P w) A (call (.builtin "sorted") [.ref a]) Q E s := by
  obtain ⟨⟨es, ep, t⟩, ho, T, nd, hb, ris, led⟩ := R
  apply Calls.call_function_entry kind_sorted plain_sorted entry_sorted (args_sorted1 _)
  unfold Builtin.«sorted»
  refine wpAny_bind (m := checkCount "sorted" 1 1 _) (wpAny_pure ?_)
  apply wpAny_bind
  apply collect_set (A := A.in1) hh ⟨_, ho, rfl, rfl⟩ T.fit hb ris led
  intro s1 vs k1 hz g1 o1 pm
  have hs : ∀ v ∈ vs, ∃ k u, v = Value.str k u := fun v hv => by
    obtain ⟨e, he, q⟩ := List.mem_map.mp (pm.mem_iff.mp hv)
    obtain ⟨⟨k, h1, _⟩, _⟩ := T.el e he
    obtain ⟨u, e1⟩ := Value.isStrOf_shape (x := k) (v := e.2) h1
    exact ⟨k, u, by rw [← q, e1]⟩
  have hS := strs_txt vs hs
  have hlen : vs.length = l.length := by
    rw [pm.length_eq, List.length_map, Array.length_toList]
    exact T.sz
  have hp : (vs.map txtV).Perm l := by
    refine perm_of_mem nd (fun k hk => ?_) (by rw [List.length_map, hlen])
    obtain ⟨e, he, z⟩ := (T.mem k).mp hk
    obtain ⟨u, e1⟩ := Value.isStrOf_shape (x := k) (v := e.2) z
    exact List.mem_map.mpr ⟨e.2, pm.mem_iff.mpr (List.mem_map.mpr ⟨e, he, rfl⟩), by rw [e1]; rfl⟩
  have hL : vs.length ≤ sizeLine := by
    rw [hlen, ← T.sz]
    exact fits_of_scanBound hb
  apply wpAny_bind
  apply wpAny_newList _ hL
  have hoL : (s1.heap.push (seqObj "list" vs.toArray 0)).get? s1.heap.objs.size = some (seqObj "list" vs.toArray 0) := Heap.get?_push_size _ rfl
  apply wpAny_bind
  apply wpAny_holding
  have tyL : ({ s1 with heap := s1.heap.push (seqObj "list" vs.toArray 0) } : Shared).TypeIs (.ref s1.heap.objs.size) "list" := ⟨_, hoL, rfl⟩
  apply wpAny_call_entry slot_list_sort tyL entry_list_sort _ (args_list_sort _)
  apply list_sort_treeKAny strKind_oneLt hoL hS.keysOf (fun v₁ v₂ rest e => keyKind_strs (by rw [← e]; exact hS)) hL
  intro st' hp' hs'
  obtain ⟨ys, g1', g2', g3'⟩ := sorted_out_str hS hp' hs'
  obtain ⟨c, hc⟩ := sortedHeap_at (vs := vs) (out := (arrOf st').map (·.2)) hoL
  refine ⟨_, rfl, wpAny_pure ⟨_, rfl, hQ _ s1.heap.objs.size _ c ys (fun b o e => ?_) g1 o1 hz hc g1' (g2'.trans hp) g3'⟩⟩
  have e1 := k1 b o e
  have lt := Heap.lt_size e1
  show (sortedHeap (s1.heap.push (seqObj "list" vs.toArray 0)) s1.heap.objs.size vs ((arrOf st').map (·.2))).get? b = some o
  rw [sortedHeap_old (Nat.ne_of_lt lt) (by rw [size_push']; exact Nat.lt_succ_of_lt lt)]
  exact Heap.get?_push_of_some _ e1
end
end Zd
set_option maxHeartbeats 2000000
namespace Zd
open PySem PySem.Spec L2 TL PyProof.Rows PySem.Froz PpSet

/-! ### texts in order, each once -/
def ltL : List Nat → List Nat → Bool
  | _, [] => false
  | [], _ :: _ => true
  | a :: r, b :: s => decide (a < b) || (decide (a = b) && ltL r s)
theorem ltL_irrefl : ∀ a, ltL a a = false
  | [] => rfl
  | a :: r => by simp [ltL, ltL_irrefl r]
theorem ltL_trans : ∀ {a b c : List Nat}, ltL a b = true → ltL b c = true → ltL a c = true
  | _, [], _, h, _ => by unfold ltL at h; cases h
  | _, _ :: _, [], _, h => by unfold ltL at h; cases h
  | [], _ :: _, _ :: _, _, _ => rfl
  | a :: r, b :: s, c :: t, h1, h2 => by
    simp only [ltL, Bool.or_eq_true, decide_eq_true_eq, Bool.and_eq_true] at *
    rcases h1 with h1 | ⟨rfl, h1⟩
    · rcases h2 with h2 | ⟨rfl, h2⟩
      · exact .inl (by omega)
      · exact .inl h1
    · rcases h2 with h2 | ⟨rfl, h2⟩
      · exact .inl h2
      · exact .inr ⟨rfl, ltL_trans h1 h2⟩
theorem ltL_tri : ∀ {a b : List Nat}, ltL a b = false → ltL b a = false → a = b
  | [], [], _, _ => rfl
  | [], _ :: _, h, _ => by cases h
  | _ :: _, [], _, h => by cases h
  | a :: r, b :: s, h1, h2 => by
    simp only [ltL, Bool.or_eq_false_iff, decide_eq_false_iff_not, Bool.and_eq_false_iff] at *
    have e : a = b := by omega
    subst e
    have e1 : ltL r s = false := h1.2.elim (fun z => absurd rfl z) id
    have e2 : ltL s r = false := h2.2.elim (fun z => absurd rfl z) id
    rw [ltL_tri e1 e2]
def insU (x : List Nat) : List (List Nat) → List (List Nat)
  | [] => [x]
  | y :: r => if ltL x y = true then x :: y :: r else if ltL y x = true then y :: insU x r else y :: r
def srtU : List (List Nat) → List (List Nat)
  | [] => []
  | x :: r => insU x (srtU r)
theorem insU_mem {x z : List Nat} : ∀ {l : List (List Nat)}, z ∈ insU x l ↔ z = x ∨ z ∈ l
  | [] => by simp [insU]
  | y :: r => by
    unfold insU
    split
    · simp
    · split
      · rw [List.mem_cons, insU_mem, List.mem_cons]
        constructor
        · rintro (h | h | h)
          · exact .inr (.inl h)
          · exact .inl h
          · exact .inr (.inr h)
        · rintro (h | h | h)
          · exact .inr (.inl h)
          · exact .inl h
          · exact .inr (.inr h)
      · rename_i h1 h2
        have e : x = y := ltL_tri (by simpa using h1) (by simpa using h2)
        subst e
        simp
theorem srtU_mem {z : List Nat} : ∀ {l : List (List Nat)}, z ∈ srtU l ↔ z ∈ l
  | [] => by simp [srtU]
  | x :: r => by
    show z ∈ insU x (srtU r) ↔ _
    rw [insU_mem, srtU_mem, List.mem_cons]
abbrev Inc (l : List (List Nat)) : Prop := l.Pairwise fun a b => ltL a b = true
theorem insU_inc {x : List Nat} : ∀ {l : List (List Nat)}, Inc l → Inc (insU x l)
  | [], _ => by simp [insU, Inc]
  | y :: r, h => by
    obtain ⟨h1, h2⟩ := List.pairwise_cons.mp h
    unfold insU
    split
    · rename_i hx
      refine List.pairwise_cons.mpr ⟨fun z hz => ?_, h⟩
      rcases List.mem_cons.mp hz with rfl | hz
      · exact hx
      · exact ltL_trans hx (h1 z hz)
    · split
      · rename_i hy
        refine List.pairwise_cons.mpr ⟨fun z hz => ?_, insU_inc h2⟩
        rcases insU_mem.mp hz with rfl | hz
        · exact hy
        · exact h1 z hz
      · exact h
theorem srtU_inc : ∀ l, Inc (srtU l)
  | [] => by simp [srtU, Inc]
  | x :: r => insU_inc (srtU_inc r)
theorem inc_ext : ∀ {a b : List (List Nat)}, Inc a → Inc b → (∀ x, x ∈ a ↔ x ∈ b) → a = b
  | [], [], _, _, _ => rfl
  | [], y :: b, _, _, h => by have := (h y).mpr List.mem_cons_self; cases this
  | x :: a, [], _, _, h => by have := (h x).mp List.mem_cons_self; cases this
  | x :: a, y :: b, ha, hb, h => by
    obtain ⟨a1, a2⟩ := List.pairwise_cons.mp ha
    obtain ⟨b1, b2⟩ := List.pairwise_cons.mp hb
    have e : x = y := by
      rcases List.mem_cons.mp ((h x).mp List.mem_cons_self) with e | hx
      · exact e
      · rcases List.mem_cons.mp ((h y).mpr List.mem_cons_self) with e | hy
        · exact e.symm
        · have := ltL_trans (a1 y hy) (b1 x hx)
          rw [ltL_irrefl] at this
          cases this
    subst e
    congr 1
    refine inc_ext a2 b2 fun z => ?_
    constructor
    · intro hz
      rcases List.mem_cons.mp ((h z).mp (List.mem_cons_of_mem _ hz)) with e | hz'
      · have := a1 z hz
        rw [e, ltL_irrefl] at this
        cases this
      · exact hz'
    · intro hz
      rcases List.mem_cons.mp ((h z).mpr (List.mem_cons_of_mem _ hz)) with e | hz'
      · have := b1 z hz
        rw [e, ltL_irrefl] at this
        cases this
      · exact hz'
theorem srtU_of {l ys : List (List Nat)} (h : Inc ys) (m : ∀ x, x ∈ ys ↔ x ∈ l) : ys = srtU l :=
  inc_ext h (srtU_inc l) fun x => (m x).trans srtU_mem.symm
theorem srtU_ext {l m : List (List Nat)} (h : ∀ x, x ∈ l ↔ x ∈ m) : srtU l = srtU m := srtU_of (srtU_inc l) fun x => srtU_mem.trans (h x)
theorem ltL_lt : ∀ (a b : List Nat), ltCps a b = ltL a b
  | [], [] => by simp [ltL, ltCps_eq]
  | [], b :: s => by simp [ltL, ltCps_eq]
  | a :: r, [] => by simp [ltL, ltCps_eq]
  | a :: r, b :: s => by
    have ih := ltL_lt r s
    rw [ltCps_eq] at ih ⊢
    rw [ltL, ← ih]
    by_cases h1 : a < b
    · simp [h1, List.cons_lt_cons_iff]
    · by_cases h2 : a = b
      · subst h2; simp [List.cons_lt_cons_iff]
      · simp [h1, h2, List.cons_lt_cons_iff]
theorem cps_mk (c : List Nat) : (mk c).cps.toList = c := rfl
theorem risingS_inc : ∀ (p : List Nat) (l : List (List Nat)), (p :: l).Nodup → risingS (mk p) (l.map mk) = true → Inc (p :: l)
  | p, [], _, _ => by simp [Inc]
  | p, x :: r, nd, h => by
    have h : (!ltCps (mk x).cps.toList (mk p).cps.toList && risingS (mk x) (r.map mk)) = true := h
    rw [cps_mk, cps_mk, ltL_lt, Bool.and_eq_true, Bool.not_eq_true'] at h
    obtain ⟨n1, n2⟩ := List.nodup_cons.mp nd
    have ih := risingS_inc x r n2 h.2
    have hpx : ltL p x = true := by
      cases e : ltL p x with
      | true => rfl
      | false => exact absurd (by rw [ltL_tri e h.1]; exact List.mem_cons_self) n1
    refine List.pairwise_cons.mpr ⟨fun z hz => ?_, ih⟩
    rcases List.mem_cons.mp hz with rfl | hz
    · exact hpx
    · exact ltL_trans hpx ((List.pairwise_cons.mp ih).1 z hz)
theorem sortedS_inc : ∀ (l : List (List Nat)), l.Nodup → sortedS (l.map mk) = true → Inc l
  | [], _, _ => by simp [Inc]
  | x :: r, nd, h => risingS_inc x r nd h
theorem mk_cps (s : Str) : mk s.cps.toList = s := rfl
/-- what sorted tells of texts, each once -/
theorem sorted_is {css : List (List Nat)} {ys : List Str} (nd : css.Nodup) (p : ys.Perm (css.map mk)) (h : sortedS ys = true) : ys = (srtU css).map mk := by
  have e : ys = (ys.map fun y => y.cps.toList).map mk := by rw [List.map_map]; exact (List.map_id' ys).symm
  have p2 : (ys.map fun y => y.cps.toList).Perm css := by
    have := p.map fun y : Str => y.cps.toList
    rw [List.map_map] at this
    exact this.trans (.of_eq (List.map_id' css))
  rw [e] at h ⊢
  rw [srtU_of (sortedS_inc _ (p2.nodup_iff.mpr nd) h) fun x => p2.mem_iff]

/-! ### as a tracked thing -/
def SetXO (P : Program) (w : World) (a : Addr) (l : List Str) : HO := .ext fun h => SetX P w h a l
theorem setXO_new {w : World} {P : Program} {H : Hp} {h : Heap} {a : Addr} {l : List Str} (R : SetX P w h a l) : ObjOk P w H h a (SetXO P w a l) := by
  have ⟨D, ho, _⟩ := R
  exact ⟨R, ⟨_, ho⟩, fun h1 h2 p k => SetX.at p k⟩
section
variable {X : Cx}
theorem setXO_get {pins : List (Addr × Obj)} {σ : L2.St} {H : Hp} {s : Shared} {a : Addr} {l : List Str} (I : Inv X pins σ H s) (ha : H a = some (SetXO X.prog X.w a l)) : SetX X.prog X.w s.heap a l := (I.hok a _ ha).1
theorem addX_ok {pins : List (Addr × Obj)} {σ : L2.St} {H : Hp} {s : Shared} {E : Value → Shared → Prop} {D : Addr} {l : List Str} {y : Str} {u : Tok} {Q : Value → Shared → Prop} (I : Inv X pins σ H s) (hD : H D = some (SetXO X.prog X.w D l)) (room : l.length + 1 < scanBound)
    (h : ∀ s', Inv X pins σ (upd H D (SetXO X.prog X.w D (if y ∈ l then l else y :: l))) s' → Q .none s') : wpAny (model X.prog X.w) X.A (call (.builtin "set.add") [.ref D, .str y u]) Q E s := by
  have R := setXO_get I hD
  refine addX R room fun h' sb new => ?_
  have he : ∃ u, h'.get? D = some u := by
    have ⟨D', ho, _⟩ := new
    exact ⟨_, ho⟩
  exact h _ (I.write (e := D) (t' := s.toks + 1) (by rw [hD]; trivial) (.inl rfl) (fun b u hb hu => (sb.2 b hb).trans hu) he (setXO_new new))
/-- {elt for target in iter if ..}, elt a text: D the new set -/
def tSx (P : Program) (w : World) (wi : TI) (g : TG) (tt : TT) (te : TE) (vs : List Nat) : TE := fun σ H Q => wi σ H fun J H1 => ∀ D, H1 D = none → ∃ W : Nat → Nat → Hp → Prop, (∃ m, W 0 m (upd H1 D (SetXO P w D []))) ∧ ∀ i m H, W i m H →
  (J.stop i H ∧ Q (.ref D) H) ∨ (J.go i H ∧ ∃ Nx : Hp → Prop, (∀ H', Nx H' → ∃ m', m' < m ∧ W (i + 1) m' H') ∧
  ∀ x H', J.yld i H x H' → g x (wipe σ vs) H' fun σ2 H2 => wipe σ2 vs = wipe σ vs ∧ tt σ2 H2 fun b H3 =>
    if b = true then te σ2 H3 fun y H4 => ∃ (k : Str) (l : List Str), y = .str k ∧ H4 D = some (SetXO P w D l) ∧ l.length + 1 < scanBound ∧ Nx (upd H4 D (SetXO P w D (if k ∈ l then l else k :: l))) else Nx H3)
/-- a set comprehension under way: what holds ahead of turn i (m turns at most are left) -/
def SxAt (Y : Cx) (fp : List Addr) (w0 : L2.St) (tn : Nat → Heap → Prop) (W : Nat → Nat → Hp → Prop) (m : Nat) (z : Shared) : Prop :=
  ∃ i Hi, Inv Y [] w0 Hi z ∧ tn i z.heap ∧ (∀ b ∈ fp, Hi b = none) ∧ W i m Hi
/-- the turns, in the block's own context -/
theorem sx_loop {Y : Cx} {tg iter elt : Expr} {ifs : List Expr} {scope : Scope} {pos : Pos} {J : It} {fp : List Addr} {it D : Addr} {tn : Nat → Heap → Prop} {g : TG} {tt : TT} {te : TE} {vs : List Nat} {σ : L2.St} {W : Nat → Nat → Hp → Prop} {Qd : Hp → Prop} {R : Result → Shared → Prop}
    (calm : Y.calm = true) (quiet : Y.xe = fun _ _ => False) (T : Turn Y.prog Y.w Y.K tg J fp it tn) (stay : ∀ {τ Hi z}, Inv Y [] τ Hi z → (∀ b ∈ fp, Hi b = none) → ∀ b ∈ fp, FpOk Y [] Hi b)
    (pg : PG Y tg g) (pt : PTs Y ifs tt) (pe : PE Y elt te)
    (turn : ∀ i m Hi, W i m Hi → (J.stop i Hi ∧ Qd Hi) ∨ (J.go i Hi ∧ ∃ Nx : Hp → Prop, (∀ H', Nx H' → ∃ m', m' < m ∧ W (i + 1) m' H') ∧ ∀ x H', J.yld i Hi x H' → g x (wipe σ vs) H' fun σ2 H2 => wipe σ2 vs = wipe σ vs ∧ tt σ2 H2 fun b H3 =>
      if b = true then te σ2 H3 fun y H4 => ∃ (k : Str) (l : List Str), y = .str k ∧ H4 D = some (SetXO Y.prog Y.w D l) ∧ l.length + 1 < scanBound ∧ Nx (upd H4 D (SetXO Y.prog Y.w D (if k ∈ l then l else k :: l))) else Nx H3))
    (fin : ∀ {z Hz}, Inv Y [] (wipe σ vs) Hz z → Qd Hz → R (.ok .next) z) {m : Nat} {z : Shared} (h : SxAt Y fp (wipe σ vs) tn W m z) :
    codeAny (model Y.prog Y.w) Y.A (.compLoop (.SetComp elt [⟨tg, iter, ifs, 0⟩] scope pos) 0 (.ref it) (.ref D) Y.env) R z := by
  apply compLoopS_any (SxAt Y fp (wipe σ vs) tn W) _ m h
  intro left z0 hz
  obtain ⟨i, H0, I0, t0, n0, w⟩ := hz
  have f0 := stay I0 n0
  cases turn i left H0 w with
  | inl e =>
    apply thnF (T.done Y rfl rfl rfl calm i [] z0 _ H0 (fun _ _ => False) I0 f0 t0 e.1)
    intro r z1 d
    rw [d.1]
    exact fin d.2 e.2
  | inr e =>
    obtain ⟨more, Nx, down, body⟩ := e
    apply thnF (T.item Y rfl rfl rfl calm i [] z0 _ H0 (fun _ _ => False) I0 f0 t0 more)
    rintro _ z1 ⟨u, rfl, got⟩
    apply thnF got
    rintro _ z2 ⟨x, H2, I2, xu, yl, t2, n2⟩
    -- the iterator's own objects are watched through the turn
    have I2p := Inv.pinned I2 (stay I2 n2) (T.obj (i + 1) z2.heap t2)
    have back : ∀ {τ : L2.St} {Hn : Hp} {zn : Shared}, wipe τ vs = wipe σ vs → Inv Y ([] ++ pinsAt fp z2.heap) τ Hn zn → Nx Hn → ∃ m', m' < left ∧ SxAt Y fp (wipe σ vs) tn W m' zn := by
      intro τ Hn zn ew In nx
      obtain ⟨m', lt, w'⟩ := down Hn nx
      have see : ∀ b ∈ fp, ∀ o, z2.heap.get? b = some o → zn.heap.get? b = some o ∧ Hn b = none := by
        intro b hb o eo
        have q := In.pin (b, o) (by simpa using Or.inr (mem_pinsAt hb eo))
        exact And.intro q.1 q.2.1
      refine Exists.intro m' (And.intro lt (Exists.intro (i + 1) (Exists.intro Hn ?_)))
      have J0 : Inv Y [] τ Hn zn := In.unpinned
      refine And.intro (J0.weak (by rw [← ew, wipe_length]) ?_) (And.intro (T.keep _ _ _ t2 fun b hb o eo => (see b hb o eo).1) (And.intro ?_ w'))
      · intro j v ej
        rw [← ew] at ej
        exact (wipe_some ej).1
      · intro b hb
        have ⟨o, eo, _⟩ := T.obj (i + 1) z2.heap t2 b hb
        exact (see b hb o eo).2
    have run1 := pg.run _ z2 _ H2 x u _ I2p xu (body x H2 yl)
    rw [quiet] at run1
    apply thnF run1
    rintro _ z3 ⟨τ, H3, I3, ew, q3⟩
    have run2 := pt.run _ z3 τ H3 _ I3 q3
    rw [quiet] at run2
    apply thnF run2
    rintro yes z4 ⟨H4, I4, q4⟩
    cases yes
    · exact back ew I4 q4
    · have run3 := pe.run _ z4 τ H4 _ I4 q4
      rw [quiet] at run3
      show wpAny _ _ _ _ _ _
      apply thnF run3
      rintro v z5 ⟨_, H5, I5, rv, k, l, rfl, at5, room, nx⟩
      have ⟨uu, ev⟩ : ∃ u, v = Value.str k u := rv
      rw [ev]
      exact addX_ok I5 at5 room fun z6 I6 => back ew I6 nx
theorem sx_walk {elt tg iter : Expr} {ifs : List Expr} {scope : Scope} {own : List (PySem.Str × Nat)} {pos pos' : Pos} {wi : TI} {g : TG} {tt : TT} {te : TE} {pins : List (Addr × Obj)} {s : Shared} {σ : L2.St} {H : Hp} {Q : VK} {use : Option (Value → Sem Unit)} {Qf : Value → Shared → Prop}
    (I : Inv X pins σ H s) (hc : X.calm = true) (hN : X.N.Nodup) (ok : BlkOk X.N X.env.scope scope own) (hi : PI X tg iter wi)
    (he : ∀ (s : Shared) (H : Hp) (C : Addr) (cl : List (PySem.Str × Addr)) (fp : List Addr), PE (X.blk s H scope (compEnvC scope cl C X.env) fp) elt te)
    (ht : ∀ (s : Shared) (H : Hp) (C : Addr) (cl : List (PySem.Str × Addr)) (fp : List Addr), PTs (X.blk s H scope (compEnvC scope cl C X.env) fp) ifs tt)
    (hg : ∀ (s : Shared) (H : Hp) (C : Addr) (cl : List (PySem.Str × Addr)) (fp : List Addr), PG (X.blk s H scope (compEnvC scope cl C X.env) fp) tg g)
    (hs : ∀ x, foldedSetIterable iter X.env x = pure x) (h : tSx X.prog X.w wi g tt te (own.map (·.2)) σ H Q)
    (last : ∀ D C z m Hz, Inv X pins σ Hz z → Q (.ref D) Hz → z.heap.Ns C m → FpOk X pins Hz C → compPost (model X.prog X.w) X.A X.xe use Qf (.ref D) C (.ok .next) z) :
    wpAny (model X.prog X.w) X.A (comprehension (.SetComp elt [⟨tg, iter, ifs, 0⟩] scope pos) scope X.env pos' (newSet (.type "set")) false (eval iter X.env) use) Qf X.xe s := by
  have fr : ∀ y ∈ scope.names, y.2 = .free → ∃ c, X.env.cells.lookup y.1 = some c := fun y hy e => I.ok.has _ (ok.free y hy e)
  apply wpAny_comprehension_free (use := use) rfl hs (closure_ok fr) ok.kind (fun y hy e => by rw [ok.uniq y hy]; exact congrArg some e)
  apply thn (hi.run pins s σ H _ I h)
  intro _ _ h1
  apply thn h1
  rintro _ z2 ⟨it, fp, tn, J, H2, rfl, I2, T, a2, f2, q⟩
  apply newSet_ok
  apply newEnv_comp
  -- the set's address, and the turns that are told of it
  have fresh2 : H2 z2.heap.objs.size = none := I2.hok.fresh (Nat.le_refl _)
  obtain ⟨W, ⟨m0, w0⟩, turn⟩ := q _ fresh2
  have le2 := Nat.le_refl z2.heap.objs.size
  let o3 : Obj := { cls := .type "set", dict := none, data := .set #[] 0 (.fresh 0 0 (!X.w.params.followText "set-order")) }
  have k3 : ∀ b o, z2.heap.get? b = some o → (z2.heap.push o3).get? b = some o := fun b o e => Heap.get?_push_of_some _ e
  have J3 := I2.laid (o := SetXO X.prog X.w z2.heap.objs.size []) (t' := z2.toks) k3 le2 (setXO_new (SetX.new X.prog X.w))
  have away : ∀ b ∈ fp, b < z2.heap.objs.size ∧ b ≠ z2.heap.objs.size := by
    intro b hb
    have ⟨o, eo, _⟩ := T.obj 0 z2.heap a2 b hb
    exact And.intro (Heap.lt_size eo) (Nat.ne_of_lt (Heap.lt_size eo))
  have f3 : ∀ b ∈ fp, FpOk X pins (upd H2 z2.heap.objs.size (SetXO X.prog X.w z2.heap.objs.size [])) b ∧ b < (z2.heap.push o3).objs.size := by
    intro b hb
    have lt := (away b hb).1
    refine And.intro (And.intro ?_ (f2 b hb).2) (by rw [Heap.size_push]; exact Nat.lt_succ_of_lt lt)
    rw [upd_ne (away b hb).2]
    exact (f2 b hb).1
  have B := block_start J3 ok hN f3
  have n3 : ∀ b ∈ fp, upd H2 z2.heap.objs.size (SetXO X.prog X.w z2.heap.objs.size []) b = none := fun b hb => (f3 b hb).1.1
  have t4 : tn 0 (pushCells ((z2.heap.push o3).push { cls := .type "dict", data := .dict #[] }) scope.names) :=
    T.keep _ _ _ a2 fun b _ o e => pushCells_keeps _ _ _ _ (Heap.get?_push_of_some _ (k3 b o e))
  have L := sx_loop (iter := iter) (pos := pos) (scope := scope) (Qd := fun Hz => Q (.ref z2.heap.objs.size) Hz) (R := compPost (model X.prog X.w) X.A X.xe use Qf (.ref z2.heap.objs.size) (z2.heap.push o3).objs.size)
    (Y := X.blk { z2 with heap := z2.heap.push o3 } (upd H2 z2.heap.objs.size (SetXO X.prog X.w z2.heap.objs.size [])) scope (compEnvC scope (cellsFrom ((z2.heap.push o3).objs.size + 1) scope.names (cloFrom X.env.cells scope.names [])) (z2.heap.push o3).objs.size X.env) fp)
    hc rfl T (fun {τ Hi z} Jz nz b hb => And.intro (nz b hb) (And.intro (Jz.ok.exf b hb).1 (And.intro (Jz.ok.exfs b hb) (And.intro (Or.inl hb) (And.intro (fun x c e => (Jz.ok.exf b hb).2 x c e) (by intro p hp; cases hp))))))
    (hg _ _ _ _ _) (ht _ _ _ _ _) (he _ _ _ _ _) turn ?_ (m := m0) (Exists.intro 0 (Exists.intro _ (And.intro B (And.intro t4 (And.intro n3 w0)))))
  · exact codeAny_compStart_set L (T.self X.A 0 _ _ _ t4 L)
  · intro z Hz Jz qz
    have ⟨m, ns, _⟩ := Jz.loc
    have clear : Hz (z2.heap.push o3).objs.size = none := Jz.free
    have out : Inv X pins σ Hz z := by
      apply J3.call' (ch := fp) Jz.os Jz.base Jz.hok Jz.bare
      intro b hb
      have ⟨_, p1, _, p3, p4, p5⟩ := (f3 b hb).1
      exact And.intro p3 (And.intro p1 (And.intro p4 p5))
    exact last _ _ z m Hz out qz ns (J3.fpOk (Nat.le_refl _) clear)
theorem pe_sx {elt tg iter : Expr} {ifs : List Expr} {scope : Scope} {own : List (PySem.Str × Nat)} {pos : Pos} {wi : TI} {g : TG} {tt : TT} {te : TE} (hc : X.calm = true) (hN : X.N.Nodup) (hi : PI X tg iter wi) (ok : BlkOk X.N X.env.scope scope own)
    (hg : ∀ (s : Shared) (H : Hp) (C : Addr) (cl : List (PySem.Str × Addr)) (fp : List Addr), PG (X.blk s H scope (compEnvC scope cl C X.env) fp) tg g)
    (ht : ∀ (s : Shared) (H : Hp) (C : Addr) (cl : List (PySem.Str × Addr)) (fp : List Addr), PTs (X.blk s H scope (compEnvC scope cl C X.env) fp) ifs tt)
    (he : ∀ (s : Shared) (H : Hp) (C : Addr) (cl : List (PySem.Str × Addr)) (fp : List Addr), PE (X.blk s H scope (compEnvC scope cl C X.env) fp) elt te) (hs : ∀ x, foldedSetIterable iter X.env x = pure x := by intro _; rfl) :
    PE X (.SetComp elt [⟨tg, iter, ifs, 0⟩] scope pos) (tSx X.prog X.w wi g tt te (own.map (·.2))) := by
  constructor
  intro pins s σ H Q I h
  rw [eval_SetComp]
  apply sx_walk I hc hN ok hi he ht hg hs h
  intro D C z m Hz Iz qz ns away
  refine Exists.intro m (And.intro ns ?_)
  intro h2 sb
  have back := Iz.turned (t' := z.toks) (fun b o hb e => (sb.2 b hb).trans e) away.1 away.2.1 away.2.2.2.1 away.2.2.2.2.1 away.2.2.2.2.2
  exact ⟨V.ref D, Hz, back, rfl, qz⟩
/-- sorted of such a set -/
def rSortedX (P : Program) (w : World) : List V → Hp → VK → Prop := fun vs H Q => ∃ (a : Addr) (l : List Str), vs = [V.ref a] ∧ H a = some (SetXO P w a l) ∧ l.Nodup ∧
  ∀ (ys : List Str) (p : Addr), ys.Perm l → sortedS ys = true → H p = none → Q (.ref p) (upd H p (.lst (ys.map V.str)))
theorem cr_sortedX (hc : X.calm = true) : CallR X (.builtin "sorted") (rSortedX X.prog X.w) := by
  intro pins s σ H vs us Q I r h
  obtain ⟨a, l, rfl, ha, nd, q⟩ := h
  rw [Vals.ref1 r]
  have R := setXO_get I ha
  have hsz : l.length ≤ sizeLine := by
    obtain ⟨D, ho, T, _, hb, _⟩ := R
    have := T.sz
    rw [← this]
    exact fits_of_scanBound hb
  refine sortedX R (I.ok.hd hc) fun s' p out c ys hk hg ho' hp hat hS hpm hso => ?_
  have hlen : (ys.map V.str).length ≤ sizeLine := by rw [List.length_map, hpm.length_eq]; exact hsz
  have new : ObjOk X.prog X.w (upd H p (.lst (ys.map V.str))) s'.heap p (.lst (ys.map V.str)) := ⟨hlen, out.toList, c, vals_of_strs hS, by rw [Array.toArray_toList]; exact hat⟩
  exact ⟨.ref p, upd H p (.lst (ys.map V.str)), I.call' (ch := []) ho' (Un.laid hk hp (I.hok.fresh hp)) (I.hok.laid hk hp new) (by rw [hg]; exact I.bare) (fun _ z => nomatch z), rfl, q ys p hpm hso (I.hok.fresh hp)⟩
end
end Zd
set_option maxHeartbeats 2000000
namespace Zd
open PySem PySem.Spec L2 TL PyProof.Rows PySem.Froz PpSet

/-! ### sorted({elt for target in iter if ..}) of texts -/
def lcX (vs : List Nat) (g : TGd) (A : TB) (te : TD) : List D → List (List Nat) → Env → (List (List Nat) → Env → Prop) → Prop
  | [], acc, ε, k => k acc ε
  | x :: xs, acc, ε, k => noOwn ε vs ∧ g x (wipeE ε vs) fun η1 => A η1 (fun b η2 =>
      if b = true then te η2 (fun o η3 => ∃ cs, o.get η3 = .str cs ∧ acc.length + 1 < scanBound ∧ lcX vs g A te xs (if cs ∈ acc then acc else cs :: acc) (unw ε η3 vs) k) xNo
      else lcX vs g A te xs acc (unw ε η2 vs) k) xNo
def dSortSx (ti : TId) (vs : List Nat) (g : TGd) (A : TB) (te : TD) : TD := fun ε q xq => ti ε (fun xs ε1 => lcX vs g A te xs [] ε1 fun acc ε2 => q (.d (.lst ((srtU acc).map .str))) ε2) xq
theorem x_dSortSx (ti : TId) (vs : List Nat) (g : TGd) (A : TB) (te : TD) (ε : Env) (q : OQ) (xq : XQ) : dSortSx ti vs g A te ε q xq = ti ε (fun xs ε1 => lcX vs g A te xs [] ε1 fun acc ε2 => q (.d (.lst ((srtU acc).map .str))) ε2) xq := rfl
theorem add_mk {cs : List Nat} {acc : List (List Nat)} : (if mk cs ∈ acc.map mk then acc.map mk else mk cs :: acc.map mk) = (if cs ∈ acc then acc else cs :: acc).map mk := by
  have : mk cs ∈ acc.map mk ↔ cs ∈ acc := by
    rw [List.mem_map]
    constructor
    · rintro ⟨a, ha, e⟩
      have : a = cs := by
        have := congrArg (fun s : Str => s.cps.toList) e
        exact this
      rw [← this]; exact ha
    · intro h; exact ⟨cs, h, rfl⟩
  by_cases h : cs ∈ acc
  · rw [if_pos h, if_pos (this.mpr h)]
  · rw [if_neg h, if_neg (fun z => h (this.mp z))]; rfl
theorem add_asc {cs : List Nat} {acc : List (List Nat)} (h : ∀ c ∈ acc, Asc c) (hc : Asc cs) : ∀ c ∈ (if cs ∈ acc then acc else cs :: acc), Asc c := by
  intro c hm
  split at hm
  · exact h c hm
  · rcases List.mem_cons.mp hm with rfl | hm
    · exact hc
    · exact h c hm
theorem add_nd {cs : List Nat} {acc : List (List Nat)} (h : acc.Nodup) : (if cs ∈ acc then acc else cs :: acc).Nodup := by
  split
  · exact h
  · rename_i h2
    exact List.nodup_cons.mpr ⟨h2, h⟩
theorem nodup_mk {acc : List (List Nat)} (h : acc.Nodup) : (acc.map mk).Nodup := by
  have : ∀ {l : List (List Nat)}, l.Nodup → (l.map mk).Nodup := by
    intro l
    induction l with
    | nil => intro _; exact List.nodup_nil
    | cons x r ih =>
      intro h
      obtain ⟨h1, h2⟩ := List.nodup_cons.mp h
      refine List.nodup_cons.mpr ⟨fun z => ?_, ih h2⟩
      obtain ⟨a, ha, e⟩ := List.mem_map.mp z
      have : a = x := by
        have := congrArg (fun s : Str => s.cps.toList) e
        exact this
      rw [this] at ha
      exact h1 ha
  exact this h
section
variable {X : Cx} {W : WX}
theorem sx_of {ti : TId} {r : TG} {g : TGd} {vs : List Nat} {A : TB} {te : TD} (snd : GSnd X.K r g vs) (gk : GKd g vs) (σ : L2.St) (H : Hp) (Q : VK) :
    LE X.K W (dSortSx ti vs g A te) σ H Q → tCB (rSortedX X.prog X.w) (tCons (tSx X.prog X.w (LI X.K W ti) r (LT X.K WNo A) (LE X.K WNo te) vs) tNil) σ H Q := fun ⟨G, F, ε, q, xq, I, ht, hq, hx⟩ => by
  refine ⟨G, F, ε, _, xq, I, ht, fun F1 H1 J xs ε1 s1 k1 I1 it h1 => ?_, hx⟩
  intro Dl hD
  obtain ⟨J1, e1, e2, e3⟩ := I1.laid (ho := SetXO X.prog X.w Dl []) hD
  refine ⟨fun i m H' => ∃ F' ε' acc, Same F1 F' ∧ Kd ε1 ε' ∧ Iv X.K (G.plus Dl (SetXO X.prog X.w Dl (acc.map mk))) F' H' σ ε' ∧ H' Dl = some (SetXO X.prog X.w Dl (acc.map mk)) ∧ F' Dl = none ∧ (∀ c ∈ acc, Asc c) ∧ acc.Nodup ∧ m = xs.length - i ∧ i ≤ xs.length ∧ lcX vs g A te (xs.drop i) acc ε' fun acc ε2 => q (.d (.lst ((srtU acc).map .str))) ε2,
    ⟨xs.length, F1, ε1, [], .refl _, .refl _, J1.plus upd_same e1 e3 (by intro _ z; cases z), upd_same, e1, fun _ h => (nomatch h), List.nodup_nil, by omega, Nat.zero_le _, by simpa using h1⟩, ?_⟩
  rintro i m H' ⟨F', ε', acc, s', k', I', hDl, fDl, ra, nd, em, hi, hl⟩
  obtain ⟨go, stop⟩ := it F' H' s' I'.sF
  by_cases hlt : i < xs.length
  · have ex : xs[i]? = some xs[i] := List.getElem?_eq_getElem hlt
    obtain ⟨hgo, hy⟩ := go i _ ex
    rw [List.drop_eq_getElem_cons hlt] at hl
    obtain ⟨hno, hl⟩ := hl
    refine .inr ⟨hgo, fun H'' => ∃ F'' ε'' acc', Same F1 F'' ∧ Kd ε1 ε'' ∧ Iv X.K (G.plus Dl (SetXO X.prog X.w Dl (acc'.map mk))) F'' H'' σ ε'' ∧ H'' Dl = some (SetXO X.prog X.w Dl (acc'.map mk)) ∧ F'' Dl = none ∧ (∀ c ∈ acc', Asc c) ∧ acc'.Nodup ∧ lcX vs g A te (xs.drop (i + 1)) acc' ε'' fun acc ε2 => q (.d (.lst ((srtU acc).map .str))) ε2,
      fun H'' ⟨F'', ε'', acc', b1, b2, b3, b4, b5, b6, b7, b8⟩ => ⟨xs.length - (i + 1), by omega, F'', ε'', acc', b1, b2, b3, b4, b5, b6, b7, rfl, hlt, b8⟩, fun v H2 y => ?_⟩
    obtain ⟨F2, al, rv⟩ := hy v H2 y
    have I2 := I'.al al
    have f0 : G.F0 Dl = none := Same.free I'.s0 fDl
    have h0 : (G.plus Dl (SetXO X.prog X.w Dl (acc.map mk))).H0 Dl ≠ none := by rw [show (G.plus Dl (SetXO X.prog X.w Dl (acc.map mk))).H0 Dl = some (SetXO X.prog X.w Dl (acc.map mk)) from upd_same]; simp
    refine snd _ F2 H2 _ _ v _ _ _ (I2.wipe hno) rv (gk _ _ _ hl) fun σ3 η1 I3 w3 ⟨h3, l3, d3⟩ => ?_
    refine ⟨w3.trans (wipe_idem σ vs), ?_⟩
    refine ⟨_, F2, η1, _, xNo, I3, h3, fun F4 H4 b η2 s4 k4 I4 h4 => ?_, x1No⟩
    have dk : ∀ i, i ∉ vs → datAt ε' i ≠ none → datAt η2 i ≠ none := fun j hj hd => k4 j (by rw [d3 j hj, wipeE_dat hj]; exact hd)
    have len2 : η2.length = ε'.length := by rw [← I4.len, I3.len, l3, wipeE_len]
    cases b with
    | false =>
      refine ⟨F4, _, acc, (s'.trans al.sF).trans s4, k'.trans (unw_kd len2 dk), Iv.unw I2 I4 s4 w3 hno rfl, I4.sH _ _ upd_same, I4.fr _ f0 h0, ra, nd, h4⟩
    | true =>
      refine ⟨_, F4, η2, _, xNo, I4, h4, fun F5 H5 w o η3 s5 k5 I5 r5 h5 => ?_, x1No⟩
      obtain ⟨cs, eo, hz, h6⟩ := h5
      have rb := r5.b I5
      rw [eo] at rb
      obtain ⟨ew, ha⟩ := rb.str_
      refine ⟨mk cs, acc.map mk, ew, I5.sH _ _ upd_same, by rw [List.length_map]; exact hz, ?_⟩
      have f6 : F5 Dl = none := I5.fr _ f0 h0
      have len4 : η3.length = ε'.length := by rw [← I5.len, I3.len, l3, wipeE_len]
      rw [add_mk]
      refine ⟨F5, _, _, ((s'.trans al.sF).trans s4).trans s5, k'.trans (unw_kd len4 fun j hj hd => k5 j (dk j hj hd)), (Iv.unw I2 I5 (s4.trans s5) w3 hno rfl).bump f6, upd_same, f6, add_asc ra ha, add_nd nd, h6⟩
  · have e : i = xs.length := by omega
    subst e
    rw [List.drop_length] at hl
    obtain ⟨I7, e7⟩ := I'.minus e2
    refine .inl ⟨stop, Dl, acc.map mk, rfl, hDl, nodup_mk nd, fun ys p hp hs hn => ?_⟩
    have ey := sorted_is nd hp hs
    subst ey
    have al := AL.new (o := .lst (((srtU acc).map mk).map V.str)) I7.sF hn
    have hasc : ∀ c ∈ srtU acc, Asc c := fun c hc => ra c (srtU_mem.mp hc)
    exact hq _ _ (.ref p) (.d (.lst ((srtU acc).map .str))) ε' ((s1.trans s').trans al.sF) (k1.trans k') (I7.al al) (.lst upd_same (RpL.strs hasc)) hl
theorem de_sortSx {ti : TId} {te : TD} {g : TGd} {A : TB} {tg iter elt : Expr} {ifs : List Expr} {scope : Scope} {own : List (Str × Nat)} {r : TG} {pos pos2 p : Pos} (hg0 : Gl X "sorted") (hm : X.mg "sorted" = none)
    (hc : X.calm = true) (hN : X.N.Nodup) (hi : DI X W tg iter ti) (ok : BlkOk X.N X.env.scope scope own)
    (hg : ∀ (s : Shared) (H : Hp) (C : Addr) (cl : List (Str × Addr)) (fp : List Addr), DG (X.blk s H scope (compEnvC scope cl C X.env) fp) tg r g (own.map (·.2))) (gk : GKd g (own.map (·.2)))
    (ht : ∀ (s : Shared) (H : Hp) (C : Addr) (cl : List (Str × Addr)) (fp : List Addr), DTs (X.blk s H scope (compEnvC scope cl C X.env) fp) WNo ifs A)
    (he : ∀ (s : Shared) (H : Hp) (C : Addr) (cl : List (Str × Addr)) (fp : List Addr), DE (X.blk s H scope (compEnvC scope cl C X.env) fp) WNo elt te) (snd : GSnd X.K r g (own.map (·.2)))
    (hs : ∀ x, foldedSetIterable iter X.env x = pure x := by intro _; rfl) : DE X W (.Call (.Name "sorted" p) [.SetComp elt [⟨tg, iter, ifs, 0⟩] scope pos2] [] pos) (dSortSx ti (own.map (·.2)) g A te) :=
  ⟨PE.conv (pe_callB (cr_sortedX hc) hg0 hm boot_sorted (pa_cons (pe_sx (g := r) (tt := LT X.K WNo A) (te := LE X.K WNo te) hc hN hi.pi ok (fun s H C cl fp => (hg s H C cl fp).pg) (fun s H C cl fp => (ht s H C cl fp).pts) (fun s H C cl fp => (he s H C cl fp).pe) hs) pa_nil (by rfl))) (sx_of snd gk)⟩
end
/-- .. that leaves the names as they are -/
theorem lcX_fm {α : Type} {φ : α → D} {vs : List Nat} {g : TGd} {A : TB} {te : TD} {k : List (List Nat) → Env → Prop} {ε : Env} (f : α → Option (List Nat)) (ys : List α) (hl : ys.length < 1000)
    (h : ∀ acc, (∀ x, x ∈ acc ↔ x ∈ ys.filterMap f) → k acc ε)
    (hs : ∀ y acc (K : List (List Nat) → Env → Prop), y ∈ ys → acc.length + 1 < scanBound → (∀ acc', (acc' = match f y with | some c => if c ∈ acc then acc else c :: acc | none => acc) → K acc' ε) → noOwn ε vs ∧ g (φ y) (wipeE ε vs) fun η1 => A η1 (fun b η2 =>
      if b = true then te η2 (fun o η3 => ∃ cs, o.get η3 = .str cs ∧ acc.length + 1 < scanBound ∧ K (if cs ∈ acc then acc else cs :: acc) (unw ε η3 vs)) xNo
      else K acc (unw ε η2 vs)) xNo) : lcX vs g A te (ys.map φ) [] ε k := by
  have : ∀ post pre acc, ys = pre ++ post → (∀ x, x ∈ acc ↔ x ∈ pre.filterMap f) → acc.length ≤ pre.length → lcX vs g A te (post.map φ) acc ε k := by
    intro post
    induction post with
    | nil => intro pre acc e hm _; exact h acc fun x => by rw [e, List.append_nil]; exact hm x
    | cons y post ih =>
      intro pre acc e hm hlen
      have hy : y ∈ ys := by rw [e]; simp
      have hb : acc.length + 1 < scanBound := by
        have := congrArg List.length e
        simp at this
        have : acc.length + 1 < 2000 := by omega
        exact Nat.lt_trans this (by decide)
      refine hs y acc (fun acc ε => lcX vs g A te (post.map φ) acc ε k) hy hb fun acc' ea => ?_
      refine ih (pre ++ [y]) acc' (by rw [e]; simp) (fun x => ?_) ?_
      · subst ea
        rw [List.filterMap_append, List.mem_append, ← hm x]
        cases ef : f y with
        | none => simp [ef]
        | some c =>
          simp only []
          split
          · rename_i hc
            simp only [List.filterMap_cons, ef, List.filterMap_nil, List.mem_singleton]
            constructor
            · exact .inl
            · rintro (h | rfl)
              · exact h
              · exact hc
          · simp only [List.filterMap_cons, ef, List.filterMap_nil, List.mem_singleton, List.mem_cons]
            constructor
            · rintro (h | h)
              · exact .inr (.inl h)
              · exact .inl h
            · rintro (h | h | h)
              · exact .inr h
              · exact .inl h
              · exact absurd h (by simp)
      · subst ea
        rw [List.length_append, List.length_singleton]
        cases ef : f y with
        | none => simp only []; omega
        | some c =>
          simp only []
          split
          · omega
          · rw [List.length_cons]; omega
  exact this ys [] [] rfl (by simp) (by simp)

/-! ### sorted(d) of a dict with texts for keys -/
def fSortedD (x : D) (q : D → Prop) : Prop := match x with
  | .dic kvs => ∃ css : List (List Nat), kvs.map (·.1) = css.map KD.s ∧ css.Nodup ∧ css.length < 64 ∧ (∀ c ∈ css, Asc c) ∧ q (.lst ((srtU css).map .str))
  | _ => False
theorem rd_keys {K : PySem.W.Frag} {F : Hp} : ∀ {vs : List (Key × V)} {xs : List (KD × D)}, RpD K F vs xs → vs.map (·.1) = (xs.map (·.1)).map KD.k
  | _, _, .nil => rfl
  | _, _, .cons _ t => by simp [rd_keys t]
section
variable {X : Cx}
def sortedDR (hc : X.calm = true) : DC X (.builtin "sorted") (d1 fSortedD) where
  r := _
  h := call_sortedD hc
  hr := fun F H vs xs q Q S rs hd hQ => by
    obtain ⟨x, rfl, hd⟩ := d1_ hd
    obtain ⟨v, rfl, rx⟩ := rs.one
    cases x with
    | dic kvs =>
      obtain ⟨p, vs, e, hp, r⟩ := rx.dic_ S
      obtain ⟨css, h1, nd, h64, ha, h2⟩ := hd
      refine ⟨p, vs, css.map mk, by rw [e], .of hp, ?_, by rw [List.length_map]; exact h64, fun ys a hpm hso ha2 => ?_⟩
      · rw [rd_keys r, h1, List.map_map, List.map_map]; rfl
      · have ey := sorted_is nd hpm hso
        subst ey
        have A := AL.new (o := .lst (((srtU css).map mk).map V.str)) S ha2
        exact hQ _ _ _ _ A (.lst upd_same (RpL.strs fun c hc => ha c (srtU_mem.mp hc))) h2
    | _ => exact hd.elim
end
end Zd
set_option maxHeartbeats 2000000
namespace Zd
open PySem PySem.Spec PyProof.Rows L2 TL LamX

/-! ### a lambda without parameters, handed to a def: told exactly -/
/-- what the making does: nothing to what is known, or one more code object, told by the table at P -/
def LamStep (P : Addr) (q : Str) (Good : Addr → Prop) (H : Hp) (c' : Addr) (H1 : Hp) : Prop :=
  (H1 = H ∧ Good c') ∨ ∃ ps more : Array Value, H P = some (.tbl ps) ∧ H c' = none ∧ H1 = upd (upd H P (.tbl (ps ++ more))) c' (CodeO c' q) ∧ TriplesOk (ps ++ more).toList ∧
    ∀ (pos : Pos) (cv : Value), codeAmong pos (ps ++ more).toList = some cv → ∃ c, cv = .ref c ∧ (Good c ∨ c = c')
section
variable {X : Cx} {pins : List (Addr × Obj)} {σ : L2.St} {H : Hp} {s : Shared}
/-- what a lambda's object looks like -/
abbrev lamO (X : Cx) (params : Arguments) (body : Expr) (scope : Scope) (pm : Value) (c' : Addr) (ctv : Value) : Obj := PySem.W.kla_obj "<lambda>" (X.env.qual ++ "<lambda>") params body scope (cloFrom X.env.cells scope.names []) pm c' ctv
/-- what stands when a lambda has been made at f: the heap as it is told now, its code object c' -/
structure LamMade (X : Cx) (pins : List (Addr × Obj)) (σ : L2.St) (H : Hp) (P : Addr) (Good : Addr → Prop) (params : Arguments) (body : Expr) (scope : Scope) (f c' : Addr) (H1 : Hp) (z : Shared) : Prop where
  inv : Inv X pins σ H1 z
  step : LamStep P (X.env.qual ++ "<lambda>") Good H c' H1
  obj : ∃ pm ctv, z.heap.get? f = some (lamO X params body scope pm c' ctv)
  free : H1 f = none
  off : f ∉ frs X.stack
  code : H1 c' = some (CodeO c' (X.env.qual ++ "<lambda>"))
section
variable {Good : Addr → Prop} {ps : Array Value} {c P : Addr} {params : Arguments} {body : Expr} {scope : Scope} {pos : Pos} {E : Value → Shared → Prop} {Q : Value → Shared → Prop}
theorem fresh_off (I : Inv X pins σ H s) {f : Addr} (hf : s.heap.objs.size ≤ f) : f ∉ frs X.stack := by
  intro z
  cases List.mem_cons.mp (I.stkSub f z) with
  | inl e =>
    rw [e] at hf
    exact absurd I.lt (Nat.not_lt.mpr hf)
  | inr e => exact I.nofs hf e
theorem lam_eval (I : Inv X pins σ H s) (TB : TabB X.base X.mg c P) (hcode : X.env.code = .ref c) (hP : H P = some (.tbl ps)) (ht : TriplesOk ps.toList)
    (ha : ∀ (pos : Pos) (cv : Value), codeAmong pos ps.toList = some cv → ∃ c, cv = .ref c ∧ Good c) (hG : ∀ c, Good c → H c = some (CodeO c (X.env.qual ++ "<lambda>")))
    (hdef : defaultsOf params X.env = ([], [])) (hfree : ∀ y ∈ scope.names, y.2 = .free → ∃ c, X.env.cells.lookup y.1 = some c)
    (then_ : ∀ f c' H1 z, LamMade X pins σ H P Good params body scope f c' H1 z → Q (.ref f) z) : wpAny (model X.prog X.w) X.A (eval (.Lambda params body scope pos) X.env) Q E s := by
  have table := I.hok P _ hP
  have names := TB.bm.keeps I.bk
  have head := TB.code.keeps I.bk
  have globals := I.mod.glob.keeps I.bk
  apply PySem.W.kla_eval hdef
  rcases at_ : codeAmong pos ps.toList with _ | cv
  · -- the table doesn't tell it: a new one
    apply PySem.W.kla_makeFunction (mg := X.mg) (c := c) (P := P) (ps := ps) (closure_ok hfree) I.ok.glob globals hcode head table ht at_ TB.gP names
    intro c' ctv h2 tk old ge lt rec_ tab
    have ⟨_, oc, us, t, e, o1, o2, o3⟩ := rec_
    cases e
    have none_ : H c' = none := I.hok.fresh ge
    have grown := Nat.le_trans ge (Nat.le_of_lt lt)
    have push2 : ∀ (u : Obj) b o, h2.get? b = some o → (h2.push u).get? b = some o := fun u b o => Heap.get?_push_of_some u
    let u := lamO X params body scope ((X.mg "__name__").getD .none) c' ctv
    let three : Array Value := #[rawInt pos.line, rawInt pos.col, .ref c']
    have all : (ps ++ three).toList = ps.toList ++ [rawInt pos.line, rawInt pos.col, .ref c'] := Array.toList_append
    apply then_ h2.objs.size c' (upd (upd H P (.tbl (ps ++ three))) c' (CodeO c' (X.env.qual ++ "<lambda>")))
    constructor
    · exact inv_table (t' := tk) I hP (fun b o nb eb => push2 u b o (old b o nb eb)) (push2 u _ _ tab) ge ⟨oc, us, t, push2 u _ _ o1, o2, o3⟩
    · right
      refine ⟨ps, three, hP, none_, rfl, ?_, ?_⟩
      · rw [all]; exact PySem.TriplesOk_snoc _ _ _ _ ht
      · intro p2 cv2 e2
        rw [all] at e2
        cases among_app _ ht e2 with
        | inl e3 =>
          have ⟨c3, e4, e5⟩ := ha p2 cv2 e3
          exact ⟨c3, e4, Or.inl e5⟩
        | inr e3 => exact ⟨c', e3, Or.inr rfl⟩
    · exact ⟨_, ctv, Heap.get?_push_size _ rfl⟩
    · have d1 : h2.objs.size ≠ c' := Nat.ne_of_gt lt
      have d2 : h2.objs.size ≠ P := Nat.ne_of_gt (Nat.lt_of_lt_of_le (Heap.lt_size table) grown)
      rw [upd_ne d1, upd_ne d2, I.hok.fresh grown]
    · exact fresh_off I grown
    · exact upd_same
  · -- it does
    have ⟨c', e, good⟩ := ha pos cv at_
    rw [e] at at_
    apply PySem.W.kla_makeFunctionHit (mg := X.mg) (c := c) (P := P) (ps := ps) (closure_ok hfree) I.ok.glob globals hcode head table ht at_ names
    intro ctv h2 tk old ge
    apply then_ h2.objs.size c' H
    exact ⟨I.kept (t' := tk) fun b o eb => Heap.get?_push_of_some _ (old b o eb), Or.inl ⟨rfl, good⟩, ⟨_, ctv, Heap.get?_push_size _ rfl⟩, I.hok.fresh ge, fresh_off I ge, hG c' good⟩
end
end
section
variable {X : Cx} {pins : List (Addr × Obj)} {σ : L2.St} {H : Hp} {s : Shared}
/-- the def's own context that got the lambda -/
abbrev gotX (X : Cx) (CXg : CXT) (Eg : XK) (Ng : List Str) (qg : Str) (sg : Scope) (g : Addr) (cdg : Value) (s : Shared) (H : Hp) : Cx := cxOf CXg X.prog X.w X.K X.mg X.base Ng qg sg g cdg X.A X.stack s H Eg
/-- a() there: the lambda's body, as its maker reads it -/
theorem pe_lamgo {CXg : CXT} {Eg : XK} {Ng : List Str} {qg : Str} {sg : Scope} {g f c' P : Addr} {cdg : Value} {Good : Addr → Prop} {H0 : Hp} {params : Arguments} {body : Expr} {scope : Scope} {k i : Nat} {a : Str} {pn : List (Addr × Obj)} {xe : Value → Shared → Prop} {W : WX} {tb : XK → TE} {p1 p2 : Pos}
    (M : LamMade X pins σ H0 P Good params body scope f c' H s) (L : LamS X.env.scope scope)
    (hbind : ∀ (q : Str) (cl : List (Str × Addr)) (pm cv ctv : Value), bindArgs (PySem.W.kla_fn "<lambda>" q params body scope cl pm cv ctv) ⟨[], []⟩ = pure [])
    (tk : Takes ((gotX X CXg Eg Ng qg sg g cdg s H).tr pn xe) W) (hr : Room (k + 1) (X.A.deeper (envOfC qg sg s.heap.objs.size g cdg)))
    (hbody : ∀ (E : XK) (outer : List PySem.Env) (z : Shared) (Hz : Hp), Room k ((X.A.deeper (envOfC qg sg s.heap.objs.size g cdg)).deeper (lamEnv X scope z.heap.objs.size f c')) → PE (lamCx X (X.A.deeper (envOfC qg sg s.heap.objs.size g cdg)) outer z Hz E scope f c') body (tb E))
    (hN : Ng[i]? = some a) (hv : Vis sg a) (hd : (a == ("__debug__" : Str)) = false := by decide) (hcd : (a == ("__classdict__" : Str)) = false := by decide) :
    PE ((gotX X CXg Eg Ng qg sg g cdg s H).tr pn xe) (.Call (.Name a p1) [] [] p2) (fun σz Hz Q => σz[i]? = some (some (.ref f)) ∧ Hz c' = some (CodeO c' (X.env.qual ++ "<lambda>")) ∧ tb (WE W σz) σ Hz Q) := by
  constructor
  intro pins2 z0 σz Hz Q Iz h
  have ⟨slot, code, wish⟩ := h
  apply wpAny_Call_Name_kw
  have name := pe_var (X := (gotX X CXg Eg Ng qg sg g cdg s H).tr pn xe) (pos := p1) (i := i) hN hv hd hcd
  apply thn (name.run pins2 z0 σz Hz (fun v H1 => v = .ref f ∧ H1 = Hz) Iz ⟨_, slot, rfl, rfl⟩)
  rintro u z1 ⟨w1, H1, I1, ru, ew, eH⟩
  rw [eH] at I1
  rw [ew] at ru
  rw [show u = Value.ref f from ru]
  have ⟨pm, ctv, made⟩ := M.obj
  have here : z1.heap.get? f = some (lamO X params body scope pm c' ctv) := I1.base.keep f _ made M.free M.off (by intro m; cases (show f ∈ ([] : List Addr) from m))
  refine PySem.W.callWith_F0 ⟨_, _, _, _, here⟩ ?_
  refine wpAny_call ?_
  have ⟨⟨oc, us, t, o1, o2, o3⟩, _⟩ := I1.hok c' _ code
  have went : codeAny (model X.prog X.w) (X.A.deeper (envOfC qg sg s.heap.objs.size g cdg)) (.call (.ref f) ⟨[], []⟩) (CR (L2.CX X.prog X.w) (envOfC qg sg s.heap.objs.size g cdg :: X.stack) X.prog X.w Hz z1 Q (WE W σz)) z1 := by
    apply PySem.W.kla_callFunE hr.depth here rfl L.co L.gen rfl ⟨c', oc, us, t, rfl, o1, o2, o3⟩
    rw [hbind]
    apply wpAny_pure
    apply wpAny_newFunctionEnv (fun y hy => (L.own y hy).2) (fun y hy => absurd hy (by simp)) _ L.kind
    intro h2 ns2 sb
    refine And.intro (I1.nolimit.fresh _ sb) ?_
    have stay : ∀ b o, z1.heap.get? b = some o → h2.get? b = some o := by
      intro b o e
      exact sb.extBut b o (Nat.ne_of_lt (Heap.lt_size e)) (Heap.get?_push_of_some _ e)
    have J := lam_start2 (tk := z1.toks + ([] : List (Str × Value)).length) (E := WE W σz) (f := f) (c' := c') M.inv L I1.env0 hr.hd (show Un (frs X.stack) [] H Hz s.heap z1.heap from I1.base) ns2 stay
    have run := (hbody _ _ z1 Hz (hr.deeper _)).run [] _ _ _ Q J wish
    apply PySem.W.kla_codeExpr
    apply wpAny_mono run
    · rintro v z2 ⟨w2, H2, J2, r2, q2⟩
      exact ⟨w2, H2, J2.os, J2.bare, J2.base, J2.hok, r2, q2⟩
    · exact fun _ _ x => x
  refine codeAny_mono went ?_
  intro r z2 done
  rcases r with e | (u2 | _ | _ | _)
  · exact passAt tk σz pins2 Hz z1 e z2 I1 done
  all_goals first
    | exact I1.after done
    | exact done.elim
end
/-- a def g of one parameter a, that is handed a lambda and calls it: what it makes (TT) of what the lambda's body wishes -/
structure Gets (X : Cx) (k : Nat) (Ng : List Str) (x a : Str) (sg : Scope) (g : Addr) (cdg : Value) (bg : List Stmt) (q : Str) (TT : (XK → Hp → VK → Prop) → Hp → VK → Prop) : Prop where
  go : ∀ (f c' : Addr) (z : Shared) (H : Hp) (Q : VK) (tl : XK → Hp → VK → Prop), Room (k + 1) (X.A.deeper (envOfC x sg z.heap.objs.size g cdg)) → H c' = some (CodeO c' q) →
    (∀ {W : WX} {pn : List (Addr × Obj)} {xe : Value → Shared → Prop} {p1 p2 : Pos}, Takes ((gotX X C8.CX0 C8.E0 Ng x sg g cdg z H).tr pn xe) W →
      PE ((gotX X C8.CX0 C8.E0 Ng x sg g cdg z H).tr pn xe) (.Call (.Name a p1) [] [] p2) (fun σz Hz Q => σz[0]? = some (some (.ref f)) ∧ Hz c' = some (CodeO c' q) ∧ tl (WE W σz) Hz Q)) →
    TT tl H Q → ∃ t, PSs (gotX X C8.CX0 C8.E0 Ng x sg g cdg z H).nox bg t ∧ t { nx := fun _ H' => Q .non H', rt := Q } (L2.start Ng [.ref f]) H
/-- the table as it is told, and what is wished of the call behind the making -/
def tLamC (P : Addr) (q : Str) (TT : (XK → Hp → VK → Prop) → Hp → VK → Prop) (t : XK → TE) : TE := fun σ H Q => ∃ (Good : Addr → Prop) (ps : Array Value), (H P = some (.tbl ps) ∧ TriplesOk ps.toList) ∧
  ((∀ (pos : Pos) (cv : Value), codeAmong pos ps.toList = some cv → ∃ c, cv = .ref c ∧ Good c) ∧ ∀ c, Good c → H c = some (CodeO c q)) ∧ ∀ c' H1, LamStep P q Good H c' H1 → TT (fun E H' Q' => t E σ H' Q') H1 Q
section
variable {X : Cx} {TT : (XK → Hp → VK → Prop) → Hp → VK → Prop} {x a : Str} {g c P : Addr} {k : Nat} {pg : Arguments} {bg : List Stmt} {sg : Scope} {Ng : List Str} {params : Arguments} {body : Expr} {scope : Scope} {t : XK → TE} {p lpos pos : Pos}
/-- the def, as it lies in the written part -/
structure Lies (X : Cx) (x a : Str) (pg : Arguments) (bg : List Stmt) (sg : Scope) (g : Addr) (cdv : Value) : Prop where
  mg : X.mg x = some (.ref g)
  kp : PySem.W.keepIn X.K (.ref g) = true
  cd : PySem.W.codeIn X.K cdv x = true
  at_ : ∃ (dV kV doc pm ct oc : Value) (an od : Option Addr) (osl : Array (Option Value)), X.K.lookup g = some ⟨oc, od, .func (PySem.W.fnOf x x pg bg sg dV kV doc pm an cdv ct), osl⟩ ∧ L2.Binds X.K (PySem.W.fnOf x x pg bg sg dV kV doc pm an cdv ct) [a] []
theorem pe_lamcallC {cdv : Value} (G : Lies X x a pg bg sg g cdv) (hg : Gl X x) (Sg : FnScope Ng [a] sg) (hNg : Ng[0]? = some a) (hva : Vis sg a) (takes : Gets X k Ng x a sg g cdv bg (X.env.qual ++ "<lambda>") TT)
    (TB : TabB X.base X.mg c P) (hcode : X.env.code = .ref c) (hr : Room (k + 2) X.A) (L : LamS X.env.scope scope) (hdef : defaultsOf params X.env = ([], []))
    (hbind : ∀ (q : Str) (cl : List (Str × Addr)) (pm cv ctv : Value), bindArgs (PySem.W.kla_fn "<lambda>" q params body scope cl pm cv ctv) ⟨[], []⟩ = pure [])
    (reads : ∀ (A : Around) (outer : List PySem.Env) (z : Shared) (H : Hp) (E : XK) (f c' : Addr), Room k (A.deeper (lamEnv X scope z.heap.objs.size f c')) → A.guards = X.A.guards → PE (lamCx X A outer z H E scope f c') body (t E))
    (hdb : (x == ("__debug__" : Str)) = false := by decide) (hd : (a == ("__debug__" : Str)) = false := by decide) (hcd : (a == ("__classdict__" : Str)) = false := by decide) :
    PE X (.Call (.Name x p) [.Lambda params body scope lpos] [] pos) (tLamC P (X.env.qual ++ "<lambda>") TT t) := by
  constructor
  intro pins s σ H Q I ⟨Good, ps, ⟨tab, tri⟩, ⟨told, lie⟩, wish⟩
  have ⟨dV, kV, doc, pm, ct, oc, an, od, osl, lk, binds⟩ := G.at_
  apply wpAny_Call_Name_kw
  apply ld_glob I hg G.mg _ hdb
  apply PySem.W.callWith_K (h₀ := X.base) I.ok.mod.kin G.kp _ (by rfl) (by rfl)
  show wpAny _ _ (spliced ((false, eval (.Lambda params body scope lpos) X.env) :: backTo pos (starEach [] X.env))) _ _ s
  apply Calls.spliced_cons
  apply lam_eval I TB hcode tab tri told lie hdef (L.has I.ok)
  intro f c' H1 z M
  apply Calls.spliced_nil
  refine And.intro M.inv.kIn (wpAny_call ?_)
  have went : codeAny (model X.prog X.w) X.A (.call (.ref g) ⟨[.ref f], []⟩) (CR C8.CX0 X.stack X.prog X.w H1 z Q C8.E0) z := by
    apply run_ofS (N := Ng) (ps := [a]) (us := [.ref f]) (vs := [.ref f]) lk G.cd Sg hr M.inv.env0 (binds z [.ref f] M.inv.kIn rfl) (.cons rfl .nil) rfl
    intro room
    have ⟨t2, run, holds⟩ := takes.go f c' z H1 Q (fun E H' Q' => t E σ H' Q') room M.code (fun {W pn xe p1 p2} tk => pe_lamgo (i := 0) M L hbind tk room (fun E outer z2 Hz room2 => reads _ outer z2 Hz E f c' room2 rfl) hNg hva hd hcd) (wish c' H1 M.step)
    exact Exists.intro t2 (And.intro run.nox holds)
  refine codeAny_mono went ?_
  intro r z2 done
  rcases r with e | (u2 | _ | _ | _)
  all_goals first
    | exact M.inv.after done
    | exact (show False from done).elim
end
end Zd
set_option maxHeartbeats 2000000
namespace Zd
open PySem PySem.Spec PyProof.Rows L2 TL LamX

/-! ### g(lambda: ..), over data: the lambda's body raises, g tells a text by what was raised -/
section
variable {K : PySem.W.Frag} {G : Gd} {F H H1 : Hp} {σ : L2.St} {ε : Env}
/-- more lies there -/
theorem Iv.grow (I : Iv K G F H σ ε) (e : Same H H1) : Iv K G F H1 σ ε where
  s0 := I.s0
  sF := I.sF.trans e
  sH := I.sH.trans e
  fr := I.fr
  len := I.len
  d := I.d
  o := fun i c z => by
    have ⟨p, ho, a1, a2, a3, a4, a5⟩ := I.o i c z
    exact ⟨p, ho, a1, a2, a3, e _ _ a4, a5⟩
  dis := I.dis
  pn := I.pn
  tb := I.tb.anyH fun p _ ps z => e _ _ z
  gh := I.gh
/-- a lambda was made -/
theorem Iv.lam {P c' : Addr} {q : Str} (I : Iv K G F H σ ε) (hT : G.tb = [(P, q)]) (st : LamStep P q (fun c => F c = some (CodeO c q)) H c' H1) : ∃ F1, Same F F1 ∧ Iv K G F1 H1 σ ε := by
  rcases st with ⟨rfl, _⟩ | ⟨ps, more, hP, nc, rfl, tri, told⟩
  · exact ⟨F, .refl _, I⟩
  have ⟨_, fP, zP⟩ := I.tb (P, q) (by rw [hT]; exact List.mem_singleton.mpr rfl)
  have fP : F P = none := fP
  have zP : G.H0 P = none := zP
  have fc : F c' = none := I.sF.free nc
  have zc : G.H0 c' = none := I.sH.free nc
  have nPc : P ≠ c' := ne_of_none hP nc
  have kept : ∀ b o, H b = some o → b ≠ P → upd (upd H P (.tbl (ps ++ more))) c' (CodeO c' q) b = some o := fun b o e nb => by
    rw [upd_ne (ne_of_none e nc), upd_ne nb]
    exact e
  have S : Same F (upd F c' (CodeO c' q)) := Same.new fc
  refine ⟨upd F c' (CodeO c' q), S, ?_⟩
  constructor
  case s0 => exact I.s0.trans S
  case sF =>
    intro b o e
    by_cases eb : b = c'
    · subst eb
      rw [upd_same] at e ⊢
      exact e
    · rw [upd_ne eb] at e
      exact kept b o (I.sF _ _ e) (fun z => by rw [z, fP] at e; cases e)
  case sH => exact fun b o e => kept b o (I.sH _ _ e) (fun z => by rw [z, zP] at e; cases e)
  case fr => exact fun p h0 h1 => by rw [upd_ne (fun z => h1 (by rw [z]; exact zc))]; exact I.fr p h0 h1
  case len => exact I.len
  case d =>
    intro i x e
    have ⟨v, a1, a2⟩ := I.d i x e
    exact ⟨v, a1, a2.mono S⟩
  case o =>
    intro i c e
    have ⟨p, ho, a1, a2, a3, a4, a5⟩ := I.o i c e
    have np : p ≠ P := fun z => by
      rw [z, hP] at a4
      exact ocok_tbl a5 ps (Option.some.inj a4).symm
    exact ⟨p, ho, a1, a2, by rw [upd_ne (ne_of_none a4 nc)]; exact a3, kept p ho a4 np, a5.mono S⟩
  case dis => exact I.dis
  case pn => exact I.pn
  case tb =>
    rw [hT]
    intro p hp
    rw [List.mem_singleton] at hp
    subst hp
    refine ⟨⟨ps ++ more, by rw [upd_ne nPc, upd_same], tri, fun pos cv z => ?_⟩, by rw [upd_ne nPc]; exact fP, zP⟩
    have ⟨c, e1, e2⟩ := told pos cv z
    refine ⟨c, e1, ?_⟩
    rcases e2 with e2 | e2
    · exact S _ _ e2
    · rw [e2]; exact upd_same
  case gh => exact I.gh
end
/-- what the def makes of what the lambda raised: a text, by the class -/
def Raised (K : PySem.W.Frag) (word : Str → Option (List Nat)) (Q : VK) : XK := fun cls d H' =>
  ∃ (C : Addr) (n : Str) (w : List Nat), ClsNm K n C ∧ cls = .ref C ∧ d = none ∧ word n = some w ∧ ∀ H3, Same H' H3 → Q (.str (mk w)) H3
def TTr (K : PySem.W.Frag) (word : Str → Option (List Nat)) (tl : XK → Hp → VK → Prop) (H : Hp) (Q : VK) : Prop :=
  ∀ (E : XK) (Q' : VK), (∀ cls d H', Raised K word Q cls d H' → E cls d H') → tl E H Q'
def dRefu (i : Nat) (P : Addr) (q0 : Str) (word : Str → Option (List Nat)) (tb : TD) : TD := fun ε q xq => ε[i]? = some (.gh [(P, q0)]) ∧ tb ε (fun _ _ => False) fun e ε' => ε' = ε ∧ e.fs = none ∧ ∃ w, word e.cls = some w ∧ Asc w ∧ q (.d (.str w)) ε
theorem x_dRefu (i : Nat) (P : Addr) (q0 : Str) (word : Str → Option (List Nat)) (tb : TD) (ε : Env) (q : OQ) (xq : XQ) : dRefu i P q0 word tb ε q xq = (ε[i]? = some (.gh [(P, q0)]) ∧ tb ε (fun _ _ => False) fun e ε' => ε' = ε ∧ e.fs = none ∧ ∃ w, word e.cls = some w ∧ Asc w ∧ q (.d (.str w)) ε) := rfl
section
variable {X : Cx} {W : WX}
theorem refu_of {i : Nat} {P : Addr} {q0 : Str} {word : Str → Option (List Nat)} {tb : TD} (σ : L2.St) (H : Hp) (Q : VK) (h : LE X.K W (dRefu i P q0 word tb) σ H Q) : tLamC P q0 (TTr X.K word) (fun E => LE X.K (WE1 E) tb) σ H Q := by
  have ⟨G, F, ε, q, xq, I, ⟨hgh, ht⟩, hq, hx⟩ := h
  have hT := I.gh i _ hgh
  have ⟨⟨ps, hP, tri, told⟩, _⟩ := I.tb (P, q0) (by rw [hT]; exact List.mem_singleton.mpr rfl)
  refine ⟨fun c => F c = some (CodeO c q0), ps, ⟨hP, tri⟩, ⟨told, fun c e => I.sF _ _ e⟩, fun c' H1 st => ?_⟩
  have ⟨F1, S, I1⟩ := I.lam hT st
  intro E Q' hE
  refine ⟨G, F1, ε, _, _, I1, ht, fun _ _ _ _ _ _ _ _ _ z => z.elim, fun F2 H2 e ε' cls d S2 I2 ⟨C, hC, ec, m⟩ ⟨ee, en, w, hw, hasc, hqq⟩ => ?_⟩
  subst ee
  rw [en] at m
  exact hE _ _ _ ⟨C, e.cls, w, hC, ec, m, hw, fun H3 S3 => hq F2 H3 (.str (mk w)) (.d (.str w)) ε' (S.trans S2) (.refl _) (I2.grow S3) (.str w hasc) hqq⟩
end
/-- error = None; try: work() except AsIfError as e: error = e; return _law_word(error) -/
theorem refu_gets {X : Cx} {k kw : Nat} {sg : Scope} {g CS f fW : Addr} {fdW : FuncData} {cdg : Value} {q : Str} {word : Str → Option (List Nat)} {fs : FS} {j1 : Nat} {p1 p2 p3 p4 p5 p6 p7 p8 p9 pa pb pc pd pe pf pg : Pos}
    (gd : NoG X.A) (hk : kw ≤ k + 1) (hCS : X.mg "AsIfError" = some (.ref CS)) (mW : X.mg "_law_word" = some (.ref fW)) (keepW : PySem.W.keepIn X.K (.ref fW) = true) (bW : Binds X.K fdW ["e"] []) (ok : FnG X.prog X.w X.K X.mg X.base (L2.CX X.prog X.w) kw fW fdW ["e"] (spOf X.K fs))
    (S : FnScope ["work", "error", "e"] ["work"] sg) (s1 : sg.names.lookup ("work" : Str) = some .local) (s2 : sg.names.lookup ("error" : Str) = some .local) (s3 : sg.names.lookup ("e" : Str) = some .local) (s4 : sg.names.lookup ("AsIfError" : Str) = some .globalImplicit) (s5 : sg.names.lookup ("_law_word" : Str) = some .globalImplicit)
    (isA : ∀ (n : Str) (w : List Nat) (C : Addr), word n = some w → ClsNm X.K n C → PySem.W.exmOne X.K (.ref C) (.ref CS) = some true)
    (tells : ∀ (n : Str) (w : List Nat), word n = some w → fs [.d (.exc n [])] (fun d _ => d = .str w) fun _ _ => False) :
    Gets X k ["work", "error", "e"] "_law_refused" "work" sg g cdg [.Assign [.Name "error" p1] (.Constant .none j1 p2) p3,
      .Try [.Expr (.Call (.Name "work" p4) [] [] p5) p6] [.ExceptHandler (some (.Name "AsIfError" p7)) (some "e") [.Assign [.Name "error" p8] (.Name "e" p9) pa] pb] [] [] pc, .Return (some (.Call (.Name "_law_word" pd) [.Name "error" pe] [] pf)) pg] q (TTr X.K word) := by
  constructor
  intro f c' z H Q tl room hc act wish
  have nd : (["work", "error", "e"] : List Str).Nodup := by decide
  refine ⟨_, pss_cons (ps_set (i := 1) nd rfl (.inl s2) pe_non rfl (.inr s2)) (pss_cons (ps_tryV (i := 2) (c := .ref CS) (ts := tAsg (tVar 2) (gName 1)) (Wo := fun _ _ _ _ => False)
      (tb := fun V => tDrop fun σz Hz Q => σz[0]? = some (some (.ref f)) ∧ Hz c' = some (CodeO c' q) ∧ tl (WE V σz) Hz Q) rfl rfl rfl nd rfl s3 ⟨s4, by decide, .inl hCS⟩ L2.takes0 (fun V pn xe tk _ => pss_one (ps_expr (act tk)))
      fun a oe pn => pss_one (ps_set (i := 1) nd rfl (.inl s2) (pe_var (i := 2) rfl (.inl s3)) rfl (.inr s2)))
    (pss_one (ps_ret (pe_GC ok gd (room.mono hk) s5 mW keepW bW passL (pa_cons (pe_var (i := 1) rfl (.inl s2)) pa_nil))))), ?_⟩
  refine ⟨rfl, hc, wish _ _ ?_⟩
  rintro cls d H' ⟨C, n, w, hC, rfl, rfl, hw, hQ⟩
  refine ⟨true, isA n w C hw hC, fun _ => ⟨C, rfl, fun a na => ⟨.ref a, rfl, fun _ => ⟨.ref a, rfl, ?_⟩⟩⟩, fun z => by cases z⟩
  have up : Same H' (upd H' a (ExV C none a)) := Same.new na
  refine ⟨upd (fun _ => none) a (ExV C none a), [.d (.exc n [])], fun d _ => d = .str w, fun _ _ => False, fun b o e => ?_, .d (.exc upd_same hC) .nil, List.nodup_nil, tells n w hw, fun F' H3 v d as' B r e => ?_, fun _ _ _ _ _ _ _ _ z => z.elim⟩
  · by_cases eb : b = a
    · subst eb
      rw [upd_same] at e ⊢
      exact e
    · rw [upd_ne eb] at e
      cases e
  · subst e
    have ev : v = .str (mk w) := by
      cases r
      rfl
    rw [ev]
    exact hQ H3 fun b o e => B.keep b o (up b o e) (List.not_mem_nil)
end Zd
set_option maxHeartbeats 2000000
namespace Zd
open PySem PySem.Spec PyProof.Rows L2 TL LamX

/-! ### the law itself makes a lambda -/
def CodeOf (K : PySem.W.Frag) (f : Addr) (cdv : Value) : Prop := ∃ o fd, K.lookup f = some o ∧ o.data = .func fd ∧ fd.code = cdv
section
variable {P : Program} {w : World} {K : PySem.W.Frag} {mg : Str → Option Value} {base : Heap} {CX : CXT} {k : Nat} {f : Addr} {ps : List Str} {sp : Sp} {fd : FuncData}
theorem FnG.ofC {x qual : Str} {st : Stmt} {N : List Str} (F : Fun K x qual st f fd) (S : FnScope N ps (defScope st)) (ln : ∀ {vs H Q E}, sp vs H Q E → vs.length = ps.length)
    (body : ∀ (cdv : Value) (A : Around) (outer : List PySem.Env) (s : Shared) (H : Hp) (vs : List V) (Q : VK) (E : XK), CodeOf K f cdv → NoG A → Room k (A.deeper (PyProof.Rows.envOfC qual (defScope st) s.heap.objs.size f cdv)) → sp vs H Q E →
      ∃ t, PSs (cxOf CX P w K mg base N qual (defScope st) f cdv A outer s H E) (defBody st) t ∧ t { nx := fun _ H' => Q .non H', rt := Q } (L2.start N vs) H) : FnG P w K mg base CX (k + 1) f fd ps sp := by
  obtain ⟨_, _, _, _, _, _, cdv, _, _, rfl, look, code⟩ := F.ex
  refine ⟨ln, @fun A outer s H args us vs Q E g room e0 bd rl hsp => ?_⟩
  have old : ∀ b o, base.get? b = some o → s.heap.get? b = some o := fun b o e => (e0.bs b o e).1
  have inH := e0.mod.kin.keeps old
  refine codeAny_call_function room.depth (inH _ _ look) rfl S.co S.gen rfl (PySem.W.codeRec_of inH code) (bd _ _ _ _ (wpAny_newFunctionEnv_cells S.kind ?_ ?_))
  · rintro ⟨n, v⟩ hy
    exact (S.par n (List.of_mem_zip hy).1).imp id fun q => ⟨q, PySem.W.cellsFrom_some _ _ _ (.inl q)⟩
  · rintro env rfl s1 x
    obtain ⟨t, hp, ht⟩ := body cdv A outer s H vs Q E ⟨_, _, look, rfl, rfl⟩ g (room.deeper _) hsp
    refine ⟨(e0.mod.nolimit.keeps old).keeps x.toInCall.keep, codeAny_func (wpAny_mono (hp.run [] s1 _ H _ (inv_start S room.hd e0 (ln hsp) rl x) ht) (fun fl s' hs => ?_) fun _ _ h => h)⟩
    have hu : ∀ {σ : L2.St} {H' : Hp} {v : V} {u : Value}, L2.Inv (cxOf CX P w K mg base N qual (defScope st) f cdv A outer s H E) [] σ H' s' → RelV v u → Q v H' → CE outer P w H s Q u s' := fun J rv q => ⟨_, _, J.os, J.bare, J.base, J.hok, rv, q⟩
    exact match fl, hs with
      | .ret _, ⟨_, _, _, J, rv, q⟩ => hu J rv q
      | .next, ⟨_, _, J, q⟩ => hu (v := .non) (u := .none) J rfl q
      | .brk, ⟨_, _, _, q⟩ => q.elim
      | .cont, ⟨_, _, _, q⟩ => q.elim
/-- the law's promise, its table empty at first -/
def spT (K : PySem.W.Frag) (P : Addr) : Sp := fun vs H Q _ => H P = some (.tbl #[]) ∧ ∃ (a : Addr) (ns : List Int), vs = [.ref a] ∧ SqL K H a (ns.map V.int) ∧ ns.length ≤ 63 ∧ ∀ H', Q (.bl true) H'
def envT (ns : List Int) (n : Nat) (P : Addr) (q : Str) : Env := env0 [.d (.ro (ns.map D.int))] n ++ [.gh [(P, q)]]
theorem envT_at {ns : List Int} {n : Nat} {Pt : Addr} {q : Str} {i : Nat} {s : Sl} (h0 : 1 ≤ n) (h : (envT ns n Pt q)[i]? = some s) : (i = 0 ∧ s = .d (.ro (ns.map D.int))) ∨ s = .no ∨ (i = n ∧ s = .gh [(Pt, q)]) := by
  unfold envT env0 at h
  have l0 : ([Sl.d (.ro (ns.map D.int))] ++ List.replicate (n - [Sl.d (.ro (ns.map D.int))].length) Sl.no).length = n := by simp; omega
  by_cases c : i < n
  · rw [List.getElem?_append_left (by rw [l0]; exact c)] at h
    cases i with
    | zero => exact .inl ⟨rfl, by simpa using h.symm⟩
    | succ i =>
      refine .inr (.inl ?_)
      rw [List.getElem?_append_right (by simp)] at h
      exact List.eq_of_mem_replicate (List.mem_of_getElem? h)
  · rw [List.getElem?_append_right (by rw [l0]; omega), l0] at h
    have e : i - n = 0 := by
      have := (List.getElem?_eq_some_iff.mp h).1
      simp at this
      omega
    rw [e] at h
    exact .inr (.inr ⟨by omega, by simpa using h.symm⟩)
theorem start_ivT {H : Hp} {a Pt : Addr} {ns : List Int} {n : Nat} {q : Str} {N : List Str} (hN : N.length = n + 1) (h0 : 1 ≤ n) (hP : H Pt = some (.tbl #[])) (hS : SqL K H a (ns.map V.int)) :
    Iv K ⟨fun b => if b = Pt then none else H b, fun b => if b = Pt then none else H b, [], [(Pt, q)]⟩ (fun b => if b = Pt then none else H b) H (L2.start N [.ref a]) (envT ns n Pt q) := by
  have sub : Same (fun b => if b = Pt then none else H b) H := fun b o e => by
    by_cases eb : b = Pt
    · simp [eb] at e
    · simpa [eb] using e
  have seq : SqL K (fun b => if b = Pt then none else H b) a (ns.map V.int) := by
    rcases hS with (h | ⟨o, h⟩) | h
    · exact .inl (.inl (by simp only []; rw [if_neg (fun z => by rw [z, hP] at h; cases h)]; exact h))
    · exact .inl (.inr ⟨o, by simp only []; rw [if_neg (fun z => by rw [z, hP] at h; cases h)]; exact h⟩)
    · exact .inr h
  constructor
  case s0 => exact .refl _
  case sF => exact sub
  case sH => exact sub
  case fr => exact fun p z1 z2 => z1
  case len => simp [L2.start, envT, env0, hN]; omega
  case d =>
    intro i x e
    rcases envT_at h0 e with ⟨rfl, e2⟩ | e2 | ⟨_, e2⟩
    · cases e2
      exact ⟨.ref a, by simp [L2.start], .ro seq RpL.ints⟩
    · cases e2
    · cases e2
  case o =>
    intro i c e
    unfold ownAt at e
    cases z : (envT ns n Pt q)[i]? with
    | none => rw [z] at e; cases e
    | some s =>
      rw [z] at e
      rcases envT_at h0 z with ⟨_, e2⟩ | e2 | ⟨_, e2⟩ <;> (subst e2; cases e)
  case dis =>
    intro i j p _ hi
    refine absurd ?_ hi
    unfold ownAt
    cases z : (envT ns n Pt q)[i]? with
    | none => rfl
    | some s => rcases envT_at h0 z with ⟨_, e2⟩ | e2 | ⟨_, e2⟩ <;> (subst e2; rfl)
  case pn => exact fun ip hm => nomatch hm
  case tb =>
    intro p hp
    rw [List.mem_singleton] at hp
    subst hp
    refine ⟨⟨#[], hP, True.intro, fun pos cv z => ?_⟩, if_pos rfl, if_pos rfl⟩
    have z : codeAmong pos [] = some cv := z
    simp [codeAmong] at z
  case gh =>
    intro i T e
    rcases envT_at h0 e with ⟨_, e2⟩ | e2 | ⟨_, e2⟩
    · cases e2
    · cases e2
    · cases e2
      rfl
theorem fn_okT {st : Stmt} {N : List Str} {n : Nat} {c Pt : Addr} {q : Str} (F : Fun K "law" "law" st f fd) (S : FnScope N ["script"] (defScope st)) (hN : N.length = n + 1) (h0 : 1 ≤ n) (hc : ∀ cdv, CodeOf K f cdv → cdv = .ref c)
    (hbody : ∀ (A : Around) (outer : List PySem.Env) (s : Shared) (H : Hp) (E : XK), NoG A → Room k (A.deeper (PyProof.Rows.envOfC "law" (defScope st) s.heap.objs.size f (.ref c))) →
      ∃ t, DSs (cxOf (L2.CX P w) P w K mg base N "law" (defScope st) f (.ref c) A outer s H E) (WE1 E) (defBody st) t ∧
        ∀ ns : List Int, ns.length ≤ 63 → t { nx := fun _ => False, rt := fun d _ => d = .bl true, xq := fun _ _ => False } (envT ns n Pt q)) :
    FnG P w K mg base (L2.CX P w) (k + 1) f fd ["script"] (spT K Pt) := by
  refine FnG.ofC F S (fun {vs H Q E} h => by obtain ⟨_, a, ns, rfl, _⟩ := h; rfl) fun cdv A outer s H vs Q E hcd gd hr h => ?_
  obtain ⟨hP, a, ns, rfl, hS, hl, hQ⟩ := h
  have := hc cdv hcd
  subst this
  obtain ⟨t, ht, hv⟩ := hbody A outer s H E gd hr
  refine ⟨_, ht.pss, _, _, _, _, start_ivT hN h0 hP hS, hv ns hl, ?_⟩
  exact ⟨fun _ _ _ _ _ _ h => h.elim, fun F' H' σ' ε' v d _ I r h => by
      subst h
      cases r
      exact hQ H', fun _ _ _ _ _ _ h => h.elim, fun _ _ _ _ _ _ h => h.elim, fun _ _ _ _ _ _ _ _ _ _ h => h.elim, fun _ _ _ _ _ _ _ _ _ _ _ h => h.elim⟩
end
end Zd
set_option maxHeartbeats 2000000
namespace Zd
open PySem PySem.Spec PyProof.Rows L2 TL LamX

/-! ### the end of a row whose law makes a lambda -/
/-- what the written part says of the law's code object c and of its table at Pt -/
structure TabK (K : PySem.W.Frag) (fa c Pt : Addr) : Prop where
  hd : PySem.W.codeHdIn K c Pt = true
  no : K.lookup Pt = none
  of_ : CodeOf K fa (.ref c)
  at_ : ∃ (e : Value) (dd : Option Addr) (vs : Array Value) (sl : Array (Option Value)), K.lookup c = some ⟨e, dd, .fields vs, sl⟩ ∧ vs[11]? = some (.ref Pt)
section
variable {P : Program} {w : World} {K : PySem.W.Frag} {mg mb : Str → Option Value} {k : Nat} {fa a c Pt : Addr} {fd : FuncData} {x : Str} {s1 : Shared} {vs : List Value} {ns : List Int}
/-- the script and the table alone are tracked -/
structure Two (H : Hp) (a Pt : Addr) : Prop where
  tab : H Pt = some (.tbl #[])
  only : ∀ b u, H b = some u → (b = a ∧ ∃ ob xs, u = .frz ob (.lst xs)) ∨ b = Pt
theorem law_coreT {H : Hp} (al : Two H a Pt) (hc : PySem.W.codeHdIn K c Pt = true) (hPt : s1.heap.get? Pt = some { cls := .none, data := .fields #[] }) (nPt : K.lookup Pt = none) (KX : K.In s1.heap) (hns : s1.heap.Ns mainGlobals mg) (hb : s1.heap.Ns builtinsNs mb)
    (hbb : ∀ y : Str, y ≠ "__name__" → mb y = bootBuiltins y) (lim : s1.heap.NoLimit) (gens : s1.gens = #[]) (hbm : ∃ (bm : Addr) (ob : Obj), mg "__builtins__" = some (.ref bm) ∧ bm ≠ builtinsNs ∧ s1.heap.get? bm = some ob ∧ ob.cls = .type "module" ∧ ob.dict = some builtinsNs ∧ ob.data = .plain)
    (ha : s1.heap.get? a = some (scr vs)) (hr : Room k callerA) (F : ∀ base : Heap, K.In base → base.Ns mainGlobals mg → TabB base mg c Pt → FnG P w K mg base (L2.CX P w) k fa fd [x] (spT K Pt)) (bd : ∀ (s : Shared) (u : Value), BindsTo s fd ⟨[u], []⟩ [(x, u)])
    (hS : SqL K H a (ns.map V.int)) (hl : ns.length ≤ 63) (ok : HOk P w H s1.heap) (hK : H a ≠ none → K.lookup a = none) :
    codeAny (model P w) callerA (.call (.ref fa) ⟨[.ref a], []⟩) (fun r s' => r = .ok (.ret (.bool true)) ∧ OldK s1.heap s'.heap ∧ s'.os = s1.os ∧ AllBare s'.gens) s1 := by
  -- what is neither the script nor the table is not tracked
  have free : ∀ {b : Addr} {o : Obj}, s1.heap.get? b = some o → o ≠ scr vs → o ≠ { cls := .none, data := .fields #[] } → H b = none := fun {b o} e z1 z2 => by
    cases q : H b with
    | none => rfl
    | some u =>
      rcases al.only b u q with ⟨eb, _⟩ | eb
      · rw [eb, ha] at e
        exact absurd (Option.some.inj e).symm z1
      · rw [eb, hPt] at e
        exact absurd (Option.some.inj e).symm z2
  have nsH : ∀ {b : Addr} {m : Str → Option Value}, s1.heap.Ns b m → (hidT s1.heap H).Ns b m := fun {b m} ⟨o, es, ep, e, d, r⟩ =>
    ⟨o, es, ep, hidT_get e (free e (fun z => by rw [z] at d; cases d) fun z => by rw [z] at d; cases d), d, r⟩
  have inH : K.In (hidT s1.heap H) := fun b o e => hidT_get (KX b o e) (by
    cases q : H b with
    | none => rfl
    | some u =>
      rcases al.only b u q with ⟨eb, _⟩ | eb
      · subst eb
        rw [hK (by rw [q]; simp)] at e
        cases e
      · rw [eb, nPt] at e
        cases e)
  have TB : TabB (hidT s1.heap H) mg c Pt := by
    refine ⟨PySem.W.codeHd_of_K inH hc, ?_, fun z => ?_⟩
    · have ⟨bm, ob, b1, b2, b3, b4, b5, b6⟩ := hbm
      refine ⟨bm, ob, b1, b2, fun z => ?_, fun z => ?_, hidT_get b3 (free b3 (fun z => by rw [z] at b6; cases b6) fun z => by rw [z] at b6; cases b6), b4, b5, b6⟩
      · have ⟨o, es, ep, e, d, _⟩ := hns
        rw [z, e] at b3
        cases b3
        rw [d] at b6
        cases b6
      · rw [z, hPt] at b3
        cases b3
        cases b6
    · have ⟨o, es, ep, e, d, _⟩ := hns
      rw [z, hPt] at e
      cases e
      cases d
  have ⟨mc, c1, c2⟩ := lim
  have env : Env0 P w K mg (hidT s1.heap H) callerA [] s1 H := by
    refine ⟨rfl, ⟨inH, nsH hns, ⟨mb, nsH hb, hbb⟩, ⟨mc, nsH c1, c2⟩⟩, fun _ _ e => of_hidT e, Nat.le_of_eq (hidT_size _ _), trivial, ?_, ok, .of_eq gens⟩
    intro b hb
    exact (List.not_mem_nil hb).elim
  refine codeAny_mono ((F _ inH (nsH hns) TB).go (us := [.ref a]) (vs := [.ref a]) (Q := fun v _ => v = .bl true) (E := fun _ _ _ => False) (by rfl) hr env (bd s1 (.ref a)) (.cons rfl .nil) ⟨al.tab, a, ns, rfl, hS, hl, fun _ => rfl⟩) ?_
  rintro (e | fl) s' h
  · exact (law_cx h).elim
  match fl, h with
  | .next, h => exact h.elim
  | .brk, h => exact h.elim
  | .cont, h => exact h.elim
  | .ret u, ⟨v, H', os, bare, un, ok', rv, q⟩ =>
    have q : v = .bl true := q
    subst q
    have rv : u = Value.bool true := rv
    subst rv
    -- the table has grown, all else stays
    have stay : ∀ b o, b ≠ Pt → s1.heap.get? b = some o → s'.heap.get? b = some o := fun b o nb e => by
      cases q : H b with
      | none => exact un.keep b o e q (fun z => (List.not_mem_nil z).elim) (by simp)
      | some y =>
        rcases al.only b y q with ⟨_, ob, xs, ey⟩ | eb
        · subst ey
          have g1 := (ok b _ q).1
          have g2 := (ok' b _ (un.frzs b ob _ q)).1
          rw [e] at g1
          cases g1
          exact g2
        · exact absurd eb nb
    have ⟨more, ht⟩ := un.tbls Pt #[] al.tab
    have grown : s'.heap.get? Pt = some { cls := .none, data := .fields (#[] ++ more) } := ok' Pt _ ht
    have hcd : PySem.W.CodeHd s1.heap c Pt := PySem.W.codeHd_of_K KX hc
    refine ⟨rfl, ⟨fun b o e => ?_, fun b o e => ?_⟩, os, bare⟩
    · by_cases eb : b = Pt
      · subst eb
        rw [hPt] at e
        cases e
        exact .inr (.inl ⟨(hcd.tab hPt).isCodeTable, rfl, #[], more, rfl, grown⟩)
      · exact .inl (stay b o eb e)
    · by_cases eb : b = Pt
      · rw [eb]; exact ⟨_, grown⟩
      · exact ⟨o, stay b o eb e⟩
/-- the script, where the written part doesn't hold it, and the table -/
def twoH (a Pt : Addr) (vs : List Value) (ns : List Int) : Hp := fun b => if b = Pt then some (.tbl #[]) else soleH a vs ns b
theorem law_GT (hc : PySem.W.codeHdIn K c Pt = true) (hPt : s1.heap.get? Pt = some { cls := .none, data := .fields #[] }) (nPt : K.lookup Pt = none) (KX : K.In s1.heap) (hns : s1.heap.Ns mainGlobals mg) (hb : s1.heap.Ns builtinsNs mb)
    (hbb : ∀ y : Str, y ≠ "__name__" → mb y = bootBuiltins y) (lim : s1.heap.NoLimit) (gens : s1.gens = #[]) (hbm : ∃ (bm : Addr) (ob : Obj), mg "__builtins__" = some (.ref bm) ∧ bm ≠ builtinsNs ∧ s1.heap.get? bm = some ob ∧ ob.cls = .type "module" ∧ ob.dict = some builtinsNs ∧ ob.data = .plain)
    (ha : s1.heap.get? a = some (scr vs)) (hi : IntsAre vs ns) (hl : ns.length ≤ 63) (hr : Room k callerA) (F : ∀ base : Heap, K.In base → base.Ns mainGlobals mg → TabB base mg c Pt → FnG P w K mg base (L2.CX P w) k fa fd [x] (spT K Pt))
    (bd : ∀ (s : Shared) (u : Value), BindsTo s fd ⟨[u], []⟩ [(x, u)]) :
    codeAny (model P w) callerA (.call (.ref fa) ⟨[.ref a], []⟩) (fun r s' => r = .ok (.ret (.bool true)) ∧ OldK s1.heap s'.heap ∧ s'.os = s1.os ∧ AllBare s'.gens) s1 := by
  have rv := vals_ints hi
  have nl := hi.length
  have line : (ns.map V.int).length ≤ sizeLine := by rw [List.length_map]; exact Nat.le_trans hl (by decide)
  have apart : a ≠ Pt := fun z => by
    rw [z, hPt] at ha
    cases ha
  by_cases hk : K.lookup a = none
  · have at_a : twoH a Pt vs ns a = some (.frz (scr vs) (.lst (ns.map V.int))) := by simp [twoH, apart, soleH]
    refine law_coreT (H := twoH a Pt vs ns) ⟨by simp [twoH], fun b u z => ?_⟩ hc hPt nPt KX hns hb hbb lim gens hbm ha hr F bd (.inl (.inr ⟨_, at_a⟩)) hl (fun b u z => ?_) fun _ => hk
    · by_cases e1 : b = Pt
      · exact .inr e1
      · by_cases e2 : b = a
        · subst e2
          rw [at_a] at z
          cases z
          exact .inl ⟨rfl, _, _, rfl⟩
        · simp [twoH, e1, soleH, e2] at z
    · by_cases e1 : b = Pt
      · subst e1
        simp [twoH] at z
        cases z
        exact hPt
      · by_cases e2 : b = a
        · subst e2
          rw [at_a] at z
          cases z
          exact ⟨ha, line, vs, _, rv, ha⟩
        · simp [twoH, e1, soleH, e2] at z
  · obtain ⟨o, ho⟩ := Option.ne_none_iff_exists'.mp hk
    have e := KX a o ho
    rw [ha] at e
    obtain rfl := Option.some.inj e
    refine law_coreT (H := fun b => if b = Pt then some (.tbl #[]) else none) ⟨by simp, fun b u z => ?_⟩ hc hPt nPt KX hns hb hbb lim gens hbm ha hr F bd (.inr ⟨_, vs.toArray, _, ho, rfl, rfl, rfl, ?_, by simpa using rv⟩) hl (fun b u z => ?_) fun z => absurd (by simp [apart]) z
    · by_cases e1 : b = Pt
      · exact .inr e1
      · simp [e1] at z
    · rw [List.size_toArray, nl]
      simpa using line
    · by_cases e1 : b = Pt
      · subst e1
        simp at z
        cases z
        exact hPt
      · simp [e1] at z
end
theorem walk_GT {l : PySem.W.OpenLaw} {k : Nat} {q : Program} {loose : List Str} {XP : (Str → Option Value) → Heap → Prop} {YP : World → Heap → Prop} {d : DefRec} {K : Params → PySem.W.Frag} {x : Str}
    (hn : l.most = some 63) (hdf : d.params.defaults = []) (hr : Room k callerA) (hrec : ((recsOf q).any fun e => e.name == d.name) = true) (hY : ∀ (w : World) (h : Heap), YP w h → (K w.params).In h)
    (F : ∀ (w : World) (mg : Str → Option Value) (fa : Addr) (h : Heap), (K w.params).In h → h.Ns mainGlobals mg → mg d.name = some (.ref fa) →
      ∃ (fd : FuncData) (c Pt : Addr), TabK (K w.params) fa c Pt ∧ (∀ (s : Shared) (u : Value), BindsTo s fd ⟨[u], []⟩ [(x, u)]) ∧
        ∀ base : Heap, (K w.params).In base → base.Ns mainGlobals mg → TabB base mg c Pt → FnG l.prog w (K w.params) mg base (L2.CX l.prog w) k fa fd [x] (spT (K w.params) Pt)) :
    PySem.W.WalkO q loose XP YP l.row.toRowW d [] (fun f vs => PySem.call f vs) := by
  refine Att.attach_call hn hdf fun w s₀ s₁ mg mb fa o pm cd doc a vs ns G Y ho hd hcd hmg hobj hints hlen hg => ?_
  have KX := hY w _ Y
  obtain ⟨fd, c, Pt, T, bd, hF⟩ := F w mg fa _ KX G.T.g hmg
  -- the table is empty: the top says so of each def's own
  have empty : s₁.heap.get? Pt = some { cls := .none, data := .fields #[] } := by
    obtain ⟨o1, fd1, k1, k2, k3⟩ := T.of_
    obtain ⟨e, dd, us, sl, k4, k5⟩ := T.at_
    obtain ⟨dL, hm, hn1⟩ := List.any_eq_true.mp hrec
    obtain ⟨a', o', fd', c', P', h1, h2, h3, h4, _, ⟨oc, vc, e1, _, e3, e4⟩, hP⟩ := G.T.tab dL hm
    rw [show dL.name = d.name from beq_iff_eq.mp hn1, hmg] at h1
    cases h1
    rw [KX _ _ k1] at h2
    cases h2
    rw [k2] at h3
    cases h3
    rw [k3] at h4
    cases h4
    rw [KX _ _ k4] at e1
    cases e1
    cases e3
    rw [k5] at e4
    cases e4
    exact hP
  exact law_GT T.hd empty T.no KX G.T.g G.T.b G.T.builtins G.T.nolimit hg G.T.bmain hobj hints hlen hr hF bd
end Zd
set_option maxHeartbeats 2000000
namespace Zd
open PySem PySem.Spec PyProof.Rows L2 TL LamX

/-! ### list.count, list.index: lists of truth values -/
def isL (x : D) : Prop := match x with
  | .lst _ => True
  | _ => False
structure DML (X : Cx) (id : String) (dop : D → D → (D → Prop) → Prop) where
  r : V → List V → Hp → VK → Prop
  h : MtR X id r
  hr : ∀ F H v w x y (q : D → Prop) (Q : VK), Same F H → RpB X.K F H v x → RpB X.K F H w y → dop x y q → (∀ z d, Rp X.K F z d → q d → Q z H) → r v [w] H Q
def dML (dop : D → D → (D → Prop) → Prop) (ta : TD) (tb : TL) : TD := fun ε q xq => ta ε (fun o ε1 => isL (o.get ε1) ∧ tb ε1 (fun os ε2 => match os with
  | [o'] => dop (o.get ε2) (o'.get ε2) fun z => q (.d z) ε2
  | _ => False) xq) xq
theorem x_dML (dop : D → D → (D → Prop) → Prop) (ta : TD) (tb : TL) (ε : Env) (q : OQ) (xq : XQ) : dML dop ta tb ε q xq = ta ε (fun o ε1 => isL (o.get ε1) ∧ tb ε1 (fun os ε2 => match os with
  | [o'] => dop (o.get ε2) (o'.get ε2) fun z => q (.d z) ε2
  | _ => False) xq) xq := rfl
section
variable {X : Cx} {W : WX} {o e : Expr} {ta : TD} {tb : TL} {id : String} {name : Str} {apos pos : Pos}
theorem de_ml {dop : D → D → (D → Prop) → Prop} (k : DML X id dop) (h : PE X (.Call (.Attribute o name apos) [e] [] pos) (tBM X.K "list" k.r (LE X.K W ta) (LA X.K W tb))) : DE X W (.Call (.Attribute o name apos) [e] [] pos) (dML dop ta tb) := by
  refine ⟨PE.conv h fun σ H Q ⟨G, F, ε, q, xq, I, ht, hq, hx⟩ => ?_⟩
  refine ⟨G, F, ε, _, xq, I, ht, fun F1 H1 v o1 ε1 s1 k1 I1 r1 ⟨hs, h1⟩ => ?_, hx⟩
  have rb := r1.b I1
  refine ⟨?_, G, F1, ε1, _, xq, I1, h1, fun F2 H2 vs os ε2 s2 k2 I2 r2 h2 => ?_, hx.mono s1⟩
  · generalize o1.get ε1 = y at rb hs
    cases y with
    | lst c =>
      obtain ⟨a, vs, rfl, e, _⟩ := rb.lst_ I1.sF
      exact .inl ⟨rfl, vs, .inl (.inl e)⟩
    | _ => exact hs.elim
  · have rx := (r1.mono s2 k2).b I2
    have rs := r2.bs I2
    cases os with
    | nil => exact h2.elim
    | cons o2 ot =>
      cases ot with
      | cons _ _ => exact h2.elim
      | nil =>
        cases r2 with
        | cons r3 r4 =>
          cases r4
          exact k.hr F2 H2 v _ _ _ _ Q I2.sF rx (r3.b I2) h2 fun z d rz hz => hq F2 H2 z (.d d) ε2 (s1.trans s2) (k1.trans k2) I2 rz hz
end
/-- how often -/
def fLCnt (x y : D) (q : D → Prop) : Prop := match x, y with
  | .lst xs, .bl b => match blsOf xs with
    | some bs => q (.int (bs.count b : Nat))
    | none => False
  | _, _ => False
/-- where first -/
def fLInd (x y : D) (q : D → Prop) : Prop := match x, y with
  | .lst xs, .bl b => match blsOf xs with
    | some bs => match bs.idxOf? b with
      | some j => q (.int (j : Nat))
      | none => False
    | none => False
  | _, _ => False
def rCntV (K : PySem.W.Frag) : V → List V → Hp → VK → Prop := fun x xs H Q => ∃ (a : Addr) (ys : List V) (y : V), x = .ref a ∧ xs = [y] ∧ SqL K H a ys ∧ flatV y = true ∧ ys.all flatV = true ∧ Q (.int (ys.countP (fun z => eqV z y) : Nat)) H
theorem countP_eqU {y : V} : ∀ {ys : List V} {us : List Value}, Vals ys us → ys.all flatV = true → us.countP (eqU y) = ys.countP fun z => eqV z y
  | _, _, .nil, _ => rfl
  | _ :: _, _ :: _, .cons r t, f => by
    rw [List.all_cons, Bool.and_eq_true] at f
    rw [List.countP_cons, List.countP_cons, countP_eqU t f.2, eqU_of r f.1]
section
variable {X : Cx}
theorem mt_cntV : MtR X "list.count" (rCntV X.K) := by
  rintro pins s σ H x xs v us Q I rx rxs ⟨a, ys, y, rfl, rfl, sq, fy, fys, q⟩
  obtain ⟨u, rfl, ru⟩ := rxs.one
  cases rx
  obtain ⟨its, rv, ⟨oo, n, ho, c1, c2, c3⟩, _⟩ := I.list sq
  obtain ⟨oc, od, oda, osl⟩ := oo
  cases (show oc = _ from c1)
  cases (show od = _ from c2)
  cases (show oda = _ from c3)
  have told := SeqAt.list_countAt a its.toArray n none osl u (eqU y)
  refine call_meets PySem.F.slot_list_count ⟨_, ho, rfl⟩ PySem.F.entry_list_count (PySem.F.args_list_count_2 _ _) told ⟨ho, fun z hz => mem_eqAt ru fy rv fys z (by simpa using hz), .int (ys.countP fun z => eqV z y : Nat), H, I.tok _, ⟨s.toks, ?_⟩, q⟩
  rw [← countP_eqU rv fys]
def lcntR : DML X "list.count" fLCnt where
  r := _
  h := mt_cntV
  hr := fun F H v w x y q Q S rx ry hd hQ => by
    unfold fLCnt at hd
    split at hd
    · rename_i xs b
      cases e : blsOf xs with
      | none => rw [e] at hd; exact hd.elim
      | some bs =>
        rw [e] at hd
        obtain ⟨a, vs, e1, e2, r⟩ := rx.lst_ S
        have ev := bls_of r e
        subst ev
        refine ⟨a, _, .bl b, e1, by rw [ry.bl_], .inl (.inl e2), rfl, by simp [flatV], hQ _ _ (.int _) ?_⟩
        have z : (bs.map V.bl).countP (fun z => eqV z (.bl b)) = bs.count b := by
          rw [List.countP_map]
          rfl
        rw [z]
        exact hd
    · exact hd.elim
def lindR : DML X "list.index" fLInd where
  r := _
  h := mt_index
  hr := fun F H v w x y q Q S rx ry hd hQ => by
    unfold fLInd at hd
    split at hd
    · rename_i xs b
      cases e : blsOf xs with
      | none => rw [e] at hd; exact hd.elim
      | some bs =>
        rw [e] at hd
        obtain ⟨a, vs, e1, e2, r⟩ := rx.lst_ S
        have ev := bls_of r e
        subst ev
        cases ej : bs.idxOf? b with
        | none => simp only [ej] at hd
        | some j =>
          simp only [ej] at hd
          have ⟨hj, h1, h2⟩ := List.findIdx?_eq_some_iff_getElem.mp (show bs.findIdx? (· == b) = some j from ej)
          refine ⟨a, _, .bl b, j, .bl bs[j], e1, by rw [ry.bl_], .inl (.inl e2), rfl, by simp [flatV], by simp [hj], h1, fun m z hm hz => ?_, hQ _ _ (.int _) hd⟩
          rw [List.getElem?_map, List.getElem?_eq_getElem (by omega)] at hz
          cases hz
          exact Bool.not_eq_true _ ▸ h2 m hm
    · exact hd.elim
end

/-! ### x = _law_refused(lambda: ..) -/
section
variable {X : Cx} {W : WX} {k kw i : Nat} {st sW : Stmt} {g CS fW c Pt : Addr} {fd fdW : FuncData} {word : Str → Option (List Nat)} {fs : FS} {tb : TD} {params : Arguments} {body : Expr} {scope : Scope} {p lpos pos : Pos}
variable {j1 : Nat} {p1 p2 p3 p4 p5 p6 p7 p8 p9 pa pb pc pd pe pf pg : Pos}
theorem de_refu (gd : NoG X.A) (hr : Room (k + 2) X.A) (hk : kw ≤ k + 1) (F : Fun X.K "_law_refused" "_law_refused" st g fd) (hg : Gl X "_law_refused") (mg : X.mg "_law_refused" = some (.ref g)) (bi : Binds X.K fd ["work"] [])
    (bd : defBody st = [.Assign [.Name "error" p1] (.Constant .none j1 p2) p3,
      .Try [.Expr (.Call (.Name "work" p4) [] [] p5) p6] [.ExceptHandler (some (.Name "AsIfError" p7)) (some "e") [.Assign [.Name "error" p8] (.Name "e" p9) pa] pb] [] [] pc, .Return (some (.Call (.Name "_law_word" pd) [.Name "error" pe] [] pf)) pg])
    (S : FnScope ["work", "error", "e"] ["work"] (defScope st)) (s1 : (defScope st).names.lookup ("work" : Str) = some .local) (s2 : (defScope st).names.lookup ("error" : Str) = some .local) (s3 : (defScope st).names.lookup ("e" : Str) = some .local)
    (s4 : (defScope st).names.lookup ("AsIfError" : Str) = some .globalImplicit) (s5 : (defScope st).names.lookup ("_law_word" : Str) = some .globalImplicit)
    (hCS : X.mg "AsIfError" = some (.ref CS)) (CW : CalG X.prog X.w X.K X.mg X.base kw "_law_word" sW ["e"] fs fW fdW)
    (isA : ∀ (n : Str) (w : List Nat) (C : Addr), word n = some w → ClsNm X.K n C → PySem.W.exmOne X.K (.ref C) (.ref CS) = some true)
    (tells : ∀ (n : Str) (w : List Nat), word n = some w → fs [.d (.exc n [])] (fun d _ => d = .str w) fun _ _ => False)
    (TB : TabB X.base X.mg c Pt) (hcode : X.env.code = .ref c) (L : LamS X.env.scope scope) (hdef : defaultsOf params X.env = ([], []))
    (hbind : ∀ (q : Str) (cl : List (Str × Addr)) (pm cv ctv : Value), bindArgs (PySem.W.kla_fn "<lambda>" q params body scope cl pm cv ctv) ⟨[], []⟩ = pure [])
    (lam : ∀ (A : Around) (outer : List PySem.Env) (z : Shared) (H : Hp) (E : XK) (f c' : Addr), Room k (A.deeper (lamEnv X scope z.heap.objs.size f c')) → NoG (A.deeper (lamEnv X scope z.heap.objs.size f c')) →
      Takes (lamCx X A outer z H E scope f c') (WE1 E) → DE (lamCx X A outer z H E scope f c') (WE1 E) body tb) :
    DE X W (.Call (.Name "_law_refused" p) [.Lambda params body scope lpos] [] pos) (dRefu i Pt (X.env.qual ++ "<lambda>") word tb) := by
  obtain ⟨oc, od, kV, doc, pm, an, cdv, ct, osl, rfl, look, code⟩ := F.ex
  have lies : Lies X "_law_refused" "work" (defArgs st) (defBody st) (defScope st) g cdv := ⟨mg, F.kp, code, .none, kV, doc, pm, ct, oc, an, od, osl, look, bi⟩
  have gets : Gets X k ["work", "error", "e"] "_law_refused" "work" (defScope st) g cdv (defBody st) (X.env.qual ++ "<lambda>") (TTr X.K word) := by
    rw [bd]
    exact refu_gets (f := g) gd hk hCS CW.g CW.F.kp CW.b CW.ok S s1 s2 s3 s4 s5 isA tells
  refine ⟨PE.conv (pe_lamcallC lies hg S rfl (.inl s1) gets TB hcode hr L hdef hbind fun A outer z H E f c' room e => ?_) fun σ H Q h => refu_of σ H Q h⟩
  exact (lam A outer z H E f c' room (e.trans gd) (takes_of (X := lamCx X A outer z H E scope f c') rfl rfl rfl rfl)).pe
end
end Zd
set_option maxHeartbeats 2000000
namespace Zd
open PySem PySem.Spec PyProof.Rows L2 TL LamX

/-! ### exceptions by name -/
theorem bt_ValueError : bootBuiltins "ValueError" = some (.type "ValueError") := by rfl
section
variable {X : Cx} {W : WX} {x m n y T : Str} {a : Expr} {ta : TD} {i j j0 : Nat} {body : List Stmt} {p p2 np np2 jp pos pos' pos2 : Pos} {tb : TSd} {tab : List (Str × Bool)}
theorem ds_raise2 (hc : X.calm = true) (tk : Takes X W) (R : ∃ C, ExR X.K X.mg x C) (hg : Gl X x) (hdb : (x == ("__debug__" : Str)) = false := by decide) :
    DS X W (.Raise (some (.Call (.Name x p) [.Constant (.str m) j0 p2] [] pos)) none pos2) (sRaise x) := by
  obtain ⟨C, R⟩ := R
  exact ds_raise hc tk R hg hdb
theorem ds_tryV2 (hs : X.stack = X.env :: X.outer) (hf : X.env.frame = some X.env.locals) (hex : X.ex = []) (hN : X.N.Nodup) (hi : X.N[i]? = some n) (hln : X.env.kindOf n = some .local) (hj : X.N[j]? = some y) (hly : Loc X.env.scope y) (hij : i ≠ j)
    (hg : Gl X x) (tk : Takes X W) (hm : ∃ C, X.mg x = some (.ref C) ∧ ExM X.K tab (.ref C))
    (hb : ∀ (V : WX) (pn : List (Addr × Obj)) (xe : Value → Shared → Prop), Takes (X.tr pn xe) V → PassesOwn (model X.prog X.w) X.A X.env xe → DSs (X.tr pn xe) V body tb)
    (hsu : ∀ (a : Addr) (oe : Obj) (pn : List (Addr × Obj)), PSs (X.suite a ((a, oe) :: pn)) [.Assign [.Name y jp] (.Name n np2) pos2] (tAsg (tVar i) (gName j))) (hdb : (x == ("__debug__" : Str)) = false := by decide) :
    DS X W (.Try body [.ExceptHandler (some (.Name x np)) (some n) [.Assign [.Name y jp] (.Name n np2) pos2] pos'] [] [] pos) (sTryV tb i j tab) := by
  obtain ⟨C, g, hm⟩ := hm
  exact ds_tryV hs hf hex hN hi hln hj hly hij ⟨hg, hdb, .inl g⟩ tk hm hb hsu
theorem de_isE2 (ha : DE X W a ta) (hg : Gl X "isinstance") (hm : X.mg "isinstance" = none) (hT : Gl X T) (V : ∃ C, X.mg T = some (.ref C) ∧ ExI X.K tab (.ref C)) (hd : (T == ("__debug__" : Str)) = false := by decide)
    (hs : starEach [a, .Name T p2] X.env = (false, eval a X.env) :: starEach [.Name T p2] X.env := by rfl) (hs2 : starEach [.Name T p2] X.env = (false, eval (.Name T p2) X.env) :: starEach [] X.env := by rfl)
    (hpl : (backTo pos (starEach [.Name T p2] X.env)).any (·.1) = false := by rfl) : DE X W (.Call (.Name "isinstance" p) [a, .Name T p2] [] pos) (dIsE tab ta) := by
  obtain ⟨C, g, V⟩ := V
  exact de_isE ha hg hm (pe_glob (v := .ref C) hT g rfl hd) (.own C) V hs hs2 hpl
end

/-! ### for gen.py: laws that make a lambda -/
/-- the name of a lambda of the law's -/
def lamQ : Str := (("law" : Str) ++ (".<locals>." : Str)) ++ ("<lambda>" : Str)
/-- a def that is handed a lambda, as it lies there -/
structure LamD (K : PySem.W.Frag) (mg : Str → Option Value) (x a : Str) (st : Stmt) (f : Addr) (fd : FuncData) : Prop where
  F : Fun K x x st f fd
  g : mg x = some (.ref f)
  b : Binds K fd [a] []
section
variable {X : Cx} {W : WX} {k kw i : Nat} {st sW : Stmt} {g fW c Pt : Addr} {fd fdW : FuncData} {word : Str → Option (List Nat)} {fs : FS} {tb : TD} {tab : List (Str × Bool)} {params : Arguments} {body : Expr} {scope : Scope} {p lpos pos : Pos}
variable {j1 : Nat} {p1 p2 p3 p4 p5 p6 p7 p8 p9 pa pb pc pd pe pf pg : Pos}
theorem de_refu2 (gd : NoG X.A) (hr : Room (k + 2) X.A) (hk : kw ≤ k + 1) (D : LamD X.K X.mg "_law_refused" "work" st g fd) (hg : Gl X "_law_refused") (S : FnScope ["work", "error", "e"] ["work"] (defScope st))
    (bd : defBody st = [.Assign [.Name "error" p1] (.Constant .none j1 p2) p3,
      .Try [.Expr (.Call (.Name "work" p4) [] [] p5) p6] [.ExceptHandler (some (.Name "AsIfError" p7)) (some "e") [.Assign [.Name "error" p8] (.Name "e" p9) pa] pb] [] [] pc, .Return (some (.Call (.Name "_law_word" pd) [.Name "error" pe] [] pf)) pg])
    (ss : ((defScope st).names.lookup ("work" : Str) = some .local ∧ (defScope st).names.lookup ("error" : Str) = some .local ∧ (defScope st).names.lookup ("e" : Str) = some .local) ∧
      (defScope st).names.lookup ("AsIfError" : Str) = some .globalImplicit ∧ (defScope st).names.lookup ("_law_word" : Str) = some .globalImplicit)
    (M : ∃ C, X.mg "AsIfError" = some (.ref C) ∧ ExM X.K tab (.ref C)) (hw : ∀ (n : Str) (w : List Nat), word n = some w → tab.lookup n = some true) (CW : CalG X.prog X.w X.K X.mg X.base kw "_law_word" sW ["e"] fs fW fdW)
    (tells : ∀ (n : Str) (w : List Nat), word n = some w → fs [.d (.exc n [])] (fun d _ => d = .str w) fun _ _ => False)
    (TB : TabB X.base X.mg c Pt) (hcode : X.env.code = .ref c) (L : LamS X.env.scope scope)
    (lam : ∀ (A : Around) (outer : List PySem.Env) (z : Shared) (H : Hp) (E : XK) (f c' : Addr), Room k (A.deeper (lamEnv X scope z.heap.objs.size f c')) → NoG (A.deeper (lamEnv X scope z.heap.objs.size f c')) →
      Takes (lamCx X A outer z H E scope f c') (WE1 E) → DE (lamCx X A outer z H E scope f c') (WE1 E) body tb)
    (hq : X.env.qual = ("law" : Str) ++ (".<locals>." : Str) := by rfl) (hdef : defaultsOf params X.env = ([], []) := by rfl)
    (hbind : ∀ (q : Str) (cl : List (Str × Addr)) (pm cv ctv : Value), bindArgs (PySem.W.kla_fn "<lambda>" q params body scope cl pm cv ctv) ⟨[], []⟩ = pure [] := by intros; rfl) :
    DE X W (.Call (.Name "_law_refused" p) [.Lambda params body scope lpos] [] pos) (dRefu i Pt lamQ word tb) := by
  obtain ⟨CS, hCS, hM⟩ := M
  rw [show lamQ = X.env.qual ++ ("<lambda>" : Str) by rw [hq]; rfl]
  exact de_refu gd hr hk D.F hg D.g D.b bd S ss.1.1 ss.1.2.1 ss.1.2.2 ss.2.1 ss.2.2 hCS CW (fun n w C h hC => hM n true C (hw n w h) hC) tells TB hcode L hdef hbind lam
end
end Zd
set_option maxHeartbeats 2000000
namespace Zd
open PySem PySem.Spec PyProof.Rows L2 TL LamX

/-! ### a def of data alone, that makes lambdas: its table of code objects grows -/
/-- so much may have changed: tables have grown, things were laid -/
structure Grown (T : List (Addr × Str)) (F H F' H' : Hp) : Prop where
  s : Same F F'
  sF : Same F' H'
  keep : ∀ p o, H p = some o → (∀ t ∈ T, t.1 ≠ p) → H' p = some o
  fr : ∀ p, H p ≠ none → F p = none → F' p = none
  tb : Tb T (fun _ => none) F' H'
abbrev FD := List D → (D → Prop) → (EXD → Prop) → Prop
def spD (K : PySem.W.Frag) (T : List (Addr × Str)) (fd : FD) : Sp := fun vs H Q E => ∃ F xs q xq, Same F H ∧ RpL K F vs xs ∧ Tb T (fun _ => none) F H ∧ fd xs q xq ∧
  (∀ F' H' v d, Grown T F H F' H' → Rp K F' v d → q d → Q v H') ∧ (∀ F' H' e cls dx, Grown T F H F' H' → XOk K F' H' e cls dx → xq e → E cls dx H')
section
variable {K : PySem.W.Frag} {G : Gd} {F H F' H' : Hp} {σ : L2.St} {ε : Env} {T : List (Addr × Str)}
theorem Iv.grown (I : Iv K G F H σ ε) (hT : G.tb = T) (g : Grown T F H F' H') : Iv K G F' H' σ ε where
  s0 := I.s0.trans g.s
  sF := g.sF
  sH := fun p o e => g.keep p o (I.sH p o e) fun t ht z => by
    have ⟨_, _, h0⟩ := I.tb t (by rw [hT]; exact ht)
    rw [z, e] at h0
    cases h0
  fr := fun p h0 h1 => g.fr p (fun z => by
    cases q : G.H0 p with
    | none => exact h1 q
    | some o => rw [I.sH p o q] at z; cases z) (I.fr p h0 h1)
  len := I.len
  d := fun i x e => by
    have ⟨v, h1, h2⟩ := I.d i x e
    exact ⟨v, h1, h2.mono g.s⟩
  o := fun i c e => by
    have ⟨p, ho, h1, h2, h3, h4, h5⟩ := I.o i c e
    refine ⟨p, ho, h1, h2, g.fr p (by rw [h4]; simp) h3, g.keep p ho h4 fun t ht z => ?_, h5.mono g.s⟩
    have ⟨⟨ps, hp, _⟩, _⟩ := I.tb t (by rw [hT]; exact ht)
    rw [z, h4] at hp
    exact ocok_tbl h5 ps (Option.some.inj hp)
  dis := I.dis
  pn := I.pn
  tb := by
    rw [hT]
    intro t ht
    have ⟨h1, h2, _⟩ := g.tb t ht
    exact ⟨h1, h2, (I.tb t (by rw [hT]; exact ht)).2.2⟩
  gh := I.gh
/-- the heap that such a def keeps -/
def offT (T : List (Addr × Str)) (H : Hp) : Hp := fun b => if (T.any fun t => t.1 == b) = true then none else H b
theorem offT_out {b : Addr} (h : ∀ t ∈ T, t.1 ≠ b) : offT T H b = H b := by
  unfold offT
  rw [if_neg]
  intro z
  have ⟨t, h1, h2⟩ := List.any_eq_true.mp z
  exact h t h1 (beq_iff_eq.mp h2)
theorem offT_in {t : Addr × Str} (h : t ∈ T) : offT T H t.1 = none := by
  have z : (T.any fun u => u.1 == t.1) = true := List.any_eq_true.mpr ⟨t, h, beq_iff_eq.mpr rfl⟩
  show (if (T.any fun u => u.1 == t.1) = true then none else H t.1) = none
  rw [if_pos z]
theorem offT_le {b : Addr} {o : HO} (h : offT T H b = some o) : H b = some o := by
  unfold offT at h
  split at h
  · cases h
  · exact h
def envD (xs : List D) (n : Nat) (T : List (Addr × Str)) : Env := env0 (xs.map Sl.d) n ++ [.gh T]
theorem envD_at {xs : List D} {n i : Nat} {s : Sl} (hn : xs.length ≤ n) (h : (envD xs n T)[i]? = some s) : (∃ x, xs[i]? = some x ∧ s = .d x) ∨ s = .no ∨ s = .gh T := by
  unfold envD env0 at h
  rw [List.getElem?_append] at h
  split at h
  · rw [List.getElem?_append] at h
    split at h
    · rw [List.getElem?_map] at h
      cases q : xs[i]? with
      | none => rw [q] at h; cases h
      | some x => rw [q] at h; cases h; exact .inl ⟨x, rfl, rfl⟩
    · exact .inr (.inl (List.eq_of_mem_replicate (List.mem_of_getElem? h)))
  · have := List.mem_of_getElem? h
    rw [List.mem_singleton] at this
    exact .inr (.inr this)
theorem start_ivD {vs : List V} {xs : List D} {N : List Str} {n : Nat} (S : Same F H) (r : RpL K F vs xs) (tb : Tb T (fun _ => none) F H) (hN : N.length = n + 1) (hn : xs.length ≤ n) :
    Iv K ⟨F, offT T H, [], T⟩ F H (L2.start N vs) (envD xs n T) := by
  have hl := r.length
  have noown : ∀ i, ownAt (envD xs n T) i = none := fun i => by
    unfold ownAt
    cases q : (envD xs n T)[i]? with
    | none => rfl
    | some s =>
      rcases envD_at hn q with ⟨x, _, e⟩ | e | e <;> (subst e; rfl)
  constructor
  case s0 => exact .refl _
  case sF => exact S
  case sH => exact fun p o e => offT_le e
  case fr => exact fun p h0 h1 => h0
  case len => simp [L2.start, envD, env0, hN]; omega
  case d =>
    intro i x e
    rcases envD_at hn e with ⟨y, e1, e2⟩ | e2 | e2
    · cases e2
      have ⟨v, h1, h2⟩ := r.get' e1
      refine ⟨v, ?_, h2⟩
      unfold L2.start
      have hi : i < (vs.map some).length := by simpa using (List.getElem?_eq_some_iff.mp h1).1
      rw [List.getElem?_append_left hi, List.getElem?_map, h1]
      rfl
    · cases e2
    · cases e2
  case o => exact fun i c e => by rw [noown i] at e; cases e
  case dis => exact fun i j p _ h => absurd (noown i) h
  case pn => exact fun ip hm => nomatch hm
  case tb =>
    intro t ht
    have ⟨h1, h2, _⟩ := tb t ht
    exact ⟨h1, h2, offT_in ht⟩
  case gh =>
    intro i T' e
    rcases envD_at hn e with ⟨_, _, e2⟩ | e2 | e2
    · cases e2
    · cases e2
    · cases e2
      rfl
theorem Iv.ended (I : Iv K ⟨F, offT T H, [], T⟩ F' H' σ ε) (tb : Tb T (fun _ => none) F H) : Grown T F H F' H' where
  s := I.s0
  sF := I.sF
  keep := fun p o e h => I.sH p o (by show offT T H p = some o; rw [offT_out h]; exact e)
  fr := fun p h1 h2 => by
    by_cases h : ∃ t ∈ T, t.1 = p
    · have ⟨t, ht, e⟩ := h
      rw [← e]
      exact (I.tb t ht).2.1
    · have h : ∀ t ∈ T, t.1 ≠ p := fun t ht z => h ⟨t, ht, z⟩
      exact I.fr p h2 (by show offT T H p ≠ none; rw [offT_out h]; exact h1)
  tb := fun t ht => ⟨(I.tb t ht).1, (I.tb t ht).2.1, rfl⟩
end
def FDLen (fd : FD) (n : Nat) : Prop := ∀ xs q xq, fd xs q xq → xs.length = n
section
variable {P : Program} {w : World} {K : PySem.W.Frag} {mg : Str → Option Value} {base : Heap}
theorem fn_okD {x qual : Str} {st : Stmt} {f c : Addr} {fd : FuncData} {N ps : List Str} {k n : Nat} {T : List (Addr × Str)} {fs : FD} (F : Fun K x qual st f fd) (S : FnScope N ps (defScope st)) (hN : N.length = n + 1) (hps : ps.length ≤ n) (hfl : FDLen fs ps.length) (hc : ∀ cdv, CodeOf K f cdv → cdv = .ref c)
    (hbody : ∀ (A : Around) (outer : List PySem.Env) (s : Shared) (H : Hp) (E : XK), NoG A → Room k (A.deeper (PyProof.Rows.envOfC qual (defScope st) s.heap.objs.size f (.ref c))) →
      ∃ t, DSs (cxOf (L2.CX P w) P w K mg base N qual (defScope st) f (.ref c) A outer s H E) (WE1 E) (defBody st) t ∧
        ∀ xs q xq, fs xs q xq → t { nx := fun _ => q .non, rt := fun d _ => q d, xq := fun e _ => xq e } (envD xs n T)) :
    FnG P w K mg base (L2.CX P w) (k + 1) f fd ps (spD K T fs) := by
  refine FnG.ofC F S (fun {vs H Q E} h => ?_) fun cdv A outer s H vs Q E hcd gd hr h => ?_
  · have ⟨F0, xs, q, xq, _, r, _, hfs, _⟩ := h
    rw [r.length, hfl _ _ _ hfs]
  have ⟨F0, xs, q, xq, S0, r, tb, hfs, hq, hx⟩ := h
  have := hc cdv hcd
  subst this
  have ⟨t, ht, hv⟩ := hbody A outer s H E gd hr
  have hl := hfl _ _ _ hfs
  refine ⟨_, ht.pss, ⟨F0, offT T H, [], T⟩, F0, envD xs n T, _, start_ivD S0 r tb hN (by omega), hv xs q xq hfs, ?_⟩
  exact ⟨fun F' H' σ' ε' _ I h => hq F' H' .non .non (I.ended tb) .non h, fun F' H' σ' ε' v d _ I r h => hq F' H' v d (I.ended tb) r h, fun _ _ _ _ _ _ h => h.elim, fun _ _ _ _ _ _ h => h.elim,
    fun F' H' σ' ε' e cls d _ I xo h => hx F' H' e cls d (I.ended tb) xo h, fun _ _ _ _ _ _ _ _ _ _ _ h => h.elim⟩
end
/-! ### such a def is called -/
def plainO (ε : Env) : Opd → Prop
  | .d _ => True
  | .s i => ownAt ε i = none
def plainOs (ε : Env) : List Opd → Prop
  | [] => True
  | o :: os => plainO ε o ∧ plainOs ε os
def dCallD (T : List (Addr × Str)) (i : Nat) (fs : FD) (t : TL) : TD := fun ε q xq => t ε (fun os ε1 => ε1[i]? = some (.gh T) ∧ plainOs ε1 os ∧ fs (os.map (Opd.get ε1)) (fun d => q (.d d) ε1) fun _ => False) xq
theorem x_dCallD (T : List (Addr × Str)) (i : Nat) (fs : FD) (t : TL) (ε : Env) (q : OQ) (xq : XQ) : dCallD T i fs t ε q xq = (t ε (fun os ε1 => ε1[i]? = some (.gh T) ∧ plainOs ε1 os ∧ fs (os.map (Opd.get ε1)) (fun d => q (.d d) ε1) fun _ => False) xq) := rfl
section
variable {K : PySem.W.Frag} {G : Gd} {F H : Hp} {σ : L2.St} {ε : Env}
theorem OpdOk.plain {v : V} {o : Opd} (I : Iv K G F H σ ε) (h : OpdOk K F σ ε v o) (p : plainO ε o) : Rp K F v (o.get ε) := by
  cases o with
  | d x => exact h
  | s i =>
    have ⟨h1, h2⟩ := h
    have p : ownAt ε i = none := p
    cases e : ε[i]? with
    | none => unfold datAt at h2; rw [e] at h2; exact absurd rfl h2
    | some s =>
      cases s with
      | no => unfold datAt at h2; rw [e] at h2; exact absurd rfl h2
      | gh _ => unfold datAt at h2; rw [e] at h2; exact absurd rfl h2
      | d x =>
        have ⟨v', e1, r⟩ := I.d i x e
        rw [h1] at e1
        cases e1
        have z : Opd.get ε (.s i) = x := by
          show (match datAt ε i with | some x => x | none => .non) = x
          unfold datAt
          rw [e]
          rfl
        rw [z]
        exact r
      | own c => unfold ownAt at p; rw [e] at p; cases p
      | par c => unfold ownAt at p; rw [e] at p; cases p
theorem OsOk.plain (I : Iv K G F H σ ε) : ∀ {vs : List V} {os : List Opd}, OsOk K F σ ε vs os → plainOs ε os → RpL K F vs (os.map (Opd.get ε))
  | _, _, .nil, _ => .nil
  | _, _, .cons h t, p => .cons (h.plain I p.1) (OsOk.plain I t p.2)
end
section
variable {X : Cx} {W : WX} {e : Expr} {t : TL} {fs : FD} {T : List (Addr × Str)} {i : Nat}
theorem de_callD (h : PE X e (tCall (spD X.K T fs) [] E0 (LA X.K W t))) : DE X W e (dCallD T i fs t) := by
  refine ⟨PE.conv h fun σ H Q ⟨G, F, ε, q, xq, I, ht, hq, hx⟩ => ?_⟩
  refine ⟨G, F, ε, _, xq, I, ht, fun F1 H1 vs os ε1 s1 k1 I1 r1 ⟨hgh, hp, h1⟩ => ?_, hx⟩
  show spD X.K T fs (vs ++ []) H1 Q E0
  rw [List.append_nil]
  have hT := I1.gh i T hgh
  have tb : Tb T (fun _ => none) F1 H1 := fun t ht => by
    have ⟨a1, a2, _⟩ := I1.tb t (by rw [hT]; exact ht)
    exact ⟨a1, a2, rfl⟩
  exact ⟨F1, _, _, _, I1.sF, r1.plain I1 hp, tb, h1, fun F2 H2 v d g rv hk => hq F2 H2 v (.d d) _ (s1.trans g.s) k1 (I1.grown hT g) rv hk, fun F2 H2 ee cls dx g xo hk => hk.elim⟩
end
end Zd
set_option maxHeartbeats 2000000
namespace Zd
open PySem PySem.Spec PyProof.Rows L2 TL LamX

/-! ### a law that calls a def which makes lambdas -/
section
variable {P : Program} {w : World} {K : PySem.W.Frag} {mg mb : Str → Option Value} {base : Heap} {k : Nat} {f : Addr} {fd : FuncData}
theorem fn_okT2 {st : Stmt} {N : List Str} {n : Nat} {Pt : Addr} {q : Str} (F : Fun K "law" "law" st f fd) (S : FnScope N ["script"] (defScope st)) (hN : N.length = n + 1) (h0 : 1 ≤ n)
    (hbody : ∀ (cdv : Value) (A : Around) (outer : List PySem.Env) (s : Shared) (H : Hp) (E : XK), NoG A → Room k (A.deeper (PyProof.Rows.envOfC "law" (defScope st) s.heap.objs.size f cdv)) →
      ∃ t, DSs (cxOf (L2.CX P w) P w K mg base N "law" (defScope st) f cdv A outer s H E) (WE1 E) (defBody st) t ∧
        ∀ ns : List Int, ns.length ≤ 63 → t { nx := fun _ => False, rt := fun d _ => d = .bl true, xq := fun _ _ => False } (envT ns n Pt q)) :
    FnG P w K mg base (L2.CX P w) (k + 1) f fd ["script"] (spT K Pt) := by
  refine FnG.of F S (fun {vs H Q E} h => by obtain ⟨_, a, ns, rfl, _⟩ := h; rfl) fun cdv A outer s H vs Q E gd hr h => ?_
  obtain ⟨hP, a, ns, rfl, hS, hl, hQ⟩ := h
  have ⟨t, ht, hv⟩ := hbody cdv A outer s H E gd hr
  refine ⟨_, ht.pss, _, _, _, _, start_ivT hN h0 hP hS, hv ns hl, fun _ _ _ _ _ _ h => h.elim, fun F' H' σ' ε' v d _ I r h => ?_, fun _ _ _ _ _ _ h => h.elim, fun _ _ _ _ _ _ h => h.elim, fun _ _ _ _ _ _ _ _ _ _ h => h.elim, fun _ _ _ _ _ _ _ _ _ _ _ h => h.elim⟩
  subst h
  cases r
  exact hQ H'
end
/-- the end, where the lambda's maker is the def y -/
theorem walk_GT2 {l : PySem.W.OpenLaw} {k : Nat} {q : Program} {loose : List Str} {XP : (Str → Option Value) → Heap → Prop} {YP : World → Heap → Prop} {d : DefRec} {K : Params → PySem.W.Frag} {x y : Str}
    (hn : l.most = some 63) (hdf : d.params.defaults = []) (hr : Room k callerA) (hrec : ((recsOf q).any fun e => e.name == y) = true) (hY : ∀ (w : World) (h : Heap), YP w h → (K w.params).In h)
    (F : ∀ (w : World) (mg : Str → Option Value) (fa : Addr) (h : Heap), (K w.params).In h → h.Ns mainGlobals mg → mg d.name = some (.ref fa) →
      ∃ (fd : FuncData) (c Pt fy : Addr), mg y = some (.ref fy) ∧ TabK (K w.params) fy c Pt ∧ (∀ (s : Shared) (u : Value), BindsTo s fd ⟨[u], []⟩ [(x, u)]) ∧
        ∀ base : Heap, (K w.params).In base → base.Ns mainGlobals mg → TabB base mg c Pt → FnG l.prog w (K w.params) mg base (L2.CX l.prog w) k fa fd [x] (spT (K w.params) Pt)) :
    PySem.W.WalkO q loose XP YP l.row.toRowW d [] (fun f vs => PySem.call f vs) := by
  refine Att.attach_call hn hdf fun w s₀ s₁ mg mb fa o pm cd doc a vs ns G Y ho hd hcd hmg hobj hints hlen hg => ?_
  have KX := hY w _ Y
  have ⟨fd, c, Pt, fy, hy, T, bd, hF⟩ := F w mg fa _ KX G.T.g hmg
  have empty : s₁.heap.get? Pt = some { cls := .none, data := .fields #[] } := by
    have ⟨o1, fd1, k1, k2, k3⟩ := T.of_
    have ⟨e, dd, us, sl, k4, k5⟩ := T.at_
    have ⟨dL, hm, hn1⟩ := List.any_eq_true.mp hrec
    obtain ⟨a', o', fd', c', P', h1, h2, h3, h4, _, ⟨oc, vc, e1, _, e3, e4⟩, hP⟩ := G.T.tab dL hm
    rw [show dL.name = y from beq_iff_eq.mp hn1, hy] at h1
    cases h1
    rw [KX _ _ k1] at h2
    cases h2
    rw [k2] at h3
    cases h3
    rw [k3] at h4
    cases h4
    rw [KX _ _ k4] at e1
    cases e1
    cases e3
    rw [k5] at e4
    cases e4
    exact hP
  exact law_GT T.hd empty T.no KX G.T.g G.T.b G.T.builtins G.T.nolimit hg G.T.bmain hobj hints hlen hr hF bd
end Zd
set_option maxHeartbeats 2000000
namespace Zd
open PySem PySem.Spec PyProof.Rows L2 TL

/-! ### {k: v}: the dict stands empty while its pair is made -/
section
variable {K : PySem.W.Frag} {G : Gd} {F H : Hp} {σ : L2.St} {ε : Env} {p : Addr} {o o2 : HO}
abbrev Gd.with (G : Gd) (p : Addr) (o : HO) : Gd := ⟨G.F0, upd G.H0 p o, G.pn, G.tb⟩
theorem Iv.put (I : Iv K G F H σ ε) (na : H p = none) : Iv K (G.with p o) F (upd H p o) σ ε where
  s0 := I.s0
  sF := I.sF.trans (Same.new na)
  sH := Same.upd2 I.sH
  fr := fun b h0 h1 => by
    by_cases e : b = p
    · rw [e]; exact I.sF.free na
    · exact I.fr b h0 (by have h1 : upd G.H0 p o b ≠ none := h1; rwa [upd_ne e] at h1)
  len := I.len
  d := I.d
  o := fun i c e => by
    have ⟨b, ho, h1, h2, h3, h4, h5⟩ := I.o i c e
    have nb : b ≠ p := ne_of_none h4 na
    exact ⟨b, ho, h1, by show upd G.H0 p o b = none; rw [upd_ne nb]; exact h2, h3, by rw [upd_ne nb]; exact h4, h5⟩
  dis := I.dis
  pn := I.pn
  tb := fun t ht => by
    have ⟨⟨ps, h1, h2, h3⟩, h4, h5⟩ := I.tb t ht
    have nb : t.1 ≠ p := ne_of_none h1 na
    exact ⟨⟨ps, by rw [upd_ne nb]; exact h1, h2, h3⟩, h4, by show upd G.H0 p o t.1 = none; rw [upd_ne nb]; exact h5⟩
  gh := I.gh
theorem Iv.fill (I : Iv K (G.with p o) F H σ ε) (n0 : G.H0 p = none) (f0 : G.F0 p = none) : Iv K G (upd F p o2) (upd H p o2) σ ε ∧ F p = none ∧ H p = some o := by
  have fp : F p = none := I.fr p f0 (by show upd G.H0 p o p ≠ none; rw [upd_same]; simp)
  have hp : H p = some o := I.sH p o upd_same
  have off : ∀ {b}, upd G.H0 p o b = none → b ≠ p ∧ G.H0 b = none := fun {b} h => by
    have nb : b ≠ p := fun z => by rw [z, upd_same] at h; cases h
    exact ⟨nb, by rwa [upd_ne nb] at h⟩
  refine ⟨?_, fp, hp⟩
  constructor
  case s0 => exact I.s0.trans (Same.new fp)
  case sF => exact Same.upd2 I.sF
  case sH =>
    intro b u e
    have nb : b ≠ p := fun z => by rw [z, n0] at e; cases e
    rw [upd_ne nb]
    exact I.sH b u (by show upd G.H0 p o b = some u; rw [upd_ne nb]; exact e)
  case fr =>
    intro b h0 h1
    have nb : b ≠ p := fun z => h1 (by rw [z]; exact n0)
    rw [upd_ne nb]
    exact I.fr b h0 (by show upd G.H0 p o b ≠ none; rw [upd_ne nb]; exact h1)
  case len => exact I.len
  case d =>
    intro i x e
    have ⟨v, h1, h2⟩ := I.d i x e
    exact ⟨v, h1, h2.mono (Same.new fp)⟩
  case o =>
    intro i c e
    have ⟨b, ho, h1, h2, h3, h4, h5⟩ := I.o i c e
    have ⟨nb, z⟩ := off h2
    exact ⟨b, ho, h1, z, by rw [upd_ne nb]; exact h3, by rw [upd_ne nb]; exact h4, h5.mono (Same.new fp)⟩
  case dis => exact I.dis
  case pn => exact I.pn
  case tb =>
    intro t ht
    have ⟨⟨ps, h1, h2, h3⟩, h4, h5⟩ := I.tb t ht
    have ⟨nb, z⟩ := off h5
    refine ⟨⟨ps, by rw [upd_ne nb]; exact h1, h2, fun pos cv hc => ?_⟩, by rw [upd_ne nb]; exact h4, z⟩
    have ⟨c, e1, e2⟩ := h3 pos cv hc
    exact ⟨c, e1, Same.new fp _ _ e2⟩
  case gh => exact I.gh
end
def keyOfD : D → Option KD
  | .int i => some (.i i)
  | .str s => some (.s s)
  | _ => none
def dDic1 (tk tv : TD) : TD := fun ε q xq => tk ε (fun ok ε1 => plainO ε1 ok ∧ tv ε1 (fun ov ε2 => plainO ε2 ov ∧ match keyOfD (ok.get ε1) with
  | some k => q (.d (.dic [(k, ov.get ε2)])) ε2
  | none => False) xq) xq
theorem x_dDic1 (tk tv : TD) (ε : Env) (q : OQ) (xq : XQ) : dDic1 tk tv ε q xq = (tk ε (fun ok ε1 => plainO ε1 ok ∧ tv ε1 (fun ov ε2 => plainO ε2 ov ∧ match keyOfD (ok.get ε1) with
  | some k => q (.d (.dic [(k, ov.get ε2)])) ε2
  | none => False) xq) xq) := rfl
section
variable {X : Cx} {W : WX} {a b : Expr} {tk tv : TD} {pos : Pos}
theorem de_dic1 (ha : DE X W a tk) (hb : DE X W b tv) : DE X W (.Dict [some a] [b] pos) (dDic1 tk tv) := by
  refine ⟨PE.conv (pe_disp (pps_cons ha.pe hb.pe pps_nil) rfl rfl (by simp) (show 1 ≤ 15 by omega)) fun σ H Q ⟨G, F, ε, q, xq, I, ht, hq, hx⟩ p hp => ?_⟩
  have n0 : G.H0 p = none := I.sH.free hp
  have f0 : G.F0 p = none := I.s0.free (I.sF.free hp)
  have hx' : ∀ {F1 : Hp}, Same F F1 → XE1 X.K W (G.with p (.dK [])) F1 σ xq := fun {F1} S F2 H2 e ε2 cls d s2 I2 xo hk => by
    have J : Iv X.K G F2 H2 σ ε2 := by
      constructor
      case s0 => exact I2.s0
      case sF => exact I2.sF
      case sH => exact fun b u e => I2.sH b u (by
        have nb : b ≠ p := fun z => by rw [z, n0] at e; cases e
        show upd G.H0 p (.dK []) b = some u
        rw [upd_ne nb]; exact e)
      case fr => exact fun b h0 h1 => I2.fr b h0 (by
        have nb : b ≠ p := fun z => h1 (by rw [z]; exact n0)
        show upd G.H0 p (.dK []) b ≠ none
        rw [upd_ne nb]; exact h1)
      case len => exact I2.len
      case d => exact I2.d
      case o =>
        intro i c e
        have ⟨b, ho, h1, h2, h3⟩ := I2.o i c e
        have h2 : upd G.H0 p (.dK []) b = none := h2
        have nb : b ≠ p := fun z => by rw [z, upd_same] at h2; cases h2
        exact ⟨b, ho, h1, by rwa [upd_ne nb] at h2, h3⟩
      case dis => exact I2.dis
      case pn => exact I2.pn
      case tb =>
        intro t ht
        have ⟨h1, h2, h3⟩ := I2.tb t ht
        have h3 : upd G.H0 p (.dK []) t.1 = none := h3
        have nb : t.1 ≠ p := fun z => by rw [z, upd_same] at h3; cases h3
        exact ⟨h1, h2, by rwa [upd_ne nb] at h3⟩
      case gh => exact I2.gh
    exact hx F2 H2 e ε2 cls d (S.trans s2) J xo hk
  refine ⟨G.with p (.dK []), F, ε, _, xq, I.put hp, ht, fun F1 H1 v ok ε1 s1 k1 I1 r1 ⟨p1, h1⟩ => ?_, hx' (.refl _)⟩
  refine ⟨G.with p (.dK []), F1, ε1, _, xq, I1, h1, fun F2 H2 w ov ε2 s2 k2 I2 r2 ⟨p2, h2⟩ => ?_, hx' s1⟩
  have rk := r1.plain I1 p1
  have rv := r2.plain I2 p2
  generalize ok.get ε1 = key at rk h2
  have fin : ∀ (k : KD) (kk : Key), k.k = kk → v = kV kk → q (.d (.dic [(k, ov.get ε2)])) ε2 → H2 p = some (.dK []) ∧ ∃ kvs : List (Key × V), [(v, w)] = kvs.map (fun kv => (kV kv.1, kv.2)) ∧ kvs.length ≤ 15 ∧ Q (.ref p) (upd H2 p (.dK (mergeK [] kvs))) := fun k kk e1 e2 hk => by
    subst e1
    have ⟨J, fp, h2p⟩ := I2.fill (o2 := .dK [(k.k, w)]) n0 f0
    refine ⟨h2p, [(k.k, w)], by rw [e2]; rfl, show 1 ≤ 15 by omega, ?_⟩
    have S : Same F2 (upd F2 p (.dK [(k.k, w)])) := Same.new fp
    exact hq _ _ _ (.d (.dic [(k, ov.get ε2)])) ε2 ((s1.trans s2).trans S) (k1.trans k2) J (Rp.dic upd_same (.cons (rv.mono S) .nil)) hk
  cases key with
  | int i => exact fin (.i i) _ rfl (by cases rk; rfl) h2
  | str s => exact fin (.s s) _ rfl (by cases rk; rfl) h2
  | _ => exact h2.elim
end
end Zd
set_option maxHeartbeats 2000000
namespace Zd
open PySem PySem.Spec PyProof.Rows L2 TL LamX

/-! ### for gen.py: defs of data that make a lambda -/
def lamQn (x : Str) : Str := (x ++ (".<locals>." : Str)) ++ ("<lambda>" : Str)
structure CalD (P : Program) (w : World) (K : PySem.W.Frag) (mg : Str → Option Value) (base : Heap) (k : Nat) (x : Str) (st : Stmt) (ps : List Str) (T : List (Addr × Str)) (fs : FD) (f : Addr) (fd : FuncData) : Prop where
  F : Fun K x x st f fd
  g : mg x = some (.ref f)
  b : Binds K fd ps []
  ok : FnG P w K mg base (L2.CX P w) k f fd ps (spD K T fs)
section
variable {X : Cx} {W : WX} {k kw i : Nat} {st sW : Stmt} {g fW c Pt : Addr} {fd fdW : FuncData} {word : Str → Option (List Nat)} {fs : FS} {tb : TD} {tab : List (Str × Bool)} {params : Arguments} {body : Expr} {scope : Scope} {p lpos pos : Pos} {x : Str}
variable {j1 : Nat} {p1 p2 p3 p4 p5 p6 p7 p8 p9 pa pb pc pd pe pf pg : Pos}
theorem de_refu3 (x : Str) (gd : NoG X.A) (hr : Room (k + 2) X.A) (hk : kw ≤ k + 1) (D : LamD X.K X.mg "_law_refused" "work" st g fd) (hg : Gl X "_law_refused") (S : FnScope ["work", "error", "e"] ["work"] (defScope st))
    (bd : defBody st = [.Assign [.Name "error" p1] (.Constant .none j1 p2) p3,
      .Try [.Expr (.Call (.Name "work" p4) [] [] p5) p6] [.ExceptHandler (some (.Name "AsIfError" p7)) (some "e") [.Assign [.Name "error" p8] (.Name "e" p9) pa] pb] [] [] pc, .Return (some (.Call (.Name "_law_word" pd) [.Name "error" pe] [] pf)) pg])
    (ss : ((defScope st).names.lookup ("work" : Str) = some .local ∧ (defScope st).names.lookup ("error" : Str) = some .local ∧ (defScope st).names.lookup ("e" : Str) = some .local) ∧
      (defScope st).names.lookup ("AsIfError" : Str) = some .globalImplicit ∧ (defScope st).names.lookup ("_law_word" : Str) = some .globalImplicit)
    (M : ∃ C, X.mg "AsIfError" = some (.ref C) ∧ ExM X.K tab (.ref C)) (hw : ∀ (n : Str) (w : List Nat), word n = some w → tab.lookup n = some true) (CW : CalG X.prog X.w X.K X.mg X.base kw "_law_word" sW ["e"] fs fW fdW)
    (tells : ∀ (n : Str) (w : List Nat), word n = some w → fs [.d (.exc n [])] (fun d _ => d = .str w) fun _ _ => False)
    (TB : TabB X.base X.mg c Pt) (hcode : X.env.code = .ref c) (L : LamS X.env.scope scope)
    (lam : ∀ (A : Around) (outer : List PySem.Env) (z : Shared) (H : Hp) (E : XK) (f c' : Addr), Room k (A.deeper (lamEnv X scope z.heap.objs.size f c')) → NoG (A.deeper (lamEnv X scope z.heap.objs.size f c')) →
      Takes (lamCx X A outer z H E scope f c') (WE1 E) → DE (lamCx X A outer z H E scope f c') (WE1 E) body tb)
    (hq : X.env.qual = x ++ (".<locals>." : Str) := by rfl) (hdef : defaultsOf params X.env = ([], []) := by rfl)
    (hbind : ∀ (q : Str) (cl : List (Str × Addr)) (pm cv ctv : Value), bindArgs (PySem.W.kla_fn "<lambda>" q params body scope cl pm cv ctv) ⟨[], []⟩ = pure [] := by intros; rfl) :
    DE X W (.Call (.Name "_law_refused" p) [.Lambda params body scope lpos] [] pos) (dRefu i Pt (lamQn x) word tb) := by
  obtain ⟨CS, hCS, hM⟩ := M
  rw [show lamQn x = X.env.qual ++ ("<lambda>" : Str) by rw [hq]; rfl]
  exact de_refu gd hr hk D.F hg D.g D.b bd S ss.1.1 ss.1.2.1 ss.1.2.2 ss.2.1 ss.2.2 hCS CW (fun n w C h hC => hM n true C (hw n w h) hC) tells TB hcode L hdef hbind lam
end
end Zd
set_option maxHeartbeats 2000000
namespace Zd
open PySem PySem.Spec L2 TL PyProof.Rows

/-! ### return of a new list, that goes to the asker: the slot i is spare -/
def sRetON (i : Nat) (t : TN) : TSd := fun Dn ε => t ε (fun c ε1 => i < ε1.length ∧ notPar ε1 i ∧ Dn.ro c (ε1.set i (.own c))) Dn.xq
theorem x_sRetON (i : Nat) (t : TN) (Dn : DEnds) (ε : Env) : sRetON i t Dn ε = t ε (fun c ε1 => i < ε1.length ∧ notPar ε1 i ∧ Dn.ro c (ε1.set i (.own c))) Dn.xq := rfl
section
variable {X : Cx} {W : WX} {a : Expr} {t : TN} {pos : Pos}
theorem ds_retON {i : Nat} (h : DN X W a t) : DS X W (.Return (some a) pos) (sRetON i t) := by
  refine ⟨PS.conv (ps_ret h.pe) fun De σ H ⟨G, F, ε, Dn, I, ht, ok⟩ => ?_⟩
  refine ⟨G, F, ε, _, _, I, ht, fun F1 H1 p ho c ε1 s1 k1 I1 h1 h2 h3 h4 h5 ⟨hl, hp, hk⟩ => ?_, ok.x⟩
  have J := I1.seto (i := i) hp h1 h2 h3 h4 h5
  exact ok.ro F1 H1 _ _ i p c s1 J (by rw [List.getElem?_set_self hl]) (by rw [List.getElem?_set_self (by rw [I1.len]; exact hl)]) hk
end
/-! ### a def that gives a list of its own, or raises -/
section
variable {X : Cx} {W : WX} {e : Expr} {t : TL} {fo : FO}
theorem dn_call (h : PE X e (tCallS (spO X.K fo) (WE W) (LA X.K W t))) : DN X W e (dCallO fo t) := by
  refine ⟨PE.conv h fun σ H Q ⟨G, F, ε, q, xq, I, ht, hq, hx⟩ => ?_⟩
  refine ⟨G, F, ε, _, xq, I, ht, fun F1 H1 vs os ε1 s1 k1 I1 r1 ⟨nd, h1⟩ => ?_, hx⟩
  obtain ⟨as, a1, ar, h2⟩ := argsD_ar I1 r1 h1
  refine ⟨F1, as, _, _, I1.sF, a1, ar.nodup I1 nd, h2, fun F2 H2 p ho c as' b g1 g2 g3 g4 hk => ?_, fun F2 H2 ee cls dx as' b xo hk => ?_⟩
  rotate_left
  · obtain ⟨I2, k2⟩ := I1.back ar nd b
    exact hx F2 H2 ee _ cls dx (s1.trans b.s) I2 xo hk
  obtain ⟨I2, k2⟩ := I1.back ar nd b
  refine hq F2 H2 p ho c _ (s1.trans b.s) (k1.trans k2) I2 g1 g2 ?_ (fun i hi => ?_) g4 hk
  · cases z : G.H0 p with
    | none => rfl
    | some o => rw [I1.sH p o z] at g3; cases g3
  · cases z : ownAt (backs os as' ε1) i with
    | none => rfl
    | some c2 =>
      have z2 : ownAt ε1 i ≠ none := own_backs ar b.bk (fun _ h => h) (by rw [z]; simp)
      cases z3 : ownAt ε1 i with
      | none => exact absurd z3 z2
      | some c3 =>
        obtain ⟨p', ho', m1, _, _, m4, _⟩ := I1.o i c3 z3
        rw [hi] at m1
        cases m1
        rw [g3] at m4
        cases m4
end

/-! ### sorted({..}), to be a list of one's own -/
def nSortSx (ti : TId) (vs : List Nat) (g : TGd) (A : TB) (te : TD) : TN := fun ε q xq => ti ε (fun xs ε1 => lcX vs g A te xs [] ε1 fun acc ε2 => q (.lst ((srtU acc).map .str)) ε2) xq
theorem x_nSortSx (ti : TId) (vs : List Nat) (g : TGd) (A : TB) (te : TD) (ε : Env) (q : OC → Env → Prop) (xq : XQ) : nSortSx ti vs g A te ε q xq = ti ε (fun xs ε1 => lcX vs g A te xs [] ε1 fun acc ε2 => q (.lst ((srtU acc).map .str)) ε2) xq := rfl
section
variable {X : Cx} {W : WX}
theorem nsx_of {ti : TId} {r : TG} {g : TGd} {vs : List Nat} {A : TB} {te : TD} (snd : GSnd X.K r g vs) (gk : GKd g vs) (σ : L2.St) (H : Hp) (Q : VK) :
    LN X.K W (nSortSx ti vs g A te) σ H Q → tCB (rSortedX X.prog X.w) (tCons (tSx X.prog X.w (LI X.K W ti) r (LT X.K WNo A) (LE X.K WNo te) vs) tNil) σ H Q := fun ⟨G, F, ε, q, xq, I, ht, hq, hx⟩ => by
  refine ⟨G, F, ε, _, xq, I, ht, fun F1 H1 J xs ε1 s1 k1 I1 it h1 => ?_, hx⟩
  intro Dl hD
  obtain ⟨J1, e1, e2, e3⟩ := I1.laid (ho := SetXO X.prog X.w Dl []) hD
  refine ⟨fun i m H' => ∃ F' ε' acc, Same F1 F' ∧ Kd ε1 ε' ∧ Iv X.K (G.plus Dl (SetXO X.prog X.w Dl (acc.map mk))) F' H' σ ε' ∧ H' Dl = some (SetXO X.prog X.w Dl (acc.map mk)) ∧ F' Dl = none ∧ (∀ c ∈ acc, Asc c) ∧ acc.Nodup ∧ m = xs.length - i ∧ i ≤ xs.length ∧ lcX vs g A te (xs.drop i) acc ε' fun acc ε2 => q (.lst ((srtU acc).map .str)) ε2,
    ⟨xs.length, F1, ε1, [], .refl _, .refl _, J1.plus upd_same e1 e3 (by intro _ z; cases z), upd_same, e1, fun _ h => (nomatch h), List.nodup_nil, by omega, Nat.zero_le _, by simpa using h1⟩, ?_⟩
  rintro i m H' ⟨F', ε', acc, s', k', I', hDl, fDl, ra, nd, em, hi, hl⟩
  obtain ⟨go, stop⟩ := it F' H' s' I'.sF
  by_cases hlt : i < xs.length
  · have ex : xs[i]? = some xs[i] := List.getElem?_eq_getElem hlt
    obtain ⟨hgo, hy⟩ := go i _ ex
    rw [List.drop_eq_getElem_cons hlt] at hl
    obtain ⟨hno, hl⟩ := hl
    refine .inr ⟨hgo, fun H'' => ∃ F'' ε'' acc', Same F1 F'' ∧ Kd ε1 ε'' ∧ Iv X.K (G.plus Dl (SetXO X.prog X.w Dl (acc'.map mk))) F'' H'' σ ε'' ∧ H'' Dl = some (SetXO X.prog X.w Dl (acc'.map mk)) ∧ F'' Dl = none ∧ (∀ c ∈ acc', Asc c) ∧ acc'.Nodup ∧ lcX vs g A te (xs.drop (i + 1)) acc' ε'' fun acc ε2 => q (.lst ((srtU acc).map .str)) ε2,
      fun H'' ⟨F'', ε'', acc', b1, b2, b3, b4, b5, b6, b7, b8⟩ => ⟨xs.length - (i + 1), by omega, F'', ε'', acc', b1, b2, b3, b4, b5, b6, b7, rfl, hlt, b8⟩, fun v H2 y => ?_⟩
    obtain ⟨F2, al, rv⟩ := hy v H2 y
    have I2 := I'.al al
    have f0 : G.F0 Dl = none := Same.free I'.s0 fDl
    have h0 : (G.plus Dl (SetXO X.prog X.w Dl (acc.map mk))).H0 Dl ≠ none := by rw [show (G.plus Dl (SetXO X.prog X.w Dl (acc.map mk))).H0 Dl = some (SetXO X.prog X.w Dl (acc.map mk)) from upd_same]; simp
    refine snd _ F2 H2 _ _ v _ _ _ (I2.wipe hno) rv (gk _ _ _ hl) fun σ3 η1 I3 w3 ⟨h3, l3, d3⟩ => ?_
    refine ⟨w3.trans (wipe_idem σ vs), ?_⟩
    refine ⟨_, F2, η1, _, xNo, I3, h3, fun F4 H4 b η2 s4 k4 I4 h4 => ?_, x1No⟩
    have dk : ∀ i, i ∉ vs → datAt ε' i ≠ none → datAt η2 i ≠ none := fun j hj hd => k4 j (by rw [d3 j hj, wipeE_dat hj]; exact hd)
    have len2 : η2.length = ε'.length := by rw [← I4.len, I3.len, l3, wipeE_len]
    cases b with
    | false =>
      refine ⟨F4, _, acc, (s'.trans al.sF).trans s4, k'.trans (unw_kd len2 dk), Iv.unw I2 I4 s4 w3 hno rfl, I4.sH _ _ upd_same, I4.fr _ f0 h0, ra, nd, h4⟩
    | true =>
      refine ⟨_, F4, η2, _, xNo, I4, h4, fun F5 H5 w o η3 s5 k5 I5 r5 h5 => ?_, x1No⟩
      obtain ⟨cs, eo, hz, h6⟩ := h5
      have rb := r5.b I5
      rw [eo] at rb
      obtain ⟨ew, ha⟩ := rb.str_
      refine ⟨mk cs, acc.map mk, ew, I5.sH _ _ upd_same, by rw [List.length_map]; exact hz, ?_⟩
      have f6 : F5 Dl = none := I5.fr _ f0 h0
      have len4 : η3.length = ε'.length := by rw [← I5.len, I3.len, l3, wipeE_len]
      rw [add_mk]
      refine ⟨F5, _, _, ((s'.trans al.sF).trans s4).trans s5, k'.trans (unw_kd len4 fun j hj hd => k5 j (dk j hj hd)), (Iv.unw I2 I5 (s4.trans s5) w3 hno rfl).bump f6, upd_same, f6, add_asc ra ha, add_nd nd, h6⟩
  · have e : i = xs.length := by omega
    subst e
    rw [List.drop_length] at hl
    obtain ⟨I7, e7⟩ := I'.minus e2
    refine .inl ⟨stop, Dl, acc.map mk, rfl, hDl, nodup_mk nd, fun ys p hp hs hn => ?_⟩
    have ey := sorted_is nd hp hs
    subst ey
    have hasc : ∀ c ∈ srtU acc, Asc c := fun c hc => ra c (srtU_mem.mp hc)
    have ⟨J, fp, gp, own⟩ := I7.laid (ho := .lst (((srtU acc).map mk).map V.str)) hn
    exact hq _ _ p _ (.lst ((srtU acc).map .str)) ε' (s1.trans s') (k1.trans k') J upd_same fp gp own (RpL.strs hasc) hl
theorem dn_sortSx {ti : TId} {te : TD} {g : TGd} {A : TB} {tg iter elt : Expr} {ifs : List Expr} {scope : Scope} {own : List (Str × Nat)} {r : TG} {pos pos2 p : Pos} (hg0 : Gl X "sorted") (hm : X.mg "sorted" = none)
    (hc : X.calm = true) (hN : X.N.Nodup) (hi : DI X W tg iter ti) (ok : BlkOk X.N X.env.scope scope own)
    (hg : ∀ (s : Shared) (H : Hp) (C : Addr) (cl : List (Str × Addr)) (fp : List Addr), DG (X.blk s H scope (compEnvC scope cl C X.env) fp) tg r g (own.map (·.2))) (gk : GKd g (own.map (·.2)))
    (ht : ∀ (s : Shared) (H : Hp) (C : Addr) (cl : List (Str × Addr)) (fp : List Addr), DTs (X.blk s H scope (compEnvC scope cl C X.env) fp) WNo ifs A)
    (he : ∀ (s : Shared) (H : Hp) (C : Addr) (cl : List (Str × Addr)) (fp : List Addr), DE (X.blk s H scope (compEnvC scope cl C X.env) fp) WNo elt te) (snd : GSnd X.K r g (own.map (·.2)))
    (hs : ∀ x, foldedSetIterable iter X.env x = pure x := by intro _; rfl) : DN X W (.Call (.Name "sorted" p) [.SetComp elt [⟨tg, iter, ifs, 0⟩] scope pos2] [] pos) (nSortSx ti (own.map (·.2)) g A te) :=
  ⟨PE.conv (pe_callB (cr_sortedX hc) hg0 hm boot_sorted (pa_cons (pe_sx (g := r) (tt := LT X.K WNo A) (te := LE X.K WNo te) hc hN hi.pi ok (fun s H C cl fp => (hg s H C cl fp).pg) (fun s H C cl fp => (ht s H C cl fp).pts) (fun s H C cl fp => (he s H C cl fp).pe) hs) pa_nil (by rfl))) (nsx_of snd gk)⟩
end
end Zd
set_option maxHeartbeats 2000000
namespace Zd
open PySem PySem.Spec L2 TL
/-! ### a dict of texts and None, walked over and never changed -/
def Itn (d : Addr) (o : Obj) (vs : List V) : It :=
  ⟨fun i H => H d = some (NkO d o vs) ∧ i < vs.length, fun i H x H' => H' = H ∧ vs[i]? = some x, fun i H => H d = some (NkO d o vs) ∧ vs.length ≤ i⟩
section
variable {X : Cx} {pins : List (Addr × Obj)} {σ : L2.St} {H : Hp} {s : Shared}
theorem nk_of {d : Addr} {o : Obj} {vs : List V} (I : Inv X pins σ H s) (h : H d = some (NkO d o vs)) :
    (d == sysModules) = false ∧ s.heap.get? d = some o ∧ o.ExactDict ∧ ∃ es ep, o.data = .dict es ep ∧ es.size = vs.length ∧ ∀ (i : Nat) (v : V), vs[i]? = some v → ∃ en, es[i]? = some en ∧ RelV v en.key := (I.hok d _ h).1
theorem nk_new {P : Program} {w : World} {h : Heap} {d : Addr} {o : Obj} {vs : List V} {es : Array DictEntry} {ep : Nat} (hs : (d == sysModules) = false) (hg : h.get? d = some o) (hx : o.ExactDict) (hd : o.data = .dict es ep) (hz : es.size = vs.length)
    (hm : ∀ (i : Nat) (v : V), vs[i]? = some v → ∃ en, es[i]? = some en ∧ RelV v en.key) : ObjOk P w H h d (NkO d o vs) :=
  ⟨⟨hs, hg, hx, es, ep, hd, hz, hm⟩, ⟨o, hg⟩, fun h1 h2 ⟨a, b, r⟩ k => ⟨a, k _ b, r⟩⟩
end
section
variable {P : Program} {w : World} {K : PySem.W.Frag} {tg : Expr} {d : Addr} {o : Obj} {es : Array DictEntry} {ep : Nat}
theorem ep_of {o : Obj} {es es' : Array DictEntry} {ep ep' : Nat} (a : o.data = .dict es ep) (b : o.data = .dict es' ep') : es' = es ∧ ep' = ep := by
  have := a.symm.trans b
  injection this with e1 e2
  exact ⟨e1.symm, e2.symm⟩
theorem turn_nk {vs : List V} (it : Addr) (hod : o.data = .dict es ep) : Turn P w K tg (Itn d o vs) [it] it (fun i h => h.IsKeyIter it d i vs.length ep) where
  mem := List.mem_singleton.mpr rfl
  obj := fun i h ⟨oi, e, _, dd⟩ b hb => by
    cases List.mem_singleton.mp hb
    exact ⟨oi, e, fun v z => by rw [dd] at z; cases z⟩
  keep := fun i h h' st k => st.at (k it (List.mem_singleton.mpr rfl))
  item := by
    intro X eP ew eK hc i pins s σ H E I hf st ⟨hd, hi⟩
    subst eP ew eK
    obtain ⟨f0, f1, f2, f3, f4, f5⟩ := hf it (List.mem_singleton.mpr rfl)
    obtain ⟨_, hg, _, es', ep', hdt, hz, hm⟩ := nk_of I hd
    obtain ⟨rfl, rfl⟩ := ep_of hod hdt
    obtain ⟨en, hen, rk⟩ := hm i vs[i] (List.getElem?_eq_getElem hi)
    refine next_key_item st hg hdt hz hen fun h' st' sb => ?_
    have I1 : Inv X pins σ H { s with heap := h' } := I.turned (t' := s.toks) (fun b ob hb e => (sb.2 b hb).trans e) f0 f1 f3 f4 f5
    have ⟨oi, e, c, dd⟩ := st'
    exact ⟨_, rfl, go_of (s := { s with heap := h' }) e c dd (by decide) ⟨vs[i], H, I1, rk, ⟨rfl, List.getElem?_eq_getElem hi⟩, st', fun b hb => (hf b hb).1⟩⟩
  self := fun A i s Q E h q => (turn_keysT (P := P) (w := w) (K := K) (tg := tg) (d := d) (o := o) (kvs := List.replicate vs.length (([] : List Key), V.non)) it hod).self A i s Q E (by simpa using h) q
  done := by
    intro X eP ew eK hc i pins s σ H E I hf st ⟨hd, hi⟩
    subst eP ew eK
    obtain ⟨f0, f1, f2, f3, f4, f5⟩ := hf it (List.mem_singleton.mpr rfl)
    obtain ⟨_, hg, _, es', ep', hdt, hz, _⟩ := nk_of I hd
    obtain ⟨rfl, rfl⟩ := ep_of hod hdt
    exact next_key_end (I.ok.hd hc) st hg hdt hz hi fun h' eb => ⟨rfl, I.turned (t' := s.toks) (fun b ob hb e => eb b ob hb e) f0 f1 f3 f4 f5⟩
end
end Zd
namespace Zd
open PySem PySem.Spec L2 TL PyProof.Rows
/-- a text or None, as data, as a key, as a value -/
def opD : Option (List Nat) → D
  | some c => .str c
  | none => .non
def lfO : Option (List Nat) → Leaf
  | some c => .text (mk c)
  | none => .none
def vO : Option (List Nat) → V
  | some c => .str (mk c)
  | none => .non
theorem lfO_inj {a b : Option (List Nat)} (h : lfO a = lfO b) : a = b := by
  cases a with
  | none => cases b with
    | none => rfl
    | some d => cases h
  | some c => cases b with
    | none => cases h
    | some d =>
      have h : Leaf.text (mk c) = Leaf.text (mk d) := h
      injection h with h
      rw [mk_inj h]
theorem leaf_rel {k : Option (List Nat)} {v : Value} (h : Leaf.isOf (lfO k) v = true) : RelV (vO k) v := by
  cases k with
  | none => cases v <;> first | rfl | exact absurd h Bool.false_ne_true
  | some c =>
    obtain ⟨t, e⟩ := Value.isStrOf_shape (x := mk c) (v := v) h
    exact ⟨t, e⟩
theorem rel_leaf {k : Option (List Nat)} {v : Value} (h : RelV (vO k) v) : Leaf.isOf (lfO k) v = true := by
  cases k with
  | none =>
    have : v = Value.none := h
    rw [this]; rfl
  | some c =>
    obtain ⟨t, e⟩ := h
    subst e
    show Value.isStrOf (mk c) (.str (mk c) t) = true
    simp [Value.isStrOf]
/-- the keys that come, each at its first place -/
def addO (ks : List (Option (List Nat))) (k : Option (List Nat)) : List (Option (List Nat)) := if k ∈ ks then ks else ks ++ [k]
theorem addO_mem {k x : Option (List Nat)} {ks : List (Option (List Nat))} : x ∈ addO ks k ↔ x ∈ ks ∨ x = k := by
  unfold addO
  split
  · constructor
    · exact .inl
    · rintro (h | h)
      · exact h
      · rw [h]; assumption
  · simp
theorem foldO_mem {x : Option (List Nat)} : ∀ {more ks : List (Option (List Nat))}, x ∈ more.foldl addO ks ↔ x ∈ ks ∨ x ∈ more
  | [], ks => by simp
  | k :: more, ks => by
    rw [List.foldl_cons, foldO_mem, addO_mem, List.mem_cons, or_assoc]
theorem addO_nodup {k : Option (List Nat)} {ks : List (Option (List Nat))} (h : ks.Nodup) : (addO ks k).Nodup := by
  unfold addO
  split
  · exact h
  · rename_i hk
    rw [List.nodup_append]
    exact ⟨h, by simp, fun a ha b hb e => hk (by rw [List.mem_singleton.mp hb] at e; rw [← e]; exact ha)⟩
theorem foldO_nodup : ∀ {more ks : List (Option (List Nat))}, ks.Nodup → (more.foldl addO ks).Nodup
  | [], ks, h => h
  | k :: more, ks, h => foldO_nodup (more := more) (addO_nodup h)
theorem foldO_len : ∀ {more ks : List (Option (List Nat))}, (more.foldl addO ks).length ≤ ks.length + more.length
  | [], ks => by simp
  | k :: more, ks => by
    have h := foldO_len (more := more) (ks := addO ks k)
    have h2 : (addO ks k).length ≤ ks.length + 1 := by unfold addO; split <;> simp
    simp only [List.foldl_cons, List.length_cons]
    omega
theorem stored_keys {kvs : List (Leaf × Value)} {ks : List (Option (List Nat))} {k : Option (List Nat)} {v : Value} (h : kvs.map (·.1) = ks.map lfO) : (stored kvs (lfO k) v).map (·.1) = (addO ks k).map lfO := by
  have e : (kvs.any fun kv => decide (kv.1 = lfO k)) = decide (k ∈ ks) := by
    have h1 : (kvs.any fun kv => decide (kv.1 = lfO k)) = (kvs.map (·.1)).any fun x => decide (x = lfO k) := by rw [List.any_map]; rfl
    rw [h1, h, List.any_map]
    by_cases hk : k ∈ ks
    · rw [decide_eq_true hk, List.any_eq_true]
      exact ⟨k, hk, by simp⟩
    · rw [decide_eq_false hk, List.any_eq_false]
      intro x hx
      simp only [Function.comp, decide_eq_true_eq]
      intro z
      rw [lfO_inj z] at hx
      exact hk hx
  unfold stored addO
  rw [e]
  by_cases hk : k ∈ ks
  · rw [if_pos (by simp [hk]), if_pos hk, ← h, List.map_map]
    refine List.map_congr_left fun kv _ => ?_
    simp only [Function.comp]
    split <;> rfl
  · rw [if_neg (by simp [hk]), if_neg hk, List.map_append, List.map_append, h]
    rfl
theorem merged_keys : ∀ {more : List (Option (List Nat) × Value)} {kvs : List (Leaf × Value)} {ks : List (Option (List Nat))}, kvs.map (·.1) = ks.map lfO →
    (merged kvs (more.map fun p => (lfO p.1, p.2))).map (·.1) = ((more.map (·.1)).foldl addO ks).map lfO
  | [], kvs, ks, h => h
  | p :: more, kvs, ks, h => merged_keys (more := more) (kvs := stored kvs (lfO p.1) p.2) (ks := addO ks p.1) (stored_keys h)
theorem pairs_get {prog : Program} {w : World} : ∀ {es : List DictEntry} {kvs : List (Leaf × Value)} {ks : List (Option (List Nat))}, Pairs (leafKind prog w) es kvs → kvs.map (·.1) = ks.map lfO →
    es.length = (ks.map vO).length ∧ ∀ (i : Nat) (v : V), (ks.map vO)[i]? = some v → ∃ en, es[i]? = some en ∧ RelV v en.key
  | _, _, [], .nil, _ => ⟨rfl, fun i v e => by simp at e⟩
  | _, _, _ :: _, .nil, h => by simp at h
  | _, _, [], .cons _ _ _, h => by simp at h
  | _, _, k :: ks, .cons h1 _ t, h => by
    simp only [List.map_cons, List.cons.injEq] at h
    obtain ⟨a, b⟩ := pairs_get t h.2
    refine ⟨by simpa using a, fun i v e => ?_⟩
    cases i with
    | zero =>
      have e : vO k = v := by simpa using e
      subst e
      exact ⟨_, rfl, leaf_rel (by rw [← h.1]; exact h1)⟩
    | succ i => exact b i v (by simpa using e)
section
variable {X : Cx}
theorem prsN {pins : List (Addr × Obj)} {σ : L2.St} {H : Hp} {s : Shared} (I : Inv X pins σ H s) : ∀ {ps : List Addr} {ks : List (Option (List Nat) × V)}, PySem.Paired (fun p kv => SqT X.K H p [vO kv.1, kv.2]) ps ks →
    ∃ ms : List (Option (List Nat) × Value × Value), ms.map (·.1) = ks.map (·.1) ∧ ms.length = ps.length ∧ ∀ (j : Nat) (m : Option (List Nat) × Value × Value), ms[j]? = some m → ∃ b, ps[j]? = some b ∧ IsTup s.heap b #[m.2.1, m.2.2] ∧ Leaf.isOf (lfO m.1) m.2.1 = true
  | _, _, .nil => ⟨[], rfl, rfl, fun j m e => by simp at e⟩
  | _, _, .cons (a := p) (b := kv) h t => by
    obtain ⟨ms, e1, e2, e3⟩ := prsN I t
    obtain ⟨its, rv, ht, _⟩ := I.tuple h
    obtain ⟨u, y, ei, ru, _⟩ := vals2 rv
    subst ei
    refine ⟨(kv.1, u, y) :: ms, by simp [e1], by simp [e2], fun j m e => ?_⟩
    cases j with
    | zero =>
      have e : (kv.1, u, y) = m := by simpa using e
      subst e
      exact ⟨p, rfl, ht, rel_leaf ru⟩
    | succ j =>
      obtain ⟨b, f1, f2⟩ := e3 j m (by simpa using e)
      exact ⟨b, by simpa using f1, f2⟩
theorem call_dictN (hcalm : X.calm = true) : CallR X (.type "dict") (fun xs H Q => ∃ (a : Addr) (ps : List Addr) (ks : List (Option (List Nat) × V)), xs = [.ref a] ∧ SqL X.K H a (ps.map V.ref) ∧ PySem.Paired (fun p kv => SqT X.K H p [vO kv.1, kv.2]) ps ks ∧
    ∀ p o, H p = none → Q (.ref p) (upd H p (NkO p o (((ks.map (·.1)).foldl addO []).map vO)))) := by
  rintro pins s σ H xs us Q I r ⟨a, ps, ks, rfl, hq, hp, q⟩
  obtain ⟨u, rfl, rx⟩ := vals1 r
  cases rx
  obtain ⟨its, rv, pl, hz⟩ := I.list hq
  have ei := refs_at rv
  subst ei
  rw [List.length_map] at hz
  obtain ⟨ms, e1, e2, e3⟩ := prsN I hp
  obtain ⟨o, n, ho, hc, hd, hdat⟩ := pl
  have P := PairArg.list (prog := X.prog) (w := X.w) a (ps.map Value.ref).toArray (fun j => ps.getD j 0) (ms.map (·.2))
  refine PySem.call_dict_pairs (knd := leafKind X.prog X.w) (kvs := (ms.map fun m => (m.1, m.2.2)).map fun p => (lfO p.1, p.2)) P (I.ok.hd hcalm) ⟨⟨o, n, ho, hc, hd, hdat⟩, by simp [e2], fun j k v hj => ?_⟩ ⟨by simp, fun i key v hr => ?_⟩ (by simpa [e2] using hz) fun h' tk hd' k => ?_
  · rw [List.getElem?_map] at hj
    cases em : ms[j]? with
    | none => rw [em] at hj; cases hj
    | some m =>
      rw [em] at hj
      obtain ⟨rfl, rfl⟩ : m.2.1 = k ∧ m.2.2 = v := by
        have hj : m.2 = (k, v) := by simpa using hj
        rw [hj]; exact ⟨rfl, rfl⟩
      obtain ⟨b, f1, f2, _⟩ := e3 j m em
      exact ⟨by simp [f1], .inl (by show s.heap.IsTuple (ps.getD j 0) _; rw [List.getD_eq_getElem?_getD, f1]; exact f2)⟩
  · have hr : (ms.map (·.2))[i]? = some (key, v) := hr
    rw [List.getElem?_map] at hr
    cases em : ms[i]? with
    | none => rw [em] at hr; cases hr
    | some m =>
      rw [em] at hr
      have hr : m.2 = (key, v) := by simpa using hr
      obtain ⟨b, _, _, f3⟩ := e3 i m em
      refine ⟨lfO m.1, by simp [em, hr], ?_⟩
      rw [hr] at f3
      exact f3
  · have hm : (s.heap.objs.size == sysModules) = false := beq_eq_false_iff_ne.mpr (Nat.ne_of_gt I.big)
    obtain ⟨o', es, ep, g1, g2, g3, _, g4, _⟩ := hd'
    have mk := merged_keys (more := ms.map fun m => (m.1, m.2.2)) (kvs := []) (ks := []) rfl
    have e4 : (ms.map fun m => (m.1, m.2.2)).map (fun x : Option (List Nat) × Value => x.1) = ks.map (·.1) := by rw [← e1, List.map_map]; rfl
    rw [e4] at mk
    obtain ⟨z1, z2⟩ := pairs_get g4 mk
    have hf : ∀ i : Nat, es[i]? = es.toList[i]? := fun i => by simp
    refine ⟨.ref s.heap.objs.size, _, I.laid (t' := tk) (fun b u e => k b u (by simp) e) (Nat.le_refl _) (nk_new hm g1 g2 g3 (by simpa using z1) fun i v e => by rw [hf]; exact z2 i v e), rfl, q _ o' (I.hok.fresh (Nat.le_refl _))⟩
/-- a dict that was just made, from now on only walked over -/
def tToN (t : TE) : TE := fun σ H Q => t σ H fun v H1 => ∃ d, v = .ref d ∧ H1 d = some (.dK []) ∧ ∀ o, Q (.ref d) (upd H1 d (NkO d o []))
theorem pe_toN {e : Expr} {t : TE} (h : PE X e t) : PE X e (tToN t) := by
  refine ⟨fun pins s σ H Q I hw => ?_⟩
  refine thn (h.run pins s σ H _ I hw) fun v s1 ⟨x, H1, I1, r, d, ex, hd, q⟩ => ?_
  subst ex
  obtain ⟨_, hs, vs, kv, o, es, ep, ho, hx, hdt, _, pr, _⟩ := I1.hok d _ hd
  cases kv
  have e0 : es.toList = [] := by cases hl : es.toList with
    | nil => rfl
    | cons _ _ => rw [hl] at pr; cases pr
  have new : ObjOk X.prog X.w (upd H1 d (NkO d o [])) s1.heap d (NkO d o []) := nk_new hs ho hx hdt (by rw [← Array.length_toList, e0]; rfl) fun i v e => by simp at e
  exact ⟨.ref d, _, I1.write (x := d) (e := d) (t' := s1.toks) (h' := s1.heap) (by rw [hd]; trivial) (.inl rfl) (fun b v _ q => q) ⟨o, ho⟩ new, r, q o⟩
theorem pi_nk {tg e : Expr} {td : TE} (he : PE X e td) : PI X tg e (fun σ H R => td σ H fun x H1 => ∃ d o vs, x = .ref d ∧ H1 d = some (NkO d o vs) ∧ R (Itn d o vs) H1) := by
  refine ⟨fun pins s σ H R I h => ?_⟩
  refine thn (he.run pins s σ H _ I h) fun u s1 ⟨x, H1, I1, rx, d, o, vs, ex, hd, q⟩ => ?_
  subst ex
  obtain rfl : u = Value.ref d := rx
  obtain ⟨hs, hg, hx, es, ep, hdt, hsz, _⟩ := nk_of I1 hd
  refine iter_keys hs hg hx hdt (pi_one (tk := s1.toks) I1 _ (turn_nk _ hdt) ⟨_, Heap.get?_push_size _ rfl, rfl, ?_⟩ q)
  rw [hsz] <;> rfl
end
def pairsN : List D → Option (List (Option (List Nat)))
  | [] => some []
  | x :: xs => match x, pairsN xs with
    | .tup [.str c, _], some r => some (some c :: r)
    | .tup [.non, _], some r => some (none :: r)
    | _, _ => none
def fDictN (x : D) (q : D → Prop) : Prop := match x with
  | .lst xs => match pairsN xs with
    | some ks => q (.nkd ((ks.foldl addO []).map opD))
    | none => False
  | _ => False
section
variable {X : Cx} {K : PySem.W.Frag} {F : Hp}
theorem pairsN_of {H : Hp} (S : Same F H) : ∀ {vs : List V} {xs : List D} {ks : List (Option (List Nat))}, RpL K F vs xs → pairsN xs = some ks →
    ∃ (ps : List Addr) (kv : List (Option (List Nat) × V)), vs = ps.map V.ref ∧ PySem.Paired (fun p x => SqT K H p [vO x.1, x.2]) ps kv ∧ kv.map (·.1) = ks ∧ ∀ c, some c ∈ ks → Asc c
  | _, _, _, .nil, e => by
    cases e
    exact ⟨[], [], rfl, .nil, rfl, by simp⟩
  | _, _, _, .cons r t, e => by
    unfold pairsN at e
    split at e
    · rename_i c y rr er
      cases e
      obtain ⟨ps, kv, e1, e2, e3, e4⟩ := pairsN_of S t er
      cases r with
      | tup ta rl =>
        cases rl with
        | cons r1 rl =>
          cases rl with
          | cons r2 rl =>
            cases rl
            cases r1 with
            | str _ ha => exact ⟨_ :: ps, (some c, _) :: kv, by rw [e1]; rfl, .cons (sqT_mono S ta.sq) e2, by simp [e3], fun d hd => by
                rcases List.mem_cons.mp hd with z | z
                · cases z; exact ha
                · exact e4 d z⟩
    · rename_i y rr er
      cases e
      obtain ⟨ps, kv, e1, e2, e3, e4⟩ := pairsN_of S t er
      cases r with
      | tup ta rl =>
        cases rl with
        | cons r1 rl =>
          cases rl with
          | cons r2 rl =>
            cases rl
            cases r1
            exact ⟨_ :: ps, (none, _) :: kv, by rw [e1]; rfl, .cons (sqT_mono S ta.sq) e2, by simp [e3], fun d hd => by
                rcases List.mem_cons.mp hd with z | z
                · cases z
                · exact e4 d z⟩
    · cases e
theorem rpl_opD : ∀ {ks : List (Option (List Nat))}, (∀ c, some c ∈ ks → Asc c) → RpL K F (ks.map vO) (ks.map opD)
  | [], _ => .nil
  | k :: ks, h => .cons (match k, h with
    | none, _ => .non
    | some c, h => .str c (h c List.mem_cons_self)) (rpl_opD fun c hc => h c (List.mem_cons_of_mem _ hc))
def dictNR (hc : X.calm = true) : DC X (.type "dict") (d1 fDictN) where
  r := _
  h := call_dictN hc
  hr := fun F H vs xs q Q S rs hd hQ => by
    obtain ⟨x, rfl, hd⟩ := d1_ hd
    obtain ⟨v, rfl, rx⟩ := rs.one
    cases x with
    | lst xs =>
      obtain ⟨p, vs, e, hp, r⟩ := rx.lst_ S
      have hd : (match pairsN xs with | some ks => q (.nkd ((ks.foldl addO []).map opD)) | none => False) := hd
      cases ep : pairsN xs with
      | none => rw [ep] at hd; exact hd.elim
      | some ks =>
        rw [ep] at hd
        obtain ⟨ps, kv, e1, e2, e3, e4⟩ := pairsN_of S r ep
        subst e1
        refine ⟨p, ps, kv, by rw [e], .of hp, e2, fun a o ha => ?_⟩
        rw [e3]
        have A := AL.new (o := NkO a o ((ks.foldl addO []).map vO)) S ha
        exact hQ _ _ _ _ A (.nkd upd_same (rpl_opD fun c hc => by
          rcases foldO_mem.mp hc with z | z
          · simp at z
          · exact e4 c z)) hd
    | _ => exact hd.elim
end
section
variable {X : Cx} {W : WX} {pos : Pos} {tg iter : Expr} {ta : TD}
theorem de_dicN0 : DE X W (.Dict [] [] pos) (dC (.nkd [])) := by
  refine ⟨PE.conv (pe_toN pe_dnewK) fun σ H Q ⟨G, F, ε, q, xq, I, ht, hq, hx⟩ p hp => ⟨p, rfl, upd_same, fun o => ?_⟩⟩
  rw [upd_upd]
  have A := AL.new (o := NkO p o []) I.sF hp
  exact hq _ _ _ (.d (.nkd [])) ε A.sF (.refl _) (I.al A) (Rp.nkd upd_same .nil) ht
def itemsN (x : D) (k : List D → Prop) : Prop := match x with
  | .nkd xs => k xs
  | _ => False
def iNkD (ta : TD) : TId := fun ε q xq => ta ε (fun o ε1 => fz ε1 o fun x ε2 => itemsN x fun xs => q xs ε2) xq
theorem itok_nk {K : PySem.W.Frag} {F : Hp} {d : Addr} {o : Obj} {vs : List V} {xs : List D} (hq : F d = some (NkO d o vs)) (r : RpL K F vs xs) : ItOk K F (Itn d o vs) xs := fun F' H' s1 s2 => by
  have hq' : H' d = some (NkO d o vs) := s2 _ _ (s1 _ _ hq)
  refine ⟨fun i x hx => ?_, hq', r.none_⟩
  obtain ⟨v, hv, rv⟩ := r.get' hx
  refine ⟨⟨hq', (List.getElem?_eq_some_iff.mp hv).1⟩, fun w H2 ⟨e, hy⟩ => ?_⟩
  subst e
  rw [hv] at hy
  cases hy
  exact ⟨F', al_id s2, rv.mono s1⟩
theorem di_nk (h : DE X W iter ta) : DI X W tg iter (iNkD ta) := by
  refine ⟨PI.conv (pi_nk h.pe) fun σ H R ⟨G, F, ε, q, xq, I, ht, hq, hx⟩ => ?_⟩
  refine ⟨G, F, ε, _, xq, I, ht, fun F1 H1 v o ε1 s1 k1 I1 r1 h1 => ?_, hx⟩
  obtain ⟨F2, x, ε2, s2, k2, I2, r2, h2⟩ := fz_of I1 r1.w h1
  cases x with
  | nkd xs =>
    cases r2 with
    | nkd hp r => exact ⟨_, _, _, rfl, I2.sF _ _ hp, hq F2 H1 _ xs ε2 (s1.trans s2) (k1.trans k2) I2 (itok_nk hp r) h2⟩
  | _ => exact h2.elim
theorem x_iNkD (ta : TD) (ε : Env) (q : List D → Env → Prop) (xq : XQ) : iNkD ta ε q xq = (ta ε (fun o ε1 => fz ε1 o fun x ε2 => itemsN x fun xs => q xs ε2) xq) := rfl
end
end Zd
namespace Zd
open PySem PySem.Spec L2 TL
/-! ### sorted of a list of texts, each once, of any length -/
def rSortA (K : PySem.W.Frag) : List V → Hp → VK → Prop := fun vs H Q => ∃ (a : Addr) (l : List Str), vs = [V.ref a] ∧ SqL K H a (l.map V.str) ∧
  ∀ (ys : List Str) (p : Addr), ys.Perm l → PyProof.Rows.sortedS ys = true → H p = none → Q (.ref p) (upd H p (.lst (ys.map V.str)))
theorem cr_sortA {X : Cx} : CallR X (.builtin "sorted") (rSortA X.K) := by
  rintro pins s σ H vs us Q I r ⟨a, l, rfl, hq, q⟩
  obtain ⟨its, rv, hl, hz⟩ := I.list hq
  have ev := rv.length
  rw [Vals.ref1 r]
  refine PyProof.Rows.sorted_strsAny hl.isList rv.strs (by rw [← ev]; exact hz) fun out ys g1 g2 g3 => ?_
  obtain ⟨c, hc⟩ := PyProof.Rows.sortedAll_at s.heap its out
  have J := I.laid (a := s.heap.objs.size + 1) (o := .lst (ys.map V.str)) (t' := s.toks) (h' := PyProof.Rows.sortedAll s.heap its out) (fun b u e => PyProof.Rows.sortedAll_old e) (Nat.le_succ _)
    ⟨by rw [List.length_map, g2.length_eq, ← List.length_map (f := V.str)]; exact hz, out.toList, c, vals_of_strs g1, hc⟩
  exact ⟨.ref _, _, J, rfl, q ys _ g2 g3 (I.hok.fresh (Nat.le_succ _))⟩
def fSortedL (x : D) (q : D → Prop) : Prop := match x with
  | .lst xs => ∃ css : List (List Nat), xs = css.map D.str ∧ css.Nodup ∧ q (.lst ((srtU css).map .str))
  | _ => False
theorem rpl_strs {K : PySem.W.Frag} {F : Hp} : ∀ {vs : List V} {css : List (List Nat)}, RpL K F vs (css.map D.str) → vs = (css.map mk).map V.str ∧ ∀ c ∈ css, Asc c
  | _, [], .nil => ⟨rfl, by simp⟩
  | _, c :: css, .cons (.str _ ha) t => by
    obtain ⟨e, h⟩ := rpl_strs t
    refine ⟨by rw [e]; rfl, fun d hd => ?_⟩
    rcases List.mem_cons.mp hd with z | z
    · rw [z]; exact ha
    · exact h d z
def sortedLR {X : Cx} : DC X (.builtin "sorted") (d1 fSortedL) where
  r := _
  h := cr_sortA
  hr := fun F H vs xs q Q S rs hd hQ => by
    obtain ⟨x, rfl, hd⟩ := d1_ hd
    obtain ⟨v, rfl, rx⟩ := rs.one
    cases x with
    | lst xs =>
      obtain ⟨p, vs, e, hp, r⟩ := rx.lst_ S
      obtain ⟨css, rfl, nd, h2⟩ := hd
      obtain ⟨e2, ha⟩ := rpl_strs r
      subst e2
      refine ⟨p, css.map mk, by rw [e], .of hp, fun ys a hpm hso ha2 => ?_⟩
      have ey := sorted_is nd hpm hso
      subst ey
      have A := AL.new (o := .lst (((srtU css).map mk).map V.str)) S ha2
      exact hQ _ _ _ _ A (.lst upd_same (RpL.strs fun c hc => ha c (srtU_mem.mp hc))) h2
    | _ => exact hd.elim
end Zd
namespace Zd
open PySem PySem.Spec L2 TL
theorem x_dCallO (fo : FO) (t : TL) (ε : Env) (q : OC → Env → Prop) (xq : XQ) : dCallO fo t ε q xq = (t ε (fun os ε1 => (ownsOf ε1 os).Nodup ∧ argsD ε1 os fun as => fo as (fun c as' => q c (backs os as' ε1)) fun e as' => xq e (backs os as' ε1)) xq) := rfl
end Zd
set_option maxHeartbeats 2000000
namespace Zd
open PySem PySem.Spec L2 TL
/-! ### repr of {} and of {0: x} -/
section
variable {X : Cx} {pins : List (Addr × Obj)} {σ : L2.St} {H F : Hp} {s : Shared}
theorem call_reprD0 (gd : NoG X.A) (hu : X.A.units + 66 < cLine) : CallR X (.builtin "repr") (fun xs H Q => ∃ a, xs = [.ref a] ∧ H a = some (.dK []) ∧ Q (.str (mk [123, 125])) H) := by
  rintro pins s σ H xs us Q I r ⟨a, rfl, ha, q⟩
  obtain ⟨u, rfl, ru⟩ := vals1 r
  cases ru
  obtain ⟨hzz, hs, vs, kv, o, es, ep, ho, hx, hdt, hko, pr, hnd⟩ := I.hok a _ ha
  cases kv
  have e0 : es.toList = [] := by cases hl : es.toList with
    | nil => rfl
    | cons _ _ => rw [hl] at pr; cases pr
  have rd : Reads s.heap (.ref a) (.dict []) (a :: [] ++ []) := .dict ho hx.1 hdt (by rw [e0]; exact .nil) (by rw [e0]; exact .nil)
  have e : PyData.shown (.dict []) = mk [123, 125] := by rfl
  refine repr_of_reads' rd rfl (fun _ z => ?_) gd (by simp [PyData.depth, PyData.depthKv]; omega) (fun _ _ e => e) (fun h' u tk k => ⟨.str _, H, I.kept k, ⟨_, rfl⟩, by rw [e]; exact q⟩) (by rw [e]; decide)
  have z : sysModules = a := by simpa using z
  rw [z] at hs
  simp at hs
theorem call_reprD1 (gd : NoG X.A) (hu : X.A.units + 66 < cLine) : CallR X (.builtin "repr") (fun xs H Q => ∃ a v x F, Same F H ∧ xs = [.ref a] ∧ H a = some (.dK [(.inl 0, v)]) ∧ Rp X.K F v x ∧ okD x ∧ dep x ≤ 60 ∧ smi2 x = true ∧ wt x ≤ 1000000 ∧ Q (.str (mk ([123, 48, 58, 32] ++ rep x ++ [125]))) H) := by
  rintro pins s σ H xs us Q I r ⟨a, v, x, F, S, rfl, ha, rx, ok, hdep, sm, wl, q⟩
  obtain ⟨u, rfl, ru⟩ := vals1 r
  cases ru
  obtain ⟨hzz, hs, vs, kv, o, es, ep, ho, hx, hdt, hko, pr, hnd⟩ := I.hok a _ ha
  cases kv with
  | cons h1 h2 =>
    cases h2
    rename_i kvv
    obtain ⟨uv, rv, hkv⟩ : ∃ uv : Value, RelV v uv ∧ kvv = (Sum.inl 0, uv) := by
      obtain ⟨k0, uv⟩ := kvv
      have hk : (Sum.inl 0 : Key) = k0 := h1.1
      rw [← hk]
      exact ⟨uv, h1.2, rfl⟩
    subst hkv
    obtain ⟨en, hl, hkey, hval⟩ : ∃ en, es.toList = [en] ∧ keyIs (.inl 0) en.key = true ∧ en.val = uv := by
      cases hl : es.toList with
      | nil => rw [hl] at pr; cases pr
      | cons en rest =>
        rw [hl] at pr
        cases pr with
        | cons a1 a2 a3 => cases a3; exact ⟨en, rfl, a1, a2⟩
    obtain ⟨t, et⟩ := Value.isInt_shape (k := 0) (v := en.key) hkey
    obtain ⟨dp, sh⟩ := (RpB.dp S (.inl rx) ok)
    obtain ⟨as, hr⟩ := Dp.reads I _ _ _ dp rv
    have h4 : ReadsAll s.heap (es.toList.map (·.key)) [.int 0] ([] ++ []) := by
      rw [hl]; simp only [List.map_cons, List.map_nil]; rw [et]; exact .cons (.int 0 t) .nil
    have h5 : ReadsAll s.heap (es.toList.map (·.val)) [toPy x] (as ++ []) := by
      rw [hl]; simp only [List.map_cons, List.map_nil]; rw [hval]; exact .cons hr .nil
    have rd : Reads s.heap (.ref a) (.dict [(.int 0, toPy x)]) (a :: ([] ++ []) ++ (as ++ [])) := .dict ho hx.1 hdt h4 h5
    obtain ⟨w1, w2, w3⟩ := wt_py x (smi_rp x v sm rx)
    have p20 : (2 : Nat) ^ 20 = 1048576 := by decide
    have nd : (toPy x).hasDict = false := by
      have h3 : (PyData.canLay0 (toPy x) && decide (PyData.depth (toPy x) ≤ 64)) = true := sh
      simp only [Bool.and_eq_true, decide_eq_true_eq] at h3
      exact PyData.hasDict_of_canLay _ h3.1
    have hz : (toPy x).shown.length ≤ sizeLine := PyData.shown_fits (B := 13) (by decide) (by decide) w2 (by omega)
    have hzd : (PyData.shown (.dict [(.int 0, toPy x)])).length ≤ sizeLine := by
      refine PyData.shown_fits (B := 13) (by decide) (by decide) ?_ ?_
      · simp only [PyData.leavesShort, PyData.leavesShortKv, w2]
        decide
      · simp only [PyData.weight, PyData.weightKv]
        have : (2 : Nat) ^ 20 = 1048576 := by decide
        simp
        omega
    have e : PyData.shown (.dict [(.int 0, toPy x)]) = mk ([123, 48, 58, 32] ++ rep x ++ [125]) := by
      rw [← mk_tl (PyData.shown (.dict [(.int 0, toPy x)]))]
      congr 1
      simp only [PyData.shown, PyData.shownKv, dictText]
      rw [tl_append, tl_append, tl_join]
      simp only [List.map_cons, List.map_nil, joinL]
      rw [tl_append, tl_append]
      rfl
    obtain ⟨b1, g1, k1⟩ := ReprAllK.of_readsAll (prog := X.prog) (w := X.w) h4 (by rfl) (fun z => by cases z) (fun t ht => by
      have ht : t = PyData.shown (.int 0) := by simpa [PyData.shownAll] using ht
      rw [ht]; decide)
    obtain ⟨b2, g2, k2⟩ := ReprAllK.of_readsAll (prog := X.prog) (w := X.w) h5 (by simp [PyData.showableAll, w3]) (fun z => by simp [PyData.hasDictAll, nd] at z) (fun t ht => by
      have ht : t = PyData.shown (toPy x) := by simpa [PyData.shownAll] using ht
      rw [ht]; exact hz)
    have hb : ReadAtMost s.heap (PyData.depthKv [(.int 0, toPy x)]) (b1 ++ b2) := (g1.mono (PyData.depthAll_keys_le [(.int 0, toPy x)])).append (g2.mono (PyData.depthAll_vals_le [(.int 0, toPy x)]))
    have hna : a ∉ b1 ++ b2 := not_mem_of_deeper rd (by simp only [PyData.depth]; omega) hb
    have hd : PyData.depthKv [(.int 0, toPy x)] ≤ 60 := by
      simp only [PyData.depthKv, PyData.depth]
      rw [dep_py x ok.1]
      omega
    rw [PyData.shown, PyData.shownKv_eq] at hzd
    refine call_repr_slot (by omega) ⟨o, ho, hx.1⟩ PySem.F.slot_dict_repr (call_dict_reprK ho hx.1 hdt hs hna (ReprEntriesK.of_two es.toList _ _
      (k1.more_le (fun b hb => List.mem_append_left _ hb) (PyData.depthAll_keys_le [(.int 0, toPy x)])) (k2.more_le (fun b hb => List.mem_append_right _ hb) (PyData.depthAll_vals_le [(.int 0, toPy x)])))
      (show X.A.in1.guards = some [] from gd) (fun b _ => Clear.nil b) (by show X.A.units + 1 + _ < cLine; omega) (fun _ _ e => e) (fun h' u tk k => ⟨_, _, rfl, ?_⟩) hzd)
    refine ⟨.str _, H, I.kept k, ⟨_, rfl⟩, ?_⟩
    rw [PyData.shown, PyData.shownKv_eq] at e
    simp only [List.map_cons, List.map_nil] at e
    rw [e]
    exact q
end
end Zd

namespace Zd
open PySem PySem.Spec L2 TL
/-- repr of any plain thing, of {}, of {0: x} -/
def fRepr3 (x : D) (q : D → Prop) : Prop := match x with
  | .dic [] => q (.str [123, 125])
  | .dic [(.i 0, y)] => (okD y ∧ dep y ≤ 60 ∧ smi2 y = true ∧ wt y ≤ 1000000) ∧ q (.str ([123, 48, 58, 32] ++ rep y ++ [125]))
  | _ => (okD x ∧ smi2 x = true ∧ wt x ≤ 1048576) ∧ q (.str (rep x))
theorem fRepr3_else {x : D} {q : D → Prop} (h : ∀ kvs, x ≠ .dic kvs) (h2 : fRepr3 x q) : fRepr2 x q := by
  unfold fRepr3 at h2
  split at h2
  · exact absurd rfl (h _)
  · exact absurd rfl (h _)
  · exact h2
def reprR3 {X : Cx} (gd : NoG X.A) (hu : X.A.units + 66 < cLine) : DC X (.builtin "repr") (d1 fRepr3) where
  r := _
  h := CallR.or (CallR.or (call_reprD0 gd hu) (call_reprD1 gd hu)) (reprR2 gd hu).h
  hr := fun F H vs xs q Q S rs hd hQ => by
    obtain ⟨x, rfl, hd2⟩ := d1_ hd
    clear hd
    have hd : fRepr3 x q := hd2
    clear hd2
    have rs2 := rs
    obtain ⟨v, rfl, rx⟩ := rs.one
    by_cases hk : ∀ kvs, x ≠ .dic kvs
    · exact .inr ((reprR2 gd hu).hr F H [v] [x] q Q S rs2 (fRepr3_else hk hd) hQ)
    · obtain ⟨kvs, rfl⟩ : ∃ kvs, x = .dic kvs := Classical.byContradiction fun z => hk fun kvs e => z ⟨kvs, e⟩
      obtain ⟨p, vs, e, hp, r⟩ := rx.dic_ S
      unfold fRepr3 at hd
      split at hd
      · rename_i e0
        cases e0
        cases r
        refine .inl (.inl ⟨p, by rw [e], hp, ?_⟩)
        exact hQ F H _ _ (al_id S) (.str [123, 125] (asc_of (by decide))) hd
      · rename_i y e0
        cases e0
        obtain ⟨⟨ok, dy, sm, wl⟩, hd⟩ := hd
        cases r with
        | cons r1 r2 =>
          cases r2
          refine .inl (.inr ⟨p, _, y, F, S, by rw [e], hp, r1, ok, dy, sm, wl, ?_⟩)
          exact hQ F H _ _ (al_id S) (.str _ (((asc_of (by decide)).append (sh_asc y _ ok.1 r1)).append (asc_of (by decide)))) hd
      · simp [smi2] at hd
end Zd
namespace Zd
open PySem PySem.Spec L2 TL
section
variable {q : D → Prop}
theorem r3_non : fRepr3 .non q = ((okD .non ∧ smi2 .non = true ∧ wt .non ≤ 1048576) ∧ q (.str (rep .non))) := rfl
theorem r3_bl {b : Bool} : fRepr3 (.bl b) q = ((okD (.bl b) ∧ smi2 (.bl b) = true ∧ wt (.bl b) ≤ 1048576) ∧ q (.str (rep (.bl b)))) := rfl
theorem r3_int {i : Int} : fRepr3 (.int i) q = ((okD (.int i) ∧ smi2 (.int i) = true ∧ wt (.int i) ≤ 1048576) ∧ q (.str (rep (.int i)))) := rfl
theorem r3_str {c : List Nat} : fRepr3 (.str c) q = ((okD (.str c) ∧ smi2 (.str c) = true ∧ wt (.str c) ≤ 1048576) ∧ q (.str (rep (.str c)))) := rfl
theorem r3_lst {xs : List D} : fRepr3 (.lst xs) q = ((okD (.lst xs) ∧ smi2 (.lst xs) = true ∧ wt (.lst xs) ≤ 1048576) ∧ q (.str (rep (.lst xs)))) := rfl
theorem r3_ro {xs : List D} : fRepr3 (.ro xs) q = ((okD (.ro xs) ∧ smi2 (.ro xs) = true ∧ wt (.ro xs) ≤ 1048576) ∧ q (.str (rep (.ro xs)))) := rfl
theorem r3_tup {xs : List D} : fRepr3 (.tup xs) q = ((okD (.tup xs) ∧ smi2 (.tup xs) = true ∧ wt (.tup xs) ≤ 1048576) ∧ q (.str (rep (.tup xs)))) := rfl
theorem r3_d0 : fRepr3 (.dic []) q = q (.str [123, 125]) := rfl
theorem r3_d1 {y : D} : fRepr3 (.dic [(.i 0, y)]) q = ((okD y ∧ dep y ≤ 60 ∧ smi2 y = true ∧ wt y ≤ 1000000) ∧ q (.str ([123, 48, 58, 32] ++ rep y ++ [125]))) := rfl
end
end Zd
namespace Zd
open PySem PySem.Spec L2 TL
theorem kz_NoneType_int : kitB "NoneType" "int" = some false := by rfl
theorem kz_NoneType_bool : kitB "NoneType" "bool" = some false := by rfl
theorem kz_NoneType_str : kitB "NoneType" "str" = some false := by rfl
theorem kz_NoneType_tuple : kitB "NoneType" "tuple" = some false := by rfl
theorem kz_NoneType_list : kitB "NoneType" "list" = some false := by rfl
theorem kz_bool_int : kitB "bool" "int" = some true := by rfl
theorem kz_bool_bool : kitB "bool" "bool" = some true := by rfl
theorem kz_bool_str : kitB "bool" "str" = some false := by rfl
theorem kz_bool_tuple : kitB "bool" "tuple" = some false := by rfl
theorem kz_bool_list : kitB "bool" "list" = some false := by rfl
theorem kz_int_int : kitB "int" "int" = some true := by rfl
theorem kz_int_bool : kitB "int" "bool" = some false := by rfl
theorem kz_int_str : kitB "int" "str" = some false := by rfl
theorem kz_int_tuple : kitB "int" "tuple" = some false := by rfl
theorem kz_int_list : kitB "int" "list" = some false := by rfl
theorem kz_str_int : kitB "str" "int" = some false := by rfl
theorem kz_str_bool : kitB "str" "bool" = some false := by rfl
theorem kz_str_str : kitB "str" "str" = some true := by rfl
theorem kz_str_tuple : kitB "str" "tuple" = some false := by rfl
theorem kz_str_list : kitB "str" "list" = some false := by rfl
theorem kz_list_int : kitB "list" "int" = some false := by rfl
theorem kz_list_bool : kitB "list" "bool" = some false := by rfl
theorem kz_list_str : kitB "list" "str" = some false := by rfl
theorem kz_list_tuple : kitB "list" "tuple" = some false := by rfl
theorem kz_list_list : kitB "list" "list" = some true := by rfl
theorem kz_tuple_int : kitB "tuple" "int" = some false := by rfl
theorem kz_tuple_bool : kitB "tuple" "bool" = some false := by rfl
theorem kz_tuple_str : kitB "tuple" "str" = some false := by rfl
theorem kz_tuple_tuple : kitB "tuple" "tuple" = some true := by rfl
theorem kz_tuple_list : kitB "tuple" "list" = some false := by rfl
theorem kz_dict_int : kitB "dict" "int" = some false := by rfl
theorem kz_dict_bool : kitB "dict" "bool" = some false := by rfl
theorem kz_dict_str : kitB "dict" "str" = some false := by rfl
theorem kz_dict_tuple : kitB "dict" "tuple" = some false := by rfl
theorem kz_dict_list : kitB "dict" "list" = some false := by rfl
end Zd
set_option maxHeartbeats 2000000
namespace Zd
open PySem PySem.Spec L2 TL

/-! ### objects of one's own: a field is set -/
def putFD (f : Str) (x : D) : List (Str × D) → List (Str × D)
  | [] => [(f, x)]
  | (g, y) :: r => if g = f then (g, x) :: r else (g, y) :: putFD f x r
theorem RpF.putF {K : PySem.W.Frag} {F : Hp} {f : Str} {v : V} {x : D} (rx : Rp K F v x) : ∀ {vs : List (Str × V)} {ds : List (Str × D)}, RpF K F vs ds → RpF K F (putF f v vs) (putFD f x ds)
  | _, _, .nil => .cons rx .nil
  | _, _, .cons (k := g) (v := w) (vs := r) (xs := s) h t => by
    show RpF K F (if g = f then (g, v) :: r else (g, w) :: L2.putF f v r) (if g = f then _ :: s else _ :: putFD f x s)
    by_cases e : g = f
    · rw [if_pos e, if_pos e]; exact .cons rx t
    · rw [if_neg e, if_neg e]; exact .cons h (RpF.putF rx t)
theorem putFD_mem {f : Str} {x : D} : ∀ {ds : List (Str × D)} {p : Str × D}, p ∈ putFD f x ds → p.1 = f ∨ ∃ p' ∈ ds, p'.1 = p.1
  | [], p, h => by
    have h : p ∈ [(f, x)] := h
    rw [List.mem_singleton] at h
    exact .inl (by rw [h])
  | (g, y) :: r, p, h => by
    have h : p ∈ (if g = f then (g, x) :: r else (g, y) :: putFD f x r) := h
    by_cases e : g = f
    · rw [if_pos e] at h
      rcases List.mem_cons.mp h with z | z
      · exact .inl (by rw [z]; exact e)
      · exact .inr ⟨p, List.mem_cons_of_mem _ z, rfl⟩
    · rw [if_neg e] at h
      rcases List.mem_cons.mp h with z | z
      · exact .inr ⟨(g, y), List.mem_cons_self, by rw [z]⟩
      · rcases putFD_mem z with z | ⟨p', h1, h2⟩
        · exact .inl z
        · exact .inr ⟨p', List.mem_cons_of_mem _ h1, h2⟩
theorem RpF.length {K : PySem.W.Frag} {F : Hp} : ∀ {vs : List (Str × V)} {ds : List (Str × D)}, RpF K F vs ds → vs.length = ds.length
  | _, _, .nil => rfl
  | _, _, .cons _ t => by simp [RpF.length t]
theorem RpF.look_none {K : PySem.W.Frag} {F : Hp} {m : Str} : ∀ {vs : List (Str × V)} {ds : List (Str × D)}, RpF K F vs ds → ds.lookup m = none → vs.lookup m = none
  | _, _, .nil, _ => rfl
  | _, _, .cons (k := k) _ t, e => by
    rw [List.lookup_cons] at e ⊢
    split at e
    · cases e
    · rename_i h
      exact RpF.look_none t e
def fsetAt (n : String) (f : Str) (ε : Env) (i : Nat) (x : D) (k : Env → Prop) : Prop := match ownAt ε i with
  | some (.ob n' ds) => n' = n ∧ ds.length < 1000 ∧ k (putOc ε i (.ob n' (putFD f x ds)))
  | _ => False
def sFset (n : String) (f : Str) (i : Nat) (t : TD) : TSd := fun Dn ε => t ε (fun o ε1 => fz ε1 o fun x ε2 => fsetAt n f ε2 i x Dn.nx) Dn.xq
theorem x_sFset (n : String) (f : Str) (i : Nat) (t : TD) (Dn : DEnds) (ε : Env) : sFset n f i t Dn ε = t ε (fun o ε1 => fz ε1 o fun x ε2 => fsetAt n f ε2 i x Dn.nx) Dn.xq := rfl
section
variable {X : Cx} {W : WX} {t : TD}
theorem ds_fset {n : String} {f : Str} {i : Nat} {st : Stmt} (na : ∀ C, ClsNm X.K (Str.ofString n) C → NoAttr X.K C f) (h : PS X st (sFld X.K (tVar i) (LE X.K W t) f)) : DS X W st (sFset n f i t) := by
  refine ⟨PS.conv h fun De σ H ⟨G, F, ε, Dn, I, ht, ok⟩ => ?_⟩
  refine ⟨G, F, ε, _, _, I, ht, fun F1 H1 v o ε1 s1 k1 I1 r1 h1' => ?_, ok.x⟩
  obtain ⟨F2, x, ε2, s2, _, I2, r2, hk⟩ := fz_of I1 r1.w h1'
  unfold fsetAt at hk
  split at hk
  · rename_i n' ds e2
    obtain ⟨rfl, hl, hk⟩ := hk
    obtain ⟨p, ho, g1, g2, g3, g4, g5⟩ := I2.o i _ e2
    refine ⟨.ref p, g1, ?_⟩
    cases ho with
    | ins C dx vs =>
      obtain ⟨c1, c2, c3, c4⟩ := g5
      refine ⟨p, C, dx, vs, rfl, g4, c1, na C c2, by rw [c4.length]; exact hl, ?_⟩
      refine ok.nx _ _ σ _ (s1.trans s2) (I2.mut e2 g1 (show OcOk X.K F2 (.ins C dx (L2.putF f v vs)) (.ob n' (putFD f x ds)) from ⟨c1, c2, fun q hq => ?_, c4.putF r2⟩)) hk
      rcases putFD_mem hq with z | ⟨q', h1, h2⟩
      · rw [z]; exact na C c2
      · rw [← h2]; exact c3 q' h1
    | _ => exact g5.elim
  · exact hk.elim
end
/-! ### methods -/
section
variable {X : Cx} {CX : CXT} {k : Nat} {f C : Addr} {fd : FuncData} {ps : List Str} {sp : Sp} {m : Str} {pos apos : Pos} {e o : Expr} {es : List Expr} {ta : TE} {t : TA}
def tMtG (C : Addr) (m : Str) (sp : Sp) (W : WX) (ta : TE) (t : TA) : TE := fun σ H Q => ta σ H fun x H1 => ∃ a dx fs, x = .ref a ∧ H1 a = some (.ins C dx fs) ∧ fs.lookup m = none ∧ t σ H1 fun vs H2 => sp (x :: vs) H2 Q (WE W σ)
theorem pe_mtG {W : WX} {pl : Sem Bool} (he : PE X o ta) (c : Cls X.K C) (hm : Meth X.K C m f) (F : FnG X.prog X.w X.K X.mg X.base CX k f fd ps sp) (gd : NoG X.A) (hr : Room k X.A) (hb : Binds X.K fd ps []) (hx : ∀ σ, PassesAt CX X σ (WE W σ)) (ha : PA X (e :: es) t)
    (hst : starEach (e :: es) X.env = (false, eval e X.env) :: starEach es X.env := by rfl) (hpl : (backTo pos (starEach es X.env)).any (·.1) = false := by rfl)
    (ht : eval (.Call (.Attribute o m apos) (e :: es) [] pos) X.env = (do
      let v ← eval o X.env
      standAt apos.atName
      let (g, ahead) ← holding [v] (getMethod v m pl)
      callWith pos g ahead (backTo pos (starEach (e :: es) X.env)) (backToKw pos (keywordEach [] X.env))) := by rfl) :
    PE X (.Call (.Attribute o m apos) (e :: es) [] pos) (tMtG C m sp W ta t) := by
  refine ⟨fun pins s σ H Q I h => PySem.W.methodCall_KW (pl := pl) (thn (he.run pins s σ H _ I h) ?_) ht⟩
  rintro u s1 ⟨x, H1, I1, rx, a, dx, fs, rfl, ea, l, q⟩
  obtain rfl : u = Value.ref a := rx
  refine getmeth_ok I1 ea c hm l (PySem.W.callWith_K (first := [.ref a]) (h₀ := X.base) I.ok.mod.kin hm.kp (thn (ha.run pos pins s1 σ H1 _ I1 q) ?_) hst hpl)
  rintro us s2 ⟨vs, H2, I2, r, q2⟩
  refine ⟨I2.kIn, run_G (us := .ref a :: us) (as := .ref a :: vs) (bs := .ref a :: us) F gd hr (hx σ) I2 (fun hl => ?_) (.cons rfl r) q2⟩
  have b := hb s2 (.ref a :: us) I2.kIn (by rw [List.append_nil, List.length_cons, ← r.length]; exact hl)
  rwa [List.append_nil] at b
theorem pe_mtG0 {W : WX} {pl : Sem Bool} (he : PE X o ta) (c : Cls X.K C) (hm : Meth X.K C m f) (F : FnG X.prog X.w X.K X.mg X.base CX k f fd ps sp) (gd : NoG X.A) (hr : Room k X.A) (hb : Binds X.K fd ps []) (hx : ∀ σ, PassesAt CX X σ (WE W σ))
    (ht : eval (.Call (.Attribute o m apos) [] [] pos) X.env = (do
      let v ← eval o X.env
      standAt apos.atName
      let (g, ahead) ← holding [v] (getMethod v m pl)
      callWith pos g ahead (backTo pos (starEach [] X.env)) (backToKw pos (keywordEach [] X.env))) := by rfl) :
    PE X (.Call (.Attribute o m apos) [] [] pos) (tMtG C m sp W ta tNil) := by
  refine ⟨fun pins s σ H Q I h => PySem.W.methodCall_KW (pl := pl) (thn (he.run pins s σ H _ I h) ?_) ht⟩
  rintro u s1 ⟨x, H1, I1, rx, a, dx, fs, rfl, ea, l, q⟩
  obtain rfl : u = Value.ref a := rx
  refine getmeth_ok I1 ea c hm l (PySem.W.callWith_K0 (first := [.ref a]) I1.kIn hm.kp (run_G (us := [.ref a]) (as := [.ref a]) (bs := [.ref a]) F gd hr (hx σ) I1 (fun hl => ?_) (.cons rfl .nil) q))
  have b := hb s1 [.ref a] I1.kIn (by rw [List.append_nil]; exact hl)
  rwa [List.append_nil] at b
end
/-- o.m(..), o one's own: what m promises of o and the rest -/
def dMeth (n : String) (m : Str) (i : Nat) (fs : FS) (t : TL) : TD := fun ε q xq => (∃ ds, ownAt ε i = some (.ob n ds) ∧ ds.lookup m = none) ∧ dCall fs (aCons (dN i) t) ε q xq
theorem x_dMeth (n : String) (m : Str) (i : Nat) (fs : FS) (t : TL) (ε : Env) (q : OQ) (xq : XQ) : dMeth n m i fs t ε q xq = ((∃ ds, ownAt ε i = some (.ob n ds) ∧ ds.lookup m = none) ∧ dCall fs (aCons (dN i) t) ε q xq) := rfl
section
variable {X : Cx} {W : WX} {e : Expr} {t : TL} {fs : FS} {n : String} {m : Str} {i : Nat} {C : Addr}
theorem meth_of {ta : TA} (cn : ClsNm X.K (Str.ofString n) C) (conv : ∀ {G : Gd} {F : Hp} {ε : Env} {q : List Opd → Env → Prop} {xq : XQ} {σ : L2.St} {H : Hp} {R : List V → Hp → Prop}, Iv X.K G F H σ ε → t ε q xq →
      (∀ F' H' vs os ε', Same F F' → Kd ε ε' → Iv X.K G F' H' σ ε' → OsOk X.K F' σ ε' vs os → q os ε' → R vs H') → XE1 X.K W G F σ xq → ta σ H R) (σ : L2.St) (H : Hp) (Q : VK) (h : LE X.K W (dMeth n m i fs t) σ H Q) : tMtG C m (spOf X.K fs) W (tVar i) ta σ H Q := by
  obtain ⟨G, F, ε, q, xq, I, ⟨⟨ds, e1, e2⟩, ht⟩, hq, hx⟩ := h
  obtain ⟨p, ho, g1, g2, g3, g4, g5⟩ := I.o i _ e1
  refine ⟨.ref p, g1, ?_⟩
  cases ho with
  | ins C' dx vs =>
    obtain ⟨c1, c2, c3, c4⟩ := g5
    obtain rfl : C' = C := by
      have := c2.symm.trans cn
      injection this with this
      injection this with this
      injection this
    refine ⟨p, dx, vs, rfl, g4, c4.look_none e2, ?_⟩
    have hd : datAt ε i ≠ none := by
      unfold datAt
      unfold ownAt at e1
      cases z : ε[i]? with
      | none => rw [z] at e1; cases e1
      | some s =>
        rw [z] at e1
        cases s <;> first | (cases e1; done) | (intro y; cases y)
    have ht2 : t ε (fun os ε1 => (ownsOf ε1 (.s i :: os)).Nodup ∧ argsD ε1 (.s i :: os) fun as => fs as (fun d as' => q (.d d) (backs (.s i :: os) as' ε1)) fun e as' => xq e (backs (.s i :: os) as' ε1)) xq := by
      have ht : dN i ε (fun x ε1 => t ε1 (fun xs ε2 => (ownsOf ε2 (x :: xs)).Nodup ∧ argsD ε2 (x :: xs) fun as => fs as (fun d as' => q (.d d) (backs (x :: xs) as' ε2)) fun e as' => xq e (backs (x :: xs) as' ε2)) xq) xq := ht
      unfold dN at ht
      unfold ownAt at e1
      cases z : ε[i]? with
      | none => rw [z] at e1; cases e1
      | some s =>
        rw [z] at e1 ht
        cases s <;> first | (cases e1; done) | exact ht
    refine conv I ht2 (fun F1 H1 vs1 os ε1 s1 k1 I1 r1 ⟨nd, h1⟩ => ?_) hx
    obtain ⟨as, a1, ar, h2⟩ := argsD_ar I1 (.cons (show OpdOk X.K F1 σ ε1 (.ref p) (.s i) from ⟨g1, k1 i hd⟩) r1) h1
    refine ⟨F1, as, _, _, I1.sF, a1, ar.nodup I1 nd, h2, fun F2 H2 v d as' b rv hk => ?_, fun F2 H2 ee cls dx as' b xo hk => ?_⟩
    · obtain ⟨I2, k2⟩ := I1.back ar nd b
      exact hq F2 H2 v (.d d) _ (s1.trans b.s) (k1.trans k2) I2 rv hk
    · obtain ⟨I2, k2⟩ := I1.back ar nd b
      exact hx F2 H2 ee _ cls dx (s1.trans b.s) I2 xo hk
  | _ => exact g5.elim
theorem de_meth (cn : ClsNm X.K (Str.ofString n) C) (h : PE X e (tMtG C m (spOf X.K fs) W (tVar i) (LA X.K W t))) : DE X W e (dMeth n m i fs t) :=
  ⟨PE.conv h fun σ H Q hh => meth_of cn (fun I ht hk hx => ⟨_, _, _, _, _, I, ht, hk, hx⟩) σ H Q hh⟩
theorem de_meth0 (cn : ClsNm X.K (Str.ofString n) C) (h : PE X e (tMtG C m (spOf X.K fs) W (tVar i) tNil)) : DE X W e (dMeth n m i fs aNil) :=
  ⟨PE.conv h fun σ H Q hh => meth_of (t := aNil) cn (fun I ht hk hx => hk _ _ [] [] _ (.refl _) (.refl _) I .nil ht) σ H Q hh⟩
end
end Zd
namespace Zd
open PySem PySem.Spec L2 TL
/-! ### an object of one's own is made: its __init__ is a def that sets fields -/
section
variable {X : Cx} {CX : CXT} {k : Nat} {f C : Addr} {fd : FuncData} {ps : List Str} {sp : Sp} {x : Str} {pos p : Pos} {e : Expr} {es : List Expr} {t : TA}
def tMkG (C : Addr) (sp : Sp) (W : WX) (t : TA) : TE := fun σ H Q => t σ H fun vs H1 => ∀ x dx, H1 x = none → H1 dx = none → dx ≠ x → sp (.ref x :: vs) (upd (upd H1 dx (.own x)) x (.ins C dx [])) (fun v H2 => v = .non ∧ Q (.ref x) H2) (WE W σ)
theorem run_mkG {W : WX} {pins : List (Addr × Obj)} {σ : L2.St} {H : Hp} {s : Shared} {Q : VK} {us : List Value} {vs : List V} (M : Mk X.K C f) (F : FnG X.prog X.w X.K X.mg X.base CX k f fd ps sp) (gd : NoG X.A) (hr : Room (k + 1) X.A) (hb : Binds X.K fd ps [])
    (hx : ∀ σ, PassesAt CX X σ (WE W σ)) (I : L2.Inv X pins σ H s) (r : Vals vs us)
    (h : ∀ x dx, H x = none → H dx = none → dx ≠ x → sp (.ref x :: vs) (upd (upd H dx (.own x)) x (.ins C dx [])) (fun v H2 => v = .non ∧ Q (.ref x) H2) (WE W σ)) :
    wpAny (model X.prog X.w) X.A (call (.ref C) us) (EP X pins σ Q) X.xe s := by
  have hq := h (s.heap.objs.size + 1) s.heap.objs.size (I.hok.fresh (Nat.le_succ _)) (I.hok.fresh (Nat.le_refl _)) (Nat.ne_of_lt (Nat.lt_succ_self _))
  have I2 := Inv.made (C := C) I
  have r2 : Vals (V.ref (s.heap.objs.size + 1) :: vs) (Value.ref (s.heap.objs.size + 1) :: us) := .cons rfl r
  have hl := F.ln hq
  have bd := hb _ (Value.ref (s.heap.objs.size + 1) :: us) I2.kIn (by rw [List.append_nil, ← r2.length]; exact hl)
  rw [List.append_nil] at bd
  refine wpAny_call (make_map (f := f) I.kIn M.makes M.init (beq_iff_eq.mp M.fn) (codeAny_mono (F.go (show NoG _ from gd) (hr.make C us []) (I2.env0.make C us []) bd r2 hq) ?_))
  rintro (e | fl) s' g
  · exact hx σ pins _ _ e s' I2 g
  · cases fl with
    | ret u =>
      obtain ⟨v, H', I3, rv, ev, q3⟩ := I2.after g
      subst ev
      exact ⟨rv, ⟨V.ref (s.heap.objs.size + 1), H', I3, rfl, q3⟩⟩
    | _ => exact g.elim
theorem pe_mkG {W : WX} (M : Mk X.K C f) (F : FnG X.prog X.w X.K X.mg X.base CX k f fd ps sp) (gd : NoG X.A) (hr : Room (k + 1) X.A) (hg : Gl X x) (hm : X.mg x = some (.ref C)) (hb : Binds X.K fd ps []) (hx : ∀ σ, PassesAt CX X σ (WE W σ))
    (ha : PA X (e :: es) t) (hdb : (x == ("__debug__" : Str)) = false := by decide) (he : starEach (e :: es) X.env = (false, eval e X.env) :: starEach es X.env := by rfl) (hpl : (backTo pos (starEach es X.env)).any (·.1) = false := by rfl) :
    PE X (.Call (.Name x p) (e :: es) [] pos) (tMkG C sp W t) := by
  refine ⟨fun pins s σ H Q I h => wpAny_Call_Name_kw (ld_glob I hg hm (PySem.W.callWith_K (h₀ := X.base) I.ok.mod.kin M.kp (thn (ha.run pos pins s σ H _ I h) ?_) he hpl) hdb)⟩
  rintro us s1 ⟨vs, H1, I1, r, q⟩
  exact ⟨I1.kIn, run_mkG M F gd hr hb hx I1 r q⟩
theorem pe_mkG0 {W : WX} (M : Mk X.K C f) (F : FnG X.prog X.w X.K X.mg X.base CX k f fd ps sp) (gd : NoG X.A) (hr : Room (k + 1) X.A) (hg : Gl X x) (hm : X.mg x = some (.ref C)) (hb : Binds X.K fd ps []) (hx : ∀ σ, PassesAt CX X σ (WE W σ))
    (hdb : (x == ("__debug__" : Str)) = false := by decide) : PE X (.Call (.Name x p) [] [] pos) (tMkG C sp W tNil) := by
  refine ⟨fun pins s σ H Q I h => wpAny_Call_Name_kw (ld_glob I hg hm (PySem.W.callWith_K0 I.kIn M.kp (run_mkG (us := []) M F gd hr hb hx I .nil h)) hdb)⟩
end
def dMkO (n : String) (fs : FS) (t : TL) : TN := fun ε q xq => t ε (fun os ε1 => (ownsOf ε1 os).Nodup ∧ argsD ε1 os fun as => fs (.par (.ob n []) :: as) (fun d as' => d = .non ∧ match as' with
    | .par c :: bs => q c (backs os bs ε1)
    | _ => False) fun e as' => match as' with
    | _ :: bs => xq e (backs os bs ε1)
    | [] => False) xq
theorem x_dMkO (n : String) (fs : FS) (t : TL) (ε : Env) (q : OC → Env → Prop) (xq : XQ) : dMkO n fs t ε q xq = (t ε (fun os ε1 => (ownsOf ε1 os).Nodup ∧ argsD ε1 os fun as => fs (.par (.ob n []) :: as) (fun d as' => d = .non ∧ match as' with
    | .par c :: bs => q c (backs os bs ε1)
    | _ => False) fun e as' => match as' with
    | _ :: bs => xq e (backs os bs ε1)
    | [] => False) xq) := rfl
section
variable {K : PySem.W.Frag} {F H H' : Hp}
theorem AsOk.up (k : ∀ p o, H p = some o → H' p = some o) : ∀ {vs : List V} {as : List Sl}, AsOk K F H vs as → AsOk K F H' vs as
  | _, _, .nil => .nil
  | _, _, .d r t => .d r (AsOk.up k t)
  | _, _, .par a b c t => .par a (k _ _ b) c (AsOk.up k t)
theorem pars_there {vs : List V} {as : List Sl} {p : Addr} (a : AsOk K F H vs as) : p ∈ pars vs as → H p ≠ none := by
  induction a with
  | nil => intro h; cases h
  | d r t ih =>
    rename_i v x vs as
    intro h
    have h : p ∈ pars vs as := by cases v <;> exact h
    exact ih h
  | par a b c t ih =>
    intro h
    rcases List.mem_cons.mp h with z | z
    · rw [z, b]; simp
    · exact ih z
end
section
variable {X : Cx} {W : WX} {e : Expr} {t : TL} {fs : FS} {n : String} {C : Addr}
theorem dn_mkO {te : TA} (c : Cls X.K C) (cn : ClsNm X.K (Str.ofString n) C) (h : PE X e (tMkG C (spOf X.K fs) W te)) (conv : ∀ {G : Gd} {F : Hp} {ε : Env} {q : List Opd → Env → Prop} {xq : XQ} {σ : L2.St} {H : Hp} {R : List V → Hp → Prop}, Iv X.K G F H σ ε → t ε q xq →
      (∀ F' H' vs os ε', Same F F' → Kd ε ε' → Iv X.K G F' H' σ ε' → OsOk X.K F' σ ε' vs os → q os ε' → R vs H') → XE1 X.K W G F σ xq → te σ H R) : DN X W e (dMkO n fs t) := by
  refine ⟨PE.conv h fun σ H Q ⟨G, F, ε, q, xq, I, ht, hq, hx⟩ => ?_⟩
  refine conv I ht (fun F1 H1 vs os ε1 s1 k1 I1 r1 ⟨nd, h1⟩ => ?_) hx
  intro x dx hx0 hdx hne
  obtain ⟨as, a1, ar, h2⟩ := argsD_ar I1 r1 h1
  have up : ∀ p o, H1 p = some o → upd (upd H1 dx (.own x)) x (.ins C dx []) p = some o := fun p o z => by
    rw [upd_ne (ne_of_none z hx0), upd_ne (ne_of_none z hdx)]; exact z
  have hF : F1 x = none := I1.sF.free hx0
  have nx : x ∉ pars vs as := fun z => pars_there a1 z hx0
  refine ⟨F1, .par (.ob n []) :: as, _, _, fun p o z => up p o (I1.sF p o z), .par hF upd_same (show OcOk X.K F1 (.ins C dx []) (.ob n []) from ⟨c, cn, (fun p hp => by cases hp), .nil⟩) (a1.up up), ?_, h2, fun F2 H2 v d as' b rv hk => ?_, fun F2 H2 ee cls dx' as' b xo hk => ?_⟩
  · exact List.nodup_cons.mpr ⟨nx, ar.nodup I1 nd⟩
  · obtain ⟨bs, c', ho, e1, e2, e3, e4, e5⟩ : ∃ bs c' ho, as' = .par c' :: bs ∧ F2 x = none ∧ H2 x = some ho ∧ OcOk X.K F2 ho c' ∧ AsBk X.K F2 H2 vs as bs := by
      have := b.bk
      cases this with
      | par f1 f2 f3 f4 => exact ⟨_, _, _, rfl, f1, f2, f3, f4⟩
    subst e1
    obtain ⟨rfl, hk⟩ := hk
    cases rv
    refine ⟨rfl, ?_⟩
    have b2 : Back X.K F1 H1 vs as F2 H2 bs := ⟨b.s, b.sF, fun p o z hp => b.keep p o (up p o z) (fun y => by
      rcases List.mem_cons.mp y with y | y
      · rw [y, hx0] at z; cases z
      · exact hp y), fun p z hz => b.fr p (fun y => by
      cases w : H1 p with
      | none => exact z w
      | some o => rw [up p o w] at y; cases y) hz, e5⟩
    obtain ⟨I2, k2⟩ := I1.back ar nd b2
    refine hq F2 H2 x ho c' _ (s1.trans b.s) (k1.trans k2) I2 e3 e2 ?_ (fun i hi => ?_) e4 hk
    · cases z : G.H0 x with
      | none => rfl
      | some o => rw [I1.sH x o z] at hx0; cases hx0
    · cases z : ownAt (backs os bs ε1) i with
      | none => rfl
      | some c2 =>
        have z2 : ownAt ε1 i ≠ none := own_backs ar b2.bk (fun _ h => h) (by rw [z]; simp)
        cases z3 : ownAt ε1 i with
        | none => exact absurd z3 z2
        | some c3 =>
          obtain ⟨p', ho', m1, _, _, m4, _⟩ := I1.o i c3 z3
          rw [hi] at m1
          cases m1
          rw [hx0] at m4
          cases m4
  · obtain ⟨bs, c', ho, e1, e2, e3, e4, e5⟩ : ∃ bs c' ho, as' = .par c' :: bs ∧ F2 x = none ∧ H2 x = some ho ∧ OcOk X.K F2 ho c' ∧ AsBk X.K F2 H2 vs as bs := by
      have := b.bk
      cases this with
      | par f1 f2 f3 f4 => exact ⟨_, _, _, rfl, f1, f2, f3, f4⟩
    subst e1
    have b2 : Back X.K F1 H1 vs as F2 H2 bs := ⟨b.s, b.sF, fun p o z hp => b.keep p o (up p o z) (fun y => by
      rcases List.mem_cons.mp y with y | y
      · rw [y, hx0] at z; cases z
      · exact hp y), fun p z hz => b.fr p (fun y => by
      cases w : H1 p with
      | none => exact z w
      | some o => rw [up p o w] at y; cases y) hz, e5⟩
    obtain ⟨I2, k2⟩ := I1.back ar nd b2
    exact hx F2 H2 ee _ cls dx' (s1.trans b.s) I2 xo hk
theorem dn_mk (c : Cls X.K C) (cn : ClsNm X.K (Str.ofString n) C) (h : PE X e (tMkG C (spOf X.K fs) W (LA X.K W t))) : DN X W e (dMkO n fs t) :=
  dn_mkO c cn h fun I ht hk hx => ⟨_, _, _, _, _, I, ht, hk, hx⟩
theorem dn_mk0 (c : Cls X.K C) (cn : ClsNm X.K (Str.ofString n) C) (h : PE X e (tMkG C (spOf X.K fs) W tNil)) : DN X W e (dMkO n fs aNil) :=
  dn_mkO c cn h fun I ht hk hx => hk _ _ [] [] _ (.refl _) (.refl _) I .nil ht
end
end Zd
set_option maxHeartbeats 2000000
namespace Zd
open PySem PySem.Spec PySem.Calls PyProof.Rows L2 TL
open PySem.W (KitX kitOne kitCls kit_cls)
section
variable {K : PySem.W.Frag} {x t : Value} {J : Heap → Prop} {T : String} {P : Program} {w : World} {A : Around} {s : Shared}
/-- a class that isn't x's is asked for: behind the no a token is out -/
theorem no_token (Z : KitX K x t J) (e : kitOne K t (.type T) = some false) (k : K.In s.heap) (j : J s.heap) {dep : Int} {tk : Tok} {Q : Fin → Shared → Prop} {E : Value → Shared → Prop}
    (fin : Q (.done (.ret (.bool false))) { s with toks := s.toks + 1 }) :
    wpAny (model P w) A (Builtin.«isinstance.nested» ⟨[x, .type T, .int dep tk], []⟩) Q E s := by
  have no : ¬ (t == Value.type T) = true := fun z => by
    unfold kitOne at e
    rw [if_pos z] at e
    cases e
  have cl : kitCls K t (.type T) = some false := by
    unfold kitOne at e
    rwa [if_neg no] at e
  have kc := kit_cls (M := model P w) k cl
  have ty := Z.ty (model P w) s.heap k j
  have it := Z.it (model P w) s.heap k j
  have sb : PySem.W.Looks (model P w) s.heap (isInstance x (.type T)) false := ty.andThen (f := fun a => isSubtype a (.type T)) kc.2.2
  have same : ∀ b o, s.heap.get? b = some o → s.heap.get? b = some o := fun _ _ h => h
  unfold Builtin.«isinstance.nested»
  refine wpAny_bind (ty _ _ _ _ same ?_)
  rw [if_neg no]
  refine wpAny_bind (kc.1 _ _ _ _ same ?_)
  rw [show (Value.type "type" == Value.type "type") = true from by decide, if_pos rfl]
  refine wpAny_bind ?_
  k_delta "plainIsInstance"
  refine wpAny_bind (kc.2.1 _ _ _ _ same ?_)
  rw [if_neg (by decide)]
  refine wpAny_bind (sb _ _ _ _ same ?_)
  rw [if_neg (by decide)]
  refine wpAny_bind (Z.ca k j ?_)
  refine wpAny_bind (it _ _ _ _ same ?_)
  rw [if_neg (by decide)]
  exact wpAny_bind (wpAny_rule (kc.2.2 _ _ _ _ same (wpAny_pure fin)))
end

/-! ### behind a test that says no, a token is out -/
section
variable {X : Cx}
/-- isinstance(x, T), T a built-in type: the answer, and the tokens -/
theorem isi_tok {pins : List (Addr × Obj)} {s : Shared} {σ : L2.St} {H : Hp} {x : V} {u t : Value} {n : String} {b : Bool} (I : Inv X pins σ H s) (r : RelV x u) (ty : TyX X.K H x t) (e : kitOne X.K t (.type n) = some b)
    {Q : Value → Shared → Prop} (h : ∀ tk, (b = false → 1 ≤ tk) → Q (.bool b) { s with toks := tk }) : wpAny (model X.prog X.w) X.A (call (.builtin "isinstance") [u, .type n]) Q X.xe s := by
  obtain ⟨P, Z, p, hx⟩ := kit_of I r ty
  cases b with
  | true => exact PySem.W.kia_one Z I.kIn p e hx fun tk => h tk fun z => by cases z
  | false =>
    exact call_isinstance (S := fun _ R s' => (X.K.In s'.heap ∧ P s'.heap) ∧ R (.ok (.ret (.bool false))) { s' with toks := s'.toks + 1 })
      (fun _ _ _ _ _ hs => isinstance_outer (no_token Z e hs.1.1 hs.1.2 hs.2) hx) ⟨⟨I.kIn, p⟩, h _ fun _ => by omega⟩
structure DTN (X : Cx) (W : WX) (c : Expr) (A : TB) : Prop where
  run : ∀ (pins : List (Addr × Obj)) (s : Shared) (σ : L2.St) (H : Hp) (Q : Bool → Hp → Prop), Inv X pins σ H s → LT X.K W A σ H Q →
    wpAny (model X.prog X.w) X.A (isTrue c X.env (eval c X.env)) (fun b s' => TP X pins σ Q b s' ∧ (b = false → 1 ≤ s'.toks)) X.xe s
variable {W : WX} {a c : Expr} {ta : TD} {A : TB}
theorem dtn_isT {T : Str} {p p2 pos : Pos} {n : String} (ha : DE X W a ta) (hg : Gl X "isinstance") (hm : X.mg "isinstance" = none) (hT : PE X (.Name T p2) (tC (.ty n)))
    (hs : starEach [a, .Name T p2] X.env = (false, eval a X.env) :: starEach [.Name T p2] X.env := by rfl) (hs2 : starEach [.Name T p2] X.env = (false, eval (.Name T p2) X.env) :: starEach [] X.env := by rfl)
    (hpl : (backTo pos (starEach [.Name T p2] X.env)).any (·.1) = false := by rfl) : DTN X W (.Call (.Name "isinstance" p) [a, .Name T p2] [] pos) (bTru (dIsi n ta)) := by
  refine ⟨fun pins s σ H Q I0 ⟨G, F, ε, q, xq, I, ht, hq, hx⟩ => ?_⟩
  refine isTrue_plain (wpAny_Call_Name_kw (ld_blt I0 hg hm boot_isinstance ?_ (by decide) (by decide))) rfl
  refine callWith_builtin1 (thn ((pa_cons ha.pe (pa_cons hT pa_nil hs2) hs).run pos pins s σ H (fun vs H1 => ∃ v t b, vs = [v, .ty n] ∧ TyX X.K H1 v (.type t) ∧ kitOne X.K (.type t) (.type n) = some b ∧ Q b H1) I0 ?_) fun us s1 ⟨vs, H1, I1, r1, v, t, b, e1, ty, e2, hk⟩ => ?_) hs hpl
  · refine ⟨G, F, ε, _, xq, I, ht, fun F1 H1 v o ε1 s1 k1 I1 r1 h1 => ?_, hx⟩
    have rb := r1.b I1
    generalize o.get ε1 = y at rb h1
    unfold fIsi at h1
    cases e1 : tyD y with
    | none => rw [e1] at h1; exact h1.elim
    | some t =>
      rw [e1] at h1
      cases e2 : kitB t n with
      | none => simp only [e2] at h1
      | some b =>
        simp only [e2] at h1
        exact ⟨v, t, b, rfl, ty_of I1.sF rb e1, kit_ty e2, hq F1 H1 b ε1 s1 k1 I1 h1⟩
  · subst e1
    obtain ⟨u1, u2, rfl, r2, r3⟩ := vals2 r1
    cases (show u2 = Value.type n from r3)
    exact isi_tok I1 r2 ty e2 fun tk h => wpAny_pure ⟨⟨H1, I1.tok tk, hk⟩, h⟩
end

/-! ### statements and things that want a token -/
structure DET (X : Cx) (W : WX) (e : Expr) (t : TD) : Prop where
  pe : PET X e (LE X.K W t)
structure DST (X : Cx) (W : WX) (st : Stmt) (t : TSd) : Prop where
  ps : PST X st (LS X.K W t)
structure DSsT (X : Cx) (W : WX) (st : List Stmt) (t : TSd) : Prop where
  pss : PSsT X st (LS X.K W t)
theorem PET.conv {X : Cx} {e : Expr} {t t' : TE} (h : PET X e t) (c : ∀ σ H Q, t' σ H Q → t σ H Q) : PET X e t' := fun pins s σ H Q h0 I q => h pins s σ H Q h0 I (c σ H Q q)
theorem PST.conv {X : Cx} {e : Stmt} {t t' : TS} (h : PST X e t) (c : ∀ D σ H, t' D σ H → t D σ H) : PST X e t' := fun pins s σ H D h0 I q => h pins s σ H D h0 I (c D σ H q)
theorem PSsT.conv {X : Cx} {e : List Stmt} {t t' : TS} (h : PSsT X e t) (c : ∀ D σ H, t' D σ H → t D σ H) : PSsT X e t' := fun pins s σ H D h0 I q => h pins s σ H D h0 I (c D σ H q)
section
variable {X : Cx} {W : WX} {a b c e o : Expr} {ta tb te to : TD} {A : TB} {st : Stmt} {rest x y : List Stmt} {t u v : TSd} {pos rp apos c0 c1 : Pos}
theorem det_of (h : DE X W a ta) : DET X W a ta := ⟨CwR.PET.of h.pe⟩
theorem dst_of (h : DS X W st t) : DST X W st t := ⟨.of h.ps⟩
theorem dsst_of (h : DSs X W x t) : DSsT X W x t := ⟨.of h.pss⟩
theorem dsst_cons (h1 : DST X W st t) (h2 : DSsT X W rest u) : DSsT X W (st :: rest) (sSeq t u) := by
  refine ⟨PSsT.conv (psst_cons h1.ps h2.pss) fun De σ H ⟨G, F, ε, Dn, I, ht, ok⟩ => ?_⟩
  exact ⟨G, F, ε, { Dn with nx := fun ε' => u Dn ε' }, I, ht, fun F1 H1 σ1 ε1 s I1 h => ⟨G, F1, ε1, Dn, I1, h, ok.mono s⟩, ok.rt, ok.bk, ok.ct, ok.xq, ok.ro⟩
theorem dsst_one (h1 : DST X W st t) : DSsT X W [st] t := ⟨CwR.psst_one h1.ps⟩
theorem dst_if (hc : DT X W c A) (ha : DSsT X W x t) (hb : DSsT X W y u) : DST X W (.If c x y pos) (sIf A t u) := by
  refine ⟨PST.conv (CwR.pst_if hc.pt ha.pss hb.pss) fun De σ H ⟨G, F, ε, Dn, I, ht, ok⟩ => ?_⟩
  refine ⟨G, F, ε, _, _, I, ht, fun F1 H1 b ε1 s1 k1 I1 h1 => ?_, ok.x⟩
  cases b with
  | true => exact ⟨G, F1, ε1, Dn, I1, h1, ok.mono s1⟩
  | false => exact ⟨G, F1, ε1, Dn, I1, h1, ok.mono s1⟩
theorem dst_ret (h : DET X W a ta) : DST X W (.Return (some a) pos) (sRet ta) := by
  refine ⟨PST.conv (CwR.pst_ret h.pe) fun De σ H ⟨G, F, ε, Dn, I, ht, ok⟩ => ?_⟩
  refine ⟨G, F, ε, _, _, I, ht, fun F1 H1 v o ε1 s1 k1 I1 r1 h1 => ?_, ok.x⟩
  obtain ⟨F2, x, ε2, s2, _, I2, r2, h2⟩ := fz_of I1 r1.w h1
  exact ok.rt F2 H1 σ ε2 v x (s1.trans s2) I2 r2 h2
theorem dst_set {i : Nat} {n : Str} {p : Pos} (h : DET X W a ta) (hN : X.N.Nodup) (hi : X.N[i]? = some n) (hx : L2.Loc X.env.scope n) (hs : swapsWith a (some (.Name n p)) pos.line X.env = pure false := by rfl)
    (hf : X.fn n = true ∨ X.env.scope.names.lookup n = some .local := by first | exact .inl rfl | exact .inr rfl) : DST X W (.Assign [.Name n p] a pos) (sAsg ta (gN i)) := by
  refine ⟨fun pins s σ H D h0 I0 ⟨G, F, ε, Dn, I, ht, ok⟩ => ?_⟩
  refine wpAny_Assign_Name (thn (h.pe pins s σ H (fun v H1 => D.nx (σ.set i (some v)) H1) h0 I0 ?_) fun v s1 ⟨y, H1, I1, r1, q1⟩ => ?_) hs
  · refine ⟨G, F, ε, _, _, I, ht, fun F1 H1 v o ε1 s1 k1 I1 r1 h1 => ?_, ok.x⟩
    obtain ⟨F2, y, ε2, s2, _, I2, r2, np, h2⟩ := fz_of I1 r1.w h1
    exact ok.nx F2 H1 _ _ (s1.trans s2) (I2.setd np r2) h2
  · exact store_ok I1 hN hi hx r1 (fun s2 I2 => ⟨_, H1, I2, q1⟩) hf
/-- if c: return a -/
theorem dss_ifN (hc : DTN X W c A) (ha : DE X W a ta) (hr : DSsT X W rest v) : DSs X W (.If c [.Return (some a) rp] [] pos :: rest) (sSeq (sIf A (sRet ta) sNil) v) := by
  refine ⟨⟨fun pins s σ H D I0 ⟨G, F, ε, Dn, I, ht, ok⟩ => ?_⟩⟩
  refine wpAny_execs_cons (wpAny_If (thn (hc.run pins s σ H (fun b H1 => if b = true then LE X.K W ta σ H1 D.rt else LS X.K W v D σ H1) I0 ?_) fun b s1 ⟨⟨H1, I1, q1⟩, tk⟩ => ?_))
  · refine ⟨G, F, ε, _, _, I, ht, fun F1 H1 b ε1 s1 k1 I1 h1 => ?_, ok.x⟩
    cases b with
    | true =>
      refine ⟨G, F1, ε1, _, _, I1, h1, fun F2 H2 v o ε2 s2 k2 I2 r2 h2 => ?_, (ok.mono s1).x⟩
      obtain ⟨F3, z, ε3, s3, _, I3, r3, h3⟩ := fz_of I2 r2.w h2
      exact ok.rt F3 H2 σ ε3 v z ((s1.trans s2).trans s3) I3 r3 h3
    | false => exact ⟨G, F1, ε1, Dn, I1, h1, ok.mono s1⟩
  · cases b with
    | true => exact wpAny_execs_cons (wpAny_Return_some (thn (ha.pe.run pins s1 σ H1 _ I1 q1) fun w s2 ⟨z, H2, I2, r2, q2⟩ => ⟨z, σ, H2, I2, r2, q2⟩))
    | false => exact wpAny_execs_nil (hr.pss pins s1 σ H1 D (tk rfl) I1 q1)
theorem det_op {op : Operator} {dop : D → D → (D → Prop) → Prop} (ho : D2 X (binaryOp op) dop) (ha : DET X W a ta) (hb : DET X W b tb) : DET X W (.BinOp a op b pos) (dBin dop ta tb) :=
  ⟨PET.conv (CwR.pet_op ho.h ha.pe hb.pe) (conv2 ho.hr)⟩
/-- text.replace(y, z), both written -/
def dRepl (to : TD) (y z : List Nat) : TD := fun ε q xq => to ε (fun o ε1 => match o.get ε1 with
  | .str x => x.length + (x.length + 1) * z.length ≤ 16777216 ∧ q (.d (.str (PySem.StrLaws.replL y z x))) ε1
  | _ => False) xq
theorem x_dRepl (to : TD) (y z : List Nat) (ε : Env) (q : OQ) (xq : XQ) : dRepl to y z ε q xq = to ε (fun o ε1 => match o.get ε1 with
  | .str x => x.length + (x.length + 1) * z.length ≤ 16777216 ∧ q (.d (.str (PySem.StrLaws.replL y z x))) ε1
  | _ => False) xq := rfl
theorem repl_mem {y z : List Nat} {c : Nat} : ∀ (l : List Nat) (k : Nat), c ∈ PySem.StrLaws.replS y z k l → c ∈ l ∨ c ∈ z
  | [], _, h => by rw [PySem.StrLaws.replS] at h; cases h
  | d :: r, k + 1, h => by
    rw [PySem.StrLaws.replS] at h
    exact (repl_mem r k h).imp (List.mem_cons_of_mem _) id
  | d :: r, 0, h => by
    rw [PySem.StrLaws.replS] at h
    split at h
    · rcases List.mem_append.mp h with h | h
      · exact .inr h
      · exact (repl_mem r _ h).imp (List.mem_cons_of_mem _) id
    · rcases List.mem_cons.mp h with h | h
      · exact .inl (h ▸ List.mem_cons_self)
      · exact (repl_mem r 0 h).imp (List.mem_cons_of_mem _) id
theorem repl_conv {y z : List Nat} (hy : 1 ≤ y.length) (hz : Asc z) : ∀ σ H Q, LE X.K W (dRepl to y z) σ H Q → CwR.tReplC (LE X.K W to) (mk y) (mk z) σ H Q := fun σ H Q ⟨G, F, ε, q, xq, I, ht, hq, hx⟩ => by
  refine ⟨G, F, ε, _, xq, I, ht, fun F1 H1 v o ε1 s1 k1 I1 r1 h1 => ?_, hx⟩
  have rb := r1.b I1
  generalize o.get ε1 = d at rb h1
  cases d with
  | str x =>
    have ⟨e, ax⟩ := rb.str_
    refine ⟨mk x, e, by rw [mk_len, mk_len]; exact h1.1, ?_⟩
    have el : Txt.replace (mk x) (mk y) (mk z) = mk (PySem.StrLaws.replL y z x) := by
      have := PySem.StrLaws.replace_list (x := mk x) (y := mk y) (z := mk z) (by rw [mk_len]; exact hy)
      generalize Txt.replace (mk x) (mk y) (mk z) = r at this
      cases r
      exact congrArg Str.mk (Array.ext' this)
    rw [el]
    exact hq F1 H1 _ (.d (.str _)) ε1 s1 k1 I1 (Rp.str _ fun c hc => (repl_mem x 0 hc).elim (ax c) (hz c)) h1.2
  | _ => exact h1.elim
theorem det_repl {y z : List Nat} {y0 z0 : Str} {j k : Nat} (ho : DE X W o to) (hy0 : y0 = mk y := by rfl) (hz0 : z0 = mk z := by rfl) (hy : 1 ≤ y.length := by decide) (hz : z.all (· < 128) = true := by decide) (hyz : (y0 == z0) = false := by decide)
    (hst : starEach [.Constant (.str y0) j c0, .Constant (.str z0) k c1] X.env = [(false, eval (.Constant (.str y0) j c0) X.env), (false, eval (.Constant (.str z0) k c1) X.env)] := by rfl)
    (hbase : attributeBase o "replace" X.env (eval o X.env) = eval o X.env := by rfl) (hline : (apos.endLine == pos.line) = true := by rfl) :
    DET X W (.Call (.Attribute o "replace" apos) [.Constant (.str y0) j c0, .Constant (.str z0) k c1] [] pos) (dRepl to y z) := by
  subst hy0 hz0
  exact ⟨PET.conv (CwR.pet_replC ho.pe hyz hst hbase hline) (repl_conv hy fun c hc => by simpa using List.all_eq_true.mp hz c hc)⟩
theorem det_replT {y z : List Nat} {y0 z0 : Str} {j k : Nat} (ho : DET X W o to) (hy0 : y0 = mk y := by rfl) (hz0 : z0 = mk z := by rfl) (hy : 1 ≤ y.length := by decide) (hz : z.all (· < 128) = true := by decide) (hyz : (y0 == z0) = false := by decide)
    (hst : starEach [.Constant (.str y0) j c0, .Constant (.str z0) k c1] X.env = [(false, eval (.Constant (.str y0) j c0) X.env), (false, eval (.Constant (.str z0) k c1) X.env)] := by rfl)
    (hbase : attributeBase o "replace" X.env (eval o X.env) = eval o X.env := by rfl) (hline : (apos.endLine == pos.line) = true := by rfl) :
    DET X W (.Call (.Attribute o "replace" apos) [.Constant (.str y0) j c0, .Constant (.str z0) k c1] [] pos) (dRepl to y z) := by
  subst hy0 hz0
  exact ⟨PET.conv (CwR.pet_replT ho.pe hyz hst hbase hline) (repl_conv hy fun c hc => by simpa using List.all_eq_true.mp hz c hc)⟩
end
end Zd
set_option maxHeartbeats 2000000
namespace Zd
open PySem PySem.Spec PySem.Calls PyProof.Rows L2 TL

/-! ### {'a': 'b', ..}: a dict of written texts -/
abbrev txPairs (cs : List (List Nat × List Nat)) : List (TE × TE) := cs.map fun p => (tC (.str (mk p.1)), tC (.str (mk p.2)))
def dsD (cs : List (List Nat × List Nat)) : List (KD × D) := mergeD [] (cs.map fun p => (.s p.1, .str p.2))
theorem tp_texts {σ : L2.St} {H : Hp} : ∀ (cs : List (List Nat × List Nat)) (Q : List (V × V) → Hp → Prop), Q (cs.map fun p => (V.str (mk p.1), V.str (mk p.2))) H → tPairs (txPairs cs) σ H Q
  | [], _, h => h
  | _ :: r, _, h => tp_texts r _ h
theorem rd_texts {K : PySem.W.Frag} {F : Hp} : ∀ cs : List (List Nat × List Nat), (cs.all fun p => p.2.all (· < 128)) = true → RpD K F (cs.map fun p => (KD.k (.s p.1), V.str (mk p.2))) (cs.map fun p => (KD.s p.1, D.str p.2))
  | [], _ => .nil
  | c :: r, ha => by
    have h2 := Bool.and_eq_true_iff.mp (by rw [← List.all_cons]; exact ha)
    exact .cons (k := .s c.1) (Rp.str c.2 fun z hz => by simpa using List.all_eq_true.mp h2.1 z hz) (rd_texts r h2.2)
section
variable {X : Cx} {W : WX} {pos : Pos} {keys : List (Option Expr)} {values : List Expr}
theorem de_dicS (cs : List (List Nat × List Nat)) (h : PPs X pos keys values (txPairs cs)) (ha : (cs.all fun p => p.2.all (· < 128)) = true) (hall : keys.all (·.isSome) = true := by rfl) (hl : keys.length = values.length := by rfl) (h0 : keys ≠ [] := by simp)
    (h15 : keys.length ≤ 15 := by decide) (hc : cs.length ≤ 15 := by decide) : DE X W (.Dict keys values pos) (dC (.dic (dsD cs))) := by
  refine ⟨PE.conv (pe_disp h hall hl h0 h15) fun σ H Q ⟨G, F, ε, q, xq, I, ht, hq, hx⟩ p hp => ?_⟩
  refine tp_texts cs _ ⟨upd_same, cs.map fun p => (KD.k (.s p.1), V.str (mk p.2)), by rw [List.map_map]; rfl, by rw [List.length_map]; exact hc, ?_⟩
  rw [upd_upd]
  have A := AL.new (o := .dK (mergeK [] (cs.map fun p => (KD.k (.s p.1), V.str (mk p.2))))) I.sF hp
  refine hq _ _ _ (.d (.dic (dsD cs))) ε A.sF (.refl _) (I.al A) (Rp.dic upd_same (RpD.mergeD (rd_texts cs ha) .nil)) ht
end

/-! ### dict.get(key, else) -/
def lookD (kvs : List (KD × D)) (k : KD) : Option D := (kvs.find? fun kv => decide (kv.1 = k)).map (·.2)
theorem rd_look {K : PySem.W.Frag} {F : Hp} (k : KD) : ∀ {vs : List (Key × V)} {xs : List (KD × D)}, RpD K F vs xs → (valV vs k.k = none ∧ lookD xs k = none) ∨ ∃ v d, valV vs k.k = some v ∧ lookD xs k = some d ∧ Rp K F v d
  | _, _, .nil => .inl ⟨rfl, rfl⟩
  | _, _, @RpD.cons _ _ k2 v x vs xs h t => by
    unfold valV lookD
    by_cases e : k2 = k
    · right
      refine ⟨v, x, ?_, ?_, h⟩
      · rw [List.find?_cons_of_pos (by simp [e])]; rfl
      · rw [List.find?_cons_of_pos (by simp [e])]; rfl
    · rw [List.find?_cons_of_neg (by simp [kd_inj, e]), List.find?_cons_of_neg (by simp [e])]
      exact rd_look k t
def isDc (x : D) : Prop := match x with
  | .dic _ => True
  | _ => False
def fGet2 (x : D) (ys : List D) (q : D → Prop) : Prop := match x, ys with
  | .dic kvs, [y, d] => match keyOfD y with
    | some k => q ((lookD kvs k).getD d)
    | none => False
  | _, _ => False
def dGet2 (to : TD) (t : TL) : TD := fun ε q xq => to ε (fun x ε1 => isDc (x.get ε1) ∧ t ε1 (fun os ε2 => plainOs ε2 os ∧ fGet2 (x.get ε2) (os.map (Opd.get ε2)) fun z => q (.d z) ε2) xq) xq
theorem x_dGet2 {to : TD} {t : TL} {ε : Env} {q : OQ} {xq : XQ} : dGet2 to t ε q xq = to ε (fun x ε1 => isDc (x.get ε1) ∧ t ε1 (fun os ε2 => plainOs ε2 os ∧ fGet2 (x.get ε2) (os.map (Opd.get ε2)) fun z => q (.d z) ε2) xq) xq := rfl
def rGet2 (x : V) (xs : List V) (H : Hp) (Q : VK) : Prop := ∃ (a : Addr) (kvs : List (Key × V)) (k : Key) (d : V), x = .ref a ∧ xs = [kV k, d] ∧ H a = some (.dK kvs) ∧ Q ((valV kvs k).getD d) H
section
variable {X : Cx} {W : WX} {o e f : Expr} {to : TD} {t : TL} {apos pos : Pos}
theorem mt_get2 : MtR X "dict.get" rGet2 := by
  rintro pins s σ H _ _ v us Q I rx rs ⟨a, kvs, k, d, rfl, rfl, ha, q⟩
  obtain ⟨u1, u2, rfl, r1, r2⟩ := vals2 rs
  cases (show v = Value.ref a from rx)
  obtain ⟨_, low, vs, rel, dd⟩ := dk_of I.hok ha
  refine call_meetsIn PySem.F.slot_dict_get dd.typeIs PySem.F.entry_dict_get (PySem.F.args_dict_get_3 _ _ _) (meets_dict_get_default (mixKind X.prog X.w) a (kV_is r1) low u2) ⟨_, dd.mapOf, ⟨_, H, I.tok _, ?_, q⟩⟩
  exact (rel.val k).getD r2
theorem de_get2 (h : PE X (.Call (.Attribute o "get" apos) [e, f] [] pos) (tBM X.K "dict" rGet2 (LE X.K W to) (LA X.K W t))) : DE X W (.Call (.Attribute o "get" apos) [e, f] [] pos) (dGet2 to t) := by
  refine ⟨PE.conv h fun σ H Q ⟨G, F, ε, q, xq, I, ht, hq, hx⟩ => ?_⟩
  refine ⟨G, F, ε, _, xq, I, ht, fun F1 H1 v o1 ε1 s1 k1 I1 r1 ⟨hs, h1⟩ => ?_, hx⟩
  have rb := r1.b I1
  refine ⟨?_, G, F1, ε1, _, xq, I1, h1, fun F2 H2 vs os ε2 s2 k2 I2 r2 ⟨pl, h2⟩ => ?_, hx.mono s1⟩
  · generalize o1.get ε1 = y at rb hs
    cases y with
    | dic c =>
      obtain ⟨a, vs, rfl, e, _⟩ := rb.dic_ I1.sF
      exact .inr (.inr (.inl ⟨rfl, .inl ⟨vs, e⟩⟩))
    | _ => exact hs.elim
  · have rx := (r1.mono s2 k2).b I2
    have rs := r2.plain I2 pl
    generalize o1.get ε2 = x at rx h2
    generalize os.map (Opd.get ε2) = ys at rs h2
    unfold fGet2 at h2
    split at h2
    · rename_i kvs y d
      cases rs with
      | @cons vy _ _ _ ry rs =>
        cases rs with
        | @cons vd _ _ _ rd rs =>
          cases rs
          obtain ⟨a, vs, rfl, ea, rel⟩ := rx.dic_ I2.sF
          have fin : ∀ (k : KD), vy = kV k.k → q (.d ((lookD kvs k).getD d)) ε2 → rGet2 (.ref a) [vy, vd] H2 Q := fun k ek hk => by
            refine ⟨a, vs, k.k, vd, rfl, by rw [ek], ea, ?_⟩
            rcases rd_look k rel with ⟨e1, e2⟩ | ⟨w, z, e1, e2, rw'⟩
            · rw [e1]
              rw [e2] at hk
              exact hq F2 H2 vd (.d d) ε2 (s1.trans s2) (k1.trans k2) I2 rd hk
            · rw [e1]
              rw [e2] at hk
              exact hq F2 H2 w (.d z) ε2 (s1.trans s2) (k1.trans k2) I2 rw' hk
          cases y with
          | int i => exact fin (.i i) (by cases ry; rfl) h2
          | str c => exact fin (.s c) (by cases ry; rfl) h2
          | _ => exact h2.elim
    · exact h2.elim
end

/-! ### str(i), i of either sign -/
def intL (i : Int) : List Nat := tl (Str.ofString (toString i))
theorem intL_len {i : Int} (h : i.natAbs < 10 ^ 12) : (intL i).length ≤ 13 := by
  have := PyData.shown_int_le h
  show (Str.ofString (toString i)).cps.toList.length ≤ 13
  rw [Array.length_toList]
  exact this
def fStrI (x : D) (q : D → Prop) : Prop := match x with
  | .int i => i.natAbs < 1000000000000 ∧ q (.str (intL i))
  | _ => False
section
variable {X : Cx}
def strIR : DC X (.type "str") (d1 fStrI) where
  r := _
  h := call_str_int
  hr := fun F H vs xs q Q S rs hd hQ => by
    obtain ⟨x, rfl, hd⟩ := d1_ hd
    obtain ⟨v, rfl, rx⟩ := rs.one
    cases x with
    | int i =>
      have e : ((toString i : String) : Str) = mk (intL i) := rfl
      refine ⟨i, by rw [rx.int_], Nat.lt_trans (log_small hd.1) (by decide), ?_⟩
      rw [e]
      exact hQ F H _ _ (al_id S) (.str _ (asc_int i)) hd.2
    | _ => exact hd.elim
end
end Zd
set_option maxHeartbeats 2000000
namespace Zd
open PySem PySem.Spec L2 TL PyProof.Rows

/-! ### try: .. except C: .. (no name) -/
/-- the suite of the clause runs with what was caught forgotten -/
def sTryO (tb su : TSd) (tab : List (Str × Bool)) : TSd := fun Dn ε => tb { Dn with xq := fun e ε1 => match tab.lookup e.cls with
  | some true => su Dn ε1
  | some false => Dn.xq e ε1
  | none => False } ε
/-- the body never raises -/
def sTryN (tb : TSd) : TSd := fun Dn ε => tb { Dn with xq := fun _ _ => False } ε
theorem x_sTryN (tb : TSd) (Dn : DEnds) (ε : Env) : sTryN tb Dn ε = tb { Dn with xq := fun _ _ => False } ε := rfl
section
variable {X : Cx} {W : WX} {x : Str} {c : Value} {body suite : List Stmt} {b0 : Stmt} {np pos pos' : Pos} {tb su : TSd} {tab : List (Str × Bool)}
theorem ds_tryN (hs : X.stack = X.env :: X.outer) (hf : X.env.frame = some X.env.locals) (hc : Names X x c) (tk : Takes X W)
    (hb : ∀ (V : WX) (pn : List (Addr × Obj)) (xe : Value → Shared → Prop), Takes (X.tr pn xe) V → PassesOwn (model X.prog X.w) X.A X.env xe → DSs (X.tr pn xe) V body tb) :
    DS X W (.Try body [.ExceptHandler (some (.Name x np)) none (b0 :: suite) pos'] [] [] pos) (sTryN tb) := by
  refine ⟨PS.conv (ps_try_only (tb := fun V => LS X.K V tb) (ts := fun _ _ _ => tNever) hs hf hc tk (fun V pn xe t po => (hb V pn xe t po).pss) fun _ _ _ _ _ _ _ => pss_never) fun De σ H ⟨G, F, ε, Dn, I, ht, ok⟩ => ?_⟩
  exact ⟨G, F, ε, { Dn with xq := fun _ _ => False }, I, ht, ok.nx, ok.rt, ok.bk, ok.ct, fun _ _ _ _ _ _ _ _ _ _ h => h.elim, ok.ro⟩
theorem ds_tryO (hs : X.stack = X.env :: X.outer) (hf : X.env.frame = some X.env.locals) (hc : Names X x c) (tk : Takes X W) (hm : ExM X.K tab c)
    (hb : ∀ (V : WX) (pn : List (Addr × Obj)) (xe : Value → Shared → Prop), Takes (X.tr pn xe) V → PassesOwn (model X.prog X.w) X.A X.env xe → DSs (X.tr pn xe) V body tb)
    (hsu : ∀ (a : Addr) (oe : Obj) (cls : Value) (d : Option Addr) (pn : List (Addr × Obj)), Zc cls d oe → (∃ vs, oe.data = .fields vs) → DSs (X.suite a ((a, oe) :: pn)) W (b0 :: suite) su) :
    DS X W (.Try body [.ExceptHandler (some (.Name x np)) none (b0 :: suite) pos'] [] [] pos) (sTryO tb su tab) := by
  refine ⟨PS.conv (ps_try_only (tb := fun V => LS X.K V tb) (ts := fun _ _ _ => LS X.K W su) hs hf hc tk (fun V pn xe t po => (hb V pn xe t po).pss) fun a oe cls d pn z h => (hsu a oe cls d pn z h).pss) fun De σ H ⟨G, F, ε, Dn, I, ht, ok⟩ => ?_⟩
  refine ⟨G, F, ε, _, I, ht, ok.nx, ok.rt, ok.bk, ok.ct, fun F1 H1 σ1 ε1 e cls d s1 I1 xo h1 => ?_, ok.ro⟩
  obtain ⟨C, nm, rfl, xf⟩ := id xo
  cases hl : tab.lookup e.cls with
  | none => simp only [hl] at h1
  | some b =>
    refine ⟨b, hm e.cls b C hl nm, fun e1 a na => ?_, fun e1 => ?_⟩
    · subst e1
      simp only [hl] at h1
      exact ⟨G, F1, ε1, Dn, I1, h1, ok.mono s1⟩
    · subst e1
      simp only [hl] at h1
      exact ok.xq F1 H1 σ1 ε1 e _ d s1 I1 xo h1
end
end Zd
set_option maxHeartbeats 2000000
namespace Zd
open PySem PySem.Spec L2 TL PyProof.Rows

/-! ### a dict of the module, of texts to texts -/
structure KTx (K : PySem.W.Frag) (w : World) (p : Addr) (tbl : List (List Nat × List Nat)) : Prop where
  dk : ∃ es n, KDict K w p es n
  go : ∀ c v, tbl.lookup c = some v → (∃ u, PySem.W.nsIn K p (mk c) = some (some u) ∧ RelV (.str (mk v)) u) ∧ Asc v
theorem KTx.nil {K : PySem.W.Frag} {w : World} {p : Addr} {es : Array DictEntry} {n : Nat} (hl : K.lookup p = some ⟨.type "dict", none, .dict es n, #[]⟩) (hk : PySem.W.KeysLit w.params es.toList) (low : (p == sysModules) = false) : KTx K w p [] :=
  ⟨⟨es, n, hl, hk, low⟩, fun _ _ h => by cases h⟩
theorem KTx.cons {K : PySem.W.Frag} {w : World} {p : Addr} {k v : List Nat} {x : Str} {u : Value} {tbl : List (List Nat × List Nat)} (hx : x = Zd.mk k) (e : PySem.W.nsIn K p x = some (some u)) (r : RelV (.str (Zd.mk v)) u) (ha : Asc v) (T : KTx K w p tbl) :
    KTx K w p ((k, v) :: tbl) := by
  refine ⟨T.dk, fun c y h => ?_⟩
  rw [List.lookup_cons] at h
  split at h
  · rename_i hc
    have hc : c = k := by simpa using hc
    subst hc
    cases h
    exact ⟨⟨u, by rw [← hx]; exact e, r⟩, ha⟩
  · exact T.go c y h
def kxAt (tbl : List (List Nat × List Nat)) (x : D) (q : D → Prop) : Prop := match x with
  | .str c => match tbl.lookup c with
    | some v => q (.str v)
    | none => False
  | _ => False
def dKx (tbl : List (List Nat × List Nat)) (tb : TD) : TD := fun ε q xq => tb ε (fun o ε1 => kxAt tbl (o.get ε1) fun z => q (.d z) ε1) xq
theorem x_dKx {tbl : List (List Nat × List Nat)} {tb : TD} {ε : Env} {q : OQ} {xq : XQ} : dKx tbl tb ε q xq = tb ε (fun o ε1 => kxAt tbl (o.get ε1) fun z => q (.d z) ε1) xq := rfl
/-- a text that is a key, asked for -/
def kxIn (tbl : List (List Nat × List Nat)) (x : D) (q : Prop) : Prop := match x with
  | .str c => (tbl.lookup c).isSome = true ∧ q
  | _ => False
def bKx (tbl : List (List Nat × List Nat)) (b : Bool) (tb : TD) : TB := fun ε q xq => tb ε (fun o ε1 => kxIn tbl (o.get ε1) (q b ε1)) xq
theorem x_bKx {tbl : List (List Nat × List Nat)} {b : Bool} {tb : TD} {ε : Env} {q : Bool → Env → Prop} {xq : XQ} : bKx tbl b tb ε q xq = tb ε (fun o ε1 => kxIn tbl (o.get ε1) (q b ε1)) xq := rfl
section
variable {X : Cx} {W : WX} {b : Expr} {tb : TD} {pos : Pos}
theorem de_kx {x : Str} {pn : Pos} {p : Addr} {tbl : List (List Nat × List Nat)} (h : X.mg x = some (.ref p) ∧ KTx X.K X.w p tbl) (hg : Gl X x) (hb : DE X W b tb) (hs : PlainIx b := by exact fun _ _ => rfl) (hd : (x == ("__debug__" : Str)) = false := by decide) :
    DE X W (.Subscript (.Name x pn) b pos) (dKx tbl tb) := by
  refine ⟨PE.conv (pe_ix ix_kdict (pe_glob (v := .ref p) hg h.1 rfl hd) hb.pe hs) fun σ H Q ⟨G, F, ε, q, xq, I, ht, hq, hx⟩ => ?_⟩
  refine ⟨G, F, ε, _, xq, I, ht, fun F1 H1 v o ε1 s1 k1 I1 r1 h1 => ?_, hx⟩
  have rb := r1.b I1
  generalize o.get ε1 = y at rb h1
  cases y with
  | str c =>
    have h1 : (match tbl.lookup c with | some ws => q (.d (.str ws)) ε1 | none => False) := h1
    cases e : tbl.lookup c with
    | none => rw [e] at h1; exact h1.elim
    | some v =>
      rw [e] at h1
      obtain ⟨⟨u, hu, ru⟩, ha⟩ := h.2.go c v e
      obtain ⟨es, n, kd⟩ := h.2.dk
      exact ⟨p, mk c, .str (mk v), rfl, rb.str_.1, ⟨es, n, u, kd.at_, kd.lit, hu, ru⟩, hq F1 H1 _ (.d (.str v)) ε1 s1 k1 I1 (.str _ ha) h1⟩
  | _ => exact h1.elim
theorem kx_there {K : PySem.W.Frag} {w : World} {p : Addr} {tbl : List (List Nat × List Nat)} (h : KTx K w p tbl) {c : List Nat} (e : (tbl.lookup c).isSome = true) : ∃ u, PySem.W.nsIn K p (mk c) = some (some u) := by
  obtain ⟨v, hv⟩ := Option.isSome_iff_exists.mp e
  obtain ⟨⟨u, hu, _⟩, _⟩ := h.go c v hv
  exact ⟨u, hu⟩
theorem dt_inkx {x : Str} {pn : Pos} {p : Addr} {tbl : List (List Nat × List Nat)} (h : X.mg x = some (.ref p) ∧ KTx X.K X.w p tbl) (hg : Gl X x) (hb : DE X W b tb) (hd : (x == ("__debug__" : Str)) = false := by decide)
    (hm : behindInMarks .In (.Name x pn) = false := by rfl) : DT X W (.Compare b [.In] [.Name x pn] pos) (bKx tbl true tb) := by
  obtain ⟨es, n, kd⟩ := id h.2.dk
  refine ⟨PT.conv (pt_cmpR (op_in_kd kd) hb.pe (pe_glob (v := .ref p) hg h.1 rfl hd) hm) fun σ H Q ⟨G, F, ε, q, xq, I, ht, hq, hx⟩ => ?_⟩
  refine ⟨G, F, ε, _, xq, I, ht, fun F1 H1 v o ε1 s1 k1 I1 r1 h1 => ?_, hx⟩
  have rb := r1.b I1
  generalize o.get ε1 = y at rb h1
  cases y with
  | str c =>
    obtain ⟨u, hu⟩ := kx_there h.2 h1.1
    exact ⟨mk c, some u, rb.str_.1, rfl, hu, true, rfl, hq F1 H1 true ε1 s1 k1 I1 h1.2⟩
  | _ => exact h1.elim
theorem dt_notInkx {x : Str} {pn : Pos} {p : Addr} {tbl : List (List Nat × List Nat)} (h : X.mg x = some (.ref p) ∧ KTx X.K X.w p tbl) (hg : Gl X x) (hb : DE X W b tb) (hd : (x == ("__debug__" : Str)) = false := by decide)
    (hm : behindInMarks .NotIn (.Name x pn) = false := by rfl) : DT X W (.Compare b [.NotIn] [.Name x pn] pos) (bKx tbl false tb) := by
  obtain ⟨es, n, kd⟩ := id h.2.dk
  refine ⟨PT.conv (pt_cmpR (op_notIn_kd kd) hb.pe (pe_glob (v := .ref p) hg h.1 rfl hd) hm) fun σ H Q ⟨G, F, ε, q, xq, I, ht, hq, hx⟩ => ?_⟩
  refine ⟨G, F, ε, _, xq, I, ht, fun F1 H1 v o ε1 s1 k1 I1 r1 h1 => ?_, hx⟩
  have rb := r1.b I1
  generalize o.get ε1 = y at rb h1
  cases y with
  | str c =>
    obtain ⟨u, hu⟩ := kx_there h.2 h1.1
    exact ⟨mk c, some u, rb.str_.1, rfl, hu, false, rfl, hq F1 H1 false ε1 s1 k1 I1 h1.2⟩
  | _ => exact h1.elim
end

section
variable {X : Cx} {W : WX} {x : Str} {body suite : List Stmt} {b0 : Stmt} {np pos pos' : Pos} {tb : TSd}
theorem ds_tryN2 (hs : X.stack = X.env :: X.outer) (hf : X.env.frame = some X.env.locals) (hm : ∃ C, X.mg x = some (.ref C)) (hg : Gl X x) (tk : Takes X W)
    (hb : ∀ (V : WX) (pn : List (Addr × Obj)) (xe : Value → Shared → Prop), Takes (X.tr pn xe) V → PassesOwn (model X.prog X.w) X.A X.env xe → DSs (X.tr pn xe) V body tb) (hdb : (x == ("__debug__" : Str)) = false := by decide) :
    DS X W (.Try body [.ExceptHandler (some (.Name x np)) none (b0 :: suite) pos'] [] [] pos) (sTryN tb) := by
  obtain ⟨C, g⟩ := hm
  exact ds_tryN hs hf (c := .ref C) ⟨hg, hdb, .inl g⟩ tk hb
end

/-! ### int(text) -/
def fIntS (x : D) (q : D → Prop) : Prop := match x with
  | .str t => t.length ≤ 640 ∧ ∃ n, PySem.intText? (mk t) = some n ∧ q (.int n)
  | _ => False
section
variable {X : Cx}
def intSR : DC X (.type "int") (d1 fIntS) where
  r := _
  h := call_int_str
  hr := fun F H vs xs q Q S rs hd hQ => by
    obtain ⟨x, rfl, hd⟩ := d1_ hd
    obtain ⟨v, rfl, rx⟩ := rs.one
    cases x with
    | str t =>
      obtain ⟨h1, n, h2, h3⟩ := hd
      exact ⟨mk t, n, by rw [rx.str_.1], h2, by rw [mk_len]; exact h1, hQ F H _ _ (al_id S) (.int _) h3⟩
    | _ => exact hd.elim
end
end Zd
set_option maxHeartbeats 4000000
namespace Zd
open PySem PySem.Spec L2 PyProof.Rows TL

/-! ### t * 1 is t itself, t * 0 is () -/
theorem mul_self (l : Addr) (items : Array Value) (n : Nat) (dd : Option Addr) (sl : Array (Option Value)) (u : Tok) :
    Meets (Builtin.«tuple.__mul__» ⟨[.ref l, .int 1 u], []⟩) (fun _ R s => s.heap.get? l = some { cls := .type "tuple", dict := dd, data := .seq items n, slots := sl } ∧ R (.ok (.ret (Value.ref l))) s) :=
  .of_wp fun prog w A R s h => by
    obtain ⟨hp, g, d, tk, os⟩ := s
    obtain ⟨at_, h⟩ := h
    have ix := AutoSeq1.idx_int
    have one : (items.isEmpty || (1 : Int) == 1) = true := by simp
    wp_walk using wpAny_loadPart' at_
    repeat (first
      | (refine wpAny_ite_false (by decide) ?_; wp_walk using wpAny_loadPart' at_)
      | (refine wpAny_ite_true (by first | exact decide_eq_true one | exact one | simp) ?_; wp_walk using wpAny_loadPart' at_))
    exact ⟨_, rfl, h⟩
theorem mul_nil (l : Addr) (items : Array Value) (hi : items.isEmpty = false) (n : Nat) (dd : Option Addr) (sl : Array (Option Value)) (u : Tok) :
    Meets (Builtin.«tuple.__mul__» ⟨[.ref l, .int 0 u], []⟩) (fun _ R s => s.heap.get? l = some { cls := .type "tuple", dict := dd, data := .seq items n, slots := sl } ∧
      R (.ok (.ret (Value.ref s.heap.objs.size))) { s with heap := s.heap.push { cls := Value.type "tuple", data := Data.seq #[] }, toks := s.toks }) :=
  .of_wp fun prog w A R s h => by
    obtain ⟨hp, g, d, tk, os⟩ := s
    obtain ⟨at_, h⟩ := h
    have ix := AutoSeq1.idx_int
    have no : (items.isEmpty || (0 : Int) == 1) = false := by rw [hi]; rfl
    wp_walk using wpAny_loadPart' at_
    repeat (first
      | (refine wpAny_ite_false (by first | decide | exact decide_eq_false (by rw [no]; exact Bool.false_ne_true)) ?_; wp_walk using wpAny_loadPart' at_)
      | (refine wpAny_ite_true (by first | rfl | simp) ?_; wp_walk using wpAny_loadPart' at_))
    exact ⟨_, rfl, h⟩
section
variable {X : Cx}
def rRep01 (K : PySem.W.Frag) : R2 := fun x y H Q => ∃ l k xs, x = .ref l ∧ y = .int k ∧ SqT K H l xs ∧ ((k = 1 ∧ Q (.ref l) H) ∨ (k = 0 ∧ xs = [] ∧ Q (.ref l) H) ∨ (k = 0 ∧ xs ≠ [] ∧ ∀ p, H p = none → Q (.ref p) (upd H p (.tup []))))
theorem op_rep01 : OpR X (binaryOp .Mult) (rRep01 X.K) := by
  intro pn sh σ H x y v u Q I rx ry h
  obtain ⟨l, k, xs, rfl, rfl, hT, q⟩ := h
  cases rx
  obtain ⟨t, rfl⟩ := ry
  obtain ⟨its, r, ⟨⟨cls, dd, data, sl⟩, ho, hc, n, hd⟩, hs⟩ := I.tuple hT
  cases hc
  cases hd
  refine wpAny_binaryOp_repeat_ref (T := "tuple") (U := "int") (by decide) ⟨_, ho, rfl⟩ (fun s' => typeIs_int s' k t) noFill_tuple_mul F.fills_int_mul F.slot_int_rmul repeat_tuple F.slot_int_index.lookup
    (call_meets F.slot_int_rmul (typeIs_int sh k t) F.entry_int_rmul (F.args_int_rmul_2 _ _) (int_rmul_tuple k t l its.toArray n dd sl) ⟨ho, rfl, ⟨_, ho, rfl⟩, ?_⟩)
  rcases q with ⟨rfl, q⟩ | ⟨rfl, e0, q⟩ | ⟨rfl, ne, q⟩
  · exact call_meets F.slot_tuple_mul ⟨_, ho, rfl⟩ F.entry_tuple_mul (F.args_tuple_mul_2 _ _) (mul_self l its.toArray n dd sl t) ⟨ho, ⟨.ref l, H, I, rfl, q⟩⟩
  · subst e0
    cases r
    exact call_meets F.slot_tuple_mul ⟨_, ho, rfl⟩ F.entry_tuple_mul (F.args_tuple_mul_2 _ _) (mul_none l n dd sl 0 t (by decide)) ⟨ho, ⟨.ref l, H, I, rfl, q⟩⟩
  · have hi : its.toArray.isEmpty = false := by
      cases r with
      | nil => exact absurd rfl ne
      | cons _ _ => rfl
    refine call_meets F.slot_tuple_mul ⟨_, ho, rfl⟩ F.entry_tuple_mul (F.args_tuple_mul_2 _ _) (mul_nil l its.toArray hi n dd sl t) ⟨ho, ?_⟩
    refine ⟨.ref sh.heap.objs.size, _, I.laid (t' := sh.toks) (o := .tup []) (fun b ob q => Heap.get?_push_of_some _ q) (Nat.le_refl _) ?_, rfl, q _ (I.hok.fresh (Nat.le_refl _))⟩
    exact ⟨Nat.zero_le _, [], .nil, IsTup.new _ _⟩
def dMulB : D → D → (D → Prop) → Prop
  | .tup xs, .int k, q => 0 ≤ k ∧ k ≤ 1000 ∧ xs.length ≤ 1000 ∧ q (.tup (List.replicate k.toNat xs).flatten)
  | x, y, q => dMulA x y q
def mulRB : D2 X (binaryOp .Mult) dMulB where
  r := _
  h := OpR.or mulRA.h op_rep01
  hr := fun F H v w x y q Q S rx ry hd hQ => by
    have old : dMulA x y q → mulRA.r v w H Q := fun z => mulRA.hr F H v w x y q Q S rx ry z hQ
    cases x <;> cases y <;> try exact .inl (old hd)
    rename_i xs k
    obtain ⟨a1, a2, a3, hd⟩ : 0 ≤ k ∧ k ≤ 1000 ∧ xs.length ≤ 1000 ∧ q (.tup (List.replicate k.toNat xs).flatten) := hd
    by_cases h2 : 2 ≤ k
    · exact .inl (old ⟨h2, a2, a3, hd⟩)
    obtain ⟨p, vs, e1, h0, h1, r1⟩ := rx.tup_ S
    rcases (show k = 1 ∨ k = 0 by omega) with rfl | rfl
    · have e : (List.replicate (Int.toNat 1) xs).flatten = xs := by simp
      rw [e] at hd
      exact .inr ⟨p, 1, vs, e1, ry.int_, h1, .inl ⟨rfl, hQ F H _ _ (al_id S) (.tup h0 r1) hd⟩⟩
    · have e : (List.replicate (Int.toNat 0) xs).flatten = [] := by simp
      rw [e] at hd
      refine .inr ⟨p, 0, vs, e1, ry.int_, h1, .inr ?_⟩
      by_cases hn : vs = []
      · refine .inl ⟨rfl, hn, ?_⟩
        rw [hn] at r1 h0
        cases r1
        exact hQ F H _ _ (al_id S) (.tup h0 .nil) hd
      · refine .inr ⟨rfl, hn, fun a ha => ?_⟩
        have A := AL.new (o := .tup []) S ha
        exact hQ _ _ _ _ A (.tup (.inl upd_same) .nil) hd
end
end Zd
set_option maxHeartbeats 2000000
namespace Zd
open PySem PySem.Spec L2 TL

/-! ### a list of one's own, lent to a def that tells something plain -/
def leafD (x : D) : Prop := match x with
  | .non => True
  | .bl _ => True
  | .int _ => True
  | .str _ => True
  | _ => False
theorem leaf_any {K : PySem.W.Frag} {F F' : Hp} {v : V} {x : D} (h : leafD x) (r : Rp K F v x) : Rp K F' v x := by
  cases x with
  | non => cases r; exact .non
  | bl b => cases r; exact .bl b
  | int i => cases r; exact .int i
  | str c => cases r with | str _ a => exact .str c a
  | _ => exact h.elim
def dCallL (i : Nat) (fs : FS) : TD := fun ε q xq => match ε[i]? with
  | some (.own (.lst xs)) => fs [.d (.lst xs)] (fun d _ => leafD d ∧ q (.d d) ε) fun _ _ => False
  | _ => False
theorem x_dCallL (i : Nat) (fs : FS) (ε : Env) (q : OQ) (xq : XQ) : dCallL i fs ε q xq = (match ε[i]? with
  | some (.own (.lst xs)) => fs [.d (.lst xs)] (fun d _ => leafD d ∧ q (.d d) ε) fun _ _ => False
  | _ => False) := rfl
section
variable {X : Cx} {W : WX} {e : Expr} {i : Nat} {fs : FS}
theorem de_callL (h : PE X e (tCall (spOf X.K fs) [] E0 (tCons (tVar i) tNil))) : DE X W e (dCallL i fs) := by
  refine ⟨PE.conv h fun σ H Q ⟨G, F, ε, q, xq, I, ht, hq, hx⟩ => ?_⟩
  unfold dCallL at ht
  split at ht
  · rename_i xs ei
    obtain ⟨p, ho, h1, h2, h3, h4, h5⟩ := I.o i (.lst xs) (by unfold ownAt; rw [ei]; rfl)
    cases ho with
    | lst vs =>
      have hr : RpL X.K F vs xs := h5
      have S : Same F (upd F p (.lst vs)) := Same.new h3
      refine ⟨.ref p, h1, upd F p (.lst vs), [.d (.lst xs)], _, _, fun b o eb => ?_, .d (Rp.lst upd_same (hr.mono S)) .nil, List.nodup_nil, ht, fun F2 H2 v d as' b rv ⟨lf, hk⟩ => ?_, fun _ _ _ _ _ _ _ _ hk => hk.elim⟩
      · by_cases eb2 : b = p
        · subst eb2
          rw [upd_same] at eb
          cases eb
          exact h4
        · rw [upd_ne eb2] at eb
          exact I.sF b o eb
      · have SH : Same H H2 := fun b' o eb => b.keep b' o eb (by simp [pars])
        have A : AL F H F H2 := ⟨.refl _, SH, I.sF.trans SH, fun _ _ z => z⟩
        exact hq F H2 v (.d d) ε (.refl _) (.refl _) (I.al A) (leaf_any lf rv) hk
    | _ => exact h5.elim
  · exact ht.elim
end
end Zd
namespace Zn
open TL
/-! ### texts cut at each stroke -/
def parts : List Nat → List (List Nat)
  | [] => [[]]
  | c :: r => if c = 47 then [] :: parts r else match parts r with
    | p :: ps => (c :: p) :: ps
    | [] => [[c]]
theorem parts_ne : ∀ s, parts s ≠ []
  | [] => by simp [parts]
  | c :: r => by
    unfold parts
    split
    · simp
    · split <;> simp
theorem parts_cons {c : Nat} {r : List Nat} (h : c ≠ 47) : ∃ p ps, parts r = p :: ps ∧ parts (c :: r) = (c :: p) :: ps := by
  cases e : parts r with
  | nil => exact absurd e (parts_ne r)
  | cons p ps =>
    refine ⟨p, ps, rfl, ?_⟩
    rw [parts, if_neg h, e]
theorem pre47 {c : Nat} {r : List Nat} : pre [47] (c :: r) = decide (c = 47) := by
  unfold pre
  by_cases h : c = 47 <;> simp [h]
theorem spl_parts : ∀ (s acc : List Nat), ∃ p ps, parts s = p :: ps ∧ spl [47] 0 acc s = (acc ++ p) :: ps
  | [], acc => ⟨[], [], rfl, by rw [spl_nil]; simp⟩
  | c :: r, acc => by
    by_cases h : c = 47
    · subst h
      obtain ⟨p, ps, e1, e2⟩ := spl_parts r []
      refine ⟨[], parts r, by rw [parts, if_pos rfl], ?_⟩
      rw [spl_hit (by rw [pre47]; simp)]
      simp only [List.length_singleton, Nat.sub_self, List.append_nil]
      rw [e2, e1]
      rfl
    · obtain ⟨p, ps, e1, e2⟩ := parts_cons (r := r) h
      obtain ⟨p', ps', e3, e4⟩ := spl_parts r (acc ++ [c])
      rw [e1] at e3
      cases e3
      refine ⟨c :: p, ps, e2, ?_⟩
      rw [spl_miss (by rw [pre47]; simpa using h), e4]
      simp
theorem spl_eq (s : List Nat) : spl [47] 0 [] s = parts s := by
  obtain ⟨p, ps, e1, e2⟩ := spl_parts s []
  rw [e2, e1]
  rfl
theorem par_parts : ∀ (s acc : List Nat), par [47] acc s = match parts s with
    | p :: q :: ps => some (acc ++ p, joinL [47] (q :: ps))
    | _ => none := by
  intro s
  induction s with
  | nil => intro acc; rfl
  | cons c r ih =>
    intro acc
    by_cases h : c = 47
    · subst h
      rw [par_hit (by rw [pre47]; simp), parts, if_pos rfl]
      cases e : parts r with
      | nil => exact absurd e (parts_ne r)
      | cons p ps =>
        have : joinL [47] (p :: ps) = r := by
          rw [← e]
          clear ih e
          induction r with
          | nil => rfl
          | cons c r ih =>
            by_cases h : c = 47
            · subst h
              rw [parts, if_pos rfl]
              cases e : parts r with
              | nil => exact absurd e (parts_ne r)
              | cons p ps => rw [e] at ih; simp [joinL, ih]
            · obtain ⟨p, ps, e1, e2⟩ := parts_cons (r := r) h
              rw [e2]
              rw [e1] at ih
              cases ps with
              | nil => simp [joinL] at *; exact ih
              | cons q ps => simp [joinL] at *; exact ih
        simp [this]
    · obtain ⟨p, ps, e1, e2⟩ := parts_cons (r := r) h
      rw [par_miss (by rw [pre47]; simpa using h), ih, e1, e2]
      cases ps <;> simp
theorem join_parts (s : List Nat) : joinL [47] (parts s) = s := by
  induction s with
  | nil => rfl
  | cons c r ih =>
    by_cases h : c = 47
    · subst h
      rw [parts, if_pos rfl]
      cases e : parts r with
      | nil => exact absurd e (parts_ne r)
      | cons p ps => rw [e] at ih; simp [joinL, ih]
    · obtain ⟨p, ps, e1, e2⟩ := parts_cons (r := r) h
      rw [e2]
      rw [e1] at ih
      cases ps with
      | nil => simp [joinL] at *; exact ih
      | cons q ps => simp [joinL] at *; exact ih
theorem parts_app : ∀ a b : List Nat, parts (a ++ 47 :: b) = parts a ++ parts b
  | [], b => by simp [parts]
  | c :: r, b => by
    have ih := parts_app r b
    by_cases h : c = 47
    · subst h
      simp [parts, ih]
    · obtain ⟨p, ps, e1, e2⟩ := parts_cons (r := r) h
      obtain ⟨p', ps', e3, e4⟩ := parts_cons (r := r ++ 47 :: b) h
      rw [ih, e1] at e3
      cases e3
      rw [List.cons_append, e4, e2]
      rfl
theorem parts_free : ∀ {a : List Nat}, 47 ∉ a → parts a = [a]
  | [], _ => rfl
  | c :: r, h => by
    have h1 : c ≠ 47 := fun e => h (by simp [e])
    have ih := parts_free (a := r) fun e => h (by simp [e])
    rw [parts, if_neg h1, ih]
theorem parts_join : ∀ {ps : List (List Nat)} (r : List Nat), (∀ p ∈ ps, 47 ∉ p) → parts (joinL [47] (ps ++ [r])) = ps ++ parts r
  | [], r, _ => rfl
  | [p], r, h => by
    show parts (p ++ ([47] ++ r)) = _
    rw [List.singleton_append, parts_app, parts_free (h p List.mem_cons_self)]
  | p :: q :: ps, r, h => by
    have ih := parts_join (ps := q :: ps) r fun x hx => h x (List.mem_cons_of_mem _ hx)
    show parts (p ++ ([47] ++ joinL [47] ((q :: ps) ++ [r]))) = _
    rw [List.singleton_append, parts_app, parts_free (h p List.mem_cons_self), ih]
    rfl
theorem parts_free_all {s : List Nat} : ∀ p ∈ parts s, 47 ∉ p := by
  induction s with
  | nil => simp [parts]
  | cons c r ih =>
    by_cases h : c = 47
    · subst h
      intro p hp
      rw [parts, if_pos rfl] at hp
      rcases List.mem_cons.mp hp with e | hp
      · rw [e]; simp
      · exact ih p hp
    · obtain ⟨p, ps, e1, e2⟩ := parts_cons (r := r) h
      rw [e1] at ih
      rw [e2]
      intro x hx
      rcases List.mem_cons.mp hx with e | hx
      · rw [e]
        intro hm
        rcases List.mem_cons.mp hm with e | hm
        · exact h e.symm
        · exact ih p List.mem_cons_self hm
      · exact ih x (List.mem_cons_of_mem _ hx)
/-! ### names, places -/
def small : List Nat := [97, 98, 99, 100, 101, 102, 103, 104, 105, 106, 107, 108, 109, 110, 111, 112, 113, 114, 115, 116, 117, 118, 119, 120, 121, 122, 48, 49, 50, 51, 52, 53, 54, 55, 56, 57]
def nameOk (p : List Nat) : Bool := decide (1 ≤ p.length ∧ p.length ≤ 8) && p.all fun c => decide (c ∈ small)
def addr (s : List Nat) : Bool := match parts s with
  | h :: n :: ns => nameOk h && (decide (n :: ns = [[]]) || (decide (ns.length ≤ 2) && (n :: ns).all nameOk))
  | _ => false
def below (h : List Nat) (folder : List (List Nat)) (rest : List Nat) : Option (List Nat) :=
  let found := h ++ (47 :: joinL [47] (if rest ≠ [] then folder ++ [rest] else folder))
  if addr found = true then some found else none
def led (a s : List Nat) : Option (List Nat) := if addr s = true then some s else match parts a with
  | [] => none
  | h :: names => if pre [47] s = true then below h [] (s.drop 1)
    else if pre [46, 47] s = true then below h names.dropLast (s.drop 2)
    else if pre [46, 46, 47] s = true ∧ 1 < names.length then below h names.dropLast.dropLast (s.drop 3) else none
def below2 (h : List Nat) (ahead : List (List Nat)) (behind : List Nat) : Option (List Nat) :=
  let more := if behind ≠ [] then parts behind else []
  if (more.filter fun p => !nameOk p) ≠ [] ∨ 3 < (ahead ++ more).length then none else some (h ++ (47 :: joinL [47] (ahead ++ more)))
def led2 (a s : List Nat) : Option (List Nat) := if addr s = true then some s else match parts a with
  | [] => none
  | h :: names0 => let names := names0.filter fun p => decide (p ≠ [])
    if pre [47] s = true then below2 h [] (s.drop 1)
    else if pre [46, 47] s = true then below2 h names.dropLast (s.drop 2)
    else if pre [46, 46, 47] s = true ∧ 1 < names.length then below2 h names.dropLast.dropLast (s.drop 3) else none
theorem nameOk_free {p : List Nat} (h : nameOk p = true) : 47 ∉ p ∧ p ≠ [] := by
  unfold nameOk at h
  simp at h
  refine ⟨fun hm => ?_, fun e => ?_⟩
  · have := h.2 47 hm
    exact absurd this (by decide)
  · subst e
    simp at h
theorem below_eq {h : List Nat} {fo : List (List Nat)} {rest : List Nat} (hh : nameOk h = true) (hf : ∀ p ∈ fo, nameOk p = true) (hl : fo.length ≤ 3) : below h fo rest = below2 h fo rest := by
  have hp : ∀ b : List Nat, parts (h ++ 47 :: b) = h :: parts b := fun b => by rw [parts_app, parts_free (nameOk_free hh).1]; rfl
  by_cases hr : rest = []
  · subst hr
    have ha : addr (h ++ 47 :: joinL [47] fo) = true := by
      unfold addr
      rw [hp]
      cases fo with
      | nil => simp [joinL, parts, hh]
      | cons p ps =>
        have e : parts (joinL [47] (p :: ps)) = p :: ps := by
          have hne : (p :: ps) ≠ [] := by simp
          rw [← List.dropLast_concat_getLast hne]
          rw [parts_join _ fun x hx => (nameOk_free (hf x (List.dropLast_subset _ hx))).1, parts_free (nameOk_free (hf _ (List.getLast_mem hne))).1]
        rw [e]
        simp [hh]
        refine .inr ⟨by simpa using hl, hf p List.mem_cons_self, fun x hx => hf x (List.mem_cons_of_mem _ hx)⟩
    have e1 : below h fo [] = if addr (h ++ 47 :: joinL [47] fo) = true then some (h ++ 47 :: joinL [47] fo) else none := by simp [below]
    have e2 : below2 h fo [] = if 3 < fo.length then none else some (h ++ 47 :: joinL [47] fo) := by simp [below2]
    rw [e1, e2, if_pos ha, if_neg (by omega)]
  · simp only [below, below2]
    rw [if_pos hr, if_pos hr]
    have e : parts (joinL [47] (fo ++ [rest])) = fo ++ parts rest := parts_join _ fun x hx => (nameOk_free (hf x hx)).1
    have ej : joinL [47] (fo ++ parts rest) = joinL [47] (fo ++ [rest]) := by
      rw [← e, join_parts]
    rw [ej]
    have hne : fo ++ parts rest ≠ [[]] := by
      intro z
      cases fo with
      | nil =>
        have : joinL [47] (parts rest) = joinL [47] [[]] := by rw [show parts rest = [[]] from z]
        rw [join_parts] at this
        exact hr this
      | cons p ps =>
        have hpp := hf p List.mem_cons_self
        have : p = [] := by
          have := congrArg List.head? z
          simpa using this
        exact (nameOk_free hpp).2 this
    have ha : addr (h ++ 47 :: joinL [47] (fo ++ [rest])) = (decide ((fo ++ parts rest).length ≤ 3) && (fo ++ parts rest).all nameOk) := by
      unfold addr
      rw [hp, e]
      cases e2 : fo ++ parts rest with
      | nil => exact absurd (List.append_eq_nil_iff.mp e2).2 (parts_ne _)
      | cons n ns =>
        rw [e2] at hne
        simp [hh, hne]
    rw [ha]
    by_cases h1 : (parts rest).all nameOk = true
    · have h2 : (parts rest).filter (fun p => !nameOk p) = [] := by
        rw [List.filter_eq_nil_iff]
        intro x hx
        simp [List.all_eq_true.mp h1 x hx]
      have h3 : (fo ++ parts rest).all nameOk = true := by
        rw [List.all_append, h1]
        simp
        exact hf
      rw [h2, h3]
      simp only [Bool.and_true, decide_eq_true_eq, ne_eq, not_true_eq_false, false_or]
      by_cases h4 : (fo ++ parts rest).length ≤ 3
      · rw [if_pos h4, if_neg (by omega)]
      · rw [if_neg h4, if_pos (by omega)]
    · have h2 : (parts rest).filter (fun p => !nameOk p) ≠ [] := by
        intro z
        rw [List.filter_eq_nil_iff] at z
        exact h1 (List.all_eq_true.mpr fun x hx => by simpa using z x hx)
      have h3 : (fo ++ parts rest).all nameOk = false := by
        rw [List.all_append]
        simp [h1]
      rw [h3, Bool.and_false, if_neg (by decide), if_pos (Or.inl h2)]
theorem addr_parts {a : List Nat} (h : addr a = true) : ∃ p names, parts a = p :: names ∧ nameOk p = true ∧ ((names = [[]]) ∨ (names ≠ [] ∧ names.length ≤ 3 ∧ ∀ x ∈ names, nameOk x = true)) := by
  unfold addr at h
  split at h
  · rename_i p n ns e
    simp at h
    refine ⟨p, n :: ns, e, h.1, ?_⟩
    rcases h.2 with z | ⟨z1, z2, z3⟩
    · exact .inl (by simp [z])
    · refine .inr ⟨by simp, by simp; omega, ?_⟩
      intro x hx
      rcases List.mem_cons.mp hx with z | z
      · rw [z]; exact z2
      · exact z3 x z
  · cases h
theorem led_eq {a s : List Nat} (h : addr a = true) : led a s = led2 a s := by
  obtain ⟨p, names, e, hp, hn⟩ := addr_parts h
  unfold led led2
  rw [e]
  rcases hn with rfl | ⟨h0, h1, h2⟩
  · simp only [List.filter_cons, List.filter_nil]
    simp
    rw [below_eq hp (by simp) (by simp)]
    rw [below_eq hp (by simp) (by simp)]
  · have ef : names.filter (fun p => decide (p ≠ [])) = names := List.filter_eq_self.mpr fun x hx => by simpa using (nameOk_free (h2 x hx)).2
    simp only [ef]
    rw [below_eq hp (by simp) (by simp)]
    rw [below_eq hp (fun x hx => h2 x (List.dropLast_subset _ hx)) (by rw [List.length_dropLast]; omega)]
    rw [below_eq hp (fun x hx => h2 x (List.dropLast_subset _ (List.dropLast_subset _ hx))) (by rw [List.length_dropLast, List.length_dropLast]; omega)]
end Zn
namespace Zn
open PySem PySem.Spec L2 TL Zd
theorem fm_chars {t : List Nat} {f : D → List D} (p : Nat → List D) (h : ∀ c, f (.str [c]) = p c) : (t.map fun c => D.str [c]).flatMap f = t.flatMap p := by
  induction t with
  | nil => rfl
  | cons c t ih => simp [h, ih]
theorem fm_strs {t : List (List Nat)} {f : D → List D} (p : List Nat → List D) (h : ∀ c, f (.str c) = p c) : (t.map D.str).flatMap f = t.flatMap p := by
  induction t with
  | nil => rfl
  | cons c t ih => simp [h, ih]
theorem fm_one {α β : Type} {t : List α} (p : α → β) : (t.flatMap fun c => [p c]) = t.map p := by
  induction t with
  | nil => rfl
  | cons c t ih => simp [ih]
theorem fm_filter {α β : Type} {t : List α} (b : α → Bool) (p : α → β) : (t.flatMap fun c => if b c = true then [p c] else []) = (t.filter b).map p := by
  induction t with
  | nil => rfl
  | cons c t ih => by_cases h : b c = true <;> simp [h, ih]
theorem bls_map {α : Type} (p : α → Bool) : ∀ t : List α, blsOf (t.map fun c => D.bl (p c)) = some (t.map p)
  | [] => rfl
  | c :: t => by
    show (match blsOf (t.map fun c => D.bl (p c)) with | some bs => some (p c :: bs) | none => none) = _
    rw [bls_map p t]
    rfl
theorem all_id {α : Type} (p : α → Bool) (t : List α) : (t.map p).all id = t.all p := by simp
/-- a text that may be missing -/
def optD : Option (List Nat) → D
  | some t => .str t
  | none => .non
theorem line_of {n : Nat} (h : n ≤ 1000000) : n ≤ sizeLine := Nat.le_trans h (by decide)
end Zn
namespace Zn
open PySem PySem.Spec L2 TL Zd
theorem parts_joinL {ps : List (List Nat)} (hne : ps ≠ []) (h : ∀ p ∈ ps, 47 ∉ p) : parts (joinL [47] ps) = ps := by
  conv => rhs; rw [← List.dropLast_concat_getLast hne]
  conv => lhs; rw [← List.dropLast_concat_getLast hne]
  rw [parts_join _ fun x hx => h x (List.dropLast_subset _ hx), parts_free (h _ (List.getLast_mem hne))]
theorem parts_tail {s p n : List Nat} {ns : List (List Nat)} (h : parts s = p :: n :: ns) : parts (joinL [47] (n :: ns)) = n :: ns ∧ s = p ++ 47 :: joinL [47] (n :: ns) := by
  refine ⟨parts_joinL (by simp) fun x hx => parts_free_all (s := s) x (by rw [h]; exact List.mem_cons_of_mem _ hx), ?_⟩
  have := join_parts s
  rw [h] at this
  exact this.symm
theorem parts_mem_len : ∀ {s : List Nat}, ∀ p ∈ parts s, p.length ≤ s.length
  | [], p, hp => by simp [parts] at hp; simp [hp]
  | c :: r, p, hp => by
    have ih := @parts_mem_len r
    by_cases h : c = 47
    · subst h
      rw [parts, if_pos rfl] at hp
      rcases List.mem_cons.mp hp with e | hp
      · simp [e]
      · have := ih p hp; simp; omega
    · obtain ⟨u, ps, e1, e2⟩ := parts_cons (r := r) h
      rw [e2] at hp
      rw [e1] at ih
      rcases List.mem_cons.mp hp with e | hp
      · have := ih u List.mem_cons_self; simp [e]; omega
      · have := ih p (List.mem_cons_of_mem _ hp); simp; omega
theorem parts_len : ∀ s : List Nat, (parts s).length ≤ s.length + 1
  | [] => by simp [parts]
  | c :: r => by
    have ih := parts_len r
    by_cases h : c = 47
    · subst h
      rw [parts, if_pos rfl]
      simp
      omega
    · obtain ⟨u, ps, e1, e2⟩ := parts_cons (r := r) h
      rw [e2]
      rw [e1] at ih
      simp at *
      omega
theorem joinL_nil {n : List Nat} {ns : List (List Nat)} : joinL [47] (n :: ns) = [] ↔ n :: ns = [[]] := by
  constructor
  · intro h
    cases ns with
    | nil => simp [joinL] at h; simp [h]
    | cons m ms => simp [joinL] at h
  · intro h
    cases h
    rfl
end Zn
namespace Zn
open PySem PySem.Spec L2 TL Zd
theorem joinL_len : ∀ ps : List (List Nat), (joinL [47] ps).length ≤ (ps.map List.length).sum + ps.length
  | [] => by simp [joinL]
  | [p] => by simp [joinL]
  | p :: q :: r => by
    have := joinL_len (q :: r)
    simp [joinL] at *
    omega
end Zn
namespace Zn
open PySem PySem.Spec L2 TL Zd
section
variable {α : Type} {xs : List α}
theorem cut_from (k : Nat) : cut xs (some (k : Int)) none = xs.drop k := by
  unfold cut
  rw [HT.sIx_nat, HT.sIx_none, ← List.length_drop, List.take_length]
  by_cases h : k ≤ xs.length
  · rw [Nat.min_eq_left h]
  · rw [Nat.min_eq_right (by omega), List.drop_length, List.drop_eq_nil_of_le (by omega)]
theorem cut_to (k : Nat) : cut xs none (some (k : Int)) = xs.take k := by
  unfold cut
  rw [HT.sIx_nat, HT.sIx_none, List.drop_zero, Nat.sub_zero]
  by_cases h : k ≤ xs.length
  · rw [Nat.min_eq_left h]
  · rw [Nat.min_eq_right (by omega), List.take_length, List.take_of_length_le (by omega)]
theorem cut_back (k : Nat) : cut xs none (some (-((k + 1 : Nat) : Int))) = xs.take (xs.length - (k + 1)) := by
  unfold cut
  have : HT.sIx xs.length xs.length (some (-((k + 1 : Nat) : Int))) = xs.length - (k + 1) := by
    show (if (-((k + 1 : Nat) : Int)) < 0 then (-((k + 1 : Nat) : Int) + (xs.length : Int)).toNat else _) = _
    rw [if_pos (by omega)]
    omega
  rw [this, HT.sIx_none, List.drop_zero, Nat.sub_zero]
theorem cut_1 : cut xs (some 1) none = xs.drop 1 := cut_from 1
theorem cut_2 : cut xs (some 2) none = xs.drop 2 := cut_from 2
theorem cut_3 : cut xs (some 3) none = xs.drop 3 := cut_from 3
theorem cut_t1 : cut xs none (some 1) = xs.take 1 := cut_to 1
theorem cut_t2 : cut xs none (some 2) = xs.take 2 := cut_to 2
theorem cut_t3 : cut xs none (some 3) = xs.take 3 := cut_to 3
theorem cut_m1 : cut xs none (some (-1)) = xs.dropLast := by rw [List.dropLast_eq_take]; exact cut_back 0
theorem cut_m2 : cut xs none (some (-2)) = xs.dropLast.dropLast := by
  rw [List.dropLast_eq_take, List.dropLast_eq_take, List.length_take, List.take_take]
  have := cut_back (xs := xs) 1
  rw [show (-((1 + 1 : Nat) : Int)) = -2 from rfl] at this
  rw [this]
  congr 1
  omega
end
theorem pre_take {S l : List Nat} : pre S l = decide (l.take S.length = S) := by
  unfold pre
  by_cases h : l.take S.length = S <;> simp [h]
theorem sum_sub {xs ys : List (List Nat)} (h : xs.Sublist ys) : (xs.map List.length).sum ≤ (ys.map List.length).sum := by
  induction h with
  | slnil => simp
  | cons a _ ih => simp; omega
  | cons_cons a _ ih => simp; omega
end Zn
namespace Zn
open PySem PySem.Spec L2 TL Zd
theorem clns_strs : ∀ xs : List (List Nat), clns (xs.map D.str) = true ∧ deps (xs.map D.str) = 0
  | [] => ⟨rfl, rfl⟩
  | x :: xs => by simp [clns, deps, cln, dep, clns_strs xs]
theorem ok_strs (xs : List (List Nat)) : okD (.lst (xs.map D.str)) := by simp [okD, cln, dep, clns_strs]
theorem ok_e1 : okD (.lst [.str []]) := ok_strs [[]]
theorem eqDs_strs : ∀ xs ys : List (List Nat), eqDs (xs.map D.str) (ys.map D.str) = decide (xs = ys)
  | [], [] => rfl
  | [], y :: ys => by simp [eqDs]
  | x :: xs, [] => by simp [eqDs]
  | x :: xs, y :: ys => by
    simp only [List.map_cons, eqDs, eq_str, eqDs_strs xs ys]
    by_cases h : x = y <;> by_cases h2 : xs = ys <;> simp [h, h2]
theorem eq_strs (xs ys : List (List Nat)) : eqD (.lst (xs.map D.str)) (.lst (ys.map D.str)) = decide (xs = ys) := by rw [eqD]; exact eqDs_strs xs ys
theorem eq_strs_nil (xs : List (List Nat)) : eqD (.lst (xs.map D.str)) (.lst []) = decide (xs = []) := eq_strs xs []
theorem eq_strs_e (xs : List (List Nat)) : eqD (.lst (xs.map D.str)) (.lst [.str []]) = decide (xs = [[]]) := eq_strs xs [[]]
theorem ones_filter (b : Nat → Bool) (t : List Nat) : (t.flatMap fun c => if b c = true then [D.str [c]] else []) = ((t.filter b).map fun c => [c]).map D.str := by rw [fm_filter, List.map_map]; rfl
end Zn
namespace Zn
open PySem PySem.Spec L2 TL Zd
theorem below2_len {s : List Nat} : ((if s ≠ [] then parts s else []).map List.length).sum ≤ s.length ∧ (if s ≠ [] then parts s else []).length ≤ s.length + 1 ∧ ∀ x ∈ (if s ≠ [] then parts s else []), x.length ≤ s.length := by
  split
  · refine ⟨?_, parts_len s, fun x hx => parts_mem_len x hx⟩
    rename_i h
    clear h
    induction s with
    | nil => simp [parts]
    | cons c r ih =>
      by_cases h : c = 47
      · subst h
        rw [parts, if_pos rfl]
        simp
        omega
      · obtain ⟨p, ps, e1, e2⟩ := parts_cons (r := r) h
        rw [e2]
        rw [e1] at ih
        simp at *
        omega
  · simp
theorem names_len {fo : List (List Nat)} (h : ∀ x ∈ fo, nameOk x = true) : (fo.map List.length).sum ≤ 8 * fo.length := by
  induction fo with
  | nil => simp
  | cons x fo ih =>
    have := ih fun y hy => h y (List.mem_cons_of_mem _ hy)
    have h8 := h x List.mem_cons_self
    unfold nameOk at h8
    simp at h8
    simp
    omega
end Zn
namespace Zn
open PySem PySem.Spec L2 TL Zd
theorem joinL_ones : ∀ cs : List Nat, joinL [] (cs.map fun c => [c]) = cs
  | [] => rfl
  | [c] => rfl
  | c :: d :: r => by
    have := joinL_ones (d :: r)
    simp [joinL] at *
    exact this
theorem strsOf_ones (cs : List Nat) : strsOf (cs.map fun c => D.str [c]) = some (cs.map fun c => [c]) := by
  have := strsOf_map (cs.map fun c => [c])
  rw [List.map_map] at this
  exact this
end Zn
namespace Zn
theorem sum_ones : ∀ cs : List Nat, ((cs.map fun c => [c]).map List.length).sum = cs.length
  | [] => rfl
  | c :: r => by
    have := sum_ones r
    simp at *
    omega
end Zn
namespace Zn
open TL
theorem addr_mk {h : List Nat} {fo : List (List Nat)} (hh : nameOk h = true) (hf : ∀ p ∈ fo, nameOk p = true) (hl : fo.length ≤ 3) : addr (h ++ 47 :: joinL [47] fo) = true := by
  have e := below_eq (rest := []) hh hf hl
  have e1 : below h fo [] = if addr (h ++ 47 :: joinL [47] fo) = true then some (h ++ 47 :: joinL [47] fo) else none := by simp [below]
  have e2 : below2 h fo [] = if 3 < fo.length then none else some (h ++ 47 :: joinL [47] fo) := by simp [below2]
  rw [e2, if_neg (by omega), e1] at e
  by_cases z : addr (h ++ 47 :: joinL [47] fo) = true
  · exact z
  · rw [if_neg z] at e
    cases e
theorem name_len {p : List Nat} (h : nameOk p = true) : p.length ≤ 8 := by
  unfold nameOk at h
  simp at h
  omega
end Zn
namespace Zn
open Zd
theorem cut_pair {α : Type} {xs : List α} {i j : Int} (h0 : 0 ≤ i) (h : i ≤ j) : (cut xs none (some i)).length + (cut xs (some j) none).length ≤ xs.length := by
  obtain ⟨m, rfl⟩ := Int.eq_ofNat_of_zero_le h0
  obtain ⟨n, rfl⟩ := Int.eq_ofNat_of_zero_le (show 0 ≤ j by omega)
  rw [cut_to, cut_from]
  simp
  omega
end Zn
namespace Zn
open Zd
theorem ok_opt {o : Option (List Nat)} : okD (optD o) := by
  cases o with
  | none => simp [optD, okD, cln, dep]
  | some t => simp [optD, okD, cln, dep]
theorem eq_opt {o : Option (List Nat)} : eqD (optD o) (optD o) = true := by
  cases o with
  | none => rfl
  | some t => simp [optD, eqD]
end Zn
namespace Zn
open PySem PySem.Spec L2 TL Zd
def B1 : List Nat := [91, 93, 10]
def B2 : List Nat := [32, 10, 91, 93, 40, 41]
def B3 : List Nat := [32, 10, 91, 93, 40]
/-- the first place from i on where a sign of B stands, or the end -/
def runEnd (t B : List Nat) (i : Nat) : Nat := i + ((t.drop i).takeWhile fun c => decide (c ∉ B)).length
theorem run_ge (t B : List Nat) (i : Nat) : i ≤ runEnd t B i := Nat.le_add_right _ _
theorem run_le {t B : List Nat} {i : Nat} (h : i ≤ t.length) : runEnd t B i ≤ t.length := by
  have := (List.takeWhile_sublist (l := t.drop i) fun c => decide (c ∉ B)).length_le
  rw [List.length_drop] at this
  unfold runEnd
  omega
theorem run_step {t B : List Nat} {i c : Nat} (h : t[i]? = some c) : runEnd t B i = if c ∈ B then i else runEnd t B (i + 1) := by
  obtain ⟨h1, h2⟩ := List.getElem?_eq_some_iff.mp h
  unfold runEnd
  rw [List.drop_eq_getElem_cons h1, h2, List.takeWhile_cons]
  by_cases hc : c ∈ B
  · rw [if_pos hc, if_neg (by simp [hc])]; simp
  · rw [if_neg hc, if_pos (by simp [hc]), List.length_cons]; omega
theorem run_end {t B : List Nat} {i : Nat} (h : t.length ≤ i) : runEnd t B i = i := by
  unfold runEnd
  rw [List.drop_eq_nil_of_le h]
  rfl
/-- what it is told by -/
theorem run_is {t B : List Nat} : ∀ (n i k : Nat), t.length - i ≤ n → i ≤ k → k ≤ t.length → (∀ j, i ≤ j → j < k → ∃ c, t[j]? = some c ∧ c ∉ B) → (k = t.length ∨ ∃ c ∈ B, t[k]? = some c) → runEnd t B i = k
  | 0, i, k, hn, hik, hkl, _, _ => by
    rw [run_end (by omega)]
    omega
  | n + 1, i, k, hn, hik, hkl, h1, h2 => by
    by_cases e : i = k
    · subst e
      rcases h2 with h2 | ⟨c, hc, h2⟩
      · exact run_end (by omega)
      · rw [run_step h2, if_pos hc]
    · obtain ⟨c, hc, hb⟩ := h1 i (Nat.le_refl _) (by omega)
      rw [run_step hc, if_neg hb]
      exact run_is n (i + 1) k (by omega) (by omega) hkl (fun j hj => h1 j (by omega)) h2
theorem run_no {t B : List Nat} : ∀ (n i : Nat), t.length - i ≤ n → (∀ j, i ≤ j → j < runEnd t B i → ∃ c, t[j]? = some c ∧ c ∉ B) ∧ (i ≤ t.length → runEnd t B i = t.length ∨ ∃ c ∈ B, t[runEnd t B i]? = some c)
  | 0, i, hn => by
    have e := run_end (t := t) (B := B) (i := i) (by omega)
    rw [e]
    exact ⟨fun j h1 h2 => by omega, fun h => .inl (by omega)⟩
  | n + 1, i, hn => by
    by_cases hl : i < t.length
    · have hc : t[i]? = some t[i] := List.getElem?_eq_getElem hl
      rw [run_step hc]
      by_cases hb : t[i] ∈ B
      · rw [if_pos hb]
        exact ⟨fun j h1 h2 => by omega, fun _ => .inr ⟨_, hb, hc⟩⟩
      · rw [if_neg hb]
        obtain ⟨a, b⟩ := run_no (t := t) (B := B) n (i + 1) (by omega)
        refine ⟨fun j h1 h2 => ?_, fun _ => b hl⟩
        by_cases e : j = i
        · subst e; exact ⟨_, hc, hb⟩
        · exact a j (by omega) h2
    · have e := run_end (t := t) (B := B) (i := i) (by omega)
      rw [e]
      exact ⟨fun j h1 h2 => by omega, fun h => .inl (by omega)⟩
theorem hit_iff {a b : List Nat} {i : Nat} : hitAt a b i = true ↔ i + b.length ≤ a.length ∧ (a.drop i).take b.length = b := by
  unfold hitAt
  simp [Bool.and_eq_true]
theorem find_neg {a b : List Nat} {i : Nat} (h : findL a b i < 0) : ∀ j, i ≤ j → hitAt a b j = false := by
  unfold findL at h
  split at h
  · omega
  · rename_i e
    intro j hj
    cases hh : hitAt a b j with
    | false => rfl
    | true =>
      have := (hit_iff.mp hh).1
      have hm : j ∈ List.range' i (a.length + 1 - i) := by simp [List.mem_range']; exact ⟨j - i, by omega, by omega⟩
      have := List.find?_eq_none.mp e j hm
      rw [hh] at this
      exact absurd rfl this
theorem find_pos {a b : List Nat} {i k : Nat} (h : findL a b i = (k : Nat)) : i ≤ k ∧ hitAt a b k = true ∧ ∀ j, i ≤ j → j < k → hitAt a b j = false := by
  unfold findL at h
  split at h
  · rename_i k' e
    have ek : k' = k := by omega
    subst ek
    obtain ⟨h1, as, bs, h2, h3⟩ := List.find?_eq_some_iff_append.mp e
    have hm : k' ∈ List.range' i (a.length + 1 - i) := by rw [h2]; simp
    simp [List.mem_range'] at hm
    obtain ⟨d, hd, hk⟩ := hm
    refine ⟨by omega, h1, fun j hj hjk => ?_⟩
    have hlen : as.length = k' - i := by
      have e2 : (List.range' i (a.length + 1 - i))[as.length]? = some k' := by rw [h2]; simp
      have hl2 := congrArg List.length h2
      rw [List.length_range', List.length_append, List.length_cons] at hl2
      rw [List.getElem?_range' (by omega)] at e2
      have := Option.some.inj e2
      omega
    have hj2 : j ∈ as := by
      have e2 : (List.range' i (a.length + 1 - i))[j - i]? = some j := by
        rw [List.getElem?_range' (by omega)]
        congr 1
        omega
      rw [h2, List.getElem?_append_left (by omega)] at e2
      exact List.mem_of_getElem? e2
    have := h3 j hj2
    simpa using this
  · omega
theorem find_cases (a b : List Nat) (i : Nat) : findL a b i < 0 ∨ ∃ k : Nat, findL a b i = (k : Nat) := by
  unfold findL
  split
  · exact .inr ⟨_, rfl⟩
  · exact .inl (by omega)
theorem take2_at {t : List Nat} {i a b : Nat} : (t.drop i).take 2 = [a, b] ↔ t[i]? = some a ∧ t[i + 1]? = some b := by
  rw [show t[i]? = (t.drop i)[0]? by rw [List.getElem?_drop]; rfl, show t[i + 1]? = (t.drop i)[1]? by rw [List.getElem?_drop]]
  cases t.drop i with
  | nil => simp
  | cons x r => cases r <;> simp
theorem take1_at {t : List Nat} {i a : Nat} : (t.drop i).take 1 = [a] ↔ t[i]? = some a := by
  rw [show t[i]? = (t.drop i)[0]? by rw [List.getElem?_drop]; rfl]
  cases t.drop i with
  | nil => simp
  | cons x r => simp
theorem mem_mid {t : List Nat} {a b c : Nat} (h : c ∈ (t.drop a).take (b - a)) : ∃ j, a ≤ j ∧ j < b ∧ t[j]? = some c := by
  obtain ⟨k, hk, e⟩ := List.mem_iff_getElem.mp h
  have e' : ((t.drop a).take (b - a))[k]? = some c := by rw [List.getElem?_eq_getElem hk, e]
  have hk2 : k < b - a := by
    have := hk
    rw [List.length_take] at this
    omega
  rw [List.getElem?_take, if_pos hk2, List.getElem?_drop] at e'
  exact ⟨a + k, by omega, by omega, e'⟩
theorem mid_mem {t : List Nat} {a b c j : Nat} (h1 : a ≤ j) (h2 : j < b) (h : t[j]? = some c) : c ∈ (t.drop a).take (b - a) := by
  have e : ((t.drop a).take (b - a))[j - a]? = some c := by
    rw [List.getElem?_take, if_pos (by omega), List.getElem?_drop, show a + (j - a) = j by omega]
    exact h
  exact List.mem_of_getElem? e
/-- the place of ](: as the law seeks it, as the program does -/
theorem mid_eq {t : List Nat} {i : Nat} (hi : i < t.length) :
    ((t.drop (runEnd t B1 (i + 1))).take 2 = [93, 40] → findL t [93, 40] (i + 1) = (runEnd t B1 (i + 1) : Nat) ∧ ∀ c ∈ (t.drop (i + 1)).take (runEnd t B1 (i + 1) - (i + 1)), c ∉ B1) ∧
    (∀ k : Nat, findL t [93, 40] (i + 1) = (k : Nat) → (∀ c ∈ (t.drop (i + 1)).take (k - (i + 1)), c ∉ B1) → runEnd t B1 (i + 1) = k ∧ (t.drop k).take 2 = [93, 40]) := by
  obtain ⟨r1, r2⟩ := run_no (t := t) (B := B1) (t.length - (i + 1)) (i + 1) (Nat.le_refl _)
  have r2 := r2 hi
  have rg := run_ge t B1 (i + 1)
  refine ⟨fun h => ?_, fun k hk hb => ?_⟩
  · obtain ⟨a1, a2⟩ := take2_at.mp h
    have hit : hitAt t [93, 40] (runEnd t B1 (i + 1)) = true := hit_iff.mpr ⟨by
      obtain ⟨q, _⟩ := List.getElem?_eq_some_iff.mp a2
      simp; omega, h⟩
    have no : ∀ j, i + 1 ≤ j → j < runEnd t B1 (i + 1) → hitAt t [93, 40] j = false := fun j h1 h2 => by
      obtain ⟨c, hc, hn⟩ := r1 j h1 h2
      cases hh : hitAt t [93, 40] j with
      | false => rfl
      | true =>
        have := (take2_at.mp (hit_iff.mp hh).2).1
        rw [hc] at this
        cases this
        exact absurd (by decide) hn
    refine ⟨?_, fun c hc => ?_⟩
    · rcases find_cases t [93, 40] (i + 1) with hn | ⟨k, hk⟩
      · have := find_neg hn _ rg
        rw [hit] at this
        cases this
      · obtain ⟨f1, f2, f3⟩ := find_pos hk
        rw [hk]
        congr 1
        rcases Nat.lt_trichotomy k (runEnd t B1 (i + 1)) with hl | he | hg
        · have := no k f1 hl
          rw [f2] at this
          cases this
        · exact he
        · have := f3 _ rg hg
          rw [hit] at this
          cases this
    · obtain ⟨j, j1, j2, j3⟩ := mem_mid hc
      obtain ⟨c', hc', hn⟩ := r1 j j1 j2
      rw [j3] at hc'
      cases hc'
      exact hn
  · obtain ⟨f1, f2, f3⟩ := find_pos hk
    have f4 := (hit_iff.mp f2).2
    obtain ⟨a1, a2⟩ := take2_at.mp f4
    obtain ⟨q, _⟩ := List.getElem?_eq_some_iff.mp a1
    refine ⟨run_is _ _ _ (Nat.le_refl _) f1 (by omega) (fun j j1 j2 => ?_) (.inr ⟨93, by decide, a1⟩), f4⟩
    have hj : t[j]? = some t[j] := List.getElem?_eq_getElem (by omega)
    exact ⟨_, hj, hb _ (mid_mem j1 j2 hj)⟩
end Zn
namespace Zn
open PySem PySem.Spec L2 TL Zd
theorem hit1 {t : List Nat} {k c : Nat} : hitAt t [c] k = true ↔ t[k]? = some c := by
  rw [hit_iff]
  constructor
  · rintro ⟨_, h⟩; exact take1_at.mp h
  · intro h
    obtain ⟨q, _⟩ := List.getElem?_eq_some_iff.mp h
    exact ⟨by simp; omega, take1_at.mpr h⟩
/-- the place of ): as the law seeks it, as the program does -/
theorem end_eq {t : List Nat} {m : Nat} (hm : (t.drop m).take 2 = [93, 40]) :
    (runEnd t B2 (m + 2) ≠ m + 2 → (t.drop (runEnd t B2 (m + 2))).take 1 = [41] → findL t [41] m = (runEnd t B2 (m + 2) : Nat) ∧ (t.drop (m + 2)).take (runEnd t B2 (m + 2) - (m + 2)) ≠ [] ∧ ∀ c ∈ (t.drop (m + 2)).take (runEnd t B2 (m + 2) - (m + 2)), c ∉ B3) ∧
    (∀ k : Nat, findL t [41] m = (k : Nat) → (t.drop (m + 2)).take (k - (m + 2)) ≠ [] → (∀ c ∈ (t.drop (m + 2)).take (k - (m + 2)), c ∉ B3) → runEnd t B2 (m + 2) = k ∧ k ≠ m + 2 ∧ (t.drop k).take 1 = [41]) := by
  obtain ⟨b1, b2⟩ := take2_at.mp hm
  obtain ⟨q2, _⟩ := List.getElem?_eq_some_iff.mp b2
  obtain ⟨r1, r2⟩ := run_no (t := t) (B := B2) (t.length - (m + 2)) (m + 2) (Nat.le_refl _)
  have rg := run_ge t B2 (m + 2)
  refine ⟨fun hne h1 => ?_, fun k hk hl hb => ?_⟩
  · have a1 := take1_at.mp h1
    obtain ⟨q, _⟩ := List.getElem?_eq_some_iff.mp a1
    have hit := hit1.mpr a1
    have no : ∀ j, m ≤ j → j < runEnd t B2 (m + 2) → hitAt t [41] j = false := fun j j1 j2 => by
      cases hh : hitAt t [41] j with
      | false => rfl
      | true =>
        have a := hit1.mp hh
        by_cases c1 : j = m
        · subst c1; rw [b1] at a; cases a
        · by_cases c2 : j = m + 1
          · subst c2; rw [b2] at a; cases a
          · obtain ⟨c, hc, hn⟩ := r1 j (by omega) j2
            rw [a] at hc
            cases hc
            exact absurd (by decide) hn
    refine ⟨?_, fun z => ?_, fun c hc => ?_⟩
    · rcases find_cases t [41] m with hn | ⟨k, hk⟩
      · have := find_neg hn (runEnd t B2 (m + 2)) (by omega)
        rw [hit] at this
        cases this
      · obtain ⟨f1, f2, f3⟩ := find_pos hk
        rw [hk]
        congr 1
        rcases Nat.lt_trichotomy k (runEnd t B2 (m + 2)) with hl | he | hg
        · have := no k f1 hl
          rw [f2] at this
          cases this
        · exact he
        · have := f3 (runEnd t B2 (m + 2)) (by omega) hg
          rw [hit] at this
          cases this
    · have := congrArg List.length z
      rw [List.length_take, List.length_drop, List.length_nil] at this
      omega
    · obtain ⟨j, j1, j2, j3⟩ := mem_mid hc
      obtain ⟨c', hc', hn⟩ := r1 j j1 j2
      rw [j3] at hc'
      cases hc'
      intro z
      refine hn ?_
      have key : ∀ c ∈ B3, c ∈ B2 := by decide
      exact key c z
  · obtain ⟨f1, f2, f3⟩ := find_pos hk
    have a1 := hit1.mp f2
    obtain ⟨q, _⟩ := List.getElem?_eq_some_iff.mp a1
    have hgt : m + 2 < k := by
      rcases Nat.lt_or_ge (m + 2) k with h | h
      · exact h
      · exact absurd (by rw [show k - (m + 2) = 0 by omega, List.take_zero]) hl
    refine ⟨run_is _ _ _ (Nat.le_refl _) (by omega) (by omega) (fun j j1 j2 => ?_) (.inr ⟨41, by decide, a1⟩), by omega, take1_at.mpr a1⟩
    have hj : t[j]? = some t[j] := List.getElem?_eq_getElem (by omega)
    refine ⟨_, hj, fun z => ?_⟩
    have h3 := hb _ (mid_mem j1 j2 hj)
    have key : ∀ c ∈ B2, c ∈ B3 ∨ c = 41 := by decide
    rcases key _ z with z | z
    · exact h3 z
    · have := f3 j (by omega) j2
      rw [hit1.mpr (by rw [hj, z])] at this
      cases this
/-- the link that stands at a place: its words, what it leads to, the place behind it -/
def linkAt (t : List Nat) (i : Nat) : Option (List Nat × List Nat × Nat) :=
  if t[i]? = some 91 then
    if (t.drop (runEnd t B1 (i + 1))).take 2 = [93, 40] then
      if runEnd t B2 (runEnd t B1 (i + 1) + 2) ≠ runEnd t B1 (i + 1) + 2 ∧ (t.drop (runEnd t B2 (runEnd t B1 (i + 1) + 2))).take 1 = [41] then
        some ((t.drop (i + 1)).take (runEnd t B1 (i + 1) - (i + 1)), (t.drop (runEnd t B1 (i + 1) + 2)).take (runEnd t B2 (runEnd t B1 (i + 1) + 2) - (runEnd t B1 (i + 1) + 2)), runEnd t B2 (runEnd t B1 (i + 1) + 2) + 1)
      else none
    else none
  else none
theorem link_gt {t : List Nat} {i : Nat} {w l : List Nat} {e : Nat} (h : linkAt t i = some (w, l, e)) : i < e ∧ e ≤ t.length ∧ w.length + l.length ≤ e - i := by
  unfold linkAt at h
  split at h
  · split at h
    · split at h
      · rename_i h2 h3
        cases h
        have g1 := run_ge t B1 (i + 1)
        have g2 := run_ge t B2 (runEnd t B1 (i + 1) + 2)
        have a := take1_at.mp h3.2
        obtain ⟨q, _⟩ := List.getElem?_eq_some_iff.mp a
        refine ⟨by omega, by omega, ?_⟩
        simp only [List.length_take, List.length_drop]
        omega
      · cases h
    · cases h
  · cases h
/-- the body and the links of what stands from a place on (n: no fewer than so many signs) -/
def cutF (t : List Nat) : Nat → Nat → List Nat × List (List Nat)
  | 0, _ => ([], [])
  | n + 1, i => match t[i]? with
    | none => ([], [])
    | some c => match linkAt t i with
      | some (w, l, e) => (w ++ (cutF t n e).1, l :: (cutF t n e).2)
      | none => (c :: (cutF t n (i + 1)).1, (cutF t n (i + 1)).2)
theorem cut_more (t : List Nat) : ∀ (n m i : Nat), t.length - i ≤ n → t.length - i ≤ m → cutF t n i = cutF t m i
  | 0, 0, _, _, _ => rfl
  | 0, m + 1, i, h, _ => by
    have : t[i]? = none := List.getElem?_eq_none (by omega)
    simp only [cutF, this]
  | n + 1, 0, i, _, h => by
    have : t[i]? = none := List.getElem?_eq_none (by omega)
    simp only [cutF, this]
  | n + 1, m + 1, i, h1, h2 => by
    unfold cutF
    cases e : t[i]? with
    | none => rfl
    | some c =>
      obtain ⟨q, _⟩ := List.getElem?_eq_some_iff.mp e
      cases el : linkAt t i with
      | none => simp only; rw [cut_more t n m (i + 1) (by omega) (by omega)]
      | some p =>
        obtain ⟨w, l, e2⟩ := p
        have := link_gt el
        simp only
        rw [cut_more t n m e2 (by omega) (by omega)]
def cutU (t : List Nat) (i : Nat) : List Nat × List (List Nat) := cutF t (t.length - i) i
theorem cutU_end {t : List Nat} {i : Nat} (h : t.length ≤ i) : cutU t i = ([], []) := by
  unfold cutU
  rw [show t.length - i = 0 by omega]
  rfl
theorem cutU_link {t : List Nat} {i : Nat} {w l : List Nat} {e : Nat} (h : linkAt t i = some (w, l, e)) (hi : i < t.length) : cutU t i = (w ++ (cutU t e).1, l :: (cutU t e).2) := by
  have g := link_gt h
  unfold cutU
  rw [cut_more t (t.length - i) (t.length - i - 1 + 1) i (Nat.le_refl _) (by omega)]
  rw [cutF, List.getElem?_eq_getElem hi, h]
  simp only
  rw [cut_more t (t.length - i - 1) (t.length - e) e (by omega) (Nat.le_refl _)]
theorem cutU_sign {t : List Nat} {i : Nat} {c : Nat} (h : linkAt t i = none) (hc : t[i]? = some c) : cutU t i = (c :: (cutU t (i + 1)).1, (cutU t (i + 1)).2) := by
  obtain ⟨q, _⟩ := List.getElem?_eq_some_iff.mp hc
  unfold cutU
  rw [cut_more t (t.length - i) (t.length - i - 1 + 1) i (Nat.le_refl _) (by omega)]
  rw [cutF, hc, h]
  simp only
  rw [cut_more t (t.length - i - 1) (t.length - (i + 1)) (i + 1) (by omega) (Nat.le_refl _)]
end Zn
namespace Zn
open PySem PySem.Spec L2 TL Zd
section
variable {k : Bool → Prop}
theorem tru_non : dTru .non k = k false := rfl
theorem tru_bl {b : Bool} : dTru (.bl b) k = k b := rfl
theorem tru_int {i : Int} : dTru (.int i) k = k (i != 0) := rfl
theorem tru_str {cs : List Nat} : dTru (.str cs) k = (cs.length ≤ sizeLine ∧ k (!cs.isEmpty)) := rfl
theorem tru_lst {xs : List D} : dTru (.lst xs) k = k (!xs.isEmpty) := rfl
theorem tru_ro {xs : List D} : dTru (.ro xs) k = k (!xs.isEmpty) := rfl
theorem tru_tup {xs : List D} : dTru (.tup xs) k = k (!xs.isEmpty) := rfl
theorem tru_dic {xs : List (KD × D)} : dTru (.dic xs) k = k (!xs.isEmpty) := rfl
end
/-- a comprehension over things that are told of ys -/
theorem lc_fm2 {α : Type} {φ : α → D} {vs : List Nat} {g : TGd} {A : TB} {te : TD} {k : List D → Zd.Env → Prop} {ys : List α} {ε : Zd.Env} (f : α → List D) (h : k (ys.flatMap f) ε) (hl : ys.length < 1000000) (h1 : ∀ y ∈ ys, (f y).length ≤ 1)
    (hs : ∀ y acc (K : List D → Zd.Env → Prop), y ∈ ys → acc.length < sizeLine → K (acc ++ f y) ε → noOwn ε vs ∧ g (φ y) (wipeE ε vs) fun η1 => A η1 (fun b η2 =>
      if b = true then te η2 (fun o η3 => fz η3 o fun y η4 => acc.length < sizeLine ∧ K (acc ++ [y]) (unw ε η4 vs)) xNo
      else K acc (unw ε η2 vs)) xNo) : lcD vs g A te (ys.map φ) [] ε k := by
  refine lcD_ind (fun pre acc ε' => ε' = ε ∧ acc = (ys.take pre.length).flatMap f ∧ acc.length ≤ pre.length) ⟨rfl, by simp, Nat.le_refl _⟩ (fun acc ε' ⟨e1, e2, _⟩ => by
    rw [e1, e2, List.length_map, List.take_length]; exact h) ?_
  rintro pre x post acc ε' K e ⟨rfl, rfl, e3⟩ hK
  have hlen : pre.length < ys.length := by
    have := congrArg List.length e
    simp at this
    omega
  have hx : ys[pre.length]? = some ys[pre.length] := List.getElem?_eq_getElem hlen
  have ex : x = φ ys[pre.length] := by
    have h2 : (ys.map φ)[pre.length]? = some x := by rw [e]; simp
    rw [List.getElem?_map, hx] at h2
    exact (Option.some.inj h2).symm
  rw [ex]
  have ht : ys.take (pre.length + 1) = ys.take pre.length ++ [ys[pre.length]] := by rw [List.take_add_one, hx]; rfl
  have hm := List.getElem_mem hlen
  refine hs _ _ _ hm (Nat.lt_of_lt_of_le (show _ < 1000000 by omega) (by decide)) (hK _ _ ⟨rfl, ?_, ?_⟩)
  · rw [List.length_append, List.length_singleton, ht, List.flatMap_append]; simp
  · have := h1 _ hm
    simp at *
    omega
end Zn
namespace Zn
open PySem PySem.Spec L2 TL Zd
theorem cut_any {α : Type} {xs : List α} {a : Nat} (b : Nat) (h : a ≤ xs.length) : cut xs (some (a : Int)) (some (b : Int)) = (xs.drop a).take (b - a) := by
  unfold cut
  rw [HT.sIx_nat, HT.sIx_nat, Nat.min_eq_left h]
  by_cases hb : b ≤ xs.length
  · rw [Nat.min_eq_left hb]
  · rw [Nat.min_eq_right (by omega), List.take_of_length_le (by simp), List.take_of_length_le (by simp; omega)]
theorem cut_two {α : Type} {xs : List α} {m : Nat} (h : m ≤ xs.length) : cut xs (some (m : Int)) (some ((m : Int) + 2)) = (xs.drop m).take 2 := by
  have := cut_any (m + 2) h
  rw [show m + 2 - m = 2 by omega] at this
  exact this
theorem cut_one {α : Type} {xs : List α} {m : Nat} (h : m ≤ xs.length) : cut xs (some (m : Int)) (some ((m : Int) + 1)) = (xs.drop m).take 1 := by
  have := cut_any (m + 1) h
  rw [show m + 1 - m = 1 by omega] at this
  exact this
theorem cut_p1 {α : Type} {xs : List α} {i : Nat} (b : Nat) (h : i + 1 ≤ xs.length) : cut xs (some ((i : Int) + 1)) (some (b : Int)) = (xs.drop (i + 1)).take (b - (i + 1)) := cut_any (a := i + 1) b h
theorem cut_p2 {α : Type} {xs : List α} {i : Nat} (b : Nat) (h : i + 2 ≤ xs.length) : cut xs (some ((i : Int) + 2)) (some (b : Int)) = (xs.drop (i + 2)).take (b - (i + 2)) := cut_any (a := i + 2) b h
end Zn
namespace Zn
open PySem PySem.Spec L2 TL Zd
theorem joinL_flat : ∀ ps : List (List Nat), joinL [] ps = ps.flatten
  | [] => rfl
  | [p] => by simp [joinL]
  | p :: q :: r => by
    have := joinL_flat (q :: r)
    have e : joinL [] (p :: q :: r) = p ++ ([] ++ joinL [] (q :: r)) := rfl
    rw [e, this]
    simp
end Zn
namespace Zn
theorem ite_no {p : Prop} [i : Decidable p] {a b : Prop} (h : ¬ p) (hb : b) : @ite Prop p i a b := by rw [if_neg h]; exact hb
end Zn
namespace Zn
open PySem PySem.Spec L2 TL Zd
/-- signs of B in a text, each as a text -/
def fB (B : List Nat) (x : D) : List D := match x with
  | .str [c] => if c ∈ B then [.str [c]] else []
  | _ => []
theorem fB_c (B : List Nat) (c : Nat) : fB B (.str [c]) = if c ∈ B then [.str [c]] else [] := rfl
theorem chars_fm (B : List Nat) : ∀ t : List Nat, ((t.map fun c => D.str [c]).flatMap (fB B)) = ((t.filter fun c => decide (c ∈ B)).map fun c => [c]).map D.str
  | [] => rfl
  | c :: t => by
    rw [List.map_cons, List.flatMap_cons, chars_fm B t, fB_c]
    by_cases h : c ∈ B
    · simp [h]
    · simp [h]
theorem eq_nil8 (xs : List (List Nat)) : eqD (.lst (xs.map D.str)) (.lst []) = decide (xs = []) := by cases xs <;> simp [eqD, eqDs]
theorem filt_nil {B t : List Nat} : ((t.filter fun c => decide (c ∈ B)).map fun c => [c]) = [] ↔ ∀ c ∈ t, c ∉ B := by
  simp [List.filter_eq_nil_iff]
theorem ok_strs4 (xs : List (List Nat)) : okD (.lst (xs.map D.str)) := by
  refine ⟨clns_of fun x hx => ?_, ?_⟩
  · obtain ⟨c, _, rfl⟩ := List.mem_map.mp hx; rfl
  · have : deps (xs.map D.str) ≤ 0 := deps_of fun x hx => by obtain ⟨c, _, rfl⟩ := List.mem_map.mp hx; exact Nat.le_refl _
    simp [dep]; omega
end Zn
namespace Zn
open PySem PySem.Spec L2 TL Zd
def cutD (p : List Nat × List (List Nat)) : D := .tup [.str p.1, .tup (p.2.map D.str)]
end Zn
namespace Zn
open PySem PySem.Spec L2 TL Zd
theorem ix_neg {n k : Nat} (h : k + 1 ≤ n) : ixN n (-((k + 1 : Nat) : Int)) = some (n - (k + 1)) := by
  unfold ixN
  rw [if_neg (by omega), if_pos (by omega)]
  congr 1
  omega
theorem at_m1 {α : Type} {xs : List α} (h : 1 ≤ xs.length) : atI xs (-1) = xs[xs.length - 1]? := by
  unfold atI
  rw [show (-1 : Int) = -((0 + 1 : Nat) : Int) from rfl, ix_neg h]
  rfl
theorem at_m2 {α : Type} {xs : List α} (h : 2 ≤ xs.length) : atI xs (-2) = xs[xs.length - 2]? := by
  unfold atI
  rw [show (-2 : Int) = -((1 + 1 : Nat) : Int) from rfl, ix_neg h]
  rfl
def low (c : Nat) : Nat := PyProof.Rows.lo1 c
/-- the root of a text of small signs -/
def cutS (s : List Nat) : List Nat := if 4 ≤ s.length ∧ s[s.length - 1]? = some 115 ∧ s[s.length - 2]? ≠ some 115 then s.dropLast else s
def rootF (t : List Nat) : List Nat := cutS (t.map PyProof.Rows.lo1)
def lets : List Nat := [97, 98, 99, 100, 101, 102, 103, 104, 105, 106, 107, 108, 109, 110, 111, 112, 113, 114, 115, 116, 117, 118, 119, 120, 121, 122, 65, 66, 67, 68, 69, 70, 71, 72, 73, 74, 75, 76, 77, 78, 79, 80, 81, 82, 83, 84, 85, 86, 87, 88, 89, 90, 48, 49, 50, 51, 52, 53, 54, 55, 56, 57]
def great : List Nat := [65, 66, 67, 68, 69, 70, 71, 72, 73, 74, 75, 76, 77, 78, 79, 80, 81, 82, 83, 84, 85, 86, 87, 88, 89, 90]
def littl : List Nat := [97, 98, 99, 100, 101, 102, 103, 104, 105, 106, 107, 108, 109, 110, 111, 112, 113, 114, 115, 116, 117, 118, 119, 120, 121, 122]
theorem low_great : ∀ i : Nat, i < 26 → ∃ c, great[i]? = some c ∧ littl[i]? = some (PyProof.Rows.lo1 c) := by decide +kernel
theorem low_other : ∀ c < 128, c ∉ great → PyProof.Rows.lo1 c = c := by decide +kernel
/-- words with their places, found from left to right: what has been told, where the word at hand began, the place -/
def toks (f : List Nat → List Nat) : List Nat → List Nat → Nat → List (List Nat × Nat × Nat)
  | run, [], at_ => if run = [] then [] else [(f run, at_ - run.length, at_)]
  | run, c :: r, at_ => if c ∈ lets then toks f (run ++ [c]) r (at_ + 1) else (if run = [] then [] else [(f run, at_ - run.length, at_)]) ++ toks f [] r (at_ + 1)
def tokD (p : List Nat × Nat × Nat) : D := .tup [.str p.1, .int (p.2.1 : Nat), .int (p.2.2 : Nat)]
end Zn
namespace Zn
open PySem PySem.Spec L2 TL Zd
section
variable {α : Type} {xs : List α}
theorem cut_from8 (k : Nat) : cut xs (some (k : Int)) none = xs.drop k := by
  unfold cut
  rw [HT.sIx_nat, HT.sIx_none, ← List.length_drop, List.take_length]
  by_cases h : k ≤ xs.length
  · rw [Nat.min_eq_left h]
  · rw [Nat.min_eq_right (by omega), List.drop_length, List.drop_eq_nil_of_le (by omega)]
theorem cut_to8 (k : Nat) : cut xs none (some (k : Int)) = xs.take k := by
  unfold cut
  rw [HT.sIx_nat, HT.sIx_none, List.drop_zero, Nat.sub_zero]
  by_cases h : k ≤ xs.length
  · rw [Nat.min_eq_left h]
  · rw [Nat.min_eq_right (by omega), List.take_length, List.take_of_length_le (by omega)]
theorem cut_back8 (k : Nat) : cut xs none (some (-((k + 1 : Nat) : Int))) = xs.take (xs.length - (k + 1)) := by
  unfold cut
  have : HT.sIx xs.length xs.length (some (-((k + 1 : Nat) : Int))) = xs.length - (k + 1) := by
    show (if (-((k + 1 : Nat) : Int)) < 0 then (-((k + 1 : Nat) : Int) + (xs.length : Int)).toNat else _) = _
    rw [if_pos (by omega)]
    omega
  rw [this, HT.sIx_none, List.drop_zero, Nat.sub_zero]
theorem cut_m1' : cut xs none (some (-1)) = xs.dropLast := by rw [List.dropLast_eq_take]; exact cut_back8 0
theorem cut_12 : cut xs none (some 12) = xs.take 12 := cut_to8 12
theorem cut_1' : cut xs (some 1) none = xs.drop 1 := cut_from8 1
end
theorem line_of' {n : Nat} (h : n ≤ 1000000) : n ≤ sizeLine := Nat.le_trans h (by decide)
end Zn
namespace Zn
open PySem PySem.Spec L2 TL Zd
theorem cut_mid {α : Type} {xs : List α} {a b : Nat} (h : a ≤ b) (hb : b ≤ xs.length) : cut xs (some (a : Int)) (some (b : Int)) = (xs.drop a).take (b - a) := by
  unfold cut
  rw [HT.sIx_nat, HT.sIx_nat, Nat.min_eq_left (by omega), Nat.min_eq_left (by omega)]
theorem fm_chars8 {t : List Nat} {f : D → List D} (p : Nat → List D) (h : ∀ c, f (.str [c]) = p c) : (t.map fun c => D.str [c]).flatMap f = t.flatMap p := by
  induction t with
  | nil => rfl
  | cons c t ih => simp [h, ih]
theorem fm_one8 {α β : Type} {t : List α} (p : α → β) : (t.flatMap fun c => [p c]) = t.map p := by
  induction t with
  | nil => rfl
  | cons c t ih => simp [ih]
theorem joinL_ones8 : ∀ cs : List Nat, joinL [] (cs.map fun c => [c]) = cs
  | [] => rfl
  | [c] => rfl
  | c :: d :: r => by
    have := joinL_ones8 (d :: r)
    simp [joinL] at *
    exact this
theorem strsOf_ones8 (cs : List Nat) : strsOf (cs.map fun c => D.str [c]) = some (cs.map fun c => [c]) := by
  have := strsOf_map (cs.map fun c => [c])
  rw [List.map_map] at this
  exact this
theorem sum_ones8 : ∀ cs : List Nat, ((cs.map fun c => [c]).map List.length).sum = cs.length
  | [] => rfl
  | c :: r => by
    have := sum_ones8 r
    simp at *
    omega
theorem bls_map8 {α : Type} (p : α → Bool) : ∀ t : List α, blsOf (t.map fun c => D.bl (p c)) = some (t.map p)
  | [] => rfl
  | c :: t => by
    show (match blsOf (t.map fun c => D.bl (p c)) with | some bs => some (p c :: bs) | none => none) = _
    rw [bls_map8 p t]
    rfl
theorem all_id8 {α : Type} (p : α → Bool) (t : List α) : (t.map p).all id = t.all p := by simp
theorem toks_end (f : List Nat → List Nat) : ∀ (s run : List Nat) (a : Nat), toks f run (s ++ [46]) a = toks f run s a
  | [], run, a => by
    show (if 46 ∈ lets then _ else _) = _
    rw [if_neg (by decide)]
    simp [toks]
  | c :: s, run, a => by
    rw [List.cons_append, toks, toks, toks_end f s, toks_end f s]
theorem root_len (t : List Nat) : (rootF t).length ≤ t.length := by
  unfold rootF Zn.cutS
  split
  · simp
  · simp
end Zn
namespace Zn
open PySem PySem.Spec L2 TL Zd
theorem enum_len (t : List Nat) : (enumS t).length = t.length := by simp [enumS]
theorem enum_at {t : List Nat} {pre post : List D} {x : D} (h : enumS t = pre ++ x :: post) : ∃ c, x = .tup [.int (pre.length : Nat), .str [c]] ∧ t[pre.length]? = some c ∧ pre.length < t.length := by
  have h1 : (enumS t)[pre.length]? = some x := by rw [h]; simp
  unfold enumS at h1
  rw [List.getElem?_map, List.getElem?_zipIdx] at h1
  cases e : t[pre.length]? with
  | none => rw [e] at h1; cases h1
  | some c =>
    rw [e] at h1
    simp only [Option.map_some, Nat.zero_add, Option.some.injEq] at h1
    exact ⟨c, h1.symm, rfl, (List.getElem?_eq_some_iff.mp e).1⟩
theorem drop_at {t : List Nat} {i c : Nat} (h : t[i]? = some c) : t.drop i = c :: t.drop (i + 1) := by
  obtain ⟨h1, h2⟩ := List.getElem?_eq_some_iff.mp h
  rw [List.drop_eq_getElem_cons h1, h2]
theorem run_snoc {t : List Nat} {f i c : Nat} (hf : f ≤ i) (h : t[i]? = some c) : (t.drop f).take (i + 1 - f) = (t.drop f).take (i - f) ++ [c] := by
  rw [show i + 1 - f = (i - f) + 1 by omega, List.take_add_one, List.getElem?_drop, show f + (i - f) = i by omega, h]
  rfl
theorem run_len {t : List Nat} {f i : Nat} (hf : f ≤ i) (hi : i ≤ t.length) : ((t.drop f).take (i - f)).length = i - f := by simp; omega
theorem toks_len (g : List Nat → List Nat) : ∀ (s run : List Nat) (a : Nat), (toks g run s a).length ≤ s.length + 1
  | [], run, a => by unfold toks; split <;> simp
  | c :: s, run, a => by
    unfold toks
    split
    · have := toks_len g s (run ++ [c]) (a + 1); simp; omega
    · have := toks_len g s [] (a + 1)
      rw [List.length_append]
      split
      · simp; omega
      · simp; omega
end Zn
namespace Zn
open PySem PySem.Spec L2 TL Zd
theorem ok_lst_ints {ns : List Int} : okD (.lst (ns.map D.int)) = True := by simp [okD, cln, dep, clns_ints]
theorem eq_lst_nil {ns : List Int} : eqD (.lst (ns.map D.int)) (.lst []) = ns.isEmpty := by cases ns <;> simp [eqD, eqDs]
theorem great_at {i c : Nat} (h : great[i]? = some c) : littl[i]? = some (PyProof.Rows.lo1 c) := by
  have hi : i < 26 := (List.getElem?_eq_some_iff.mp h).1
  obtain ⟨c', h1, h2⟩ := low_great i hi
  rw [h] at h1
  cases h1
  exact h2
end Zn
namespace Zn
open PySem PySem.Spec L2 TL Zd
theorem lets_asc : ∀ c ∈ lets, c < 128 := by decide
theorem asc_snoc {r : List Nat} {c : Nat} (h : Asc r) (hc : c < 128) : Asc (r ++ [c]) := h.append fun k hk => by rw [List.mem_singleton.mp hk]; exact hc
end Zn
namespace Zn
open PySem PySem.Spec L2 TL Zd
theorem clns_strs8 : ∀ xs : List (List Nat), clns (xs.map D.str) = true ∧ deps (xs.map D.str) = 0
  | [] => ⟨rfl, rfl⟩
  | x :: xs => by simp [clns, deps, cln, dep, clns_strs8 xs]
theorem ok_strs8 (xs : List (List Nat)) : okD (.lst (xs.map D.str)) := by simp [okD, cln, dep, clns_strs8]
theorem eq_strs_nil8 (xs : List (List Nat)) : eqD (.lst (xs.map D.str)) (.lst []) = decide (xs = []) := by cases xs <;> simp [eqD, eqDs]
theorem fm_filter8 {α β : Type} {t : List α} (b : α → Bool) (p : α → β) : (t.flatMap fun c => if b c = true then [p c] else []) = (t.filter b).map p := by
  induction t with
  | nil => rfl
  | cons c t ih => by_cases h : b c = true <;> simp [h, ih]
theorem ones_filter8 (b : Nat → Bool) (t : List Nat) : (t.flatMap fun c => if b c = true then [D.str [c]] else []) = ((t.filter b).map fun c => [c]).map D.str := by rw [fm_filter8, List.map_map]; rfl
end Zn
namespace Zn
open PySem PySem.Spec L2 TL Zd
theorem lo1_idem (c : Nat) : PyProof.Rows.lo1 (PyProof.Rows.lo1 c) = PyProof.Rows.lo1 c := by
  by_cases h : 65 ≤ c ∧ c ≤ 90
  · have e : PyProof.Rows.lo1 c = c + 32 := if_pos h
    rw [e]
    exact if_neg (by omega)
  · have e : PyProof.Rows.lo1 c = c := if_neg h
    rw [e, e]
theorem cutS_sub (s : List Nat) : ∀ c ∈ Zn.cutS s, c ∈ s := by
  intro c hc
  unfold Zn.cutS at hc
  split at hc
  · exact List.dropLast_subset _ hc
  · exact hc
theorem map_lo_id {s : List Nat} (h : ∀ c ∈ s, PyProof.Rows.lo1 c = c) : s.map PyProof.Rows.lo1 = s := by
  induction s with
  | nil => rfl
  | cons c s ih => rw [List.map_cons, h c List.mem_cons_self, ih fun d hd => h d (List.mem_cons_of_mem _ hd)]
theorem cutS_idem (s : List Nat) : Zn.cutS (Zn.cutS s) = Zn.cutS s := by
  by_cases h : 4 ≤ s.length ∧ s[s.length - 1]? = some 115 ∧ s[s.length - 2]? ≠ some 115
  · have e : Zn.cutS s = s.dropLast := if_pos h
    rw [e]
    refine if_neg fun z => h.2.2 ?_
    have := z.2.1
    rw [List.length_dropLast, List.getElem?_dropLast] at this
    rw [if_pos (by omega)] at this
    rw [show s.length - 2 = s.length - 1 - 1 by omega]
    exact this
  · have e : Zn.cutS s = s := if_neg h
    rw [e, e]
theorem root_idem (t : List Nat) : rootF (rootF t) = rootF t := by
  unfold rootF
  rw [map_lo_id, cutS_idem]
  intro c hc
  obtain ⟨d, _, rfl⟩ := List.mem_map.mp (cutS_sub _ c hc)
  exact lo1_idem d
theorem lo1_asc {c : Nat} (h : c < 128) : PyProof.Rows.lo1 c < 128 := by
  have : ∀ c < 128, PyProof.Rows.lo1 c < 128 := by decide +kernel
  exact this c h
theorem root_asc {t : List Nat} (h : Asc t) : Asc (rootF t) := fun c hc => by
  obtain ⟨d, hd, rfl⟩ := List.mem_map.mp (cutS_sub _ c hc)
  exact lo1_asc (h d hd)
theorem take_drop_snoc {t : List Nat} {i n c : Nat} (h : t[i + n]? = some c) : (t.drop i).take (n + 1) = (t.drop i).take n ++ [c] := by
  rw [List.take_add_one, List.getElem?_drop, h]
  rfl
/-- what stands in the tokens of a text -/
theorem toks_mem (g : List Nat → List Nat) (t : List Nat) : ∀ (s : List Nat) (f a : Nat), f ≤ a → s = t.drop a → a ≤ t.length → ∀ p ∈ toks g ((t.drop f).take (a - f)) s a,
    p.2.1 ≤ p.2.2 ∧ p.2.2 ≤ t.length ∧ p.1 = g ((t.drop p.2.1).take (p.2.2 - p.2.1))
  | [], f, a, hf, hs, ha, p, hp => by
    have hr := run_len hf ha
    unfold toks at hp
    split at hp
    · cases hp
    · rw [List.mem_singleton] at hp
      subst hp
      rw [hr, show a - (a - f) = f by omega]
      exact ⟨hf, ha, rfl⟩
  | c :: s, f, a, hf, hs, ha, p, hp => by
    have hr := run_len hf ha
    have hlt : a < t.length := by
      have := congrArg List.length hs
      simp at this
      omega
    have hc : t[a]? = some c := by
      have : (t.drop a)[0]? = some c := by rw [← hs]; rfl
      rwa [List.getElem?_drop, Nat.add_zero] at this
    have hs' : s = t.drop (a + 1) := by
      have := drop_at hc
      rw [← hs] at this
      exact (List.cons.inj this).2
    unfold toks at hp
    split at hp
    · refine toks_mem g t s f (a + 1) (by omega) hs' hlt p ?_
      rw [run_snoc hf hc]
      exact hp
    · rcases List.mem_append.mp hp with hp | hp
      · split at hp
        · cases hp
        · rw [List.mem_singleton] at hp
          subst hp
          rw [hr, show a - (a - f) = f by omega]
          exact ⟨hf, ha, rfl⟩
      · refine toks_mem g t s (a + 1) (a + 1) (Nat.le_refl _) hs' hlt p ?_
        rw [Nat.sub_self, List.take_zero]
        exact hp
theorem toks_mem0 (g : List Nat → List Nat) (t : List Nat) : ∀ p ∈ toks g [] t 0, p.2.1 ≤ p.2.2 ∧ p.2.2 ≤ t.length ∧ p.1 = g ((t.drop p.2.1).take (p.2.2 - p.2.1)) := fun p hp =>
  toks_mem g t t 0 0 (Nat.le_refl _) rfl (Nat.zero_le _) p (by simpa using hp)
theorem ok_toks (ps : List (List Nat × Nat × Nat)) : okD (.lst (ps.map tokD)) := by
  have hc : clns (ps.map tokD) = true := clns_of fun x hx => by
    obtain ⟨p, _, rfl⟩ := List.mem_map.mp hx
    simp [tokD, cln, clns]
  have hd : deps (ps.map tokD) ≤ 1 := deps_of fun x hx => by
    obtain ⟨p, _, rfl⟩ := List.mem_map.mp hx
    simp [tokD, dep, deps]
  unfold okD
  simp [cln, dep, hc]
  omega
theorem repOk_toks {t : List Nat} (hl : t.length ≤ 1000) (ha : Asc t) {g : List Nat → List Nat} (hg : ∀ s, Asc s → Asc (g s)) (hg2 : ∀ s, (g s).length ≤ 12) : repOk (.lst ((toks g [] t 0).map tokD)) := by
  have key : ∀ x ∈ (toks g [] t 0).map tokD, smi x = true ∧ wt x ≤ 98 := by
    intro x hx
    obtain ⟨p, hp, rfl⟩ := List.mem_map.mp hx
    obtain ⟨h1, h2, h3⟩ := toks_mem0 g t p hp
    have hl2 : p.1.length ≤ 12 := by rw [h3]; exact hg2 _
    have ha2 : Asc p.1 := by rw [h3]; exact hg _ (Asc.take _ (Asc.drop _ ha))
    refine ⟨?_, ?_⟩
    · have : p.1.all (fun c => decide (c < 128)) = true := by simp only [List.all_eq_true, decide_eq_true_eq]; exact ha2
      simp only [tokD, smi, smis, this, Bool.and_true, Bool.true_and, Bool.and_eq_true, decide_eq_true_eq]
      have e : (10 : Nat) ^ 12 = 1000000000000 := by decide
      omega
    · simp only [tokD, wt, wts]
      omega
  refine repOk_of (ok_toks _) (smis_of fun x hx => (key x hx).1) ?_
  have h1 := wts_le fun x hx => (key x hx).2
  have h2 := toks_len g t [] 0
  rw [List.length_map] at h1
  show wts _ ≤ _
  have : (toks g [] t 0).length * (98 + 1) ≤ 1001 * 99 := Nat.mul_le_mul_right _ (by omega)
  omega
end Zn
namespace Zn
open PySem PySem.Spec L2 TL Zd
def OddT (x : D) : Prop := x = .non ∨ (∃ i, x = .int i) ∨ (∃ b, x = .bl b) ∨ (∃ xs, x = .lst xs) ∨ (∃ xs, x = .tup xs) ∨ (∃ xs, x = .dic xs)
/-- a thing of which is asked whether it is a word -/
def Thing (x : D) : Prop := (∃ t : List Nat, x = .str t ∧ t.length ≤ 4000 ∧ Asc t) ∨ OddT x
def isw (x : D) : Bool := match x with
  | .str t => decide (1 ≤ t.length ∧ t.length ≤ 12) && ((t.all fun c => decide (c ∈ small)) && decide (rootF t = t))
  | _ => false
theorem thing_str {t : List Nat} (h : t.length ≤ 4000) (ha : Asc t) : Thing (.str t) := .inl ⟨t, rfl, h, ha⟩
theorem things0 : ∀ x ∈ ([D.str [], D.str [97, 32, 98], D.str [99, 97, 116, 10], D.str [99, 97, 116, 32], D.non, D.int 5, D.bl true, D.lst [D.str [97]], D.tup [D.str [97]], D.dic [], D.str [97, 45, 98],
    D.str [97, 98, 99, 100, 101, 102, 103, 104, 105, 106, 107, 108, 109], D.str [97, 98, 99, 100, 101, 102, 103, 104, 105, 106, 107, 115]] : List D), Thing x := by
  intro x hx
  simp only [List.mem_cons, List.not_mem_nil, or_false] at hx
  rcases hx with rfl | rfl | rfl | rfl | rfl | rfl | rfl | rfl | rfl | rfl | rfl | rfl | rfl
  all_goals first
    | exact thing_str (by decide) (asc_of (by decide))
    | exact .inr (.inl rfl)
    | exact .inr (.inr (.inl ⟨_, rfl⟩))
    | exact .inr (.inr (.inr (.inl ⟨_, rfl⟩)))
    | exact .inr (.inr (.inr (.inr (.inl ⟨_, rfl⟩))))
    | exact .inr (.inr (.inr (.inr (.inr (.inl ⟨_, rfl⟩)))))
    | exact .inr (.inr (.inr (.inr (.inr (.inr ⟨_, rfl⟩)))))
theorem up1_asc : ∀ c < 128, (if 97 ≤ c ∧ c ≤ 122 then c - 32 else c) < 128 := by decide +kernel
end Zn
namespace Zn
open PySem PySem.Spec L2 TL Zd
/-- a question -/
inductive Qn where
  | word (w : List Nat) | title (w : List Nat) | row (ws : List (List Nat)) | near (n : Nat) (w x : List Nat) | house (h : List Nat)
  | not (q : Qn) | all (qs : List Qn) | any (qs : List Qn)
def kWord : List Nat := [119, 111, 114, 100]
def kTitle : List Nat := [116, 105, 116, 108, 101]
def kRow : List Nat := [114, 111, 119]
def kNear : List Nat := [110, 101, 97, 114]
def kHouse : List Nat := [104, 111, 117, 115, 101]
def kNot : List Nat := [110, 111, 116]
def kAll : List Nat := [97, 108, 108]
def kAny : List Nat := [97, 110, 121]
mutual
def qD : Qn → D
  | .word w => .tup [.str kWord, .str w]
  | .title w => .tup [.str kTitle, .str w]
  | .row ws => .tup [.str kRow, .tup (ws.map D.str)]
  | .near n w x => .tup [.str kNear, .int (n : Nat), .str w, .str x]
  | .house h => .tup [.str kHouse, .str h]
  | .not q => .tup [.str kNot, qD q]
  | .all qs => .tup [.str kAll, .tup (qDs qs)]
  | .any qs => .tup [.str kAny, .tup (qDs qs)]
def qDs : List Qn → List D
  | [] => []
  | q :: qs => qD q :: qDs qs
end
mutual
def leaves : Qn → Nat
  | .not q => leaves q
  | .all qs => leavess qs
  | .any qs => leavess qs
  | .word _ => 1
  | .title _ => 1
  | .row _ => 1
  | .near _ _ _ => 1
  | .house _ => 1
def leavess : List Qn → Nat
  | [] => 0
  | q :: qs => leaves q + leavess qs
end
mutual
def deep : Qn → Nat
  | .not q => deep q + 1
  | .all qs => deeps qs + 1
  | .any qs => deeps qs + 1
  | .word _ => 1
  | .title _ => 1
  | .row _ => 1
  | .near _ _ _ => 1
  | .house _ => 1
def deeps : List Qn → Nat
  | [] => 0
  | q :: qs => max (deep q) (deeps qs)
end
def WordOk (w : List Nat) : Prop := isw (.str w) = true
mutual
def good : Qn → Prop
  | .word w => WordOk w
  | .title w => WordOk w
  | .row ws => (2 ≤ ws.length ∧ ws.length ≤ 4) ∧ ∀ w ∈ ws, WordOk w
  | .near n w x => (1 ≤ n ∧ n ≤ 9) ∧ WordOk w ∧ WordOk x
  | .house h => nameOk h = true
  | .not q => good q
  | .all qs => (2 ≤ qs.length ∧ qs.length ≤ 6) ∧ goods qs
  | .any qs => (2 ≤ qs.length ∧ qs.length ≤ 6) ∧ goods qs
def goods : List Qn → Prop
  | [] => True
  | q :: qs => good q ∧ goods qs
end
mutual
def asked : Qn → List (List Nat)
  | .word w => [w]
  | .title w => [w]
  | .row ws => ws
  | .near _ w x => [w, x]
  | .house _ => []
  | .not _ => []
  | .all qs => askeds qs
  | .any qs => askeds qs
def askeds : List Qn → List (List Nat)
  | [] => []
  | q :: qs => asked q ++ askeds qs
end
theorem word_len {w : List Nat} (h : WordOk w) : 1 ≤ w.length ∧ w.length ≤ 12 ∧ (∀ c ∈ w, c ∈ small) ∧ rootF w = w := by
  unfold WordOk isw at h
  simp only [Bool.and_eq_true, decide_eq_true_eq, List.all_eq_true] at h
  exact ⟨h.1.1, h.1.2, h.2.1, h.2.2⟩
theorem small_asc : ∀ c ∈ small, c < 128 := by decide
theorem word_asc {w : List Nat} (h : WordOk w) : Asc w := fun c hc => small_asc c ((word_len h).2.2.1 c hc)
theorem name_asc {w : List Nat} (h : nameOk w = true) : Asc w ∧ 1 ≤ w.length ∧ w.length ≤ 8 := by
  unfold nameOk at h
  simp only [Bool.and_eq_true, decide_eq_true_eq, List.all_eq_true] at h
  exact ⟨fun c hc => small_asc c (h.2 c hc), h.1⟩
theorem qDs_map : ∀ qs : List Qn, qDs qs = qs.map qD
  | [] => rfl
  | q :: qs => by rw [qDs, qDs_map qs]; rfl
theorem goods_all : ∀ {qs : List Qn}, goods qs → ∀ q ∈ qs, good q
  | [], _, q, h => nomatch h
  | p :: qs, h, q, hq => by
    rcases List.mem_cons.mp hq with rfl | hq
    · exact h.1
    · exact goods_all h.2 q hq
theorem goods_of : ∀ {qs : List Qn}, (∀ q ∈ qs, good q) → goods qs
  | [], _ => trivial
  | p :: qs, h => ⟨h p List.mem_cons_self, goods_of fun q hq => h q (List.mem_cons_of_mem _ hq)⟩
theorem deeps_all : ∀ {qs : List Qn}, ∀ q ∈ qs, deep q ≤ deeps qs
  | [], q, h => nomatch h
  | p :: qs, q, hq => by
    rw [deeps]
    rcases List.mem_cons.mp hq with rfl | hq
    · omega
    · have := deeps_all q hq; omega
theorem deeps_of {d : Nat} : ∀ {qs : List Qn}, (∀ q ∈ qs, deep q ≤ d) → deeps qs ≤ d
  | [], _ => Nat.zero_le _
  | p :: qs, h => by
    have h1 := h p List.mem_cons_self
    have h2 := deeps_of fun q hq => h q (List.mem_cons_of_mem _ hq)
    rw [deeps]
    omega
theorem leavess_sum : ∀ qs : List Qn, leavess qs = (qs.map leaves).sum
  | [] => rfl
  | q :: qs => by rw [leavess, leavess_sum qs]; simp
theorem deep_pos : ∀ q : Qn, 1 ≤ deep q := fun q => by cases q <;> simp [deep]
mutual
theorem leaves_pos : ∀ q : Qn, good q → 1 ≤ leaves q
  | .word _, _ => Nat.le_refl _
  | .title _, _ => Nat.le_refl _
  | .row _, _ => Nat.le_refl _
  | .near _ _ _, _ => Nat.le_refl _
  | .house _, _ => Nat.le_refl _
  | .not q, h => leaves_pos q h
  | .all qs, h => by
    have := leavess_pos qs h.2
    have h1 : (2 ≤ qs.length ∧ qs.length ≤ 6) := h.1
    show 1 ≤ leavess qs
    omega
  | .any qs, h => by
    have := leavess_pos qs h.2
    have h1 : (2 ≤ qs.length ∧ qs.length ≤ 6) := h.1
    show 1 ≤ leavess qs
    omega
theorem leavess_pos : ∀ qs : List Qn, goods qs → qs.length ≤ leavess qs
  | [], _ => Nat.le_refl _
  | q :: qs, h => by
    have h1 := leaves_pos q h.1
    have h2 := leavess_pos qs h.2
    rw [leavess, List.length_cons]
    omega
end
mutual
theorem q_wt : ∀ q : Qn, good q → wt (qD q) + 6 ≤ 100 * (leaves q * deep q) ∧ smi (qD q) = true ∧ cln (qD q) = true ∧ dep (qD q) ≤ 2 * deep q
  | .word w, h => by
    have h1 := word_len (show WordOk w from h)
    have h2 : w.all (fun c => decide (c < 128)) = true := by simp only [List.all_eq_true, decide_eq_true_eq]; exact word_asc (show WordOk w from h)
    simp [qD, wt, wts, smi, smis, cln, clns, dep, deps, leaves, deep, kWord, h2]
    omega
  | .title w, h => by
    have h1 := word_len (show WordOk w from h)
    have h2 : w.all (fun c => decide (c < 128)) = true := by simp only [List.all_eq_true, decide_eq_true_eq]; exact word_asc (show WordOk w from h)
    simp [qD, wt, wts, smi, smis, cln, clns, dep, deps, leaves, deep, kTitle, h2]
    omega
  | .house w, h => by
    have h1 := name_asc (show nameOk w = true from h)
    have h2 : w.all (fun c => decide (c < 128)) = true := by simp only [List.all_eq_true, decide_eq_true_eq]; exact h1.1
    simp [qD, wt, wts, smi, smis, cln, clns, dep, deps, leaves, deep, kHouse, h2]
    omega
  | .near n w x, h => by
    obtain ⟨h0, h1, h2⟩ := h
    have a1 := word_len h1
    have a2 := word_len h2
    have b1 : w.all (fun c => decide (c < 128)) = true := by simp only [List.all_eq_true, decide_eq_true_eq]; exact word_asc h1
    have b2 : x.all (fun c => decide (c < 128)) = true := by simp only [List.all_eq_true, decide_eq_true_eq]; exact word_asc h2
    have b3 : (decide ((n : Int).natAbs < 1000000000000)) = true := by simp; omega
    simp [qD, wt, wts, smi, smis, cln, clns, dep, deps, leaves, deep, kNear, b1, b2]
    omega
  | .row ws, h => by
    obtain ⟨h0, h1⟩ := h
    have key : ∀ x ∈ ws.map D.str, wt x ≤ 12 ∧ smi x = true ∧ cln x = true ∧ dep x ≤ 0 := by
      intro x hx
      obtain ⟨w, hw, rfl⟩ := List.mem_map.mp hx
      refine ⟨(word_len (h1 w hw)).2.1, ?_, rfl, Nat.le_refl _⟩
      simp only [smi, List.all_eq_true, decide_eq_true_eq]
      exact word_asc (h1 w hw)
    have k1 := wts_le fun x hx => (key x hx).1
    have k2 := smis_of fun x hx => (key x hx).2.1
    have k3 := clns_of fun x hx => (key x hx).2.2.1
    have k4 := deps_of fun x hx => (key x hx).2.2.2
    rw [List.length_map] at k1
    simp [qD, wt, wts, smi, smis, cln, clns, dep, deps, leaves, deep, kRow, k2, k3]
    omega
  | .not q, h => by
    obtain ⟨h1, h2, h3, h4⟩ := q_wt q h
    have hp := leaves_pos q h
    have e : leaves q * (deep q + 1) = leaves q * deep q + leaves q := Nat.mul_succ _ _
    have : wt (qD (.not q)) = 3 + 1 + (wt (qD q) + 1 + 0) := rfl
    have l1 : leaves (.not q) = leaves q := rfl
    have l2 : deep (.not q) = deep q + 1 := rfl
    have l3 : dep (qD (.not q)) = max 0 (max (dep (qD q)) 0) + 1 := rfl
    refine ⟨by rw [this, l1, l2, e]; omega, by simp [qD, smi, smis, kNot, h2], by simp [qD, cln, clns, h3], by rw [l3, l2]; omega⟩
  | .all qs, h => by
    obtain ⟨h1, h2, h3, h4⟩ := qs_wt qs h.2
    have hp := leavess_pos qs h.2
    have hl : (2 ≤ qs.length ∧ qs.length ≤ 6) := h.1
    have e : leavess qs * (deeps qs + 1) = leavess qs * deeps qs + leavess qs := Nat.mul_succ _ _
    have : wt (qD (.all qs)) = 3 + 1 + (wts (qDs qs) + 1 + 0) := rfl
    have l1 : leaves (.all qs) = leavess qs := rfl
    have l2 : deep (.all qs) = deeps qs + 1 := rfl
    have l3 : dep (qD (.all qs)) = max 0 (max (deps (qDs qs) + 1) 0) + 1 := rfl
    refine ⟨by rw [this, l1, l2, e]; omega, by simp [qD, smi, smis, kAll, h2], by simp [qD, cln, clns, h3], by rw [l3, l2]; omega⟩
  | .any qs, h => by
    obtain ⟨h1, h2, h3, h4⟩ := qs_wt qs h.2
    have hp := leavess_pos qs h.2
    have hl : (2 ≤ qs.length ∧ qs.length ≤ 6) := h.1
    have e : leavess qs * (deeps qs + 1) = leavess qs * deeps qs + leavess qs := Nat.mul_succ _ _
    have : wt (qD (.any qs)) = 3 + 1 + (wts (qDs qs) + 1 + 0) := rfl
    have l1 : leaves (.any qs) = leavess qs := rfl
    have l2 : deep (.any qs) = deeps qs + 1 := rfl
    have l3 : dep (qD (.any qs)) = max 0 (max (deps (qDs qs) + 1) 0) + 1 := rfl
    refine ⟨by rw [this, l1, l2, e]; omega, by simp [qD, smi, smis, kAny, h2], by simp [qD, cln, clns, h3], by rw [l3, l2]; omega⟩
theorem qs_wt : ∀ qs : List Qn, goods qs → wts (qDs qs) ≤ 100 * (leavess qs * deeps qs) ∧ smis (qDs qs) = true ∧ clns (qDs qs) = true ∧ deps (qDs qs) ≤ 2 * deeps qs
  | [], _ => ⟨Nat.zero_le _, rfl, rfl, Nat.zero_le _⟩
  | q :: qs, h => by
    obtain ⟨a1, a2, a3, a4⟩ := q_wt q h.1
    obtain ⟨b1, b2, b3, b4⟩ := qs_wt qs h.2
    have e1 : leaves q * deep q ≤ leaves q * deeps (q :: qs) := Nat.mul_le_mul_left _ (by rw [deeps]; omega)
    have e2 : leavess qs * deeps qs ≤ leavess qs * deeps (q :: qs) := Nat.mul_le_mul_left _ (by rw [deeps]; omega)
    have e3 : leavess (q :: qs) * deeps (q :: qs) = leaves q * deeps (q :: qs) + leavess qs * deeps (q :: qs) := by rw [leavess, Nat.add_mul]
    refine ⟨?_, by simp [qDs, smis, a2, b2], by simp [qDs, clns, a3, b3], ?_⟩
    · rw [e3, qDs, wts]; omega
    · rw [qDs, deps, deeps]; omega
end
theorem q_rep {q : Qn} (h : good q) (hl : leaves q ≤ 12) (hd : deep q ≤ 5) : repOk (qD q) := by
  obtain ⟨h1, h2, h3, h4⟩ := q_wt q h
  refine repOk_of ⟨h3, by omega⟩ h2 ?_
  have : leaves q * deep q ≤ 12 * 5 := Nat.mul_le_mul hl hd
  omega
/-- words as they come, each once -/
def dedup (acc ws : List (List Nat)) : List (List Nat) := ws.foldl (fun acc w => if w ∈ acc then acc else acc ++ [w]) acc
def KsOf (ws : List (List Nat)) : List (KD × D) := ws.map fun w => (KD.s w, D.bl true)
theorem pairs_tt : ∀ ws : List (List Nat), pairsOf (ws.map fun w => D.tup [.str w, .bl true]) = some (KsOf ws)
  | [] => rfl
  | w :: ws => by
    have e := pairs_tt ws
    show (match (D.tup [.str w, .bl true]), pairsOf (ws.map fun w => D.tup [.str w, .bl true]) with
      | .tup [.str c, y], some r => some ((KD.s c, y) :: r)
      | .tup [.int i, y], some r => some ((KD.i i, y) :: r)
      | _, _ => none) = _
    rw [e]
    rfl
theorem put_tt (acc : List (List Nat)) (w : List Nat) : putD (KsOf acc) (.s w) (.bl true) = KsOf (if w ∈ acc then acc else acc ++ [w]) := by
  unfold putD KsOf
  have e : (List.map (fun w => (KD.s w, D.bl true)) acc).any (fun kv => decide (kv.1 = KD.s w)) = decide (w ∈ acc) := by
    induction acc with
    | nil => simp
    | cons a acc ih =>
      simp only [List.map_cons, List.any_cons, ih, List.mem_cons, Bool.decide_or]
      congr 1
      simp [eq_comm]
  rw [e]
  by_cases h : w ∈ acc
  · rw [if_pos (by simpa using h), if_pos h, List.map_map]
    refine List.map_congr_left fun a _ => ?_
    show (if KD.s a = KD.s w then (KD.s a, D.bl true) else (KD.s a, D.bl true)) = _
    simp
  · rw [if_neg (by simpa using h), if_neg h]
    simp
theorem merge_tt : ∀ (ws acc : List (List Nat)), mergeD (KsOf acc) (KsOf ws) = KsOf (dedup acc ws)
  | [], acc => rfl
  | w :: ws, acc => by
    show mergeD (putD (KsOf acc) (.s w) (.bl true)) (KsOf ws) = _
    rw [put_tt, merge_tt ws]
    rfl
theorem dedup_sub {ws : List (List Nat)} : ∀ {acc : List (List Nat)}, ∀ x ∈ dedup acc ws, x ∈ acc ∨ x ∈ ws := by
  induction ws with
  | nil => intro acc x hx; exact .inl hx
  | cons w ws ih =>
    intro acc x hx
    rcases ih x hx with h | h
    · change x ∈ (if w ∈ acc then acc else acc ++ [w]) at h
      by_cases hw : w ∈ acc
      · rw [if_pos hw] at h; exact .inl h
      · rw [if_neg hw] at h
        rcases List.mem_append.mp h with h | h
        · exact .inl h
        · rw [List.mem_singleton.mp h]; exact .inr List.mem_cons_self
    · exact .inr (List.mem_cons_of_mem _ h)
theorem dedup_len (ws : List (List Nat)) : ∀ acc : List (List Nat), (dedup acc ws).length ≤ acc.length + ws.length := by
  induction ws with
  | nil => intro acc; exact Nat.le_refl _
  | cons w ws ih =>
    intro acc
    have := ih (if w ∈ acc then acc else acc ++ [w])
    rw [List.length_cons]
    show (dedup (if w ∈ acc then acc else acc ++ [w]) ws).length ≤ _
    split at this
    · rename_i h; rw [if_pos h]; omega
    · rename_i h; rw [if_neg h]; simp at this; omega
mutual
theorem asked_ok : ∀ q : Qn, good q → (∀ w ∈ asked q, WordOk w) ∧ (asked q).length ≤ 4 * leaves q
  | .word w, h => ⟨fun x hx => by rw [List.mem_singleton.mp hx]; exact h, by simp [asked, leaves]⟩
  | .title w, h => ⟨fun x hx => by rw [List.mem_singleton.mp hx]; exact h, by simp [asked, leaves]⟩
  | .row ws, h => ⟨h.2, h.1.2⟩
  | .near n w x, h => ⟨fun y hy => by
      simp only [asked, List.mem_cons, List.not_mem_nil, or_false] at hy
      rcases hy with rfl | rfl
      · exact h.2.1
      · exact h.2.2, by simp [asked, leaves]⟩
  | .house _, _ => ⟨fun _ h => (nomatch h), Nat.zero_le _⟩
  | .not _, _ => ⟨fun _ h => (nomatch h), Nat.zero_le _⟩
  | .all qs, h => askeds_ok qs h.2
  | .any qs, h => askeds_ok qs h.2
theorem askeds_ok : ∀ qs : List Qn, goods qs → (∀ w ∈ askeds qs, WordOk w) ∧ (askeds qs).length ≤ 4 * leavess qs
  | [], _ => ⟨fun _ h => (nomatch h), Nat.zero_le _⟩
  | q :: qs, h => by
    obtain ⟨a1, a2⟩ := asked_ok q h.1
    obtain ⟨b1, b2⟩ := askeds_ok qs h.2
    refine ⟨fun w hw => ?_, ?_⟩
    · rcases List.mem_append.mp hw with hw | hw
      · exact a1 w hw
      · exact b1 w hw
    · rw [askeds, leavess, List.length_append]; omega
end
end Zn
namespace Zn
open PySem PySem.Spec L2 TL Zd
def leafQ : Qn → Prop
  | .not _ => False
  | .all _ => False
  | .any _ => False
  | _ => True
def PlainW (w : List Nat) : Prop := w.length ≤ 12
theorem flt_strs : ∀ ws : List (List Nat), (ws.map D.str).all flt1 = true
  | [] => rfl
  | w :: ws => by rw [List.map_cons, List.all_cons, flt_strs ws]; rfl
theorem memD_strs (w : List Nat) : ∀ ws : List (List Nat), memD (.str w) (ws.map D.str) = decide (w ∈ ws)
  | [] => rfl
  | x :: ws => by
    have e : eqD (.str x) (.str w) = decide (w = x) := by
      rw [Bool.eq_iff_iff, decide_eq_true_eq]
      simp only [eqD, beq_iff_eq, decide_eq_true_eq]
      exact ⟨fun h => h.symm, fun h => h.symm⟩
    have := memD_strs w ws
    unfold memD at *
    rw [List.map_cons, List.any_cons, this, e]
    simp only [List.mem_cons, Bool.decide_or]
theorem ok_strsl (ws : List (List Nat)) : okD (.lst (ws.map D.str)) := ok_strs8 ws
section
variable {k : Bool → Prop}
end
theorem fm_true : ∀ ws : List (List Nat), ((ws.map D.str).flatMap fun _ => [D.bl true]) = ws.map fun w => D.bl ((fun _ => true) w)
  | [] => rfl
  | w :: ws => by rw [List.map_cons, List.flatMap_cons, fm_true ws]; rfl
theorem all_true (ws : List (List Nat)) : (ws.map fun _ => true).all id = true := by simp
/-- a comprehension over things that are told of ys -/
theorem fm_ints : ∀ ps : List Qn, (ps.flatMap fun p => [D.int (leaves p : Nat)]) = ps.map fun p => D.int (leaves p : Nat)
  | [] => rfl
  | p :: ps => by rw [List.flatMap_cons, fm_ints ps]; rfl
theorem ints_lv : ∀ ps : List Qn, intsOf (ps.map fun p => D.int (leaves p : Nat)) = some (ps.map fun p => ((leaves p : Nat) : Int))
  | [] => rfl
  | p :: ps => by
    show (match intsOf (ps.map fun p => D.int (leaves p : Nat)) with | some bs => some (((leaves p : Nat) : Int) :: bs) | none => none) = _
    rw [ints_lv ps]; rfl
theorem sum_leaves : ∀ ps : List Qn, (ps.map fun p => ((leaves p : Nat) : Int)).sum = (leavess ps : Nat)
  | [] => rfl
  | p :: ps => by rw [List.map_cons, List.sum_cons, sum_leaves ps, leavess]; omega
theorem no_zero : ∀ ps : List Qn, goods ps → memD (.int 0) (ps.map fun p => D.int (leaves p : Nat)) = false
  | [], _ => rfl
  | p :: ps, h => by
    have := no_zero ps h.2
    have hp := leaves_pos p h.1
    unfold memD at *
    rw [List.map_cons, List.any_cons, this]
    simp [eqD]
    omega
theorem flt_ints (ps : List Qn) : (ps.map fun p => D.int (leaves p : Nat)).all flt1 = true := by simp [flt1]
theorem deeps_pos {ps : List Qn} (h : 1 ≤ ps.length) : 1 ≤ deeps ps := by
  cases ps with
  | nil => simp at h
  | cons p r =>
    have := deep_pos p
    have := deeps_all (qs := p :: r) p List.mem_cons_self
    omega
theorem askeds_fm : ∀ ps : List Qn, (ps.flatMap fun p => (asked p).map D.str) = (askeds ps).map D.str
  | [] => rfl
  | p :: ps => by rw [List.flatMap_cons, askeds_fm ps, askeds, List.map_append]
theorem fm_str1 : ∀ ws : List (List Nat), (ws.flatMap fun w => [D.str w]) = ws.map D.str
  | [] => rfl
  | w :: ws => by rw [List.flatMap_cons, fm_str1 ws]; rfl
theorem leaves_le : ∀ {ps : List Qn}, ∀ p ∈ ps, leaves p ≤ leavess ps
  | [], p, h => nomatch h
  | r :: ps, p, h => by
    rw [leavess]
    rcases List.mem_cons.mp h with rfl | h
    · omega
    · have := leaves_le p h; omega
theorem askeds_snoc (p : Qn) : ∀ ps : List Qn, askeds (ps ++ [p]) = askeds ps ++ asked p
  | [] => by simp [askeds]
  | q :: ps => by rw [List.cons_append, askeds, askeds_snoc p ps, askeds, List.append_assoc]
theorem dedup_snoc (ws : List (List Nat)) (w : List Nat) : dedup [] (ws ++ [w]) = if w ∈ dedup [] ws then dedup [] ws else dedup [] ws ++ [w] := by
  unfold dedup
  rw [List.foldl_append]
  rfl
theorem askeds_app (ps qs : List Qn) : askeds (ps ++ qs) = askeds ps ++ askeds qs := by
  induction ps with
  | nil => rfl
  | cons p ps ih => rw [List.cons_append, askeds, ih, askeds, List.append_assoc]
theorem leaf_one {p : Qn} (h : leafQ p) : leaves p = 1 ∧ deep p = 1 := by cases p <;> first | exact ⟨rfl, rfl⟩ | exact h.elim
theorem minI_le {a b : Int} : minI a b ≤ a ∧ minI a b ≤ b ∧ (minI a b = a ∨ minI a b = b) := by
  unfold minI
  split <;> omega
theorem leavess_app (ps qs : List Qn) : leavess (ps ++ qs) = leavess ps + leavess qs := by
  induction ps with
  | nil => simp [leavess]
  | cons p ps ih => rw [List.cons_append, leavess, ih, leavess]; omega
end Zn
namespace Zn
open PySem PySem.Spec L2 TL Zd
theorem pigeon : ∀ (cs ws : List (List Nat)), cs.Nodup → ws.length < cs.length → ∃ c ∈ cs, c ∉ ws
  | [], ws, _, h => by simp at h
  | c :: cs, ws, hn, h => by
    by_cases hc : c ∈ ws
    · have hn' := List.nodup_cons.mp hn
      have hl := List.length_erase_of_mem hc
      have hp : 0 < ws.length := List.length_pos_of_mem hc
      rw [List.length_cons] at h
      obtain ⟨d, hd, hd2⟩ := pigeon cs (ws.erase c) hn'.2 (by omega)
      refine ⟨d, List.mem_cons_of_mem _ hd, fun z => hd2 ?_⟩
      exact (List.mem_erase_of_ne (fun e => hn'.1 (by rw [← e]; exact hd))).mpr z
    · exact ⟨c, List.mem_cons_self, hc⟩
theorem lo_small : ∀ c ∈ small, PyProof.Rows.lo1 c = c := by decide +kernel
theorem word_of {w : List Nat} (h1 : 1 ≤ w.length) (h2 : w.length ≤ 12) (h3 : ∀ c ∈ w, c ∈ small) (h4 : w.length < 4 ∨ 115 ∉ w) : WordOk w := by
  unfold WordOk isw
  have e : rootF w = w := by
    unfold rootF
    rw [map_lo_id fun c hc => lo_small c (h3 c hc)]
    refine if_neg fun z => ?_
    rcases h4 with h4 | h4
    · omega
    · exact h4 (List.mem_of_getElem? z.2.1)
  show (decide (1 ≤ w.length ∧ w.length ≤ 12) && ((w.all fun c => decide (c ∈ small)) && decide (rootF w = w))) = true
  rw [e]
  simp only [decide_eq_true_eq, Bool.and_eq_true, List.all_eq_true, decide_true, and_true]
  exact ⟨⟨h1, h2⟩, h3⟩
def alph : List Nat := [97, 98, 99, 100, 101, 102, 103, 104, 105, 106, 107, 108, 109, 110, 111, 112, 113, 114, 116, 117, 118, 119, 120, 121, 122, 48, 49, 50, 51, 52, 53, 54, 55, 56, 57]
theorem alph_small : ∀ c ∈ alph, c ∈ small ∧ c ≠ 115 := by decide
theorem word_rand {w : List Nat} (h1 : 1 ≤ w.length) (h2 : w.length ≤ 12) (h3 : ∀ c ∈ w, c ∈ alph) : WordOk w :=
  word_of h1 h2 (fun c hc => (alph_small c (h3 c hc)).1) (.inr fun z => (alph_small 115 (h3 115 z)).2 rfl)
def ahd : List Nat := [97, 98, 99, 100, 101, 102, 103, 104, 105, 106, 107, 108, 109, 110, 111]
def cands (n : Nat) : List (List Nat) := ahd.map fun c => [c, 113, 48 + n]
theorem cands_nodup : ∀ n < 5, (cands n).Nodup := by decide
theorem cands_ok {n : Nat} (h : n < 5) : ∀ w ∈ cands n, WordOk w := by
  intro w hw
  obtain ⟨c, hc, rfl⟩ := List.mem_map.mp hw
  have key : ∀ c ∈ ahd, c ∈ small := by decide
  have key2 : ∀ n < 5, 48 + n ∈ small := by decide
  refine word_of (by simp) (by simp) ?_ (.inl (by simp))
  intro d hd
  simp only [List.cons_append, List.nil_append, List.mem_cons, List.not_mem_nil, or_false] at hd
  rcases hd with rfl | rfl | rfl
  · exact key _ hc
  · decide
  · exact key2 n h
def ownW : List (List Nat) := [[104, 111, 117, 115, 101], [116, 105, 116, 108, 101], [110, 111, 116], [97, 108, 108], [97, 110, 121], [114, 111, 119], [110, 101, 97, 114], [119, 111, 114, 100], [103, 108, 97, 115, 115], [98, 117, 115], [55], [120, 49], [97, 98, 99, 100, 101, 102, 103, 104, 105, 106, 107, 108], [97]]
theorem ownW_ok : ∀ w ∈ ownW, WordOk w := by
  have : (ownW.all fun w => isw (.str w)) = true := by decide +kernel
  intro w hw
  exact List.all_eq_true.mp this w hw
theorem fm_not (ws : List (List Nat)) : ∀ ss : List (List Nat), (ss.flatMap fun w => if w ∈ ws then [] else [D.str w]) = (ss.filter fun w => !decide (w ∈ ws)).map D.str
  | [] => rfl
  | s :: ss => by
    rw [List.flatMap_cons, fm_not ws ss]
    by_cases h : s ∈ ws
    · simp [h]
    · simp [h]
theorem pick_str {ws : List (List Nat)} {r : Int} (h1 : 0 ≤ r) (h2 : r < ws.length) : ∃ w ∈ ws, atI (ws.map D.str) r = some (.str w) := by
  obtain ⟨y, e, hy⟩ := at_of (ys := ws.map D.str) h1 (by simpa using h2)
  obtain ⟨w, hw, rfl⟩ := List.mem_map.mp hy
  exact ⟨w, hw, e⟩
theorem ahd_lit : ([D.str [97], D.str [98], D.str [99], D.str [100], D.str [101], D.str [102], D.str [103], D.str [104], D.str [105], D.str [106], D.str [107], D.str [108], D.str [109], D.str [110], D.str [111]] : List D) = ahd.map fun c => D.str [c] := rfl
theorem some_ok {w : List Nat} {ws : List (List Nat)} (hw : WordOk w) (hl : ws.length < 5) : ∃ ss : List (List Nat), (D.str w :: ahd.map fun c => D.str ([c, 113, 48 + ws.length])) = ss.map D.str ∧ (∀ x ∈ ss, WordOk x) ∧ ss.length = 16 ∧ ∃ c ∈ ss, c ∉ ws := by
  obtain ⟨c, hc, hcn⟩ := pigeon (cands ws.length) ws (cands_nodup _ hl) (by rw [cands, List.length_map]; show ws.length < 15; omega)
  refine ⟨w :: cands ws.length, ?_, fun x hx => ?_, ?_, c, List.mem_cons_of_mem _ hc, hcn⟩
  · rw [List.map_cons, cands, List.map_map]; rfl
  · rcases List.mem_cons.mp hx with rfl | hx
    · exact hw
    · exact cands_ok hl x hx
  · rw [List.length_cons, cands, List.length_map]; rfl
theorem cut_8 {α : Type} {xs : List α} : cut xs none (some 8) = xs.take 8 := cut_to8 8
theorem name_take {w : List Nat} (h : WordOk w) : nameOk (w.take 8) = true := by
  obtain ⟨h1, h2, h3, _⟩ := word_len h
  unfold nameOk
  simp only [Bool.and_eq_true, decide_eq_true_eq, List.all_eq_true, List.length_take]
  exact ⟨by omega, fun c hc => h3 c (List.mem_of_mem_take hc)⟩
theorem fm_tt : ∀ ws : List (List Nat), (ws.flatMap fun w => [D.tup [.str w, .bl true]]) = ws.map fun w => D.tup [.str w, .bl true]
  | [] => rfl
  | w :: ws => by rw [List.flatMap_cons, fm_tt ws]; rfl
theorem keys_tt (ws : List (List Nat)) : ((KsOf ws).map fun kv => keyD kv.1) = ws.map D.str := by
  unfold KsOf
  rw [List.map_map]
  rfl
end Zn
namespace Zn
open PySem PySem.Spec L2 TL Zd
theorem pre10 {c : Nat} {r : List Nat} : pre [10] (c :: r) = decide (c = 10) := by
  unfold pre
  by_cases h : c = 10 <;> simp [h]
theorem spl_sum : ∀ (s acc : List Nat), ((spl [10] 0 acc s).map List.length).sum + (spl [10] 0 acc s).length = acc.length + s.length + 1
  | [], acc => by rw [spl_nil]; simp
  | c :: r, acc => by
    by_cases h : c = 10
    · subst h
      rw [spl_hit (by rw [pre10]; simp)]
      have := spl_sum r []
      simp only [List.length_singleton, Nat.sub_self] at this ⊢
      simp at this ⊢
      omega
    · rw [spl_miss (by rw [pre10]; simpa using h)]
      have := spl_sum r (acc ++ [c])
      simp at this ⊢
      omega
def rowsP (t : List Nat) : List (List Nat) := spl [10] 0 [] t
def othP (t : List Nat) : List (List Nat) := (rowsP t).filter fun r => decide (r.take 1 ≠ [33])
def titP : List (List Nat) → List Nat × List (List Nat)
  | [] => ([], [])
  | r :: rs => if r.take 2 = [35, 32] then (r.drop 2, rs) else ([], r :: rs)
def cutP (t : List Nat) : List Nat × List (List Nat) := cutU (joinL [10] (titP (othP t)).2) 0
def hidP (t : List Nat) : Bool := memD (.str [33, 104, 105, 100, 101]) ((rowsP t).map D.str)
def quiP (t : List Nat) : Bool := memD (.str [33, 113, 117, 105, 101, 116]) ((rowsP t).map D.str)
theorem filt_sum (p : List Nat → Bool) : ∀ xs : List (List Nat), ((xs.filter p).map List.length).sum + (xs.filter p).length ≤ (xs.map List.length).sum + xs.length
  | [] => by simp
  | x :: xs => by
    have := filt_sum p xs
    rw [List.filter_cons]
    split <;> simp at this ⊢ <;> omega
theorem rows_len (t : List Nat) : ((rowsP t).map List.length).sum + (rowsP t).length = t.length + 1 := by
  have := spl_sum t []
  simpa [rowsP] using this
theorem oth_len (t : List Nat) : ((othP t).map List.length).sum + (othP t).length ≤ t.length + 1 := by
  have := filt_sum (fun r => decide (r.take 1 ≠ [33])) (rowsP t)
  have h := rows_len t
  unfold othP
  omega
theorem tit_len : ∀ os : List (List Nat), (titP os).1.length + (((titP os).2.map List.length).sum + (titP os).2.length) ≤ (os.map List.length).sum + os.length
  | [] => by simp [titP]
  | r :: rs => by
    by_cases hh : r.take 2 = [35, 32]
    · rw [show titP (r :: rs) = (r.drop 2, rs) from if_pos hh]
      simp; omega
    · rw [show titP (r :: rs) = ([], r :: rs) from if_neg hh]
      simp
theorem mem_sum : ∀ {xs : List (List Nat)} {c : List Nat}, c ∈ xs → c.length ≤ (xs.map List.length).sum
  | x :: xs, c, h => by
    rcases List.mem_cons.mp h with rfl | h
    · simp
    · have := mem_sum h
      simp; omega
theorem join_len4 (s : Nat) : ∀ xs : List (List Nat), (joinL [s] xs).length ≤ (xs.map List.length).sum + xs.length
  | [] => by simp [joinL]
  | [x] => by simp [joinL]
  | x :: y :: r => by
    have := join_len4 s (y :: r)
    simp [joinL] at this ⊢
    omega
def fR (x : D) : List D := match x with
  | .str r => if r.take 1 = [33] then [] else [.str r]
  | _ => []
theorem fR_c (r : List Nat) : fR (.str r) = if r.take 1 = [33] then [] else [.str r] := rfl
theorem rows_fm : ∀ rs : List (List Nat), ((rs.map D.str).flatMap fR) = (rs.filter fun r => decide (r.take 1 ≠ [33])).map D.str
  | [] => rfl
  | r :: rs => by
    rw [List.map_cons, List.flatMap_cons, fR_c, rows_fm rs, List.filter_cons]
    by_cases h : r.take 1 = [33] <;> simp [h]
theorem sum_bd {b : Nat} : ∀ {xs : List (List Nat)}, (∀ c ∈ xs, c.length ≤ b) → (xs.map List.length).sum ≤ xs.length * b
  | [], _ => by simp
  | x :: xs, h => by
    have h1 := sum_bd fun c hc => h c (List.mem_cons_of_mem _ hc)
    have h2 := h x List.mem_cons_self
    simp [Nat.add_mul] at h1 ⊢
    omega
theorem at_strs {b : Nat} {xs : List (List Nat)} {i : Int} (h0 : 0 ≤ i) (hi : i < xs.length) (h : ∀ c ∈ xs, c.length ≤ b) : ∃ y, atI (xs.map D.str) i = some (.str y) ∧ y.length ≤ b := by
  obtain ⟨y, e, hy⟩ := at_of (ys := xs.map D.str) h0 (by simpa using hi)
  obtain ⟨p, hp, rfl⟩ := List.mem_map.mp hy
  exact ⟨p, e, h p hp⟩
theorem cut_sz (t : List Nat) : ∀ (n i : Nat), t.length - i ≤ n → (cutU t i).1.length + ((cutU t i).2.map List.length).sum ≤ t.length - i ∧ (cutU t i).2.length ≤ t.length - i
  | 0, i, h => by rw [cutU_end (by omega)]; simp
  | n + 1, i, h => by
    by_cases hi : i < t.length
    · cases e : linkAt t i with
      | none =>
        have := cut_sz t n (i + 1) (by omega)
        rw [cutU_sign e (List.getElem?_eq_getElem hi)]
        simp at this ⊢
        omega
      | some p =>
        obtain ⟨w, l, k⟩ := p
        obtain ⟨g1, g2, g3⟩ := link_gt e
        have := cut_sz t n k (by omega)
        rw [cutU_link e hi]
        simp at this ⊢
        omega
    · rw [cutU_end (by omega)]; simp

def rootW (r : List Nat) : List Nat := rootF (r.take 12)
def wordsF (t : List Nat) : List (List Nat) := (toks rootW [] t 0).map (·.1)
theorem wordsF_len (t : List Nat) : (wordsF t).length ≤ t.length + 1 := by
  have := toks_len rootW t [] 0
  simpa [wordsF] using this
def rowIn (ws r : List (List Nat)) : Bool := (List.range ws.length).any fun i => decide ((ws.drop i).take r.length = r)
def nearL (ws : List (List Nat)) (n i : Nat) : List (List Nat) := (ws.drop (i - n)).take (i - (i - n))
def nearR (ws : List (List Nat)) (n i : Nat) : List (List Nat) := (ws.drop (i + 1)).take n
def nearAt (ws : List (List Nat)) (n : Nat) (w x : List Nat) (i : Nat) : Bool := decide (ws[i]? = some w) && (decide (x ∈ nearL ws n i) || decide (x ∈ nearR ws n i))
def nearIn (ws : List (List Nat)) (n : Nat) (w x : List Nat) : Bool := (List.range ws.length).any (nearAt ws n w x)
section
variable (h : List Nat) (ti bo : List (List Nat))
mutual
def fitsF : Qn → Bool
  | .word w => decide (w ∈ ti) || decide (w ∈ bo)
  | .title w => decide (w ∈ ti)
  | .row r => rowIn ti r || rowIn bo r
  | .near n w x => nearIn bo n w x
  | .house p => decide (h = p)
  | .not p => !(fitsF p)
  | .all ps => (fitss ps).all id
  | .any ps => (fitss ps).any id
def fitss : List Qn → List Bool
  | [] => []
  | p :: ps => fitsF p :: fitss ps
end
theorem fitss_map : ∀ ps : List Qn, fitss h ti bo ps = ps.map (fitsF h ti bo)
  | [] => rfl
  | p :: ps => by rw [fitss, fitss_map ps]; rfl
end
theorem near_yes {ws : List (List Nat)} {n i : Nat} {w x : List Nat} (hi : i < ws.length) (h : nearAt ws n w x i = true) : nearIn ws n w x = true :=
  List.any_eq_true.mpr ⟨i, List.mem_range.mpr hi, h⟩
theorem near_no {ws : List (List Nat)} {n : Nat} {w x : List Nat} (h : ∀ i < ws.length, nearAt ws n w x i = false) : nearIn ws n w x = false := by
  unfold nearIn
  rw [List.any_eq_false]
  intro i hi
  rw [h i (List.mem_range.mp hi)]
  exact Bool.false_ne_true
theorem enumL_at {ws : List (List Nat)} {pre post : List D} {x : D} (h : enumL (ws.map D.str) = pre ++ x :: post) : ∃ w, x = .tup [.int (pre.length : Nat), .str w] ∧ ws[pre.length]? = some w ∧ pre.length < ws.length := by
  have hl : pre.length < ws.length := by
    have := congrArg List.length h
    simp [enumL] at this
    omega
  have h2 : (enumL (ws.map D.str))[pre.length]? = some x := by rw [h]; simp
  unfold enumL at h2
  rw [List.getElem?_map, List.getElem?_zipIdx, List.getElem?_map, List.getElem?_eq_getElem hl] at h2
  simp only [Option.map_some, Nat.zero_add, Option.some.injEq] at h2
  exact ⟨_, h2.symm, List.getElem?_eq_getElem hl, hl⟩
theorem enumL_len (xs : List D) : (enumL xs).length = xs.length := by simp [enumL]
theorem cut_map {α β : Type} (f : α → β) (xs : List α) (lo hi : Option Int) : cut (xs.map f) lo hi = (cut xs lo hi).map f := by
  unfold cut
  simp [List.map_take, List.map_drop]
theorem cut_at {α : Type} {xs : List α} {i : Nat} (m : Nat) (h : i ≤ xs.length) : cut xs (some (i : Int)) (some ((i : Int) + (m : Nat))) = (xs.drop i).take m := by
  rw [show ((i : Int) + (m : Nat)) = ((i + m : Nat) : Int) by omega, cut_any _ h]
  congr 1
  omega
theorem maxI_sub (i n : Nat) : maxI 0 ((i : Int) - (n : Nat)) = ((i - n : Nat) : Int) := by
  unfold maxI
  split <;> omega
theorem cut_left {α : Type} {xs : List α} {i : Nat} (n : Nat) (h : i ≤ xs.length) : cut xs (some ((i - n : Nat) : Int)) (some (i : Int)) = (xs.drop (i - n)).take (i - (i - n)) := cut_mid (by omega) h
theorem cut_near1 {α : Type} {xs : List α} {i : Nat} (n : Nat) (h : i + 1 ≤ xs.length) : cut xs (some ((i : Int) + 1)) (some ((i : Int) + (n : Nat) + 1)) = (xs.drop (i + 1)).take n := by
  rw [show ((i : Int) + (n : Nat) + 1) = ((i + n + 1 : Nat) : Int) by omega, cut_p1 _ h]
  congr 1
  omega
theorem cut_near2 {α : Type} {xs : List α} {i : Nat} (n : Nat) (h : i + 1 ≤ xs.length) : cut xs (some ((i : Int) + 1)) (some ((i : Int) + 1 + (n : Nat))) = (xs.drop (i + 1)).take n := by
  rw [show ((i : Int) + 1 + (n : Nat)) = ((i + n + 1 : Nat) : Int) by omega, cut_p1 _ h]
  congr 1
  omega
theorem memD_bl (b : Bool) : ∀ bs : List Bool, memD (.bl b) (bs.map D.bl) = decide (b ∈ bs)
  | [] => rfl
  | c :: bs => by
    have := memD_bl b bs
    unfold memD at *
    rw [List.map_cons, List.any_cons, this]
    cases b <;> cases c <;> simp [eqD]
theorem flt_bls (bs : List Bool) : (bs.map D.bl).all flt1 = true := by simp [flt1]
theorem all_no (bs : List Bool) : (!decide (false ∈ bs)) = bs.all id := by
  induction bs with
  | nil => rfl
  | cons b bs ih => cases b <;> simp at ih ⊢ <;> try exact ih
theorem any_in (bs : List Bool) : decide (true ∈ bs) = bs.any id := by
  induction bs with
  | nil => rfl
  | cons b bs ih => cases b <;> simp at ih ⊢ <;> try exact ih
theorem blsOf_map : ∀ bs : List Bool, blsOf (bs.map D.bl) = some bs := fun bs => by
  have := bls_map8 (fun b : Bool => b) bs
  simpa using this
def szP (xs : List (List Nat)) : Nat := (xs.map List.length).sum + xs.length
theorem szP_app (a b : List (List Nat)) : szP (a ++ b) = szP a + szP b := by simp [szP]; omega
theorem szP_td (xs : List (List Nat)) (n : Nat) : szP (xs.take n) + szP (xs.drop n) = szP xs := by
  rw [← szP_app, List.take_append_drop]
theorem fm_pair {α : Type} (p : α → D) (xs : List α) : (xs.flatMap fun c => [p c]) = xs.map p := fm_one p
theorem any_id8 {α : Type} (p : α → Bool) (t : List α) : (t.map p).any id = t.any p := by simp
end Zn
set_option maxHeartbeats 4000000
namespace Pasifread_k76_whole_things_read_back
open PySem PySem.Spec L2 TL Zd
def topS (i : Nat) : Stmt := PySem.Challenge.pw_asifread_k76_whole_things_read_back.main.body.getD i (.Pass ⟨0, 0, 0, 0⟩)
def tbl_STROKED : List (List Nat × List Nat) := [([34], [34]), ([92], [92]), ([110], [10])]
abbrev s_made_of : Stmt := topS 4
abbrev n_made_of : List Str := ["text", "signs", "sign"]
theorem sc_made_of : FnScope n_made_of ["text", "signs"] (defScope s_made_of) := ⟨rfl, rfl, rfl, by decide +kernel, rfl, by decide +kernel, by decide +kernel⟩
abbrev s_run_end : Stmt := topS 5
abbrev n_run_end : List Str := ["text", "at", "barred"]
theorem sc_run_end : FnScope n_run_end ["text", "at", "barred"] (defScope s_run_end) := ⟨rfl, rfl, rfl, by decide +kernel, rfl, by decide +kernel, by decide +kernel⟩
abbrev s_is_number : Stmt := topS 6
abbrev n_is_number : List Str := ["thing"]
theorem sc_is_number : FnScope n_is_number ["thing"] (defScope s_is_number) := ⟨rfl, rfl, rfl, by decide +kernel, rfl, by decide +kernel, by decide +kernel⟩
abbrev s_thing_text : Stmt := topS 11
abbrev n_thing_text : List Str := ["thing", "stroked", "part"]
theorem sc_thing_text : FnScope n_thing_text ["thing"] (defScope s_thing_text) := ⟨rfl, rfl, rfl, by decide +kernel, rfl, by decide +kernel, by decide +kernel⟩
abbrev s_read_thing : Stmt := topS 12
abbrev n_read_thing : List Str := ["text", "thing", "end"]
theorem sc_read_thing : FnScope n_read_thing ["text"] (defScope s_read_thing) := ⟨rfl, rfl, rfl, by decide +kernel, rfl, by decide +kernel, by decide +kernel⟩
abbrev s_thing_at : Stmt := topS 13
abbrev n_thing_at : List Str := ["text", "at", "deep", "sign", "end"]
theorem sc_thing_at : FnScope n_thing_at ["text", "at", "deep"] (defScope s_thing_at) := ⟨rfl, rfl, rfl, by decide +kernel, rfl, by decide +kernel, by decide +kernel⟩
abbrev s_tuple_at : Stmt := topS 14
abbrev n_tuple_at : List Str := ["text", "at", "deep", "found", "thing", "end"]
theorem sc_tuple_at : FnScope n_tuple_at ["text", "at", "deep"] (defScope s_tuple_at) := ⟨rfl, rfl, rfl, by decide +kernel, rfl, by decide +kernel, by decide +kernel⟩
abbrev s_text_at : Stmt := topS 15
abbrev n_text_at : List Str := ["text", "at", "found", "end"]
theorem sc_text_at : FnScope n_text_at ["text", "at"] (defScope s_text_at) := ⟨rfl, rfl, rfl, by decide +kernel, rfl, by decide +kernel, by decide +kernel⟩
abbrev s_word_told : Stmt := topS 16
abbrev n_word_told : List Str := ["word", "figures"]
theorem sc_word_told : FnScope n_word_told ["word"] (defScope s_word_told) := ⟨rfl, rfl, rfl, by decide +kernel, rfl, by decide +kernel, by decide +kernel⟩
abbrev s_log_text : Stmt := topS 18
abbrev n_log_text : List Str := ["log", "row"]
theorem sc_log_text : FnScope n_log_text ["log"] (defScope s_log_text) := ⟨rfl, rfl, rfl, by decide +kernel, rfl, by decide +kernel, by decide +kernel⟩
abbrev s_read_log : Stmt := topS 19
abbrev n_read_log : List Str := ["text", "lines", "rows", "at", "line"]
theorem sc_read_log : FnScope n_read_log ["text"] (defScope s_read_log) := ⟨rfl, rfl, rfl, by decide +kernel, rfl, by decide +kernel, by decide +kernel⟩
abbrev s_read_row : Stmt := topS 20
abbrev n_read_row : List Str := ["line", "at", "row"]
theorem sc_read_row : FnScope n_read_row ["line", "at"] (defScope s_read_row) := ⟨rfl, rfl, rfl, by decide +kernel, rfl, by decide +kernel, by decide +kernel⟩
abbrev s__law_mixed : Stmt := topS 22
abbrev n__law_mixed : List Str := ["cell", "k", "mix"]
theorem sc__law_mixed : FnScope n__law_mixed ["cell", "k"] (defScope s__law_mixed) := ⟨rfl, rfl, rfl, by decide +kernel, rfl, by decide +kernel, by decide +kernel⟩
abbrev s__law_next : Stmt := topS 23
abbrev n__law_next : List Str := ["draw", "size", "at", "many", "cell"]
theorem sc__law_next : FnScope n__law_next ["draw", "size"] (defScope s__law_next) := ⟨rfl, rfl, rfl, by decide +kernel, rfl, by decide +kernel, by decide +kernel⟩
abbrev s__law_thing : Stmt := topS 24
abbrev n__law_thing : List Str := ["draw", "room", "way", "number", "signs", "j"]
theorem sc__law_thing : FnScope n__law_thing ["draw", "room"] (defScope s__law_thing) := ⟨rfl, rfl, rfl, by decide +kernel, rfl, by decide +kernel, by decide +kernel⟩
abbrev s__law_deep : Stmt := topS 25
abbrev n__law_deep : List Str := ["draw", "item", "turn"]
theorem sc__law_deep : FnScope n__law_deep ["draw", "item"] (defScope s__law_deep) := ⟨rfl, rfl, rfl, by decide +kernel, rfl, by decide +kernel, by decide +kernel⟩
abbrev s_law : Stmt := topS 26
abbrev n_law : List Str := ["script", "draw", "turn", "j", "line", "texts", "item", "logs", "told_rows", "told", "asked", "found", "row"]
theorem sc_law : FnScope n_law ["script"] (defScope s_law) := ⟨rfl, rfl, rfl, by decide +kernel, rfl, by decide +kernel, by decide +kernel⟩

open Zn
-- TRU
-- KZ
local macro_rules
  | `(tactic| push_cast [$ls,*]) => `(tactic| simp (config := { decide := false, ground := false }) only [$ls,*, ↓x_sIf, ↓x_sRet, ↓x_sAsg, ↓x_sNil, ↓x_sSetAt, ↓x_sSetO, ↓x_sPar, ↓x_sApp, ↓x_sRetN, ↓x_sExpr, ↓x_bCmp, ↓x_bTru, ↓x_bNot, ↓x_bAnd, ↓x_bOr, ↓x_dBin, ↓x_dUn, ↓x_dC, ↓x_dN, ↓x_dCB, ↓x_dIf, ↓x_dAndV, ↓x_dOrV, ↓x_dNotV, ↓x_dIsi, ↓x_dTup, ↓x_dLst, ↓x_dNew, ↓x_dSlice, ↓x_oNone, ↓x_oSome, ↓x_aNil, ↓x_aCons, ↓x_aApp, ↓x_a2Nil, ↓x_a2Cons, ↓x_a2New, ↓x_nLst, ↓x_gN, ↓x_dCall, ↓x_dCallN, ↓x_iRngD, ↓x_iRng2D, ↓x_iSeqD, ↓x_nLc, ↓x_dCallON, ↓x_nIf, ↓x_iEnumD, ↓x_dM0, ↓x_dM1, ↓x_bYes, ↓x_dChain, ↓x_bChain, ↓x_sBrk, ↓x_sCnt, ↓x_sIns, ↓x_iEnumLD, ↓x_nBin, ↓x_dCallT, ↓x_dRevT, ↓x_dSliceA, ↓x_dIsE, ↓x_dSortSx, ↓x_dML, ↓x_dRefu, ↓x_dCallD, ↓x_dDic1, ↓x_sRetON, ↓x_nSortSx, ↓x_dCallO, ↓x_iNkD, ↓x_dRepl, ↓x_dGet2, ↓x_dKx, ↓x_bKx, ↓x_sTryN, ↓x_dCallL, kI, kB, dSl, gTup0, gCons0, gNil0, fz, fzs, fz2, puts, np_zero, np_succ, np_no, np_d, np_own, np_opt, ownAt, Sl.oc, datAt, Sl.dat, backs_1, backs_2, backs_3, backs_4, backs_5, Opd.get, ixd, dIx, at_0, at_1, at_2, at_3, at_4, ix_0, ix_1, ok_int, ok_str, ok_bl, ok_non, ok_ro_ints, ok_nil, eq_str, eq_int, eq_ro_nil, dMul, dAdd, dII, dII0, dSub, dFdiv, dMod, dPow, dNeg, dLt, dLe, dGt, dGe, dOrd, dEq, dNe, d1, d2, fII, fLen, fInt, tru_non, tru_bl, tru_int, tru_str, tru_lst, tru_ro, tru_tup, tru_dic, fIsi, tyD, k_ii, k_ib, k_bi, k_bb, k_ss, setAt, appAt, isLst, OC.d, Nd.sl, gP, args1, argsD, ownsOf, backs, putOc, rngOf, itemsOf, rngOf2, enumOf, sRetO, fInd, fRepr2, fList, fTuple, fLower, fUpper, k_sdic, k_slst, k_stup, k_sint, k_sbl, k_snon, k_tt, k_tl, k_ts, k_ll, wipeE, unw, noOwn_1, oc_opt, dIn, dInS, fStarts, fSplit, fPart, fJoin, isS, fBls, dIsN, dNotN, isN, insAt, enumLOf, dMulN, dAddN, dBack, dAddA, dMulA, dMulB, dSlA, isL, fLCnt, fLInd, plainOs, plainO, keyOfD, itemsN, fSortedL, sTryV, sRaise, fIsi2, ↓x_dIsi2, kz_NoneType_int, kz_NoneType_bool, kz_NoneType_str, kz_NoneType_tuple, kz_NoneType_list, kz_bool_int, kz_bool_bool, kz_bool_str, kz_bool_tuple, kz_bool_list, kz_int_int, kz_int_bool, kz_int_str, kz_int_tuple, kz_int_list, kz_str_int, kz_str_bool, kz_str_str, kz_str_tuple, kz_str_list, kz_list_int, kz_list_bool, kz_list_str, kz_list_tuple, kz_list_list, kz_tuple_int, kz_tuple_bool, kz_tuple_str, kz_tuple_tuple, kz_tuple_list, kz_dict_int, kz_dict_bool, kz_dict_str, kz_dict_tuple, kz_dict_list, List.length_cons, List.length_nil, List.getElem?_cons_zero, List.getElem?_cons_succ, List.getElem?_nil, List.replicate, List.cons_append, List.nil_append, List.append_nil, List.set_cons_zero, List.set_cons_succ, List.map_cons, List.map_nil, List.length_map, List.filterMap_cons, List.filterMap_nil, Option.bind_some, Option.bind_none, Nat.reduceSub, Nat.reduceAdd, Nat.reduceLeDiff, true_and, and_true, if_true, if_false, decide_eq_true_eq, List.set_append_right])
def rep1 (c : Nat) (z l : List Nat) : List Nat := l.flatMap fun a => if a = c then z else [a]
theorem repl_one (c : Nat) (z : List Nat) : ∀ l, PySem.StrLaws.replL [c] z l = rep1 c z l
  | [] => PySem.StrLaws.replL_nil
  | a :: l => by
    show _ = (if a = c then z else [a]) ++ rep1 c z l
    by_cases e : a = c
    · rw [PySem.StrLaws.replL_hit (by simp) (by simp [e]), if_pos e]
      show z ++ PySem.StrLaws.replL [c] z l = _
      rw [repl_one c z l]
    · rw [PySem.StrLaws.replL_miss (by simpa using e), if_neg e, repl_one c z l]
      rfl
theorem rep1_len (c x y : Nat) : ∀ l, (rep1 c [x, y] l).length ≤ 2 * l.length ∧ l.length ≤ (rep1 c [x, y] l).length
  | [] => by simp [rep1]
  | a :: l => by
    have ⟨h1, h2⟩ := rep1_len c x y l
    have e : (rep1 c [x, y] (a :: l)).length = (if a = c then [x, y] else [a]).length + (rep1 c [x, y] l).length := by
      show ((if a = c then [x, y] else [a]) ++ rep1 c [x, y] l).length = _
      rw [List.length_append]
    rw [e]
    split <;> simp only [List.length_cons, List.length_nil] <;> omega
def escS (c : Nat) : List Nat := if c = 92 then [92, 92] else if c = 34 then [92, 34] else if c = 10 then [92, 110] else [c]
def esc (l : List Nat) : List Nat := l.flatMap escS
theorem esc_rep (l : List Nat) : rep1 10 [92, 110] (rep1 34 [92, 34] (rep1 92 [92, 92] l)) = esc l := by
  induction l with
  | nil => rfl
  | cons a l ih =>
    show rep1 10 [92, 110] (rep1 34 [92, 34] ((if a = 92 then [92, 92] else [a]) ++ rep1 92 [92, 92] l)) = escS a ++ esc l
    rw [rep1, rep1, List.flatMap_append, List.flatMap_append]
    show rep1 10 [92, 110] (rep1 34 [92, 34] (if a = 92 then [92, 92] else [a])) ++ rep1 10 [92, 110] (rep1 34 [92, 34] (rep1 92 [92, 92] l)) = _
    rw [ih]
    congr 1
    unfold escS
    by_cases e : a = 92
    · rw [if_pos e, if_pos e]; rfl
    · rw [if_neg e, if_neg e]
      by_cases e2 : a = 34
      · rw [if_pos e2, e2]; rfl
      · rw [if_neg e2]
        have h34 : rep1 34 [92, 34] [a] = [a] := by simp [rep1, e2]
        rw [h34]
        simp [rep1]
theorem esc_len (l : List Nat) : l.length ≤ (esc l).length ∧ (esc l).length ≤ 2 * l.length := by
  induction l with
  | nil => decide
  | cons a l ih =>
    have e : (esc (a :: l)).length = (escS a).length + (esc l).length := by
      show (escS a ++ esc l).length = _
      rw [List.length_append]
    have h : 1 ≤ (escS a).length ∧ (escS a).length ≤ 2 := by
      unfold escS
      split
      · decide
      · split
        · decide
        · split
          · decide
          · simp
    rw [e, List.length_cons]
    omega
mutual
def wr5 : D → List Nat
  | .non => [110, 111, 110, 101]
  | .bl b => if b = true then [121, 101, 115] else [110, 111]
  | .int i => intL i
  | .str s => 34 :: (esc s ++ [34])
  | .tup xs => 40 :: (joinL [44, 32] (wrs5 xs) ++ [41])
  | _ => []
def wrs5 : List D → List (List Nat)
  | [] => []
  | x :: r => wr5 x :: wrs5 r
end
mutual
def ok5 : D → Bool
  | .non => true
  | .bl _ => true
  | .int i => decide (i.natAbs < 1000000000000)
  | .str _ => true
  | .tup xs => oks5 xs
  | _ => false
def oks5 : List D → Bool
  | [] => true
  | x :: r => ok5 x && oks5 r
end
mutual
def dp5 : D → Nat
  | .tup xs => dps5 xs + 1
  | _ => 0
def dps5 : List D → Nat
  | [] => 0
  | x :: r => max (dp5 x) (dps5 r)
end
theorem wrs_map : ∀ xs : List D, wrs5 xs = xs.map wr5
  | [] => rfl
  | x :: r => by rw [wrs5, wrs_map r]; rfl
theorem fm_wr : ∀ xs : List D, (xs.flatMap fun x => [D.str (wr5 x)]) = (wrs5 xs).map D.str
  | [] => rfl
  | x :: r => by
    show [D.str (wr5 x)] ++ (r.flatMap fun x => [D.str (wr5 x)]) = _
    rw [fm_wr r]
    rfl
theorem look_esc (c : Nat) : (lookD (dsD [([92], [92, 92]), ([34], [92, 34]), ([10], [92, 110])]) (.s [c])).getD (.str [c]) = .str (escS c) := by
  have e : dsD [([92], [92, 92]), ([34], [92, 34]), ([10], [92, 110])] = [(.s [92], .str [92, 92]), (.s [34], .str [92, 34]), (.s [10], .str [92, 110])] := by rfl
  rw [e]
  unfold lookD escS
  by_cases h1 : c = 92
  · subst h1; rfl
  · by_cases h2 : c = 34
    · subst h2; rfl
    · by_cases h3 : c = 10
      · subst h3; rfl
      · rw [if_neg h1, if_neg h2, if_neg h3]
        rw [List.find?_cons_of_neg (by simp [Ne.symm h1, eq_comm, h1]), List.find?_cons_of_neg (by simp [eq_comm, h2]), List.find?_cons_of_neg (by simp [eq_comm, h3])]
        rfl
theorem oks_all : ∀ {xs : List D}, oks5 xs = true → ∀ x ∈ xs, ok5 x = true
  | x :: r, h, y, hy => by
    have h2 := Bool.and_eq_true_iff.mp (show (ok5 x && oks5 r) = true from h)
    rcases List.mem_cons.mp hy with rfl | hy
    · exact h2.1
    · exact oks_all h2.2 y hy
theorem dps_all : ∀ {xs : List D}, ∀ x ∈ xs, dp5 x ≤ dps5 xs
  | x :: r, y, hy => by
    show dp5 y ≤ max (dp5 x) (dps5 r)
    rcases List.mem_cons.mp hy with rfl | hy
    · omega
    · have := dps_all y hy
      omega
theorem join_sum (s t : Nat) : ∀ xs : List (List Nat), (joinL [s, t] xs).length ≤ (xs.map List.length).sum + 2 * xs.length ∧ (xs.map List.length).sum + 2 * xs.length ≤ (joinL [s, t] xs).length + 2
  | [] => by simp [joinL]
  | [x] => by simp [joinL]
  | x :: y :: r => by
    have := join_sum s t (y :: r)
    simp [joinL] at this ⊢
    omega
theorem sum_mem : ∀ {xs : List (List Nat)}, ∀ x ∈ xs, x.length ≤ (xs.map List.length).sum
  | y :: r, x, hx => by
    rw [List.map_cons, List.sum_cons]
    rcases List.mem_cons.mp hx with rfl | hx
    · omega
    · have := sum_mem x hx
      omega
def isI5 : D → Bool
  | .int _ => true
  | _ => false
theorem deep_pick {y : D} (hy : ok5 y = true) {r : Int} (h1 : 0 ≤ r) (h2 : r < 3) : ∃ w, atI [D.tup [y], D.tup [y, .int 1], D.tup [.str [], y]] r = some w ∧ ok5 w = true ∧ dp5 w ≤ dp5 y + 1 ∧ (wr5 w).length ≤ (wr5 y).length + 6 := by
  have e1 : intL 1 = [49] := by
    show tl (Str.ofString (toString (((1 : Nat)) : Int))) = _
    rw [tl_num, numL_lt (by omega)]
  obtain ⟨w, e, hw⟩ := at_of (ys := [D.tup [y], D.tup [y, .int 1], D.tup [.str [], y]]) h1 (by simpa using h2)
  refine ⟨w, e, ?_⟩
  simp only [List.mem_cons, List.not_mem_nil, or_false] at hw
  rcases hw with rfl | rfl | rfl
  · refine ⟨by simp [ok5, oks5, hy], by simp [dp5, dps5], by simp [wr5, wrs5, joinL]⟩
  · refine ⟨by simp [ok5, oks5, hy], by simp [dp5, dps5], by simp [wr5, wrs5, joinL, e1]⟩
  · refine ⟨by simp [ok5, oks5, hy], by simp [dp5, dps5], by simp [wr5, wrs5, joinL, esc]⟩
theorem oks_of : ∀ {xs : List D}, (∀ x ∈ xs, ok5 x = true) → oks5 xs = true
  | [], _ => rfl
  | x :: r, h => by
    show (ok5 x && oks5 r) = true
    rw [h x List.mem_cons_self, oks_of fun y hy => h y (List.mem_cons_of_mem _ hy)]
    rfl
theorem dps_of {n : Nat} : ∀ {xs : List D}, (∀ x ∈ xs, dp5 x ≤ n) → dps5 xs ≤ n
  | [], _ => Nat.zero_le _
  | x :: r, h => by
    show max (dp5 x) (dps5 r) ≤ n
    have := h x List.mem_cons_self
    have := dps_of fun y hy => h y (List.mem_cons_of_mem x hy)
    omega
theorem sum_of {n : Nat} : ∀ {xs : List (List Nat)}, (∀ x ∈ xs, x.length ≤ n) → (xs.map List.length).sum ≤ n * xs.length
  | [], _ => by simp
  | x :: r, h => by
    have h1 := h x List.mem_cons_self
    have h2 := sum_of (n := n) (xs := r) fun y hy => h y (List.mem_cons_of_mem x hy)
    rw [List.map_cons, List.sum_cons, List.length_cons, Nat.mul_succ]
    omega
theorem join_nil : ∀ xs : List (List Nat), (joinL [] xs).length = (xs.map List.length).sum
  | [] => by simp [joinL]
  | [x] => by simp [joinL]
  | x :: y :: r => by
    have := join_nil (y :: r)
    simp [joinL] at this ⊢
    omega
def sg5 : List (List Nat) := [[92], [34], [10], [110], [97], [32], [44], [40], [41], [48], [45], [126], [110, 111, 110, 101], [121, 101, 115], [44, 32], [90]]
theorem sg5_len : ∀ w ∈ sg5, w.length ≤ 4 := by decide
theorem bd_pos (r : Nat) : 70 ≤ 70 * 4 ^ r := by
  have := Nat.one_le_two_pow (n := 2 * r)
  rw [Nat.pow_mul] at this
  have e : (2 : Nat) ^ 2 = 4 := rfl
  rw [e] at this
  omega
def bd5 (r : Nat) : Nat := 70 * 4 ^ r
-- REPR2
theorem tw_stop {B a : List Nat} {x : Nat} {r : List Nat} (ha : ∀ c ∈ a, c ∉ B) (hx : x ∈ B) : ((a ++ x :: r).takeWhile fun c => decide (c ∉ B)) = a := by
  induction a with
  | nil => simp [hx]
  | cons b a ih =>
    have hb := ha b List.mem_cons_self
    simp only [List.cons_append, List.takeWhile_cons, hb, not_false_eq_true, decide_true, if_true]
    rw [ih fun c hc => ha c (List.mem_cons_of_mem _ hc)]
theorem tw_all {B a : List Nat} (ha : ∀ c ∈ a, c ∉ B) : (a.takeWhile fun c => decide (c ∉ B)) = a := by
  induction a with
  | nil => rfl
  | cons b a ih =>
    have hb := ha b List.mem_cons_self
    simp only [List.takeWhile_cons, hb, not_false_eq_true, decide_true]
    rw [ih fun c hc => ha c (List.mem_cons_of_mem _ hc)]
    rfl
theorem run_stop {B p a : List Nat} {x : Nat} {r : List Nat} (ha : ∀ c ∈ a, c ∉ B) (hx : x ∈ B) : runEnd (p ++ (a ++ x :: r)) B p.length = p.length + a.length := by
  unfold runEnd
  rw [List.drop_left, tw_stop ha hx]
theorem cut_amid {p a r : List Nat} : cut (p ++ (a ++ r)) (some ((p.length : Nat) : Int)) (some (((p.length + a.length : Nat)) : Int)) = a := by
  rw [cut_any _ (by simp)]
  simp
/-- the sign that stands at a place -/
theorem cut_at1 {p : List Nat} {x : Nat} {r : List Nat} : cut (p ++ x :: r) (some ((p.length : Nat) : Int)) (some (((p.length : Nat) : Int) + 1)) = [x] := by
  rw [cut_one (by simp)]
  simp
theorem cut_at2 {p : List Nat} {x y : Nat} {r : List Nat} : cut (p ++ x :: y :: r) (some ((p.length : Nat) : Int)) (some (((p.length : Nat) : Int) + 2)) = [x, y] := by
  rw [cut_two (by simp)]
  simp
theorem cut_at12 {p : List Nat} {x y : Nat} {r : List Nat} : cut (p ++ x :: y :: r) (some (((p.length : Nat) : Int) + 1)) (some (((p.length : Nat) : Int) + 2)) = [y] := by
  have := cut_p1 (xs := p ++ x :: y :: r) (i := p.length) (p.length + 2) (by simp)
  rw [show (((p.length + 2 : Nat)) : Int) = (p.length : Int) + 2 by omega] at this
  rw [this]
  have e : (p ++ x :: y :: r).drop (p.length + 1) = y :: r := by
    rw [← List.drop_drop, List.drop_left]
    rfl
  rw [e, show p.length + 2 - (p.length + 1) = 1 by omega]
  rfl
theorem esc_plain {a : List Nat} (ha : ∀ c ∈ a, c ∉ [34, 92, 10]) : esc a = a := by
  induction a with
  | nil => rfl
  | cons b a ih =>
    have hb := ha b List.mem_cons_self
    simp only [List.mem_cons, List.not_mem_nil, or_false, not_or] at hb
    show escS b ++ esc a = _
    rw [ih fun c hc => ha c (List.mem_cons_of_mem _ hc)]
    unfold escS
    rw [if_neg hb.2.1, if_neg hb.1, if_neg hb.2.2]
    rfl
theorem join_flat : ∀ xs : List (List Nat), joinL [] xs = xs.flatten
  | [] => rfl
  | [x] => by simp [joinL]
  | x :: y :: r => by
    have := join_flat (y :: r)
    simp [joinL] at this ⊢
    exact this
theorem esc_app (a b : List Nat) : esc (a ++ b) = esc a ++ esc b := by simp [esc]
/-- the text from its first sign that is written with a stroke -/
theorem esc_cut (s : List Nat) : ∃ a t, s = a ++ t ∧ (∀ c ∈ a, c ∉ [34, 92, 10]) ∧ (t = [] ∨ ∃ c u, t = c :: u ∧ c ∈ [34, 92, 10]) := by
  induction s with
  | nil => exact ⟨[], [], rfl, fun _ h => (nomatch h), .inl rfl⟩
  | cons b s ih =>
    by_cases hb : b ∈ [34, 92, 10]
    · exact ⟨[], b :: s, rfl, fun _ h => (nomatch h), .inr ⟨b, s, rfl, hb⟩⟩
    · obtain ⟨a, t, e, ha, ht⟩ := ih
      refine ⟨b :: a, t, by rw [e]; rfl, fun c hc => ?_, ht⟩
      rcases List.mem_cons.mp hc with rfl | hc
      · exact hb
      · exact ha c hc
/-- how a sign with a stroke is told again -/
def unS (c : Nat) : Nat := if c = 10 then 110 else c
theorem esc_spec {c : Nat} (h : c ∈ [34, 92, 10]) : escS c = [92, unS c] ∧ tbl_STROKED.lookup [unS c] = some [c] := by
  simp only [List.mem_cons, List.not_mem_nil, or_false] at h
  rcases h with rfl | rfl | rfl <;> exact ⟨rfl, rfl⟩
theorem intL_shape (i : Int) : ∃ n : Nat, (i = (n : Nat) ∧ intL i = numL n) ∨ (i = -((n + 1 : Nat) : Int) ∧ intL i = 45 :: numL (n + 1)) := by
  cases i with
  | ofNat n => exact ⟨n, .inl ⟨rfl, tl_num n⟩⟩
  | negSucc n =>
    refine ⟨n, .inr ⟨rfl, ?_⟩⟩
    have e : (toString (Int.negSucc n)).toList = '-' :: (toString (n + 1)).toList := by
      show ("-" ++ toString (n + 1)).toList = _
      simp
    have e2 := tl_num (n + 1)
    rw [tl_ofString] at e2
    show tl (Str.ofString (toString (Int.negSucc n))) = _
    rw [tl_ofString, e, List.map_cons]
    exact congrArg (45 :: ·) e2
theorem num_head (n : Nat) (h : n ≠ 0) : ∀ r, numL n ≠ 48 :: r := by
  induction n using Nat.strongRecOn with
  | _ n ih =>
    intro r e
    by_cases h10 : n < 10
    · rw [numL_lt h10] at e
      simp at e
      omega
    · rw [numL_step (by omega)] at e
      obtain ⟨c, u, eu⟩ : ∃ c u, numL (n / 10) = c :: u := by
        cases hc : numL (n / 10) with
        | nil => exact absurd hc (numL_ne _)
        | cons c u => exact ⟨c, u, rfl⟩
      rw [eu] at e
      have : c = 48 := by simpa using (List.cons.inj e).1
      exact ih (n / 10) (by omega) (by omega) u (by rw [eu, this])
theorem num_made (n : Nat) : ((numL n).all fun c => decide (c ∈ [48, 49, 50, 51, 52, 53, 54, 55, 56, 57])) = true := by
  rw [List.all_eq_true]
  intro c hc
  have := numL_digits n c hc
  simp
  omega
theorem num_not {n : Nat} {w : List Nat} (h : ∃ c ∈ w, c < 48 ∨ 57 < c) : numL n ≠ w := fun e => by
  obtain ⟨c, hc, hr⟩ := h
  rw [← e] at hc
  exact numL_free hr hc
theorem int_told {i : Int} (h : i.natAbs < 1000000000000) : intText? (mk (intL i)) = some i := by
  have hl := intL_len (i := i) h
  obtain ⟨n, ⟨e, e2⟩ | ⟨e, e2⟩⟩ := intL_shape i
  · rw [e2] at hl
    rw [e2, intText_digits (x := mk (numL n)) (numL_digits n) (numL_ne n) (by rw [mk_len]; omega), e]
    exact congrArg (fun k : Nat => some (k : Int)) (numL_val n)
  · rw [e2] at hl
    rw [e2, intText_neg (x := mk (45 :: numL (n + 1))) (cs := numL (n + 1)) rfl (numL_digits _) (numL_ne _) (by rw [mk_len]; omega), e]
    exact congrArg (fun k : Nat => some (-(k : Int))) (numL_val (n + 1))
theorem wr_head : ∀ {x : D}, ok5 x = true → ∃ c u, wr5 x = c :: u ∧ c ≠ 41
  | .non, _ => ⟨110, _, rfl, by decide⟩
  | .bl true, _ => ⟨121, _, rfl, by decide⟩
  | .bl false, _ => ⟨110, _, rfl, by decide⟩
  | .int i, _ => by
    obtain ⟨m, ⟨_, e2⟩ | ⟨_, e2⟩⟩ := intL_shape i
    · cases hc : numL m with
      | nil => exact absurd hc (numL_ne _)
      | cons c u =>
        have := (numL_digits m c (by rw [hc]; exact List.mem_cons_self)).1
        exact ⟨c, u, by rw [wr5, e2, hc], by omega⟩
    · exact ⟨45, _, by rw [wr5, e2], by decide⟩
  | .str s, _ => ⟨34, _, rfl, by decide⟩
  | .tup xs, _ => ⟨40, _, rfl, by decide⟩
theorem join_two (x y : List Nat) (r : List (List Nat)) : joinL [44, 32] (x :: y :: r) = x ++ (44 :: 32 :: joinL [44, 32] (y :: r)) := by simp [joinL]
theorem lg_rows : ∀ rows : List (List D), rows.length ≤ ((rows.map fun xs => wr5 (.tup xs) ++ [10]).map List.length).sum
  | [] => Nat.le_refl _
  | x :: r => by
    have := lg_rows r
    simp only [List.map_cons, List.sum_cons, List.length_cons, List.length_append, List.length_nil] at this ⊢
    omega
theorem fm_lg : ∀ rows : List (List D), (rows.flatMap fun xs => [D.str (wr5 (.tup xs) ++ [10])]) = (rows.map fun xs => wr5 (.tup xs) ++ [10]).map D.str
  | [] => rfl
  | x :: r => by
    show [D.str (wr5 (.tup x) ++ [10])] ++ (r.flatMap fun xs => [D.str (wr5 (.tup xs) ++ [10])]) = _
    rw [fm_lg r]
    rfl
theorem spl_one6 : ∀ (f acc : List Nat), 10 ∉ f → spl [10] 0 acc f = [acc ++ f]
  | [], acc, _ => by rw [spl_nil]; simp
  | c :: r, acc, h => by
    rw [spl_miss (by rw [pre10]; simp at h ⊢; omega), spl_one6 r _ (by simp at h; exact h.2)]
    simp
theorem spl_more6 : ∀ (f acc rest : List Nat), 10 ∉ f → spl [10] 0 acc (f ++ 10 :: rest) = (acc ++ f) :: spl [10] 0 [] rest
  | [], acc, rest, _ => by
    rw [List.nil_append, spl_hit (by rw [pre10]; simp)]
    simp
  | c :: r, acc, rest, h => by
    rw [List.cons_append, spl_miss (by rw [pre10]; simp at h ⊢; omega), spl_more6 r _ rest (by simp at h; exact h.2)]
    simp
theorem esc_no (s : List Nat) : 10 ∉ esc s := fun h => by
  obtain ⟨c, _, hc⟩ := List.mem_flatMap.mp h
  unfold escS at hc
  split at hc
  · simp at hc
  · split at hc
    · simp at hc
    · split at hc
      · simp at hc
      · rename_i h10
        simp at hc
        exact h10 hc.symm
mutual
theorem wr_no : ∀ x : D, ok5 x = true → 10 ∉ wr5 x
  | .non, _ => by decide
  | .bl true, _ => by decide
  | .bl false, _ => by decide
  | .int i, _ => fun h => by
    have h : 10 ∈ intL i := h
    obtain ⟨m, ⟨_, e2⟩ | ⟨_, e2⟩⟩ := intL_shape i <;> rw [e2] at h
    · exact numL_free (.inl (by decide)) h
    · rcases List.mem_cons.mp h with h | h
      · omega
      · exact numL_free (.inl (by decide)) h
  | .str s, _ => fun h => by
    rw [wr5] at h
    have := esc_no s
    simp [this] at h
  | .tup xs, hx => fun h => by
    rw [wr5] at h
    have := wrs_no xs hx
    simp [this] at h
theorem wrs_no : ∀ xs : List D, oks5 xs = true → 10 ∉ joinL [44, 32] (wrs5 xs)
  | [], _ => by decide
  | [x], hx => by
    have h2 := Bool.and_eq_true_iff.mp (show (ok5 x && oks5 []) = true from hx)
    rw [show joinL [44, 32] (wrs5 [x]) = wr5 x by simp [wrs5, joinL]]
    exact wr_no x h2.1
  | x :: y :: r, hx => fun h => by
    have h2 := Bool.and_eq_true_iff.mp (show (ok5 x && oks5 (y :: r)) = true from hx)
    have h3 := wr_no x h2.1
    have h4 := wrs_no (y :: r) h2.2
    rw [wrs5] at h4
    rw [wrs5, wrs5, join_two] at h
    simp [h3, h4] at h
end
theorem wts_of {n : Nat} : ∀ {xs : List D}, (∀ x ∈ xs, wt x ≤ n) → wts xs ≤ (n + 1) * xs.length
  | [], _ => by simp [wts]
  | x :: r, h => by
    have h1 := h x List.mem_cons_self
    have h2 := wts_of (n := n) (xs := r) fun y hy => h y (List.mem_cons_of_mem x hy)
    rw [wts, List.length_cons, Nat.mul_succ]
    omega
theorem deep_wt {y w : D} {r : Int} (e : atI [D.tup [y], D.tup [y, .int 1], D.tup [.str [], y]] r = some w) : wt w ≤ wt y + 43 := by
  have hw : w ∈ [D.tup [y], D.tup [y, .int 1], D.tup [.str [], y]] := by
    unfold atI at e
    obtain ⟨j, _, hj⟩ := Option.bind_eq_some_iff.mp e
    exact List.mem_of_getElem? hj
  simp only [List.mem_cons, List.not_mem_nil, or_false] at hw
  rcases hw with rfl | rfl | rfl <;> simp [wt, wts] <;> omega
mutual
theorem smi_ok : ∀ x : D, ok5 x = true → smi2 x = true ∧ cln x = true ∧ dep x = dp5 x
  | .non, _ => ⟨rfl, rfl, rfl⟩
  | .bl _, _ => ⟨rfl, rfl, rfl⟩
  | .int i, h => ⟨h, rfl, rfl⟩
  | .str _, _ => ⟨rfl, rfl, rfl⟩
  | .tup xs, h => by
    have ⟨h1, h2, h3⟩ := smis_ok xs h
    exact ⟨h1, h2, by rw [dep, dp5, h3]⟩
theorem smis_ok : ∀ xs : List D, oks5 xs = true → smis2 xs = true ∧ clns xs = true ∧ deps xs = dps5 xs
  | [], _ => ⟨rfl, rfl, rfl⟩
  | x :: r, h => by
    have h' := Bool.and_eq_true_iff.mp (show (ok5 x && oks5 r) = true from h)
    have ⟨h1, h2, h3⟩ := smi_ok x h'.1
    have ⟨h4, h5, h6⟩ := smis_ok r h'.2
    exact ⟨by simp [smis2, h1, h4], by simp [clns, h2, h5], by rw [deps, dps5, h3, h6]⟩
end
theorem rep_ok {x : D} (h : ok5 x = true) (hd : dp5 x ≤ 40) (hw : wt x ≤ 1048576) : okD x ∧ smi2 x = true ∧ wt x ≤ 1048576 := by
  have ⟨h1, h2, h3⟩ := smi_ok x h
  exact ⟨by simp [okD, h2, h3]; omega, h1, hw⟩

def fs_made_of : FS := fun as q _ => ∃ t g : List Nat, as = [.d (.str t), .d (.str g)] ∧ t.length ≤ 4000 ∧ ∀ as', q (.bl (t.all fun c => decide (c ∈ g))) as'
theorem fl_made_of : FLen fs_made_of 2 := fun as q xq h => by
  rcases h with ⟨t, g, rfl, _⟩
  rfl

def t_made_of : TSd := (sRet (dCB (d1 (fBls fun bs => bs.all id)) (aCons (dNew (nLc (iSeqD (dN 0)) [2] (gN 2) bYes (dBin (dIn false) (dN 2) (dN 1)))) aNil)))
theorem ds_made_of {P : Program} {w : World} {K : PySem.W.Frag} {mg : Str → Option Value} {base : Heap} {f : Addr} {cdv : Value} {A : Around} {outer : List PySem.Env} {s : Shared} {H : Hp} {E : XK} (gd : NoG A) (hr : Room 0 (A.deeper (PyProof.Rows.envOfC "made_of" (defScope s_made_of) s.heap.objs.size f cdv)))
    (m_all : mg "all" = none) :
    DSs (cxOf (L2.CX P w) P w K mg base n_made_of "made_of" (defScope s_made_of) f cdv A outer s H E) (WE1 E) (defBody s_made_of) t_made_of := by
  have hu := hr.units
  let nm := n_made_of
  let st := s_made_of
  have sc := sc_made_of
  exact (dss_one (ds_ret (de_cb (allR rfl) (pe_callB (allR rfl).h (by rfl) m_all bt_all (da_cons (de_new (dn_lc (own := [("sign", 2)]) rfl sc.nd (di_seq (de_n (pv 0))) (blkOk_by (own := [("sign", 2)]) (N := nm) (sc := defScope st) (by decide +kernel)) (fun _ _ _ _ _ => (dg_n (pg_name (i := 2) sc.nd rfl (by first | exact .inl rfl | exact .inr rfl)))) gkd_n (fun _ _ _ _ _ => dts_nil) (fun _ _ _ _ _ => (de_cmp inR (de_n (pv 2)) (de_n (pv 1)))) gs_n)) da_nil).pa))))
theorem vc_made_of : ∀ as q xq, fs_made_of as q xq → t_made_of { nx := fun ε => q .non (outs as ε), rt := fun d ε => q d (outs as ε), xq := fun e ε => xq e (outs as ε) } (env0 as n_made_of.length) := by
  intro as q xq h
  rcases h with ⟨t, g, rfl, hl, h⟩
  push_cast [↓x_sSeq, ↓x_sFor, t_made_of, env0]
  refine lc_fm (fun x => match x with | .str [c] => [.bl (decide (c ∈ g))] | _ => []) ?_ (by simp; omega) ?_ ?_
  · rw [fm_chars8 (fun c => [.bl (decide (c ∈ g))]) (fun _ => rfl), fm_one8]
    push_cast [outs]
    rw [bls_map8]
    show q (.bl ((t.map _).all id)) _
    rw [all_id8]
    exact h _
  · intro x hx
    obtain ⟨c, _, rfl⟩ := List.mem_map.mp hx
    simp
  · intro x acc K hx hl hK
    obtain ⟨c, _, rfl⟩ := List.mem_map.mp hx
    push_cast [outs]
    simpa [hl] using hK

theorem ok_made_of {P : Program} {w : World} {K : PySem.W.Frag} {mg : Str → Option Value} {base : Heap} {f : Addr} {fd : FuncData} (F : Fun K "made_of" "made_of" s_made_of f fd) (g : mg "made_of" = some (.ref f)) (b : Binds K fd ["text", "signs"] [])
    (m_all : mg "all" = none) :
    CalG P w K mg base 1 "made_of" s_made_of ["text", "signs"] fs_made_of f fd :=
  ⟨F, g, b, fn_okG F sc_made_of (by decide) fl_made_of fun cdv A outer s H E gd hr => ⟨t_made_of, ds_made_of gd hr m_all, vc_made_of⟩⟩
def fs_run_end : FS := fun as q _ => ∃ (t B : List Nat) (i : Nat), as = [.d (.str t), .d (.int (i : Nat)), .d (.str B)] ∧ i ≤ t.length ∧ t.length ≤ 1000000 ∧ ∀ as', q (.int (runEnd t B i : Nat)) as'
theorem fl_run_end : FLen fs_run_end 3 := fun as q xq h => by
  rcases h with ⟨t, B, i, rfl, _⟩
  rfl

def t_run_end : TSd := (sSeq (sWhile (bAnd (bCmp dLt (dN 1) (dCB (d1 fLen) (aCons (dN 0) aNil))) (bCmp (dIn true) (dBin dIx (dN 0) (dN 1)) (dN 2))) (sAug 1 (dC (.int 1)) ipAdd))
  (sRet (dN 1)))
theorem ds_run_end {P : Program} {w : World} {K : PySem.W.Frag} {mg : Str → Option Value} {base : Heap} {f : Addr} {cdv : Value} {A : Around} {outer : List PySem.Env} {s : Shared} {H : Hp} {E : XK} (gd : NoG A) (hr : Room 0 (A.deeper (PyProof.Rows.envOfC "run_end" (defScope s_run_end) s.heap.objs.size f cdv)))
    (m_len : mg "len" = none) :
    DSs (cxOf (L2.CX P w) P w K mg base n_run_end "run_end" (defScope s_run_end) f cdv A outer s H E) (WE1 E) (defBody s_run_end) t_run_end := by
  have hu := hr.units
  let nm := n_run_end
  let st := s_run_end
  have sc := sc_run_end
  exact (dss_cons (ds_while (passes_of rfl) (dt_w (dw_and (dt_cmp rLt (de_n (pv 1)) (de_cb lenR (pe_callB lenR.h (by rfl) m_len bt_len (da_cons (de_n (pv 0)) da_nil).pa))) (dw_and1 (dt_cmp ninR (de_ix (de_n (pv 0)) (de_n (pv 1))) (de_n (pv 2)))))) (dss_one (ds_aug (i := 1) ip_addR sc.nd rfl (by first | exact .inl rfl | exact .inr rfl) de_int)))
  (dss_one (ds_ret (de_n (pv 1)))))
theorem vc_run_end : ∀ as q xq, fs_run_end as q xq → t_run_end { nx := fun ε => q .non (outs as ε), rt := fun d ε => q d (outs as ε), xq := fun e ε => xq e (outs as ε) } (env0 as n_run_end.length) := by
  intro as q xq h
  rcases h with ⟨t, B, i, rfl, hi, hl, h⟩
  refine seq_of fun K1 hK1 => ?_
  push_cast [t_run_end, env0]
  refine while_ind (fun m ε => ∃ j : Nat, j ≤ t.length ∧ t.length - j = m ∧ runEnd t B j = runEnd t B i ∧ ε = [.d (.str t), .d (.int (j : Nat)), .d (.str B)]) (t.length - i) ⟨i, hi, rfl, rfl, rfl⟩ ?_
  rintro m ε K ⟨j, hj, hm, he, rfl⟩ hK
  have fin : runEnd t B j = j → K1 [.d (.str t), .d (.int (j : Nat)), .d (.str B)] := fun e => by
    refine hK1 _ ?_
    push_cast [outs]
    rw [← e, he]
    exact h _
  clear hK1
  push_cast [sAug, ipAdd]
  refine ⟨line_of' (by omega), ?_⟩
  by_cases hlt : j < t.length
  · have ec : t[j]? = some t[j] := List.getElem?_eq_getElem hlt
    rw [if_pos (by omega)]
    have ea : atI t (j : Int) = some t[j] := by rw [at_nat hlt]; exact ec
    push_cast [ea, Option.map_some]
    refine ⟨line_of' (by omega), ?_⟩
    have hs := run_step (B := B) ec
    by_cases hb : t[j] ∈ B
    · rw [if_neg (by simp [hb])]
      rw [if_pos hb] at hs
      exact fin hs
    · rw [if_pos (by simp [hb])]
      rw [if_neg hb] at hs
      refine hK (m - 1) _ (by omega) ⟨j + 1, by omega, by omega, by rw [← hs, he], ?_⟩
      rfl
  · rw [if_neg (by omega)]
    have : j = t.length := by omega
    simp only [Bool.false_eq_true, if_false]
    exact fin (run_end (by omega))

theorem ok_run_end {P : Program} {w : World} {K : PySem.W.Frag} {mg : Str → Option Value} {base : Heap} {f : Addr} {fd : FuncData} (F : Fun K "run_end" "run_end" s_run_end f fd) (g : mg "run_end" = some (.ref f)) (b : Binds K fd ["text", "at", "barred"] [])
    (m_len : mg "len" = none) :
    CalG P w K mg base 1 "run_end" s_run_end ["text", "at", "barred"] fs_run_end f fd :=
  ⟨F, g, b, fn_okG F sc_run_end (by decide) fl_run_end fun cdv A outer s H E gd hr => ⟨t_run_end, ds_run_end gd hr m_len, vc_run_end⟩⟩
def fs_is_number : FS := fun as q _ => ∃ x : D, as = [.d x] ∧ ok5 x = true ∧ ∀ as', q (.bl (isI5 x)) as'
theorem fl_is_number : FLen fs_is_number 1 := fun as q xq h => by
  rcases h with ⟨i, rfl, _⟩
  rfl

def t_is_number : TSd := (sRet (dAndV (dIsi "int" (dN 0)) (dNotV (dIsi "bool" (dN 0)))))
theorem ds_is_number {P : Program} {w : World} {K : PySem.W.Frag} {mg : Str → Option Value} {base : Heap} {f : Addr} {cdv : Value} {A : Around} {outer : List PySem.Env} {s : Shared} {H : Hp} {E : XK} (gd : NoG A) (hr : Room 0 (A.deeper (PyProof.Rows.envOfC "is_number" (defScope s_is_number) s.heap.objs.size f cdv)))
    (m_isinstance : mg "isinstance" = none)
    (m_int : mg "int" = none)
    (m_bool : mg "bool" = none) :
    DSs (cxOf (L2.CX P w) P w K mg base n_is_number "is_number" (defScope s_is_number) f cdv A outer s H E) (WE1 E) (defBody s_is_number) t_is_number := by
  have hu := hr.units
  let nm := n_is_number
  let st := s_is_number
  have sc := sc_is_number
  exact (dss_one (ds_ret (de_and (de_isT (de_n (pv 0)) (by rfl) m_isinstance (pe_bltn (by rfl) m_int bt_int rfl)) (de_one (de_not (de_isT (de_n (pv 0)) (by rfl) m_isinstance (pe_bltn (by rfl) m_bool bt_bool rfl)))))))
theorem vc_is_number : ∀ as q xq, fs_is_number as q xq → t_is_number { nx := fun ε => q .non (outs as ε), rt := fun d ε => q d (outs as ε), xq := fun e ε => xq e (outs as ε) } (env0 as n_is_number.length) := by
  intro as q xq h
  rcases h with ⟨x, rfl, hx, h⟩
  cases x with
  | non => push_cast [↓x_sSeq, ↓x_sFor, t_is_number, env0]; exact h _
  | bl b => push_cast [↓x_sSeq, ↓x_sFor, t_is_number, env0]; exact h _
  | int i => push_cast [↓x_sSeq, ↓x_sFor, t_is_number, env0]; exact h _
  | str s => push_cast [↓x_sSeq, ↓x_sFor, t_is_number, env0]; exact h _
  | tup xs => push_cast [↓x_sSeq, ↓x_sFor, t_is_number, env0]; exact h _
  | _ => cases hx

theorem ok_is_number {P : Program} {w : World} {K : PySem.W.Frag} {mg : Str → Option Value} {base : Heap} {f : Addr} {fd : FuncData} (F : Fun K "is_number" "is_number" s_is_number f fd) (g : mg "is_number" = some (.ref f)) (b : Binds K fd ["thing"] [])
    (m_isinstance : mg "isinstance" = none)
    (m_int : mg "int" = none)
    (m_bool : mg "bool" = none) :
    CalG P w K mg base 1 "is_number" s_is_number ["thing"] fs_is_number f fd :=
  ⟨F, g, b, fn_okG F sc_is_number (by decide) fl_is_number fun cdv A outer s H E gd hr => ⟨t_is_number, ds_is_number gd hr m_isinstance m_int m_bool, vc_is_number⟩⟩
def fs__law_mixed : FS := fun as q _ => ∃ c k : Int, as = [.d (.int c), .d (.int k)] ∧ 0 ≤ k ∧ k < 127 ∧ ∀ r as', 0 ≤ r → q (.int r) as'
theorem fl__law_mixed : FLen fs__law_mixed 2 := fun as q xq h => by
  rcases h with ⟨c, k, rfl, _⟩
  rfl

def t__law_mixed : TSd := (sSeq (sAsg (dBin dMod (dBin dPow (dBin dMod (dBin dMulB (dBin dAddA (dBin dAddA (dBin dMod (dN 0) (dC (.int 2147483399))) (dBin dMulB (dC (.int 104729)) (dN 1))) (dC (.int 11))) (dC (.int 48271))) (dC (.int 2147483399))) (dC (.int 5))) (dC (.int 2147483399))) (gN 2))
  (sSeq (sIf (bCmp dLt (dN 0) (dBin dPow (dC (.int 10)) (dC (.int 18)))) (sRet (dN 2)) sNil)
  (sRet (dBin dMod (dBin dAddA (dN 2) (dBin dMod (dBin dFdiv (dN 0) (dBin dPow (dC (.int 10)) (dC (.int 18)))) (dBin dAddA (dC (.int 1)) (dBin dMulB (dBin dAddA (dN 1) (dC (.int 1))) (dC (.int 4014476939333036189094441199026045136645885247730)))))) (dC (.int 2147483399))))))
theorem ds__law_mixed {P : Program} {w : World} {K : PySem.W.Frag} {mg : Str → Option Value} {base : Heap} {f : Addr} {cdv : Value} {A : Around} {outer : List PySem.Env} {s : Shared} {H : Hp} {E : XK} (gd : NoG A) (hr : Room 0 (A.deeper (PyProof.Rows.envOfC "_law_mixed" (defScope s__law_mixed) s.heap.objs.size f cdv)))
     :
    DSs (cxOf (L2.CX P w) P w K mg base n__law_mixed "_law_mixed" (defScope s__law_mixed) f cdv A outer s H E) (WE1 E) (defBody s__law_mixed) t__law_mixed := by
  have hu := hr.units
  let nm := n__law_mixed
  let st := s__law_mixed
  have sc := sc__law_mixed
  exact (dss_cons (ds_set (i := 2) (de_op rMod (de_op rPow (de_op rMod (de_op mulRB (de_op addRA (de_op addRA (de_op rMod (de_n (pv 0)) de_int) (de_op mulRB de_int (de_n (pv 1)))) de_int) de_int) de_int) de_int) de_int) sc.nd rfl (by first | exact .inl rfl | exact .inr rfl))
  (dss_cons (ds_if (dt_cmp rLt (de_n (pv 0)) (de_op rPow de_int de_int)) (dss_one (ds_ret (de_n (pv 2)))) dss_nil)
  (dss_one (ds_ret (de_op rMod (de_op addRA (de_n (pv 2)) (de_op rMod (de_op rFdiv (de_n (pv 0)) (de_op rPow de_int de_int)) (de_op addRA de_int (de_op mulRB (de_op addRA (de_n (pv 1)) de_int) de_int)))) de_int)))))
theorem vc__law_mixed : ∀ as q xq, fs__law_mixed as q xq → t__law_mixed { nx := fun ε => q .non (outs as ε), rt := fun d ε => q d (outs as ε), xq := fun e ε => xq e (outs as ε) } (env0 as n__law_mixed.length) := by
  intro as q xq h
  rcases h with ⟨c, k, rfl, h1, h2, h⟩
  push_cast [↓x_sSeq, ↓x_sFor, t__law_mixed, env0]
  refine ⟨by decide, cmul_l (by decide), cmul_r (by decide), by decide, ⟨by decide, by decide, ?_⟩, by decide, ⟨by decide, by decide, by decide⟩, ?_⟩
  · have := Int.emod_nonneg ((c % 2147483399 + 104729 * k + 11) * 48271) (show (2147483399 : Int) ≠ 0 by decide)
    have := Int.emod_lt_of_pos ((c % 2147483399 + 104729 * k + 11) * 48271) (show (0 : Int) < 2147483399 by decide)
    omega
  · split
    · exact h _ _ (Int.emod_nonneg _ (by decide))
    · exact ⟨⟨by decide, by decide, by decide⟩, cdivw_of (by decide) (by decide), cmul_l (by omega), by omega, by decide, h _ _ (Int.emod_nonneg _ (by decide))⟩

theorem ok__law_mixed {P : Program} {w : World} {K : PySem.W.Frag} {mg : Str → Option Value} {base : Heap} {f : Addr} {fd : FuncData} (F : Fun K "_law_mixed" "_law_mixed" s__law_mixed f fd) (g : mg "_law_mixed" = some (.ref f)) (b : Binds K fd ["cell", "k"] [])
     :
    CalG P w K mg base 1 "_law_mixed" s__law_mixed ["cell", "k"] fs__law_mixed f fd :=
  ⟨F, g, b, fn_okG F sc__law_mixed (by decide) fl__law_mixed fun cdv A outer s H E gd hr => ⟨t__law_mixed, ds__law_mixed gd hr , vc__law_mixed⟩⟩
def fs_text_at : FS := fun as q _ => ∃ (p s r : List Nat), as = [.d (.str (p ++ (esc s ++ 34 :: r))), .d (.int (p.length : Nat))] ∧ (p ++ (esc s ++ 34 :: r)).length ≤ 1000000 ∧ ∀ as', q (.tup [.str s, .int ((p.length + (esc s).length + 1 : Nat))]) as'
theorem fl_text_at : FLen fs_text_at 2 := fun as q xq h => by
  rcases h with ⟨t, B, i, rfl, _⟩
  rfl

def t_text_at : TSd := (sSeq (sSetO 2 (nLst aNil))
  (sWhile (bTru (dC (.bl true))) (sSeq (sAsg (dCallN fs_run_end (aCons (dN 0) (aCons (dN 1) (aCons (dC (.str [34, 92, 10])) aNil)))) (gN 3))
  (sSeq (sApp 2 (dSliceA (dN 0) (oSome (dN 1)) (oSome (dN 3))))
  (sSeq (sIf (bCmp dEq (dSliceA (dN 0) (oSome (dN 3)) (oSome (dBin dAddA (dN 3) (dC (.int 1))))) (dC (.str [34]))) (sRet (dTup (aCons (dM1 fJoin (dC (.str [])) (dN 2)) (aCons (dBin dAddA (dN 3) (dC (.int 1))) aNil)))) sNil)
  (sSeq (sIf (bOr (bCmp dNe (dSliceA (dN 0) (oSome (dN 3)) (oSome (dBin dAddA (dN 3) (dC (.int 1))))) (dC (.str [92]))) (bKx tbl_STROKED false (dSliceA (dN 0) (oSome (dBin dAddA (dN 3) (dC (.int 1)))) (oSome (dBin dAddA (dN 3) (dC (.int 2))))))) sNever sNil)
  (sSeq (sApp 2 (dKx tbl_STROKED (dBin dIx (dN 0) (dBin dAddA (dN 3) (dC (.int 1))))))
  (sAsg (dBin dAddA (dN 3) (dC (.int 2))) (gN 1)))))))))
theorem ds_text_at {P : Program} {w : World} {K : PySem.W.Frag} {mg : Str → Option Value} {base : Heap} {f : Addr} {cdv : Value} {A : Around} {outer : List PySem.Env} {s : Shared} {H : Hp} {E : XK} (gd : NoG A) (hr : Room 1 (A.deeper (PyProof.Rows.envOfC "text_at" (defScope s_text_at) s.heap.objs.size f cdv)))
    {f_run_end : Addr} {fd_run_end : FuncData} (C_run_end : CalG P w K mg base 1 "run_end" s_run_end ["text", "at", "barred"] fs_run_end f_run_end fd_run_end)
    {p_STROKED : Addr} (kx_STROKED : mg "STROKED" = some (.ref p_STROKED) ∧ KTx K w p_STROKED tbl_STROKED) :
    DSs (cxOf (L2.CX P w) P w K mg base n_text_at "text_at" (defScope s_text_at) f cdv A outer s H E) (WE1 E) (defBody s_text_at) t_text_at := by
  have hu := hr.units
  let nm := n_text_at
  let st := s_text_at
  have sc := sc_text_at
  exact (dss_cons (ds_seto (i := 2) (dn_lst da_nil) sc.nd rfl (by first | exact .inl rfl | exact .inr rfl))
  (dss_one (ds_while (passes_of rfl) (dt_tru de_bl) (dss_cons (ds_set (i := 3) (de_callN (pe_GC C_run_end.ok gd (hr.mono (by decide)) (by rfl) C_run_end.g C_run_end.F.kp C_run_end.b passL (da_cons (de_n (pv 0)) (da_cons (de_n (pv 1)) (da_cons (de_str [34, 92, 10]) da_nil))).pa)) sc.nd rfl (by first | exact .inl rfl | exact .inr rfl))
  (dss_cons (ds_app (i := 2) (ps_expr (pe_bm PySem.F.plainAttrs_list PySem.F.slot_list_append PySem.F.type_list_append mt_append (pv 2) (pa_cons (de_sliceA (de_n (pv 0)) (do_some (de_n (pv 1))) (do_some (de_n (pv 3)))).pe pa_nil))))
  (dss_cons (ds_if (dt_cmp (eqR hu) (de_sliceA (de_n (pv 0)) (do_some (de_n (pv 3))) (do_some (de_op addRA (de_n (pv 3)) de_int))) (de_str [34])) (dss_one (ds_ret (de_tup (da_cons (de_m1 joinR (pe_m1 PySem.F.slot_str_join PySem.F.type_str_join joinR.h (de_str []).pe (de_n (pv 2)).pe)) (da_cons (de_op addRA (de_n (pv 3)) de_int) da_nil))))) dss_nil)
  (dss_cons (ds_if (dt_w (dw_or (dt_cmp (neR hu) (de_sliceA (de_n (pv 0)) (do_some (de_n (pv 3))) (do_some (de_op addRA (de_n (pv 3)) de_int))) (de_str [92])) (dw_or1 (dt_notInkx kx_STROKED (by rfl) (de_sliceA (de_n (pv 0)) (do_some (de_op addRA (de_n (pv 3)) de_int)) (do_some (de_op addRA (de_n (pv 3)) de_int))))))) (dss_one ds_never) dss_nil)
  (dss_cons (ds_app (i := 2) (ps_expr (pe_bm PySem.F.plainAttrs_list PySem.F.slot_list_append PySem.F.type_list_append mt_append (pv 2) (pa_cons (de_kx kx_STROKED (by rfl) (de_ix (de_n (pv 0)) (de_op addRA (de_n (pv 3)) de_int))).pe pa_nil))))
  (dss_one (ds_set (i := 1) (de_op addRA (de_n (pv 3)) de_int) sc.nd rfl (by first | exact .inl rfl | exact .inr rfl)))))))))))
theorem vc_text_at : ∀ as q xq, fs_text_at as q xq → t_text_at { nx := fun ε => q .non (outs as ε), rt := fun d ε => q d (outs as ε), xq := fun e ε => xq e (outs as ε) } (env0 as n_text_at.length) := by
  intro as q xq h
  rcases h with ⟨p, s, r, rfl, hl, h⟩
  (refine seq_of fun K1 hK1 => ?_); push_cast [t_text_at, env0]
  refine ⟨by decide, hK1 _ ?_⟩
  clear hK1
  refine while_ind (fun m ε => ∃ (p' s1 s2 : List Nat) (ws : List (List Nat)) (o3 : Option D), p ++ (esc s ++ 34 :: r) = p' ++ (esc s2 ++ 34 :: r) ∧ s = s1 ++ s2 ∧ joinL [] ws = s1 ∧ ws.length ≤ 2 * s1.length ∧ s2.length = m ∧ ε = [.d (.str (p ++ (esc s ++ 34 :: r))), .d (.int (p'.length : Nat)), .own (.lst (ws.map D.str)), .opt o3])
    s.length ⟨p, [], s, [], none, rfl, rfl, rfl, Nat.le_refl _, rfl, rfl⟩ ?_
  rintro m ε K ⟨p', s1, s2, ws, o3, et, es, ew, wl, em, rfl⟩ hK
  obtain ⟨a, t, e2, ha, ht⟩ := esc_cut s2
  have ea : esc s2 = a ++ esc t := by rw [e2, esc_app, esc_plain ha]
  obtain ⟨x, u, ex, hx⟩ : ∃ x u, esc t ++ 34 :: r = x :: u ∧ x ∈ [34, 92, 10] := by
    rcases ht with rfl | ⟨c, u, rfl, hc⟩
    · exact ⟨34, r, rfl, by simp⟩
    · refine ⟨92, [unS c] ++ (esc u ++ 34 :: r), ?_, by simp⟩
      show (escS c ++ esc u) ++ 34 :: r = _
      rw [(esc_spec hc).1]
      simp
  have et2 : p ++ (esc s ++ 34 :: r) = p' ++ (a ++ x :: u) := by rw [et, ea, List.append_assoc, ex]
  have hll : p'.length + a.length + 1 + u.length = (p ++ (esc s ++ 34 :: r)).length := by rw [et2]; simp; omega
  push_cast [outs]
  refine seq_of fun K2 hK2 => ?_
  push_cast [outs]
  refine ⟨by simp, _, _, p'.length, rfl, by omega, hl, fun _ => ?_⟩
  have hel := (esc_len s).1
  have h1l : s1.length + s2.length = s.length := by rw [es, List.length_append]
  have hsl : s.length ≤ 1000000 := by simp at hl; omega
  rw [et2] at hl ⊢
  rw [run_stop ha hx]
  push_cast [outs]
  refine hK2 _ ?_
  clear hK2
  (refine seq_of fun K3 hK3 => ?_); push_cast [cut_amid]
  refine ⟨line_of' hl, Nat.lt_of_lt_of_le (show ws.length < 2000001 by omega) (by decide), hK3 _ ?_⟩
  clear hK3
  have eP : p' ++ (a ++ x :: u) = (p' ++ a) ++ x :: u := by rw [List.append_assoc]
  have eL : p'.length + a.length = (p' ++ a).length := by rw [List.length_append]
  rw [eP, eL]
  rw [eP] at hl et2
  (refine seq_of fun K4 hK4 => ?_); push_cast [cut_at1]
  refine ⟨line_of' hl, ?_⟩
  rcases ht with rfl | ⟨c, v, rfl, hc⟩
  · have hxu : x = 34 ∧ u = r := by
      have : [34] ++ r = x :: u := ex
      simpa [eq_comm] using this
    obtain ⟨rfl, rfl⟩ := hxu
    rw [if_pos rfl]
    push_cast [jn]
    rw [show ws.map D.str ++ [D.str a] = (ws ++ [a]).map D.str by simp, strsOf_map]
    have ej : joinL [] (ws ++ [a]) = s := by
      rw [join_flat, List.flatten_append, ← join_flat, ew, es, e2]
      simp
    have hj := join_nil (ws ++ [a])
    rw [ej] at hj
    have hlen := congrArg List.length et2
    simp only [List.length_append, List.length_cons] at hlen
    push_cast [ej]
    rw [show (((p' ++ a).length : Nat) : Int) + 1 = ((p.length + (esc s).length + 1 : Nat) : Int) by rw [List.length_append]; omega]
    exact ⟨by rw [← hj, List.length_append, List.length_singleton]; omega, by decide, h _⟩
  · have hxu : x = 92 ∧ u = unS c :: (esc v ++ 34 :: r) := by
      have : (escS c ++ esc v) ++ 34 :: r = x :: u := ex
      rw [(esc_spec hc).1] at this
      simpa [eq_comm] using this
    obtain ⟨rfl, rfl⟩ := hxu
    rw [if_neg (by simp [eqD])]
    refine hK4 _ ?_
    clear hK4
    (refine seq_of fun K5 hK5 => ?_); push_cast [cut_at1, cut_at12]
    have lk := (esc_spec hc).2
    refine ⟨line_of' hl, ?_⟩
    rw [if_neg (by simp)]
    refine ⟨line_of' hl, by rw [lk]; rfl, ?_⟩
    rw [if_neg (by decide)]
    refine hK5 _ ?_
    clear hK5
    have ea1 : atI (p' ++ a ++ 92 :: unS c :: (esc v ++ 34 :: r)) (((p' ++ a).length : Nat) + 1 : Int) = some (unS c) := by
      have := at_nat (xs := p' ++ a ++ 92 :: unS c :: (esc v ++ 34 :: r)) (j := (p' ++ a).length + 1) (by simp; omega)
      rw [show (((p' ++ a).length + 1 : Nat) : Int) = ((p' ++ a).length : Nat) + 1 by omega] at this
      rw [this, List.getElem?_append_right (by omega)]
      simp
    (refine seq_of fun K6 hK6 => ?_); push_cast [ea1, Option.map_some]
    refine ⟨line_of' hl, ?_⟩
    show match tbl_STROKED.lookup [unS c] with
      | some v => _
      | none => False
    rw [lk]
    refine ⟨?_, hK6 _ ?_⟩
    · simp only [List.length_append, List.length_map, List.length_singleton]
      exact Nat.lt_of_lt_of_le (show ws.length + 1 < 2000002 by omega) (by decide)
    clear hK6
    push_cast [outs]
    have hv : v.length < s2.length := by rw [e2]; simp; omega
    refine hK v.length _ (by omega) ⟨p' ++ a ++ [92, unS c], s1 ++ (a ++ [c]), v, ws ++ [a] ++ [[c]], some (.int ((p' ++ a).length : Nat)), ?_, ?_, ?_, ?_, rfl, ?_⟩
    · rw [et2]
      simp
    · rw [es, e2]
      simp
    · rw [join_flat, List.flatten_append, List.flatten_append, ← join_flat, ew]
      simp
    · simp only [List.length_append, List.length_singleton]
      omega
    · rw [show (((p' ++ a).length : Nat) : Int) + 2 = ((p' ++ a ++ [92, unS c]).length : Nat) by simp only [List.length_append, List.length_cons, List.length_nil]; omega, et2]
      simp
      rfl

theorem ok_text_at {P : Program} {w : World} {K : PySem.W.Frag} {mg : Str → Option Value} {base : Heap} {f : Addr} {fd : FuncData} (F : Fun K "text_at" "text_at" s_text_at f fd) (g : mg "text_at" = some (.ref f)) (b : Binds K fd ["text", "at"] [])
    {f_run_end : Addr} {fd_run_end : FuncData} (C_run_end : CalG P w K mg base 1 "run_end" s_run_end ["text", "at", "barred"] fs_run_end f_run_end fd_run_end)
    {p_STROKED : Addr} (kx_STROKED : mg "STROKED" = some (.ref p_STROKED) ∧ KTx K w p_STROKED tbl_STROKED) :
    CalG P w K mg base 2 "text_at" s_text_at ["text", "at"] fs_text_at f fd :=
  ⟨F, g, b, fn_okG F sc_text_at (by decide) fl_text_at fun cdv A outer s H E gd hr => ⟨t_text_at, ds_text_at gd hr C_run_end kx_STROKED, vc_text_at⟩⟩
def fs_word_told : FS := fun as q _ => ∃ x : D, as = [.d (.str (wr5 x))] ∧ ok5 x = true ∧ (∀ s, x ≠ .str s) ∧ (∀ s, x ≠ .tup s) ∧ ∀ as', q x as'
theorem fl_word_told : FLen fs_word_told 1 := fun as q xq h => by
  rcases h with ⟨t, rfl, _⟩
  rfl

def t_word_told : TSd := (sSeq (sIf (bCmp (dIn false) (dN 0) (dTup (aCons (dC (.str [110, 111, 110, 101])) (aCons (dC (.str [121, 101, 115])) (aCons (dC (.str [110, 111])) aNil))))) (sRet (dIf (bCmp dEq (dN 0) (dC (.str [110, 111, 110, 101]))) (dC .non) (dBin dEq (dN 0) (dC (.str [121, 101, 115]))))) sNil)
  (sSeq (sAsg (dIf (bTru (dM1 fStarts (dN 0) (dC (.str [45])))) (dSliceA (dN 0) (oSome (dC (.int 1))) oNone) (dN 0)) (gN 1))
  (sSeq (sIf (bOr (bCmp dEq (dN 1) (dC (.str []))) (bNot (bTru (dCallN fs_made_of (aCons (dN 1) (aCons (dC (.str [48, 49, 50, 51, 52, 53, 54, 55, 56, 57])) aNil)))))) sNever sNil)
  (sSeq (sIf (bAnd (bTru (dM1 fStarts (dN 1) (dC (.str [48])))) (bCmp dNe (dN 0) (dC (.str [48])))) sNever sNil)
  (sRet (dCB (d1 fIntS) (aCons (dN 0) aNil)))))))
theorem ds_word_told {P : Program} {w : World} {K : PySem.W.Frag} {mg : Str → Option Value} {base : Heap} {f : Addr} {cdv : Value} {A : Around} {outer : List PySem.Env} {s : Shared} {H : Hp} {E : XK} (gd : NoG A) (hr : Room 1 (A.deeper (PyProof.Rows.envOfC "word_told" (defScope s_word_told) s.heap.objs.size f cdv)))
    {f_made_of : Addr} {fd_made_of : FuncData} (C_made_of : CalG P w K mg base 1 "made_of" s_made_of ["text", "signs"] fs_made_of f_made_of fd_made_of)
    (c_FIGURES : ∃ u, mg "FIGURES" = some u ∧ RelV (V.str (mk [48, 49, 50, 51, 52, 53, 54, 55, 56, 57])) u)
    (m_int : mg "int" = none) :
    DSs (cxOf (L2.CX P w) P w K mg base n_word_told "word_told" (defScope s_word_told) f cdv A outer s H E) (WE1 E) (defBody s_word_told) t_word_told := by
  have hu := hr.units
  let nm := n_word_told
  let st := s_word_told
  have sc := sc_word_told
  exact (dss_cons (ds_if (dt_cmp inR (de_n (pv 0)) (de_tup (da_cons (de_str [110, 111, 110, 101]) (da_cons (de_str [121, 101, 115]) (da_cons (de_str [110, 111]) da_nil))))) (dss_one (ds_ret (de_if (dt_cmp (eqR hu) (de_n (pv 0)) (de_str [110, 111, 110, 101])) de_non (de_cmp (eqR hu) (de_n (pv 0)) (de_str [121, 101, 115]))))) dss_nil)
  (dss_cons (ds_set (i := 1) (de_if (dt_tru (de_m1 startsR (pe_m1 PySem.F.slot_str_startswith PySem.F.type_str_startswith startsR.h (de_n (pv 0)).pe (de_str [45]).pe))) (de_sliceA (de_n (pv 0)) (do_some de_int) do_none) (de_n (pv 0))) sc.nd rfl (by first | exact .inl rfl | exact .inr rfl))
  (dss_cons (ds_if (dt_w (dw_or (dt_cmp (eqR hu) (de_n (pv 1)) (de_str [])) (dw_or1 (dt_not (dt_tru (de_callN (pe_GC C_made_of.ok gd (hr.mono (by decide)) (by rfl) C_made_of.g C_made_of.F.kp C_made_of.b passL (da_cons (de_n (pv 1)) (da_cons (de_gc c_FIGURES (by rfl) (fun _ => .str _ (asc_of (by decide)))) da_nil)).pa))))))) (dss_one ds_never) dss_nil)
  (dss_cons (ds_if (dt_w (dw_and (dt_tru (de_m1 startsR (pe_m1 PySem.F.slot_str_startswith PySem.F.type_str_startswith startsR.h (de_n (pv 1)).pe (de_str [48]).pe))) (dw_and1 (dt_cmp (neR hu) (de_n (pv 0)) (de_str [48]))))) (dss_one ds_never) dss_nil)
  (dss_one (ds_ret (de_cb intSR (pe_callTy intSR.h (by rfl) m_int bt_int (da_cons (de_n (pv 0)) da_nil).pa))))))))
theorem vc_word_told : ∀ as q xq, fs_word_told as q xq → t_word_told { nx := fun ε => q .non (outs as ε), rt := fun d ε => q d (outs as ε), xq := fun e ε => xq e (outs as ε) } (env0 as n_word_told.length) := by
  intro as q xq h
  rcases h with ⟨x, rfl, hx, hs, ht, h⟩
  cases x with
  | non =>
    (refine seq_of fun K1 hK1 => ?_); push_cast [t_word_told, env0, wr5]
    exact ⟨by decide, rfl, rfl, h _⟩
  | bl b =>
    cases b
    · (refine seq_of fun K1 hK1 => ?_); push_cast [t_word_told, env0, wr5]
      exact ⟨by decide, rfl, rfl, h _⟩
    · (refine seq_of fun K1 hK1 => ?_); push_cast [t_word_told, env0, wr5]
      exact ⟨by decide, rfl, rfl, h _⟩
  | int i =>
    have hi : i.natAbs < 1000000000000 := of_decide_eq_true hx
    have hl := intL_len (i := i) hi
    have hn : memD (.str (intL i)) [D.str [110, 111, 110, 101], D.str [121, 101, 115], D.str [110, 111]] = false := by
      have em : memD (.str (intL i)) [D.str [110, 111, 110, 101], D.str [121, 101, 115], D.str [110, 111]] = decide (intL i ∈ [[110, 111, 110, 101], [121, 101, 115], [110, 111]]) := memD_strs (intL i) [[110, 111, 110, 101], [121, 101, 115], [110, 111]]
      rw [em, decide_eq_false_iff_not]
      intro hm
      simp only [List.mem_cons, List.not_mem_nil, or_false] at hm
      obtain ⟨n, ⟨_, e2⟩ | ⟨_, e2⟩⟩ := intL_shape i <;> rw [e2] at hm
      · rcases hm with e | e | e <;> exact num_not ⟨_, List.mem_cons_self, .inr (by decide)⟩ e
      · rcases hm with e | e | e <;> simp at e
    (refine seq_of fun K1 hK1 => ?_); push_cast [t_word_told, env0, wr5]
    refine ⟨by decide, rfl, rfl, ?_⟩
    rw [hn, if_neg (by decide)]
    refine hK1 _ ?_
    clear hK1
    (refine seq_of fun K2 hK2 => ?_); push_cast [outs]
    have hn1 : ∀ n : Nat, ∃ c u, numL n = c :: u ∧ 48 ≤ c := fun n => by
      cases hc : numL n with
      | nil => exact absurd hc (numL_ne _)
      | cons c u => exact ⟨c, u, rfl, (numL_digits n c (by rw [hc]; exact List.mem_cons_self)).1⟩
    obtain ⟨m, hm, hml, e⟩ : ∃ m : Nat, (m = 0 → intL i = [48]) ∧ (numL m).length ≤ 13 ∧ ((pre [45] (intL i) = true ∧ cut (intL i) (some 1) none = numL m) ∨ (pre [45] (intL i) = false ∧ intL i = numL m)) := by
      obtain ⟨n, ⟨_, e2⟩ | ⟨_, e2⟩⟩ := intL_shape i
      · refine ⟨n, fun z => by rw [e2, z, numL_lt (by decide)], by rw [← e2]; exact hl, .inr ⟨?_, e2⟩⟩
        obtain ⟨c, u, ec, h48⟩ := hn1 n
        rw [e2, ec]
        have : c ≠ 45 := by omega
        simp [pre, this]
      · refine ⟨n + 1, fun z => absurd z (by omega), ?_, .inl ⟨?_, ?_⟩⟩
        · rw [e2] at hl
          simp at hl
          omega
        · rw [e2]
          rfl
        · rw [e2, cut_1']
          rfl
    have k2 : K2 [Sl.d (D.str (intL i)), Sl.d (D.str (numL m))] := by
      refine hK2 _ ?_
      clear hK2
      (refine seq_of fun K3 hK3 => ?_); push_cast [outs]
      rw [if_neg (numL_ne m)]
      refine ⟨by simp, _, _, rfl, by omega, fun _ => ?_⟩
      rw [num_made]
      push_cast [outs]
      rw [if_neg (by decide)]
      refine hK3 _ ?_
      clear hK3
      (refine seq_of fun K4 hK4 => ?_); push_cast [outs]
      have k4 : K4 [Sl.d (D.str (intL i)), Sl.d (D.str (numL m))] := by
        refine hK4 _ ?_
        push_cast [fIntS]
        exact ⟨by omega, i, int_told hi, h _⟩
      clear hK4
      by_cases hz : m = 0
      · have e48 := hm hz
        rw [if_neg (show ¬ ((!decide (intL i = [48])) = true) by rw [e48]; decide)]
        split
        · exact k4
        · rw [if_neg (by decide)]
          exact k4
      · obtain ⟨c, u, ec, h48⟩ := hn1 m
        have hc : c ≠ 48 := fun z => num_head m hz u (by rw [ec, z])
        rw [if_neg (show ¬ pre [48] (numL m) = true by rw [ec]; simp [pre, hc.symm, hc]), if_neg (by decide)]
        exact k4
    rcases e with ⟨e1, e2⟩ | ⟨e1, e2⟩
    · rw [if_pos e1, e2]
      exact ⟨line_of' (by omega), k2⟩
    · rw [if_neg (by rw [e1]; decide)]
      rw [← e2] at k2
      exact k2
  | str s => exact absurd rfl (hs s)
  | tup s => exact absurd rfl (ht s)
  | _ => cases hx

theorem ok_word_told {P : Program} {w : World} {K : PySem.W.Frag} {mg : Str → Option Value} {base : Heap} {f : Addr} {fd : FuncData} (F : Fun K "word_told" "word_told" s_word_told f fd) (g : mg "word_told" = some (.ref f)) (b : Binds K fd ["word"] [])
    {f_made_of : Addr} {fd_made_of : FuncData} (C_made_of : CalG P w K mg base 1 "made_of" s_made_of ["text", "signs"] fs_made_of f_made_of fd_made_of)
    (c_FIGURES : ∃ u, mg "FIGURES" = some u ∧ RelV (V.str (mk [48, 49, 50, 51, 52, 53, 54, 55, 56, 57])) u)
    (m_int : mg "int" = none) :
    CalG P w K mg base 2 "word_told" s_word_told ["word"] fs_word_told f fd :=
  ⟨F, g, b, fn_okG F sc_word_told (by decide) fl_word_told fun cdv A outer s H E gd hr => ⟨t_word_told, ds_word_told gd hr C_made_of c_FIGURES m_int, vc_word_told⟩⟩
def fs__law_next : FS := fun as q _ => ∃ (ns : List Int) (k n : Int), as = [.par (.lst [.lst (ns.map D.int), .int k]), .d (.int n)] ∧ ns.length ≤ 63 ∧ 0 ≤ k ∧ 0 < n ∧ ∀ r, 0 ≤ r → r < n → q (.int r) [.par (.lst [.lst (ns.map D.int), .int (k + 1)]), .d (.int n)]
theorem fl__law_next : FLen fs__law_next 2 := fun as q xq h => by
  rcases h with ⟨ns, k, n, rfl, _⟩
  rfl

def t__law_next : TSd := (sSeq (sAsg (dBin dIx (dN 0) (dC (.int 1))) (gN 2))
  (sSeq (sSetAt 0 (dBin dAddA (dN 2) (dC (.int 1))) (dC (.int 1)))
  (sSeq (sAsg (dCB (d2 (fII maxI)) (aCons (dC (.int 1)) (aCons (dCB (d1 fLen) (aCons (dBin dIx (dN 0) (dC (.int 0))) aNil)) aNil))) (gN 3))
  (sSeq (sAsg (dC (.int 0)) (gN 4))
  (sSeq (sIf (bCmp dNe (dBin dIx (dN 0) (dC (.int 0))) (dLst aNil)) (sAsg (dBin dIx (dBin dIx (dN 0) (dC (.int 0))) (dBin dMod (dN 2) (dN 3))) (gN 4)) sNil)
  (sRet (dBin dMod (dBin dFdiv (dCallN fs__law_mixed (aCons (dN 4) (aCons (dBin dMod (dBin dFdiv (dN 2) (dN 3)) (dC (.int 127))) aNil))) (dC (.int 7))) (dN 1))))))))
theorem ds__law_next {P : Program} {w : World} {K : PySem.W.Frag} {mg : Str → Option Value} {base : Heap} {f : Addr} {cdv : Value} {A : Around} {outer : List PySem.Env} {s : Shared} {H : Hp} {E : XK} (gd : NoG A) (hr : Room 1 (A.deeper (PyProof.Rows.envOfC "_law_next" (defScope s__law_next) s.heap.objs.size f cdv)))
    (m_max : mg "max" = none)
    (m_len : mg "len" = none)
    {f__law_mixed : Addr} {fd__law_mixed : FuncData} (C__law_mixed : CalG P w K mg base 1 "_law_mixed" s__law_mixed ["cell", "k"] fs__law_mixed f__law_mixed fd__law_mixed) :
    DSs (cxOf (L2.CX P w) P w K mg base n__law_next "_law_next" (defScope s__law_next) f cdv A outer s H E) (WE1 E) (defBody s__law_next) t__law_next := by
  have hu := hr.units
  let nm := n__law_next
  let st := s__law_next
  have sc := sc__law_next
  exact (dss_cons (ds_set (i := 2) (de_ix (de_n (pv 0)) de_int) sc.nd rfl (by first | exact .inl rfl | exact .inr rfl))
  (dss_cons (ds_setat (i := 0) (ps_asg (de_op addRA (de_n (pv 2)) de_int).pe (pg_sub (pv 0) de_int.pe set_list)))
  (dss_cons (ds_set (i := 3) (de_cb (maxR rfl) (pe_callB (maxR rfl).h (by rfl) m_max bt_max (da_cons de_int (da_cons (de_cb lenR (pe_callB lenR.h (by rfl) m_len bt_len (da_cons (de_ix (de_n (pv 0)) de_int) da_nil).pa)) da_nil)).pa)) sc.nd rfl (by first | exact .inl rfl | exact .inr rfl))
  (dss_cons (ds_set (i := 4) de_int sc.nd rfl (by first | exact .inl rfl | exact .inr rfl))
  (dss_cons (ds_if (dt_cmp (neR hu) (de_ix (de_n (pv 0)) de_int) (de_lst da_nil)) (dss_one (ds_set (i := 4) (de_ix (de_ix (de_n (pv 0)) de_int) (de_op rMod (de_n (pv 2)) (de_n (pv 3)))) sc.nd rfl (by first | exact .inl rfl | exact .inr rfl))) dss_nil)
  (dss_one (ds_ret (de_op rMod (de_op rFdiv (de_callN (pe_GC C__law_mixed.ok gd (hr.mono (by decide)) (by rfl) C__law_mixed.g C__law_mixed.F.kp C__law_mixed.b passL (da_cons (de_n (pv 4)) (da_cons (de_op rMod (de_op rFdiv (de_n (pv 2)) (de_n (pv 3))) de_int) da_nil)).pa)) de_int) (de_n (pv 1))))))))))
theorem vc__law_next : ∀ as q xq, fs__law_next as q xq → t__law_next { nx := fun ε => q .non (outs as ε), rt := fun d ε => q d (outs as ε), xq := fun e ε => xq e (outs as ε) } (env0 as n__law_next.length) := by
  intro as q xq h
  rcases h with ⟨ns, k, n, rfl, h1, h2, h3, h⟩
  push_cast [↓x_sSeq, ↓x_sFor, t__law_next, env0, ok_lst_ints, eq_lst_nil]
  have hm : 0 < maxI 1 (ns.length : Int) ∧ maxI 1 (ns.length : Int) < 100 ∧ (ns ≠ [] → maxI 1 (ns.length : Int) = ns.length) := by
    unfold maxI
    refine ⟨?_, ?_, fun e => ?_⟩
    · split <;> omega
    · split <;> omega
    · have : 0 < ns.length := List.length_pos_iff.mpr e
      split <;> omega
  obtain ⟨hm1, hm2, hm3⟩ := hm
  have mix : ∀ c : Int, fs__law_mixed [.d (.int c), .d (.int (k / maxI 1 (ns.length : Int) % 127))] (fun d as' =>
      match d, D.int 7, fun z => match z, D.int n, fun z => q z (outs [.par (.lst [.lst (ns.map D.int), .int k]), .d (.int n)] [.par (.lst [.lst (ns.map D.int), .int (k + 1)]), .d (.int n), .d (.int k), .d (.int (maxI 1 (ns.length : Int))), .d (.int c)]) with
        | D.int i, D.int j, q => 0 < j ∧ q (D.int (i % j))
        | _, _, _ => False with
      | D.int i, D.int j, q => CDivW i j ∧ q (D.int (i / j))
      | _, _, _ => False) fun _ _ => False := fun c => by
    refine ⟨c, _, rfl, Int.emod_nonneg _ (by decide), Int.emod_lt_of_pos _ (by decide), fun r as' hr => ?_⟩
    exact ⟨cdivw_of (by decide) (by decide), h3, h _ (Int.emod_nonneg _ (by omega)) (Int.emod_lt_of_pos _ h3)⟩
  refine ⟨by simp, by decide, ?_⟩
  split
  · rename_i hne
    have hne : ns ≠ [] := by intro e; subst e; simp at hne
    refine ⟨hm1, ?_⟩
    obtain ⟨y, e, hy⟩ := at_of (ys := ns.map D.int) (Int.emod_nonneg k (show maxI 1 (ns.length : Int) ≠ 0 by omega)) (by
      have := Int.emod_lt_of_pos k hm1
      rw [List.length_map]
      rw [hm3 hne] at this ⊢
      exact this)
    rw [e]
    obtain ⟨c, _, rfl⟩ := List.mem_map.mp hy
    exact ⟨cdivw_of hm1 (by omega), by decide, by simp, mix c⟩
  · exact ⟨cdivw_of hm1 (by omega), by decide, by simp, mix 0⟩

theorem ok__law_next {P : Program} {w : World} {K : PySem.W.Frag} {mg : Str → Option Value} {base : Heap} {f : Addr} {fd : FuncData} (F : Fun K "_law_next" "_law_next" s__law_next f fd) (g : mg "_law_next" = some (.ref f)) (b : Binds K fd ["draw", "size"] [])
    (m_max : mg "max" = none)
    (m_len : mg "len" = none)
    {f__law_mixed : Addr} {fd__law_mixed : FuncData} (C__law_mixed : CalG P w K mg base 1 "_law_mixed" s__law_mixed ["cell", "k"] fs__law_mixed f__law_mixed fd__law_mixed) :
    CalG P w K mg base 2 "_law_next" s__law_next ["draw", "size"] fs__law_next f fd :=
  ⟨F, g, b, fn_okG F sc__law_next (by decide) fl__law_next fun cdv A outer s H E gd hr => ⟨t__law_next, ds__law_next gd hr m_max m_len C__law_mixed, vc__law_next⟩⟩
def fs__law_deep : FS := fun as q _ => ∃ (ns : List Int) (k : Int) (x : D), as = [.par (.lst [.lst (ns.map D.int), .int k]), .d x] ∧ ns.length ≤ 63 ∧ 0 ≤ k ∧ ok5 x = true ∧ dp5 x ≤ 5 ∧ (wr5 x).length ≤ 71680 ∧ wt x ≤ 41984 ∧
  ∀ y k', ok5 y = true → dp5 y ≤ 20 → (wr5 y).length ≤ 80000 → wt y ≤ 50000 → 0 ≤ k' → q y [.par (.lst [.lst (ns.map D.int), .int k']), .d x]
theorem fl__law_deep : FLen fs__law_deep 2 := fun as q xq h => by
  rcases h with ⟨ns, k, room, rfl, _⟩
  rfl

def t__law_deep : TSd := (sSeq (sFor (iRngD (aCons (dCallN fs__law_next (aCons (dN 0) (aCons (dC (.int 15)) aNil))) aNil)) (gN 2) (sAsg (dBin dIx (dLst (aCons (dTup (aCons (dN 1) aNil)) (aCons (dTup (aCons (dN 1) (aCons (dC (.int 1)) aNil))) (aCons (dTup (aCons (dC (.str [])) (aCons (dN 1) aNil))) aNil)))) (dCallN fs__law_next (aCons (dN 0) (aCons (dC (.int 3)) aNil)))) (gN 1)))
  (sRet (dN 1)))
theorem ds__law_deep {P : Program} {w : World} {K : PySem.W.Frag} {mg : Str → Option Value} {base : Heap} {f : Addr} {cdv : Value} {A : Around} {outer : List PySem.Env} {s : Shared} {H : Hp} {E : XK} (gd : NoG A) (hr : Room 2 (A.deeper (PyProof.Rows.envOfC "_law_deep" (defScope s__law_deep) s.heap.objs.size f cdv)))
    (m_range : mg "range" = none)
    {f__law_next : Addr} {fd__law_next : FuncData} (C__law_next : CalG P w K mg base 2 "_law_next" s__law_next ["draw", "size"] fs__law_next f__law_next fd__law_next) :
    DSs (cxOf (L2.CX P w) P w K mg base n__law_deep "_law_deep" (defScope s__law_deep) f cdv A outer s H E) (WE1 E) (defBody s__law_deep) t__law_deep := by
  have hu := hr.units
  let nm := n__law_deep
  let st := s__law_deep
  have sc := sc__law_deep
  exact (dss_cons (ds_for (passes_of rfl) rfl (di_range1 (pi_range1 (by rfl) m_range (da_cons (de_callN (pe_GC C__law_next.ok gd (hr.mono (by decide)) (by rfl) C__law_next.g C__law_next.F.kp C__law_next.b passL (da_cons (de_n (pv 0)) (da_cons de_int da_nil)).pa)) da_nil).pa)) (dg_n (pg_name (i := 2) sc.nd rfl (by first | exact .inl rfl | exact .inr rfl))) (dss_one (ds_set (i := 1) (de_ix (de_lst (da_cons (de_tup (da_cons (de_n (pv 1)) da_nil)) (da_cons (de_tup (da_cons (de_n (pv 1)) (da_cons de_int da_nil))) (da_cons (de_tup (da_cons (de_str []) (da_cons (de_n (pv 1)) da_nil))) da_nil)))) (de_callN (pe_GC C__law_next.ok gd (hr.mono (by decide)) (by rfl) C__law_next.g C__law_next.F.kp C__law_next.b passL (da_cons (de_n (pv 0)) (da_cons de_int da_nil)).pa))) sc.nd rfl (by first | exact .inl rfl | exact .inr rfl))))
  (dss_one (ds_ret (de_n (pv 1)))))
theorem vc__law_deep : ∀ as q xq, fs__law_deep as q xq → t__law_deep { nx := fun ε => q .non (outs as ε), rt := fun d ε => q d (outs as ε), xq := fun e ε => xq e (outs as ε) } (env0 as n__law_deep.length) := by
  intro as q xq h
  rcases h with ⟨ns, k, x, rfl, h1, hk, hx, hd, hl, hw, h⟩
  (refine seq_of fun K1 hK1 => ?_); push_cast [t__law_deep, env0, ↓x_sFor]
  refine ⟨by simp, ns, _, _, rfl, h1, hk, by decide, fun r h11 h12 => ?_⟩
  push_cast [outs]
  refine ⟨by omega, by omega, ?_⟩
  refine forD_ind (fun pre ε => ∃ (k' : Int) (y : D) (o2 : Option D), 0 ≤ k' ∧ ok5 y = true ∧ dp5 y ≤ 5 + pre.length ∧ (wr5 y).length ≤ 71680 + 6 * pre.length ∧ wt y ≤ 41984 + 43 * pre.length ∧ ε = [.par (.lst [.lst (ns.map D.int), .int k']), .d y, .opt o2])
    ⟨k + 1, x, none, by omega, hx, by simpa using hd, by simpa using hl, by simpa using hw, rfl⟩ (fun ε he => ?_) ?_
  · obtain ⟨k', y, o2, hk', hy, hyd, hyl, hyw, rfl⟩ := he
    simp only [List.length_map, List.length_range] at hyd hyl hyw
    refine hK1 _ ?_
    push_cast [outs]
    exact h y k' hy (by omega) (by omega) (by omega) hk'
  · rintro pre z post _ K e ⟨k', y, o2, hk', hy, hyd, hyl, hyw, rfl⟩ hK
    have he := congrArg List.length e
    simp only [List.length_map, List.length_range, List.length_append, List.length_cons] at he
    push_cast [outs]
    refine ⟨by decide, by decide, by decide, by decide, by simp, ns, _, _, rfl, h1, hk', by decide, fun r3 h31 h32 => ?_⟩
    obtain ⟨w, ew, ow, dw, lw⟩ := deep_pick hy h31 h32
    have ww := deep_wt ew
    push_cast [ew]
    refine hK _ ⟨k' + 1, w, some z, by omega, ow, by simp; omega, by simp; omega, by simp; omega, rfl⟩

theorem ok__law_deep {P : Program} {w : World} {K : PySem.W.Frag} {mg : Str → Option Value} {base : Heap} {f : Addr} {fd : FuncData} (F : Fun K "_law_deep" "_law_deep" s__law_deep f fd) (g : mg "_law_deep" = some (.ref f)) (b : Binds K fd ["draw", "item"] [])
    (m_range : mg "range" = none)
    {f__law_next : Addr} {fd__law_next : FuncData} (C__law_next : CalG P w K mg base 2 "_law_next" s__law_next ["draw", "size"] fs__law_next f__law_next fd__law_next) :
    CalG P w K mg base 3 "_law_deep" s__law_deep ["draw", "item"] fs__law_deep f fd :=
  ⟨F, g, b, fn_okG F sc__law_deep (by decide) fl__law_deep fun cdv A outer s H E gd hr => ⟨t__law_deep, ds__law_deep gd hr m_range C__law_next, vc__law_deep⟩⟩
def fs_thing_text : Nat → FS := fun n as q _ => ∃ x : D, as = [.d x] ∧ ok5 x = true ∧ dp5 x ≤ n ∧ (wr5 x).length ≤ 1000000 ∧ ∀ as', q (.str (wr5 x)) as'
theorem fl_thing_text : ∀ n, FLen (fs_thing_text n) 1 := fun n as q xq h => by
  rcases h with ⟨i, rfl, _⟩
  rfl

def t_thing_text (R_thing_text : FS) : TSd := (sSeq (sIf (bCmp dIsN (dN 0) (dC .non)) (sRet (dC (.str [110, 111, 110, 101]))) sNil)
  (sSeq (sIf (bTru (dIsi "bool" (dN 0))) (sRet (dIf (bTru (dN 0)) (dC (.str [121, 101, 115])) (dC (.str [110, 111])))) sNil)
  (sSeq (sIf (bTru (dCallN fs_is_number (aCons (dN 0) aNil))) (sRet (dCB (d1 fStrI) (aCons (dN 0) aNil))) sNil)
  (sSeq (sIf (bTru (dIsi "str" (dN 0))) (sSeq (sAsg (dRepl (dRepl (dN 0) [92] [92, 92]) [34] [92, 34]) (gN 1))
  (sRet (dBin dAddA (dBin dAddA (dC (.str [34])) (dRepl (dN 1) [10] [92, 110])) (dC (.str [34]))))) sNil)
  (sRet (dBin dAddA (dBin dAddA (dC (.str [40])) (dM1 fJoin (dC (.str [44, 32])) (dNew (nLc (iSeqD (dN 0)) [2] (gN 2) bYes (dCallN R_thing_text (aCons (dN 2) aNil)))))) (dC (.str [41]))))))))
theorem ds_thing_text {P : Program} {w : World} {K : PySem.W.Frag} {mg : Str → Option Value} {base : Heap} {f : Addr} {cdv : Value} {A : Around} {outer : List PySem.Env} {s : Shared} {H : Hp} {E : XK} {k : Nat} (hk : 1 ≤ k) (gd : NoG A) (hr : Room k (A.deeper (PyProof.Rows.envOfC "thing_text" (defScope s_thing_text) s.heap.objs.size f cdv))) (R_thing_text : FS)
    (m_isinstance : mg "isinstance" = none)
    (m_bool : mg "bool" = none)
    {f_is_number : Addr} {fd_is_number : FuncData} (C_is_number : CalG P w K mg base 1 "is_number" s_is_number ["thing"] fs_is_number f_is_number fd_is_number)
    (m_str : mg "str" = none)
    {f_thing_text : Addr} {fd_thing_text : FuncData} (C_thing_text : CalG P w K mg base k "thing_text" s_thing_text ["thing"] R_thing_text f_thing_text fd_thing_text) :
    DSs (cxOf (L2.CX P w) P w K mg base n_thing_text "thing_text" (defScope s_thing_text) f cdv A outer s H E) (WE1 E) (defBody s_thing_text) (t_thing_text R_thing_text) := by
  have hu := hr.units
  let nm := n_thing_text
  let st := s_thing_text
  have sc := sc_thing_text
  exact (dss_cons (ds_if (dt_cmp isR (de_n (pv 0)) de_non) (dss_one (ds_ret (de_str [110, 111, 110, 101]))) dss_nil)
  (dss_ifN (dtn_isT (de_n (pv 0)) (by rfl) m_isinstance (pe_bltn (by rfl) m_bool bt_bool rfl)) (de_if (dt_tru (de_n (pv 0))) (de_str [121, 101, 115]) (de_str [110, 111]))
  (dsst_cons (dst_of (ds_if (dt_tru (de_callN (pe_GC C_is_number.ok gd (hr.mono (by omega)) (by rfl) C_is_number.g C_is_number.F.kp C_is_number.b passL (da_cons (de_n (pv 0)) da_nil).pa))) (dss_one (ds_ret (de_cb strIR (pe_callTy strIR.h (by rfl) m_str bt_str (da_cons (de_n (pv 0)) da_nil).pa)))) dss_nil))
  (dsst_cons (dst_if (dt_tru (de_isT (de_n (pv 0)) (by rfl) m_isinstance (pe_bltn (by rfl) m_str bt_str rfl))) (dsst_cons (dst_set (i := 1) (det_replT (y := [34]) (z := [92, 34]) (det_repl (y := [92]) (z := [92, 92]) (de_n (pv 0)))) sc.nd rfl (by first | exact .inl rfl | exact .inr rfl))
  (dsst_one (dst_ret (det_op addRA (det_op addRA (det_of (de_str [34])) (det_repl (y := [10]) (z := [92, 110]) (de_n (pv 1)))) (det_of (de_str [34])))))) (dsst_of dss_nil))
  (dsst_one (dst_of (ds_ret (de_op addRA (de_op addRA (de_str [40]) (de_m1 joinR (pe_m1 PySem.F.slot_str_join PySem.F.type_str_join joinR.h (de_str [44, 32]).pe (de_new (dn_lc (own := [("part", 2)]) rfl sc.nd (di_seq (de_n (pv 0))) (blkOk_by (own := [("part", 2)]) (N := nm) (sc := defScope st) (by decide +kernel)) (fun _ _ _ _ _ => (dg_n (pg_name (i := 2) sc.nd rfl (by first | exact .inl rfl | exact .inr rfl)))) gkd_n (fun _ _ _ _ _ => dts_nil) (fun _ _ _ _ _ => (de_callN (pe_GC C_thing_text.ok gd (hr.mono (by omega)) (by rfl) C_thing_text.g C_thing_text.F.kp C_thing_text.b passL (da_cons (de_n (pv 2)) da_nil).pa))) gs_n)).pe))) (de_str [41])))))))))
theorem vc_thing_text : ∀ n as q xq, fs_thing_text n as q xq → t_thing_text (pr fs_thing_text n) { nx := fun ε => q .non (outs as ε), rt := fun d ε => q d (outs as ε), xq := fun e ε => xq e (outs as ε) } (env0 as n_thing_text.length) := by
  intro n as q xq h
  rcases h with ⟨x, rfl, hx, hd, hl, h⟩
  cases x with
  | non =>
    (refine seq_of fun K1 hK1 => ?_); push_cast [t_thing_text, env0]
    exact h _
  | bl b =>
    (refine seq_of fun K1 hK1 => ?_); push_cast [t_thing_text, env0]
    refine hK1 _ ?_
    (refine seq_of fun K2 hK2 => ?_); push_cast [outs]
    have := h [Sl.d (D.bl b)]
    rw [wr5] at this
    cases b
    · exact this
    · exact this
  | int i =>
    (refine seq_of fun K1 hK1 => ?_); push_cast [t_thing_text, env0]
    refine hK1 _ ?_
    (refine seq_of fun K2 hK2 => ?_); push_cast [outs]
    refine hK2 _ ?_
    (refine seq_of fun K3 hK3 => ?_); push_cast [fStrI]
    have hi : i.natAbs < 1000000000000 := of_decide_eq_true hx
    refine ⟨by simp, .int i, rfl, hx, fun _ => ?_⟩
    push_cast [isI5]
    exact ⟨hi, h _⟩
  | str s =>
    (refine seq_of fun K1 hK1 => ?_); push_cast [t_thing_text, env0]
    refine hK1 _ ?_
    (refine seq_of fun K2 hK2 => ?_); push_cast [outs]
    refine hK2 _ ?_
    (refine seq_of fun K3 hK3 => ?_); push_cast [outs]
    refine ⟨by simp, .str s, rfl, hx, fun _ => ?_⟩
    push_cast [isI5]
    refine hK3 _ ?_
    (refine seq_of fun K4 hK4 => ?_); push_cast [outs]
    refine seq_of fun K5 hK5 => ?_
    have he := esc_len s
    have hw : (wr5 (.str s)).length = (esc s).length + 2 := by rw [wr5, List.length_cons, List.length_append]; rfl
    have l1 := rep1_len 92 92 92 s
    have l2 := rep1_len 34 92 34 (rep1 92 [92, 92] s)
    push_cast [↓x_dRepl, repl_one]
    refine ⟨by omega, by omega, hK5 _ ?_⟩
    push_cast [↓x_dRepl, repl_one, esc_rep]
    have := h [Sl.d (D.str s)]
    rw [wr5] at this
    exact ⟨by omega, line_of' (by omega), line_of' (by omega), this⟩
  | tup xs =>
    (refine seq_of fun K1 hK1 => ?_); push_cast [t_thing_text, env0]
    refine hK1 _ ?_
    (refine seq_of fun K2 hK2 => ?_); push_cast [outs]
    refine hK2 _ ?_
    (refine seq_of fun K3 hK3 => ?_); push_cast [outs]
    refine ⟨by simp, .tup xs, rfl, hx, fun _ => ?_⟩
    push_cast [isI5]
    refine hK3 _ ?_
    (refine seq_of fun K4 hK4 => ?_); push_cast [outs]
    refine hK4 _ ?_
    have hd' : dps5 xs + 1 ≤ n := hd
    obtain ⟨m, rfl⟩ : ∃ m, n = m + 1 := ⟨n - 1, by omega⟩
    have hw : (wr5 (.tup xs)).length = (joinL [44, 32] (wrs5 xs)).length + 2 := by rw [wr5, List.length_cons, List.length_append]; rfl
    have hj := join_sum 44 32 (wrs5 xs)
    have hln : (wrs5 xs).length = xs.length := by rw [wrs_map, List.length_map]
    push_cast [outs]
    refine lc_fm (fun x => [.str (wr5 x)]) ?_ (by omega) (by simp) ?_
    rotate_left
    · intro x acc K hp hla hK
      have e1 := dps_all x hp
      have e2 := sum_mem (wr5 x) (by rw [wrs_map]; exact List.mem_map.mpr ⟨x, hp, rfl⟩ : wr5 x ∈ wrs5 xs)
      push_cast [outs]
      exact ⟨by simp, x, rfl, oks_all hx x hp, by omega, by omega, fun _ => ⟨hla, hK⟩⟩
    · rw [fm_wr]
      push_cast [jn, strsOf_map]
      have := h [Sl.d (D.tup xs)]
      rw [wr5] at this
      exact ⟨by rw [hln]; omega, line_of' (by omega), line_of' (by omega), this⟩
  | _ => cases hx

theorem okst_thing_text {P : Program} {w : World} {K : PySem.W.Frag} {mg : Str → Option Value} {base : Heap} {f : Addr} {fd : FuncData} (F : Fun K "thing_text" "thing_text" s_thing_text f fd) (g : mg "thing_text" = some (.ref f)) (b : Binds K fd ["thing"] []) (n : Nat) {k : Nat} (hk : 1 ≤ k)
    (m_isinstance : mg "isinstance" = none)
    (m_bool : mg "bool" = none)
    {f_is_number : Addr} {fd_is_number : FuncData} (C_is_number : CalG P w K mg base 1 "is_number" s_is_number ["thing"] fs_is_number f_is_number fd_is_number)
    (m_str : mg "str" = none)
    {f_thing_text : Addr} {fd_thing_text : FuncData} (C_thing_text : CalG P w K mg base k "thing_text" s_thing_text ["thing"] (pr fs_thing_text n) f_thing_text fd_thing_text) :
    CalG P w K mg base (k + 1) "thing_text" s_thing_text ["thing"] (fs_thing_text n) f fd :=
  ⟨F, g, b, fn_okG F sc_thing_text (by decide) (fl_thing_text n) fun cdv A outer s H E gd hr => ⟨t_thing_text (pr fs_thing_text n), ds_thing_text hk gd hr (pr fs_thing_text n) m_isinstance m_bool C_is_number m_str C_thing_text, vc_thing_text n⟩⟩
theorem okS_thing_text {P : Program} {w : World} {K : PySem.W.Frag} {mg : Str → Option Value} {base : Heap} {f_thing_text : Addr} {fd_thing_text : FuncData}
    (F_thing_text : Fun K "thing_text" "thing_text" s_thing_text f_thing_text fd_thing_text) (g_thing_text : mg "thing_text" = some (.ref f_thing_text)) (b_thing_text : Binds K fd_thing_text ["thing"] [])
    (m_isinstance : mg "isinstance" = none)
    (m_bool : mg "bool" = none)
    {f_is_number : Addr} {fd_is_number : FuncData} (C_is_number : CalG P w K mg base 1 "is_number" s_is_number ["thing"] fs_is_number f_is_number fd_is_number)
    (m_str : mg "str" = none) (n : Nat) :
    (CalG P w K mg base (n + 2) "thing_text" s_thing_text ["thing"] (fs_thing_text n) f_thing_text fd_thing_text) := by
  induction n with
  | zero =>
    have C_thing_text : CalG P w K mg base 1 "thing_text" s_thing_text ["thing"] (pr fs_thing_text 0) f_thing_text fd_thing_text := ⟨F_thing_text, g_thing_text, b_thing_text, bot_ok⟩
    have D_thing_text := okst_thing_text F_thing_text g_thing_text b_thing_text 0 (k := 1) (by omega) m_isinstance m_bool C_is_number m_str C_thing_text
    rw [show 0 + 2 = 1 + 1 from rfl]
    exact D_thing_text
  | succ n ih =>
    have E_thing_text := ih
    have C_thing_text : CalG P w K mg base (n + 2) "thing_text" s_thing_text ["thing"] (pr fs_thing_text (n + 1)) f_thing_text fd_thing_text := E_thing_text
    have D_thing_text := okst_thing_text F_thing_text g_thing_text b_thing_text (n + 1) (k := n + 2) (by omega) m_isinstance m_bool C_is_number m_str C_thing_text
    rw [show n + 1 + 2 = n + 2 + 1 by omega]
    exact D_thing_text
def isEnd (r : List Nat) : Prop := r = [] ∨ ∃ c u, r = c :: u ∧ (c = 44 ∨ c = 41)
def fs_thing_at : Nat → FS := fun n as q _ => ∃ (p r : List Nat) (x : D) (deep : Nat), as = [.d (.str (p ++ (wr5 x ++ r))), .d (.int (p.length : Nat)), .d (.int (deep : Nat))] ∧ (p ++ (wr5 x ++ r)).length ≤ 1000000 ∧ isEnd r ∧ ok5 x = true ∧ 2 * dp5 x ≤ n ∧ dp5 x ≤ deep ∧
  ∀ as', q (.tup [x, .int ((p.length + (wr5 x).length : Nat))]) as'
theorem fl_thing_at : ∀ n, FLen (fs_thing_at n) 3 := fun n as q xq h => by
  rcases h with ⟨p, r, x, deep, rfl, _⟩
  rfl

def fs_tuple_at : Nat → FS := fun n as q _ => ∃ (p r : List Nat) (xs : List D) (deep : Nat), as = [.d (.str (p ++ (joinL [44, 32] (wrs5 xs) ++ 41 :: r))), .d (.int (p.length : Nat)), .d (.int (deep : Nat))] ∧ (p ++ (joinL [44, 32] (wrs5 xs) ++ 41 :: r)).length ≤ 1000000 ∧ oks5 xs = true ∧ 2 * dps5 xs + 1 ≤ n ∧ dps5 xs + 1 ≤ deep ∧
  ∀ as', q (.tup [.tup xs, .int ((p.length + (joinL [44, 32] (wrs5 xs)).length + 1 : Nat))]) as'
theorem fl_tuple_at : ∀ n, FLen (fs_tuple_at n) 3 := fun n as q xq h => by
  rcases h with ⟨p, r, x, deep, rfl, _⟩
  rfl

def t_thing_at (R_thing_at R_tuple_at : FS) : TSd := (sSeq (sAsg (dSliceA (dN 0) (oSome (dN 1)) (oSome (dBin dAddA (dN 1) (dC (.int 1))))) (gN 3))
  (sSeq (sIf (bCmp dEq (dN 3) (dC (.str [40]))) (sRet (dCallN R_tuple_at (aCons (dN 0) (aCons (dBin dAddA (dN 1) (dC (.int 1))) (aCons (dN 2) aNil))))) sNil)
  (sSeq (sIf (bCmp dEq (dN 3) (dC (.str [34]))) (sRet (dCallN fs_text_at (aCons (dN 0) (aCons (dBin dAddA (dN 1) (dC (.int 1))) aNil)))) sNil)
  (sSeq (sAsg (dCallN fs_run_end (aCons (dN 0) (aCons (dN 1) (aCons (dC (.str [44, 41])) aNil)))) (gN 4))
  (sRet (dTup (aCons (dCallN fs_word_told (aCons (dSliceA (dN 0) (oSome (dN 1)) (oSome (dN 4))) aNil)) (aCons (dN 4) aNil))))))))
theorem ds_thing_at {P : Program} {w : World} {K : PySem.W.Frag} {mg : Str → Option Value} {base : Heap} {f : Addr} {cdv : Value} {A : Around} {outer : List PySem.Env} {s : Shared} {H : Hp} {E : XK} {k : Nat} (hk : 2 ≤ k) (gd : NoG A) (hr : Room k (A.deeper (PyProof.Rows.envOfC "thing_at" (defScope s_thing_at) s.heap.objs.size f cdv))) (R_thing_at R_tuple_at : FS)
    {f_tuple_at : Addr} {fd_tuple_at : FuncData} (C_tuple_at : CalG P w K mg base k "tuple_at" s_tuple_at ["text", "at", "deep"] R_tuple_at f_tuple_at fd_tuple_at)
    {f_text_at : Addr} {fd_text_at : FuncData} (C_text_at : CalG P w K mg base 2 "text_at" s_text_at ["text", "at"] fs_text_at f_text_at fd_text_at)
    {f_run_end : Addr} {fd_run_end : FuncData} (C_run_end : CalG P w K mg base 1 "run_end" s_run_end ["text", "at", "barred"] fs_run_end f_run_end fd_run_end)
    {f_word_told : Addr} {fd_word_told : FuncData} (C_word_told : CalG P w K mg base 2 "word_told" s_word_told ["word"] fs_word_told f_word_told fd_word_told) :
    DSs (cxOf (L2.CX P w) P w K mg base n_thing_at "thing_at" (defScope s_thing_at) f cdv A outer s H E) (WE1 E) (defBody s_thing_at) (t_thing_at R_thing_at R_tuple_at) := by
  have hu := hr.units
  let nm := n_thing_at
  let st := s_thing_at
  have sc := sc_thing_at
  exact (dss_cons (ds_set (i := 3) (de_sliceA (de_n (pv 0)) (do_some (de_n (pv 1))) (do_some (de_op addRA (de_n (pv 1)) de_int))) sc.nd rfl (by first | exact .inl rfl | exact .inr rfl))
  (dss_cons (ds_if (dt_cmp (eqR hu) (de_n (pv 3)) (de_str [40])) (dss_one (ds_ret (de_callN (pe_GC C_tuple_at.ok gd (hr.mono (by omega)) (by rfl) C_tuple_at.g C_tuple_at.F.kp C_tuple_at.b passL (da_cons (de_n (pv 0)) (da_cons (de_op addRA (de_n (pv 1)) de_int) (da_cons (de_n (pv 2)) da_nil))).pa)))) dss_nil)
  (dss_cons (ds_if (dt_cmp (eqR hu) (de_n (pv 3)) (de_str [34])) (dss_one (ds_ret (de_callN (pe_GC C_text_at.ok gd (hr.mono (by omega)) (by rfl) C_text_at.g C_text_at.F.kp C_text_at.b passL (da_cons (de_n (pv 0)) (da_cons (de_op addRA (de_n (pv 1)) de_int) da_nil)).pa)))) dss_nil)
  (dss_cons (ds_set (i := 4) (de_callN (pe_GC C_run_end.ok gd (hr.mono (by omega)) (by rfl) C_run_end.g C_run_end.F.kp C_run_end.b passL (da_cons (de_n (pv 0)) (da_cons (de_n (pv 1)) (da_cons (de_str [44, 41]) da_nil))).pa)) sc.nd rfl (by first | exact .inl rfl | exact .inr rfl))
  (dss_one (ds_ret (de_tup (da_cons (de_callN (pe_GC C_word_told.ok gd (hr.mono (by omega)) (by rfl) C_word_told.g C_word_told.F.kp C_word_told.b passL (da_cons (de_sliceA (de_n (pv 0)) (do_some (de_n (pv 1))) (do_some (de_n (pv 4)))) da_nil).pa)) (da_cons (de_n (pv 4)) da_nil)))))))))
def t_tuple_at (R_thing_at R_tuple_at : FS) : TSd := (sSeq (sIf (bCmp dEq (dN 2) (dC (.int 0))) sNever sNil)
  (sSeq (sIf (bCmp dEq (dSliceA (dN 0) (oSome (dN 1)) (oSome (dBin dAddA (dN 1) (dC (.int 1))))) (dC (.str [41]))) (sRet (dTup (aCons (dTup aNil) (aCons (dBin dAddA (dN 1) (dC (.int 1))) aNil)))) sNil)
  (sSeq (sSetO 3 (nLst aNil))
  (sWhile (bTru (dC (.bl true))) (sSeq (sAsg (dCallN R_thing_at (aCons (dN 0) (aCons (dN 1) (aCons (dBin dSub (dN 2) (dC (.int 1))) aNil)))) (gTup0 (gCons0 (gN 4) (gCons0 (gN 5) gNil0))))
  (sSeq (sApp 3 (dN 4))
  (sSeq (sIf (bCmp dEq (dSliceA (dN 0) (oSome (dN 5)) (oSome (dBin dAddA (dN 5) (dC (.int 1))))) (dC (.str [41]))) (sRet (dTup (aCons (dCB (d1 fTuple) (aCons (dN 3) aNil)) (aCons (dBin dAddA (dN 5) (dC (.int 1))) aNil)))) sNil)
  (sSeq (sIf (bCmp dNe (dSliceA (dN 0) (oSome (dN 5)) (oSome (dBin dAddA (dN 5) (dC (.int 2))))) (dC (.str [44, 32]))) sNever sNil)
  (sAsg (dBin dAddA (dN 5) (dC (.int 2))) (gN 1))))))))))
theorem ds_tuple_at {P : Program} {w : World} {K : PySem.W.Frag} {mg : Str → Option Value} {base : Heap} {f : Addr} {cdv : Value} {A : Around} {outer : List PySem.Env} {s : Shared} {H : Hp} {E : XK} {k : Nat} (hk : 2 ≤ k) (gd : NoG A) (hr : Room k (A.deeper (PyProof.Rows.envOfC "tuple_at" (defScope s_tuple_at) s.heap.objs.size f cdv))) (R_thing_at R_tuple_at : FS)
    {f_thing_at : Addr} {fd_thing_at : FuncData} (C_thing_at : CalG P w K mg base k "thing_at" s_thing_at ["text", "at", "deep"] R_thing_at f_thing_at fd_thing_at)
    (m_tuple : mg "tuple" = none) :
    DSs (cxOf (L2.CX P w) P w K mg base n_tuple_at "tuple_at" (defScope s_tuple_at) f cdv A outer s H E) (WE1 E) (defBody s_tuple_at) (t_tuple_at R_thing_at R_tuple_at) := by
  have hu := hr.units
  let nm := n_tuple_at
  let st := s_tuple_at
  have sc := sc_tuple_at
  exact (dss_cons (ds_if (dt_cmp (eqR hu) (de_n (pv 2)) de_int) (dss_one ds_never) dss_nil)
  (dss_cons (ds_if (dt_cmp (eqR hu) (de_sliceA (de_n (pv 0)) (do_some (de_n (pv 1))) (do_some (de_op addRA (de_n (pv 1)) de_int))) (de_str [41])) (dss_one (ds_ret (de_tup (da_cons (de_tup da_nil) (da_cons (de_op addRA (de_n (pv 1)) de_int) da_nil))))) dss_nil)
  (dss_cons (ds_seto (i := 3) (dn_lst da_nil) sc.nd rfl (by first | exact .inl rfl | exact .inr rfl))
  (dss_one (ds_while (passes_of rfl) (dt_tru de_bl) (dss_cons (ds_asg (de_callN (pe_GC C_thing_at.ok gd (hr.mono (by omega)) (by rfl) C_thing_at.g C_thing_at.F.kp C_thing_at.b passL (da_cons (de_n (pv 0)) (da_cons (de_n (pv 1)) (da_cons (de_op rSub (de_n (pv 2)) de_int) da_nil))).pa)) (dg_tup rfl (dgs_cons (us := [4, 5]) (dg_n (pg_name (i := 4) sc.nd rfl (by first | exact .inl rfl | exact .inr rfl))) (dgs_cons (us := [4, 5]) (dg_n (pg_name (i := 5) sc.nd rfl (by first | exact .inl rfl | exact .inr rfl))) (dgs_nil (vs := [4, 5])))) (gLen_n (gLen_n gLen_nil))))
  (dss_cons (ds_app (i := 3) (ps_expr (pe_bm PySem.F.plainAttrs_list PySem.F.slot_list_append PySem.F.type_list_append mt_append (pv 3) (pa_cons (de_n (pv 4)).pe pa_nil))))
  (dss_cons (ds_if (dt_cmp (eqR hu) (de_sliceA (de_n (pv 0)) (do_some (de_n (pv 5))) (do_some (de_op addRA (de_n (pv 5)) de_int))) (de_str [41])) (dss_one (ds_ret (de_tup (da_cons (de_cb tupleR (pe_callTy tupleR.h (by rfl) m_tuple bt_tuple (da_cons (de_n (pv 3)) da_nil).pa)) (da_cons (de_op addRA (de_n (pv 5)) de_int) da_nil))))) dss_nil)
  (dss_cons (ds_if (dt_cmp (neR hu) (de_sliceA (de_n (pv 0)) (do_some (de_n (pv 5))) (do_some (de_op addRA (de_n (pv 5)) de_int))) (de_str [44, 32])) (dss_one ds_never) dss_nil)
  (dss_one (ds_set (i := 1) (de_op addRA (de_n (pv 5)) de_int) sc.nd rfl (by first | exact .inl rfl | exact .inr rfl))))))))))))
theorem vc_thing_at : ∀ n as q xq, fs_thing_at n as q xq → t_thing_at (pr fs_thing_at n) (pr fs_tuple_at n) { nx := fun ε => q .non (outs as ε), rt := fun d ε => q d (outs as ε), xq := fun e ε => xq e (outs as ε) } (env0 as n_thing_at.length) := by
  intro n as q xq h
  rcases h with ⟨p, r, x, deep, rfl, hl, hr, hx, hn, hd, h⟩
  have plain : ∀ c u, wr5 x = c :: u → c ≠ 40 → c ≠ 34 → (∀ d ∈ wr5 x, d ∉ [44, 41]) → (∀ s, x ≠ .str s) → (∀ s, x ≠ .tup s) → t_thing_at (pr fs_thing_at n) (pr fs_tuple_at n) { nx := fun ε => q .non (outs [.d (.str (p ++ (wr5 x ++ r))), .d (.int (p.length : Nat)), .d (.int (deep : Nat))] ε), rt := fun d ε => q d (outs [.d (.str (p ++ (wr5 x ++ r))), .d (.int (p.length : Nat)), .d (.int (deep : Nat))] ε), xq := fun e ε => xq e (outs [.d (.str (p ++ (wr5 x ++ r))), .d (.int (p.length : Nat)), .d (.int (deep : Nat))] ε) } (env0 [.d (.str (p ++ (wr5 x ++ r))), .d (.int (p.length : Nat)), .d (.int (deep : Nat))] n_thing_at.length) := fun c u ec h40 h34 hb hs ht => by
    have e1 : cut (p ++ (wr5 x ++ r)) (some ((p.length : Nat) : Int)) (some (((p.length : Nat) : Int) + 1)) = [c] := by
      rw [ec]
      exact cut_at1
    have er : runEnd (p ++ (wr5 x ++ r)) [44, 41] p.length = p.length + (wr5 x).length := by
      rcases hr with rfl | ⟨d, v, rfl, hd2⟩
      · unfold runEnd
        rw [List.drop_left, List.append_nil, tw_all hb]
      · exact run_stop hb (by rcases hd2 with rfl | rfl <;> decide)
    (refine seq_of fun K1 hK1 => ?_); push_cast [t_thing_at, env0, e1]
    refine ⟨line_of' hl, hK1 _ ?_⟩
    clear hK1
    (refine seq_of fun K2 hK2 => ?_); push_cast [outs]
    rw [if_neg (by simpa using h40)]
    refine hK2 _ ?_
    clear hK2
    (refine seq_of fun K3 hK3 => ?_); push_cast [outs]
    rw [if_neg (by simpa using h34)]
    refine hK3 _ ?_
    clear hK3
    (refine seq_of fun K4 hK4 => ?_); push_cast [outs]
    refine ⟨by simp, _, _, p.length, rfl, by simp, hl, fun _ => ?_⟩
    rw [er]
    push_cast [outs]
    refine hK4 _ ?_
    clear hK4
    push_cast [cut_amid]
    refine ⟨line_of' hl, by simp, x, rfl, hx, hs, ht, fun _ => ?_⟩
    push_cast [outs]
    exact ⟨by decide, h _⟩
  cases x with
  | non => exact plain 110 _ rfl (by decide) (by decide) (by decide) (fun _ z => by cases z) (fun _ z => by cases z)
  | bl b =>
    cases b
    · exact plain 110 _ rfl (by decide) (by decide) (by decide) (fun _ z => by cases z) (fun _ z => by cases z)
    · exact plain 121 _ rfl (by decide) (by decide) (by decide) (fun _ z => by cases z) (fun _ z => by cases z)
  | int i =>
    have dg : ∀ d ∈ intL i, d = 45 ∨ 48 ≤ d ∧ d ≤ 57 := fun d hd => by
      obtain ⟨m, ⟨_, e2⟩ | ⟨_, e2⟩⟩ := intL_shape i <;> rw [e2] at hd
      · exact .inr (numL_digits _ d hd)
      · rcases List.mem_cons.mp hd with rfl | hd
        · exact .inl rfl
        · exact .inr (numL_digits _ d hd)
    obtain ⟨c, u, ec⟩ : ∃ c u, intL i = c :: u := by
      cases hc : intL i with
      | cons c u => exact ⟨c, u, rfl⟩
      | nil =>
        obtain ⟨m, ⟨_, e2⟩ | ⟨_, e2⟩⟩ := intL_shape i <;> rw [e2] at hc
        · exact absurd hc (numL_ne _)
        · cases hc
    have hc := dg c (by rw [ec]; exact List.mem_cons_self)
    exact plain c u ec (by omega) (by omega) (fun d hd => by
      have := dg d hd
      simp
      omega) (fun _ z => by cases z) (fun _ z => by cases z)
  | str s =>
    have e1 : cut (p ++ (wr5 (.str s) ++ r)) (some ((p.length : Nat) : Int)) (some (((p.length : Nat) : Int) + 1)) = [34] := cut_at1
    have e2 : p ++ (wr5 (.str s) ++ r) = (p ++ [34]) ++ (esc s ++ 34 :: r) := by
      rw [wr5]
      simp
    have e3 : (wr5 (.str s)).length = (esc s).length + 2 := by rw [wr5, List.length_cons, List.length_append]; rfl
    (refine seq_of fun K1 hK1 => ?_); push_cast [t_thing_at, env0, e1]
    refine ⟨line_of' hl, hK1 _ ?_⟩
    clear hK1
    (refine seq_of fun K2 hK2 => ?_); push_cast [outs]
    rw [if_neg (by decide)]
    refine hK2 _ ?_
    clear hK2
    (refine seq_of fun K3 hK3 => ?_); push_cast [outs]
    refine ⟨by simp, p ++ [34], s, r, ?_, by rw [← e2]; exact hl, fun _ => ?_⟩
    · rw [e2]
      simp
    · push_cast [outs]
      have := h [Sl.d (D.str (p ++ (wr5 (.str s) ++ r))), .d (.int (p.length : Nat)), .d (.int (deep : Nat))]
      rw [e3, show p.length + ((esc s).length + 2) = (p ++ [34]).length + (esc s).length + 1 by rw [List.length_append, List.length_singleton]; omega] at this
      exact this
  | tup xs =>
    have e1 : cut (p ++ (wr5 (.tup xs) ++ r)) (some ((p.length : Nat) : Int)) (some (((p.length : Nat) : Int) + 1)) = [40] := cut_at1
    have e2 : p ++ (wr5 (.tup xs) ++ r) = (p ++ [40]) ++ (joinL [44, 32] (wrs5 xs) ++ 41 :: r) := by
      rw [wr5]
      simp
    have e3 : (wr5 (.tup xs)).length = (joinL [44, 32] (wrs5 xs)).length + 2 := by rw [wr5, List.length_cons, List.length_append]; rfl
    have hn' : 2 * (dps5 xs + 1) ≤ n := hn
    have hd' : dps5 xs + 1 ≤ deep := hd
    obtain ⟨m, rfl⟩ : ∃ m, n = m + 1 := ⟨n - 1, by omega⟩
    (refine seq_of fun K1 hK1 => ?_); push_cast [t_thing_at, env0, e1]
    refine ⟨line_of' hl, hK1 _ ?_⟩
    clear hK1
    (refine seq_of fun K2 hK2 => ?_); push_cast [outs]
    refine ⟨by simp, p ++ [40], r, xs, deep, ?_, by rw [← e2]; exact hl, hx, by omega, hd', fun _ => ?_⟩
    · rw [e2]
      simp
    · push_cast [outs]
      have := h [Sl.d (D.str (p ++ (wr5 (.tup xs) ++ r))), .d (.int (p.length : Nat)), .d (.int (deep : Nat))]
      rw [e3, show p.length + ((joinL [44, 32] (wrs5 xs)).length + 2) = (p ++ [40]).length + (joinL [44, 32] (wrs5 xs)).length + 1 by rw [List.length_append, List.length_singleton]; omega] at this
      exact this
  | _ => cases hx

theorem vc_tuple_at : ∀ n as q xq, fs_tuple_at n as q xq → t_tuple_at (pr fs_thing_at n) (pr fs_tuple_at n) { nx := fun ε => q .non (outs as ε), rt := fun d ε => q d (outs as ε), xq := fun e ε => xq e (outs as ε) } (env0 as n_tuple_at.length) := by
  intro n as q xq h
  rcases h with ⟨p, r, xs, deep, rfl, hl, hx, hn, hd, h⟩
  obtain ⟨m, rfl⟩ : ∃ m, n = m + 1 := ⟨n - 1, by omega⟩
  (refine seq_of fun K1 hK1 => ?_); push_cast [t_tuple_at, env0]
  rw [if_neg (by omega)]
  refine hK1 _ ?_
  clear hK1
  (refine seq_of fun K2 hK2 => ?_); push_cast [outs]
  cases xs with
  | nil =>
    have e1 : cut (p ++ (joinL [44, 32] (wrs5 []) ++ 41 :: r)) (some ((p.length : Nat) : Int)) (some (((p.length : Nat) : Int) + 1)) = [41] := cut_at1
    rw [e1, if_pos rfl]
    exact ⟨line_of' hl, by decide, by decide, h _⟩
  | cons x ys =>
    have hx2 := Bool.and_eq_true_iff.mp (show (ok5 x && oks5 ys) = true from hx)
    obtain ⟨c, u, ec, hc⟩ := wr_head hx2.1
    have e1 : cut (p ++ (joinL [44, 32] (wrs5 (x :: ys)) ++ 41 :: r)) (some ((p.length : Nat) : Int)) (some (((p.length : Nat) : Int) + 1)) = [c] := by
      cases ys with
      | nil =>
        rw [show joinL [44, 32] (wrs5 [x]) = wr5 x by simp [wrs5, joinL], ec]
        exact cut_at1
      | cons y zs =>
        rw [wrs5, wrs5, join_two, ec]
        exact cut_at1
    rw [e1, if_neg (by simpa using hc)]
    refine ⟨line_of' hl, hK2 _ ?_⟩
    clear hK2
    (refine seq_of fun K3 hK3 => ?_); push_cast [outs]
    refine ⟨by decide, hK3 _ ?_⟩
    clear hK3
    refine while_ind (fun m ε => ∃ (p' : List Nat) (done : List D) (y : D) (rest : List D) (o4 o5 : Option D), x :: ys = done ++ y :: rest ∧ p ++ (joinL [44, 32] (wrs5 (x :: ys)) ++ 41 :: r) = p' ++ (joinL [44, 32] (wrs5 (y :: rest)) ++ 41 :: r) ∧ rest.length = m ∧
      ε = [.d (.str (p ++ (joinL [44, 32] (wrs5 (x :: ys)) ++ 41 :: r))), .d (.int (p'.length : Nat)), .d (.int (deep : Nat)), .own (.lst done), .opt o4, .opt o5])
      ys.length ⟨p, [], x, ys, none, none, rfl, rfl, rfl, rfl⟩ ?_
    rintro k ε K ⟨p', done, y, rest, o4, o5, es, et, ek, rfl⟩ hK
    have hym : y ∈ x :: ys := by rw [es]; simp
    have oy := oks_all hx y hym
    have dy := dps_all y hym
    have hdl : done.length ≤ (x :: ys).length := by rw [es]; simp
    have hxl : (x :: ys).length ≤ 1000000 := by
      have hj := (join_sum 44 32 (wrs5 (x :: ys))).2
      have hln : (wrs5 (x :: ys)).length = (x :: ys).length := by rw [wrs_map, List.length_map]
      simp only [List.length_append, List.length_cons] at hl hln hj ⊢
      omega
    obtain ⟨r', er', hend⟩ : ∃ r', joinL [44, 32] (wrs5 (y :: rest)) ++ 41 :: r = wr5 y ++ r' ∧ ((rest = [] ∧ r' = 41 :: r) ∨ ∃ z zs, rest = z :: zs ∧ r' = 44 :: 32 :: (joinL [44, 32] (wrs5 (z :: zs)) ++ 41 :: r)) := by
      cases rest with
      | nil => exact ⟨_, by rw [show joinL [44, 32] (wrs5 [y]) = wr5 y by simp [wrs5, joinL]], .inl ⟨rfl, rfl⟩⟩
      | cons z zs => exact ⟨44 :: 32 :: (joinL [44, 32] (wrs5 (z :: zs)) ++ 41 :: r), by rw [wrs5, wrs5, join_two, List.append_assoc]; rfl, .inr ⟨z, zs, rfl, rfl⟩⟩
    have et2 : p ++ (joinL [44, 32] (wrs5 (x :: ys)) ++ 41 :: r) = p' ++ (wr5 y ++ r') := by rw [et, er']
    push_cast [outs]
    refine seq_of fun K4 hK4 => ?_
    push_cast [outs]
    refine ⟨by simp, p', r', y, deep - 1, by rw [et2, show ((deep - 1 : Nat) : Int) = (deep : Int) - 1 by omega], by rw [← et2]; exact hl, ?_, oy, by omega, by omega, fun _ => ?_⟩
    · rcases hend with ⟨_, rfl⟩ | ⟨z, zs, _, rfl⟩
      · exact .inr ⟨41, _, rfl, .inr rfl⟩
      · exact .inr ⟨44, _, rfl, .inl rfl⟩
    push_cast [outs]
    refine hK4 _ ?_
    clear hK4
    (refine seq_of fun K5 hK5 => ?_); push_cast [outs]
    refine ⟨Nat.lt_of_lt_of_le (show done.length < 1000001 by omega) (by decide), hK5 _ ?_⟩
    clear hK5
    have eP : p ++ (joinL [44, 32] (wrs5 (x :: ys)) ++ 41 :: r) = (p' ++ wr5 y) ++ r' := by rw [et2, List.append_assoc]
    have eL : p'.length + (wr5 y).length = (p' ++ wr5 y).length := by rw [List.length_append]
    rw [eL]
    rcases hend with ⟨rfl, rfl⟩ | ⟨z, zs, rfl, rfl⟩
    · have c1 : cut (p ++ (joinL [44, 32] (wrs5 (x :: ys)) ++ 41 :: r)) (some (((p' ++ wr5 y).length : Nat) : Int)) (some ((((p' ++ wr5 y).length : Nat) : Int) + 1)) = [41] := by
        rw [eP]
        exact cut_at1
      (refine seq_of fun K6 hK6 => ?_); push_cast [c1]
      refine ⟨line_of' hl, by decide, ?_⟩
      have hlen := congrArg List.length eP
      simp only [List.length_append, List.length_cons] at hlen
      have := h [Sl.d (D.str (p ++ (joinL [44, 32] (wrs5 (x :: ys)) ++ 41 :: r))), .d (.int (p.length : Nat)), .d (.int (deep : Nat))]
      rw [show p.length + (joinL [44, 32] (wrs5 (x :: ys))).length + 1 = (p' ++ wr5 y).length + 1 by rw [List.length_append]; omega] at this
      rw [← es]
      exact this
    · have c1 : cut (p ++ (joinL [44, 32] (wrs5 (x :: ys)) ++ 41 :: r)) (some (((p' ++ wr5 y).length : Nat) : Int)) (some ((((p' ++ wr5 y).length : Nat) : Int) + 1)) = [44] := by
        rw [eP]
        exact cut_at1
      have c2 : cut (p ++ (joinL [44, 32] (wrs5 (x :: ys)) ++ 41 :: r)) (some (((p' ++ wr5 y).length : Nat) : Int)) (some ((((p' ++ wr5 y).length : Nat) : Int) + 2)) = [44, 32] := by
        rw [eP]
        exact cut_at2
      (refine seq_of fun K6 hK6 => ?_); push_cast [c1]
      refine ⟨line_of' hl, ?_⟩
      rw [if_neg (by decide)]
      refine hK6 _ ?_
      clear hK6
      (refine seq_of fun K7 hK7 => ?_); push_cast [c2]
      refine ⟨line_of' hl, ?_⟩
      rw [if_neg (by simp)]
      refine hK7 _ ?_
      clear hK7
      push_cast [outs]
      refine hK zs.length _ (by rw [← ek]; simp) ⟨p' ++ wr5 y ++ [44, 32], done ++ [y], z, zs, some y, some (.int ((p' ++ wr5 y).length : Nat)), by rw [es]; simp, by rw [eP]; simp, rfl, ?_⟩
      rw [show (((p' ++ wr5 y).length : Nat) : Int) + 2 = ((p' ++ wr5 y ++ [44, 32]).length : Nat) by simp only [List.length_append, List.length_cons, List.length_nil]; omega]
      rfl

theorem okst_thing_at {P : Program} {w : World} {K : PySem.W.Frag} {mg : Str → Option Value} {base : Heap} {f : Addr} {fd : FuncData} (F : Fun K "thing_at" "thing_at" s_thing_at f fd) (g : mg "thing_at" = some (.ref f)) (b : Binds K fd ["text", "at", "deep"] []) (n : Nat) {k : Nat} (hk : 2 ≤ k)
    {f_tuple_at : Addr} {fd_tuple_at : FuncData} (C_tuple_at : CalG P w K mg base k "tuple_at" s_tuple_at ["text", "at", "deep"] (pr fs_tuple_at n) f_tuple_at fd_tuple_at)
    {f_text_at : Addr} {fd_text_at : FuncData} (C_text_at : CalG P w K mg base 2 "text_at" s_text_at ["text", "at"] fs_text_at f_text_at fd_text_at)
    {f_run_end : Addr} {fd_run_end : FuncData} (C_run_end : CalG P w K mg base 1 "run_end" s_run_end ["text", "at", "barred"] fs_run_end f_run_end fd_run_end)
    {f_word_told : Addr} {fd_word_told : FuncData} (C_word_told : CalG P w K mg base 2 "word_told" s_word_told ["word"] fs_word_told f_word_told fd_word_told) :
    CalG P w K mg base (k + 1) "thing_at" s_thing_at ["text", "at", "deep"] (fs_thing_at n) f fd :=
  ⟨F, g, b, fn_okG F sc_thing_at (by decide) (fl_thing_at n) fun cdv A outer s H E gd hr => ⟨t_thing_at (pr fs_thing_at n) (pr fs_tuple_at n), ds_thing_at hk gd hr (pr fs_thing_at n) (pr fs_tuple_at n) C_tuple_at C_text_at C_run_end C_word_told, vc_thing_at n⟩⟩
theorem okst_tuple_at {P : Program} {w : World} {K : PySem.W.Frag} {mg : Str → Option Value} {base : Heap} {f : Addr} {fd : FuncData} (F : Fun K "tuple_at" "tuple_at" s_tuple_at f fd) (g : mg "tuple_at" = some (.ref f)) (b : Binds K fd ["text", "at", "deep"] []) (n : Nat) {k : Nat} (hk : 2 ≤ k)
    {f_thing_at : Addr} {fd_thing_at : FuncData} (C_thing_at : CalG P w K mg base k "thing_at" s_thing_at ["text", "at", "deep"] (pr fs_thing_at n) f_thing_at fd_thing_at)
    (m_tuple : mg "tuple" = none) :
    CalG P w K mg base (k + 1) "tuple_at" s_tuple_at ["text", "at", "deep"] (fs_tuple_at n) f fd :=
  ⟨F, g, b, fn_okG F sc_tuple_at (by decide) (fl_tuple_at n) fun cdv A outer s H E gd hr => ⟨t_tuple_at (pr fs_thing_at n) (pr fs_tuple_at n), ds_tuple_at hk gd hr (pr fs_thing_at n) (pr fs_tuple_at n) C_thing_at m_tuple, vc_tuple_at n⟩⟩
theorem okS_thing_at {P : Program} {w : World} {K : PySem.W.Frag} {mg : Str → Option Value} {base : Heap} {f_thing_at : Addr} {fd_thing_at : FuncData} {f_tuple_at : Addr} {fd_tuple_at : FuncData}
    (F_thing_at : Fun K "thing_at" "thing_at" s_thing_at f_thing_at fd_thing_at) (g_thing_at : mg "thing_at" = some (.ref f_thing_at)) (b_thing_at : Binds K fd_thing_at ["text", "at", "deep"] []) (F_tuple_at : Fun K "tuple_at" "tuple_at" s_tuple_at f_tuple_at fd_tuple_at) (g_tuple_at : mg "tuple_at" = some (.ref f_tuple_at)) (b_tuple_at : Binds K fd_tuple_at ["text", "at", "deep"] [])
    {f_text_at : Addr} {fd_text_at : FuncData} (C_text_at : CalG P w K mg base 2 "text_at" s_text_at ["text", "at"] fs_text_at f_text_at fd_text_at)
    {f_run_end : Addr} {fd_run_end : FuncData} (C_run_end : CalG P w K mg base 1 "run_end" s_run_end ["text", "at", "barred"] fs_run_end f_run_end fd_run_end)
    {f_word_told : Addr} {fd_word_told : FuncData} (C_word_told : CalG P w K mg base 2 "word_told" s_word_told ["word"] fs_word_told f_word_told fd_word_told)
    (m_tuple : mg "tuple" = none) (n : Nat) :
    (CalG P w K mg base (n + 3) "thing_at" s_thing_at ["text", "at", "deep"] (fs_thing_at n) f_thing_at fd_thing_at) ∧ (CalG P w K mg base (n + 3) "tuple_at" s_tuple_at ["text", "at", "deep"] (fs_tuple_at n) f_tuple_at fd_tuple_at) := by
  induction n with
  | zero =>
    have C_thing_at : CalG P w K mg base 2 "thing_at" s_thing_at ["text", "at", "deep"] (pr fs_thing_at 0) f_thing_at fd_thing_at := ⟨F_thing_at, g_thing_at, b_thing_at, bot_ok⟩
    have C_tuple_at : CalG P w K mg base 2 "tuple_at" s_tuple_at ["text", "at", "deep"] (pr fs_tuple_at 0) f_tuple_at fd_tuple_at := ⟨F_tuple_at, g_tuple_at, b_tuple_at, bot_ok⟩
    have D_thing_at := okst_thing_at F_thing_at g_thing_at b_thing_at 0 (k := 2) (by omega) C_tuple_at C_text_at C_run_end C_word_told
    have D_tuple_at := okst_tuple_at F_tuple_at g_tuple_at b_tuple_at 0 (k := 2) (by omega) C_thing_at m_tuple
    rw [show 0 + 3 = 2 + 1 from rfl]
    exact ⟨D_thing_at, D_tuple_at⟩
  | succ n ih =>
    obtain ⟨E_thing_at, E_tuple_at⟩ := ih
    have C_thing_at : CalG P w K mg base (n + 3) "thing_at" s_thing_at ["text", "at", "deep"] (pr fs_thing_at (n + 1)) f_thing_at fd_thing_at := E_thing_at
    have C_tuple_at : CalG P w K mg base (n + 3) "tuple_at" s_tuple_at ["text", "at", "deep"] (pr fs_tuple_at (n + 1)) f_tuple_at fd_tuple_at := E_tuple_at
    have D_thing_at := okst_thing_at F_thing_at g_thing_at b_thing_at (n + 1) (k := n + 3) (by omega) C_tuple_at C_text_at C_run_end C_word_told
    have D_tuple_at := okst_tuple_at F_tuple_at g_tuple_at b_tuple_at (n + 1) (k := n + 3) (by omega) C_thing_at m_tuple
    rw [show n + 1 + 3 = n + 3 + 1 by omega]
    exact ⟨D_thing_at, D_tuple_at⟩
/-- a log as text -/
def lgT (rows : List (List D)) : List Nat := joinL [] (rows.map fun xs => wr5 (.tup xs) ++ [10])
def okL (rows : List (List D)) : Prop := ∀ xs ∈ rows, oks5 xs = true ∧ dps5 xs ≤ 21
def fs_log_text : FS := fun as q _ => ∃ (x : Sl) (rows : List (List D)), as = [x] ∧ (x = .d (.lst (rows.map D.tup)) ∨ x = .d (.tup (rows.map D.tup))) ∧ okL rows ∧ (lgT rows).length ≤ 900000 ∧ q (.str (lgT rows)) [x]
theorem fl_log_text : FLen fs_log_text 1 := fun as q xq h => by
  rcases h with ⟨t, i, rfl, _⟩
  rfl
theorem spl_lg : ∀ rows : List (List D), okL rows → spl [10] 0 [] (lgT rows) = (rows.map fun xs => wr5 (.tup xs)) ++ [[]]
  | [], _ => by
    show spl [10] 0 [] [] = _
    rw [spl_one6 [] [] (by simp)]
    rfl
  | x :: r, ok => by
    have e : lgT (x :: r) = wr5 (.tup x) ++ 10 :: lgT r := by
      unfold lgT
      rw [join_flat, join_flat, List.map_cons, List.flatten_cons, List.append_assoc]
      rfl
    rw [e, spl_more6 _ _ _ (wr_no (.tup x) (ok x List.mem_cons_self).1), spl_lg r fun y hy => ok y (List.mem_cons_of_mem _ hy)]
    rfl
def goodL (rows : List (List D)) : Prop := okL rows ∧ (lgT rows).length ≤ 60000 ∧ wts (rows.map D.tup) ≤ 40000 ∧ dps5 (rows.map D.tup) ≤ 5 ∧ rows.length ≤ 6
theorem row_of {r : Nat} (hr : r ≤ 2) {y : D} (oy : ok5 y = true) (dy : dp5 y ≤ 3) (ly : (wr5 y).length ≤ bd5 3) (wy : wt y ≤ 41 * 4 ^ 3) :
    oks5 (List.replicate r [y]).flatten = true ∧ dps5 (List.replicate r [y]).flatten ≤ 3 ∧ (wr5 (.tup (List.replicate r [y]).flatten)).length ≤ 9000 ∧ wts (List.replicate r [y]).flatten ≤ 6000 := by
  have hm : ∀ x ∈ (List.replicate r [y]).flatten, x = y := by simp
  have hl : (List.replicate r [y]).flatten.length = r := by simp
  generalize (List.replicate r [y]).flatten = xs at hm hl
  have hb : bd5 3 = 4480 := rfl
  have h4 : 41 * 4 ^ 3 = 2624 := rfl
  rw [hb] at ly
  rw [h4] at wy
  refine ⟨oks_of fun x hx => by rw [hm x hx]; exact oy, dps_of fun x hx => by rw [hm x hx]; exact dy, ?_, ?_⟩
  · have hw : (wr5 (.tup xs)).length = (joinL [44, 32] (wrs5 xs)).length + 2 := by rw [wr5, List.length_cons, List.length_append]; rfl
    have hj := (join_sum 44 32 (wrs5 xs)).1
    have hln : (wrs5 xs).length = xs.length := by rw [wrs_map, List.length_map]
    have hs := sum_of (n := 4480) (xs := wrs5 xs) fun w hw => by
      rw [wrs_map] at hw
      obtain ⟨x, hx, rfl⟩ := List.mem_map.mp hw
      rw [hm x hx]
      exact ly
    rw [hln, hl] at hs hj
    omega
  · have := wts_of (n := 2624) (xs := xs) fun x hx => by rw [hm x hx]; exact wy
    rw [hl] at this
    omega
theorem good_of {rows : List (List D)} (hl : rows.length ≤ 6) (h : ∀ xs ∈ rows, oks5 xs = true ∧ dps5 xs ≤ 3 ∧ (wr5 (.tup xs)).length ≤ 9000 ∧ wts xs ≤ 6000) : goodL rows := by
  refine ⟨fun xs hx => ⟨(h xs hx).1, by have := (h xs hx).2.1; omega⟩, ?_, ?_, ?_, hl⟩
  · have hj := join_nil (rows.map fun xs => wr5 (.tup xs) ++ [10])
    have hs := sum_of (n := 9001) (xs := rows.map fun xs => wr5 (.tup xs) ++ [10]) fun w hw => by
      obtain ⟨xs, hx, rfl⟩ := List.mem_map.mp hw
      have := (h xs hx).2.2.1
      rw [List.length_append, List.length_singleton]
      omega
    rw [List.length_map] at hs
    show (joinL [] _).length ≤ 60000
    omega
  · have := wts_of (n := 6000) (xs := rows.map D.tup) fun x hx => by
      obtain ⟨xs, hx2, rfl⟩ := List.mem_map.mp hx
      exact (h xs hx2).2.2.2
    rw [List.length_map] at this
    omega
  · refine Nat.le_trans (dps_of (n := 4) fun x hx => ?_) (by omega)
    obtain ⟨xs, hx2, rfl⟩ := List.mem_map.mp hx
    show dps5 xs + 1 ≤ 4
    have := (h xs hx2).2.1
    omega
def goodB (rows : List (List D)) : Prop := okL rows ∧ (lgT rows).length ≤ 130000 ∧ wts (rows.map D.tup) ≤ 90000 ∧ dps5 (rows.map D.tup) ≤ 5
theorem good_b {A : List (List D)} (h : goodL A) : goodB A := ⟨h.1, by have := h.2.1; omega, by have := h.2.2.1; omega, h.2.2.2.1⟩
theorem wts_app : ∀ xs ys : List D, wts (xs ++ ys) = wts xs + wts ys
  | [], ys => by simp [wts]
  | x :: r, ys => by
    rw [List.cons_append, wts, wts, wts_app r ys]
    omega
theorem good_ab {A B : List (List D)} (h : goodL A) (h' : goodL B) : goodB (A ++ B) := by
  have eAB : lgT (A ++ B) = lgT A ++ lgT B := by
    unfold lgT
    rw [join_flat, join_flat, join_flat, List.map_append, List.flatten_append]
  refine ⟨fun xs hx => (List.mem_append.mp hx).elim (h.1 xs) (h'.1 xs), ?_, ?_, dps_of fun x hx => ?_⟩
  · rw [eAB, List.length_append]
    have := h.2.1
    have := h'.2.1
    omega
  · rw [List.map_append, wts_app]
    have := h.2.2.1
    have := h'.2.2.1
    omega
  · rw [List.map_append] at hx
    rcases List.mem_append.mp hx with hx | hx
    · exact Nat.le_trans (dps_all x hx) h.2.2.2.1
    · exact Nat.le_trans (dps_all x hx) h'.2.2.2.1

def t_log_text : TSd := (sRet (dM1 fJoin (dC (.str [])) (dNew (nLc (iSeqD (dN 0)) [1] (gN 1) bYes (dBin dAddA (dCallN (fs_thing_text 46) (aCons (dN 1) aNil)) (dC (.str [10])))))))
theorem ds_log_text {P : Program} {w : World} {K : PySem.W.Frag} {mg : Str → Option Value} {base : Heap} {f : Addr} {cdv : Value} {A : Around} {outer : List PySem.Env} {s : Shared} {H : Hp} {E : XK} (gd : NoG A) (hr : Room 48 (A.deeper (PyProof.Rows.envOfC "log_text" (defScope s_log_text) s.heap.objs.size f cdv)))
    {f_thing_text : Addr} {fd_thing_text : FuncData} (C_thing_text : CalG P w K mg base 48 "thing_text" s_thing_text ["thing"] (fs_thing_text 46) f_thing_text fd_thing_text) :
    DSs (cxOf (L2.CX P w) P w K mg base n_log_text "log_text" (defScope s_log_text) f cdv A outer s H E) (WE1 E) (defBody s_log_text) t_log_text := by
  have hu := hr.units
  let nm := n_log_text
  let st := s_log_text
  have sc := sc_log_text
  exact (dss_one (ds_ret (de_m1 joinR (pe_m1 PySem.F.slot_str_join PySem.F.type_str_join joinR.h (de_str []).pe (de_new (dn_lc (own := [("row", 1)]) rfl sc.nd (di_seq (de_n (pv 0))) (blkOk_by (own := [("row", 1)]) (N := nm) (sc := defScope st) (by decide +kernel)) (fun _ _ _ _ _ => (dg_n (pg_name (i := 1) sc.nd rfl (by first | exact .inl rfl | exact .inr rfl)))) gkd_n (fun _ _ _ _ _ => dts_nil) (fun _ _ _ _ _ => (de_op addRA (de_callN (pe_GC C_thing_text.ok gd (hr.mono (by decide)) (by rfl) C_thing_text.g C_thing_text.F.kp C_thing_text.b passL (da_cons (de_n (pv 1)) da_nil).pa)) (de_str [10]))) gs_n)).pe))))
theorem vc_log_text : ∀ as q xq, fs_log_text as q xq → t_log_text { nx := fun ε => q .non (outs as ε), rt := fun d ε => q d (outs as ε), xq := fun e ε => xq e (outs as ε) } (env0 as n_log_text.length) := by
  intro as q xq h
  rcases h with ⟨x, rows, rfl, hx, ok, hl, h⟩
  have hj := join_nil (rows.map fun xs => wr5 (.tup xs) ++ [10])
  have hl' : (((rows.map fun xs => wr5 (.tup xs) ++ [10])).map List.length).sum ≤ 900000 := by rw [← hj]; exact hl
  have hrl : rows.length ≤ 900000 := Nat.le_trans (lg_rows rows) hl'
  have core : outs [x] [x, .no] = [x] → lcD [1] (gN 1) bYes (dBin dAddA (dCallN (fs_thing_text 46) (aCons (dN 1) aNil)) (dC (.str [10]))) (rows.map D.tup) [] [x, .no] (fun acc ε2 => jn [] acc fun z => q z (outs [x] ε2)) := fun ho => by
    refine lc_fm2 (fun xs => [.str (wr5 (.tup xs) ++ [10])]) ?_ (by omega) (by simp) ?_
    rotate_left
    · intro xs acc K hp hla hK
      have e2 := sum_mem (wr5 (.tup xs) ++ [10]) (List.mem_map.mpr ⟨xs, hp, rfl⟩ : wr5 (.tup xs) ++ [10] ∈ rows.map fun xs => wr5 (.tup xs) ++ [10])
      rw [List.length_append, List.length_singleton] at e2
      have hk := ok xs hp
      push_cast [outs]
      refine ⟨by simp, .tup xs, rfl, hk.1, show dps5 xs + 1 ≤ 46 by omega, by omega, fun _ => ?_⟩
      push_cast [outs]
      exact ⟨line_of' (by omega), hla, hK⟩
    · rw [fm_lg]
      push_cast [jn, strsOf_map]
      rw [ho]
      exact ⟨by omega, h⟩
  rcases hx with rfl | rfl
  · push_cast [t_log_text, env0]
    exact core rfl
  · push_cast [t_log_text, env0]
    exact core rfl

theorem ok_log_text {P : Program} {w : World} {K : PySem.W.Frag} {mg : Str → Option Value} {base : Heap} {f : Addr} {fd : FuncData} (F : Fun K "log_text" "log_text" s_log_text f fd) (g : mg "log_text" = some (.ref f)) (b : Binds K fd ["log"] [])
    {f_thing_text : Addr} {fd_thing_text : FuncData} (C_thing_text : CalG P w K mg base 48 "thing_text" s_thing_text ["thing"] (fs_thing_text 46) f_thing_text fd_thing_text) :
    CalG P w K mg base 49 "log_text" s_log_text ["log"] fs_log_text f fd :=
  ⟨F, g, b, fn_okG F sc_log_text (by decide) fl_log_text fun cdv A outer s H E gd hr => ⟨t_log_text, ds_log_text gd hr C_thing_text, vc_log_text⟩⟩
def fs__law_thing : Nat → FS := fun n as q _ => ∃ (ns : List Int) (k : Int) (room : Nat), as = [.par (.lst [.lst (ns.map D.int), .int k]), .d (.int (room : Nat))] ∧ ns.length ≤ 63 ∧ 0 ≤ k ∧ room ≤ n ∧ room ≤ 5 ∧
  ∀ x k', ok5 x = true → dp5 x ≤ room → (wr5 x).length ≤ bd5 room → wt x ≤ 41 * 4 ^ room → 0 ≤ k' → q x [.par (.lst [.lst (ns.map D.int), .int k']), .d (.int (room : Nat))]
theorem fl__law_thing : ∀ n, FLen (fs__law_thing n) 2 := fun n as q xq h => by
  rcases h with ⟨ns, k, room, rfl, _⟩
  rfl

def t__law_thing (R__law_thing : FS) : TSd := (sSeq (sAsg (dCallN fs__law_next (aCons (dN 0) (aCons (dC (.int 10)) aNil))) (gN 2))
  (sSeq (sIf (bAnd (bCmp dLt (dN 2) (dC (.int 3))) (bCmp dGt (dN 1) (dC (.int 0)))) (sRet (dCB (d1 fTuple) (aCons (dNew (nLc (iRngD (aCons (dCallN fs__law_next (aCons (dN 0) (aCons (dC (.int 4)) aNil))) aNil)) [5] (gN 5) bYes (dCallN R__law_thing (aCons (dN 0) (aCons (dBin dSub (dN 1) (dC (.int 1))) aNil))))) aNil))) sNil)
  (sSeq (sIf (bCmp dLt (dN 2) (dC (.int 6))) (sSeq (sAsg (dLst (aCons (dC (.str [92])) (aCons (dC (.str [34])) (aCons (dC (.str [10])) (aCons (dC (.str [110])) (aCons (dC (.str [97])) (aCons (dC (.str [32])) (aCons (dC (.str [44])) (aCons (dC (.str [40])) (aCons (dC (.str [41])) (aCons (dC (.str [48])) (aCons (dC (.str [45])) (aCons (dC (.str [126])) (aCons (dC (.str [110, 111, 110, 101])) (aCons (dC (.str [121, 101, 115])) (aCons (dC (.str [44, 32])) (aCons (dC (.str [90])) aNil))))))))))))))))) (gN 4))
  (sRet (dM1 fJoin (dC (.str [])) (dNew (nLc (iRngD (aCons (dCallN fs__law_next (aCons (dN 0) (aCons (dC (.int 9)) aNil))) aNil)) [5] (gN 5) bYes (dBin dIx (dN 4) (dCallN fs__law_next (aCons (dN 0) (aCons (dC (.int 16)) aNil))))))))) sNil)
  (sSeq (sIf (bCmp dEq (dN 2) (dC (.int 6))) (sRet (dBin dIx (dLst (aCons (dC .non) (aCons (dC (.bl true)) (aCons (dC (.bl false)) aNil)))) (dCallN fs__law_next (aCons (dN 0) (aCons (dC (.int 3)) aNil))))) sNil)
  (sSeq (sAsg (dBin dIx (dLst (aCons (dCallN fs__law_next (aCons (dN 0) (aCons (dC (.int 12)) aNil))) (aCons (dCallN fs__law_next (aCons (dN 0) (aCons (dBin dPow (dC (.int 10)) (dC (.int 9))) aNil))) (aCons (dBin dPow (dC (.int 10)) (dC (.int 9))) (aCons (dC (.int 0)) aNil))))) (dCallN fs__law_next (aCons (dN 0) (aCons (dC (.int 4)) aNil)))) (gN 3))
  (sRet (dBin dMulB (dN 3) (dBin dIx (dLst (aCons (dC (.int 1)) (aCons (dUn dNeg (dC (.int 1))) aNil))) (dCallN fs__law_next (aCons (dN 0) (aCons (dC (.int 2)) aNil)))))))))))
theorem ds__law_thing {P : Program} {w : World} {K : PySem.W.Frag} {mg : Str → Option Value} {base : Heap} {f : Addr} {cdv : Value} {A : Around} {outer : List PySem.Env} {s : Shared} {H : Hp} {E : XK} {k : Nat} (hk : 2 ≤ k) (gd : NoG A) (hr : Room k (A.deeper (PyProof.Rows.envOfC "_law_thing" (defScope s__law_thing) s.heap.objs.size f cdv))) (R__law_thing : FS)
    {f__law_next : Addr} {fd__law_next : FuncData} (C__law_next : CalG P w K mg base 2 "_law_next" s__law_next ["draw", "size"] fs__law_next f__law_next fd__law_next)
    (m_tuple : mg "tuple" = none)
    (m_range : mg "range" = none)
    {f__law_thing : Addr} {fd__law_thing : FuncData} (C__law_thing : CalG P w K mg base k "_law_thing" s__law_thing ["draw", "room"] R__law_thing f__law_thing fd__law_thing) :
    DSs (cxOf (L2.CX P w) P w K mg base n__law_thing "_law_thing" (defScope s__law_thing) f cdv A outer s H E) (WE1 E) (defBody s__law_thing) (t__law_thing R__law_thing) := by
  have hu := hr.units
  let nm := n__law_thing
  let st := s__law_thing
  have sc := sc__law_thing
  exact (dss_cons (ds_set (i := 2) (de_callN (pe_GC C__law_next.ok gd (hr.mono (by omega)) (by rfl) C__law_next.g C__law_next.F.kp C__law_next.b passL (da_cons (de_n (pv 0)) (da_cons de_int da_nil)).pa)) sc.nd rfl (by first | exact .inl rfl | exact .inr rfl))
  (dss_cons (ds_if (dt_w (dw_and (dt_cmp rLt (de_n (pv 2)) de_int) (dw_and1 (dt_cmp rGt (de_n (pv 1)) de_int)))) (dss_one (ds_ret (de_cb tupleR (pe_callTy tupleR.h (by rfl) m_tuple bt_tuple (da_cons (de_new (dn_lc (own := [("j", 5)]) rfl sc.nd (di_range1 (pi_range1 (by rfl) m_range (da_cons (de_callN (pe_GC C__law_next.ok gd (hr.mono (by omega)) (by rfl) C__law_next.g C__law_next.F.kp C__law_next.b passL (da_cons (de_n (pv 0)) (da_cons de_int da_nil)).pa)) da_nil).pa)) (blkOk_by (own := [("j", 5)]) (N := nm) (sc := defScope st) (by decide +kernel)) (fun _ _ _ _ _ => (dg_n (pg_name (i := 5) sc.nd rfl (by first | exact .inl rfl | exact .inr rfl)))) gkd_n (fun _ _ _ _ _ => dts_nil) (fun _ _ _ _ _ => (de_callN (pe_GC C__law_thing.ok gd (hr.mono (by omega)) (by rfl) C__law_thing.g C__law_thing.F.kp C__law_thing.b passL (da_cons (de_n (pv 0)) (da_cons (de_op rSub (de_n (pv 1)) de_int) da_nil)).pa))) gs_n)) da_nil).pa)))) dss_nil)
  (dss_cons (ds_if (dt_cmp rLt (de_n (pv 2)) de_int) (dss_cons (ds_set (i := 4) (de_lst (da_cons (de_str [92]) (da_cons (de_str [34]) (da_cons (de_str [10]) (da_cons (de_str [110]) (da_cons (de_str [97]) (da_cons (de_str [32]) (da_cons (de_str [44]) (da_cons (de_str [40]) (da_cons (de_str [41]) (da_cons (de_str [48]) (da_cons (de_str [45]) (da_cons (de_str [126]) (da_cons (de_str [110, 111, 110, 101]) (da_cons (de_str [121, 101, 115]) (da_cons (de_str [44, 32]) (da_cons (de_str [90]) da_nil))))))))))))))))) sc.nd rfl (by first | exact .inl rfl | exact .inr rfl))
  (dss_one (ds_ret (de_m1 joinR (pe_m1 PySem.F.slot_str_join PySem.F.type_str_join joinR.h (de_str []).pe (de_new (dn_lc (own := [("j", 5)]) rfl sc.nd (di_range1 (pi_range1 (by rfl) m_range (da_cons (de_callN (pe_GC C__law_next.ok gd (hr.mono (by omega)) (by rfl) C__law_next.g C__law_next.F.kp C__law_next.b passL (da_cons (de_n (pv 0)) (da_cons de_int da_nil)).pa)) da_nil).pa)) (blkOk_by (own := [("j", 5)]) (N := nm) (sc := defScope st) (by decide +kernel)) (fun _ _ _ _ _ => (dg_n (pg_name (i := 5) sc.nd rfl (by first | exact .inl rfl | exact .inr rfl)))) gkd_n (fun _ _ _ _ _ => dts_nil) (fun _ _ _ _ _ => (de_ix (de_n (pv 4)) (de_callN (pe_GC C__law_next.ok gd (hr.mono (by omega)) (by rfl) C__law_next.g C__law_next.F.kp C__law_next.b passL (da_cons (de_n (pv 0)) (da_cons de_int da_nil)).pa)))) gs_n)).pe))))) dss_nil)
  (dss_cons (ds_if (dt_cmp (eqR hu) (de_n (pv 2)) de_int) (dss_one (ds_ret (de_ix (de_lst (da_cons de_non (da_cons de_bl (da_cons de_bl da_nil)))) (de_callN (pe_GC C__law_next.ok gd (hr.mono (by omega)) (by rfl) C__law_next.g C__law_next.F.kp C__law_next.b passL (da_cons (de_n (pv 0)) (da_cons de_int da_nil)).pa))))) dss_nil)
  (dss_cons (ds_set (i := 3) (de_ix (de_lst (da_cons (de_callN (pe_GC C__law_next.ok gd (hr.mono (by omega)) (by rfl) C__law_next.g C__law_next.F.kp C__law_next.b passL (da_cons (de_n (pv 0)) (da_cons de_int da_nil)).pa)) (da_cons (de_callN (pe_GC C__law_next.ok gd (hr.mono (by omega)) (by rfl) C__law_next.g C__law_next.F.kp C__law_next.b passL (da_cons (de_n (pv 0)) (da_cons (de_op rPow de_int de_int) da_nil)).pa)) (da_cons (de_op rPow de_int de_int) (da_cons de_int da_nil))))) (de_callN (pe_GC C__law_next.ok gd (hr.mono (by omega)) (by rfl) C__law_next.g C__law_next.F.kp C__law_next.b passL (da_cons (de_n (pv 0)) (da_cons de_int da_nil)).pa))) sc.nd rfl (by first | exact .inl rfl | exact .inr rfl))
  (dss_one (ds_ret (de_op mulRB (de_n (pv 3)) (de_ix (de_lst (da_cons de_int (da_cons (de_un negR de_int) da_nil))) (de_callN (pe_GC C__law_next.ok gd (hr.mono (by omega)) (by rfl) C__law_next.g C__law_next.F.kp C__law_next.b passL (da_cons (de_n (pv 0)) (da_cons de_int da_nil)).pa)))))))))))
theorem vc__law_thing : ∀ n as q xq, fs__law_thing n as q xq → t__law_thing (pr fs__law_thing n) { nx := fun ε => q .non (outs as ε), rt := fun d ε => q d (outs as ε), xq := fun e ε => xq e (outs as ε) } (env0 as n__law_thing.length) := by
  intro n as q xq h
  rcases h with ⟨ns, k, room, rfl, h1, hk, hrn, hr5, h⟩
  have hb := bd_pos room
  (refine seq_of fun K1 hK1 => ?_); push_cast [t__law_thing, env0]
  refine ⟨by simp, ns, _, _, rfl, h1, hk, by decide, fun r1 h11 h12 => ?_⟩
  push_cast [outs]
  refine hK1 _ ?_
  clear hK1
  refine seq_of fun K2 hK2 => ?_
  have go : K2 [.par (.lst [.lst (ns.map D.int), .int (k + 1)]), .d (.int (room : Nat)), .d (.int r1), .no, .no, .no] := by
    refine hK2 _ ?_
    clear hK2
    (refine seq_of fun K3 hK3 => ?_); push_cast [outs]
    by_cases c6 : r1 < 6
    · rw [if_pos c6]
      refine seq_of fun K4 hK4 => ?_
      push_cast [outs]
      refine ⟨by decide, hK4 _ ?_⟩
      clear hK4 hK3
      have e16 : [D.str [92], D.str [34], D.str [10], D.str [110], D.str [97], D.str [32], D.str [44], D.str [40], D.str [41], D.str [48], D.str [45], D.str [126], D.str [110, 111, 110, 101], D.str [121, 101, 115], D.str [44, 32], D.str [90]] = sg5.map D.str := rfl
      rw [e16]
      push_cast [outs]
      refine ⟨by simp, ns, _, _, rfl, h1, by omega, by decide, fun r2 h21 h22 => ?_⟩
      push_cast [outs]
      refine ⟨by omega, by omega, ?_⟩
      refine lcD_ind (fun pre acc ε => ∃ (k' : Int) (ws : List (List Nat)), 0 ≤ k' ∧ ws.length = pre.length ∧ acc = ws.map D.str ∧ (∀ w ∈ ws, w.length ≤ 4) ∧ ε = [.par (.lst [.lst (ns.map D.int), .int k']), .d (.int (room : Nat)), .d (.int r1), .no, .d (.lst (sg5.map D.str)), .no])
        ⟨_, [], by omega, rfl, rfl, fun _ h => (nomatch h), rfl⟩ (fun acc ε he => ?_) ?_
      · obtain ⟨k', ws, hk', hwl, rfl, hws, rfl⟩ := he
        simp only [List.length_map, List.length_range] at hwl
        have hs := sum_of hws
        have hj := join_nil ws
        push_cast [jn, strsOf_map]
        refine ⟨by omega, h (.str (joinL [] ws)) k' rfl (Nat.zero_le _) ?_ (show (joinL [] ws).length ≤ 41 * 4 ^ room by omega) hk'⟩
        have he := esc_len (joinL [] ws)
        have hw : (wr5 (.str (joinL [] ws))).length = (esc (joinL [] ws)).length + 2 := by rw [wr5, List.length_cons, List.length_append]; rfl
        show (wr5 (.str (joinL [] ws))).length ≤ 70 * 4 ^ room
        omega
      · rintro pre x post acc ε K he ⟨k', ws, hk', hwl, rfl, hws, rfl⟩ hK
        have he := congrArg List.length he
        simp only [List.length_map, List.length_range, List.length_append, List.length_cons] at he
        push_cast [outs]
        refine ⟨by simp, ns, _, _, rfl, h1, hk', by decide, fun r3 h31 h32 => ?_⟩
        obtain ⟨w, hwm, ew⟩ := pick_str (ws := sg5) h31 (by simpa [sg5] using h32)
        push_cast [ew]
        refine ⟨Nat.lt_of_lt_of_le (show ws.length < 100 by omega) (by decide), hK _ _ ⟨_, ws ++ [w], ?_, by simp [hwl], by simp, ?_, rfl⟩⟩
        · omega
        · intro y hy
          rcases List.mem_append.mp hy with hy | hy
          · exact hws y hy
          · rw [List.mem_singleton.mp hy]; exact sg5_len w hwm
    · rw [if_neg c6]
      refine hK3 _ ?_
      (refine seq_of fun K4 hK4 => ?_); push_cast [outs]
      by_cases c7 : r1 = 6
      · rw [if_pos c7]
        refine ⟨by decide, by simp, ns, _, _, rfl, h1, by omega, by decide, fun r2 h21 h22 => ?_⟩
        obtain ⟨w, ew, ow, dw, lw, w0⟩ : ∃ w, atI [D.non, D.bl true, D.bl false] r2 = some w ∧ ok5 w = true ∧ dp5 w = 0 ∧ (wr5 w).length ≤ 4 ∧ wt w = 0 := by
          obtain ⟨w, e, hw⟩ := at_of (ys := [D.non, D.bl true, D.bl false]) h21 (by simpa using h22)
          simp only [List.mem_cons, List.not_mem_nil, or_false] at hw
          rcases hw with rfl | rfl | rfl <;> exact ⟨_, e, rfl, rfl, by decide, rfl⟩
        push_cast [ew]
        exact h w _ ow (by omega) (Nat.le_trans lw (show 4 ≤ 70 * 4 ^ room by omega)) (by omega) (by omega)
      · rw [if_neg c7]
        refine hK4 _ ?_
        (refine seq_of fun K5 hK5 => ?_); push_cast [outs]
        refine ⟨by simp, ns, _, _, rfl, h1, by omega, by decide, fun i1 h21 h22 => ?_⟩
        push_cast [outs]
        refine ⟨⟨by decide, by decide, by decide⟩, by simp, ns, _, _, rfl, h1, by omega, by decide, fun i2 h31 h32 => ?_⟩
        push_cast [outs]
        refine ⟨⟨by decide, by decide, by decide⟩, by decide, by simp, ns, _, _, rfl, h1, by omega, by decide, fun r2 h41 h42 => ?_⟩
        have b9 : i2 < 1000000000 := by simpa using h32
        obtain ⟨v, ev, lv1, lv2⟩ : ∃ v : Int, atI [D.int i1, D.int i2, D.int (10 ^ Int.toNat 9), D.int 0] r2 = some (.int v) ∧ 0 ≤ v ∧ v ≤ 1000000000 := by
          obtain ⟨w, e, hw⟩ := at_of (ys := [D.int i1, D.int i2, D.int (10 ^ Int.toNat 9), D.int 0]) h41 (by simpa using h42)
          simp only [List.mem_cons, List.not_mem_nil, or_false] at hw
          rcases hw with rfl | rfl | rfl | rfl
          · exact ⟨_, e, by omega, by omega⟩
          · exact ⟨_, e, by omega, by omega⟩
          · exact ⟨_, e, by decide, by decide⟩
          · exact ⟨_, e, by omega, by omega⟩
        push_cast [ev]
        refine hK5 _ ?_
        push_cast [outs]
        have fin : ∀ (u : Int) (k' : Int), u.natAbs ≤ 1000000000 → 0 ≤ k' → q (.int u) [.par (.lst [.lst (ns.map D.int), .int k']), .d (.int (room : Nat))] := fun u k' hu hk' => by
          have hl := intL_len (i := u) (by omega)
          exact h (.int u) k' (decide_eq_true (by omega)) (Nat.zero_le _) (show (intL u).length ≤ 70 * 4 ^ room by omega) (show 41 ≤ 41 * 4 ^ room by omega) hk'
        refine ⟨by decide, by simp, ns, _, _, rfl, h1, by omega, by decide, fun r3 h51 h52 => ?_⟩
        rcases (show r3 = 0 ∨ r3 = 1 by omega) with rfl | rfl
        · push_cast [outs]
          exact ⟨cmul_r (by decide), fin _ _ (by omega) (by omega)⟩
        · push_cast [outs]
          exact ⟨cmul_r (by decide), fin _ _ (by omega) (by omega)⟩
  push_cast [outs]
  by_cases c3 : r1 < 3
  · rw [if_pos c3]
    by_cases c0 : (0 : Int) < (room : Nat)
    · rw [if_pos c0]
      refine ⟨by simp, ns, _, _, rfl, h1, by omega, by decide, fun r2 h21 h22 => ?_⟩
      push_cast [outs]
      refine ⟨by omega, by omega, ?_⟩
      refine lcD_ind (fun pre acc ε => ∃ (k' : Int), 0 ≤ k' ∧ acc.length = pre.length ∧ (∀ x ∈ acc, ok5 x = true ∧ dp5 x ≤ room - 1 ∧ (wr5 x).length ≤ bd5 (room - 1) ∧ wt x ≤ 41 * 4 ^ (room - 1)) ∧ ε = [.par (.lst [.lst (ns.map D.int), .int k']), .d (.int (room : Nat)), .d (.int r1), .no, .no, .no])
        ⟨_, by omega, rfl, fun _ h => (nomatch h), rfl⟩ (fun acc ε he => ?_) ?_
      · obtain ⟨k', hk', hal, ha, rfl⟩ := he
        simp only [List.length_map, List.length_range] at hal
        push_cast [outs]
        refine h (.tup acc) k' (oks_of fun x hx => (ha x hx).1) (show dps5 acc + 1 ≤ room from ?_) ?_ (show wts acc ≤ 41 * 4 ^ room from ?_) hk'
        · have := dps_of fun x hx => (ha x hx).2.1
          omega
        · have hw : (wr5 (.tup acc)).length = (joinL [44, 32] (wrs5 acc)).length + 2 := by rw [wr5, List.length_cons, List.length_append]; rfl
          have hj := join_sum 44 32 (wrs5 acc)
          have hs := sum_of (n := bd5 (room - 1)) (xs := wrs5 acc) fun x hx => by
            rw [wrs_map] at hx
            obtain ⟨y, hy, rfl⟩ := List.mem_map.mp hx
            exact (ha y hy).2.2.1
          have hln : (wrs5 acc).length = acc.length := by rw [wrs_map, List.length_map]
          have h4 : acc.length ≤ 3 := by omega
          have e4 : bd5 room = 4 * bd5 (room - 1) := by
            obtain ⟨m, rfl⟩ : ∃ m, room = m + 1 := ⟨room - 1, by omega⟩
            show 70 * 4 ^ (m + 1) = 4 * (70 * 4 ^ m)
            rw [Nat.pow_succ]
            omega
          have hb1 : 70 ≤ bd5 (room - 1) := bd_pos (room - 1)
          rw [hln] at hs hj
          have := Nat.mul_le_mul_left (bd5 (room - 1)) h4
          omega
        · have h4 : acc.length ≤ 3 := by omega
          have hw := wts_of fun x hx => (ha x hx).2.2.2
          have := Nat.mul_le_mul_left (41 * 4 ^ (room - 1) + 1) h4
          have e4 : 4 ^ room = 4 * 4 ^ (room - 1) := by
            obtain ⟨m, rfl⟩ : ∃ m, room = m + 1 := ⟨room - 1, by omega⟩
            rw [Nat.pow_succ, Nat.add_sub_cancel, Nat.mul_comm]
          have hb1 : 70 ≤ 70 * 4 ^ (room - 1) := bd_pos (room - 1)
          rw [e4]
          omega
      · rintro pre x post acc ε K he ⟨k', hk', hal, ha, rfl⟩ hK
        have he := congrArg List.length he
        simp only [List.length_map, List.length_range, List.length_append, List.length_cons] at he
        obtain ⟨m, rfl⟩ : ∃ m, n = m + 1 := ⟨n - 1, by omega⟩
        push_cast [outs]
        refine ⟨by simp, ns, _, room - 1, by rw [show ((room - 1 : Nat) : Int) = (room : Int) - 1 by omega], h1, hk', by omega, by omega, fun y k2 oy dy ly wy hk2 => ?_⟩
        push_cast [outs]
        refine ⟨Nat.lt_of_lt_of_le (show acc.length < 100 by omega) (by decide), hK _ _ ⟨k2, hk2, by simp [hal], ?_, rfl⟩⟩
        intro z hz
        rcases List.mem_append.mp hz with hz | hz
        · exact ha z hz
        · rw [List.mem_singleton.mp hz]; exact ⟨oy, dy, ly, wy⟩
    · rw [if_neg c0]
      exact go
  · rw [if_neg c3, if_neg (by decide)]
    exact go

theorem okst__law_thing {P : Program} {w : World} {K : PySem.W.Frag} {mg : Str → Option Value} {base : Heap} {f : Addr} {fd : FuncData} (F : Fun K "_law_thing" "_law_thing" s__law_thing f fd) (g : mg "_law_thing" = some (.ref f)) (b : Binds K fd ["draw", "room"] []) (n : Nat) {k : Nat} (hk : 2 ≤ k)
    {f__law_next : Addr} {fd__law_next : FuncData} (C__law_next : CalG P w K mg base 2 "_law_next" s__law_next ["draw", "size"] fs__law_next f__law_next fd__law_next)
    (m_tuple : mg "tuple" = none)
    (m_range : mg "range" = none)
    {f__law_thing : Addr} {fd__law_thing : FuncData} (C__law_thing : CalG P w K mg base k "_law_thing" s__law_thing ["draw", "room"] (pr fs__law_thing n) f__law_thing fd__law_thing) :
    CalG P w K mg base (k + 1) "_law_thing" s__law_thing ["draw", "room"] (fs__law_thing n) f fd :=
  ⟨F, g, b, fn_okG F sc__law_thing (by decide) (fl__law_thing n) fun cdv A outer s H E gd hr => ⟨t__law_thing (pr fs__law_thing n), ds__law_thing hk gd hr (pr fs__law_thing n) C__law_next m_tuple m_range C__law_thing, vc__law_thing n⟩⟩
theorem okS__law_thing {P : Program} {w : World} {K : PySem.W.Frag} {mg : Str → Option Value} {base : Heap} {f__law_thing : Addr} {fd__law_thing : FuncData}
    (F__law_thing : Fun K "_law_thing" "_law_thing" s__law_thing f__law_thing fd__law_thing) (g__law_thing : mg "_law_thing" = some (.ref f__law_thing)) (b__law_thing : Binds K fd__law_thing ["draw", "room"] [])
    {f__law_next : Addr} {fd__law_next : FuncData} (C__law_next : CalG P w K mg base 2 "_law_next" s__law_next ["draw", "size"] fs__law_next f__law_next fd__law_next)
    (m_tuple : mg "tuple" = none)
    (m_range : mg "range" = none) (n : Nat) :
    (CalG P w K mg base (n + 3) "_law_thing" s__law_thing ["draw", "room"] (fs__law_thing n) f__law_thing fd__law_thing) := by
  induction n with
  | zero =>
    have C__law_thing : CalG P w K mg base 2 "_law_thing" s__law_thing ["draw", "room"] (pr fs__law_thing 0) f__law_thing fd__law_thing := ⟨F__law_thing, g__law_thing, b__law_thing, bot_ok⟩
    have D__law_thing := okst__law_thing F__law_thing g__law_thing b__law_thing 0 (k := 2) (by omega) C__law_next m_tuple m_range C__law_thing
    rw [show 0 + 3 = 2 + 1 from rfl]
    exact D__law_thing
  | succ n ih =>
    have E__law_thing := ih
    have C__law_thing : CalG P w K mg base (n + 3) "_law_thing" s__law_thing ["draw", "room"] (pr fs__law_thing (n + 1)) f__law_thing fd__law_thing := E__law_thing
    have D__law_thing := okst__law_thing F__law_thing g__law_thing b__law_thing (n + 1) (k := n + 3) (by omega) C__law_next m_tuple m_range C__law_thing
    rw [show n + 1 + 3 = n + 3 + 1 by omega]
    exact D__law_thing
def fs_read_thing : FS := fun as q _ => ∃ x : D, as = [.d (.str (wr5 x))] ∧ (wr5 x).length ≤ 1000000 ∧ ok5 x = true ∧ dp5 x ≤ 22 ∧ ∀ as', q x as'
theorem fl_read_thing : FLen fs_read_thing 1 := fun as q xq h => by
  rcases h with ⟨t, rfl, _⟩
  rfl

def t_read_thing : TSd := (sSeq (sIf (bNot (bTru (dIsi "str" (dN 0)))) sNever sNil)
  (sSeq (sAsg (dCallN (fs_thing_at 46) (aCons (dN 0) (aCons (dC (.int 0)) (aCons (dC (.int 60)) aNil)))) (gTup0 (gCons0 (gN 1) (gCons0 (gN 2) gNil0))))
  (sSeq (sIf (bCmp dLt (dN 2) (dCB (d1 fLen) (aCons (dN 0) aNil))) sNever sNil)
  (sRet (dN 1)))))
theorem ds_read_thing {P : Program} {w : World} {K : PySem.W.Frag} {mg : Str → Option Value} {base : Heap} {f : Addr} {cdv : Value} {A : Around} {outer : List PySem.Env} {s : Shared} {H : Hp} {E : XK} (gd : NoG A) (hr : Room 49 (A.deeper (PyProof.Rows.envOfC "read_thing" (defScope s_read_thing) s.heap.objs.size f cdv)))
    (m_isinstance : mg "isinstance" = none)
    (m_str : mg "str" = none)
    {f_thing_at : Addr} {fd_thing_at : FuncData} (C_thing_at : CalG P w K mg base 49 "thing_at" s_thing_at ["text", "at", "deep"] (fs_thing_at 46) f_thing_at fd_thing_at)
    (c_DEEPEST : ∃ u, mg "DEEPEST" = some u ∧ RelV (V.int 60) u)
    (m_len : mg "len" = none) :
    DSs (cxOf (L2.CX P w) P w K mg base n_read_thing "read_thing" (defScope s_read_thing) f cdv A outer s H E) (WE1 E) (defBody s_read_thing) t_read_thing := by
  have hu := hr.units
  let nm := n_read_thing
  let st := s_read_thing
  have sc := sc_read_thing
  exact (dss_cons (ds_if (dt_not (dt_tru (de_isT (de_n (pv 0)) (by rfl) m_isinstance (pe_bltn (by rfl) m_str bt_str rfl)))) (dss_one ds_never) dss_nil)
  (dss_cons (ds_asg (de_callN (pe_GC C_thing_at.ok gd (hr.mono (by decide)) (by rfl) C_thing_at.g C_thing_at.F.kp C_thing_at.b passL (da_cons (de_n (pv 0)) (da_cons de_int (da_cons (de_gc c_DEEPEST (by rfl) (fun _ => .int _)) da_nil))).pa)) (dg_tup rfl (dgs_cons (us := [1, 2]) (dg_n (pg_name (i := 1) sc.nd rfl (by first | exact .inl rfl | exact .inr rfl))) (dgs_cons (us := [1, 2]) (dg_n (pg_name (i := 2) sc.nd rfl (by first | exact .inl rfl | exact .inr rfl))) (dgs_nil (vs := [1, 2])))) (gLen_n (gLen_n gLen_nil))))
  (dss_cons (ds_if (dt_cmp rLt (de_n (pv 2)) (de_cb lenR (pe_callB lenR.h (by rfl) m_len bt_len (da_cons (de_n (pv 0)) da_nil).pa))) (dss_one ds_never) dss_nil)
  (dss_one (ds_ret (de_n (pv 1)))))))
theorem vc_read_thing : ∀ as q xq, fs_read_thing as q xq → t_read_thing { nx := fun ε => q .non (outs as ε), rt := fun d ε => q d (outs as ε), xq := fun e ε => xq e (outs as ε) } (env0 as n_read_thing.length) := by
  intro as q xq h
  rcases h with ⟨x, rfl, hl, hx, hd, h⟩
  (refine seq_of fun K1 hK1 => ?_); push_cast [t_read_thing, env0]
  rw [if_neg (by decide)]
  refine hK1 _ ?_
  clear hK1
  (refine seq_of fun K2 hK2 => ?_); push_cast [outs]
  refine ⟨by simp, [], [], x, 60, by simp, by simpa using hl, .inl rfl, hx, by omega, by omega, fun _ => ?_⟩
  push_cast [outs]
  refine hK2 _ ?_
  clear hK2
  (refine seq_of fun K3 hK3 => ?_); push_cast [outs]
  refine ⟨line_of' hl, ?_⟩
  rw [if_neg (by omega)]
  refine hK3 _ ?_
  push_cast [outs]
  exact h _

theorem ok_read_thing {P : Program} {w : World} {K : PySem.W.Frag} {mg : Str → Option Value} {base : Heap} {f : Addr} {fd : FuncData} (F : Fun K "read_thing" "read_thing" s_read_thing f fd) (g : mg "read_thing" = some (.ref f)) (b : Binds K fd ["text"] [])
    (m_isinstance : mg "isinstance" = none)
    (m_str : mg "str" = none)
    {f_thing_at : Addr} {fd_thing_at : FuncData} (C_thing_at : CalG P w K mg base 49 "thing_at" s_thing_at ["text", "at", "deep"] (fs_thing_at 46) f_thing_at fd_thing_at)
    (c_DEEPEST : ∃ u, mg "DEEPEST" = some u ∧ RelV (V.int 60) u)
    (m_len : mg "len" = none) :
    CalG P w K mg base 50 "read_thing" s_read_thing ["text"] fs_read_thing f fd :=
  ⟨F, g, b, fn_okG F sc_read_thing (by decide) fl_read_thing fun cdv A outer s H E gd hr => ⟨t_read_thing, ds_read_thing gd hr m_isinstance m_str C_thing_at c_DEEPEST m_len, vc_read_thing⟩⟩
def fs_read_row : FS := fun as q _ => ∃ (xs : List D) (i : Int), as = [.d (.str (wr5 (.tup xs))), .d (.int i)] ∧ (wr5 (.tup xs)).length ≤ 1000000 ∧ oks5 xs = true ∧ dps5 xs ≤ 21 ∧ ∀ as', q (.tup xs) as'
theorem fl_read_row : FLen fs_read_row 2 := fun as q xq h => by
  rcases h with ⟨t, i, rfl, _⟩
  rfl

def t_read_row : TSd := (sSeq (sTryN (sAsg (dCallN fs_read_thing (aCons (dN 0) aNil)) (gN 2)))
  (sSeq (sIf (bNot (bTru (dIsi "tuple" (dN 2)))) sNever sNil)
  (sRet (dN 2))))
theorem ds_read_row {P : Program} {w : World} {K : PySem.W.Frag} {mg : Str → Option Value} {base : Heap} {f : Addr} {cdv : Value} {A : Around} {outer : List PySem.Env} {s : Shared} {H : Hp} {E : XK} (gd : NoG A) (hr : Room 50 (A.deeper (PyProof.Rows.envOfC "read_row" (defScope s_read_row) s.heap.objs.size f cdv)))
    (MN_NoText : ∃ C, mg "NoText" = some (.ref C))
    {f_read_thing : Addr} {fd_read_thing : FuncData} (C_read_thing : CalG P w K mg base 50 "read_thing" s_read_thing ["text"] fs_read_thing f_read_thing fd_read_thing)
    (m_isinstance : mg "isinstance" = none)
    (m_tuple : mg "tuple" = none) :
    DSs (cxOf (L2.CX P w) P w K mg base n_read_row "read_row" (defScope s_read_row) f cdv A outer s H E) (WE1 E) (defBody s_read_row) t_read_row := by
  have hu := hr.units
  let nm := n_read_row
  let st := s_read_row
  have sc := sc_read_row
  have tk := takes_of (X := cxOf (L2.CX P w) P w K mg base n_read_row "read_row" (defScope s_read_row) f cdv A outer s H E) rfl rfl rfl rfl
  exact (dss_cons (ds_tryN2 rfl rfl MN_NoText (by rfl) tk (fun V pn xe tk po => (dss_one (ds_set (i := 2) (de_callN (pe_GC C_read_thing.ok gd (hr.mono (by decide)) (by rfl) C_read_thing.g C_read_thing.F.kp C_read_thing.b passL (da_cons (de_n (pv 0)) da_nil).pa)) sc.nd rfl (by first | exact .inl rfl | exact .inr rfl)))))
  (dss_cons (ds_if (dt_not (dt_tru (de_isT (de_n (pv 2)) (by rfl) m_isinstance (pe_bltn (by rfl) m_tuple bt_tuple rfl)))) (dss_one ds_never) dss_nil)
  (dss_one (ds_ret (de_n (pv 2))))))
theorem vc_read_row : ∀ as q xq, fs_read_row as q xq → t_read_row { nx := fun ε => q .non (outs as ε), rt := fun d ε => q d (outs as ε), xq := fun e ε => xq e (outs as ε) } (env0 as n_read_row.length) := by
  intro as q xq h
  rcases h with ⟨xs, i, rfl, hl, hx, hd, h⟩
  (refine seq_of fun K1 hK1 => ?_); push_cast [t_read_row, env0]
  refine ⟨by simp, .tup xs, rfl, hl, hx, show dps5 xs + 1 ≤ 22 by omega, fun _ => ?_⟩
  push_cast [outs]
  refine hK1 _ ?_
  clear hK1
  (refine seq_of fun K2 hK2 => ?_); push_cast [outs]
  rw [if_neg (by decide)]
  refine hK2 _ ?_
  push_cast [outs]
  exact h _

theorem ok_read_row {P : Program} {w : World} {K : PySem.W.Frag} {mg : Str → Option Value} {base : Heap} {f : Addr} {fd : FuncData} (F : Fun K "read_row" "read_row" s_read_row f fd) (g : mg "read_row" = some (.ref f)) (b : Binds K fd ["line", "at"] [])
    (MN_NoText : ∃ C, mg "NoText" = some (.ref C))
    {f_read_thing : Addr} {fd_read_thing : FuncData} (C_read_thing : CalG P w K mg base 50 "read_thing" s_read_thing ["text"] fs_read_thing f_read_thing fd_read_thing)
    (m_isinstance : mg "isinstance" = none)
    (m_tuple : mg "tuple" = none) :
    CalG P w K mg base 51 "read_row" s_read_row ["line", "at"] fs_read_row f fd :=
  ⟨F, g, b, fn_okG F sc_read_row (by decide) fl_read_row fun cdv A outer s H E gd hr => ⟨t_read_row, ds_read_row gd hr MN_NoText C_read_thing m_isinstance m_tuple, vc_read_row⟩⟩
def fs_read_log : FO := fun as q _ => ∃ (rows : List (List D)), as = [.d (.str (lgT rows))] ∧ okL rows ∧ (lgT rows).length ≤ 900000 ∧ ∀ as', q (.lst (rows.map D.tup)) as'
theorem fl_read_log : FOLen fs_read_log 1 := fun as q xq h => by
  rcases h with ⟨t, rfl, _⟩
  rfl

def t_read_log : TSd := (sSeq (sIf (bNot (bTru (dIsi "str" (dN 0)))) sNever sNil)
  (sSeq (sAsg (dM1 fSplit (dN 0) (dC (.str [10]))) (gN 1))
  (sSeq (sSetO 2 (nLc (iEnumLD (aCons (dSliceA (dN 1) oNone (oSome (dUn dNeg (dC (.int 1))))) aNil)) [3, 4] (gTup0 (gCons0 (gN 3) (gCons0 (gN 4) gNil0))) bYes (dCallN fs_read_row (aCons (dN 4) (aCons (dN 3) aNil)))))
  (sSeq (sIf (bCmp dNe (dBin dIx (dN 1) (dUn dNeg (dC (.int 1)))) (dC (.str []))) sNever sNil)
  (sRetO 2)))))
theorem ds_read_log {P : Program} {w : World} {K : PySem.W.Frag} {mg : Str → Option Value} {base : Heap} {f : Addr} {cdv : Value} {A : Around} {outer : List PySem.Env} {s : Shared} {H : Hp} {E : XK} (gd : NoG A) (hr : Room 51 (A.deeper (PyProof.Rows.envOfC "read_log" (defScope s_read_log) s.heap.objs.size f cdv)))
    (m_isinstance : mg "isinstance" = none)
    (m_str : mg "str" = none)
    (m_enumerate : mg "enumerate" = none)
    {f_read_row : Addr} {fd_read_row : FuncData} (C_read_row : CalG P w K mg base 51 "read_row" s_read_row ["line", "at"] fs_read_row f_read_row fd_read_row) :
    DSs (cxOf (L2.CX P w) P w K mg base n_read_log "read_log" (defScope s_read_log) f cdv A outer s H E) (WE1 E) (defBody s_read_log) t_read_log := by
  have hu := hr.units
  let nm := n_read_log
  let st := s_read_log
  have sc := sc_read_log
  exact (dss_cons (ds_if (dt_not (dt_tru (de_isT (de_n (pv 0)) (by rfl) m_isinstance (pe_bltn (by rfl) m_str bt_str rfl)))) (dss_one ds_never) dss_nil)
  (dss_cons (ds_set (i := 1) (de_m1 splitR (pe_m1 PySem.F.slot_str_split PySem.F.type_str_split splitR.h (de_n (pv 0)).pe (de_str [10]).pe)) sc.nd rfl (by first | exact .inl rfl | exact .inr rfl))
  (dss_cons (ds_setLcO (i := 2) (own := [("at", 3), ("line", 4)]) rfl sc.nd rfl rfl (sw_true rfl rfl rfl (by decide +kernel)) (di_enumL (pi_enum (by rfl) m_enumerate (da_cons (de_sliceA (de_n (pv 1)) do_none (do_some (de_un negR de_int))) da_nil).pa)) (blkOk_by (own := [("at", 3), ("line", 4)]) (N := nm) (sc := defScope st) (by decide +kernel)) (fun _ _ _ _ _ => (dg_tup rfl (dgs_cons (us := [3, 4]) (dg_n (pg_name (i := 3) sc.nd rfl (by first | exact .inl rfl | exact .inr rfl))) (dgs_cons (us := [3, 4]) (dg_n (pg_name (i := 4) sc.nd rfl (by first | exact .inl rfl | exact .inr rfl))) (dgs_nil (vs := [3, 4])))) (gLen_n (gLen_n gLen_nil)))) (gkd_tup (gskd_n (gskd_n gskd_nil))) (fun _ _ _ _ _ => dts_nil) (fun _ _ _ _ _ => (de_callN (pe_GC C_read_row.ok gd (hr.mono (by decide)) (by rfl) C_read_row.g C_read_row.F.kp C_read_row.b passL (da_cons (de_n (pv 4)) (da_cons (de_n (pv 3)) da_nil)).pa))) (gs_tup (gss_cons (gss_cons gss_nil)) (gLen_n (gLen_n gLen_nil))))
  (dss_cons (ds_if (dt_cmp (neR hu) (de_ix (de_n (pv 1)) (de_un negR de_int)) (de_str [])) (dss_one ds_never) dss_nil)
  (dss_one (ds_retO (pv 2)))))))
theorem vc_read_log : ∀ as q xq, fs_read_log as q xq → t_read_log { nx := fun _ => False, rt := fun _ _ => False, xq := fun e ε => xq e (outs as ε), ro := fun c ε => q c (outs as ε) } (env0 as n_read_log.length) := by
  intro as q xq h
  rcases h with ⟨rows, rfl, ok, hl, h⟩
  (refine seq_of fun K1 hK1 => ?_); push_cast [t_read_log, env0]
  rw [if_neg (by decide)]
  refine hK1 _ ?_
  clear hK1
  (refine seq_of fun K2 hK2 => ?_); push_cast [outs]
  refine ⟨by decide, line_of' (by omega), hK2 _ ?_⟩
  clear hK2
  rw [spl_lg rows ok]
  have hj := join_nil (rows.map fun xs => wr5 (.tup xs) ++ [10])
  have hl' : (((rows.map fun xs => wr5 (.tup xs) ++ [10])).map List.length).sum ≤ 900000 := by rw [← hj]; exact hl
  have hrl : rows.length ≤ 900000 := Nat.le_trans (lg_rows rows) hl'
  have ecut : cut (((rows.map fun xs => wr5 (.tup xs)) ++ [[]]).map D.str) none (some (-1)) = (rows.map fun xs => wr5 (.tup xs)).map D.str := by
    rw [cut_m1', List.map_append]
    simp
  (refine seq_of fun K3 hK3 => ?_); push_cast [ecut, enumLOf]
  refine lcD_ind (fun pre acc ε => acc = (rows.take pre.length).map D.tup ∧ ε = [.d (.str (lgT rows)), .d (.lst (((rows.map fun xs => wr5 (.tup xs)) ++ [[]]).map D.str)), .no, .no, .no])
    ⟨by simp, rfl⟩ (fun acc ε he => ?_) ?_
  · obtain ⟨rfl, rfl⟩ := he
    rw [enumL_len]
    simp only [List.length_map, List.take_length]
    push_cast [outs]
    refine hK3 _ ?_
    clear hK3
    have em : atI (((rows.map fun xs => wr5 (.tup xs)) ++ [[]]).map D.str) (-1) = some (.str []) := by
      rw [at_m1 (by simp), List.map_append, List.getElem?_append_right (by simp)]
      simp
    (refine seq_of fun K4 hK4 => ?_); push_cast [em]
    rw [if_neg (by simp)]
    refine hK4 _ ?_
    push_cast [outs]
    exact h _
  · rintro pre x post acc ε K he ⟨rfl, rfl⟩ hK
    obtain ⟨w, rfl, ew, hlt⟩ := enumL_at he
    rw [List.length_map] at hlt
    obtain ⟨xs, exs⟩ : ∃ xs, rows[pre.length]? = some xs := ⟨rows[pre.length], List.getElem?_eq_getElem hlt⟩
    rw [List.getElem?_map, exs] at ew
    cases ew
    have hm : xs ∈ rows := List.mem_of_getElem? exs
    push_cast [outs]
    refine ⟨fun i hi => by simp at hi; rcases hi with rfl | rfl <;> rfl, by simp, xs, _, rfl, ?_, (ok xs hm).1, (ok xs hm).2, fun _ => ?_⟩
    · have e2 := sum_mem (wr5 (.tup xs) ++ [10]) (List.mem_map.mpr ⟨xs, hm, rfl⟩ : wr5 (.tup xs) ++ [10] ∈ rows.map fun xs => wr5 (.tup xs) ++ [10])
      rw [List.length_append] at e2
      omega
    refine ⟨Nat.lt_of_le_of_lt (List.length_take_le' _ _) (Nat.lt_of_le_of_lt hrl (by decide)), hK _ _ ⟨?_, rfl⟩⟩
    rw [List.length_append, List.length_singleton, List.take_succ, exs]
    simp

theorem ok_read_log {P : Program} {w : World} {K : PySem.W.Frag} {mg : Str → Option Value} {base : Heap} {f : Addr} {fd : FuncData} (F : Fun K "read_log" "read_log" s_read_log f fd) (g : mg "read_log" = some (.ref f)) (b : Binds K fd ["text"] [])
    (m_isinstance : mg "isinstance" = none)
    (m_str : mg "str" = none)
    (m_enumerate : mg "enumerate" = none)
    {f_read_row : Addr} {fd_read_row : FuncData} (C_read_row : CalG P w K mg base 51 "read_row" s_read_row ["line", "at"] fs_read_row f_read_row fd_read_row) :
    CalO P w K mg base 52 "read_log" s_read_log ["text"] fs_read_log f fd :=
  ⟨F, g, b, fn_okO F sc_read_log (by decide) fl_read_log fun cdv A outer s H E gd hr => ⟨t_read_log, ds_read_log gd hr m_isinstance m_str m_enumerate C_read_row, vc_read_log⟩⟩
def fs_law : FS := fsLaw
theorem fl_law : FLen fs_law 1 := flen_law

def t_law : TSd := (sSeq (sSetO 1 (nLst (aCons (dCB (d1 fList) (aCons (dN 0) aNil)) (aCons (dC (.int 0)) aNil))))
  (sSeq (sFor (iRngD (aCons (dCB (d2 (fII maxI)) (aCons (dC (.int 1)) (aCons (dCB (d2 (fII minI)) (aCons (dC (.int 8)) (aCons (dCB (d1 fLen) (aCons (dN 0) aNil)) aNil))) aNil))) aNil)) (gN 2) (sSeq (sPar [6, 7] (a2Cons (dCallN fs__law_deep (aCons (dN 1) (aCons (dCallN (fs__law_thing 46) (aCons (dN 1) (aCons (dC (.int 5)) aNil))) aNil))) (a2New (nLst aNil) a2Nil)))
  (sSeq (sFor (iRngD (aCons (dC (.int 2)) aNil)) (gN 3) (sApp 7 (dNew (nLc (iRngD (aCons (dCallN fs__law_next (aCons (dN 1) (aCons (dC (.int 7)) aNil))) aNil)) [12] (gN 12) bYes (dBin dMulB (dTup (aCons (dCallN (fs__law_thing 46) (aCons (dN 1) (aCons (dC (.int 3)) aNil))) aNil)) (dCallN fs__law_next (aCons (dN 1) (aCons (dC (.int 3)) aNil))))))))
  (sSeq (sAsg (dCallN (fs_thing_text 46) (aCons (dN 6) aNil)) (gN 4))
  (sSeq (sIf (bOr (bCmp dNe (dCB (d1 fRepr2) (aCons (dCallN fs_read_thing (aApp [0] 0 1 aNil (aCons (dN 4) aNil))) aNil)) (dCB (d1 fRepr2) (aCons (dN 6) aNil))) (bCmp dNe (dCallN (fs_thing_text 46) (aCons (dCallN fs_read_thing (aCons (dN 4) aNil)) aNil)) (dN 4))) (sRet (dC (.bl false))) sNil)
  (sSeq (sAsg (dLst (aCons (dCallN fs_log_text (aCons (dBin dIx (dN 7) (dC (.int 0))) aNil)) (aCons (dCallN fs_log_text (aApp [0] 0 1 aNil (aCons (dCB (d1 fTuple) (aCons (dBin dIx (dN 7) (dC (.int 1))) aNil)) aNil))) aNil))) (gN 5))
  (sFor (iSeqD (dLst (aCons (dTup (aCons (dBin dIx (dN 7) (dC (.int 0))) (aCons (dBin dIx (dN 5) (dC (.int 0))) aNil))) (aCons (dTup (aCons (dBin dIx (dN 7) (dC (.int 1))) (aCons (dBin dIx (dN 5) (dC (.int 1))) aNil))) (aCons (dTup (aCons (dBin dAddA (dBin dIx (dN 7) (dC (.int 0))) (dBin dIx (dN 7) (dC (.int 1)))) (aCons (dBin dAddA (dBin dIx (dN 5) (dC (.int 0))) (dBin dIx (dN 5) (dC (.int 1)))) aNil))) aNil))))) (gTup0 (gCons0 (gN 8) (gCons0 (gN 9) gNil0))) (sFor (iRngD (aCons (dC (.int 2)) aNil)) (gN 10) (sSeq (sSetO 11 (nIf (bCmp dEq (dN 10) (dC (.int 0))) (dCallON fs_read_log (aCons (dN 9) aNil)) (dCallON fs_read_log (aApp [0] 0 1 aNil (aCons (dN 9) aNil)))))
  (sSeq (sIf (bOr (bNot (bTru (dIsi "list" (dN 11)))) (bOr (bCmp dNe (dCB (d1 fRepr2) (aCons (dN 11) aNil)) (dCB (d1 fRepr2) (aCons (dN 8) aNil))) (bCmp dNe (dCallL 11 fs_log_text) (dN 9)))) (sRet (dC (.bl false))) sNil)
  (sApp 11 (dC .non))))))))))))
  (sRet (dC (.bl true)))))
theorem ds_law {P : Program} {w : World} {K : PySem.W.Frag} {mg : Str → Option Value} {base : Heap} {f : Addr} {cdv : Value} {A : Around} {outer : List PySem.Env} {s : Shared} {H : Hp} {E : XK} (gd : NoG A) (hr : Room 52 (A.deeper (PyProof.Rows.envOfC "law" (defScope s_law) s.heap.objs.size f cdv)))
    (m_list : mg "list" = none)
    (m_range : mg "range" = none)
    (m_max : mg "max" = none)
    (m_min : mg "min" = none)
    (m_len : mg "len" = none)
    {f__law_deep : Addr} {fd__law_deep : FuncData} (C__law_deep : CalG P w K mg base 3 "_law_deep" s__law_deep ["draw", "item"] fs__law_deep f__law_deep fd__law_deep)
    {f__law_thing : Addr} {fd__law_thing : FuncData} (C__law_thing : CalG P w K mg base 49 "_law_thing" s__law_thing ["draw", "room"] (fs__law_thing 46) f__law_thing fd__law_thing)
    {f__law_next : Addr} {fd__law_next : FuncData} (C__law_next : CalG P w K mg base 2 "_law_next" s__law_next ["draw", "size"] fs__law_next f__law_next fd__law_next)
    {f_thing_text : Addr} {fd_thing_text : FuncData} (C_thing_text : CalG P w K mg base 48 "thing_text" s_thing_text ["thing"] (fs_thing_text 46) f_thing_text fd_thing_text)
    (m_repr : mg "repr" = none)
    {f_read_thing : Addr} {fd_read_thing : FuncData} (C_read_thing : CalG P w K mg base 50 "read_thing" s_read_thing ["text"] fs_read_thing f_read_thing fd_read_thing)
    {f_log_text : Addr} {fd_log_text : FuncData} (C_log_text : CalG P w K mg base 49 "log_text" s_log_text ["log"] fs_log_text f_log_text fd_log_text)
    (m_tuple : mg "tuple" = none)
    {f_read_log : Addr} {fd_read_log : FuncData} (C_read_log : CalO P w K mg base 52 "read_log" s_read_log ["text"] fs_read_log f_read_log fd_read_log)
    (m_isinstance : mg "isinstance" = none) :
    DSs (cxOf (L2.CX P w) P w K mg base n_law "law" (defScope s_law) f cdv A outer s H E) (WE1 E) (defBody s_law) t_law := by
  have hu := hr.units
  let nm := n_law
  let st := s_law
  have sc := sc_law
  exact (dss_cons (ds_seto (i := 1) (dn_lst (da_cons (de_cb listR (pe_callTy listR.h (by rfl) m_list bt_list (da_cons (de_n (pv 0)) da_nil).pa)) (da_cons de_int da_nil))) sc.nd rfl (by first | exact .inl rfl | exact .inr rfl))
  (dss_cons (ds_for (passes_of rfl) rfl (di_range1 (pi_range1 (by rfl) m_range (da_cons (de_cb (maxR rfl) (pe_callB (maxR rfl).h (by rfl) m_max bt_max (da_cons de_int (da_cons (de_cb (minR rfl) (pe_callB (minR rfl).h (by rfl) m_min bt_min (da_cons de_int (da_cons (de_cb lenR (pe_callB lenR.h (by rfl) m_len bt_len (da_cons (de_n (pv 0)) da_nil).pa)) da_nil)).pa)) da_nil)).pa)) da_nil).pa)) (dg_n (pg_name (i := 2) sc.nd rfl (by first | exact .inl rfl | exact .inr rfl))) (dss_cons (ds_par2 (ps_par (i := 6) (j := 7) rfl sc.nd rfl rfl (by decide) rfl rfl (da2_cons (de_callN (pe_GC C__law_deep.ok gd (hr.mono (by decide)) (by rfl) C__law_deep.g C__law_deep.F.kp C__law_deep.b passL (da_cons (de_n (pv 1)) (da_cons (de_callN (pe_GC C__law_thing.ok gd (hr.mono (by decide)) (by rfl) C__law_thing.g C__law_thing.F.kp C__law_thing.b passL (da_cons (de_n (pv 1)) (da_cons de_int da_nil)).pa)) da_nil)).pa)) (da2_new (dn_lst da_nil) da2_nil)).pa (by rfl)) (by decide))
  (dss_cons (ds_for (passes_of rfl) rfl (di_range1 (pi_range1 (by rfl) m_range (da_cons de_int da_nil).pa)) (dg_n (pg_name (i := 3) sc.nd rfl (by first | exact .inl rfl | exact .inr rfl))) (dss_one (ds_app (i := 7) (ps_expr (pe_bm PySem.F.plainAttrs_list PySem.F.slot_list_append PySem.F.type_list_append mt_append (pv 7) (pa_cons (de_new (dn_lc (own := [("row", 12)]) rfl sc.nd (di_range1 (pi_range1 (by rfl) m_range (da_cons (de_callN (pe_GC C__law_next.ok gd (hr.mono (by decide)) (by rfl) C__law_next.g C__law_next.F.kp C__law_next.b passL (da_cons (de_n (pv 1)) (da_cons de_int da_nil)).pa)) da_nil).pa)) (blkOk_by (own := [("row", 12)]) (N := nm) (sc := defScope st) (by decide +kernel)) (fun _ _ _ _ _ => (dg_n (pg_name (i := 12) sc.nd rfl (by first | exact .inl rfl | exact .inr rfl)))) gkd_n (fun _ _ _ _ _ => dts_nil) (fun _ _ _ _ _ => (de_op mulRB (de_tup (da_cons (de_callN (pe_GC C__law_thing.ok gd (hr.mono (by decide)) (by rfl) C__law_thing.g C__law_thing.F.kp C__law_thing.b passL (da_cons (de_n (pv 1)) (da_cons de_int da_nil)).pa)) da_nil)) (de_callN (pe_GC C__law_next.ok gd (hr.mono (by decide)) (by rfl) C__law_next.g C__law_next.F.kp C__law_next.b passL (da_cons (de_n (pv 1)) (da_cons de_int da_nil)).pa)))) gs_n)).pe pa_nil))))))
  (dss_cons (ds_set (i := 4) (de_callN (pe_GC C_thing_text.ok gd (hr.mono (by decide)) (by rfl) C_thing_text.g C_thing_text.F.kp C_thing_text.b passL (da_cons (de_n (pv 6)) da_nil).pa)) sc.nd rfl (by first | exact .inl rfl | exact .inr rfl))
  (dss_cons (ds_if (dt_w (dw_or (dt_cmp (neR hu) (de_cb (reprR2 gd (room66 hr)) (pe_callB (reprR2 gd (room66 hr)).h (by rfl) m_repr bt_repr (da_cons (de_callK0 (ix := [0]) (m := 1) (pe_GN0 (ks := ["text"]) C_read_thing.ok gd (hr.mono (by decide)) (by rfl) C_read_thing.g C_read_thing.F.kp (kb_of C_read_thing.F 0 ["text"] [0] (fun _ _ _ _ _ _ us ws h1 h2 => match us, ws, h1, h2 with | [], [_], _, _ => rfl)) passL (dk_cons (de_n (pv 4)) dk_nil).pk)) da_nil).pa)) (de_cb (reprR2 gd (room66 hr)) (pe_callB (reprR2 gd (room66 hr)).h (by rfl) m_repr bt_repr (da_cons (de_n (pv 6)) da_nil).pa))) (dw_or1 (dt_cmp (neR hu) (de_callN (pe_GC C_thing_text.ok gd (hr.mono (by decide)) (by rfl) C_thing_text.g C_thing_text.F.kp C_thing_text.b passL (da_cons (de_callN (pe_GC C_read_thing.ok gd (hr.mono (by decide)) (by rfl) C_read_thing.g C_read_thing.F.kp C_read_thing.b passL (da_cons (de_n (pv 4)) da_nil).pa)) da_nil).pa)) (de_n (pv 4)))))) (dss_one (ds_ret de_bl)) dss_nil)
  (dss_cons (ds_set (i := 5) (de_lst (da_cons (de_callN (pe_GC C_log_text.ok gd (hr.mono (by decide)) (by rfl) C_log_text.g C_log_text.F.kp C_log_text.b passL (da_cons (de_ix (de_n (pv 7)) de_int) da_nil).pa)) (da_cons (de_callK0 (ix := [0]) (m := 1) (pe_GN0 (ks := ["log"]) C_log_text.ok gd (hr.mono (by decide)) (by rfl) C_log_text.g C_log_text.F.kp (kb_of C_log_text.F 0 ["log"] [0] (fun _ _ _ _ _ _ us ws h1 h2 => match us, ws, h1, h2 with | [], [_], _, _ => rfl)) passL (dk_cons (de_cb tupleR (pe_callTy tupleR.h (by rfl) m_tuple bt_tuple (da_cons (de_ix (de_n (pv 7)) de_int) da_nil).pa)) dk_nil).pk)) da_nil))) sc.nd rfl (by first | exact .inl rfl | exact .inr rfl))
  (dss_one (ds_for (passes_of rfl) rfl (di_seq (de_lst (da_cons (de_tup (da_cons (de_ix (de_n (pv 7)) de_int) (da_cons (de_ix (de_n (pv 5)) de_int) da_nil))) (da_cons (de_tup (da_cons (de_ix (de_n (pv 7)) de_int) (da_cons (de_ix (de_n (pv 5)) de_int) da_nil))) (da_cons (de_tup (da_cons (de_op addRA (de_ix (de_n (pv 7)) de_int) (de_ix (de_n (pv 7)) de_int)) (da_cons (de_op addRA (de_ix (de_n (pv 5)) de_int) (de_ix (de_n (pv 5)) de_int)) da_nil))) da_nil))))) (dg_tup rfl (dgs_cons (us := [8, 9]) (dg_n (pg_name (i := 8) sc.nd rfl (by first | exact .inl rfl | exact .inr rfl))) (dgs_cons (us := [8, 9]) (dg_n (pg_name (i := 9) sc.nd rfl (by first | exact .inl rfl | exact .inr rfl))) (dgs_nil (vs := [8, 9])))) (gLen_n (gLen_n gLen_nil))) (dss_one (ds_for (passes_of rfl) rfl (di_range1 (pi_range1 (by rfl) m_range (da_cons de_int da_nil).pa)) (dg_n (pg_name (i := 10) sc.nd rfl (by first | exact .inl rfl | exact .inr rfl))) (dss_cons (ds_seto (i := 11) (dn_if (dt_cmp (eqR hu) (de_n (pv 10)) de_int) (dn_callN (pe_GC C_read_log.ok gd (hr.mono (by decide)) (by rfl) C_read_log.g C_read_log.F.kp C_read_log.b passL (da_cons (de_n (pv 9)) da_nil).pa)) (dn_callK0 (ix := [0]) (m := 1) (pe_GN0 (ks := ["text"]) C_read_log.ok gd (hr.mono (by decide)) (by rfl) C_read_log.g C_read_log.F.kp (kb_of C_read_log.F 0 ["text"] [0] (fun _ _ _ _ _ _ us ws h1 h2 => match us, ws, h1, h2 with | [], [_], _, _ => rfl)) passL (dk_cons (de_n (pv 9)) dk_nil).pk))) sc.nd rfl (by first | exact .inl rfl | exact .inr rfl))
  (dss_cons (ds_if (dt_w (dw_or (dt_not (dt_tru (de_isT (de_n (pv 11)) (by rfl) m_isinstance (pe_bltn (by rfl) m_list bt_list rfl)))) (dw_or (dt_cmp (neR hu) (de_cb (reprR2 gd (room66 hr)) (pe_callB (reprR2 gd (room66 hr)).h (by rfl) m_repr bt_repr (da_cons (de_n (pv 11)) da_nil).pa)) (de_cb (reprR2 gd (room66 hr)) (pe_callB (reprR2 gd (room66 hr)).h (by rfl) m_repr bt_repr (da_cons (de_n (pv 8)) da_nil).pa))) (dw_or1 (dt_cmp (neR hu) (de_callL (i := 11) (pe_GC C_log_text.ok gd (hr.mono (by decide)) (by rfl) C_log_text.g C_log_text.F.kp C_log_text.b passL (pa_cons (pv 11) pa_nil))) (de_n (pv 9))))))) (dss_one (ds_ret de_bl)) dss_nil)
  (dss_one (ds_app (i := 11) (ps_expr (pe_bm PySem.F.plainAttrs_list PySem.F.slot_list_append PySem.F.type_list_append mt_append (pv 11) (pa_cons de_non.pe pa_nil)))))))))))))))))
  (dss_one (ds_ret de_bl))))
theorem vc_law : ∀ as q xq, fs_law as q xq → t_law { nx := fun ε => q .non (outs as ε), rt := fun d ε => q d (outs as ε), xq := fun e ε => xq e (outs as ε) } (env0 as n_law.length) := by
  intro as q xq h
  rcases h with ⟨ns, rfl, h1, h⟩
  (refine seq_of fun K1 hK1 => ?_); push_cast [t_law, env0]
  refine ⟨by decide, hK1 _ ?_⟩
  clear hK1
  (refine seq_of fun K2 hK2 => ?_); push_cast [↓x_sFor]
  refine ⟨?_, ?_, ?_⟩
  · unfold maxI minI; split <;> split <;> omega
  · unfold maxI minI; split <;> split <;> omega
  refine forD_ind (fun _ ε => ∃ (k : Int) (o2 o3 o4 o5 o6 o8 o9 o10 : Option D) (s7 s11 : Sl), 0 ≤ k ∧ s7.np ∧ s11.np ∧ ε = [.d (.ro (ns.map D.int)), .own (.lst [.lst (ns.map D.int), .int k]), .opt o2, .opt o3, .opt o4, .opt o5, .opt o6, s7, .opt o8, .opt o9, .opt o10, s11, .no])
    ⟨0, none, none, none, none, none, none, none, none, .no, .no, by decide, trivial, trivial, rfl⟩ (fun ε he => ?_) ?_
  · obtain ⟨k, o2, o3, o4, o5, o6, o8, o9, o10, s7, s11, hk, h7, h11, rfl⟩ := he
    refine hK2 _ ?_
    push_cast [outs]
    exact h _
  clear hK2
  rintro pre x post _ K - ⟨k, o2, o3, o4, o5, o6, o8, o9, o10, s7, s11, hk, h7, h11, rfl⟩ hK
  push_cast [outs]
  (refine seq_of fun K3 hK3 => ?_); push_cast [outs]
  refine ⟨by simp, ns, _, 5, rfl, h1, hk, by decide, by decide, fun y k2 oy dy ly wy hk2 => ?_⟩
  push_cast [outs]
  refine ⟨by simp, ns, _, y, rfl, h1, hk2, oy, dy, ly, wy, fun z k3 oz dz lz wz hk3 => ?_⟩
  push_cast [outs]
  refine ⟨by decide, h7, hK3 _ ?_⟩
  clear hK3
  (refine seq_of fun K4 hK4 => ?_); push_cast [↓x_sFor]
  refine ⟨by decide, by decide, ?_⟩
  refine forD_ind (fun pre ε => ∃ (k : Int) (L : List (List (List D))) (o3 : Option D), 0 ≤ k ∧ L.length = pre.length ∧ (∀ rows ∈ L, goodL rows) ∧ ε = [.d (.ro (ns.map D.int)), .own (.lst [.lst (ns.map D.int), .int k]), .d x, .opt o3, .opt o4, .opt o5, .d z, .own (.lst (L.map fun rows => .lst (rows.map D.tup))), .opt o8, .opt o9, .opt o10, s11, .no])
    ⟨k3, [], o3, hk3, rfl, fun _ h => (nomatch h), rfl⟩ (fun ε he => ?_) ?_
  · obtain ⟨k, L, o3, hk, hL, hg, rfl⟩ := he
    refine hK4 _ ?_
    clear hK4
    obtain ⟨A, B, rfl⟩ : ∃ A B, L = [A, B] := by
      match L, hL with
      | [A, B], _ => exact ⟨A, B, rfl⟩
    have gA := hg A (by simp)
    have gB := hg B (by simp)
    (refine seq_of fun K5 hK5 => ?_); push_cast [outs]
    refine ⟨by simp, z, rfl, oz, by omega, by omega, fun _ => ?_⟩
    push_cast [outs]
    refine hK5 _ ?_
    clear hK5
    (refine seq_of fun K6 hK6 => ?_); push_cast [fRepr2]
    refine ⟨by simp, z, rfl, by omega, oz, by omega, fun _ => ?_⟩
    push_cast [fRepr2]
    have rz := rep_ok oz (by omega) (show wt z ≤ 1048576 by omega)
    refine ⟨rz, rz, ?_⟩
    rw [if_neg (by decide)]
    refine ⟨by simp, z, rfl, by omega, oz, by omega, fun _ => ?_⟩
    push_cast [outs]
    refine ⟨by simp, z, rfl, oz, by omega, by omega, fun _ => ?_⟩
    push_cast [outs]
    rw [if_neg (by simp [eqD])]
    refine hK6 _ ?_
    clear hK6
    (refine seq_of fun K7 hK7 => ?_); push_cast [outs]
    have lA := gA.2.1
    have lB := gB.2.1
    refine ⟨by simp, _, A, rfl, .inl rfl, gA.1, by omega, ?_⟩
    push_cast [outs]
    refine ⟨by simp, _, B, rfl, .inr rfl, gB.1, by omega, ?_⟩
    push_cast [outs]
    refine ⟨by decide, hK7 _ ?_⟩
    clear hK7
    have eAB : lgT A ++ lgT B = lgT (A ++ B) := by
      unfold lgT
      rw [join_flat, join_flat, join_flat, List.map_append, List.flatten_append]
    push_cast [↓x_sFor, eAB, ← List.map_append]
    refine ⟨by decide, by decide, line_of' (by have := gA.2.2.2.2; have := gB.2.2.2.2; omega), line_of' (by omega), by decide, by decide, ?_⟩
    have three : ∀ rows ∈ [A, B, A ++ B], goodB rows := fun rows hr => by
      simp only [List.mem_cons, List.not_mem_nil, or_false] at hr
      rcases hr with rfl | rfl | rfl
      · exact good_b gA
      · exact good_b gB
      · exact good_ab gA gB
    refine for_map (φ := fun rows => D.tup [.lst (rows.map D.tup), .str (lgT rows)]) (fun _ ε => ∃ (o8 o9 o10 : Option D) (s11 : Sl), s11.np ∧ ε = [.d (.ro (ns.map D.int)), .own (.lst [.lst (ns.map D.int), .int k]), .d x, .opt o3, .d (.str (wr5 z)), .d (.lst [.str (lgT A), .str (lgT B)]), .d z, .own (.lst [.lst (A.map D.tup), .lst (B.map D.tup)]), .opt o8, .opt o9, .opt o10, s11, .no])
      [A, B, A ++ B] ⟨o8, o9, o10, s11, h11, rfl⟩ (fun ε he => ?_) ?_
    · obtain ⟨o8, o9, o10, s11, h11, rfl⟩ := he
      exact hK _ ⟨k, some x, o3, some (.str (wr5 z)), some (.lst [.str (lgT A), .str (lgT B)]), some z, o8, o9, o10, .own (.lst [.lst (A.map D.tup), .lst (B.map D.tup)]), s11, hk, trivial, h11, rfl⟩
    · rintro pre4 rows post4 _ K4 he4 ⟨o8, o9, o10, s11, h11, rfl⟩ hK4
      obtain ⟨gk, gl, gw, gd⟩ := three rows (by rw [he4]; simp)
      push_cast [↓x_sFor]
      refine ⟨by decide, by decide, ?_⟩
      refine forD_ind (fun _ ε => ∃ (o10 : Option D) (s11 : Sl), s11.np ∧ ε = [.d (.ro (ns.map D.int)), .own (.lst [.lst (ns.map D.int), .int k]), .d x, .opt o3, .d (.str (wr5 z)), .d (.lst [.str (lgT A), .str (lgT B)]), .d z, .own (.lst [.lst (A.map D.tup), .lst (B.map D.tup)]), .d (.lst (rows.map D.tup)), .d (.str (lgT rows)), .opt o10, s11, .no])
        ⟨o10, s11, h11, rfl⟩ (fun ε he => ?_) ?_
      · obtain ⟨o10, s11, h11, rfl⟩ := he
        exact hK4 _ ⟨some (.lst (rows.map D.tup)), some (.str (lgT rows)), o10, s11, h11, rfl⟩
      · rintro pre5 x5 post5 _ K5 he5 ⟨o10, s11, h11, rfl⟩ hK5
        obtain ⟨i5, rfl⟩ : ∃ i5 : Int, x5 = .int i5 := by
          have hm : x5 ∈ (List.range (Int.toNat 2)).map fun i => D.int (i : Nat) := by rw [he5]; simp
          obtain ⟨i, _, rfl⟩ := List.mem_map.mp hm
          exact ⟨_, rfl⟩
        push_cast [outs]
        refine seq_of fun K6 hK6 => ?_
        have k6 : K6 [.d (.ro (ns.map D.int)), .own (.lst [.lst (ns.map D.int), .int k]), .d x, .opt o3, .d (.str (wr5 z)), .d (.lst [.str (lgT A), .str (lgT B)]), .d z, .own (.lst [.lst (A.map D.tup), .lst (B.map D.tup)]), .d (.lst (rows.map D.tup)), .d (.str (lgT rows)), .d (.int i5), .own (.lst (rows.map D.tup)), .no] := by
          refine hK6 _ ?_
          clear hK6
          have hok : oks5 (rows.map D.tup) = true := oks_of fun y hy => by
            obtain ⟨xs, hx2, rfl⟩ := List.mem_map.mp hy
            exact (gk xs hx2).1
          have ⟨q1, q2, q3⟩ := smis_ok _ hok
          have rl : okD (.lst (rows.map D.tup)) ∧ smi2 (.lst (rows.map D.tup)) = true ∧ wt (.lst (rows.map D.tup)) ≤ 1048576 := ⟨by simp only [okD, cln, dep, q2, q3]; simp; omega, q1, show wts _ ≤ _ by omega⟩
          (refine seq_of fun K7 hK7 => ?_); push_cast [fRepr2]
          rw [if_neg (by decide)]
          refine ⟨rl, rl, ?_⟩
          rw [if_neg (by decide)]
          refine ⟨_, rows, rfl, .inl rfl, gk, by omega, trivial, ?_⟩
          push_cast [outs]
          rw [if_neg (by simp [eqD])]
          refine hK7 _ ?_
          clear hK7
          push_cast [outs]
          refine ⟨Nat.lt_of_le_of_lt (Nat.le_trans (lg_rows rows) (by rw [← join_nil]; exact gl)) (by decide), hK5 _ ⟨some (.int i5), .own (.lst (rows.map D.tup ++ [D.non])), trivial, rfl⟩⟩
        push_cast [outs]
        by_cases e5 : i5 = 0
        · rw [if_pos e5]
          exact ⟨by simp, rows, rfl, gk, by omega, fun _ => ⟨h11, k6⟩⟩
        · rw [if_neg e5]
          exact ⟨by simp, rows, rfl, gk, by omega, fun _ => ⟨h11, k6⟩⟩
  · clear hK4
    rintro pre2 x2 post2 _ K he ⟨k, L, o3', hk, hL, hg, rfl⟩ hK
    have he := congrArg List.length he
    simp only [List.length_map, List.length_range, List.length_append, List.length_cons] at he
    push_cast [outs]
    refine ⟨by simp, ns, _, _, rfl, h1, hk, by decide, fun r hr1 hr2 => ?_⟩
    push_cast [outs]
    refine ⟨by omega, by omega, ?_⟩
    refine lcD_ind (fun pre acc ε => ∃ (k' : Int) (rows : List (List D)), 0 ≤ k' ∧ rows.length = pre.length ∧ acc = rows.map D.tup ∧ (∀ xs ∈ rows, oks5 xs = true ∧ dps5 xs ≤ 3 ∧ (wr5 (.tup xs)).length ≤ 9000 ∧ wts xs ≤ 6000) ∧ ε = [.d (.ro (ns.map D.int)), .own (.lst [.lst (ns.map D.int), .int k']), .d x, .d x2, .opt o4, .opt o5, .d z, .own (.lst (L.map fun rows => .lst (rows.map D.tup))), .opt o8, .opt o9, .opt o10, s11, .no])
      ⟨_, [], by omega, rfl, rfl, fun _ h => (nomatch h), rfl⟩ (fun acc ε he2 => ?_) ?_
    · obtain ⟨k', rows, hk', hrl, rfl, hrows, rfl⟩ := he2
      simp only [List.length_map, List.length_range] at hrl
      push_cast [outs]
      have hL2 : L.length < 100 := by omega
      refine ⟨Nat.lt_of_lt_of_le hL2 (by decide), hK _ ⟨k', L ++ [rows], some x2, hk', by simp [hL], ?_, ?_⟩⟩
      · intro y hy
        rcases List.mem_append.mp hy with hy | hy
        · exact hg y hy
        · rw [List.mem_singleton.mp hy]
          exact good_of (by omega) hrows
      · simp
        rfl
    · rintro pre3 x3 post3 acc _ K3 he3 ⟨k', rows, hk', hrl, rfl, hrows, rfl⟩ hK3
      have he3 := congrArg List.length he3
      simp only [List.length_map, List.length_range, List.length_append, List.length_cons] at he3
      push_cast [outs]
      refine ⟨by simp, ns, _, 3, rfl, h1, hk', by decide, by decide, fun y k4 oy dy ly wy hk4 => ?_⟩
      push_cast [outs]
      refine ⟨by decide, by simp, ns, _, _, rfl, h1, hk4, by decide, fun r2 h21 h22 => ?_⟩
      push_cast [outs]
      refine ⟨h21, by omega, ?_⟩
      refine ⟨Nat.lt_of_lt_of_le (show rows.length < 100 by omega) (by decide), hK3 _ _ ⟨_, rows ++ [(List.replicate r2.toNat [y]).flatten], by omega, by simp [hrl], by simp, ?_, rfl⟩⟩
      intro xs hxs
      rcases List.mem_append.mp hxs with hxs | hxs
      · exact hrows xs hxs
      · rw [List.mem_singleton.mp hxs]
        exact row_of (by omega) oy dy ly wy

theorem ok_law {P : Program} {w : World} {K : PySem.W.Frag} {mg : Str → Option Value} {base : Heap} {f : Addr} {fd : FuncData} (F : Fun K "law" "law" s_law f fd) (g : mg "law" = some (.ref f)) (b : Binds K fd ["script"] [])
    (m_list : mg "list" = none)
    (m_range : mg "range" = none)
    (m_max : mg "max" = none)
    (m_min : mg "min" = none)
    (m_len : mg "len" = none)
    {f__law_deep : Addr} {fd__law_deep : FuncData} (C__law_deep : CalG P w K mg base 3 "_law_deep" s__law_deep ["draw", "item"] fs__law_deep f__law_deep fd__law_deep)
    {f__law_thing : Addr} {fd__law_thing : FuncData} (C__law_thing : CalG P w K mg base 49 "_law_thing" s__law_thing ["draw", "room"] (fs__law_thing 46) f__law_thing fd__law_thing)
    {f__law_next : Addr} {fd__law_next : FuncData} (C__law_next : CalG P w K mg base 2 "_law_next" s__law_next ["draw", "size"] fs__law_next f__law_next fd__law_next)
    {f_thing_text : Addr} {fd_thing_text : FuncData} (C_thing_text : CalG P w K mg base 48 "thing_text" s_thing_text ["thing"] (fs_thing_text 46) f_thing_text fd_thing_text)
    (m_repr : mg "repr" = none)
    {f_read_thing : Addr} {fd_read_thing : FuncData} (C_read_thing : CalG P w K mg base 50 "read_thing" s_read_thing ["text"] fs_read_thing f_read_thing fd_read_thing)
    {f_log_text : Addr} {fd_log_text : FuncData} (C_log_text : CalG P w K mg base 49 "log_text" s_log_text ["log"] fs_log_text f_log_text fd_log_text)
    (m_tuple : mg "tuple" = none)
    {f_read_log : Addr} {fd_read_log : FuncData} (C_read_log : CalO P w K mg base 52 "read_log" s_read_log ["text"] fs_read_log f_read_log fd_read_log)
    (m_isinstance : mg "isinstance" = none) :
    CalG P w K mg base 53 "law" s_law ["script"] fs_law f fd :=
  ⟨F, g, b, fn_okG F sc_law (by decide) fl_law fun cdv A outer s H E gd hr => ⟨t_law, ds_law gd hr m_list m_range m_max m_min m_len C__law_deep C__law_thing C__law_next C_thing_text m_repr C_read_thing C_log_text m_tuple C_read_log m_isinstance, vc_law⟩⟩

theorem all_mk {l : PySem.W.OpenLaw} {w : World} {K : PySem.W.Frag} {h : Heap} {mg : Str → Option Value} {fa f0 f1 f2 f3 f4 f5 f6 f7 f8 f9 f10 f11 f12 f13 f14 f15 f16 : Addr} (X : K.In h) (G : h.Ns mainGlobals mg) (hfa : mg "law" = some (.ref fa))
    {u_FIGURES u_DEEPEST : Value}
    {od0 an0 od1 an1 od2 an2 od3 an3 od4 an4 od5 an5 od6 an6 od7 an7 od8 an8 od9 an9 od10 an10 od11 an11 od12 an12 od13 an13 od14 an14 od15 an15 od16 an16 : Option Addr} {sl0 sl1 sl2 sl3 sl4 sl5 sl6 sl7 sl8 sl9 sl10 sl11 sl12 sl13 sl14 sl15 sl16 : Array (Option Value)} {oc0 kV0 dc0 pm0 cd0 ct0 oc1 kV1 dc1 pm1 cd1 ct1 oc2 kV2 dc2 pm2 cd2 ct2 oc3 kV3 dc3 pm3 cd3 ct3 oc4 kV4 dc4 pm4 cd4 ct4 oc5 kV5 dc5 pm5 cd5 ct5 oc6 kV6 dc6 pm6 cd6 ct6 oc7 kV7 dc7 pm7 cd7 ct7 oc8 kV8 dc8 pm8 cd8 ct8 oc9 kV9 dc9 pm9 cd9 ct9 oc10 kV10 dc10 pm10 cd10 ct10 oc11 kV11 dc11 pm11 cd11 ct11 oc12 kV12 dc12 pm12 cd12 ct12 oc13 kV13 dc13 pm13 cd13 ct13 oc14 kV14 dc14 pm14 cd14 ct14 oc15 kV15 dc15 pm15 cd15 ct15 oc16 kV16 dc16 pm16 cd16 ct16 : Value}
    (a0 : PySem.W.nsIn K mainGlobals "made_of" = some (some (.ref f0))) (l0 : K.lookup f0 = some ⟨oc0, od0, .func (PySem.W.fnOf "made_of" "made_of" (defArgs s_made_of) (defBody s_made_of) (defScope s_made_of) .none kV0 dc0 pm0 an0 cd0 ct0), sl0⟩) (c0 : PySem.W.codeIn K cd0 "made_of" = true) (k0 : PySem.W.keepIn K (.ref f0) = true)
    (a1 : PySem.W.nsIn K mainGlobals "run_end" = some (some (.ref f1))) (l1 : K.lookup f1 = some ⟨oc1, od1, .func (PySem.W.fnOf "run_end" "run_end" (defArgs s_run_end) (defBody s_run_end) (defScope s_run_end) .none kV1 dc1 pm1 an1 cd1 ct1), sl1⟩) (c1 : PySem.W.codeIn K cd1 "run_end" = true) (k1 : PySem.W.keepIn K (.ref f1) = true)
    (a2 : PySem.W.nsIn K mainGlobals "is_number" = some (some (.ref f2))) (l2 : K.lookup f2 = some ⟨oc2, od2, .func (PySem.W.fnOf "is_number" "is_number" (defArgs s_is_number) (defBody s_is_number) (defScope s_is_number) .none kV2 dc2 pm2 an2 cd2 ct2), sl2⟩) (c2 : PySem.W.codeIn K cd2 "is_number" = true) (k2 : PySem.W.keepIn K (.ref f2) = true)
    (a3 : PySem.W.nsIn K mainGlobals "_law_mixed" = some (some (.ref f3))) (l3 : K.lookup f3 = some ⟨oc3, od3, .func (PySem.W.fnOf "_law_mixed" "_law_mixed" (defArgs s__law_mixed) (defBody s__law_mixed) (defScope s__law_mixed) .none kV3 dc3 pm3 an3 cd3 ct3), sl3⟩) (c3 : PySem.W.codeIn K cd3 "_law_mixed" = true) (k3 : PySem.W.keepIn K (.ref f3) = true)
    (a4 : PySem.W.nsIn K mainGlobals "text_at" = some (some (.ref f4))) (l4 : K.lookup f4 = some ⟨oc4, od4, .func (PySem.W.fnOf "text_at" "text_at" (defArgs s_text_at) (defBody s_text_at) (defScope s_text_at) .none kV4 dc4 pm4 an4 cd4 ct4), sl4⟩) (c4 : PySem.W.codeIn K cd4 "text_at" = true) (k4 : PySem.W.keepIn K (.ref f4) = true)
    (a5 : PySem.W.nsIn K mainGlobals "word_told" = some (some (.ref f5))) (l5 : K.lookup f5 = some ⟨oc5, od5, .func (PySem.W.fnOf "word_told" "word_told" (defArgs s_word_told) (defBody s_word_told) (defScope s_word_told) .none kV5 dc5 pm5 an5 cd5 ct5), sl5⟩) (c5 : PySem.W.codeIn K cd5 "word_told" = true) (k5 : PySem.W.keepIn K (.ref f5) = true)
    (a6 : PySem.W.nsIn K mainGlobals "_law_next" = some (some (.ref f6))) (l6 : K.lookup f6 = some ⟨oc6, od6, .func (PySem.W.fnOf "_law_next" "_law_next" (defArgs s__law_next) (defBody s__law_next) (defScope s__law_next) .none kV6 dc6 pm6 an6 cd6 ct6), sl6⟩) (c6 : PySem.W.codeIn K cd6 "_law_next" = true) (k6 : PySem.W.keepIn K (.ref f6) = true)
    (a7 : PySem.W.nsIn K mainGlobals "_law_deep" = some (some (.ref f7))) (l7 : K.lookup f7 = some ⟨oc7, od7, .func (PySem.W.fnOf "_law_deep" "_law_deep" (defArgs s__law_deep) (defBody s__law_deep) (defScope s__law_deep) .none kV7 dc7 pm7 an7 cd7 ct7), sl7⟩) (c7 : PySem.W.codeIn K cd7 "_law_deep" = true) (k7 : PySem.W.keepIn K (.ref f7) = true)
    (a8 : PySem.W.nsIn K mainGlobals "thing_text" = some (some (.ref f8))) (l8 : K.lookup f8 = some ⟨oc8, od8, .func (PySem.W.fnOf "thing_text" "thing_text" (defArgs s_thing_text) (defBody s_thing_text) (defScope s_thing_text) .none kV8 dc8 pm8 an8 cd8 ct8), sl8⟩) (c8 : PySem.W.codeIn K cd8 "thing_text" = true) (k8 : PySem.W.keepIn K (.ref f8) = true)
    (a9 : PySem.W.nsIn K mainGlobals "thing_at" = some (some (.ref f9))) (l9 : K.lookup f9 = some ⟨oc9, od9, .func (PySem.W.fnOf "thing_at" "thing_at" (defArgs s_thing_at) (defBody s_thing_at) (defScope s_thing_at) .none kV9 dc9 pm9 an9 cd9 ct9), sl9⟩) (c9 : PySem.W.codeIn K cd9 "thing_at" = true) (k9 : PySem.W.keepIn K (.ref f9) = true)
    (a10 : PySem.W.nsIn K mainGlobals "tuple_at" = some (some (.ref f10))) (l10 : K.lookup f10 = some ⟨oc10, od10, .func (PySem.W.fnOf "tuple_at" "tuple_at" (defArgs s_tuple_at) (defBody s_tuple_at) (defScope s_tuple_at) .none kV10 dc10 pm10 an10 cd10 ct10), sl10⟩) (c10 : PySem.W.codeIn K cd10 "tuple_at" = true) (k10 : PySem.W.keepIn K (.ref f10) = true)
    (a11 : PySem.W.nsIn K mainGlobals "log_text" = some (some (.ref f11))) (l11 : K.lookup f11 = some ⟨oc11, od11, .func (PySem.W.fnOf "log_text" "log_text" (defArgs s_log_text) (defBody s_log_text) (defScope s_log_text) .none kV11 dc11 pm11 an11 cd11 ct11), sl11⟩) (c11 : PySem.W.codeIn K cd11 "log_text" = true) (k11 : PySem.W.keepIn K (.ref f11) = true)
    (a12 : PySem.W.nsIn K mainGlobals "_law_thing" = some (some (.ref f12))) (l12 : K.lookup f12 = some ⟨oc12, od12, .func (PySem.W.fnOf "_law_thing" "_law_thing" (defArgs s__law_thing) (defBody s__law_thing) (defScope s__law_thing) .none kV12 dc12 pm12 an12 cd12 ct12), sl12⟩) (c12 : PySem.W.codeIn K cd12 "_law_thing" = true) (k12 : PySem.W.keepIn K (.ref f12) = true)
    (a13 : PySem.W.nsIn K mainGlobals "read_thing" = some (some (.ref f13))) (l13 : K.lookup f13 = some ⟨oc13, od13, .func (PySem.W.fnOf "read_thing" "read_thing" (defArgs s_read_thing) (defBody s_read_thing) (defScope s_read_thing) .none kV13 dc13 pm13 an13 cd13 ct13), sl13⟩) (c13 : PySem.W.codeIn K cd13 "read_thing" = true) (k13 : PySem.W.keepIn K (.ref f13) = true)
    (a14 : PySem.W.nsIn K mainGlobals "read_row" = some (some (.ref f14))) (l14 : K.lookup f14 = some ⟨oc14, od14, .func (PySem.W.fnOf "read_row" "read_row" (defArgs s_read_row) (defBody s_read_row) (defScope s_read_row) .none kV14 dc14 pm14 an14 cd14 ct14), sl14⟩) (c14 : PySem.W.codeIn K cd14 "read_row" = true) (k14 : PySem.W.keepIn K (.ref f14) = true)
    (a15 : PySem.W.nsIn K mainGlobals "read_log" = some (some (.ref f15))) (l15 : K.lookup f15 = some ⟨oc15, od15, .func (PySem.W.fnOf "read_log" "read_log" (defArgs s_read_log) (defBody s_read_log) (defScope s_read_log) .none kV15 dc15 pm15 an15 cd15 ct15), sl15⟩) (c15 : PySem.W.codeIn K cd15 "read_log" = true) (k15 : PySem.W.keepIn K (.ref f15) = true)
    (a16 : PySem.W.nsIn K mainGlobals "law" = some (some (.ref f16))) (l16 : K.lookup f16 = some ⟨oc16, od16, .func (PySem.W.fnOf "law" "law" (defArgs s_law) (defBody s_law) (defScope s_law) .none kV16 dc16 pm16 an16 cd16 ct16), sl16⟩) (c16 : PySem.W.codeIn K cd16 "law" = true) (k16 : PySem.W.keepIn K (.ref f16) = true)
    (z_all : PySem.W.nsIn K mainGlobals "all" = some none)
    (z_len : PySem.W.nsIn K mainGlobals "len" = some none)
    (z_isinstance : PySem.W.nsIn K mainGlobals "isinstance" = some none)
    (z_int : PySem.W.nsIn K mainGlobals "int" = some none)
    (z_bool : PySem.W.nsIn K mainGlobals "bool" = some none)
    (z_max : PySem.W.nsIn K mainGlobals "max" = some none)
    (z_range : PySem.W.nsIn K mainGlobals "range" = some none)
    (z_str : PySem.W.nsIn K mainGlobals "str" = some none)
    (z_tuple : PySem.W.nsIn K mainGlobals "tuple" = some none)
    (z_enumerate : PySem.W.nsIn K mainGlobals "enumerate" = some none)
    (z_list : PySem.W.nsIn K mainGlobals "list" = some none)
    (z_min : PySem.W.nsIn K mainGlobals "min" = some none)
    (z_repr : PySem.W.nsIn K mainGlobals "repr" = some none)
    (v_FIGURES : PySem.W.nsIn K mainGlobals "FIGURES" = some (some u_FIGURES)) (r_FIGURES : RelV (V.str (mk [48, 49, 50, 51, 52, 53, 54, 55, 56, 57])) u_FIGURES)
    (v_DEEPEST : PySem.W.nsIn K mainGlobals "DEEPEST" = some (some u_DEEPEST)) (r_DEEPEST : RelV (V.int 60) u_DEEPEST)
    {p_STROKED : Addr} {es_STROKED : Array DictEntry} {n_STROKED : Nat} (v_STROKED : PySem.W.nsIn K mainGlobals "STROKED" = some (some (.ref p_STROKED))) (d_STROKED : K.lookup p_STROKED = some ⟨.type "dict", none, .dict es_STROKED n_STROKED, #[]⟩) (y_STROKED : PySem.W.KeysLit w.params es_STROKED.toList) (lw_STROKED : (p_STROKED == sysModules) = false)
    {u_STROKED_0 : Value} (e_STROKED_0 : PySem.W.nsIn K p_STROKED "\"" = some (some u_STROKED_0)) (w_STROKED_0 : RelV (.str (mk [34])) u_STROKED_0)
    {u_STROKED_1 : Value} (e_STROKED_1 : PySem.W.nsIn K p_STROKED "\\" = some (some u_STROKED_1)) (w_STROKED_1 : RelV (.str (mk [92])) u_STROKED_1)
    {u_STROKED_2 : Value} (e_STROKED_2 : PySem.W.nsIn K p_STROKED "n" = some (some u_STROKED_2)) (w_STROKED_2 : RelV (.str (mk [10])) u_STROKED_2)
    {C_NoText : Addr}
    (eV_NoText : PySem.W.nsIn K mainGlobals "NoText" = some (some (.ref C_NoText)))
    : ∃ fd : FuncData, (∀ (s : Shared) (v : Value), BindsTo s fd ⟨[v], []⟩ [("script", v)]) ∧ ∀ base : Heap, K.In base → base.Ns mainGlobals mg → FnG l.prog w K mg base (L2.CX l.prog w) 53 fa fd ["script"] (spOf K fsLaw) := by
  have e := hfa.symm.trans (PySem.W.mg_of X G a16)
  cases e
  have F_made_of := fun_mk (st := s_made_of) l0 c0 k0
  have b_made_of := F_made_of.binds (ps := ["text", "signs"]) fun _ _ _ _ _ _ us hl => match us, hl with | [_, _], _ => rfl
  have F_run_end := fun_mk (st := s_run_end) l1 c1 k1
  have b_run_end := F_run_end.binds (ps := ["text", "at", "barred"]) fun _ _ _ _ _ _ us hl => match us, hl with | [_, _, _], _ => rfl
  have F_is_number := fun_mk (st := s_is_number) l2 c2 k2
  have b_is_number := F_is_number.binds (ps := ["thing"]) fun _ _ _ _ _ _ us hl => match us, hl with | [_], _ => rfl
  have F__law_mixed := fun_mk (st := s__law_mixed) l3 c3 k3
  have b__law_mixed := F__law_mixed.binds (ps := ["cell", "k"]) fun _ _ _ _ _ _ us hl => match us, hl with | [_, _], _ => rfl
  have F_text_at := fun_mk (st := s_text_at) l4 c4 k4
  have b_text_at := F_text_at.binds (ps := ["text", "at"]) fun _ _ _ _ _ _ us hl => match us, hl with | [_, _], _ => rfl
  have F_word_told := fun_mk (st := s_word_told) l5 c5 k5
  have b_word_told := F_word_told.binds (ps := ["word"]) fun _ _ _ _ _ _ us hl => match us, hl with | [_], _ => rfl
  have F__law_next := fun_mk (st := s__law_next) l6 c6 k6
  have b__law_next := F__law_next.binds (ps := ["draw", "size"]) fun _ _ _ _ _ _ us hl => match us, hl with | [_, _], _ => rfl
  have F__law_deep := fun_mk (st := s__law_deep) l7 c7 k7
  have b__law_deep := F__law_deep.binds (ps := ["draw", "item"]) fun _ _ _ _ _ _ us hl => match us, hl with | [_, _], _ => rfl
  have F_thing_text := fun_mk (st := s_thing_text) l8 c8 k8
  have b_thing_text := F_thing_text.binds (ps := ["thing"]) fun _ _ _ _ _ _ us hl => match us, hl with | [_], _ => rfl
  have F_thing_at := fun_mk (st := s_thing_at) l9 c9 k9
  have b_thing_at := F_thing_at.binds (ps := ["text", "at", "deep"]) fun _ _ _ _ _ _ us hl => match us, hl with | [_, _, _], _ => rfl
  have F_tuple_at := fun_mk (st := s_tuple_at) l10 c10 k10
  have b_tuple_at := F_tuple_at.binds (ps := ["text", "at", "deep"]) fun _ _ _ _ _ _ us hl => match us, hl with | [_, _, _], _ => rfl
  have F_log_text := fun_mk (st := s_log_text) l11 c11 k11
  have b_log_text := F_log_text.binds (ps := ["log"]) fun _ _ _ _ _ _ us hl => match us, hl with | [_], _ => rfl
  have F__law_thing := fun_mk (st := s__law_thing) l12 c12 k12
  have b__law_thing := F__law_thing.binds (ps := ["draw", "room"]) fun _ _ _ _ _ _ us hl => match us, hl with | [_, _], _ => rfl
  have F_read_thing := fun_mk (st := s_read_thing) l13 c13 k13
  have b_read_thing := F_read_thing.binds (ps := ["text"]) fun _ _ _ _ _ _ us hl => match us, hl with | [_], _ => rfl
  have F_read_row := fun_mk (st := s_read_row) l14 c14 k14
  have b_read_row := F_read_row.binds (ps := ["line", "at"]) fun _ _ _ _ _ _ us hl => match us, hl with | [_, _], _ => rfl
  have F_read_log := fun_mk (st := s_read_log) l15 c15 k15
  have b_read_log := F_read_log.binds (ps := ["text"]) fun _ _ _ _ _ _ us hl => match us, hl with | [_], _ => rfl
  have F_law := fun_mk (st := s_law) l16 c16 k16
  have b_law := F_law.binds (ps := ["script"]) fun _ _ _ _ _ _ us hl => match us, hl with | [_], _ => rfl
  have kx_STROKED : mg "STROKED" = some (.ref p_STROKED) ∧ KTx K w p_STROKED tbl_STROKED := ⟨PySem.W.mg_of X G v_STROKED, (.cons (x := "\"") (by decide +kernel) e_STROKED_0 w_STROKED_0 (asc_of (by decide)) (.cons (x := "\\") (by decide +kernel) e_STROKED_1 w_STROKED_1 (asc_of (by decide)) (.cons (x := "n") (by decide +kernel) e_STROKED_2 w_STROKED_2 (asc_of (by decide)) (.nil d_STROKED y_STROKED lw_STROKED))))⟩
  have MN_NoText : ∃ C, mg "NoText" = some (.ref C) := ⟨C_NoText, PySem.W.mg_of X G eV_NoText⟩
  have m_all : mg "all" = none := PySem.W.mg_none_of X G z_all
  have m_len : mg "len" = none := PySem.W.mg_none_of X G z_len
  have m_isinstance : mg "isinstance" = none := PySem.W.mg_none_of X G z_isinstance
  have m_int : mg "int" = none := PySem.W.mg_none_of X G z_int
  have m_bool : mg "bool" = none := PySem.W.mg_none_of X G z_bool
  have m_max : mg "max" = none := PySem.W.mg_none_of X G z_max
  have m_range : mg "range" = none := PySem.W.mg_none_of X G z_range
  have m_str : mg "str" = none := PySem.W.mg_none_of X G z_str
  have m_tuple : mg "tuple" = none := PySem.W.mg_none_of X G z_tuple
  have m_enumerate : mg "enumerate" = none := PySem.W.mg_none_of X G z_enumerate
  have m_list : mg "list" = none := PySem.W.mg_none_of X G z_list
  have m_min : mg "min" = none := PySem.W.mg_none_of X G z_min
  have m_repr : mg "repr" = none := PySem.W.mg_none_of X G z_repr
  have c_FIGURES : ∃ u, mg "FIGURES" = some u ∧ RelV (V.str (mk [48, 49, 50, 51, 52, 53, 54, 55, 56, 57])) u := ⟨_, PySem.W.mg_of X G v_FIGURES, r_FIGURES⟩
  have c_DEEPEST : ∃ u, mg "DEEPEST" = some u ∧ RelV (V.int 60) u := ⟨_, PySem.W.mg_of X G v_DEEPEST, r_DEEPEST⟩
  refine ⟨PySem.W.fnOf "law" "law" (defArgs s_law) (defBody s_law) (defScope s_law) .none kV16 dc16 pm16 an16 cd16 ct16, fun s v => .of_eq rfl, fun base _ _ => ?_⟩
  have C_made_of := ok_made_of (P := l.prog) (w := w) (base := base) F_made_of (PySem.W.mg_of X G a0) b_made_of m_all
  have C_run_end := ok_run_end (P := l.prog) (w := w) (base := base) F_run_end (PySem.W.mg_of X G a1) b_run_end m_len
  have C_is_number := ok_is_number (P := l.prog) (w := w) (base := base) F_is_number (PySem.W.mg_of X G a2) b_is_number m_isinstance m_int m_bool
  have C__law_mixed := ok__law_mixed (P := l.prog) (w := w) (base := base) F__law_mixed (PySem.W.mg_of X G a3) b__law_mixed 
  have C_text_at := ok_text_at (P := l.prog) (w := w) (base := base) F_text_at (PySem.W.mg_of X G a4) b_text_at C_run_end kx_STROKED
  have C_word_told := ok_word_told (P := l.prog) (w := w) (base := base) F_word_told (PySem.W.mg_of X G a5) b_word_told C_made_of c_FIGURES m_int
  have C__law_next := ok__law_next (P := l.prog) (w := w) (base := base) F__law_next (PySem.W.mg_of X G a6) b__law_next m_max m_len C__law_mixed
  have C__law_deep := ok__law_deep (P := l.prog) (w := w) (base := base) F__law_deep (PySem.W.mg_of X G a7) b__law_deep m_range C__law_next
  have S_thing_text := okS_thing_text (P := l.prog) (w := w) (base := base) F_thing_text (PySem.W.mg_of X G a8) b_thing_text m_isinstance m_bool C_is_number m_str 46
  have C_thing_text := S_thing_text
  have S_thing_at := okS_thing_at (P := l.prog) (w := w) (base := base) F_thing_at (PySem.W.mg_of X G a9) b_thing_at F_tuple_at (PySem.W.mg_of X G a10) b_tuple_at C_text_at C_run_end C_word_told m_tuple 46
  obtain ⟨C_thing_at, C_tuple_at⟩ := S_thing_at
  have C_log_text := ok_log_text (P := l.prog) (w := w) (base := base) F_log_text (PySem.W.mg_of X G a11) b_log_text C_thing_text
  have S__law_thing := okS__law_thing (P := l.prog) (w := w) (base := base) F__law_thing (PySem.W.mg_of X G a12) b__law_thing C__law_next m_tuple m_range 46
  have C__law_thing := S__law_thing
  have C_read_thing := ok_read_thing (P := l.prog) (w := w) (base := base) F_read_thing (PySem.W.mg_of X G a13) b_read_thing m_isinstance m_str C_thing_at c_DEEPEST m_len
  have C_read_row := ok_read_row (P := l.prog) (w := w) (base := base) F_read_row (PySem.W.mg_of X G a14) b_read_row MN_NoText C_read_thing m_isinstance m_tuple
  have C_read_log := ok_read_log (P := l.prog) (w := w) (base := base) F_read_log (PySem.W.mg_of X G a15) b_read_log m_isinstance m_str m_enumerate C_read_row
  have C_law := ok_law (P := l.prog) (w := w) (base := base) F_law (PySem.W.mg_of X G a16) b_law m_list m_range m_max m_min m_len C__law_deep C__law_thing C__law_next C_thing_text m_repr C_read_thing C_log_text m_tuple C_read_log m_isinstance
  exact C_law.ok
end Pasifread_k76_whole_things_read_back
open PySem PySem.W PyProof.Rows
set_option maxHeartbeats 0 in
theorem PySem.Challenge.cw_asifread_k76_whole_things_read_back_holds : PySem.Challenge.rw_asifread_k76_whole_things_read_back.Holds := by
  w_on; o_law; k_head; (case hw => w_witness2)
  k_fill
  refine Zd.walk_G (l := PySem.Challenge.rw_asifread_k76_whole_things_read_back) (n := 63) (k := 53) (x := "script") (CX := fun w => L2.CX PySem.Challenge.rw_asifread_k76_whole_things_read_back.prog w) (sp := fun w => Zd.spOf _ Zd.fsLaw) rfl (by decide) rfl ⟨rfl, by decide, by decide⟩ (fun w h Y => PySem.W.kIn_of Y) ?F (fun _ _ a ns hl hS => Zd.law_sp hl hS) (fun _ _ _ _ _ h => Zd.law_cx h)
  case F =>
    intro w mg fa h KX G hmg
    refine' Pasifread_k76_whole_things_read_back.all_mk KX G hmg ?a0 ?l0 ?c0 ?k0 ?a1 ?l1 ?c1 ?k1 ?a2 ?l2 ?c2 ?k2 ?a3 ?l3 ?c3 ?k3 ?a4 ?l4 ?c4 ?k4 ?a5 ?l5 ?c5 ?k5 ?a6 ?l6 ?c6 ?k6 ?a7 ?l7 ?c7 ?k7 ?a8 ?l8 ?c8 ?k8 ?a9 ?l9 ?c9 ?k9 ?a10 ?l10 ?c10 ?k10 ?a11 ?l11 ?c11 ?k11 ?a12 ?l12 ?c12 ?k12 ?a13 ?l13 ?c13 ?k13 ?a14 ?l14 ?c14 ?k14 ?a15 ?l15 ?c15 ?k15 ?a16 ?l16 ?c16 ?k16 ?z_all ?z_len ?z_isinstance ?z_int ?z_bool ?z_max ?z_range ?z_str ?z_tuple ?z_enumerate ?z_list ?z_min ?z_repr ?v_FIGURES ?r_FIGURES ?v_DEEPEST ?r_DEEPEST ?v_STROKED ?d_STROKED ?y_STROKED ?lw_STROKED ?e_STROKED_0 ?w_STROKED_0 ?e_STROKED_1 ?w_STROKED_1 ?e_STROKED_2 ?w_STROKED_2 ?eV_NoText
    (case a0 => k_is); (case l0 => k_is); (case c0 => k_is); (case k0 => k_is); (case a1 => k_is); (case l1 => k_is); (case c1 => k_is); (case k1 => k_is); (case a2 => k_is); (case l2 => k_is); (case c2 => k_is); (case k2 => k_is); (case a3 => k_is); (case l3 => k_is); (case c3 => k_is); (case k3 => k_is); (case a4 => k_is); (case l4 => k_is); (case c4 => k_is); (case k4 => k_is); (case a5 => k_is); (case l5 => k_is); (case c5 => k_is); (case k5 => k_is); (case a6 => k_is); (case l6 => k_is); (case c6 => k_is); (case k6 => k_is); (case a7 => k_is); (case l7 => k_is); (case c7 => k_is); (case k7 => k_is); (case a8 => k_is); (case l8 => k_is); (case c8 => k_is); (case k8 => k_is); (case a9 => k_is); (case l9 => k_is); (case c9 => k_is); (case k9 => k_is); (case a10 => k_is); (case l10 => k_is); (case c10 => k_is); (case k10 => k_is); (case a11 => k_is); (case l11 => k_is); (case c11 => k_is); (case k11 => k_is); (case a12 => k_is); (case l12 => k_is); (case c12 => k_is); (case k12 => k_is); (case a13 => k_is); (case l13 => k_is); (case c13 => k_is); (case k13 => k_is); (case a14 => k_is); (case l14 => k_is); (case c14 => k_is); (case k14 => k_is); (case a15 => k_is); (case l15 => k_is); (case c15 => k_is); (case k15 => k_is); (case a16 => k_is); (case l16 => k_is); (case c16 => k_is); (case k16 => k_is); (case z_all => k_is); (case z_len => k_is); (case z_isinstance => k_is); (case z_int => k_is); (case z_bool => k_is); (case z_max => k_is); (case z_range => k_is); (case z_str => k_is); (case z_tuple => k_is); (case z_enumerate => k_is); (case z_list => k_is); (case z_min => k_is); (case z_repr => k_is); (case v_FIGURES => k_is); (case r_FIGURES => first | exact Zd.rv_int | exact Zd.rv_str (by decide +kernel)); (case v_DEEPEST => k_is); (case r_DEEPEST => first | exact Zd.rv_int | exact Zd.rv_str (by decide +kernel)); (case v_STROKED => k_is); (case d_STROKED => k_is); (case y_STROKED => k_keys); (case lw_STROKED => first | kernel_rfl | rfl | decide +kernel); (case e_STROKED_0 => k_is); (case w_STROKED_0 => exact Zd.rv_str (by decide +kernel)); (case e_STROKED_1 => k_is); (case w_STROKED_1 => exact Zd.rv_str (by decide +kernel)); (case e_STROKED_2 => k_is); (case w_STROKED_2 => exact Zd.rv_str (by decide +kernel)); (case eV_NoText => k_is)

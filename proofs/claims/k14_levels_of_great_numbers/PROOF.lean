import PyProof.Rows.All
import Wide.All
import OpenK.AllK
import Wide.FinOn
import PySem.Challenge.RW_weeksums_k14_levels_of_great_numbers
import HandS.ForMost
import HandS.Wide
import HandS.RaiseMore
import PyProof.ReprRoads
import HandS.Ends
import HandS.Conv
import HandS.IsInst
import HandS.SortInts
import HandS.Evl
import HandS.More
import HandS.Remove
import HandS.ExcValue
import HandS.TupLe
import HandS.Iter
import HandS.Style
import KE.DataMinMax
import KE.SortData
import PyProof.Claim2Refuses
import HandS.SortKw
import HandS.SortRule
import HandS.Gcd
import HandS.Deep
import KE.KDictZip
import KE.KMathGC
import HandS.Zip
import HandS.Dict
import HandS.DictTup
import HandS.DictComp
import HandS.Exc
import HandS.ExcInit
import HandS.ExcOwn
import HandS.ExcField
import HandS.TryMany
import HandS.TryOnly
import HandS.SuiteRaise
import HandS.Strs
import HandS.StrMore
import HandS.StrSplit
import HandS.Sort
import HandS.Keys
import HandS.SortOrd
import HandS.Head0
import HandS.Head1
import HandS.Head2
import HandS.Head3
import HandS.HeadEnd
import HandS.HeadHook1
import HandS.HeadHook2
import HandS.Flt
import HandS.WideBits
set_option Elab.async false
set_option linter.all false
set_option maxRecDepth 100000
set_option maxHeartbeats 4000000
namespace Ws
open PySem PySem.Spec PyProof.Rows L2
/-! ### great powers -/
/-- a power of an int of less than a million bits, the exponent up to 60 -/
def PowOk (i j : Int) : Prop := 0 ≤ j ∧ j ≤ 60 ∧ i.natAbs.log2 < 2000000
theorem bits_le (i : Int) : Builtin.Int.intBits i ≤ i.natAbs.log2 + 1 := by
  unfold Builtin.Int.intBits
  split <;> omega
theorem op_powG {X : Cx} : OpR X (binaryOp .Pow) (rI PowOk fun i j => .int (i ^ j.toNat)) :=
  opI fun i j t u s Q E hc q => by
    obtain ⟨h0, h1, h2⟩ := hc
    refine PyProof.Rows.pow_int h0 ?_ q
    have hb := bits_le i
    have h3 : (Builtin.Int.intBits i : Int) ≤ 2000000 := by omega
    have h4 : (Builtin.Int.intBits i : Int) * j ≤ 2000000 * 60 :=
      Int.le_trans (Int.mul_le_mul_of_nonneg_right h3 h0) (Int.mul_le_mul_of_nonneg_left h1 (by decide))
    exact Int.le_trans h4 (by decide)
end Ws

set_option Elab.async false
set_option linter.all false
set_option maxRecDepth 100000
set_option maxHeartbeats 4000000
namespace Ws
open PySem PySem.Spec PyProof.Rows L2
/-! ### contracts of defs that hold where no printing of a list is under way -/
structure FnG (P : Program) (w : World) (K : PySem.W.Frag) (mg : Str → Option Value) (base : Heap)
    (CX : CXT) (k : Nat) (f : Addr) (fd : FuncData) (ps : List Str) (sp : Sp) : Prop where
  cnt : ∀ vs H Q E, sp vs H Q E → vs.length = ps.length
  go : ∀ (A : Around) (out : List Env) (s : Shared) (H : Hp) (ar : Args) (us : List Value) (vs : List V) (Q : VK) (E : XK),
    Room k A → A.guards = some [] → Env0 P w K mg base A out s H → BindsTo s fd ar (ps.zip us) → Vals vs us →
    sp vs H Q E → codeAny (model P w) A (.call (.ref f) ar) (CR CX out P w H s Q E) s
section
variable {P : Program} {w : World} {K : PySem.W.Frag} {mg : Str → Option Value} {base : Heap} {CX : CXT}
  {k : Nat} {f : Addr} {fd : FuncData} {ps : List Str} {sp : Sp}
theorem FnG.of (F : FnOk P w K mg base CX k f fd ps sp) : FnG P w K mg base CX k f fd ps sp :=
  ⟨F.len, fun A out s H ar us vs Q E hr _ he hb hv hs => F.run A out s H ar us vs Q E hr he hb hv hs⟩
theorem FnG.up {j : Nat} (F : FnG P w K mg base CX j f fd ps sp) (h : j ≤ k) : FnG P w K mg base CX k f fd ps sp :=
  ⟨F.cnt, fun A out s H ar us vs Q E hr => F.go A out s H ar us vs Q E (hr.mono h)⟩
/-- a def of the text by its body, the guards told -/
theorem fnG_of {nm qual : Str} {params : Arguments} {body : List Stmt} {scope : Scope} {dV kV doc pm cdv ct oc : Value}
    {an od : Option Addr} {osl : Array (Option Value)} {N : List Str}
    (lk : K.lookup f = some ⟨oc, od, .func (PySem.W.fnOf nm qual params body scope dV kV doc pm an cdv ct), osl⟩)
    (hcd : PySem.W.codeIn K cdv qual = true) (S : FnScope N ps scope)
    (cnt : ∀ vs H Q E, sp vs H Q E → vs.length = ps.length)
    (hbody : ∀ (A : Around) (out : List Env) (s : Shared) (H : Hp) (vs : List V) (Q : VK) (E : XK),
      Room k (A.deeper (envOfC qual scope s.heap.objs.size f cdv)) → A.guards = some [] → sp vs H Q E →
      ∃ t, PSs (cxOf CX P w K mg base N qual scope f cdv A out s H E) body t ∧
        t { nx := fun _ H' => Q .non H', rt := Q } (start N vs) H) :
    FnG P w K mg base CX (k + 1) f (PySem.W.fnOf nm qual params body scope dV kV doc pm an cdv ct) ps sp := by
  refine ⟨cnt, ?_⟩
  intro A out s H ar us vs Q E hr hg e0 hb hv hsp
  have n1 : vs.length = ps.length := cnt _ _ _ _ hsp
  have inK : K.In s.heap := e0.mod.kin.keeps fun b o q => (e0.bs b o q).1
  have free : s.heap.NoLimit := e0.mod.nolimit.keeps fun b o q => (e0.bs b o q).1
  have kinds : ∀ y ∈ ps.zip us, scope.names.lookup y.1 = some .local ∨
      (scope.names.lookup y.1 = some .cell ∧
        ((cellsFrom (s.heap.objs.size + 1) scope.names []).lookup y.1).isSome = true) := by
    rintro ⟨n, v⟩ hy
    have hm : n ∈ ps := (List.of_mem_zip hy).1
    cases S.par n hm with
    | inl q => exact Or.inl q
    | inr q => exact Or.inr ⟨q, PySem.W.cellsFrom_some _ _ _ (Or.inl q)⟩
  have rcd : s.heap.CodeRec cdv qual := PySem.W.codeRec_of inK hcd
  refine codeAny_call_function hr.depth (inK _ _ lk) rfl S.co S.gen rfl rcd ?_
  refine hb _ _ _ _ (wpAny_newFunctionEnv_cells S.kind kinds ?_)
  intro env ee s1 x
  subst ee
  refine ⟨free.keeps x.toInCall.keep, codeAny_func ?_⟩
  obtain ⟨t, ht, hq⟩ := hbody A out s H vs Q E (hr.deeper _) hg hsp
  have I := inv_start (CX := CX) (P := P) (E := E) (cd := cdv) (f := f) S hr.hd e0 n1 hv x
  have r1 := ht.run [] s1 (start N vs) H _ I hq
  refine wpAny_mono r1 ?_ (fun e s' hs => hs)
  intro fl s' hs
  cases fl with
  | brk =>
    obtain ⟨_, _, _, q⟩ := hs
    exact q.elim
  | cont =>
    obtain ⟨_, _, _, q⟩ := hs
    exact q.elim
  | next =>
    obtain ⟨σ', H', J, q⟩ := hs
    exact ⟨.non, H', J.os, J.bare, J.base, J.hok, rfl, q⟩
  | ret u =>
    obtain ⟨v, σ', H', J, rv, q⟩ := hs
    exact ⟨v, H', J.os, J.bare, J.base, J.hok, rv, q⟩
end
section
variable {P : Program} {w : World} {K : PySem.W.Frag} {mg : Str → Option Value} {base : Heap}
/-- THE RULE for a def of the text, where nothing leaves it -/
theorem okG {x qual : Str} {st : Stmt} {f : Addr} {fd : FuncData} {N ps : List Str} {k : Nat} {sp : Sp}
    (F : L2.Fun K x qual st f fd) (S : FnScope N ps (defScope st))
    (cnt : ∀ vs H Q E, sp vs H Q E → vs.length = ps.length)
    (hbody : ∀ (cdv : Value) (A : Around) (out : List Env) (s : Shared) (H : Hp) (vs : List V) (Q : VK) (E : XK),
      Room k (A.deeper (envOfC qual (defScope st) s.heap.objs.size f cdv)) → A.guards = some [] → sp vs H Q E →
      ∃ t, PSs (cxOf CX0 P w K mg base N qual (defScope st) f cdv A out s H E).nox (defBody st) t ∧
        t { nx := fun _ H' => Q .non H', rt := Q } (start N vs) H) :
    FnG P w K mg base CX0 (k + 1) f fd ps sp := by
  obtain ⟨oc, od, kV, doc, pm, an, cdv, ct, osl, rfl, lk, hcd⟩ := F.ex
  refine fnG_of lk hcd S cnt ?_
  intro A out s H vs Q E hr hg hsp
  obtain ⟨t, h, q⟩ := hbody cdv A out s H vs Q E hr hg hsp
  exact ⟨t, PSs.nox h, q⟩
end
section
variable {X : Cx} {CX : CXT} {k : Nat} {f : Addr} {fd : FuncData} {ps ks : List Str} {sp : Sp} {E : XK} {x : Str}
  {p pos : Pos} {e : Expr} {es : List Expr} {kws : List Keyword} {t tk : TA}
/-- a call of such a def, as it is bound -/
theorem callG {pins : List (Addr × Obj)} {σ : L2.St} {H : Hp} {s : Shared} {Q : VK} {us ws : List Value} {vs : List V} {kw : List (Str × Value)}
    (F : FnG X.prog X.w X.K X.mg X.base CX k f fd ps sp) (hr : Room k X.A) (hg : X.A.guards = some []) (hx : Passes CX X E)
    (I : Inv X pins σ H s) (hb : ws.length = ps.length → BindsTo s fd ⟨us, kw⟩ (ps.zip ws)) (r : Vals vs ws) (h : sp vs H Q E) :
    wpAny (model X.prog X.w) X.A (call (.ref f) us kw) (EP X pins σ Q) X.xe s := by
  have n1 : ws.length = ps.length := by
    have n2 := F.cnt _ _ _ _ h
    have n3 := r.length
    omega
  have c := F.go X.A X.stack s H ⟨us, kw⟩ ws vs Q E hr hg I.env0 (hb n1) r h
  refine wpAny_call (codeAny_mono c ?_)
  intro res s' hq
  cases res with
  | error ex => exact hx pins σ H s ex s' I hq
  | ok fl =>
    cases fl with
    | ret u => exact Inv.after I hq
    | next => exact hq.elim
    | brk => exact hq.elim
    | cont => exact hq.elim
theorem pe_callGd (F : FnG X.prog X.w X.K X.mg X.base CX k f fd ps sp) (hr : Room k X.A) (gu : X.A.guards = some [])
    (hg : Gl X x) (hm : X.mg x = some (.ref f)) (hk : PySem.W.keepIn X.K (.ref f) = true) (hb : Binds X.K fd ps [])
    (hx : Passes CX X E) (ha : PA X (e :: es) t) (hdb : (x == ("__debug__" : Str)) = false := by decide)
    (he : starEach (e :: es) X.env = (false, eval e X.env) :: starEach es X.env := by rfl)
    (hpl : (backTo pos (starEach es X.env)).any (·.1) = false := by rfl) :
    PE X (.Call (.Name x p) (e :: es) [] pos) (tCall sp [] E t) := by
  constructor
  intro pins s σ H Q I h
  refine wpAny_Call_Name_kw (ld_glob I hg hm ?_ hdb)
  refine PySem.W.callWith_K (h₀ := X.base) I.ok.mod.kin hk ?_ he hpl
  refine thn (ha.run pos pins s σ H _ I h) ?_
  intro us s1 hh
  obtain ⟨vs, H1, I1, r, q⟩ := hh
  refine ⟨I1.kIn, ?_⟩
  have q' : sp vs H1 Q E := by
    have z : vs ++ ([] : List V) = vs := List.append_nil vs
    rw [← z]
    exact q
  refine callG F hr gu hx I1 (fun n => ?_) r q'
  have hb1 := hb s1 us I1.kIn (by rw [List.append_nil]; exact n)
  rw [List.append_nil] at hb1
  exact hb1
end
section
variable {X : Cx} {CX : CXT} {k : Nat} {f : Addr} {fd : FuncData} {ps ks : List Str} {sp : Sp} {E : XK} {x : Str}
  {p pos : Pos} {kws : List Keyword} {tk : TA} {g : List Value → List Value → List Value} {gV : List V → List V → List V}
/-- f(a = .., b = ..): keywords alone -/
theorem pe_callKW (F : FnOk X.prog X.w X.K X.mg X.base CX k f fd ps sp) (hr : Room k X.A) (hg : Gl X x)
    (hm : X.mg x = some (.ref f)) (hk : PySem.W.keepIn X.K (.ref f) = true) (hb : KBinds X.K fd ps ks g gV) (hx : Passes CX X E)
    (hkw : PK X kws tk) (hall : (backToKw pos (keywordEach kws X.env)).all (·.1.isSome) = true := by rfl)
    (hks : (backToKw pos (keywordEach kws X.env)).filterMap (·.1) = ks := by rfl)
    (hdb : (x == ("__debug__" : Str)) = false := by decide)
    (hpl : ((backTo pos (starEach [] X.env)).any (·.1) || (backToKw pos (keywordEach kws X.env)).any (·.1.isNone)) = false := by rfl) :
    PE X (.Call (.Name x p) [] kws pos) (tCallK sp gV E tNil tk) := by
  constructor
  intro pins s σ H Q I h
  refine wpAny_Call_Name_kw (ld_glob I hg hm ?_ hdb)
  refine PySem.W.callWith_KW0 (h₀ := X.base) I.ok.mod.kin hk hall ?_ hpl
  refine thn (hkw.run pos pins s σ H _ I h) ?_
  intro ws s1 hh
  obtain ⟨zs, H1, I1, rz, q⟩ := hh
  refine ⟨I1.kIn, ?_⟩
  rw [hks]
  exact run_fnk (us := []) F hr hb hx I1 .nil rz q
end
end Ws

set_option Elab.async false
set_option linter.all false
set_option maxRecDepth 100000
set_option maxHeartbeats 4000000
namespace Ws
open PySem PySem.Spec PyProof.Rows L2
/-! ### what a caller has of a def -/
structure DefOk (P : Program) (w : World) (K : PySem.W.Frag) (mg : Str → Option Value) (base : Heap) (CX : CXT) (k : Nat)
    (x : Str) (f : Addr) (fd : FuncData) (ps : List Str) (sp : Sp) : Prop where
  ok : FnOk P w K mg base CX k f fd ps sp
  g : mg x = some (.ref f)
  kp : PySem.W.keepIn K (.ref f) = true
  b : Binds K fd ps []
structure DefG (P : Program) (w : World) (K : PySem.W.Frag) (mg : Str → Option Value) (base : Heap) (CX : CXT) (k : Nat)
    (x : Str) (f : Addr) (fd : FuncData) (ps : List Str) (sp : Sp) : Prop where
  ok : FnG P w K mg base CX k f fd ps sp
  g : mg x = some (.ref f)
  kp : PySem.W.keepIn K (.ref f) = true
  b : Binds K fd ps []
section
variable {X : Cx} {k j : Nat} {f : Addr} {fd : FuncData} {ps ks : List Str} {sp : Sp} {x : Str}
  {p pos : Pos} {e : Expr} {es : List Expr} {kws : List Keyword} {t tk : TA}
theorem pc (D : DefOk X.prog X.w X.K X.mg X.base CX0 k x f fd ps sp) (hr : Room j X.A) (ha : PA X (e :: es) t)
    (hkj : k ≤ j := by decide) (hg : Gl X x := by rfl) (hdb : (x == ("__debug__" : Str)) = false := by decide)
    (he : starEach (e :: es) X.env = (false, eval e X.env) :: starEach es X.env := by rfl)
    (hpl : (backTo pos (starEach es X.env)).any (·.1) = false := by rfl) :
    PE X (.Call (.Name x p) (e :: es) [] pos) (tCall sp [] E0 t) :=
  pe_call D.ok (hr.mono hkj) hg D.g D.kp D.b .nil pass0 ha hdb he hpl
theorem pg (D : DefG X.prog X.w X.K X.mg X.base CX0 k x f fd ps sp) (hr : Room j X.A) (gu : X.A.guards = some []) (ha : PA X (e :: es) t)
    (hkj : k ≤ j := by decide) (hg : Gl X x := by rfl) (hdb : (x == ("__debug__" : Str)) = false := by decide)
    (he : starEach (e :: es) X.env = (false, eval e X.env) :: starEach es X.env := by rfl)
    (hpl : (backTo pos (starEach es X.env)).any (·.1) = false := by rfl) :
    PE X (.Call (.Name x p) (e :: es) [] pos) (tCall sp [] E0 t) :=
  pe_callGd D.ok (hr.mono hkj) gu hg D.g D.kp D.b pass0 ha hdb he hpl
variable {g : List Value → List Value → List Value} {gV : List V → List V → List V}
theorem pckw (D : DefOk X.prog X.w X.K X.mg X.base CX0 k x f fd ps sp) (hr : Room j X.A) (hb : KBinds X.K fd ps ks g gV) (hkw : PK X kws tk)
    (hkj : k ≤ j := by decide) (hg : Gl X x := by rfl)
    (hall : (backToKw pos (keywordEach kws X.env)).all (·.1.isSome) = true := by rfl)
    (hks : (backToKw pos (keywordEach kws X.env)).filterMap (·.1) = ks := by rfl)
    (hdb : (x == ("__debug__" : Str)) = false := by decide)
    (hpl : ((backTo pos (starEach [] X.env)).any (·.1) || (backToKw pos (keywordEach kws X.env)).any (·.1.isNone)) = false := by rfl) :
    PE X (.Call (.Name x p) [] kws pos) (tCallK sp gV E0 tNil tk) :=
  pe_callKW D.ok (hr.mono hkj) hg D.g D.kp hb pass0 hkw hall hks hdb hpl
end
/-! ### repr of data -/
section
mutual
theorem Dp.plain {K : PySem.W.Frag} {H : Hp} : ∀ (d : PyData) (v : V), Dp K H v d → d.hasDict = false
  | .none, _, _ => by simp only [PyData.hasDict]
  | .bool _, _, _ => by simp only [PyData.hasDict]
  | .int _, _, _ => by simp only [PyData.hasDict]
  | .str _, _, _ => by simp only [PyData.hasDict]
  | .list ds, _, h => by
    cases h with
    | lst hs ha =>
      simp only [PyData.hasDict]
      exact DpAll.plain ds _ ha
  | .tuple ds, _, h => by
    cases h with
    | tup hs ha =>
      simp only [PyData.hasDict]
      exact DpAll.plain ds _ ha
  | .dict _, _, h => by cases h
theorem DpAll.plain {K : PySem.W.Frag} {H : Hp} : ∀ (ds : List PyData) (vs : List V), DpAll K H vs ds → PyData.hasDictAll ds = false
  | [], _, _ => by simp only [PyData.hasDictAll]
  | d :: ds, _, h => by
    cases h with
    | cons h1 h2 =>
      simp only [PyData.hasDictAll, Dp.plain d _ h1, DpAll.plain ds _ h2]
      rfl
end
variable {X : Cx}
/-- what may be printed -/
def Shw (d : PyData) : Prop := d.showable = true ∧ d.shown.length ≤ sizeLine ∧ d.depth ≤ 60
def rRepr (K : PySem.W.Frag) : List V → Hp → VK → Prop := fun xs H Q => ∃ x d, xs = [x] ∧ Dp K H x d ∧ Shw d ∧ Q (.str d.shown) H
theorem call_reprD (hg : X.A.guards = some []) (hu : X.A.units + 64 < cLine) : CallR X (.builtin "repr") (rRepr X.K) := by
  intro pins s σ H xs us Q I r h
  obtain ⟨x, d, rfl, hd, ⟨hs, hz, hp⟩, q⟩ := h
  obtain ⟨u, rfl, ru⟩ := vals1 r
  have nd : d.hasDict = false := Dp.plain d x hd
  cases d with
  | none =>
    cases hd
    cases ru
    rw [PyData.shown_none] at q
    exact PySem.P.repr_of_none ⟨.str _, H, I.tok _, ⟨_, rfl⟩, q⟩
  | bool b =>
    cases hd
    cases ru
    rw [PyData.shown_bool] at q
    refine PySem.P.repr_of_bool ⟨.str _, H, I.tok _, ⟨s.toks, ?_⟩, q⟩
    cases b <;> rfl
  | int i =>
    cases hd
    obtain ⟨t, rfl⟩ := ru
    rw [PyData.shown_int] at q
    have h1 : i.natAbs.log2 < 1920 := by simpa [PyData.showable] using hs
    exact PySem.P.repr_of_int h1 ⟨.str _, H, I.tok _, ⟨_, rfl⟩, q⟩
  | str y =>
    cases hd
    obtain ⟨t, rfl⟩ := ru
    rw [PyData.shown_str] at q hz
    exact PySem.P.repr_of_str ⟨.str _, H, I.tok _, ⟨_, rfl⟩, q⟩ hz
  | list ds =>
    obtain ⟨as, rd⟩ := Dp.reads I _ x u hd ru
    cases hd
    cases ru
    refine repr_of_reads' rd hs (fun z => by rw [nd] at z; cases z) hg (by omega) (fun _ _ z => z) (fun h' w' tk hk => ?_) hz
    exact ⟨.str _, H, I.kept hk, ⟨_, rfl⟩, q⟩
  | tuple ds =>
    obtain ⟨as, rd⟩ := Dp.reads I _ x u hd ru
    cases hd
    cases ru
    refine repr_of_reads' rd hs (fun z => by rw [nd] at z; cases z) hg (by omega) (fun _ _ z => z) (fun h' w' tk hk => ?_) hz
    exact ⟨.str _, H, I.kept hk, ⟨_, rfl⟩, q⟩
  | dict kvs => cases hd
end
/-! ### list(range(a, b, c)) -/
section
variable {X : Cx} {a b c : Expr} {ta : TA}
def rgC (i c : Int) (n : Nat) : List V := (List.range n).map fun m => V.int (i + (m : Nat) * c)
theorem rgC_len (i c : Int) (n : Nat) : (rgC i c n).length = n := by
  unfold rgC
  rw [List.length_map, List.length_range]
def tLstR3 (ta : TA) : TE := fun σ H Q => ta σ H fun vs H1 => ∃ (i j k : Int) (n : Nat), vs = [.int i, .int j, .int k] ∧ RgC i j k n ∧ n ≤ 100000 ∧
  ∀ q, H1 q = none → Q (.ref q) (upd H1 q (.lst (rgC i k n)))
theorem pe_listR3 {p1 p2 q1 q2 : Pos} (hc : X.calm = true) (hgl : Gl X "list") (hml : X.mg "list" = none) (hg : Gl X "range") (hm : X.mg "range" = none)
    (ha : PA X [a, b, c] ta) (hs : starEach [a, b, c] X.env = (false, eval a X.env) :: starEach [b, c] X.env := by rfl)
    (hpl : (backTo q2 (starEach [b, c] X.env)).any (·.1) = false := by rfl)
    (na : starEach [Expr.Call (.Name "range" q1) [a, b, c] [] q2] X.env = (false, eval (Expr.Call (.Name "range" q1) [a, b, c] [] q2) X.env) :: starEach [] X.env := by rfl) :
    PE X (.Call (.Name "list" p1) [.Call (.Name "range" q1) [a, b, c] [] q2] [] p2) (tLstR3 ta) := by
  constructor
  intro pins s σ H Q I h
  refine Call_ (ld_blt I hgl hml boot_list (PyProof.Rows.callWith_type1 (args_cons ?_ na) na))
  refine Call_ (ld_blt I hg hm boot_range (PyProof.Rows.callWith_type1 (thn (ha.run q2 pins s σ H _ I h) ?_) hs hpl))
  intro us s1 hh
  obtain ⟨vs, H1, I1, r1, i, j, m, n, e, ok, hn, q⟩ := hh
  subst e
  obtain ⟨u1, us1, rfl, t1, rfl, r2⟩ : ∃ u1 us1, us = u1 :: us1 ∧ ∃ t, u1 = Value.int i t ∧ Vals [.int j, .int m] us1 := by
    cases r1 with
    | cons r rr => exact ⟨_, _, rfl, r.choose, r.choose_spec, rr⟩
  obtain ⟨u2, u3, rfl, ⟨t2, rfl⟩, ⟨t3, rfl⟩⟩ := vals2 r2
  obtain ⟨c0, c1, c2, c3⟩ := ok
  refine call_range_3 c0 (args_nil ?_) (.inl (PyProof.noPylong_small c1))
  have I2 : Inv X pins σ H1 { s1 with heap := s1.heap.push { cls := .type "range", data := .fields #[.int i t1, .int j t2, .int m t3] } } :=
    I1.kept (t' := s1.toks) fun b o e => Heap.get?_push_of_some _ e
  refine call_list_range (n := n) (I2.ok.hd hc) (IsRange.new ..) c2 c3 (by omega) ?_
  intro h' tk acc c' hk e' hi
  have el : acc.toList.length = n := by
    rw [Array.length_toList]
    exact hi.1
  have hv : Vals (rgC i m n) acc.toList := by
    unfold rgC
    rw [← el]
    refine vals_of_get acc.toList _ ?_
    intro z u hz
    obtain ⟨t, rfl⟩ := hi.2 z u (by rw [← hz, Array.getElem?_toList])
    exact ⟨t, rfl⟩
  have ob : ∀ G : Hp, ObjOk X.prog X.w G h' _ (.lst (rgC i m n)) := fun G =>
    ⟨by rw [rgC_len, sizeLine_eq]; omega, acc.toList, c', hv, by rw [Array.toArray_toList]; exact e'⟩
  exact ⟨.ref _, _, I2.laid hk (Nat.le_refl _) (ob _), rfl, q _ (I2.hok.fresh (Nat.le_refl _))⟩
end
end Ws

set_option Elab.async false
set_option linter.all false
set_option maxRecDepth 100000
set_option maxHeartbeats 4000000
namespace Ws
open PySem PySem.Spec PyProof.Rows L2
section
variable {P : Program} {w : World} {K : PySem.W.Frag} {mg mb : Str → Option Value} {k : Nat} {fa a : Addr} {fd : FuncData} {x : Str} {sp : Sp}
  {s1 : Shared} {vs : List Value} {ns : List Int}
/-- the law's call, from a heap that tracks the script or nothing -/
theorem law_from (KX : K.In s1.heap) (hns : s1.heap.Ns mainGlobals mg) (hb : s1.heap.Ns builtinsNs mb)
    (hbb : ∀ x : Str, x ≠ "__name__" → mb x = bootBuiltins x) (lim : s1.heap.NoLimit) (hg : s1.gens = #[])
    (ha : s1.heap.get? a = some { cls := .type "list", data := .seq vs.toArray }) (hr : Room k callerA)
    (F : ∀ base : Heap, K.In base → base.Ns mainGlobals mg → FnG P w K mg base CX0 k fa fd [x] sp)
    (hbind : ∀ (s : Shared) (u : Value), BindsTo s fd ⟨[u], []⟩ [(x, u)])
    (H : Hp) (hO : Only H) (hQ : sp [.ref a] H (fun v _ => v = .bl true) (fun _ _ _ => False)) (hok : HOk P w H s1.heap)
    (hA : ∀ b, H b ≠ none → b = a) (hK : H a ≠ none → K.lookup a = none) :
    codeAny (model P w) callerA (.call (.ref fa) ⟨[.ref a], []⟩)
      (fun r s' => r = .ok (.ret (.bool true)) ∧ PySem.OldK s1.heap s'.heap ∧ s'.os = s1.os ∧ AllBare s'.gens) s1 := by
  have inB : ∀ {b : Addr} {o : Obj}, s1.heap.get? b = some o → H b = none → (hidT s1.heap H).get? b = some o :=
    fun q n => hidT_get q n
  -- a namespace is no list
  have dictOut : ∀ {b : Addr} {o : Obj} {es : Array DictEntry} {ep : Nat}, s1.heap.get? b = some o → o.data = .dict es ep → H b = none := by
    intro b o es ep q dd
    by_cases z : H b = none
    · exact z
    · have eb := hA b z
      subst eb
      rw [ha] at q
      cases q
      cases (show Data.seq vs.toArray _ = Data.dict es ep from dd)
  have nsB : ∀ {b : Addr} {m : Str → Option Value}, s1.heap.Ns b m → (hidT s1.heap H).Ns b m := by
    rintro b m ⟨o, es, ep, q, dd, r⟩
    exact ⟨o, es, ep, inB q (dictOut q dd), dd, r⟩
  have kB : K.In (hidT s1.heap H) := by
    intro b o q
    refine inB (KX b o q) ?_
    by_cases z : H b = none
    · exact z
    · have eb := hA b z
      subst eb
      rw [hK z] at q
      cases q
  have limB : (hidT s1.heap H).NoLimit := by
    obtain ⟨mc, h1, h2⟩ := lim
    exact ⟨mc, nsB h1, h2⟩
  have e0 : Env0 P w K mg (hidT s1.heap H) callerA [] s1 H := by
    refine ⟨rfl, ⟨kB, nsB hns, ⟨mb, nsB hb, hbb⟩, limB⟩, fun b o q => of_hidT q, Nat.le_of_eq (hidT_size _ _), trivial, ?_, hok, .of_eq hg⟩
    intro b q
    cases (show b ∈ ([] : List Addr) from q)
  have c := (F _ kB (nsB hns)).go callerA [] s1 H ⟨[.ref a], []⟩ [.ref a] [.ref a] _ _ hr rfl e0 (hbind s1 (.ref a)) (.cons rfl .nil) hQ
  refine codeAny_mono c ?_
  intro r s' h
  cases r with
  | error e => exact h.elim
  | ok fl =>
    cases fl with
    | next => exact h.elim
    | brk => exact h.elim
    | cont => exact h.elim
    | ret u =>
      obtain ⟨v, H', os, bare, un, hok', rv, q⟩ := h
      have qv : v = .bl true := q
      subst qv
      obtain rfl : u = Value.bool true := rv
      refine ⟨rfl, PySem.OldK.of_keep ?_, os, bare⟩
      intro b o q
      cases z : H b with
      | none =>
        refine un.keep b o q z ?_ ?_
        · intro y
          cases (show b ∈ ([] : List Addr) from y)
        · intro y
          cases y
      | some u =>
        cases hO b with
        | inl y => rw [z] at y; cases y
        | inr y =>
          obtain ⟨ob, xs, y⟩ := y
          have y2 := un.frzs b ob _ y
          have g1 : s1.heap.get? b = some ob := (hok b _ y).1
          have g2 : s'.heap.get? b = some ob := (hok' b _ y2).1
          rw [q] at g1
          cases g1
          exact g2
theorem law_to (KX : K.In s1.heap) (hns : s1.heap.Ns mainGlobals mg) (hb : s1.heap.Ns builtinsNs mb)
    (hbb : ∀ x : Str, x ≠ "__name__" → mb x = bootBuiltins x) (lim : s1.heap.NoLimit) (hg : s1.gens = #[])
    (ha : s1.heap.get? a = some { cls := .type "list", data := .seq vs.toArray }) (hi : IntsAre vs ns) (hl : ns.length ≤ sizeLine) (hr : Room k callerA)
    (F : ∀ base : Heap, K.In base → base.Ns mainGlobals mg → FnG P w K mg base CX0 k fa fd [x] sp)
    (hbind : ∀ (s : Shared) (u : Value), BindsTo s fd ⟨[u], []⟩ [(x, u)])
    (hsp : ∀ H : Hp, Only H → SqL K H a (ns.map V.int) → sp [.ref a] H (fun v _ => v = .bl true) (fun _ _ _ => False)) :
    codeAny (model P w) callerA (.call (.ref fa) ⟨[.ref a], []⟩)
      (fun r s' => r = .ok (.ret (.bool true)) ∧ PySem.OldK s1.heap s'.heap ∧ s'.os = s1.os ∧ AllBare s'.gens) s1 := by
  have rv : Vals (ns.map V.int) vs := vals_of_ints hi
  have n1 : vs.length = ns.length := hi.length
  cases hk : K.lookup a with
  | some o =>
    have q := KX a o hk
    rw [ha] at q
    cases q
    have sq : SqL K (fun _ => none) a (ns.map V.int) := by
      refine Or.inr ⟨_, vs.toArray, _, hk, rfl, rfl, rfl, ?_, ?_⟩
      · rw [List.size_toArray, n1]
        exact hl
      · simpa using rv
    refine law_from KX hns hb hbb lim hg ha hr F hbind (fun _ => none) (fun _ => .inl rfl) (hsp _ (fun _ => .inl rfl) sq) ?_ ?_ ?_
    · intro b u z
      cases (show (none : Option HO) = some u from z)
    · intro b z
      exact absurd rfl z
    · intro z
      exact absurd rfl z
  | none =>
    let o1 : Obj := { cls := .type "list", data := .seq vs.toArray }
    let H0 : Hp := fun b => if b = a then some (.frz o1 (.lst (ns.map V.int))) else none
    have at1 : H0 a = some (.frz o1 (.lst (ns.map V.int))) := if_pos rfl
    have out1 : ∀ b, b ≠ a → H0 b = none := fun b n => if_neg n
    have only : Only H0 := by
      intro b
      by_cases z : b = a
      · rw [z]
        exact .inr ⟨_, _, at1⟩
      · exact .inl (out1 b z)
    refine law_from KX hns hb hbb lim hg ha hr F hbind H0 only (hsp _ only (.inl (.inr ⟨o1, at1⟩))) ?_ ?_ (fun _ => hk)
    · intro b u z
      by_cases y : b = a
      · subst y
        rw [at1] at z
        cases z
        refine ⟨ha, ?_, vs, _, rv, ha⟩
        rw [List.length_map]
        exact hl
      · rw [out1 b y] at z
        cases z
    · intro b z
      by_cases y : b = a
      · exact y
      · exact absurd (out1 b y) z
end
/-- the goal that the head leaves, from the guarded promise of the law -/
theorem walkG {l : PySem.W.OpenLaw} {n k : Nat} {q : Program} {loose : List Str} {XP : (Str → Option Value) → Heap → Prop} {YP : World → Heap → Prop}
    {d : DefRec} {K : Params → PySem.W.Frag} {CX : World → CXT} {sp : World → Sp} {x : Str}
    (hn : l.most = some n) (hn2 : n ≤ sizeLine) (hdf : d.params.defaults = []) (hr : Room k callerA)
    (hY : ∀ (w : World) (h : Heap), YP w h → (K w.params).In h)
    (F : ∀ (w : World) (mg : Str → Option Value) (fa : Addr) (h : Heap), (K w.params).In h → h.Ns mainGlobals mg → mg d.name = some (.ref fa) →
      ∃ fd : FuncData, (∀ (s : Shared) (u : Value), BindsTo s fd ⟨[u], []⟩ [(x, u)]) ∧
        ∀ base : Heap, (K w.params).In base → base.Ns mainGlobals mg → FnG l.prog w (K w.params) mg base CX0 k fa fd [x] (sp w))
    (hsp : ∀ (w : World) (H : Hp) (a : Addr) (ns : List Int), ns.length ≤ n → Only H → SqL (K w.params) H a (ns.map V.int) →
      sp w [.ref a] H (fun v _ => v = .bl true) fun _ _ _ => False)
    (_hCX : ∀ (w : World) (H : Hp) (s : Shared) (e : Value) (s' : Shared), CX w [] H s (fun _ _ _ => False) e s' → CX w [] H s (fun _ _ _ => False) e s') :
    PySem.W.WalkO q loose XP YP l.row.toRowW d [] (fun f vs => PySem.call f vs) := by
  refine Att.attach_call hn hdf ?_
  intro w s0 s1 mg mb fa o pm cd doc a vs ns G Y ho hd hcd hmg hobj hints hlen hg
  have KX := hY w _ Y
  obtain ⟨fd, hb, hF⟩ := F w mg fa _ KX G.T.g hmg
  exact law_to KX G.T.g G.T.b G.T.builtins G.T.nolimit hg hobj hints (Nat.le_trans hlen hn2) hr hF hb (fun H hO hS => hsp w H a ns hlen hO hS)
end Ws

set_option Elab.async false
set_option linter.all false
set_option maxRecDepth 100000
set_option maxHeartbeats 4000000
namespace Ws
open PySem PySem.Spec PyProof.Rows L2
/-! ### the end of a law by one run in the kernel, its facts told by names -/
/-- names that are built-in functions of a module -/
def bsB (bs : List (Str × String)) (K : PySem.W.Frag) : Bool := bs.all fun p => decide (PySem.W.nsIn K mainGlobals p.1 = some (some (.builtin p.2)))
def obsK (fa : List He.Fa) (fn : List He.DefD) (bs : List (Str × String)) (K : PySem.W.Frag) : Bool × He.AlD := (bsB bs K, He.obsD fa fn K)
def hookB (n : Nat) (fa : List He.Fa) (fn : List He.DefD) (bs : List (Str × String)) : PySem.W.Hook where
  α := Bool × He.AlD
  obs := fun s => obsK fa fn bs (He.frG s.heap.get? (He.asD s.heap.get? n))
  val := fun _ => (true, He.valD fn)
  says := fun _ h => ∃ K : PySem.W.Frag, K.In h ∧ He.SaysD fa fn K ∧ bsB bs K = true
  of := fun _ _ e => ⟨_, He.frG_in, congrArg Prod.snd e, congrArg Prod.fst e⟩
  keeps := fun _ _ _ ⟨K, a, b, c⟩ k => ⟨K, fun x o q => k x o (a x o q), b, c⟩
def obB (n : Nat) (fa : List He.Fa) (fn : List He.DefD) (bs : List (Str × String)) (s : PySem.W.SharedT) : Bool × He.AlD := obsK fa fn bs (He.frG (HandSHeadRun.getT s) (He.asD (HandSHeadRun.getT s) n))
theorem obB_eq (n : Nat) (fa : List He.Fa) (fn : List He.DefD) (bs : List (Str × String)) (s : PySem.W.SharedT) : obB n fa fn bs s = (hookB n fa fn bs).obs s.abs := by
  have e : HandSHeadRun.getT s = s.abs.heap.get? := funext (HandSHeadRun.getT_eq s)
  unfold obB
  rw [e]
  rfl
section
variable {K : PySem.W.Frag} {h : Heap} {mg : Str → Option Value}
theorem bsB_ok (X : K.In h) (G : h.Ns mainGlobals mg) {bs : List (Str × String)} (c : bsB bs K = true) (i : Nat) {p : Str × String} (e : bs[i]? = some p) : mg p.1 = some (.builtin p.2) := by
  unfold bsB at c
  exact PySem.W.mg_of X G (of_decide_eq_true (List.all_eq_true.mp c p (List.mem_of_getElem? e)))
/-- a def without defaults -/
theorem fun_of {x qual : Str} {st : Stmt} {f : Addr} {fd : FuncData} (F : FunD K x qual (defArgs st) (defBody st) (defScope st) [] [] f fd) : L2.Fun K x qual st f fd := by
  obtain ⟨oc, od, dV, kV, doc, pm, an, cdv, ct, osl, e, l, c, d, _⟩ := F.ex
  rcases d with ⟨_, rfl⟩ | ⟨n, _⟩
  · exact ⟨⟨oc, od, kV, doc, pm, an, cdv, ct, osl, e, l, c⟩, F.kp⟩
  · exact absurd rfl n
end
/-- the run, looked at three times -/
theorem run3 {r : PySem.W.OpenRow} {q : Program} {n : Nat} {fa : List He.Fa} {fn : List He.DefD} {bs : List (Str × String)} {M : Nat} {loose : List Str} {w : World}
    (h1 : (HandSHeadRun.wholeF (fun p => HandSHeadRun.stepQ (HandSHeadRun.denQ HandSHeadRun.tabQ) p w) HandSHeadRun.fenceQ M r.prog).map (fun x => HandSHeadRun.looksF r.prog x.fst.heap x.snd.abs) = some true)
    (h2 : (HandSHeadRun.wholeF (fun p => HandSHeadRun.stepQ (HandSHeadRun.denQ HandSHeadRun.tabQ) p w) HandSHeadRun.fenceQ M r.prog).map (fun x => HandSHeadRun.seenQ q loose (PySem.importedModules r.prog.main.body) (fun s => PySem.W.xlAt q [] s && PySem.W.recOk r.records s) x.snd.abs) = some (PySem.W.openGood q loose))
    (h3 : (HandSHeadRun.wholeF (fun p => HandSHeadRun.stepQ (HandSHeadRun.denQ HandSHeadRun.tabQ) p w) HandSHeadRun.fenceQ M r.prog).map (fun x => obB n fa fn bs x.snd) = some (true, He.valD fn)) :
    HandSHeadRun.RunEqI r q (hookB n fa fn bs) (obB n fa fn bs) M loose w := by
  unfold HandSHeadRun.RunEqI
  obtain ⟨x, e, a⟩ := Option.map_eq_some_iff.mp h1
  rw [e] at h2 h3 ⊢
  exact congrArg some (Prod.ext a (Prod.ext (Option.some.inj h2) (Option.some.inj h3)))
/-- the goal that the head leaves, what the top has left told for each heap -/
theorem walkGE {l : PySem.W.OpenLaw} {n k : Nat} {q : Program} {loose : List Str} {XP : (Str → Option Value) → Heap → Prop} {YP : World → Heap → Prop}
    {d : DefRec} {x : Str} (hn : l.most = some n) (hn2 : n ≤ sizeLine) (hdf : d.params.defaults = []) (hr : Room k callerA)
    (F : ∀ (w : World) (mg : Str → Option Value) (fa : Addr) (h : Heap), YP w h → h.Ns mainGlobals mg → mg d.name = some (.ref fa) →
      ∃ (K : PySem.W.Frag) (fd : FuncData) (sp : Sp), K.In h ∧ (∀ (s : Shared) (u : Value), BindsTo s fd ⟨[u], []⟩ [(x, u)]) ∧
        (∀ (H : Hp) (a : Addr) (ns : List Int), ns.length ≤ n → Only H → SqL K H a (ns.map V.int) → sp [.ref a] H (fun v _ => v = .bl true) fun _ _ _ => False) ∧
        ∀ base : Heap, K.In base → base.Ns mainGlobals mg → FnG l.prog w K mg base CX0 k fa fd [x] sp) :
    PySem.W.WalkO q loose XP YP l.row.toRowW d [] (fun f vs => PySem.call f vs) := by
  refine Att.attach_call hn hdf ?_
  intro w s0 s1 mg mb fa o pm cd doc a vs ns G Y ho hd hcd hmg hobj hints hlen hg
  obtain ⟨K, fd, sp, KX, hb, hsp, hF⟩ := F w mg fa _ Y G.T.g hmg
  exact law_to KX G.T.g G.T.b G.T.builtins G.T.nolimit hg hobj hints (Nat.le_trans hlen hn2) hr hF hb (fun H hO hS => hsp H a ns hlen hO hS)
end Ws

set_option Elab.async false
set_option linter.all false
set_option maxRecDepth 100000
set_option maxHeartbeats 4000000
namespace K14
open PySem PySem.Spec PyProof.Rows L2 Ws
def topS (i : Nat) : Stmt := PySem.Challenge.pw_weeksums_k14_levels_of_great_numbers.main.body.getD i (.Pass ⟨0, 0, 0, 0⟩)
abbrev s__law_jar : Stmt := topS 38
abbrev s__law_dip : Stmt := topS 39
abbrev s__law_size : Stmt := topS 44
abbrev s__law_top : Stmt := topS 42
abbrev s__law_high : Stmt := topS 43
abbrev s__law_gaps : Stmt := topS 45
abbrev s__law_ends : Stmt := topS 48
abbrev s__law_due : Stmt := topS 49
abbrev s_is_integer : Stmt := topS 11
abbrev s_is_row : Stmt := topS 13
abbrev s_check_row_of_sums : Stmt := topS 14
abbrev s_is_within : Stmt := topS 12
abbrev s_check_sums : Stmt := topS 15
abbrev s_check_most : Stmt := topS 16
abbrev s_check_told : Stmt := topS 21
abbrev s_offsets_of : Stmt := topS 18
abbrev s_first_apart : Stmt := topS 24
abbrev s_lowest_days : Stmt := topS 25
abbrev s_total_at : Stmt := topS 19
abbrev s_highest_days : Stmt := topS 26
abbrev s_find_conflict : Stmt := topS 23
abbrev s_need_way : Stmt := topS 22
abbrev s_least_high : Stmt := topS 35
abbrev s_greatest_low : Stmt := topS 36
abbrev s_widest_tie : Stmt := topS 34
abbrev s_least_spread : Stmt := topS 31
abbrev s_floor_of : Stmt := topS 33
abbrev s_greatest_floor : Stmt := topS 30
abbrev s_peak_of : Stmt := topS 32
abbrev s_least_peak : Stmt := topS 28
abbrev s_peak_paper : Stmt := topS 29
abbrev s__law_right : Stmt := topS 50
abbrev s__law_sums : Stmt := topS 40
abbrev s__law_days : Stmt := topS 41
abbrev s_law : Stmt := topS 51
def fn0 : List He.DefD := [⟨("_law_jar", none), "_law_jar", "_law_jar", defArgs s__law_jar, defBody s__law_jar, defScope s__law_jar, [], []⟩, ⟨("_law_dip", none), "_law_dip", "_law_dip", defArgs s__law_dip, defBody s__law_dip, defScope s__law_dip, [], []⟩, ⟨("_law_size", none), "_law_size", "_law_size", defArgs s__law_size, defBody s__law_size, defScope s__law_size, [], []⟩, ⟨("_law_top", none), "_law_top", "_law_top", defArgs s__law_top, defBody s__law_top, defScope s__law_top, [], []⟩, ⟨("_law_high", none), "_law_high", "_law_high", defArgs s__law_high, defBody s__law_high, defScope s__law_high, [], []⟩, ⟨("_law_gaps", none), "_law_gaps", "_law_gaps", defArgs s__law_gaps, defBody s__law_gaps, defScope s__law_gaps, [], []⟩, ⟨("_law_ends", none), "_law_ends", "_law_ends", defArgs s__law_ends, defBody s__law_ends, defScope s__law_ends, [], []⟩, ⟨("_law_due", none), "_law_due", "_law_due", defArgs s__law_due, defBody s__law_due, defScope s__law_due, [], []⟩, ⟨("is_integer", none), "is_integer", "is_integer", defArgs s_is_integer, defBody s_is_integer, defScope s_is_integer, [], []⟩, ⟨("is_row", none), "is_row", "is_row", defArgs s_is_row, defBody s_is_row, defScope s_is_row, [], []⟩]
def fn1 : List He.DefD := [⟨("check_row_of_sums", none), "check_row_of_sums", "check_row_of_sums", defArgs s_check_row_of_sums, defBody s_check_row_of_sums, defScope s_check_row_of_sums, [], []⟩, ⟨("is_within", none), "is_within", "is_within", defArgs s_is_within, defBody s_is_within, defScope s_is_within, [], []⟩, ⟨("check_sums", none), "check_sums", "check_sums", defArgs s_check_sums, defBody s_check_sums, defScope s_check_sums, [], []⟩, ⟨("check_most", none), "check_most", "check_most", defArgs s_check_most, defBody s_check_most, defScope s_check_most, [], []⟩, ⟨("check_told", none), "check_told", "check_told", defArgs s_check_told, defBody s_check_told, defScope s_check_told, [], []⟩, ⟨("offsets_of", none), "offsets_of", "offsets_of", defArgs s_offsets_of, defBody s_offsets_of, defScope s_offsets_of, [], []⟩, ⟨("first_apart", none), "first_apart", "first_apart", defArgs s_first_apart, defBody s_first_apart, defScope s_first_apart, [], []⟩, ⟨("lowest_days", none), "lowest_days", "lowest_days", defArgs s_lowest_days, defBody s_lowest_days, defScope s_lowest_days, [], []⟩, ⟨("total_at", none), "total_at", "total_at", defArgs s_total_at, defBody s_total_at, defScope s_total_at, [], []⟩, ⟨("highest_days", none), "highest_days", "highest_days", defArgs s_highest_days, defBody s_highest_days, defScope s_highest_days, [], []⟩]
def fn2 : List He.DefD := [⟨("find_conflict", none), "find_conflict", "find_conflict", defArgs s_find_conflict, defBody s_find_conflict, defScope s_find_conflict, [], []⟩, ⟨("need_way", none), "need_way", "need_way", defArgs s_need_way, defBody s_need_way, defScope s_need_way, [], []⟩, ⟨("least_high", none), "least_high", "least_high", defArgs s_least_high, defBody s_least_high, defScope s_least_high, [], []⟩, ⟨("greatest_low", none), "greatest_low", "greatest_low", defArgs s_greatest_low, defBody s_greatest_low, defScope s_greatest_low, [], []⟩, ⟨("widest_tie", none), "widest_tie", "widest_tie", defArgs s_widest_tie, defBody s_widest_tie, defScope s_widest_tie, [], []⟩, ⟨("least_spread", none), "least_spread", "least_spread", defArgs s_least_spread, defBody s_least_spread, defScope s_least_spread, [], []⟩, ⟨("floor_of", none), "floor_of", "floor_of", defArgs s_floor_of, defBody s_floor_of, defScope s_floor_of, [], []⟩, ⟨("greatest_floor", none), "greatest_floor", "greatest_floor", defArgs s_greatest_floor, defBody s_greatest_floor, defScope s_greatest_floor, [], []⟩, ⟨("peak_of", none), "peak_of", "peak_of", defArgs s_peak_of, defBody s_peak_of, defScope s_peak_of, [], []⟩, ⟨("least_peak", none), "least_peak", "least_peak", defArgs s_least_peak, defBody s_least_peak, defScope s_least_peak, [], []⟩]
def fn3 : List He.DefD := [⟨("peak_paper", none), "peak_paper", "peak_paper", defArgs s_peak_paper, defBody s_peak_paper, defScope s_peak_paper, [], []⟩, ⟨("_law_right", none), "_law_right", "_law_right", defArgs s__law_right, defBody s__law_right, defScope s__law_right, [], []⟩, ⟨("_law_sums", none), "_law_sums", "_law_sums", defArgs s__law_sums, defBody s__law_sums, defScope s__law_sums, [], []⟩, ⟨("_law_days", none), "_law_days", "_law_days", defArgs s__law_days, defBody s__law_days, defScope s__law_days, [], []⟩, ⟨("law", none), "law", "law", defArgs s_law, defBody s_law, defScope s_law, [], []⟩]
def fn : List He.DefD := fn0 ++ fn1 ++ fn2 ++ fn3
def fa0 : List He.Fa := [.glo "_law_jar", .glo "_law_dip", .glo "_law_size", .glo "_law_top", .glo "_law_high", .glo "_law_gaps", .glo "_law_ends", .glo "_law_due", .glo "is_integer", .glo "is_row", .glo "check_row_of_sums", .glo "is_within", .glo "check_sums", .glo "check_most", .glo "check_told", .glo "offsets_of", .glo "first_apart", .glo "lowest_days", .glo "total_at", .glo "highest_days"]
def fa1 : List He.Fa := [.glo "find_conflict", .glo "need_way", .glo "least_high", .glo "greatest_low", .glo "widest_tie", .glo "least_spread", .glo "floor_of", .glo "greatest_floor", .glo "peak_of", .glo "least_peak", .glo "peak_paper", .glo "_law_right", .glo "_law_sums", .glo "_law_days", .glo "law", .free "abs", .free "all", .free "bool", .free "int", .free "isinstance"]
def fa2 : List He.Fa := [.free "len", .free "list", .free "max", .free "min", .free "range", .free "repr", .free "sorted", .free "sum", .free "type", .int "GREATEST_COUNT" 67, .int "GREATEST_LENGTH" 8, .int "GREATEST_MOST" 999999999999999999999999999999]
def fa : List He.Fa := fa0 ++ fa1 ++ fa2
def bs : List (Str × String) := []
def nm0 : List Str := ["__name__", "copy_of", "SumError", "InvalidSums", "InvalidLength", "InvalidMost", "Impossible", "GREATEST_COUNT", "GREATEST_LENGTH", "GREATEST_MOST", "is_integer", "is_within", "is_row", "check_row_of_sums", "check_sums", "check_most", "offsets_of", "total_at", "check_told", "need_way", "find_conflict", "first_apart", "lowest_days", "highest_days", "least_peak", "peak_paper", "greatest_floor", "least_spread", "peak_of", "floor_of"]
def nm1 : List Str := ["widest_tie", "least_high", "greatest_low", "_law_jar", "_law_dip", "_law_sums", "_law_days", "_law_top", "_law_high", "_law_size", "_law_gaps", "_law_box", "_law_fits", "_law_ends", "_law_due", "_law_right"]
def nm : List Str := nm0 ++ nm1
abbrev R : PySem.W.OpenRow := PySem.W.OpenLaw.row PySem.Challenge.rw_weeksums_k14_levels_of_great_numbers
theorem run1 (w : World) : (HandSHeadRun.wholeF (fun p => HandSHeadRun.stepQ (HandSHeadRun.denQ HandSHeadRun.tabQ) p w) HandSHeadRun.fenceQ 20000 R.prog).map (fun x => HandSHeadRun.looksF R.prog x.fst.heap x.snd.abs) = some true := by
  kernel_rfl
theorem run2 (w : World) : (HandSHeadRun.wholeF (fun p => HandSHeadRun.stepQ (HandSHeadRun.denQ HandSHeadRun.tabQ) p w) HandSHeadRun.fenceQ 20000 R.prog).map (fun x => HandSHeadRun.seenQ (PySem.W.view R.prog [51]) nm (PySem.importedModules R.prog.main.body) (fun s => PySem.W.xlAt (PySem.W.view R.prog [51]) [] s && PySem.W.recOk R.records s) x.snd.abs) = some (PySem.W.openGood (PySem.W.view R.prog [51]) nm) := by
  kernel_rfl
theorem run3 (w : World) : (HandSHeadRun.wholeF (fun p => HandSHeadRun.stepQ (HandSHeadRun.denQ HandSHeadRun.tabQ) p w) HandSHeadRun.fenceQ 20000 R.prog).map (fun x => Ws.obB 2 fa fn bs x.snd) = some (true, He.valD fn) := by
  kernel_rfl
theorem run (w : World) : HandSHeadRun.RunEqI R (PySem.W.view R.prog [51]) (Ws.hookB 2 fa fn bs) (Ws.obB 2 fa fn bs) 20000 nm w := Ws.run3 (run1 w) (run2 w) (run3 w)
end K14

set_option Elab.async false
set_option linter.all false
set_option maxRecDepth 100000
set_option maxHeartbeats 4000000
namespace Ws
open PySem PySem.Spec PyProof.Rows L2
/-! ### heaps: all but one object that changes -/
def cut (J : Addr) (H : Hp) : Hp := fun b => if b = J then none else H b
theorem cut_at {J : Addr} {H : Hp} : cut J H J = none := if_pos rfl
theorem cut_ne {J b : Addr} {H : Hp} (h : b ≠ J) : cut J H b = H b := if_neg h
theorem cut_some {J b : Addr} {H : Hp} {o : HO} (h : cut J H b = some o) : b ≠ J ∧ H b = some o := by
  by_cases e : b = J
  · rw [e, cut_at] at h
    cases h
  · rw [cut_ne e] at h
    exact ⟨e, h⟩
theorem cut_sub {J : Addr} {H : Hp} : Same (cut J H) H := fun _ _ h => (cut_some h).2
theorem cut_mono {J : Addr} {H H' : Hp} (s : Same H H') : Same (cut J H) (cut J H') := fun b o h => by
  obtain ⟨n, e⟩ := cut_some h
  rw [cut_ne n]
  exact s b o e
/-- all but the object at J stands as it stood -/
def Fr (J : Addr) (H H' : Hp) : Prop := Same (cut J H) (cut J H')
theorem Fr.refl {J : Addr} {H : Hp} : Fr J H H := Same.refl _
theorem Fr.trans {J : Addr} {H H1 H2 : Hp} (a : Fr J H H1) (b : Fr J H1 H2) : Fr J H H2 := Same.trans a b
theorem Fr.of {J : Addr} {H H' : Hp} (s : Same H H') : Fr J H H' := cut_mono s
theorem Fr.put {J : Addr} {H H' : Hp} {o : HO} (s : Fr J H H') : Fr J H (upd H' J o) := fun b u h => by
  have h1 := s b u h
  obtain ⟨n, e⟩ := cut_some h1
  rw [cut_ne n, upd_ne n]
  exact e
theorem cut_none {J p : Addr} {H : Hp} (h : H p = none) : cut J H p = none := by
  unfold cut
  split
  · rfl
  · exact h
theorem Fr.free {J p : Addr} {H H' : Hp} (s : Fr J H H') (h : H' p = none) (n : p ≠ J) : H p = none := by
  cases z : H p with
  | none => rfl
  | some o =>
    have e := s p o (by rw [cut_ne n]; exact z)
    rw [cut_ne n, h] at e
    cases e
theorem Fr.mut {J p : Addr} {H H' : Hp} {o : HO} (s : Fr J H H') (h : H p = none) : Fr J H (upd H' p o) := fun b u e => by
  have e2 := s b u e
  have n : b ≠ p := ne_of_none e (cut_none h)
  have m := (cut_some e2).1
  rw [cut_ne m] at e2 ⊢
  rw [upd_ne n]
  exact e2
theorem Fr.get {J p : Addr} {H H' : Hp} {o : HO} (s : Fr J H H') (n : p ≠ J) (h : H p = some o) : H' p = some o := (cut_some (s p o (by rw [cut_ne n]; exact h))).2
theorem Same.new {H : Hp} {p : Addr} {o : HO} (h : H p = none) : Same H (upd H p o) := fun b u e => by
  rw [upd_ne (ne_of_none e h)]
  exact e
/-- an object that H does not know may change -/
theorem Same.mut {H H' : Hp} {p : Addr} {o : HO} (s : Same H H') (h : H p = none) : Same H (upd H' p o) := fun b u e => by
  rw [upd_ne (ne_of_none e h)]
  exact s b u e
theorem SqL.up {K : PySem.W.Frag} {J a : Addr} {H H' : Hp} {xs : List V} (s : Fr J H H') (h : SqL K (cut J H) a xs) : SqL K (cut J H') a xs := Same.seq s h
theorem SqL.in {K : PySem.W.Frag} {J a : Addr} {H : Hp} {xs : List V} (h : SqL K (cut J H) a xs) : SqL K H a xs := Same.seq cut_sub h
/-! ### the jar of drawn digits -/
/-- the jar at J: what is left of the cell, the mixing number, how often it was mixed (at most n times) -/
def Jar (H : Hp) (J : Addr) (n : Int) : Prop := ∃ a b c : Int, H J = some (.lst [.int a, .int b, .int c]) ∧ 0 ≤ a ∧ 0 ≤ b ∧ b < 2 ^ 300 ∧ 0 ≤ c ∧ c ≤ n
theorem Jar.mono {H : Hp} {J : Addr} {n m : Int} (h : Jar H J n) (l : n ≤ m) : Jar H J m := by
  obtain ⟨a, b, c, h1, h2, h3, h4, h5, h6⟩ := h
  exact ⟨a, b, c, h1, h2, h3, h4, h5, by omega⟩
theorem Jar.same {H H' : Hp} {J : Addr} {n : Int} (h : Jar H J n) (s : Same H H') : Jar H' J n := by
  obtain ⟨a, b, c, h1, h2⟩ := h
  exact ⟨a, b, c, s _ _ h1, h2⟩
theorem Jar.new {H : Hp} {J p : Addr} {n : Int} {o : HO} (h : Jar H J n) (hp : H p = none) : Jar (upd H p o) J n := h.same (Same.new hp)
theorem Jar.ex {H : Hp} {J p : Addr} {n : Int} {o : HO} (h : Jar H J n) (hp : p ≠ J) : Jar (upd H p o) J n := by
  obtain ⟨a, b, c, h1, h2⟩ := h
  exact ⟨a, b, c, by rw [upd_ne hp.symm]; exact h1, h2⟩
theorem Jar.out {H : Hp} {J p : Addr} {n : Int} (h : Jar H J n) (hp : H p = none) : p ≠ J := by
  obtain ⟨a, b, c, h1, _⟩ := h
  exact (ne_of_none h1 hp).symm
theorem at0 {α : Type} {a b c : α} : atI [a, b, c] 0 = some a := rfl
theorem at1 {α : Type} {a b c : α} : atI [a, b, c] 1 = some b := rfl
theorem at2 {α : Type} {a b c : α} : atI [a, b, c] 2 = some c := rfl
theorem lt_log {i : Int} {n : Nat} (hn : 0 < n) (h0 : 0 ≤ i) (h : i < 2 ^ n) : i.natAbs.log2 < n := by
  refine PySem.Flt.log2_lt_of hn ?_
  have e : ((2 ^ n : Nat) : Int) = (2 : Int) ^ n := by rw [Int.natCast_pow]; rfl
  omega
theorem powOk {i j : Int} {n : Nat} (h0 : 0 ≤ i) (h : i < 2 ^ n) (hn : 0 < n) (hb : n ≤ 2000000) (j0 : 0 ≤ j) (j1 : j ≤ 60) : PowOk i j := ⟨j0, j1, by
  have := lt_log hn h0 h
  omega⟩
theorem mulOk {i j : Int} {n m : Nat} (h0 : 0 ≤ i) (h : i < 2 ^ n) (hn : 0 < n) (j0 : 0 ≤ j) (hj : j < 2 ^ m) (hm : 0 < m) (hb : n + m ≤ 1000000) : CMulW i j := by
  have a := lt_log hn h0 h
  have b := lt_log hm j0 hj
  unfold CMulW
  omega
theorem divOk {i j : Int} {n : Nat} (h0 : 0 < j) (h : j < 2 ^ n) (hn : 0 < n) (hb : n ≤ 9000) : CDivW i j := ⟨h0, by
  have := lt_log hn (by omega) h
  omega⟩
/-- one digit -/
def spDip : Sp := fun vs H Q _ => ∃ (J : Addr) (m n : Int), vs = [.ref J, .int m] ∧ Jar H J n ∧ n ≤ 1000000000 ∧ 0 < m ∧ m < 2 ^ 8000 ∧
  ∀ H' d, Fr J H H' → Jar H' J (n + 1) → 0 ≤ d → d < m → Q (.int d) H'
end Ws

set_option Elab.async false
set_option linter.all false
set_option maxRecDepth 100000
set_option maxHeartbeats 4000000
namespace Ws
open PySem PySem.Spec PyProof.Rows L2
def spJar (K : PySem.W.Frag) : Sp := fun vs H Q _ => ∃ (a : Addr) (ns : List Int) (k : Int), vs = [.ref a, .int k] ∧ SqL K H a (ns.map V.int) ∧ 0 ≤ k ∧ k ≤ 1000 ∧
  ∀ H' p, Same H H' → H p = none → Jar H' p 0 → Q (.ref p) H'
/-! ### sums over a window -/
def wsums (ns : List Int) (k : Nat) : List Int := (List.range (ns.length + 1 - k)).map fun j => ((ns.drop j).take k).sum
theorem wsums_len (ns : List Int) (k : Nat) : (wsums ns k).length = ns.length + 1 - k := by
  unfold wsums
  rw [List.length_map, List.length_range]
theorem wsums_get {ns : List Int} {k j : Nat} (h : j < ns.length + 1 - k) : (wsums ns k)[j]? = some (((ns.drop j).take k).sum) := by
  unfold wsums
  rw [List.getElem?_map, List.getElem?_range h]
  rfl
theorem take_next {α : Type} {l : List α} {i : Nat} {x : α} (h : l[i]? = some x) : l.take (i + 1) = l.take i ++ [x] := by
  rw [List.take_add_one, h]
  rfl
theorem sum_snoc (l : List Int) (x : Int) : (l ++ [x]).sum = l.sum + x := by
  rw [List.sum_append_int]
  simp
theorem win_next {ns : List Int} {i t : Nat} {x : Int} (h : ns[i + t]? = some x) : ((ns.drop i).take (t + 1)).sum = ((ns.drop i).take t).sum + x := by
  have e : (ns.drop i)[t]? = some x := by
    rw [List.getElem?_drop]
    exact h
  rw [take_next e, sum_snoc]
theorem map_take_snoc {ns : List Int} {i : Nat} {x : Int} (h : ns[i]? = some x) : (ns.take (i + 1)).map V.int = (ns.take i).map V.int ++ [V.int x] := by
  rw [take_next h, List.map_append]
  rfl
theorem at_int {ns : List Int} {z : Int} {j : Nat} {x : Int} (e : z = (j : Int)) (h : ns[j]? = some x) : atI (ns.map V.int) z = some (.int x) := by
  refine at_of e ?_
  rw [List.getElem?_map, h]
  rfl
def spSums (K : PySem.W.Frag) : Sp := fun vs H Q _ => ∃ (a : Addr) (ns : List Int) (k : Int), vs = [.ref a, .int k] ∧ SqL K H a (ns.map V.int) ∧
  1 ≤ k ∧ k ≤ ns.length ∧ ns.length ≤ 1000 ∧
  ∀ H' p, Same H H' → H p = none → H' p = some (.lst ((wsums ns k.toNat).map V.int)) → Q (.ref p) H'
/-! ### drawn numbers -/
/-- all ints of a list within bounds -/
def Btw (lo hi : Int) (ns : List Int) : Prop := ∀ x ∈ ns, lo ≤ x ∧ x ≤ hi
theorem Btw.nil {lo hi : Int} : Btw lo hi [] := fun _ h => by cases h
theorem Btw.snoc {lo hi : Int} {ns : List Int} {x : Int} (h : Btw lo hi ns) (h0 : lo ≤ x) (h1 : x ≤ hi) : Btw lo hi (ns ++ [x]) := fun y hy => by
  rcases List.mem_append.mp hy with z | z
  · exact h y z
  · rw [List.mem_singleton.mp z]
    exact ⟨h0, h1⟩
def spDays : Sp := fun vs H Q _ => ∃ (J : Addr) (m t n : Int), vs = [.ref J, .int m, .int t] ∧ Jar H J n ∧ n ≤ 900000000 ∧ 0 ≤ m ∧ m ≤ 1000 ∧ 0 ≤ t ∧ t < 2 ^ 200 ∧
  ∀ H' p ns, Fr J H H' → Jar H' J (n + 2 * m + 1) → H p = none → H' p = some (.lst (ns.map V.int)) → ns.length = m.toNat → Btw 0 t ns → Q (.ref p) H'
def spTop : Sp := fun vs H Q _ => ∃ (J : Addr) (n : Int), vs = [.ref J] ∧ Jar H J n ∧ n ≤ 900000000 ∧
  ∀ H' t, Fr J H H' → Jar H' J (n + 2) → 0 ≤ t → t < 10 ^ 30 → Q (.int t) H'
def spHigh : Sp := fun vs H Q _ => ∃ (J : Addr) (q n : Int), vs = [.ref J, .int q] ∧ Jar H J n ∧ n ≤ 900000000 ∧ 1 ≤ q ∧ q ≤ 1000 ∧
  ∀ H' t, Fr J H H' → Jar H' J (n + 2) → 0 ≤ t → t < 10 ^ 30 → (t ≤ 10 ^ 6 ∨ t * q < 10 ^ 30) → Q (.int t) H'
def spSize : Sp := fun vs H Q _ => ∃ (J : Addr) (m n : Int), vs = [.ref J, .int m] ∧ Jar H J n ∧ n ≤ 900000000 ∧ 8 ≤ m ∧ m ≤ 1000 ∧
  ∀ H' p (k c : Int), Fr J H H' → Jar H' J (n + 2) → H p = none → H' p = some (.tup [.int k, .int c]) → 1 ≤ k → k ≤ 8 → k ≤ c → c ≤ m → Q (.ref p) H'
end Ws

set_option Elab.async false
set_option linter.all false
set_option maxRecDepth 100000
set_option maxHeartbeats 4000000
namespace Ws
open PySem PySem.Spec PyProof.Rows L2
/-! ### rules that speak of the written part by its own name -/
section
variable {X : Cx} {K : PySem.W.Frag}
theorem ixL (h : X.K = K := by rfl) : IxR X (rIxL K) := by
  subst h
  exact ix_list
theorem ixT (h : X.K = K := by rfl) : IxR X (rIxT K) := by
  subst h
  exact ix_tup
def rLen1 (K : PySem.W.Frag) : List V → Hp → VK → Prop := fun xs H Q => ∃ p ys, xs = [.ref p] ∧ SqL K H p ys ∧ Q (.int ys.length) H
theorem lenL (h : X.K = K := by rfl) : CallR X (.builtin "len") (rLen1 K) := by
  subst h
  intro pins s σ H xs us Q I r q
  obtain ⟨p, ys, e, h1, q⟩ := q
  exact call_len_seq pins s σ H xs us Q I r ⟨p, ys, e, .inl h1, q⟩
theorem sumL (hc : X.calm = true) (h : X.K = K := by rfl) : CallR X (.builtin "sum") (rSum K) := by
  subst h
  exact cr_sum hc
theorem allL (hc : X.calm = true) (h : X.K = K := by rfl) : CallR X (.builtin "all") (rAll K) := by
  subst h
  exact cr_all hc
theorem anyL (hc : X.calm = true) (h : X.K = K := by rfl) : CallR X (.builtin "any") (rAny K) := by
  subst h
  exact cr_any hc
theorem maxL (hc : X.calm = true) (h : X.K = K := by rfl) : CallR X (.builtin "max") (rMax K) := by
  subst h
  exact cr_max hc
theorem minL (hc : X.calm = true) (h : X.K = K := by rfl) : CallR X (.builtin "min") (rMin K) := by
  subst h
  exact cr_min hc
theorem sortL (h : X.K = K := by rfl) : CallR X (.builtin "sorted") (rSortedI K) := by
  subst h
  exact cr_sortedI
theorem reprL (hg : X.A.guards = some []) (hu : X.A.units + 64 < cLine) (h : X.K = K := by rfl) : CallR X (.builtin "repr") (rRepr K) := by
  subst h
  exact call_reprD hg hu
def rList1 (K : PySem.W.Frag) : List V → Hp → VK → Prop := fun xs H Q => ∃ p ys, xs = [.ref p] ∧ SqL K H p ys ∧ ∀ l, H l = none → Q (.ref l) (upd H l (.lst ys))
theorem listL (h : X.K = K := by rfl) : CallR X (.type "list") (rList1 K) := by
  subst h
  intro pins s σ H xs us Q I r q
  obtain ⟨p, ys, e, h1, q⟩ := q
  exact call_list_of pins s σ H xs us Q I r ⟨p, ys, e, .inl h1, q⟩
def rTup1 (K : PySem.W.Frag) : List V → Hp → VK → Prop := fun xs H Q => ∃ p ys, xs = [.ref p] ∧ SqL K H p ys ∧ ∀ l, H l = none → Q (.ref l) (upd H l (.tup ys))
theorem tupL (h : X.K = K := by rfl) : CallR X (.type "tuple") (rTup1 K) := by
  subst h
  intro pins s σ H xs us Q I r q
  obtain ⟨p, ys, e, h1, q⟩ := q
  exact call_tuple_of pins s σ H xs us Q I r ⟨p, ys, e, .inl ⟨h1, q⟩⟩
def rInt1 : List V → Hp → VK → Prop := fun xs H Q => ∃ i, xs = [.int i] ∧ Q (.int i) H
theorem intI : CallR X (.type "int") rInt1 := by
  intro pins s σ H xs us Q I r q
  exact call_int1 pins s σ H xs us Q I r (.inl q)
def rIntB : List V → Hp → VK → Prop := fun xs H Q => ∃ k, xs = [.bl k] ∧ Q (.int (if k then 1 else 0)) H
theorem intB : CallR X (.type "int") rIntB := by
  intro pins s σ H xs us Q I r q
  exact call_int1 pins s σ H xs us Q I r (.inr q)
theorem typL (h : X.K = K := by rfl) : CallR X (.type "type") (rTyp K) := by
  subst h
  exact call_type1
theorem isiL (h : X.K = K := by rfl) : CallR X (.builtin "isinstance") (rIsi K) := by
  subst h
  exact call_isi
theorem slL (h : X.K = K := by rfl) : SlR X (rSlL K) := by
  subst h
  exact sl_list
theorem slT (h : X.K = K := by rfl) : SlR X (rSlT K) := by
  subst h
  exact sl_tup
theorem eqL (hu : X.A.units + 64 < cLine) (h : X.K = K := by rfl) : OpR X (compareOp .Eq) (rEqD K) := by
  subst h
  exact op_eqD hu
theorem neL (hu : X.A.units + 64 < cLine) (h : X.K = K := by rfl) : OpR X (compareOp .NotEq) (rNeD K) := by
  subst h
  exact op_neD hu
theorem inL (h : X.K = K := by rfl) : OpR X (compareOp .In) (rIn K false) := by
  subst h
  exact op_in_seq
theorem niL (h : X.K = K := by rfl) : OpR X (compareOp .NotIn) (rIn K true) := by
  subst h
  exact op_notIn_seq
theorem piL {tg l : Expr} {tl : TE} (hl : PE X l tl) (h : X.K = K := by rfl) : PI X tg l (iList K tl) := by
  subst h
  exact pi_list hl
theorem piT {tg l : Expr} {tl : TE} (hl : PE X l tl) (h : X.K = K := by rfl) : PI X tg l (iTup K tl) := by
  subst h
  exact pi_tup hl
theorem pgT {es : List Expr} {k : Nat} {t : TGs} {n : Nat} {pos : Pos} (hc : X.calm = true) (ht : PGs X es t) (h : X.K = K := by rfl)
    (hn : (assignEach es X.env).length = n := by rfl) (hst : (assignEach es X.env).findIdx? (·.1) = none := by rfl) : PG X (.Tuple es k pos) (gTup K n t) := by
  subst h
  exact pg_tup hc ht hn hst
theorem bmK {e : Expr} {ty : String} {r : V → List V → Hp → VK → Prop} {to : TE} {ta : TA} (b : PE X e (tBM X.K ty r to ta)) (h : X.K = K := by rfl) : PE X e (tBM K ty r to ta) := by
  subst h
  exact b
theorem bm0K {e : Expr} {ty : String} {r : V → List V → Hp → VK → Prop} {to : TE} (b : PE X e (tBM0 X.K ty r to)) (h : X.K = K := by rfl) : PE X e (tBM0 K ty r to) := by
  subst h
  exact b
end
end Ws

set_option Elab.async false
set_option linter.all false
set_option maxRecDepth 100000
set_option maxHeartbeats 4000000
namespace Ws
open PySem PySem.Spec PyProof.Rows L2
/-! ### whether a thing is an integer -/
def whole : V → Bool
  | .int _ => true
  | _ => false
/-- the type of x answers so -/
def Ti (K : PySem.W.Frag) (H : Hp) (x : V) (b : Bool) : Prop := ∃ (t : Value) (c d : Bool), TyX K H x t ∧ PySem.W.kitOne K t (.type "int") = some c ∧
  (c = true → PySem.W.kitOne K t (.type "bool") = some d) ∧ b = (c && !d)
theorem Ti.int {K : PySem.W.Frag} {H : Hp} (i : Int) : Ti K H (.int i) true :=
  ⟨_, true, false, .base (.int i), kit_ty (by decide +kernel), fun _ => kit_ty (by decide +kernel), rfl⟩
theorem Ti.bl {K : PySem.W.Frag} {H : Hp} (i : Bool) : Ti K H (.bl i) false :=
  ⟨_, true, true, .base (.bl i), kit_ty (by decide +kernel), fun _ => kit_ty (by decide +kernel), rfl⟩
theorem Ti.no {K : PySem.W.Frag} {H : Hp} {x : V} {t : Value} (h : TyX K H x t) (e : PySem.W.kitOne K t (.type "int") = some false) : Ti K H x false :=
  ⟨t, false, false, h, e, (fun z => by cases z), rfl⟩
theorem Ti.non {K : PySem.W.Frag} {H : Hp} : Ti K H .non false := Ti.no (.base .non) (kit_ty (by decide +kernel))
theorem Ti.str {K : PySem.W.Frag} {H : Hp} (x : Str) : Ti K H (.str x) false := Ti.no (.base (.str x)) (kit_ty (by decide +kernel))
def spIsInt (K : PySem.W.Frag) : Sp := fun vs H Q _ => ∃ (x : V) (b : Bool), vs = [x] ∧ Ti K H x b ∧ Q (.bl b) H
def spWithin (K : PySem.W.Frag) : Sp := fun vs H Q _ => (∃ i lo hi : Int, vs = [.int i, .int lo, .int hi] ∧ Q (.bl (decide (lo ≤ i) && decide (i ≤ hi))) H) ∨
  ∃ (x : V) (lo hi : Int), vs = [x, .int lo, .int hi] ∧ Ti K H x false ∧ Q (.bl false) H
/-- a list of which each item is known to be an integer or not; else another thing -/
def spIsRow (K : PySem.W.Frag) : Sp := fun vs H Q _ => (∃ (a : Addr) (xs : List V), vs = [.ref a] ∧ SqL K H a xs ∧ xs.length ≤ 1000 ∧ (∀ x ∈ xs, ∀ H', Same H H' → Ti K H' x (whole x)) ∧
    ∀ H', Same H H' → Q (.bl (decide (1 ≤ xs.length) && decide (xs.length ≤ 67) && xs.all whole)) H') ∨
  ∃ (x : V) (t : String), vs = [x] ∧ TyB K H x t ∧ t ≠ "list" ∧ Q (.bl false) H
theorem all_int (ns : List Int) : (ns.map V.int).all whole = true := by
  rw [List.all_eq_true]
  intro x hx
  obtain ⟨i, _, rfl⟩ := List.mem_map.mp hx
  rfl
theorem ti_ints {K : PySem.W.Frag} {H : Hp} {ns : List Int} : ∀ x ∈ ns.map V.int, ∀ H', Same H H' → Ti K H' x (whole x) := by
  intro x hx H' _
  obtain ⟨i, _, rfl⟩ := List.mem_map.mp hx
  exact Ti.int i
/-! ### valid arguments alone -/
def spNumsOk (K : PySem.W.Frag) : Sp := fun vs H Q _ => ∃ (a : Addr) (ns : List Int) (k : Int), vs = [.ref a, .int k] ∧ SqL K H a (ns.map V.int) ∧
  1 ≤ k ∧ k ≤ 8 ∧ k ≤ ns.length ∧ ns.length ≤ 67 ∧ ∀ H', Same H H' → Q .non H'
def spSumsOk (K : PySem.W.Frag) : Sp := fun vs H Q _ => ∃ (a : Addr) (ss : List Int) (k : Int), vs = [.ref a, .int k] ∧ SqL K H a (ss.map V.int) ∧
  1 ≤ ss.length ∧ 1 ≤ k ∧ k ≤ 8 ∧ k + ss.length ≤ 68 ∧ ∀ H', Same H H' → Q .non H'
def spDayOk : Sp := fun vs H Q _ => ∃ d n : Int, vs = [.int d, .int n] ∧ 0 ≤ d ∧ d < n ∧ Q .non H
def spSumsOf (K : PySem.W.Frag) : Sp := fun vs H Q _ => ∃ (a : Addr) (ns : List Int) (k : Int), vs = [.ref a, .int k] ∧ SqL K H a (ns.map V.int) ∧
  1 ≤ k ∧ k ≤ 8 ∧ k ≤ ns.length ∧ ns.length ≤ 67 ∧
  ∀ H' p, Same H H' → H p = none → H' p = some (.lst ((wsums ns k.toNat).map V.int)) → Q (.ref p) H'
def spRowSums (K : PySem.W.Frag) : Sp := fun vs H Q _ => ∃ (a : Addr) (ns : List Int) (k : Int), vs = [.ref a, .int k] ∧ SqL K H a (ns.map V.int) ∧
  1 ≤ k ∧ k ≤ 8 ∧ k ≤ ns.length ∧ ns.length ≤ 1000 ∧
  ∀ H' p, Same H H' → H p = none → H' p = some (.lst ((wsums ns k.toNat).map V.int)) → Q (.ref p) H'
def spDaysOf (K : PySem.W.Frag) : Sp := fun vs H Q _ => ∃ (a : Addr) (ss : List Int) (k : Int), vs = [.ref a, .int k] ∧ SqL K H a (ss.map V.int) ∧
  1 ≤ ss.length ∧ 1 ≤ k ∧ k ≤ 8 ∧ k + ss.length ≤ 68 ∧ ∀ H', Same H H' → Q (.int (ss.length + k - 1)) H'
/-- the days of one remainder below n -/
def tied (r k n : Int) : List Int := (List.range ((n - r - 1) / k + 1).toNat).map fun m => r + (m : Nat) * k
def spTied (K : PySem.W.Frag) : Sp := fun vs H Q _ => ∃ (a : Addr) (ss : List Int) (k d : Int), vs = [.ref a, .int k, .int d] ∧ SqL K H a (ss.map V.int) ∧
  1 ≤ ss.length ∧ 1 ≤ k ∧ k ≤ 8 ∧ k + ss.length ≤ 68 ∧ 0 ≤ d ∧ d < ss.length + k - 1 ∧
  ∀ H' p, Same H H' → H p = none → H' p = some (.lst ((tied (d % k) k (ss.length + k - 1)).map V.int)) → Q (.ref p) H'
theorem cut_window (ns : List Int) (i k : Nat) : cutV (ns.map V.int) (some (i : Int)) (some ((i + k : Nat) : Int)) = ((ns.drop i).take k).map V.int := by
  unfold cutV
  rw [HT.sIx_nat, HT.sIx_nat, List.length_map, List.map_take, List.map_drop]
  by_cases h : i ≤ ns.length
  · rw [Nat.min_eq_left h]
    by_cases h2 : i + k ≤ ns.length
    · rw [Nat.min_eq_left h2]
      congr 1
      omega
    · rw [Nat.min_eq_right (by omega)]
      rw [List.take_of_length_le (i := ns.length - i), List.take_of_length_le (i := k)]
      · rw [List.length_drop, List.length_map]; omega
      · rw [List.length_drop, List.length_map]; omega
  · have e1 : min i ns.length = ns.length := by omega
    have e2 : min (i + k) ns.length = ns.length := by omega
    rw [e1, e2, Nat.sub_self, List.drop_of_length_le (i := i) (by rw [List.length_map]; omega)]
    simp
theorem rg_tied {r k n : Int} (h0 : 0 ≤ r) (hr : r < n) (hn : n ≤ 1000) (hk : 1 ≤ k) (hk8 : k ≤ 8) : RgC r n k ((n - r - 1) / k + 1).toNat := by
  have e : (0 : Int) ≤ (n - r - 1) / k := Int.ediv_nonneg (by omega) (by omega)
  refine ⟨by omega, by omega, ?_, ?_⟩
  · have hb : (n - r - 1) / k ≤ n - r - 1 := Int.ediv_le_self k (by omega)
    have h1 : (n - r - 1) / k * k ≤ n - r - 1 := Int.ediv_mul_le _ (by omega)
    have fit : ∀ x : Int, -100000 ≤ x → x ≤ 100000 → Builtin.Range.rangeFitsLong x = true := fun x a b => by
      unfold Builtin.Range.rangeFitsLong
      simp only [Bool.and_eq_true, decide_eq_true_eq]
      omega
    unfold Builtin.Range.small
    have es : Builtin.Range.rangeSize r n k = (n - r - 1) / k + 1 := by
      unfold Builtin.Range.rangeSize
      rw [if_pos (by omega), if_pos hr]
    rw [es, fit r (by omega) (by omega), fit n (by omega) (by omega), fit k (by omega) (by omega), fit _ (by omega) (by omega), if_pos (show k > 0 by omega), fit _ (by omega) (by omega)]
    simp
  · unfold Builtin.Range.rangeSize
    rw [if_pos (by omega), if_pos hr]
    omega
theorem rgC_tied (r k n : Int) : rgC r k ((n - r - 1) / k + 1).toNat = (tied r k n).map V.int := by
  unfold rgC tied
  rw [List.map_map]
  rfl
end Ws

set_option Elab.async false
set_option linter.all false
set_option maxRecDepth 100000
set_option maxHeartbeats 4000000
namespace Ws
open PySem PySem.Spec PyProof.Rows L2
/-! ### data that stand in a heap -/
mutual
theorem Dp.up {K : PySem.W.Frag} {H H' : Hp} (s : Same H H') : ∀ (d : PyData) (v : V), Dp K H v d → Dp K H' v d
  | .none, _, h => by cases h; exact .non
  | .bool _, _, h => by cases h; exact .bl _
  | .int _, _, h => by cases h; exact .int _
  | .str _, _, h => by cases h; exact .str _
  | .list ds, _, h => by
    cases h with
    | lst hs ha => exact .lst (Same.seq s hs) (DpAll.up s ds _ ha)
  | .tuple ds, _, h => by
    cases h with
    | tup hs ha => exact .tup (Evl.ex_t s hs) (DpAll.up s ds _ ha)
  | .dict _, _, h => by cases h
theorem DpAll.up {K : PySem.W.Frag} {H H' : Hp} (s : Same H H') : ∀ (ds : List PyData) (vs : List V), DpAll K H vs ds → DpAll K H' vs ds
  | [], _, h => by cases h; exact .nil
  | d :: ds, _, h => by
    cases h with
    | cons h1 h2 => exact .cons (Dp.up s d _ h1) (DpAll.up s ds _ h2)
end
theorem DpAll.ints {K : PySem.W.Frag} {H : Hp} : ∀ ns : List Int, DpAll K H (ns.map V.int) (ns.map PyData.int)
  | [] => .nil
  | n :: r => .cons (.int n) (DpAll.ints r)
theorem DpAll.strs {K : PySem.W.Frag} {H : Hp} : ∀ ns : List Str, DpAll K H (ns.map V.str) (ns.map PyData.str)
  | [] => .nil
  | n :: r => .cons (.str n) (DpAll.strs r)
abbrev dI (ns : List Int) : PyData := .list (ns.map PyData.int)
theorem Dp.ints {K : PySem.W.Frag} {H : Hp} {a : Addr} {ns : List Int} (h : SqL K H a (ns.map V.int)) : Dp K H (.ref a) (dI ns) := .lst h (DpAll.ints ns)
/-! ### how long a text of data is -/
mutual
def cst : PyData → Nat
  | .none => 8
  | .bool _ => 8
  | .int i => i.natAbs.log2 + 3
  | .str x => (reprText x).length
  | .list xs => cstA xs + 4
  | .tuple xs => cstA xs + 4
  | .dict _ => 0
def cstA : List PyData → Nat
  | [] => 0
  | x :: xs => cst x + 2 + cstA xs
end
theorem str_len_of (s : String) (h : s.length ≤ 8) : (Str.ofString s).length ≤ 8 := by
  rw [PySem.ofString_length]
  exact h
mutual
theorem shown_cst : ∀ d : PyData, d.hasDict = false → d.shown.length ≤ cst d
  | .none, _ => by
    rw [PyData.shown_none]
    show _ ≤ 8
    decide +kernel
  | .bool b, _ => by
    rw [PyData.shown_bool]
    show _ ≤ 8
    cases b <;> decide +kernel
  | .int i, _ => by
    rw [PyData.shown_int]
    show (Str.ofString (toString i)).length ≤ i.natAbs.log2 + 3
    rw [PySem.ofString_length]
    have := int_text_length_le (a := i) (k := i.natAbs.log2 + 1) (by omega) (by omega)
    omega
  | .str x, _ => by
    rw [PyData.shown_str]
    exact Nat.le_refl _
  | .list xs, h => by
    have h1 : PyData.hasDictAll xs = false := by simpa only [PyData.hasDict] using h
    have h2 := shownAll_cst xs h1
    have h3 := listText_len_le (PyData.shownAll xs)
    rw [PyData.shown_list, ← listText_eq_join]
    rw [PyData.shownAll_length] at h3
    show _ ≤ cstA xs + 4
    omega
  | .tuple xs, h => by
    have h1 : PyData.hasDictAll xs = false := by simpa only [PyData.hasDict] using h
    have h2 := shownAll_cst xs h1
    have h3 := tupleText_len_le (PyData.shownAll xs)
    have e : (PyData.tuple xs).shown = tupleText (PyData.shownAll xs) := by simp only [PyData.shown]
    rw [e]
    rw [PyData.shownAll_length] at h3
    show _ ≤ cstA xs + 4
    omega
  | .dict _, h => by simp [PyData.hasDict] at h
theorem shownAll_cst : ∀ xs : List PyData, PyData.hasDictAll xs = false → ((PyData.shownAll xs).map (·.length)).sum + 2 * xs.length ≤ cstA xs
  | [], _ => by
    rw [PyData.shownAll_nil]
    exact Nat.le_refl _
  | x :: xs, h => by
    have h1 : PyData.hasDict x = false ∧ PyData.hasDictAll xs = false := by simpa only [PyData.hasDictAll, Bool.or_eq_false_iff] using h
    have a := shown_cst x h1.1
    have b := shownAll_cst xs h1.2
    rw [PyData.shownAll_cons, List.map_cons, List.sum_cons, List.length_cons]
    show _ ≤ cst x + 2 + cstA xs
    omega
end
theorem shw_of {d : PyData} (h1 : d.showable = true) (h2 : d.hasDict = false) (h3 : cst d ≤ 10000000) (h4 : d.depth ≤ 60) : Shw d :=
  ⟨h1, Nat.le_trans (shown_cst d h2) (Nat.le_trans h3 (by rw [sizeLine_eq]; decide)), h4⟩
theorem hasDict_ints : ∀ ns : List Int, PyData.hasDictAll (ns.map PyData.int) = false
  | [] => by simp only [List.map_nil, PyData.hasDictAll]
  | n :: r => by
    rw [List.map_cons]
    simp only [PyData.hasDictAll, PyData.hasDict, hasDict_ints r]
    rfl
theorem depth_ints : ∀ ns : List Int, PyData.depthAll (ns.map PyData.int) = 0
  | [] => by simp only [List.map_nil, PyData.depthAll]
  | n :: r => by
    rw [List.map_cons]
    simp only [PyData.depthAll, PyData.depth, depth_ints r]
    rfl
theorem cst_ints {B : Nat} : ∀ ns : List Int, (∀ n ∈ ns, n.natAbs.log2 < B) → cstA (ns.map PyData.int) ≤ ns.length * (B + 5)
  | [], _ => Nat.zero_le _
  | n :: r, h => by
    have a := cst_ints r fun m hm => h m (List.mem_cons_of_mem _ hm)
    have b := h n List.mem_cons_self
    rw [List.map_cons, List.length_cons, Nat.add_mul, Nat.one_mul]
    show n.natAbs.log2 + 3 + 2 + cstA (r.map PyData.int) ≤ _
    omega
/-- all ints of a list below 2 ^ 1000 in size -/
def Sml (ns : List Int) : Prop := ∀ n ∈ ns, n.natAbs.log2 < 1000
theorem shw_ints {ns : List Int} (h : Sml ns) (hl : ns.length ≤ 1000) : Shw (dI ns) := by
  refine shw_of ?_ ?_ ?_ ?_
  · simp only [PyData.showable]
    exact PyData.showableAll_ints ns fun n hn => Nat.lt_trans (h n hn) (by decide)
  · simp only [PyData.hasDict]
    exact hasDict_ints ns
  · have := cst_ints ns h
    have e : ns.length * (1000 + 5) ≤ 1000 * 1005 := Nat.mul_le_mul hl (Nat.le_refl _)
    show cstA (ns.map PyData.int) + 4 ≤ _
    omega
  · show PyData.depthAll (ns.map PyData.int) + 1 ≤ 60
    rw [depth_ints]
    decide
theorem shw_int {n : Int} (h : n.natAbs.log2 < 1000) : Shw (.int n) := by
  refine shw_of ?_ rfl ?_ (by show 0 ≤ 60; decide)
  · simp only [PyData.showable]
    exact decide_eq_true (Nat.lt_trans h (by decide))
  · show n.natAbs.log2 + 3 ≤ _
    omega
theorem log_of {n : Int} {B : Nat} (hB : 0 < B) (h0 : -(2 ^ B) < n) (h1 : n < 2 ^ B) : n.natAbs.log2 < B := by
  refine PySem.Flt.log2_lt_of hB ?_
  have e : ((2 ^ B : Nat) : Int) = (2 : Int) ^ B := by rw [Int.natCast_pow]; rfl
  omega
theorem Sml.btw {lo hi : Int} {ns : List Int} (h : Btw lo hi ns) (h0 : -(2 ^ 1000) < lo) (h1 : hi < 2 ^ 1000) : Sml ns := fun n hn => by
  have := h n hn
  exact log_of (by decide) (by omega) (by omega)
/-! ### lists of ints compared -/
theorem eqvAll_ints : ∀ ns ms : List Int, PyData.eqvAll (ns.map PyData.int) (ms.map PyData.int) = decide (ns = ms)
  | [], [] => by simp [PyData.eqvAll]
  | [], m :: s => by simp [PyData.eqvAll]
  | n :: r, [] => by simp [PyData.eqvAll]
  | n :: r, m :: s => by
    rw [List.map_cons, List.map_cons, PyData.eqvAll, PyData.eqv, eqvAll_ints r s]
    rw [Bool.eq_iff_iff]
    simp
theorem eqv_ints (ns ms : List Int) : PyData.eqv (dI ns) (dI ms) = decide (ns = ms) := by
  rw [dI, dI, PyData.eqv, eqvAll_ints]
theorem shaped_ints (ns : List Int) : SeqAt.shaped (dI ns) = true := by
  unfold SeqAt.shaped
  have h1 : PyData.canLayAll0 (ns.map PyData.int) = true := by
    induction ns with
    | nil => simp [PyData.canLayAll0]
    | cons n r ih =>
      rw [List.map_cons]
      simp [PyData.canLayAll0, PyData.canLay0, ih]
  have h2 : (dI ns).depth = 1 := by
    show PyData.depthAll (ns.map PyData.int) + 1 = 1
    rw [depth_ints]
  have h3 : (dI ns).canLay0 = true := by simpa only [PyData.canLay0] using h1
  rw [h3, h2]
  rfl
end Ws

set_option Elab.async false
set_option linter.all false
set_option maxRecDepth 100000
set_option maxHeartbeats 4000000
namespace Ws
open PySem PySem.Spec PyProof.Rows L2
/-! ### mathematics of classes -/
theorem emod_le_self {d k : Int} (h : 0 ≤ d) (hk : 0 < k) : d % k ≤ d := by
  have h1 := Int.mul_ediv_add_emod d k
  have h2 : 0 ≤ k * (d / k) := Int.mul_nonneg (by omega) (Int.ediv_nonneg h (by omega))
  omega
theorem asc_ext : ∀ {xs ys : List Int}, xs.Pairwise (· < ·) → ys.Pairwise (· < ·) → (∀ z, z ∈ xs ↔ z ∈ ys) → xs = ys
  | [], [], _, _, _ => rfl
  | [], y :: s, _, _, h => by
    have := (h y).mpr List.mem_cons_self
    cases this
  | x :: r, [], _, _, h => by
    have := (h x).mp List.mem_cons_self
    cases this
  | x :: r, y :: s, hx, hy, h => by
    have hx1 := List.pairwise_cons.mp hx
    have hy1 := List.pairwise_cons.mp hy
    have e : x = y := by
      have a := (h x).mp List.mem_cons_self
      have b := (h y).mpr List.mem_cons_self
      rcases List.mem_cons.mp a with a | a
      · exact a
      · rcases List.mem_cons.mp b with b | b
        · exact b.symm
        · have := hx1.1 y b
          have := hy1.1 x a
          omega
    subst e
    have : r = s := by
      refine asc_ext hx1.2 hy1.2 fun z => ⟨fun a => ?_, fun a => ?_⟩
      · rcases List.mem_cons.mp ((h z).mp (List.mem_cons_of_mem _ a)) with b | b
        · have := hx1.1 z a
          omega
        · exact b
      · rcases List.mem_cons.mp ((h z).mpr (List.mem_cons_of_mem _ a)) with b | b
        · have := hy1.1 z a
          omega
        · exact b
    rw [this]
theorem pw_range_map {n : Nat} {f : Nat → Int} (h : ∀ i j, i < j → f i < f j) : ((List.range n).map f).Pairwise (· < ·) := by
  rw [List.pairwise_map]
  exact List.Pairwise.imp (fun q => h _ _ q) List.pairwise_lt_range
theorem tied_asc {r k n : Int} (hk : 1 ≤ k) : (tied r k n).Pairwise (· < ·) := by
  refine pw_range_map fun i j h => ?_
  have : ((i : Int) + 1) * k ≤ j * k := Int.mul_le_mul_of_nonneg_right (by omega) (by omega)
  rw [Int.add_mul] at this
  omega
theorem mem_tied {r k n z : Int} (h0 : 0 ≤ r) (hr : r < k) (hk : 1 ≤ k) (hn : r < n) : z ∈ tied r k n ↔ 0 ≤ z ∧ z < n ∧ z % k = r := by
  unfold tied
  rw [List.mem_map]
  have hd : (0 : Int) ≤ (n - r - 1) / k := Int.ediv_nonneg (by omega) (by omega)
  constructor
  · rintro ⟨m, hm, rfl⟩
    have hm2 := List.mem_range.mp hm
    have h1 : (m : Int) ≤ (n - r - 1) / k := by omega
    have h2 : (m : Int) * k ≤ (n - r - 1) / k * k := Int.mul_le_mul_of_nonneg_right h1 (by omega)
    have h3 : (n - r - 1) / k * k ≤ n - r - 1 := Int.ediv_mul_le _ (by omega)
    have h4 : 0 ≤ (m : Int) * k := Int.mul_nonneg (by omega) (by omega)
    refine ⟨by omega, by omega, ?_⟩
    rw [Int.add_mul_emod_self_right, Int.emod_eq_of_lt h0 hr]
  · rintro ⟨z0, zn, zr⟩
    have h1 := Int.mul_ediv_add_emod z k
    have h2 : 0 ≤ z / k := Int.ediv_nonneg z0 (by omega)
    refine ⟨(z / k).toNat, List.mem_range.mpr ?_, ?_⟩
    · have h3 : z / k * k ≤ n - r - 1 := by
        rw [Int.mul_comm]
        omega
      have h4 : z / k ≤ (n - r - 1) / k := (Int.le_ediv_iff_mul_le (by omega)).mpr h3
      omega
    · have h5 : ((z / k).toNat : Int) = z / k := by omega
      rw [h5, Int.mul_comm]
      omega
/-- the list of all days below n that a test takes -/
def picked (n : Nat) (p : Int → Bool) : List Int := ((List.range n).map fun (m : Nat) => (m : Int)).filter p
theorem picked_asc (n : Nat) (p : Int → Bool) : (picked n p).Pairwise (· < ·) := by
  unfold picked
  exact List.Pairwise.filter _ (pw_range_map (f := fun m => (m : Int)) fun i j h => Int.ofNat_lt.mpr h)
theorem mem_picked {n : Nat} {p : Int → Bool} {z : Int} : z ∈ picked n p ↔ 0 ≤ z ∧ z < n ∧ p z = true := by
  unfold picked
  rw [List.mem_filter, List.mem_map]
  constructor
  · rintro ⟨⟨m, hm, rfl⟩, h⟩
    have := List.mem_range.mp hm
    exact ⟨by omega, by omega, h⟩
  · rintro ⟨h0, h1, h2⟩
    exact ⟨⟨z.toNat, List.mem_range.mpr (by omega), by omega⟩, h2⟩
theorem picked_yes {i : Nat} {p : Int → Bool} (h : p (i : Int) = true) : picked (i + 1) p = picked i p ++ [(i : Int)] := by
  unfold picked
  rw [List.range_succ, List.map_append, List.filter_append]
  simp [h]
theorem picked_no {i : Nat} {p : Int → Bool} (h : p (i : Int) = false) : picked (i + 1) p = picked i p := by
  unfold picked
  rw [List.range_succ, List.map_append, List.filter_append]
  simp [h]
theorem picked_len (n : Nat) (p : Int → Bool) : (picked n p).length ≤ n := by
  unfold picked
  refine Nat.le_trans (List.length_filter_le _ _) ?_
  rw [List.length_map, List.length_range]
  exact Nat.le_refl _
theorem picked_tied {d k : Int} {n : Nat} (hk : 1 ≤ k) (d0 : 0 ≤ d) (dn : d < n) : picked n (fun m => decide ((m - d) % k = 0)) = tied (d % k) k n := by
  have r0 : 0 ≤ d % k := Int.emod_nonneg _ (by omega)
  have r1 : d % k < k := Int.emod_lt_of_pos _ (by omega)
  have r2 : d % k ≤ d := emod_le_self d0 (by omega)
  refine asc_ext (picked_asc _ _) (tied_asc hk) fun z => ?_
  rw [mem_picked, mem_tied r0 r1 hk (by omega), decide_eq_true_iff]
  refine and_congr_right fun _ => and_congr_right fun _ => ?_
  rw [← Int.emod_eq_emod_iff_emod_sub_eq_zero]
theorem sum_btw {lo hi : Int} (h0 : lo ≤ 0) (h1 : 0 ≤ hi) : ∀ {ns : List Int}, Btw lo hi ns → lo * ns.length ≤ ns.sum ∧ ns.sum ≤ hi * ns.length
  | [], _ => by simp
  | n :: r, h => by
    have a := sum_btw h0 h1 (ns := r) fun x hx => h x (List.mem_cons_of_mem _ hx)
    have b := h n List.mem_cons_self
    rw [List.sum_cons, List.length_cons, Int.natCast_add, Int.mul_add, Int.mul_add]
    omega
theorem btw_sub {lo hi : Int} {ns ms : List Int} (h : Btw lo hi ns) (s : ∀ x ∈ ms, x ∈ ns) : Btw lo hi ms := fun x hx => h x (s x hx)
/-- sums of at most 8 numbers stay within eight times the bounds -/
theorem wsums_btw {B : Int} {ns : List Int} {k : Nat} (hB : 0 ≤ B) (h : Btw (-B) B ns) (hk : k ≤ 8) : Btw (-(8 * B)) (8 * B) (wsums ns k) := by
  intro x hx
  unfold wsums at hx
  obtain ⟨j, _, rfl⟩ := List.mem_map.mp hx
  have hs : Btw (-B) B ((ns.drop j).take k) := btw_sub h fun y hy => List.mem_of_mem_drop (List.mem_of_mem_take hy)
  have a := sum_btw (by omega) hB hs
  have hl : ((ns.drop j).take k).length ≤ 8 := by
    rw [List.length_take]
    omega
  have c : B * ((ns.drop j).take k).length ≤ B * 8 := Int.mul_le_mul_of_nonneg_left (by omega) hB
  have d : -B * ((ns.drop j).take k).length = -(B * ((ns.drop j).take k).length) := Int.neg_mul _ _
  rw [d] at a
  omega
/-! ### calls by keywords -/
def gS2 {α : Type} : List α → List α → List α
  | [], [a, b] => [b, a]
  | _, _ => []
def gI2 {α : Type} : List α → List α → List α
  | [], [a, b] => [a, b]
  | _, _ => []
theorem rel_S2 {vs zs : List V} {us ws : List Value} (r : Vals vs us) (q : Vals zs ws) : Vals (gS2 vs zs) (gS2 us ws) := by
  cases r with
  | cons _ _ => exact .nil
  | nil =>
    cases q with
    | nil => exact .nil
    | cons a q =>
      cases q with
      | nil => exact .nil
      | cons b q =>
        cases q with
        | nil => exact .cons b (.cons a .nil)
        | cons _ _ => exact .nil
theorem rel_I2 {vs zs : List V} {us ws : List Value} (r : Vals vs us) (q : Vals zs ws) : Vals (gI2 vs zs) (gI2 us ws) := by
  cases r with
  | cons _ _ => exact .nil
  | nil =>
    cases q with
    | nil => exact .nil
    | cons a q =>
      cases q with
      | nil => exact .nil
      | cons b q =>
        cases q with
        | nil => exact .cons a (.cons b .nil)
        | cons _ _ => exact .nil
/-- three keywords in the opposite sequence -/
def gR3 {α : Type} : List α → List α → List α
  | [], [a, b, c] => [c, b, a]
  | _, _ => []
theorem rel_R3 {vs zs : List V} {us ws : List Value} (r : Vals vs us) (q : Vals zs ws) : Vals (gR3 vs zs) (gR3 us ws) := by
  cases r with
  | cons _ _ => exact .nil
  | nil =>
    cases q with
    | nil => exact .nil
    | cons a q =>
      cases q with
      | nil => exact .nil
      | cons b q =>
        cases q with
        | nil => exact .nil
        | cons c q =>
          cases q with
          | nil => exact .cons c (.cons b (.cons a .nil))
          | cons _ _ => exact .nil
theorem S2_inv {α : Type} {us ws : List α} (h : (gS2 us ws).length = 2) : ∃ a b, us = [] ∧ ws = [a, b] := by
  match us, ws, h with
  | [], [a, b], _ => exact ⟨a, b, rfl, rfl⟩
theorem R3_inv {α : Type} {us ws : List α} (h : (gR3 us ws).length = 3) : ∃ a b c, us = [] ∧ ws = [a, b, c] := by
  match us, ws, h with
  | [], [a, b, c], _ => exact ⟨a, b, c, rfl, rfl⟩
end Ws
namespace Ws
open PySem PySem.Spec PyProof.Rows L2
theorem eqv_self {d : PyData} (h : SeqAt.shaped d = true) : PyData.eqv d d = true := SeqAt.eqv_refl d (SeqAt.canLay_of_shaped h)
/-- behind a jar that is new -/
theorem Same.over {J : Addr} {H H1 H2 : Hp} (s : Same H H1) (h : H J = none) (f : Fr J H1 H2) : Same H H2 := fun b o e => by
  have n : b ≠ J := ne_of_none e h
  exact f.get n (s b o e)
theorem int_at {ns : List Int} {i : Nat} {x : V} (h : (ns.map V.int)[i]? = some x) : ∃ y, ns[i]? = some y ∧ x = .int y := by
  rw [List.getElem?_map] at h
  cases e : ns[i]? with
  | none => rw [e] at h; cases h
  | some y => rw [e] at h; exact ⟨y, rfl, (Option.some.inj h).symm⟩
theorem tup3_int {x : V} {a b c : Int} {i : Nat} (h : [V.int a, V.int b, V.int c][i]? = some x) : ∃ s, x = .int s ∧ (s = a ∨ s = b ∨ s = c) ∧ i < 3 := by
  match i, h with
  | 0, h => exact ⟨a, (Option.some.inj h).symm, .inl rfl, by decide⟩
  | 1, h => exact ⟨b, (Option.some.inj h).symm, .inr (.inl rfl), by decide⟩
  | 2, h => exact ⟨c, (Option.some.inj h).symm, .inr (.inr rfl), by decide⟩
theorem Jar.ne {H H' : Hp} {J p : Addr} {n : Int} (h : Jar H J n) (hp : H p = none) : p ≠ J := h.out hp
end Ws

set_option Elab.async false
set_option linter.all false
set_option maxRecDepth 100000
set_option maxHeartbeats 4000000
namespace Ws
open PySem PySem.Spec PyProof.Rows L2
/-! ### by how much a day is more than the first one of its class -/
def off (ss : List Int) (k : Nat) (i : Nat) : Int :=
  if h : k = 0 ∨ i < k then 0 else off ss k (i - k) + ss.getD (i - k + 1) 0 - ss.getD (i - k) 0
termination_by i
decreasing_by omega
theorem off_lo {ss : List Int} {k i : Nat} (h : i < k) : off ss k i = 0 := by
  rw [off, dif_pos (Or.inr h)]
theorem off_hi {ss : List Int} {k i : Nat} (hk : 1 ≤ k) : off ss k (k + i) = off ss k i + ss.getD (i + 1) 0 - ss.getD i 0 := by
  rw [off, dif_neg (by omega)]
  have e : k + i - k = i := by omega
  rw [e]
def offL (ss : List Int) (k n : Nat) : List Int := (List.range n).map (off ss k)
theorem offL_len (ss : List Int) (k n : Nat) : (offL ss k n).length = n := by
  unfold offL
  rw [List.length_map, List.length_range]
theorem offL_get {ss : List Int} {k n i : Nat} (h : i < n) : (offL ss k n)[i]? = some (off ss k i) := by
  unfold offL
  rw [List.getElem?_map, List.getElem?_range h]
  rfl
theorem offL_zero (ss : List Int) (k : Nat) : offL ss k k = List.replicate k 0 := by
  unfold offL
  refine List.ext_getElem? fun i => ?_
  rw [List.getElem?_map, List.getElem?_replicate]
  by_cases h : i < k
  · rw [List.getElem?_range h, if_pos h, Option.map_some, off_lo h]
  · rw [List.getElem?_eq_none (by rw [List.length_range]; omega), if_neg h]
    rfl
theorem offL_succ (ss : List Int) (k n : Nat) : offL ss k (n + 1) = offL ss k n ++ [off ss k n] := by
  unfold offL
  rw [List.range_succ, List.map_append]
  rfl
/-! ### lists that have sums -/
def win (x : List Int) (t k : Nat) : Int := ((x.drop t).take k).sum
theorem win_zero (x : List Int) (t : Nat) : win x t 0 = 0 := by
  unfold win
  rw [List.take_zero]
  rfl
theorem win_more {x : List Int} {t k : Nat} (h : t + k < x.length) : win x t (k + 1) = win x t k + x.getD (t + k) 0 := by
  unfold win
  rw [win_next (List.getElem?_eq_getElem h), List.getD_eq_getElem?_getD, List.getElem?_eq_getElem h]
  rfl
theorem win_first {x : List Int} {t k : Nat} (h : t < x.length) : win x t (k + 1) = x.getD t 0 + win x (t + 1) k := by
  unfold win
  rw [List.drop_eq_getElem_cons h, List.take_succ_cons, List.sum_cons, List.getD_eq_getElem?_getD, List.getElem?_eq_getElem h]
  rfl
theorem win_step {x : List Int} {t k : Nat} (h : t + k < x.length) : win x (t + 1) k - win x t k = x.getD (t + k) 0 - x.getD t 0 := by
  have a := win_more h
  have b := win_first (x := x) (t := t) (k := k) (by omega)
  omega
/-- x has the sums ss of length k -/
def Has (x ss : List Int) (k : Nat) : Prop := 1 ≤ k ∧ k ≤ x.length ∧ wsums x k = ss
theorem Has.len {x ss : List Int} {k : Nat} (h : Has x ss k) : ss.length = x.length + 1 - k := by
  rw [← h.2.2, wsums_len]
theorem Has.at {x ss : List Int} {k j : Nat} (h : Has x ss k) (hj : j < ss.length) : ss.getD j 0 = win x j k := by
  have hl := h.len
  rw [List.getD_eq_getElem?_getD, ← h.2.2, wsums_get (by omega)]
  rfl
theorem off_has {x ss : List Int} {k : Nat} (h : Has x ss k) : ∀ i, i < x.length → off ss k i = x.getD i 0 - x.getD (i % k) 0 := by
  intro i
  induction i using Nat.strongRecOn with
  | _ i ih =>
    intro hi
    have k1 := h.1
    have hl := h.len
    by_cases hk : i < k
    · rw [off_lo hk, Nat.mod_eq_of_lt hk]
      omega
    · have e : i = k + (i - k) := by omega
      have a := ih (i - k) (by omega) (by omega)
      rw [e, off_hi k1, a, h.at (by omega), h.at (by omega)]
      have b := win_step (x := x) (t := i - k) (k := k) (by omega)
      have c : (k + (i - k)) % k = (i - k) % k := Nat.add_mod_left _ _
      have d : i - k + k = k + (i - k) := by omega
      rw [c, ← d]
      omega
theorem mod_nat {d k : Int} (d0 : 0 ≤ d) (k1 : 1 ≤ k) : (d % k).toNat = d.toNat % k.toNat := by
  have e1 : d = (d.toNat : Int) := by omega
  have e2 : k = (k.toNat : Int) := by omega
  have : d % k = ((d.toNat % k.toNat : Nat) : Int) := by
    rw [Int.natCast_emod, ← e1, ← e2]
  omega
theorem tie_has {x ss : List Int} {k a b : Int} (h : Has x ss k.toNat) (k1 : 1 ≤ k) (a0 : 0 ≤ a) (an : a < x.length) (b0 : 0 ≤ b) (bn : b < x.length) (t : (b - a) % k = 0) :
    off ss k.toNat b.toNat - off ss k.toNat a.toNat = x.getD b.toNat 0 - x.getD a.toNat 0 := by
  rw [off_has h _ (by omega), off_has h _ (by omega)]
  have e : b % k = a % k := (Int.emod_eq_emod_iff_emod_sub_eq_zero).mpr t
  have e2 : b.toNat % k.toNat = a.toNat % k.toNat := by
    rw [← mod_nat b0 k1, ← mod_nat a0 k1, e]
  rw [e2]
  omega
theorem perm_sum {xs ys : List Int} (h : xs.Perm ys) : xs.sum = ys.sum := by
  induction h with
  | nil => rfl
  | cons x _ ih => rw [List.sum_cons, List.sum_cons, ih]
  | swap x y l =>
    rw [List.sum_cons, List.sum_cons, List.sum_cons, List.sum_cons]
    omega
  | trans _ _ a b => exact a.trans b
/-- days, one of each class -/
structure Choice (ds : List Int) (k n : Int) : Prop where
  inn : ∀ d ∈ ds, 0 ≤ d ∧ d < n
  all : (ds.map fun d => d % k).Perm ((List.range k.toNat).map fun (i : Nat) => (i : Int))
theorem Choice.len {ds : List Int} {k n : Int} (c : Choice ds k n) : ds.length = k.toNat := by
  have := c.all.length_eq
  rw [List.length_map, List.length_map, List.length_range] at this
  exact this
theorem win_range {x : List Int} {k : Nat} (h : k ≤ x.length) : ((List.range k).map fun i => x.getD i 0).sum = win x 0 k := by
  induction k with
  | zero =>
    rw [win_zero]
    rfl
  | succ k ih =>
    rw [List.range_succ, List.map_append, List.sum_append_int, ih (by omega), win_more (by omega)]
    simp
theorem sum_map_add (f g : Int → Int) : ∀ ds : List Int, (ds.map fun d => f d + g d).sum = (ds.map f).sum + (ds.map g).sum
  | [] => rfl
  | d :: r => by
    rw [List.map_cons, List.map_cons, List.map_cons, List.sum_cons, List.sum_cons, List.sum_cons, sum_map_add f g r]
    omega
theorem total_has {x ss ds : List Int} {k n : Int} (h : Has x ss k.toNat) (k1 : 1 ≤ k) (hn : n = x.length) (c : Choice ds k n) :
    ss.getD 0 0 + (ds.map fun d => off ss k.toNat d.toNat).sum = (ds.map fun d => x.getD d.toNat 0).sum := by
  have e1 : (ds.map fun d => x.getD d.toNat 0) = ds.map fun d => off ss k.toNat d.toNat + x.getD (d % k).toNat 0 := by
    refine List.map_congr_left fun d hd => ?_
    have hd2 := c.inn d hd
    rw [off_has h _ (by omega), mod_nat hd2.1 k1]
    omega
  have e2 : (ds.map fun d => x.getD (d % k).toNat 0) = (ds.map fun d => d % k).map fun c => x.getD c.toNat 0 := by
    rw [List.map_map]
    rfl
  have e3 := perm_sum (c.all.map fun c => x.getD c.toNat 0)
  have e4 : (((List.range k.toNat).map fun (i : Nat) => (i : Int)).map fun c => x.getD c.toNat 0) = (List.range k.toNat).map fun i => x.getD i 0 := by
    rw [List.map_map]
    rfl
  have hl := h.len
  have hk2 := h.2.1
  rw [e1, sum_map_add, e2, e3, e4, win_range h.2.1, h.at (j := 0) (by omega)]
  omega
end Ws

set_option Elab.async false
set_option linter.all false
set_option maxRecDepth 100000
set_option maxHeartbeats 4000000
namespace Ws
open PySem PySem.Spec PyProof.Rows L2
theorem small5 {n : Nat} (h : n ≤ 100000) : n < sizeLine := by
  rw [sizeLine_eq]
  omega
theorem flat_rep {α : Type} (x : α) : ∀ k : Nat, (List.replicate k [x]).flatten = List.replicate k x
  | 0 => rfl
  | k + 1 => by
    rw [List.replicate_succ, List.flatten_cons, flat_rep x k, List.replicate_succ]
    rfl
/-- an integer within bounds -/
def wint (lo hi : Int) : V → Bool
  | .int i => decide (lo ≤ i) && decide (i ≤ hi)
  | _ => false
def spRowIn (K : PySem.W.Frag) : Sp := fun vs H Q _ => (∃ (a : Addr) (xs : List V) (c lo hi : Int), vs = [.ref a, .int c, .int lo, .int hi] ∧ SqL K H a xs ∧ xs.length ≤ 50000 ∧
    (∀ x ∈ xs, ∀ H', Same H H' → whole x = true ∨ Ti K H' x false) ∧ ∀ H', Same H H' → Q (.bl (decide ((xs.length : Int) = c) && xs.all (wint lo hi))) H') ∨
  ∃ (x : V) (t : String) (c lo hi : Int), vs = [x, .int c, .int lo, .int hi] ∧ TyB K H x t ∧ t ≠ "list" ∧ Q (.bl false) H
theorem all_wint {lo hi : Int} {ns : List Int} (h : Btw lo hi ns) : (ns.map V.int).all (wint lo hi) = true := by
  rw [List.all_eq_true]
  intro x hx
  obtain ⟨i, hi, rfl⟩ := List.mem_map.mp hx
  have := h i hi
  show (decide _ && decide _) = true
  rw [decide_eq_true this.1, decide_eq_true this.2]
  rfl
theorem whole_ints {K : PySem.W.Frag} {H : Hp} {ns : List Int} : ∀ x ∈ ns.map V.int, ∀ H', Same H H' → whole x = true ∨ Ti K H' x false := by
  intro x hx H' _
  obtain ⟨i, _, rfl⟩ := List.mem_map.mp hx
  exact .inl rfl
def spOffs (K : PySem.W.Frag) : Sp := fun vs H Q _ => ∃ (a : Addr) (ss : List Int) (k : Int), vs = [.ref a, .int k] ∧ SqL K H a (ss.map V.int) ∧
  1 ≤ ss.length ∧ 1 ≤ k ∧ k ≤ 8 ∧ k + ss.length ≤ 68 ∧
  ∀ H' p, Same H H' → H p = none → H' p = some (.lst ((offL ss k.toNat (ss.length + k.toNat - 1)).map V.int)) → Q (.ref p) H'
def spAreTied : Sp := fun vs H Q _ => ∃ a b k : Int, vs = [.int a, .int b, .int k] ∧ 1 ≤ k ∧ Q (.bl (decide ((b - a) % k = 0))) H
def spTotalAt (K : PySem.W.Frag) : Sp := fun vs H Q _ => ∃ (a o d : Addr) (ss ofs ds : List Int), vs = [.ref a, .ref o, .ref d] ∧ SqL K H a (ss.map V.int) ∧ SqL K H o (ofs.map V.int) ∧ SqL K H d (ds.map V.int) ∧
  1 ≤ ss.length ∧ (∀ x ∈ ds, 0 ≤ x ∧ x < ofs.length) ∧ ds.length ≤ 1000 ∧
  ∀ H', Same H H' → Q (.int (ss.getD 0 0 + (ds.map fun x => ofs.getD x.toNat 0).sum)) H'
/-- the list of the remainders below k, ascending -/
def upto (k : Int) : List Int := (List.range k.toNat).map fun (i : Nat) => (i : Int)
theorem rgV_upto (k : Int) : rgV 0 k = (upto k).map V.int := by
  unfold rgV upto
  rw [List.map_map, Int.sub_zero]
  refine List.map_congr_left fun i _ => ?_
  show V.int (0 + (i : Int)) = V.int (i : Int)
  rw [Int.zero_add]
theorem upto_asc (k : Int) : (upto k).Pairwise (· < ·) := by
  unfold upto
  exact pw_range_map (f := fun m => (m : Int)) fun i j h => Int.ofNat_lt.mpr h
theorem upto_len (k : Int) : (upto k).length = k.toNat := by
  unfold upto
  rw [List.length_map, List.length_range]
theorem perm_sorted_eq {xs ys : List Int} (hp : xs.Perm ys) (hx : xs.Pairwise (· ≤ ·)) (hy : ys.Pairwise (· ≤ ·)) : xs = ys := by
  refine List.Perm.eq_of_pairwise (le := (· ≤ ·)) ?_ hx hy hp
  intro a b _ _ h1 h2
  omega
/-- whether a list of ints is a choice of days, as the program judges -/
def chosen (ds : List Int) (k n : Int) : Bool := decide ((ds.length : Int) = k) && (ds.map V.int).all (wint 0 (n - 1)) && decide ((ds.map fun d => d % k).Perm (upto k))
theorem chosen_yes {ds : List Int} {k n : Int} (k1 : 1 ≤ k) (c : Choice ds k n) : chosen ds k n = true := by
  unfold chosen
  rw [decide_eq_true (by have := c.len; omega), all_wint (fun x hx => by have := c.inn x hx; omega)]
  show (true && true && decide _) = true
  rw [decide_eq_true (show (ds.map fun d => d % k).Perm (upto k) from c.all)]
  rfl
theorem chosen_inv {ds : List Int} {k n : Int} (h : chosen ds k n = true) : Choice ds k n := by
  unfold chosen at h
  rw [Bool.and_eq_true, Bool.and_eq_true] at h
  refine ⟨fun d hd => ?_, of_decide_eq_true h.2⟩
  have h2 := List.all_eq_true.mp h.1.2 (.int d) (List.mem_map.mpr ⟨d, hd, rfl⟩)
  have h3 : (decide (0 ≤ d) && decide (d ≤ n - 1)) = true := h2
  rw [Bool.and_eq_true, decide_eq_true_iff, decide_eq_true_iff] at h3
  omega
/-- any list of known things, or another thing -/
def spChoice (K : PySem.W.Frag) : Sp := fun vs H Q _ => (∃ (a : Addr) (ds : List Int) (k n : Int), vs = [.ref a, .int k, .int n] ∧ SqL K H a (ds.map V.int) ∧ ds.length ≤ 50000 ∧ 1 ≤ k ∧ k ≤ 8 ∧
    ∀ H', Same H H' → Q (.bl (chosen ds k n)) H') ∨
  (∃ (a : Addr) (xs : List V) (k n : Int), vs = [.ref a, .int k, .int n] ∧ SqL K H a xs ∧ xs.length ≤ 50000 ∧ (∀ x ∈ xs, ∀ H', Same H H' → whole x = true ∨ Ti K H' x false) ∧ (∃ x ∈ xs, whole x = false) ∧
    ∀ H', Same H H' → Q (.bl false) H') ∨
  ∃ (x : V) (t : String) (k n : Int), vs = [x, .int k, .int n] ∧ TyB K H x t ∧ t ≠ "list" ∧ Q (.bl false) H
def spChoiceOk (K : PySem.W.Frag) : Sp := fun vs H Q _ => ∃ (a : Addr) (ds : List Int) (k n : Int), vs = [.ref a, .int k, .int n] ∧ SqL K H a (ds.map V.int) ∧ 1 ≤ k ∧ k ≤ 8 ∧ Choice ds k n ∧
  ∀ H', Same H H' → Q .non H'
def spTie (K : PySem.W.Frag) : Sp := fun vs H Q _ => ∃ (a : Addr) (ss : List Int) (k x y : Int), vs = [.ref a, .int k, .int x, .int y] ∧ SqL K H a (ss.map V.int) ∧
  1 ≤ ss.length ∧ 1 ≤ k ∧ k ≤ 8 ∧ k + ss.length ≤ 68 ∧ 0 ≤ x ∧ x < ss.length + k - 1 ∧ 0 ≤ y ∧ y < ss.length + k - 1 ∧
  ∀ H', Same H H' → Q (if (y - x) % k = 0 then .int (off ss k.toNat y.toNat - off ss k.toNat x.toNat) else .non) H'
def spTotal (K : PySem.W.Frag) : Sp := fun vs H Q _ => ∃ (a d : Addr) (ss ds : List Int) (k : Int), vs = [.ref a, .int k, .ref d] ∧ SqL K H a (ss.map V.int) ∧ SqL K H d (ds.map V.int) ∧
  1 ≤ ss.length ∧ 1 ≤ k ∧ k ≤ 8 ∧ k + ss.length ≤ 68 ∧ Choice ds k (ss.length + k - 1) ∧
  ∀ H', Same H H' → Q (.int (ss.getD 0 0 + (ds.map fun x => off ss k.toNat x.toNat).sum)) H'
theorem cut_tail (ns : List Int) (i : Nat) : cutV (ns.map V.int) (some (i : Int)) none = (ns.drop i).map V.int := by
  unfold cutV
  rw [HT.sIx_nat, HT.sIx_none, List.length_map, List.map_drop]
  by_cases h : i ≤ ns.length
  · rw [Nat.min_eq_left h, List.take_of_length_le]
    rw [List.length_drop, List.length_map]
    exact Nat.le_refl _
  · have e1 : min i ns.length = ns.length := by omega
    rw [e1, Nat.sub_self, List.drop_of_length_le (i := i) (by rw [List.length_map]; omega)]
    simp
theorem cut_head (ns : List Int) (i : Nat) : cutV (ns.map V.int) none (some (i : Int)) = (ns.take i).map V.int := by
  unfold cutV
  rw [HT.sIx_nat, HT.sIx_none, List.length_map, List.drop_zero, List.map_take, Nat.sub_zero]
  by_cases h : i ≤ ns.length
  · rw [Nat.min_eq_left h]
  · have e1 : min i ns.length = ns.length := by omega
    rw [e1, List.take_of_length_le (i := ns.length) (by rw [List.length_map]; exact Nat.le_refl _), List.take_of_length_le (i := i) (by rw [List.length_map]; omega)]
end Ws

set_option Elab.async false
set_option linter.all false
set_option maxRecDepth 100000
set_option maxHeartbeats 4000000
namespace Ws
open PySem PySem.Spec PyProof.Rows L2
/-! ### all ways, gone through day by day -/
/-- the ways to go on from the days told so far -/
def nextW (ss : List Int) (k top d : Nat) (one : List Int) : List (List Int) :=
  if d + 1 < k then (List.range (top + 1)).map fun (p : Nat) => one ++ [(p : Int)]
  else if 0 ≤ ss.getD (d + 1 - k) 0 - (one.drop (d + 1 - k)).sum ∧ ss.getD (d + 1 - k) 0 - (one.drop (d + 1 - k)).sum ≤ top then
    [one ++ [ss.getD (d + 1 - k) 0 - (one.drop (d + 1 - k)).sum]] else []
def allW (ss : List Int) (k top : Nat) : Nat → List (List Int)
  | 0 => [[]]
  | d + 1 => (allW ss k top d).flatMap (nextW ss k top d)
/-- the first days of a way -/
structure Pre (x ss : List Int) (k top d : Nat) : Prop where
  len : x.length = d
  inn : Btw 0 top x
  has : ∀ j, j + k ≤ d → win x j k = ss.getD j 0
theorem win_snoc {x : List Int} {y : Int} {j k : Nat} (h : j + k ≤ x.length) : win (x ++ [y]) j k = win x j k := by
  unfold win
  rw [List.drop_append_of_le_length (by omega), List.take_append_of_le_length (by rw [List.length_drop]; omega)]
theorem win_last {x : List Int} {y : Int} {j k : Nat} (h : j + k = x.length + 1) (k1 : 1 ≤ k) : win (x ++ [y]) j k = (x.drop j).sum + y := by
  unfold win
  rw [List.drop_append_of_le_length (by omega), List.take_of_length_le (by rw [List.length_append, List.length_drop, List.length_singleton]; omega), sum_snoc]
theorem allW_pre {ss : List Int} {k top : Nat} (k1 : 1 ≤ k) : ∀ d x, x ∈ allW ss k top d → Pre x ss k top d
  | 0, x, h => by
    rw [allW, List.mem_singleton] at h
    subst h
    exact ⟨rfl, Btw.nil, fun j hj => by omega⟩
  | d + 1, x, h => by
    rw [allW, List.mem_flatMap] at h
    obtain ⟨one, h1, h2⟩ := h
    have p := allW_pre k1 d one h1
    unfold nextW at h2
    have more : ∀ y : Int, 0 ≤ y → y ≤ top → (∀ j, j + k = d + 1 → (one.drop j).sum + y = ss.getD j 0) → Pre (one ++ [y]) ss k top (d + 1) := fun y y0 y1 hy => by
      refine ⟨by rw [List.length_append, p.len]; rfl, p.inn.snoc y0 y1, fun j hj => ?_⟩
      by_cases e : j + k = d + 1
      · rw [win_last (by rw [p.len]; exact e) k1]
        exact hy j e
      · rw [win_snoc (by rw [p.len]; omega)]
        exact p.has j (by omega)
    split at h2
    · obtain ⟨q, hq, rfl⟩ := List.mem_map.mp h2
      have := List.mem_range.mp hq
      exact more q (by omega) (by omega) fun j hj => by omega
    · split at h2
      · rename_i hb
        rw [List.mem_singleton] at h2
        subst h2
        refine more _ hb.1 hb.2 fun j hj => ?_
        have e : d + 1 - k = j := by omega
        rw [e]
        omega
      · cases h2
theorem allW_mem {x ss : List Int} {k top n : Nat} (k1 : 1 ≤ k) (p : Pre x ss k top n) : ∀ d, d ≤ n → x.take d ∈ allW ss k top d
  | 0, _ => by
    rw [allW, List.take_zero]
    exact List.mem_singleton.mpr rfl
  | d + 1, h => by
    rw [allW, List.mem_flatMap]
    refine ⟨x.take d, allW_mem k1 p d (by omega), ?_⟩
    have hd : d < x.length := by rw [p.len]; omega
    have e : x.take (d + 1) = x.take d ++ [x[d]] := take_next (List.getElem?_eq_getElem hd)
    have hb := p.inn x[d] (List.getElem_mem hd)
    have ld : (x.take d).length = d := by rw [List.length_take]; omega
    unfold nextW
    rw [e]
    split
    · refine List.mem_map.mpr ⟨x[d].toNat, List.mem_range.mpr (by omega), ?_⟩
      have : ((x[d].toNat : Nat) : Int) = x[d] := by omega
      rw [this]
    · have hw := p.has (d + 1 - k) (by omega)
      have h2 : win (x.take d ++ [x[d]]) (d + 1 - k) k = ((x.take d).drop (d + 1 - k)).sum + x[d] := win_last (by rw [ld]; omega) k1
      have h3 : win (x.take (d + 1)) (d + 1 - k) k = win x (d + 1 - k) k := by
        unfold win
        rw [List.drop_take, List.take_take]
        congr 2
        omega
      rw [← e, h3, hw] at h2
      have h4 : ss.getD (d + 1 - k) 0 - ((x.take d).drop (d + 1 - k)).sum = x[d] := by omega
      rw [h4, if_pos (by omega)]
      exact List.mem_singleton.mpr rfl
theorem nextW_len (ss : List Int) (k top d : Nat) (one : List Int) : (nextW ss k top d one).length ≤ if d + 1 < k then top + 1 else 1 := by
  unfold nextW
  split
  · rw [List.length_map, List.length_range]
    exact Nat.le_refl _
  · split
    · exact Nat.le_refl _
    · exact Nat.zero_le _
theorem flat_len {α β : Type} (f : α → List β) (c : Nat) : ∀ l : List α, (∀ a ∈ l, (f a).length ≤ c) → (l.flatMap f).length ≤ l.length * c
  | [], _ => Nat.zero_le _
  | a :: r, h => by
    rw [List.flatMap_cons, List.length_append, List.length_cons, Nat.add_mul, Nat.one_mul]
    have := flat_len f c r fun b hb => h b (List.mem_cons_of_mem _ hb)
    have := h a List.mem_cons_self
    omega
theorem allW_len {ss : List Int} {k top : Nat} : ∀ d, (allW ss k top d).length ≤ (top + 1) ^ (min d (k - 1))
  | 0 => by
    rw [Nat.zero_min, Nat.pow_zero]
    exact Nat.le_refl _
  | d + 1 => by
    have ih := allW_len (ss := ss) (k := k) (top := top) d
    rw [allW]
    refine Nat.le_trans (flat_len _ (if d + 1 < k then top + 1 else 1) _ fun a _ => nextW_len ss k top d a) ?_
    split
    · have e : min (d + 1) (k - 1) = min d (k - 1) + 1 := by omega
      rw [e, Nat.pow_succ]
      exact Nat.mul_le_mul ih (Nat.le_refl _)
    · have e : min (d + 1) (k - 1) = min d (k - 1) := by omega
      rw [e, Nat.mul_one]
      exact ih
theorem allW_small {ss : List Int} {k top d B : Nat} (h : (top + 1) ^ (k - 1) ≤ B) : (allW ss k top d).length ≤ B :=
  Nat.le_trans (allW_len d) (Nat.le_trans (Nat.pow_le_pow_right (by omega) (Nat.min_le_right _ _)) h)
/-! ### lists of lists of ints in a heap -/
def Rows (H : Hp) (as : List Addr) (ls : List (List Int)) : Prop := as.length = ls.length ∧ ∀ (i : Nat) (a : Addr) (l : List Int), as[i]? = some a → ls[i]? = some l → H a = some (.lst (l.map V.int))
theorem Rows.nil {H : Hp} : Rows H [] [] := ⟨rfl, fun i a l h _ => by simp at h⟩
theorem Rows.up {H H' : Hp} {as : List Addr} {ls : List (List Int)} (h : Rows H as ls) (s : Same H H') : Rows H' as ls := ⟨h.1, fun i a l h1 h2 => s _ _ (h.2 i a l h1 h2)⟩
theorem Rows.snoc {H : Hp} {as : List Addr} {ls : List (List Int)} {r : Addr} {l : List Int} (h : Rows H as ls) (hr : H r = some (.lst (l.map V.int))) : Rows H (as ++ [r]) (ls ++ [l]) := by
  refine ⟨by rw [List.length_append, List.length_append, h.1]; rfl, fun i a m h1 h2 => ?_⟩
  by_cases hi : i < as.length
  · rw [List.getElem?_append_left hi] at h1
    rw [List.getElem?_append_left (by rw [← h.1]; exact hi)] at h2
    exact h.2 i a m h1 h2
  · rw [List.getElem?_append_right (by omega)] at h1
    rw [List.getElem?_append_right (by rw [← h.1]; omega), ← h.1] at h2
    cases e : i - as.length with
    | zero =>
      rw [e] at h1 h2
      cases h1
      cases h2
      exact hr
    | succ z =>
      rw [e] at h1
      simp at h1
theorem Rows.get {H : Hp} {as : List Addr} {ls : List (List Int)} {i : Nat} {x : V} (h : Rows H as ls) (hx : (as.map V.ref)[i]? = some x) :
    ∃ a l, x = .ref a ∧ ls[i]? = some l ∧ H a = some (.lst (l.map V.int)) := by
  rw [List.getElem?_map] at hx
  cases e : as[i]? with
  | none => rw [e] at hx; cases hx
  | some a =>
    rw [e] at hx
    have hi : i < ls.length := by
      rw [← h.1]
      exact (List.getElem?_eq_some_iff.mp e).1
    exact ⟨a, ls[i], (Option.some.inj hx).symm, List.getElem?_eq_getElem hi, h.2 i a _ e (List.getElem?_eq_getElem hi)⟩
/-- a list that grows: its rows stand apart from it -/
def Grow (H0 H : Hp) (q : Addr) (ls : List (List Int)) : Prop := ∃ as : List Addr, H q = some (.lst (as.map V.ref)) ∧ Rows (cut q H) as ls ∧ ∀ a ∈ as, H0 a = none
theorem cut_put {q : Addr} {H : Hp} {o : HO} : cut q (upd H q o) = cut q H := by
  funext b
  unfold cut
  split
  · rfl
  · rename_i n
    exact upd_ne n
theorem Grow.new {H0 H : Hp} {q : Addr} : Grow H0 (upd H q (.lst [])) q [] := ⟨[], upd_same, Rows.nil, fun a h => absurd h List.not_mem_nil⟩
theorem Grow.same {H0 H H' : Hp} {q : Addr} {ls : List (List Int)} (h : Grow H0 H q ls) (s : Same H H') : Grow H0 H' q ls := by
  obtain ⟨as, h1, h2, h3⟩ := h
  exact ⟨as, s _ _ h1, h2.up (cut_mono s), h3⟩
/-- one more row -/
theorem Grow.put {H0 H : Hp} {q r : Addr} {ls : List (List Int)} {as : List Addr} {l : List Int} (h1 : H q = some (.lst (as.map V.ref))) (h2 : Rows (cut q H) as ls) (h3 : ∀ a ∈ as, H0 a = none) (n : r ≠ q) (fr : H0 r = none) (hr : H r = some (.lst (l.map V.int))) :
    Grow H0 (upd H q (.lst (as.map V.ref ++ [V.ref r]))) q (ls ++ [l]) := by
  refine ⟨as ++ [r], ?_, ?_, fun a ha => ?_⟩
  · rw [upd_same, List.map_append]
    rfl
  · rw [cut_put]
    exact h2.snoc (by rw [cut_ne n]; exact hr)
  · rcases List.mem_append.mp ha with z | z
    · exact h3 a z
    · rw [List.mem_singleton.mp z]
      exact fr
theorem Grow.rows {H0 H : Hp} {q : Addr} {ls : List (List Int)} (h : Grow H0 H q ls) : ∃ as : List Addr, H q = some (.lst (as.map V.ref)) ∧ Rows H as ls ∧ ∀ a ∈ as, H0 a = none := by
  obtain ⟨as, h1, h2, h3⟩ := h
  exact ⟨as, h1, h2.up cut_sub, h3⟩
theorem flat_take {α β : Type} (f : α → List β) {l : List α} {i : Nat} {x : α} (h : l[i]? = some x) : (l.take (i + 1)).flatMap f = (l.take i).flatMap f ++ f x := by
  rw [take_next h, List.flatMap_append]
  simp
def spAll (K : PySem.W.Frag) : Sp := fun vs H Q _ => ∃ (a : Addr) (ss : List Int) (k t : Int), vs = [.ref a, .int k, .int t] ∧ SqL K H a (ss.map V.int) ∧ 1 ≤ ss.length ∧ 1 ≤ k ∧ k ≤ 8 ∧ ss.length ≤ 100 ∧ 0 ≤ t ∧
  t ≤ 1000 ∧ (t.toNat + 1) ^ (k.toNat - 1) ≤ 1000 ∧
  ∀ H' p, Same H H' → H p = none → Grow H H' p (allW ss k.toNat t.toNat (ss.length + k.toNat - 1)) → Q (.ref p) H'
end Ws

set_option Elab.async false
set_option linter.all false
set_option maxRecDepth 100000
set_option maxHeartbeats 4000000
namespace Ws
open PySem PySem.Spec PyProof.Rows L2
/-! ### one day of each class, drawn -/
def spSmall : Sp := fun vs H Q _ => ∃ (J : Addr) (n : Int), vs = [.ref J] ∧ Jar H J n ∧ n ≤ 900000000 ∧
  ∀ H' p (k t c : Int), Fr J H H' → Jar H' J (n + 3) → H p = none → H' p = some (.tup [.int k, .int t, .int c]) → 1 ≤ k → k ≤ 4 → 0 ≤ t → t ≤ 8 → (t.toNat + 1) ^ (k.toNat - 1) ≤ 1000 → k ≤ c → c ≤ k + 6 → Q (.ref p) H'
def spClasses : Sp := fun vs H Q _ => ∃ (J : Addr) (c k n : Int), vs = [.ref J, .int c, .int k] ∧ Jar H J n ∧ n ≤ 900000000 ∧ 1 ≤ k ∧ k ≤ 8 ∧ k ≤ c ∧ c ≤ 1000 ∧
  ∀ H' p ds, Fr J H H' → Jar H' J (n + 2 * k) → H p = none → H' p = some (.lst (ds.map V.int)) → Choice ds k c → Q (.ref p) H'
theorem seqIx {i : Int} {n : Nat} (h0 : 0 ≤ i) (h1 : i < n) : seqIndex? i n = some i.toNat := by
  have e : (if i < 0 then i + (n : Int) else i) = i := if_neg (by omega)
  unfold seqIndex?
  simp only [e]
  rw [decide_eq_true h0, decide_eq_true h1]
  rfl
theorem perm_pop {α : Type} : ∀ (l : List α) (i : Nat) (x : α), l[i]? = some x → (x :: l.eraseIdx i).Perm l
  | [], i, x, h => by simp at h
  | a :: r, 0, x, h => by
    cases h
    exact List.Perm.refl _
  | a :: r, i + 1, x, h => by
    rw [List.eraseIdx_cons_succ]
    exact (List.Perm.swap a x _).trans ((perm_pop r i x h).cons a)
/-- what is found and what is left -/
structure Part (fs ls : List Int) (k c : Int) : Prop where
  inn : ∀ d ∈ fs, 0 ≤ d ∧ d < c
  all : ((fs.map fun d => d % k) ++ ls).Perm (upto k)
theorem Part.start {k c : Int} : Part [] (upto k) k c := ⟨(fun d h => absurd h List.not_mem_nil), List.Perm.refl _⟩
theorem Part.len {fs ls : List Int} {k c : Int} (p : Part fs ls k c) : fs.length + ls.length = k.toNat := by
  have := p.all.length_eq
  rw [List.length_append, List.length_map, upto_len] at this
  exact this
theorem Part.left {fs ls : List Int} {k c r : Int} (p : Part fs ls k c) (h : r ∈ ls) : 0 ≤ r ∧ r < k := by
  have := p.all.mem_iff.mp (List.mem_append_right _ h)
  unfold upto at this
  obtain ⟨i, hi, rfl⟩ := List.mem_map.mp this
  have := List.mem_range.mp hi
  omega
theorem Part.step {fs ls : List Int} {k c r d : Int} {i : Nat} (p : Part fs ls k c) (h : ls[i]? = some r) (hd : d % k = r) (d0 : 0 ≤ d) (d1 : d < c) : Part (fs ++ [d]) (ls.eraseIdx i) k c := by
  refine ⟨fun x hx => ?_, ?_⟩
  · rcases List.mem_append.mp hx with z | z
    · exact p.inn x z
    · rw [List.mem_singleton.mp z]
      exact ⟨d0, d1⟩
  · rw [List.map_append, List.append_assoc]
    refine List.Perm.trans ?_ p.all
    refine List.Perm.append_left _ ?_
    show (d % k :: ls.eraseIdx i).Perm ls
    rw [hd]
    exact perm_pop ls i r h
theorem Part.done {fs : List Int} {k c : Int} (p : Part fs [] k c) : Choice fs k c := ⟨p.inn, by
  have := p.all
  rw [List.append_nil] at this
  exact this⟩
theorem picked_get {n : Nat} {p : Int → Bool} {i : Nat} (h : i < (picked n p).length) : ∃ z, (picked n p)[i]? = some z ∧ 0 ≤ z ∧ z < n ∧ p z = true := by
  have e := List.getElem?_eq_getElem h
  exact ⟨_, e, mem_picked.mp (List.mem_of_getElem? e)⟩
theorem picked_ne {n : Nat} {p : Int → Bool} {z : Int} (h0 : 0 ≤ z) (h1 : z < n) (h2 : p z = true) : 1 ≤ (picked n p).length :=
  List.length_pos_of_mem (mem_picked.mpr ⟨h0, h1, h2⟩)
theorem erase_ints (ns : List Int) (j : Nat) : (ns.map V.int).eraseIdx j = (ns.eraseIdx j).map V.int := map_eraseIdx' V.int ns j
/-- a way has the sums -/
theorem Pre.sums {x ss : List Int} {k top : Nat} (p : Pre x ss k top (ss.length + k - 1)) (s1 : 1 ≤ ss.length) (k1 : 1 ≤ k) : Has x ss k := by
  have hl := p.len
  refine ⟨k1, by omega, ?_⟩
  refine List.ext_getElem? fun i => ?_
  by_cases hi : i < ss.length
  · have h := p.has i (by omega)
    rw [wsums_get (by omega), List.getElem?_eq_getElem hi]
    unfold win at h
    rw [h, List.getD_eq_getElem?_getD, List.getElem?_eq_getElem hi]
    rfl
  · rw [List.getElem?_eq_none (by rw [wsums_len]; omega), List.getElem?_eq_none (by omega)]
theorem Pre.of {x : List Int} {k top : Nat} (k1 : 1 ≤ k) (kn : k ≤ x.length) (h : Btw 0 top x) : Pre x (wsums x k) k top ((wsums x k).length + k - 1) := by
  have wl := wsums_len x k
  refine ⟨by omega, h, fun j hj => ?_⟩
  rw [List.getD_eq_getElem?_getD, wsums_get (by omega)]
  rfl
/-- all ways of sums that a list has are at least one -/
theorem allW_some {x : List Int} {k top : Nat} (k1 : 1 ≤ k) (kn : k ≤ x.length) (h : Btw 0 top x) : 1 ≤ (allW (wsums x k) k top ((wsums x k).length + k - 1)).length := by
  have p := Pre.of k1 kn h
  exact List.length_pos_of_mem (allW_mem k1 p _ (Nat.le_refl _))
/-- four keywords in the opposite sequence -/
def gR4 {α : Type} : List α → List α → List α
  | [], [a, b, c, d] => [d, c, b, a]
  | _, _ => []
theorem rel_R4 {vs zs : List V} {us ws : List Value} (r : Vals vs us) (q : Vals zs ws) : Vals (gR4 vs zs) (gR4 us ws) := by
  cases r with
  | cons _ _ => exact .nil
  | nil =>
    cases q with
    | nil => exact .nil
    | cons a q =>
      cases q with
      | nil => exact .nil
      | cons b q =>
        cases q with
        | nil => exact .nil
        | cons c q =>
          cases q with
          | nil => exact .nil
          | cons d q =>
            cases q with
            | nil => exact .cons d (.cons c (.cons b (.cons a .nil)))
            | cons _ _ => exact .nil
theorem R4_inv {α : Type} {us ws : List α} (h : (gR4 us ws).length = 4) : ∃ a b c d, us = [] ∧ ws = [a, b, c, d] := by
  match us, ws, h with
  | [], [a, b, c, d], _ => exact ⟨a, b, c, d, rfl, rfl⟩
end Ws

set_option Elab.async false
set_option linter.all false
set_option maxRecDepth 100000
set_option maxHeartbeats 4000000
namespace Ws
open PySem PySem.Spec PyProof.Rows L2
/-! ### types of things, errors among them -/
def rTypX (K : PySem.W.Frag) : List V → Hp → VK → Prop := fun xs H Q => ∃ x, xs = [x] ∧ ((∃ T, TyB K H x T ∧ Q (.ty T) H) ∨ ∃ a C, x = .ref a ∧ H a = some (ExO (.ref C) a) ∧ Q (.ref C) H)
section
variable {X : Cx} {K : PySem.W.Frag}
theorem typX (h : X.K = K := by rfl) : CallR X (.type "type") (rTypX K) := by
  subst h
  intro pins s σ H xs us Q I r hh
  obtain ⟨x, rfl, ⟨T, t, q⟩ | ⟨a, C, rfl, ha, q⟩⟩ := hh
  · exact call_type1 pins s σ H _ us Q I r ⟨x, T, rfl, t, q⟩
  · obtain ⟨u, rfl, rx⟩ := vals1 r
    cases (show u = Value.ref a from rx)
    obtain ⟨⟨oe, vs, ho, hz, _⟩, _, _⟩ := I.hok a _ ha
    have hc : oe.cls = .ref C := hz.1
    exact call_type_obj ho (by rw [hc]; rfl) (by rw [hc]; exact ⟨.ref C, H, I, rfl, q⟩)
def rNotTyX : R2 := fun x y H Q => (∃ m n, x = .ty m ∧ y = .ty n ∧ Q (.bl (!decide (m = n))) H) ∨ ∃ a n, x = .ref a ∧ y = .ty n ∧ Q (.bl true) H
theorem notTyX : OpR X (compareOp .IsNot) rNotTyX := by
  intro pins s σ H x y v u Q I rx ry h
  rcases h with h | ⟨a, n, rfl, rfl, q⟩
  · exact op_isNotTy pins s σ H x y v u Q I rx ry h
  · cases (show v = Value.ref a from rx)
    cases (show u = Value.type n from ry)
    exact wpAny_isNot_plain rfl (fin_bl I q rfl)
end
/-! ### things that are no ways -/
/-- an item that is no integer -/
def Odd (K : PySem.W.Frag) (H : Hp) (x : V) : Prop := ∀ H', Same H H' → Ti K H' x false
theorem Odd.up {K : PySem.W.Frag} {H H' : Hp} {x : V} (h : Odd K H x) (s : Same H H') : Odd K H' x := fun H2 t => h H2 (s.trans t)
theorem Odd.non {K : PySem.W.Frag} {H : Hp} : Odd K H .non := fun _ _ => Ti.non
theorem Odd.str {K : PySem.W.Frag} {H : Hp} (x : Str) : Odd K H (.str x) := fun _ _ => Ti.str x
theorem Odd.bl {K : PySem.W.Frag} {H : Hp} (x : Bool) : Odd K H (.bl x) := fun _ _ => Ti.bl x
theorem Odd.lst {K : PySem.W.Frag} {H : Hp} {a : Addr} {xs : List V} (h : H a = some (.lst xs)) : Odd K H (.ref a) := fun H' s => Ti.no (.base (.lst (s _ _ h))) (kit_ty (by decide +kernel))
theorem Odd.tup {K : PySem.W.Frag} {H : Hp} {a : Addr} {xs : List V} (h : H a = some (.tup xs)) : Odd K H (.ref a) := fun H' s => Ti.no (.base (.tup (s _ _ h))) (kit_ty (by decide +kernel))
theorem TyB.up {K : PySem.W.Frag} {H H' : Hp} {x : V} {T : String} (h : TyB K H x T) (s : Same H H') : TyB K H' x T := by
  cases h with
  | non => exact .non
  | bl b => exact .bl b
  | int i => exact .int i
  | str y => exact .str y
  | byt b => exact .byt b
  | lst h => exact .lst (Same.seq s h)
  | tup h => exact .tup (Evl.ex_t s h)
  | dK h => exact .dK (s _ _ h)
/-- a thing that is no row of n integers -/
def Bad (K : PySem.W.Frag) (H : Hp) (n : Int) (x : V) : Prop :=
  (∃ a xs, x = .ref a ∧ H a = some (.lst xs) ∧ xs.length ≤ 50000 ∧ (∀ y ∈ xs, whole y = true ∨ Odd K H y) ∧ ((xs.length : Int) ≠ n ∨ ∃ y ∈ xs, whole y = false)) ∨
  (∃ T, TyB K H x T ∧ T ≠ "list") ∨ ∃ a C, x = .ref a ∧ H a = some (ExO (.ref C) a)
theorem Bad.up {K : PySem.W.Frag} {H H' : Hp} {n : Int} {x : V} (h : Bad K H n x) (s : Same H H') : Bad K H' n x := by
  rcases h with ⟨a, xs, e, h1, h2, h3, h4⟩ | ⟨T, h1, h2⟩ | ⟨a, C, e, h1⟩
  · exact .inl ⟨a, xs, e, s _ _ h1, h2, fun y hy => (h3 y hy).imp id fun o => o.up s, h4⟩
  · exact .inr (.inl ⟨T, TyB.up h1 s, h2⟩)
  · exact .inr (.inr ⟨a, C, e, s _ _ h1⟩)
def spRowInX (K : PySem.W.Frag) : Sp := fun vs H Q E => spRowIn K vs H Q E ∨ ∃ (a C : Addr) (c lo hi : Int), vs = [.ref a, .int c, .int lo, .int hi] ∧ H a = some (ExO (.ref C) a) ∧ Q (.bl false) H
def spMostOk : Sp := fun vs H Q _ => ∃ t : Int, vs = [.int t] ∧ 0 ≤ t ∧ t ≤ 999999999999999999999999999999 ∧ Q .non H
def spToldOk (K : PySem.W.Frag) : Sp := fun vs H Q _ => ∃ (a : Addr) (ss : List Int) (k t : Int), vs = [.ref a, .int k, .int t] ∧ SqL K H a (ss.map V.int) ∧
  1 ≤ ss.length ∧ 1 ≤ k ∧ k ≤ 8 ∧ k + ss.length ≤ 68 ∧ 0 ≤ t ∧ t ≤ 999999999999999999999999999999 ∧ ∀ H', Same H H' → Q .non H'
/-- whether numbers are a way -/
def isw (ss : List Int) (k t : Int) (ns : List Int) : Bool := (decide ((ns.length : Int) = ss.length + k - 1) && (ns.map V.int).all (wint 0 t)) && decide (wsums ns k.toNat = ss)
def spIsWay (K : PySem.W.Frag) : Sp := fun vs H Q _ => ∃ (a : Addr) (ss : List Int) (k t : Int) (x : V), vs = [.ref a, .int k, .int t, x] ∧ SqL K H a (ss.map V.int) ∧
  1 ≤ ss.length ∧ 1 ≤ k ∧ k ≤ 8 ∧ k + ss.length ≤ 68 ∧ 0 ≤ t ∧ t ≤ 999999999999999999999999999999 ∧
  ((∃ b ns, x = .ref b ∧ SqL K H b (ns.map V.int) ∧ ns.length ≤ 50000 ∧ ∀ H', Same H H' → Q (.bl (isw ss k t ns)) H') ∨ (Bad K H (ss.length + k - 1) x ∧ ∀ H', Same H H' → Q (.bl false) H'))
/-- numbers out of bounds -/
def outs (t : Int) (ns : List Int) : List Int := ns.filter fun x => decide (x < 0) || decide (t < x)
theorem outs_nil {t : Int} {ns : List Int} : decide (outs t ns = []) = (ns.map V.int).all (wint 0 t) := by
  rw [Bool.eq_iff_iff, decide_eq_true_iff, List.all_map, List.all_eq_true]
  unfold outs
  rw [List.filter_eq_nil_iff]
  refine forall_congr' fun x => forall_congr' fun _ => ?_
  show ¬ (decide (x < 0) || decide (t < x)) = true ↔ (decide (0 ≤ x) && decide (x ≤ t)) = true
  rw [Bool.or_eq_true, Bool.and_eq_true, decide_eq_true_iff, decide_eq_true_iff, decide_eq_true_iff, decide_eq_true_iff]
  omega
theorem outs_yes {t : Int} {ns : List Int} {i : Nat} {x : Int} (h : ns[i]? = some x) (p : (decide (x < 0) || decide (t < x)) = true) : outs t (ns.take (i + 1)) = outs t (ns.take i) ++ [x] := by
  unfold outs
  rw [take_next h, List.filter_append]
  exact congrArg _ (List.filter_cons_of_pos (l := []) p)
theorem outs_no {t : Int} {ns : List Int} {i : Nat} {x : Int} (h : ns[i]? = some x) (p : (decide (x < 0) || decide (t < x)) = false) : outs t (ns.take (i + 1)) = outs t (ns.take i) := by
  unfold outs
  rw [take_next h, List.filter_append]
  have e : [x].filter (fun x => decide (x < 0) || decide (t < x)) = [] := List.filter_cons_of_neg (l := []) (by rw [p]; exact Bool.false_ne_true)
  rw [e, List.append_nil]
theorem outs_len (t : Int) (ns : List Int) : (outs t ns).length ≤ ns.length := List.length_filter_le _ _
def spDue (K : PySem.W.Frag) : Sp := fun vs H Q _ => ∃ (a b : Addr) (ns ss : List Int) (k t : Int), vs = [.ref a, .ref b, .int k, .int t] ∧ SqL K H a (ns.map V.int) ∧ SqL K H b (ss.map V.int) ∧
  1 ≤ ss.length ∧ 1 ≤ k ∧ ns.length ≤ 1000 ∧ ∀ H', Same H H' → Q (.bl (isw ss k t ns)) H'
def spChanged (K : PySem.W.Frag) : Sp := fun vs H Q _ => ∃ (J a : Addr) (ns : List Int) (k n : Int), vs = [.ref J, .ref a, .int k] ∧ Jar H J n ∧ n ≤ 900000000 ∧ SqL K (cut J H) a (ns.map V.int) ∧ 1 ≤ ns.length ∧ ns.length ≤ 67 ∧ 1 ≤ k ∧
  ∀ (H' : Hp) (p : Addr) (ms : List Int), Fr J H H' → Jar H' J (n + 3) → H p = none → H' p = some (.lst ((ms : List Int).map V.int)) → (ms : List Int).length ≤ 68 → Q (.ref p) H'
theorem cut_ints (ns : List Int) (a b : Option Int) : ∃ ms : List Int, cutV (ns.map V.int) a b = ms.map V.int ∧ ms.length ≤ ns.length := by
  unfold cutV
  rw [← List.map_drop, ← List.map_take]
  exact ⟨_, rfl, by rw [List.length_take, List.length_drop]; omega⟩
theorem set_ints (ns : List Int) (j : Nat) (x : Int) : (ns.map V.int).set j (.int x) = (ns.set j x).map V.int := by
  rw [List.map_set]
theorem ixN_in {n : Nat} {i : Int} {j : Nat} (e : i = (j : Int)) (h : j < n) : ixN n i = some j := by
  rw [e]
  unfold ixN
  rw [if_pos (by omega), if_pos (by omega)]
  rfl
/-- two lists of ints, printed -/
theorem shw_two {ns ms : List Int} (h1 : Sml ns) (h2 : Sml ms) (l1 : ns.length ≤ 1000) (l2 : ms.length ≤ 1000) : Shw (.list [dI ns, dI ms]) := by
  have a := shw_ints h1 l1
  have b := shw_ints h2 l2
  refine shw_of ?_ ?_ ?_ ?_
  · have a1 := a.1
    have b1 := b.1
    simp only [PyData.showable, PyData.showableAll] at a1 b1 ⊢
    rw [a1, b1]
    rfl
  · simp only [PyData.hasDict, PyData.hasDictAll, dI, hasDict_ints]
    rfl
  · have c1 := cst_ints ns h1
    have c2 := cst_ints ms h2
    have e1 : ns.length * (1000 + 5) ≤ 1000 * 1005 := Nat.mul_le_mul l1 (Nat.le_refl _)
    have e2 : ms.length * (1000 + 5) ≤ 1000 * 1005 := Nat.mul_le_mul l2 (Nat.le_refl _)
    show (cstA (ns.map PyData.int) + 4) + 2 + ((cstA (ms.map PyData.int) + 4) + 2 + 0) + 4 ≤ _
    omega
  · have d1 : (dI ns).depth = 1 := by
      show PyData.depthAll (ns.map PyData.int) + 1 = 1
      rw [depth_ints]
    have d2 : (dI ms).depth = 1 := by
      show PyData.depthAll (ms.map PyData.int) + 1 = 1
      rw [depth_ints]
    simp only [PyData.depth, PyData.depthAll] at d1 d2 ⊢
    omega
end Ws
namespace Ws
open PySem PySem.Spec PyProof.Rows L2
/-- a new object, its heap named anew -/
@[elab_as_elim] theorem lay {motive : Hp → Prop} (G : Hp) {H : Hp} {p : Addr} {o : HO} (e : G = upd H p o) (h : H p = none) (k : ∀ G, Same H G → G p = some o → motive G) : motive G := by
  subst e
  exact k _ (Same.new h) upd_same
theorem cut_two {O J : Addr} {H H' : Hp} (s : Same H H') : Same (cut O (cut J H)) (cut O (cut J H')) := cut_mono (cut_mono s)
theorem cut_two_put {O J : Addr} {H : Hp} {o : HO} : cut O (cut J (upd H O o)) = cut O (cut J H) := by
  funext b
  unfold cut
  split
  · rfl
  · rename_i n
    split
    · rfl
    · exact upd_ne n
theorem cut_two_some {O J b : Addr} {H : Hp} {o : HO} (h : cut O (cut J H) b = some o) : H b = some o := (cut_some (cut_some h).2).2
theorem cut_two_of {O J b : Addr} {H : Hp} {o : HO} (h : H b = some o) (n : b ≠ O) (m : b ≠ J) : cut O (cut J H) b = some o := by
  rw [cut_ne n, cut_ne m]
  exact h
/-- behind a list that is new, too -/
theorem Fr.over {O J : Addr} {H H' H2 : Hp} (f : Fr J H H') (hO : H O = none) (s : Same (cut O (cut J H')) (cut O (cut J H2))) : Fr J H H2 := fun b o e => by
  have n : b ≠ O := fun z => by
    have := (cut_some e).2
    rw [z, hO] at this
    cases this
  have h1 := f b o e
  have h2 := s b o (by rw [cut_ne n]; exact h1)
  exact (cut_some h2).2
theorem DpAll.same {K : PySem.W.Frag} {H : Hp} {x : V} {d : PyData} (h : Dp K H x d) : ∀ n, DpAll K H (List.replicate n x) (List.replicate n d)
  | 0 => .nil
  | n + 1 => .cons h (DpAll.same h n)
theorem shw_bool (b : Bool) : Shw (.bool b) := shw_of rfl rfl (by show 8 ≤ _; decide) (by show 0 ≤ 60; decide)
end Ws
namespace Ws
open PySem PySem.Spec PyProof.Rows L2
theorem Fr.over2 {O J : Addr} {H H' H2 : Hp} (f : Fr J H H') (hO : H O = none) (s : Fr O H' H2) : Fr J H H2 := fun b o e => by
  have n : b ≠ O := fun z => by
    have := (cut_some e).2
    rw [z, hO] at this
    cases this
  obtain ⟨m, h1⟩ := cut_some (f b o e)
  rw [cut_ne m]
  exact s.get n h1
theorem Jar.fr {H H' : Hp} {J p : Addr} {n : Int} (h : Jar H J n) (f : Fr p H H') (hp : J ≠ p) : Jar H' J n := by
  obtain ⟨a, b, c, h1, h2⟩ := h
  exact ⟨a, b, c, f.get hp h1, h2⟩
theorem picked_in {n : Nat} {p : Int → Bool} {i : Nat} {x : V} (h : ((picked n p).map V.int)[i]? = some x) : ∃ z : Int, x = .int z ∧ 0 ≤ z ∧ z < n := by
  obtain ⟨y, hy, rfl⟩ := int_at h
  have := mem_picked.mp (List.mem_of_getElem? hy)
  exact ⟨y, rfl, this.1, this.2.1⟩
end Ws

set_option Elab.async false
set_option linter.all false
set_option maxRecDepth 100000
set_option maxHeartbeats 4000000
namespace Ws
open PySem PySem.Spec PyProof.Rows L2
/-! ### every k-th item from place i on -/
def stepL {α : Type} (xs : List α) (i k : Nat) : List α := (List.range ((xs.length - i + k - 1) / k)).filterMap fun j => xs[i + k * j]?
theorem step_count (n i : Nat) {k : Nat} (hk : 1 ≤ k) : (n - i + k - 1) / k ≤ n := by
  rcases Nat.eq_zero_or_pos (n - i) with z | z
  · rw [z, Nat.div_eq_of_lt (by omega)]
    exact Nat.zero_le _
  · refine Nat.le_trans (Nat.div_le_of_le_mul (n := n - i) ?_) (Nat.sub_le _ _)
    have e1 : n - i = (n - i - 1) + 1 := by omega
    have e2 : k * ((n - i - 1) + 1) = k * (n - i - 1) + k := by rw [Nat.mul_add, Nat.mul_one]
    have e3 : n - i - 1 ≤ k * (n - i - 1) := Nat.le_mul_of_pos_left _ (by omega)
    rw [← e1] at e2
    omega
theorem step_map {α β : Type} (f : α → β) (xs : List α) (i k : Nat) : stepL (xs.map f) i k = (stepL xs i k).map f := by
  unfold stepL
  rw [List.length_map, List.map_filterMap]
  congr 1
  funext j
  rw [List.getElem?_map]
theorem vals_filter {xs : List V} {us : List Value} (r : Vals xs us) (g : Nat → Nat) : ∀ js : List Nat, Vals (js.filterMap fun j => xs[g j]?) (js.filterMap fun j => us[g j]?)
  | [] => .nil
  | j :: t => by
    have ih := vals_filter r g t
    cases e : xs[g j]? with
    | none =>
      have hl := r.length
      have e2 : us[g j]? = none := by
        rw [List.getElem?_eq_none_iff] at e ⊢
        omega
      rw [List.filterMap_cons_none (f := fun j => xs[g j]?) e, List.filterMap_cons_none (f := fun j => us[g j]?) e2]
      exact ih
    | some x =>
      obtain ⟨u, e2, ru⟩ := r.get e
      rw [List.filterMap_cons_some (f := fun j => xs[g j]?) e, List.filterMap_cons_some (f := fun j => us[g j]?) e2]
      exact .cons ru ih
theorem vals_step {xs : List V} {us : List Value} (r : Vals xs us) (i k : Nat) : Vals (stepL xs i k) (stepL us i k) := by
  unfold stepL
  rw [← r.length]
  exact vals_filter r _ _
theorem step_mem {α : Type} {xs : List α} {i k : Nat} (hk : 1 ≤ k) {y : α} : y ∈ stepL xs i k ↔ ∃ j, xs[i + k * j]? = some y := by
  unfold stepL
  rw [List.mem_filterMap]
  constructor
  · rintro ⟨j, _, h⟩
    exact ⟨j, h⟩
  · rintro ⟨j, h⟩
    refine ⟨j, List.mem_range.mpr ?_, h⟩
    have hlt := (List.getElem?_eq_some_iff.mp h).1
    rw [Nat.lt_div_iff_mul_lt (by omega)]
    have : j * k = k * j := Nat.mul_comm _ _
    omega
theorem pick_step (us : List Value) (i k : Nat) (hi : i ≤ us.length) (hk : 1 ≤ k) : slicePick us.toArray (some (i : Int)) none (some (k : Int)) = (stepL us i k).toArray := by
  unfold slicePick stepL
  have eb : sliceBounds (some (i : Int)) none (some (k : Int)) us.toArray.size = ((i : Int), (us.length : Int), (k : Int)) := by
    rw [List.size_toArray]
    unfold sliceBounds
    simp
    omega
  rw [eb]
  congr 1
  unfold sliceRange
  have hk0 : (0 : Int) < k := by omega
  have ec : ((if (k : Int) > 0 then (if (i : Int) < us.length then ((us.length : Int) - i + k - 1) / k else 0) else (if (i : Int) > us.length then ((i : Int) - us.length - k - 1) / (-k) else 0) : Int)).toNat = (us.length - i + k - 1) / k := by
    rw [if_pos hk0]
    by_cases h : (i : Int) < us.length
    · rw [if_pos h]
      have e1 : (us.length : Int) - i + k - 1 = ((us.length - i + k - 1 : Nat) : Int) := by omega
      rw [e1, ← Int.natCast_ediv]
      rfl
    · rw [if_neg h]
      have e1 : us.length - i + k - 1 = k - 1 := by omega
      rw [e1, Nat.div_eq_of_lt (by omega)]
      rfl
  simp only
  rw [ec, List.filterMap_map]
  congr 1
  funext j
  show us.toArray[((i : Int) + k * (j : Int)).toNat]? = _
  have e2 : ((i : Int) + k * (j : Int)).toNat = i + k * j := by
    have : (k : Int) * (j : Int) = ((k * j : Nat) : Int) := by rw [Int.natCast_mul]
    omega
  rw [e2, List.getElem?_toArray]
end Ws
namespace Ws
open PySem PySem.Spec PyProof.Rows L2
section
variable {X : Cx} {K : PySem.W.Frag}
/-- xs[i::k] -/
def tStep (K : PySem.W.Frag) (te : TE) (tl ts : TO) : TE := fun σ H Q => te σ H fun x H1 => tl σ H1 fun l H2 => ts σ H2 fun st H3 => ∃ (a : Addr) (xs : List V) (i k : Int), x = .ref a ∧ l = some i ∧ st = some k ∧ SqL K H3 a xs ∧
  0 ≤ i ∧ i ≤ xs.length ∧ 1 ≤ k ∧ ∀ p, H3 p = none → Q (.ref p) (upd H3 p (.lst (stepL xs i.toNat k.toNat)))
theorem pe_stepL {e lo st : Expr} {te : TE} {tl ts : TE} {p3 pos : Pos} (he : PE X e te) (hl : PE X lo tl) (hst : PE X st ts) (hK : X.K = K := by rfl) :
    PE X (.Subscript e (.Slice (some lo) none (some st) p3) pos) (tStep K te (tPart tl) (tPart ts)) := by
  subst hK
  refine ⟨fun pins s σ H Q I h => ?_⟩
  refine Subscript_ (thn (he.run pins s σ H _ I h) fun v s1 ⟨x, H1, I1, r1, q1⟩ => ?_)
  refine wpAny_Slice (thn ((po_some hl).run pins s1 σ H1 _ I1 q1) fun vl s2 ⟨l, H2, I2, pl, q2⟩ => ?_)
  refine thn (po_none.run pins s2 σ H2 (fun o H3 => o = none ∧ H3 = H2) I2 ⟨rfl, rfl⟩) fun vu s3 ⟨u, H3, I3, pu, eu, e3⟩ => ?_
  subst eu e3
  refine thn ((po_some hst).run pins s3 σ H3 _ I3 q2) fun vs s4 ⟨o, H4, I4, ps, a, xs, i, k, ex, el, eo, hx, i0, i1, k1, q⟩ => ?_
  subst ex el eo
  cases r1
  have I5 : Inv X pins σ H4 { s4 with heap := s4.heap.push { cls := .type "slice", data := .fields #[vl, vu, vs] } } := I4.kept (t' := s4.toks) fun b ob q => Heap.get?_push_of_some _ q
  obtain ⟨its, r, ht, hz⟩ := I5.list hx
  have hlen := r.length
  show wpAny (model X.prog X.w) X.A (subscriptTail e (.Slice (some lo) none (some st) p3) (.ref a) (.ref s4.heap.objs.size)) (EP X pins σ Q) X.xe { s4 with heap := s4.heap.push { cls := .type "slice", data := .fields #[vl, vu, vs] } }
  refine tail_any (ops := [.ref a, .ref s4.heap.objs.size]) ht.isList.typeIs (PySem.slot_list_getitem.lookup) ?_ (by with_unfolding_all rfl)
  refine wpAny_getItem_list_slice ht.isList (Heap.IsSliceOf.new _ vl vu vs) pl pu ps (by intro z; have := Option.some.inj z; omega) ?_ (by rw [List.size_toArray]; omega)
  have ei : i = (i.toNat : Int) := by omega
  have ek : k = (k.toNat : Int) := by omega
  rw [ei, ek, pick_step its i.toNat k.toNat (by omega) (by omega)]
  refine ⟨.ref _, _, I5.laid (t' := s4.toks) (o := .lst (stepL xs i.toNat k.toNat)) (fun b ob q => Heap.get?_push_of_some _ q) (Nat.le_refl _) ?_, rfl, q _ (I5.hok.fresh (Nat.le_refl _))⟩
  have hc : (stepL xs i.toNat k.toNat).length ≤ sizeLine := by
    refine Nat.le_trans (List.length_filterMap_le _ _) ?_
    rw [List.length_range]
    have := step_count xs.length i.toNat (show 1 ≤ k.toNat by omega)
    omega
  exact ⟨hc, _, 0, vals_step r _ _, Heap.get?_push_size _ rfl⟩
/-- min(xs) of a list of pairs: one of them -/
def rMinP (K : PySem.W.Frag) : List V → Hp → VK → Prop := fun vs H Q => ∃ (p : Addr) (as : List Addr) (ps : List (Int × Int)), vs = [.ref p] ∧ SqL K H p (as.map V.ref) ∧ as.length = ps.length ∧ 0 < ps.length ∧
  (∀ (i : Nat) a q, as[i]? = some a → ps[i]? = some q → H a = some (.tup [.int q.1, .int q.2])) ∧
  ∀ (i : Nat) a q, as[i]? = some a → ps[i]? = some q → Q (.ref a) H
theorem dp_pairs {K : PySem.W.Frag} {H : Hp} : ∀ (as : List Addr) (ps : List (Int × Int)), as.length = ps.length → (∀ (i : Nat) a q, as[i]? = some a → ps[i]? = some q → H a = some (.tup [.int q.1, .int q.2])) →
    DpAll K H (as.map V.ref) (ps.map fun q => PyData.tuple [.int q.1, .int q.2])
  | [], [], _, _ => .nil
  | [], _ :: _, h, _ => by cases h
  | _ :: _, [], h, _ => by cases h
  | a :: as, q :: ps, h, hh => .cons (.tup (SqT.of (hh 0 a q rfl rfl)) (.cons (.int _) (.cons (.int _) .nil))) (dp_pairs as ps (Nat.succ.inj h) fun i a q h1 h2 => hh (i + 1) a q h1 h2)
theorem minP (hc : X.calm = true) (hu : X.A.units + 64 < cLine) (h : X.K = K := by rfl) : CallR X (.builtin "min") (rMinP K) := by
  subst h
  intro pins s σ H vs us Q I r hh
  obtain ⟨p, as, ps, rfl, hs, hl, hp, ht, q⟩ := hh
  obtain ⟨its, rv, hL, hz⟩ := I.list hs
  rw [Vals.ref1 r]
  cases ps with
  | nil => cases hp
  | cons q0 qs =>
    obtain ⟨bs, rd⟩ := Dp.readsAll I _ _ its (dp_pairs as (q0 :: qs) hl ht) rv
    have al : PySem.W.AlikeAll ((q0 :: qs).map fun q => PyData.tuple [.int q.1, .int q.2]) := by
      refine ⟨fun x hx y hy => ?_, fun x hx => ?_⟩
      · obtain ⟨a, _, rfl⟩ := List.mem_map.mp hx
        obtain ⟨b, _, rfl⟩ := List.mem_map.mp hy
        simp [PySem.W.alike, PySem.W.alikeAll]
      · obtain ⟨a, _, rfl⟩ := List.mem_map.mp hx
        intro z
        cases z
    have dep : PyData.depthAll ((q0 :: qs).map fun q => PyData.tuple [.int q.1, .int q.2]) ≤ 1 := by
      generalize q0 :: qs = l
      induction l with
      | nil => exact Nat.zero_le _
      | cons a t ih =>
        rw [List.map_cons]
        simp only [PyData.depthAll, PyData.depth] at ih ⊢
        omega
    refine PySem.W.min_list_data (vs := its.toArray) (I.ok.hd hc) hL.isList (by rw [List.toList_toArray]; exact rd) al (by show X.A.units + 1 + PyData.depthAll ((q0 :: qs).map fun q => PyData.tuple [.int q.1, .int q.2]) < cLine; omega) fun i v h' tk cs hv hr hk => ?_
    rw [List.getElem?_toArray] at hv
    have hi : i < its.length := (List.getElem?_eq_some_iff.mp hv).1
    have hr2 := rv.length
    rw [List.length_map] at hr2
    have ha : as[i]? = some as[i] := List.getElem?_eq_getElem (by omega)
    have hq : (q0 :: qs)[i]? = some (q0 :: qs)[i] := List.getElem?_eq_getElem (by omega)
    obtain ⟨u, hu2, ru⟩ := rv.get (x := V.ref as[i]) (i := i) (by rw [List.getElem?_map, ha]; rfl)
    rw [hv] at hu2
    cases hu2
    exact ⟨.ref as[i], H, I.kept hk, ru, q i _ _ ha hq⟩
end
/-- the turns of a step range, for a comprehension -/
theorem lc_rangeC {lo c : Int} {n : Nat} {g : TG} {tt : TT} {te : TE} {vs : List Nat} {σ : L2.St} {H1 : Hp} {D : Addr} {Qd : Hp → Prop} (Pv : Nat → Hp → Prop) (h0 : Pv 0 (upd H1 D (.lst [])))
    (hs : ∀ i H, i < n → Pv i H → g (.int (lo + (i : Nat) * c)) (wipe σ vs) H fun σ2 H2 => wipe σ2 vs = wipe σ vs ∧ tt σ2 H2 fun b H3 =>
      if b = true then te σ2 H3 fun y H4 => ∃ acc, H4 D = some (.lst acc) ∧ acc.length < sizeLine ∧ Pv (i + 1) (upd H4 D (.lst (acc ++ [y]))) else Pv (i + 1) H3) (hd : ∀ H, Pv n H → Qd H) :
    ∃ W : Nat → Nat → Hp → Prop, (∃ m, W 0 m (upd H1 D (.lst []))) ∧ ∀ i m H, W i m H →
      ((Itc lo c n).stop i H ∧ Qd H) ∨ ((Itc lo c n).go i H ∧ ∃ Nx : Hp → Prop, (∀ H', Nx H' → ∃ m', m' < m ∧ W (i + 1) m' H') ∧ ∀ x H', (Itc lo c n).yld i H x H' → g x (wipe σ vs) H' fun σ2 H2 => wipe σ2 vs = wipe σ vs ∧ tt σ2 H2 fun b H3 =>
        if b = true then te σ2 H3 fun y H4 => ∃ acc, H4 D = some (.lst acc) ∧ acc.length < sizeLine ∧ Nx (upd H4 D (.lst (acc ++ [y]))) else Nx H3) := by
  refine ⟨fun i m H => m = n - i ∧ i ≤ n ∧ Pv i H, ⟨n, by simp, Nat.zero_le _, h0⟩, ?_⟩
  rintro i m H ⟨rfl, hi, p⟩
  by_cases hlt : i < n
  · refine .inr ⟨hlt, Pv (i + 1), fun H' p' => ⟨n - (i + 1), by omega, rfl, hlt, p'⟩, fun x H' y => ?_⟩
    obtain ⟨e, y⟩ := y
    subst e y
    exact hs i _ hlt p
  · have e : i = n := by omega
    subst e
    exact .inl ⟨Nat.le_refl _, hd H p⟩
end Ws

set_option Elab.async false
set_option linter.all false
set_option maxRecDepth 100000
set_option maxHeartbeats 4000000
namespace Pv
open PySem PySem.Spec PyProof.Rows L2 Ws
variable {K : PySem.W.Frag}
/-! ### what expressions tell, by values alone: D data, Rz a result, Sl what a slot holds -/
abbrev D := PyData
inductive Rz where
  | sh (d : D)
  | own (ds : List D)
  | brw (i : Nat)
inductive Sl where
  | sh (d : D)
  | own (ds : List D)
abbrev Rho := List (Option Sl)
abbrev EM := Rho → Option (Rz × Rho)
abbrev AM := Rho → Option (List Rz × Rho)
abbrev TM := Rho → Option (Bool × Rho)
/-- entries of a dict from ints to ints -/
inductive KvR : List (Key × V) → List (D × D) → Prop
  | nil : KvR [] []
  | cons (i j : Int) {kvs : List (Key × V)} {ds : List (D × D)} : KvR kvs ds → KvR ((.inl i, .int j) :: kvs) ((.int i, .int j) :: ds)
mutual
inductive Rp (K : PySem.W.Frag) (F : Hp) : V → D → Prop
  | non : Rp K F .non .none
  | bl (b : Bool) : Rp K F (.bl b) (.bool b)
  | int (i : Int) : Rp K F (.int i) (.int i)
  | str (x : Str) : Rp K F (.str x) (.str x)
  | lst {a : Addr} {xs : List V} {ds : List D} : F a = some (.lst xs) → RpA K F xs ds → Rp K F (.ref a) (.list ds)
  | tup {a : Addr} {xs : List V} {ds : List D} : F a = some (.tup xs) → RpA K F xs ds → Rp K F (.ref a) (.tuple ds)
  /-- the script: a list of ints that is only read -/
  | scr {a : Addr} {ns : List Int} : SqL K F a (ns.map V.int) → Rp K F (.ref a) (.dict [(.list (ns.map PyData.int), .none)])
  /-- a dict from ints to ints that stays as it is -/
  | dct {a : Addr} {o : Obj} {kvs : List (Key × V)} {ds : List (D × D)} : F a = some (.frz o (.dK kvs)) → KvR kvs ds → Rp K F (.ref a) (.dict ds)
inductive RpA (K : PySem.W.Frag) (F : Hp) : List V → List D → Prop
  | nil : RpA K F [] []
  | cons {v : V} {vs : List V} {d : D} {ds : List D} : Rp K F v d → RpA K F vs ds → RpA K F (v :: vs) (d :: ds)
end
mutual
theorem Rp.up {F F' : Hp} (s : Same F F') : ∀ (d : D) (v : V), Rp K F v d → Rp K F' v d
  | .none, _, h => by cases h; exact .non
  | .bool _, _, h => by cases h; exact .bl _
  | .int _, _, h => by cases h; exact .int _
  | .str _, _, h => by cases h; exact .str _
  | .list ds, _, h => by
    cases h with
    | lst hs ha => exact .lst (s _ _ hs) (RpA.up s ds _ ha)
  | .tuple ds, _, h => by
    cases h with
    | tup hs ha => exact .tup (s _ _ hs) (RpA.up s ds _ ha)
  | .dict _, _, h => by
    cases h with
    | scr hs => exact .scr (Same.seq s hs)
    | dct hs hk => exact .dct (s _ _ hs) hk
theorem RpA.up {F F' : Hp} (s : Same F F') : ∀ (ds : List D) (vs : List V), RpA K F vs ds → RpA K F' vs ds
  | [], _, h => by cases h; exact .nil
  | d :: ds, _, h => by
    cases h with
    | cons h1 h2 => exact .cons (Rp.up s d _ h1) (RpA.up s ds _ h2)
end
mutual
theorem Rp.dp {F : Hp} : ∀ (d : D) (v : V), d.hasDict = false → Rp K F v d → Dp K F v d
  | .none, _, _, h => by cases h; exact .non
  | .bool _, _, _, h => by cases h; exact .bl _
  | .int _, _, _, h => by cases h; exact .int _
  | .str _, _, _, h => by cases h; exact .str _
  | .list ds, _, n, h => by
    cases h with
    | lst hs ha => exact .lst (SqL.of hs) (RpA.dp ds _ (by simpa only [PyData.hasDict] using n) ha)
  | .tuple ds, _, n, h => by
    cases h with
    | tup hs ha => exact .tup (SqT.of hs) (RpA.dp ds _ (by simpa only [PyData.hasDict] using n) ha)
  | .dict _, _, n, h => by simp [PyData.hasDict] at n
theorem RpA.dp {F : Hp} : ∀ (ds : List D) (vs : List V), PyData.hasDictAll ds = false → RpA K F vs ds → DpAll K F vs ds
  | [], _, _, h => by cases h; exact .nil
  | d :: ds, _, n, h => by
    have n1 : PyData.hasDict d = false ∧ PyData.hasDictAll ds = false := by simpa only [PyData.hasDictAll, Bool.or_eq_false_iff] using n
    cases h with
    | cons h1 h2 => exact .cons (Rp.dp d _ n1.1 h1) (RpA.dp ds _ n1.2 h2)
end
theorem RpA.length {F : Hp} : ∀ {vs : List V} {ds : List D}, RpA K F vs ds → vs.length = ds.length
  | _, _, .nil => rfl
  | _, _, .cons _ t => by rw [List.length_cons, List.length_cons, RpA.length t]
theorem RpA.get {F : Hp} : ∀ {vs : List V} {ds : List D} {i : Nat} {d : D}, RpA K F vs ds → ds[i]? = some d → ∃ v, vs[i]? = some v ∧ Rp K F v d
  | _, _, _, _, .nil, e => by simp at e
  | _, _, 0, _, .cons r _, e => by simp at e; subst e; exact ⟨_, rfl, r⟩
  | _, _, i + 1, d, .cons _ t, e => by
    obtain ⟨v, h1, h2⟩ := RpA.get (i := i) (d := d) t (by simpa using e)
    exact ⟨v, by simpa using h1, h2⟩
theorem RpA.append {F : Hp} : ∀ {vs ws : List V} {ds es : List D}, RpA K F vs ds → RpA K F ws es → RpA K F (vs ++ ws) (ds ++ es)
  | _, _, _, _, .nil, s => s
  | _, _, _, _, .cons r t, s => .cons r (RpA.append t s)
theorem RpA.take {F : Hp} : ∀ {vs : List V} {ds : List D} (n : Nat), RpA K F vs ds → RpA K F (vs.take n) (ds.take n)
  | _, _, 0, _ => .nil
  | _, _, _ + 1, .nil => .nil
  | _, _, n + 1, .cons r t => .cons r (RpA.take n t)
theorem RpA.drop {F : Hp} : ∀ {vs : List V} {ds : List D} (n : Nat), RpA K F vs ds → RpA K F (vs.drop n) (ds.drop n)
  | _, _, 0, r => r
  | _, _, _ + 1, .nil => .nil
  | _, _, n + 1, .cons _ t => RpA.drop n t
theorem RpA.set {F : Hp} {v : V} {d : D} (r : Rp K F v d) : ∀ {vs : List V} {ds : List D} (i : Nat), RpA K F vs ds → RpA K F (vs.set i v) (ds.set i d)
  | _, _, _, .nil => .nil
  | _, _, 0, .cons _ t => .cons r t
  | _, _, i + 1, .cons q t => .cons q (RpA.set r i t)
theorem RpA.erase {F : Hp} : ∀ {vs : List V} {ds : List D} (i : Nat), RpA K F vs ds → RpA K F (vs.eraseIdx i) (ds.eraseIdx i)
  | _, _, _, .nil => .nil
  | _, _, 0, .cons _ t => t
  | _, _, i + 1, .cons q t => .cons q (RpA.erase i t)
theorem RpA.reverse {F : Hp} : ∀ {vs : List V} {ds : List D}, RpA K F vs ds → RpA K F vs.reverse ds.reverse
  | _, _, .nil => .nil
  | _, _, .cons r t => by
    rw [List.reverse_cons, List.reverse_cons]
    exact RpA.append (RpA.reverse t) (.cons r .nil)
theorem RpA.snoc {F : Hp} {vs : List V} {ds : List D} {v : V} {d : D} (h : RpA K F vs ds) (r : Rp K F v d) : RpA K F (vs ++ [v]) (ds ++ [d]) := h.append (.cons r .nil)
theorem RpA.rep {F : Hp} {vs : List V} {ds : List D} (h : RpA K F vs ds) : ∀ k : Nat, RpA K F (List.replicate k vs).flatten (List.replicate k ds).flatten
  | 0 => .nil
  | k + 1 => by
    rw [List.replicate_succ, List.replicate_succ, List.flatten_cons, List.flatten_cons]
    exact h.append (RpA.rep h k)
theorem RpA.ints {F : Hp} : ∀ {vs : List V} {ns : List Int}, RpA K F vs (ns.map PyData.int) → vs = ns.map V.int
  | _, [], h => by cases h; rfl
  | _, n :: r, h => by
    cases h with
    | cons h1 h2 =>
      cases h1
      rw [List.map_cons, RpA.ints h2]
theorem RpA.ofInts {F : Hp} : ∀ (ns : List Int), RpA K F (ns.map V.int) (ns.map PyData.int)
  | [] => .nil
  | n :: r => .cons (.int n) (RpA.ofInts r)
theorem RpA.bls {F : Hp} : ∀ {vs : List V} {bs : List Bool}, RpA K F vs (bs.map PyData.bool) → vs = bs.map V.bl
  | _, [], h => by cases h; rfl
  | _, n :: r, h => by
    cases h with
    | cons h1 h2 =>
      cases h1
      rw [List.map_cons, RpA.bls h2]
/-! ### slots -/
def SlotR (K : PySem.W.Frag) (F H : Hp) (v : V) : Sl → Prop
  | .sh d => Rp K F v d
  | .own ds => ∃ p xs, v = .ref p ∧ H p = some (.lst xs) ∧ F p = none ∧ RpA K F xs ds
structure EnvR (K : PySem.W.Frag) (σ : L2.St) (ρ : Rho) (F H : Hp) : Prop where
  le : Same F H
  len : ρ.length = σ.length
  slot : ∀ (i : Nat) (s : Sl), ρ[i]? = some (some s) → ∃ v, σ[i]? = some (some v) ∧ SlotR K F H v s
  inj : ∀ (i j : Nat) (ds es : List D) (v : V), ρ[i]? = some (some (.own ds)) → ρ[j]? = some (some (.own es)) → σ[i]? = some (some v) → σ[j]? = some (some v) → i = j
def Owns (σ : L2.St) (ρ : Rho) (a : Addr) : Prop := ∃ (i : Nat) (ds : List D), ρ[i]? = some (some (.own ds)) ∧ σ[i]? = some (some (.ref a))
theorem EnvR.owns {σ : L2.St} {ρ : Rho} {F H : Hp} {a : Addr} (E : EnvR K σ ρ F H) (h : Owns σ ρ a) : ∃ xs, H a = some (.lst xs) ∧ F a = none := by
  obtain ⟨i, ds, h1, h2⟩ := h
  obtain ⟨v, h3, p, xs, rfl, h4, h5, _⟩ := E.slot i _ h1
  rw [h2] at h3
  cases h3
  exact ⟨xs, h4, h5⟩
structure Post (K : PySem.W.Frag) (σ : L2.St) (ρ : Rho) (F H : Hp) (ρ' : Rho) (F' H' : Hp) : Prop where
  env : EnvR K σ ρ' F' H'
  fle : Same F F'
  keep : ∀ a o, H a = some o → ¬ Owns σ ρ a → H' a = some o
  ex : ∀ a, H a ≠ none → H' a ≠ none
  fz : ∀ a, H a ≠ none → F a = none → ¬ Owns σ ρ a → F' a = none
  sub : ∀ (i : Nat) (ds : List D), ρ'[i]? = some (some (.own ds)) → ∃ es, ρ[i]? = some (some (.own es))
theorem Post.back {σ : L2.St} {ρ ρ' : Rho} {F H F' H' : Hp} (P : Post K σ ρ F H ρ' F' H') {a : Addr} (h : Owns σ ρ' a) : Owns σ ρ a := by
  obtain ⟨i, ds, h1, h2⟩ := h
  obtain ⟨es, h3⟩ := P.sub i ds h1
  exact ⟨i, es, h3, h2⟩
theorem Post.refl {σ : L2.St} {ρ : Rho} {F H : Hp} (E : EnvR K σ ρ F H) : Post K σ ρ F H ρ F H := ⟨E, Same.refl _, fun _ _ h _ => h, fun _ h => h, fun _ _ h _ => h, fun _ ds h => ⟨ds, h⟩⟩
theorem Post.trans {σ : L2.St} {ρ ρ1 ρ2 : Rho} {F H F1 H1 F2 H2 : Hp} (a : Post K σ ρ F H ρ1 F1 H1) (b : Post K σ ρ1 F1 H1 ρ2 F2 H2) : Post K σ ρ F H ρ2 F2 H2 where
  env := b.env
  fle := a.fle.trans b.fle
  keep := fun q o h n => b.keep q o (a.keep q o h n) fun z => n (a.back z)
  ex := fun q h => b.ex q (a.ex q h)
  fz := fun q h f n => b.fz q (a.ex q h) (a.fz q h f n) fun z => n (a.back z)
  sub := fun i ds h => let ⟨es, h1⟩ := b.sub i ds h; a.sub i es h1
def ResR (K : PySem.W.Frag) (σ : L2.St) (F' H0 H' : Hp) (v : V) : Rz → Prop
  | .sh d => Rp K F' v d
  | .own ds => ∃ p xs, v = .ref p ∧ H0 p = none ∧ H' p = some (.lst xs) ∧ F' p = none ∧ RpA K F' xs ds
  | .brw i => σ[i]? = some (some v)
theorem not_none {α : Type} {o : Option α} {x : α} (h : o = some x) : o ≠ none := by
  rw [h]
  exact fun z => nomatch z
theorem fresh_nown {σ : L2.St} {ρ ρ1 : Rho} {F H F1 H1 : Hp} {p : Addr} (E : EnvR K σ ρ F H) (P : Post K σ ρ F H ρ1 F1 H1) (h : H p = none) : ¬ Owns σ ρ1 p := fun z => by
  obtain ⟨xs, e, _⟩ := E.owns (P.back z)
  rw [h] at e
  cases e
theorem ResR.up {σ : L2.St} {ρ ρ1 ρ2 : Rho} {F H F1 H1 F2 H2 : Hp} {v : V} : ∀ {r : Rz}, EnvR K σ ρ F H → Post K σ ρ F H ρ1 F1 H1 → Post K σ ρ1 F1 H1 ρ2 F2 H2 → ResR K σ F1 H H1 v r → ResR K σ F2 H H2 v r
  | .sh d, _, _, b, h => Rp.up b.fle d v h
  | .own ds, E, a, b, ⟨p, xs, e, h0, h1, h2, h3⟩ => by
    have n := fresh_nown E a h0
    exact ⟨p, xs, e, h0, b.keep p _ h1 n, b.fz p (not_none h1) h2 n, RpA.up b.fle ds xs h3⟩
  | .brw i, _, _, _, h => h
theorem ResR.base {σ : L2.St} {F2 H H1 H2 : Hp} {v : V} (ex : ∀ a, H a ≠ none → H1 a ≠ none) : ∀ {r : Rz}, ResR K σ F2 H1 H2 v r → ResR K σ F2 H H2 v r
  | .sh _, h => h
  | .own _, ⟨p, xs, e, h0, h1⟩ => ⟨p, xs, e, Classical.byContradiction fun z => ex p z h0, h1⟩
  | .brw _, h => h
def EV (K : PySem.W.Frag) (te : TE) (m : EM) : Prop := ∀ (σ : L2.St) (ρ : Rho) (F H : Hp) (r : Rz) (ρ' : Rho), EnvR K σ ρ F H → m ρ = some (r, ρ') → ∀ Q : VK,
  (∀ v F' H', Post K σ ρ F H ρ' F' H' → ResR K σ F' H H' v r → Q v H') → te σ H Q
inductive ResA (K : PySem.W.Frag) (σ : L2.St) (F' H0 H' : Hp) : List V → List Rz → Prop
  | nil : ResA K σ F' H0 H' [] []
  | cons {v : V} {vs : List V} {r : Rz} {rs : List Rz} : ResR K σ F' H0 H' v r → ResA K σ F' H0 H' vs rs → (∀ ds, r = .own ds → ∀ (j : Nat) es, rs[j]? = some (.own es) → vs[j]? ≠ some v) → ResA K σ F' H0 H' (v :: vs) (r :: rs)
theorem ResA.length {σ : L2.St} {F H0 H : Hp} : ∀ {vs : List V} {rs : List Rz}, ResA K σ F H0 H vs rs → vs.length = rs.length
  | _, _, .nil => rfl
  | _, _, .cons _ t _ => by rw [List.length_cons, List.length_cons, ResA.length t]
theorem ResA.base {σ : L2.St} {F2 H H1 H2 : Hp} (ex : ∀ a, H a ≠ none → H1 a ≠ none) : ∀ {vs : List V} {rs : List Rz}, ResA K σ F2 H1 H2 vs rs → ResA K σ F2 H H2 vs rs
  | _, _, .nil => .nil
  | _, _, .cons a t n => .cons (ResR.base ex a) (ResA.base ex t) n
theorem ResA.get {σ : L2.St} {F H0 H : Hp} : ∀ {vs : List V} {rs : List Rz}, ResA K σ F H0 H vs rs → ∀ (i : Nat) v r, vs[i]? = some v → rs[i]? = some r → ResR K σ F H0 H v r
  | _, _, .nil, i, v, r, h, _ => by simp at h
  | _, _, .cons a t _, 0, v, r, h, k => by cases h; cases k; exact a
  | _, _, .cons a t _, i + 1, v, r, h, k => ResA.get t i v r (by simpa using h) (by simpa using k)
def AV (K : PySem.W.Frag) (ta : TA) (m : AM) : Prop := ∀ (σ : L2.St) (ρ : Rho) (F H : Hp) (rs : List Rz) (ρ' : Rho), EnvR K σ ρ F H → m ρ = some (rs, ρ') → ∀ Q : List V → Hp → Prop,
  (∀ vs F' H', Post K σ ρ F H ρ' F' H' → ResA K σ F' H H' vs rs → Q vs H') → ta σ H Q
def nilM : AM := fun ρ => some ([], ρ)
def consM (m : EM) (ms : AM) : AM := fun ρ => (m ρ).bind fun a => (ms a.2).bind fun b => some (a.1 :: b.1, b.2)
theorem bind_some {α β : Type} {o : Option α} {f : α → Option β} {z : β} (h : o.bind f = some z) : ∃ x, o = some x ∧ f x = some z := by
  cases o with
  | none => cases h
  | some x => exact ⟨x, rfl, h⟩
theorem av_nil : AV K tNil nilM := fun σ ρ F H rs ρ' E h Q q => by
  cases h
  exact q [] F H (Post.refl E) .nil
theorem av_cons {te : TE} {ta : TA} {m : EM} {ms : AM} (h1 : EV K te m) (h2 : AV K ta ms) : AV K (tCons te ta) (consM m ms) := fun σ ρ F H rs ρ' E h Q q => by
  obtain ⟨⟨r, ρ1⟩, e1, h⟩ := bind_some h
  obtain ⟨⟨rs2, ρ2⟩, e2, h⟩ := bind_some h
  cases h
  refine h1 σ ρ F H r ρ1 E e1 _ fun v F1 H1 P1 R1 => ?_
  refine h2 σ ρ1 F1 H1 rs2 _ P1.env e2 _ fun vs F2 H2 P2 R2 => ?_
  refine q _ F2 H2 (P1.trans P2) (.cons (ResR.up E P1 P2 R1) (ResA.base P1.ex R2) fun ds er j es ej ev => ?_)
  subst er
  obtain ⟨p, xs, rfl, h0, h1, _⟩ := R1
  obtain ⟨p', xs', e', h0', _⟩ := R2.get j _ _ ev ej
  cases e'
  rw [h1] at h0'
  cases h0'
def varM (i : Nat) : EM := fun ρ => match ρ[i]? with
  | some (some (.sh d)) => some (.sh d, ρ)
  | some (some (.own _)) => some (.brw i, ρ)
  | _ => none
theorem ev_var {i : Nat} : EV K (tVar i) (varM i) := fun σ ρ F H r ρ' E h Q q => by
  unfold varM at h
  split at h
  · rename_i d e
    cases h
    obtain ⟨v, e1, e2⟩ := E.slot i _ e
    exact ⟨v, e1, q v F H (Post.refl E) e2⟩
  · rename_i ds e
    cases h
    obtain ⟨v, e1, e2⟩ := E.slot i _ e
    exact ⟨v, e1, q v F H (Post.refl E) e1⟩
  · cases h
def cM (d : D) : EM := fun ρ => some (.sh d, ρ)
theorem ev_c {v : V} {d : D} (h : ∀ F, Rp K F v d) : EV K (tC v) (cM d) := fun σ ρ F H r ρ' E e Q q => by
  cases e
  exact q v F H (Post.refl E) (h F)
theorem ev_int {i : Int} : EV K (tC (.int i)) (cM (.int i)) := ev_c fun _ => .int i
theorem ev_non : EV K (tC .non) (cM .none) := ev_c fun _ => .non
theorem ev_bl {b : Bool} : EV K (tC (.bl b)) (cM (.bool b)) := ev_c fun _ => .bl b
theorem ev_str {x : Str} : EV K (tC (.str x)) (cM (.str x)) := ev_c fun _ => .str x
/-! ### operations that read -/
def deref (ρ : Rho) : Rz → Option D
  | .sh d => some d
  | .own ds => some (.list ds)
  | .brw i => match ρ[i]? with
    | some (some (.sh d)) => some d
    | some (some (.own ds)) => some (.list ds)
    | _ => none
def derefL (ρ : Rho) : List Rz → Option (List D)
  | [] => some []
  | r :: rs => (deref ρ r).bind fun d => (derefL ρ rs).bind fun ds => some (d :: ds)
/-- what stands in d can be read of v -/
def Cont (K : PySem.W.Frag) (F H : Hp) (v : V) (d : D) : Prop := Rp K F v d ∨ ∃ p xs ds, d = .list ds ∧ v = .ref p ∧ H p = some (.lst xs) ∧ RpA K F xs ds
inductive ContA (K : PySem.W.Frag) (F H : Hp) : List V → List D → Prop
  | nil : ContA K F H [] []
  | cons {v : V} {vs : List V} {d : D} {ds : List D} : Cont K F H v d → ContA K F H vs ds → ContA K F H (v :: vs) (d :: ds)
theorem Cont.of {σ : L2.St} {ρ : Rho} {F H0 H : Hp} {v : V} {d : D} (E : EnvR K σ ρ F H) : ∀ {r : Rz}, ResR K σ F H0 H v r → deref ρ r = some d → Cont K F H v d
  | .sh d, h, e => by cases e; exact .inl h
  | .own ds, ⟨p, xs, ev, h0, h1, h2, h3⟩, e => by cases e; exact .inr ⟨p, xs, ds, rfl, ev, h1, h3⟩
  | .brw i, h, e => by
    unfold deref at e
    simp only at e
    split at e
    · rename_i d' e1
      cases e
      obtain ⟨v', e2, e3⟩ := E.slot i _ e1
      rw [show σ[i]? = some (some v) from h] at e2
      cases e2
      exact .inl e3
    · rename_i ds e1
      cases e
      obtain ⟨v', e2, p, xs, e3, e4, e5, e6⟩ := E.slot i _ e1
      rw [show σ[i]? = some (some v) from h] at e2
      cases e2
      exact .inr ⟨p, xs, ds, rfl, e3, e4, e6⟩
    · cases e
theorem ContA.of {σ : L2.St} {ρ : Rho} {F H0 H : Hp} (E : EnvR K σ ρ F H) : ∀ {vs : List V} {rs : List Rz} {ds : List D}, ResA K σ F H0 H vs rs → derefL ρ rs = some ds → ContA K F H vs ds
  | _, _, _, .nil, e => by cases e; exact .nil
  | _, _, _, .cons a t _, e => by
    obtain ⟨d, e1, e⟩ := bind_some e
    obtain ⟨ds, e2, e⟩ := bind_some e
    cases e
    exact .cons (Cont.of E a e1) (ContA.of E t e2)
theorem Cont.int {F H : Hp} {v : V} {i : Int} (h : Cont K F H v (.int i)) : v = .int i := by
  rcases h with h | ⟨p, xs, ds, e, _⟩
  · cases h; rfl
  · cases e
theorem Cont.bool {F H : Hp} {v : V} {i : Bool} (h : Cont K F H v (.bool i)) : v = .bl i := by
  rcases h with h | ⟨p, xs, ds, e, _⟩
  · cases h; rfl
  · cases e
theorem Cont.str {F H : Hp} {v : V} {i : Str} (h : Cont K F H v (.str i)) : v = .str i := by
  rcases h with h | ⟨p, xs, ds, e, _⟩
  · cases h; rfl
  · cases e
theorem Cont.list {F H : Hp} {v : V} {ds : List D} (le : Same F H) (h : Cont K F H v (.list ds)) : ∃ p xs, v = .ref p ∧ H p = some (.lst xs) ∧ RpA K F xs ds := by
  rcases h with h | ⟨p, xs, ds', e, h1, h2, h3⟩
  · cases h with
    | lst h1 h2 => exact ⟨_, _, rfl, le _ _ h1, h2⟩
  · cases e
    exact ⟨p, xs, h1, h2, h3⟩
theorem Cont.tuple {F H : Hp} {v : V} {ds : List D} (le : Same F H) (h : Cont K F H v (.tuple ds)) : ∃ p xs, v = .ref p ∧ H p = some (.tup xs) ∧ RpA K F xs ds := by
  rcases h with h | ⟨p, xs, ds', e, h1, h2, h3⟩
  · cases h with
    | tup h1 h2 => exact ⟨_, _, rfl, le _ _ h1, h2⟩
  · cases e
theorem Cont.dp {F H : Hp} {v : V} {d : D} (n : d.hasDict = false) (le : Same F H) (h : Cont K F H v d) : Dp K H v d := by
  rcases h with h | ⟨p, xs, ds', e, h1, h2, h3⟩
  · exact Rp.dp d v n (Rp.up le d v h)
  · subst e h1
    exact .lst (SqL.of h2) (RpA.dp ds' xs (by simpa only [PyData.hasDict] using n) (RpA.up le ds' xs h3))
theorem Cont.scr {F H : Hp} {v : V} {ds : List D} (le : Same F H) (h : Cont K F H v (.dict [(.list ds, .none)])) : ∃ (p : Addr) (ns : List Int), v = .ref p ∧ SqL K H p (ns.map V.int) ∧ ds = ns.map PyData.int := by
  rcases h with h | ⟨p, xs, ds', e, _⟩
  · cases h with
    | scr h => exact ⟨_, _, rfl, Same.seq le h, rfl⟩
    | dct _ hk => cases hk
  · cases e
/-- a way that reads its arguments: what is made is new -/
def OpV (K : PySem.W.Frag) (r : List V → Hp → VK → Prop) (f : List D → Option Rz) : Prop := ∀ (F H : Hp) (vs : List V) (ds : List D) (z : Rz), Same F H → ContA K F H vs ds → f ds = some z → ∀ Q : VK,
  (∀ v F' H', Same F F' → Same H H' → Same F' H' → (∀ a, H a ≠ none → F' a = F a) → ResR K [] F' H H' v z → Q v H') → r vs H Q
theorem EnvR.grow {σ : L2.St} {ρ : Rho} {F H F' H' : Hp} (E : EnvR K σ ρ F H) (s : Same F F') (t : Same H H') (u : Same F' H') (n : ∀ a, H a ≠ none → F' a = F a) : EnvR K σ ρ F' H' := by
  refine ⟨u, E.len, fun i x e => ?_, E.inj⟩
  obtain ⟨v, h1, h2⟩ := E.slot i x e
  refine ⟨v, h1, ?_⟩
  cases x with
  | sh d => exact Rp.up s d v h2
  | own ds =>
    obtain ⟨p, xs, e1, e2, e3, e4⟩ := h2
    exact ⟨p, xs, e1, t _ _ e2, by rw [n p (not_none e2)]; exact e3, RpA.up s ds xs e4⟩
theorem Post.grow {σ : L2.St} {ρ : Rho} {F H F' H' : Hp} (E : EnvR K σ ρ F H) (s : Same F F') (t : Same H H') (u : Same F' H') (n : ∀ a, H a ≠ none → F' a = F a) : Post K σ ρ F H ρ F' H' :=
  ⟨E.grow s t u n, s, fun a o h _ => t a o h, fun a h => by
    cases e : H a with
    | none => exact absurd e h
    | some o => exact not_none (t a o e), fun a h f _ => by rw [n a h]; exact f, fun _ ds h => ⟨ds, h⟩⟩
theorem ResR.nil {σ : L2.St} {F H0 H : Hp} {v : V} : ∀ {r : Rz}, ResR K [] F H0 H v r → ResR K σ F H0 H v r
  | .sh _, h => h
  | .own _, h => h
  | .brw i, h => by
    unfold ResR at h
    simp at h
def opM (f : List D → Option Rz) (m : AM) : EM := fun ρ => (m ρ).bind fun a => (derefL a.2 a.1).bind fun ds => (f ds).bind fun z => some (z, a.2)
theorem ev_cb {r : List V → Hp → VK → Prop} {f : List D → Option Rz} {ta : TA} {m : AM} (o : OpV K r f) (h : AV K ta m) : EV K (tCB r ta) (opM f m) := fun σ ρ F H z ρ' E e Q q => by
  obtain ⟨⟨rs, ρ1⟩, e1, e⟩ := bind_some e
  obtain ⟨ds, e2, e⟩ := bind_some e
  obtain ⟨z', e3, e⟩ := bind_some e
  cases e
  refine h σ ρ F H rs _ E e1 _ fun vs F1 H1 P1 R1 => ?_
  refine o F1 H1 vs ds z P1.env.le (ContA.of P1.env R1 e2) e3 _ fun v F2 H2 s t u n Rz => ?_
  have P2 := Post.grow P1.env s t u n
  exact q v F2 H2 (P1.trans P2) (ResR.base P1.ex Rz.nil)
def l2 (r : R2) : List V → Hp → VK → Prop := fun vs H Q => match vs with
  | [x, y] => r x y H Q
  | _ => False
def l1 (r : V → Hp → VK → Prop) : List V → Hp → VK → Prop := fun vs H Q => match vs with
  | [x] => r x H Q
  | _ => False
def arg1 (m : EM) : AM := consM m nilM
def arg2 (m n : EM) : AM := consM m (consM n nilM)
theorem ev_op {r : R2} {f : List D → Option Rz} {ta tb : TE} {m n : EM} (o : OpV K (l2 r) f) (ha : EV K ta m) (hb : EV K tb n) : EV K (tOp r ta tb) (opM f (arg2 m n)) :=
  ev_cb (r := l2 r) (ta := tCons ta (tCons tb tNil)) o (av_cons ha (av_cons hb av_nil))
theorem ev_un {r : V → Hp → VK → Prop} {f : List D → Option Rz} {ta : TE} {m : EM} (o : OpV K (l1 r) f) (ha : EV K ta m) : EV K (tUn r ta) (opM f (arg1 m)) :=
  ev_cb (r := l1 r) (ta := tCons ta tNil) o (av_cons ha av_nil)
/-! ### what is made and frozen at once; what is new -/
theorem op_sh {F H : Hp} {v : V} {d : D} {Q : VK} (le : Same F H) (h : Rp K F v d) (q : ∀ v F' H', Same F F' → Same H H' → Same F' H' → (∀ a, H a ≠ none → F' a = F a) → ResR K [] F' H H' v (.sh d) → Q v H') : Q v H :=
  q v F H (Same.refl _) (Same.refl _) le (fun _ _ => rfl) h
theorem fresh_F {F H : Hp} {p : Addr} (le : Same F H) (h : H p = none) : F p = none := by
  cases e : F p with
  | none => rfl
  | some o =>
    rw [le p o e] at h
    cases h
theorem op_new {F H : Hp} {xs : List V} {ds : List D} {Q : VK} {p : Addr} (le : Same F H) (hp : H p = none) (h : RpA K F xs ds) (q : ∀ v F' H', Same F F' → Same H H' → Same F' H' → (∀ a, H a ≠ none → F' a = F a) → ResR K [] F' H H' v (.own ds) → Q v H') : Q (.ref p) (upd H p (.lst xs)) :=
  q _ F _ (Same.refl _) (Same.new hp) (le.trans (Same.new hp)) (fun _ _ => rfl) ⟨p, xs, rfl, hp, upd_same, fresh_F le hp, h⟩
theorem op_tup {F H : Hp} {xs : List V} {ds : List D} {Q : VK} {p : Addr} (le : Same F H) (hp : H p = none) (h : RpA K F xs ds) (q : ∀ v F' H', Same F F' → Same H H' → Same F' H' → (∀ a, H a ≠ none → F' a = F a) → ResR K [] F' H H' v (.sh (.tuple ds)) → Q v H') : Q (.ref p) (upd H p (.tup xs)) := by
  have s : Same F (upd F p (.tup xs)) := Same.new (fresh_F le hp)
  refine q _ (upd F p (.tup xs)) _ s (Same.new hp) (fun a o e => ?_) (fun a h => upd_ne fun z => h (by rw [z]; exact hp)) (.tup upd_same (RpA.up s ds xs h))
  by_cases z : a = p
  · subst z
    rw [upd_same] at e ⊢
    exact e
  · rw [upd_ne z] at e ⊢
    exact le a o e
end Pv

set_option Elab.async false
set_option linter.all false
set_option maxRecDepth 100000
set_option maxHeartbeats 4000000
namespace Ws
open PySem PySem.Spec PyProof.Rows L2
/-! ### ranges with steps -/
theorem rg_step {r k n : Int} (h0 : 0 ≤ r) (hr : r ≤ 5000) (hn0 : 0 ≤ n) (hn : n ≤ 1000) (hk : 1 ≤ k) (hk8 : k ≤ 8) : RgC r n k ((n.toNat - r.toNat + k.toNat - 1) / k.toNat) := by
  by_cases h : r < n
  · have a := rg_tied h0 h hn hk hk8
    have e : ((n - r - 1) / k + 1).toNat = (n.toNat - r.toNat + k.toNat - 1) / k.toNat := by
      have ek : k = (k.toNat : Int) := by omega
      have e1 : n - r - 1 = ((n.toNat - r.toNat - 1 : Nat) : Int) := by omega
      rw [e1]
      conv => lhs; rw [ek]
      rw [← Int.natCast_ediv]
      have e2 : n.toNat - r.toNat + k.toNat - 1 = (n.toNat - r.toNat - 1) + k.toNat := by omega
      rw [e2, Nat.add_div_right _ (by omega)]
      generalize (n.toNat - r.toNat - 1) / k.toNat = z
      show ((z : Int) + 1).toNat = z + 1
      omega
    rw [← e]
    exact a
  · have e : (n.toNat - r.toNat + k.toNat - 1) / k.toNat = 0 := Nat.div_eq_of_lt (by omega)
    rw [e]
    refine ⟨by omega, by omega, ?_, ?_⟩
    · have fit : ∀ x : Int, -100000 ≤ x → x ≤ 100000 → Builtin.Range.rangeFitsLong x = true := fun x a b => by
        unfold Builtin.Range.rangeFitsLong
        simp only [Bool.and_eq_true, decide_eq_true_eq]
        omega
      unfold Builtin.Range.small
      have es : Builtin.Range.rangeSize r n k = 0 := by
        unfold Builtin.Range.rangeSize
        rw [if_pos (by omega), if_neg h]
      rw [es, fit r (by omega) (by omega), fit n (by omega) (by omega), fit k (by omega) (by omega), fit 0 (by omega) (by omega), if_pos (show k > 0 by omega), fit _ (by omega) (by omega)]
      simp
    · unfold Builtin.Range.rangeSize
      rw [if_pos (by omega), if_neg h]
      rfl
theorem cnt_lt {m k j : Nat} (hk : 1 ≤ k) (h : j < (m + k - 1) / k) : k * j < m := by
  rw [Nat.lt_div_iff_mul_lt (by omega)] at h
  have : j * k = k * j := Nat.mul_comm _ _
  omega
/-- the items by steps, one by one -/
theorem step_eq {α : Type} (xs : List α) (i k : Nat) (hk : 1 ≤ k) (d : α) : stepL xs i k = (List.range ((xs.length - i + k - 1) / k)).map fun j => xs.getD (i + k * j) d := by
  unfold stepL
  have e : ∀ js : List Nat, (∀ j ∈ js, i + k * j < xs.length) → js.filterMap (fun j => xs[i + k * j]?) = js.map fun j => xs.getD (i + k * j) d := by
    intro js
    induction js with
    | nil => intro _; rfl
    | cons j t ih =>
      intro h
      have hj := h j List.mem_cons_self
      rw [List.filterMap_cons_some (f := fun j => xs[i + k * j]?) (List.getElem?_eq_getElem hj), List.map_cons, ih fun x hx => h x (List.mem_cons_of_mem _ hx), List.getD_eq_getElem?_getD, List.getElem?_eq_getElem hj]
      rfl
  refine e _ fun j hj => ?_
  have := cnt_lt hk (List.mem_range.mp hj)
  omega
/-! ### the least and the greatest of a list -/
def mn : List Int → Int
  | [] => 0
  | a :: r => r.foldl min a
theorem mn_fold : ∀ (r : List Int) (a : Int), (r.foldl min a = a ∨ r.foldl min a ∈ r) ∧ r.foldl min a ≤ a ∧ ∀ y ∈ r, r.foldl min a ≤ y
  | [], a => ⟨.inl rfl, Int.le_refl a, fun y h => absurd h List.not_mem_nil⟩
  | b :: r, a => by
    obtain ⟨h1, h2, h3⟩ := mn_fold r (min a b)
    rw [List.foldl_cons]
    refine ⟨?_, by omega, fun y hy => ?_⟩
    · rcases h1 with e | e
      · rw [e]
        rcases Int.le_total a b with z | z
        · rw [Int.min_eq_left z]
          exact .inl rfl
        · rw [Int.min_eq_right z]
          exact .inr List.mem_cons_self
      · exact .inr (List.mem_cons_of_mem _ e)
    · rcases List.mem_cons.mp hy with e | e
      · rw [e]
        omega
      · exact h3 y e
theorem mn_mem {l : List Int} (h : 0 < l.length) : mn l ∈ l := by
  cases l with
  | nil => cases h
  | cons a r =>
    rcases (mn_fold r a).1 with e | e
    · show r.foldl min a ∈ _
      rw [e]
      exact List.mem_cons_self
    · exact List.mem_cons_of_mem _ e
theorem mn_le {l : List Int} {y : Int} (h : y ∈ l) : mn l ≤ y := by
  cases l with
  | nil => cases h
  | cons a r =>
    rcases List.mem_cons.mp h with e | e
    · rw [e]
      exact (mn_fold r a).2.1
    · exact (mn_fold r a).2.2 y e
theorem mn_uniq {l : List Int} {m : Int} (h : m ∈ l) (hm : ∀ y ∈ l, m ≤ y) : m = mn l := by
  have a := mn_le h
  have b := hm _ (mn_mem (List.length_pos_of_mem h))
  omega
def mx (l : List Int) : Int := -(mn (l.map fun x => -x))
theorem mx_mem {l : List Int} (h : 0 < l.length) : mx l ∈ l := by
  have := mn_mem (l := l.map fun x => -x) (by rw [List.length_map]; exact h)
  obtain ⟨x, hx, e⟩ := List.mem_map.mp this
  unfold mx
  rw [← e, Int.neg_neg]
  exact hx
theorem le_mx {l : List Int} {y : Int} (h : y ∈ l) : y ≤ mx l := by
  have := mn_le (List.mem_map.mpr ⟨y, h, rfl⟩ : -y ∈ l.map fun x => -x)
  unfold mx
  omega
theorem mx_uniq {l : List Int} {m : Int} (h : m ∈ l) (hm : ∀ y ∈ l, y ≤ m) : m = mx l := by
  have a := le_mx h
  have b := hm _ (mx_mem (List.length_pos_of_mem h))
  omega
/-! ### ranges of the first days -/
def rngs (os : List Int) (k : Nat) (t : Int) : List (Int × Int) := (List.range k).map fun c => (-(mn (stepL os c k)), t - mx (stepL os c k))
/-- starts, as little as possible first; b: by how much less than the high ends -/
def tak : List (Int × Int) → Int → List Int
  | [], _ => []
  | q :: r, b => (q.2 - min b (q.2 - q.1)) :: tak r (b - min b (q.2 - q.1))
def wf (st os : List Int) : List Int := (List.range os.length).map fun d => st.getD (d % st.length) 0 + os.getD d 0
/-- a list of pairs in a heap -/
def PairsAt (K : PySem.W.Frag) (H : Hp) (p : Addr) (ps : List (Int × Int)) : Prop := ∃ as : List Addr, SqL K H p (as.map V.ref) ∧ as.length = ps.length ∧ ∀ (i : Nat) a q, as[i]? = some a → ps[i]? = some q → H a = some (.tup [.int q.1, .int q.2])
theorem PairsAt.up {K : PySem.W.Frag} {H H' : Hp} {p : Addr} {ps : List (Int × Int)} (h : PairsAt K H p ps) (s : Same H H') : PairsAt K H' p ps := by
  obtain ⟨as, h1, h2, h3⟩ := h
  exact ⟨as, Same.seq s h1, h2, fun i a q e1 e2 => s _ _ (h3 i a q e1 e2)⟩
theorem PairsAt.get {K : PySem.W.Frag} {H : Hp} {p : Addr} {ps : List (Int × Int)} (h : PairsAt K H p ps) : ∃ xs : List V, SqL K H p xs ∧ xs.length = ps.length ∧ ∀ (i : Nat) x, xs[i]? = some x → ∃ a q, x = .ref a ∧ ps[i]? = some q ∧ H a = some (.tup [.int q.1, .int q.2]) := by
  obtain ⟨as, h1, h2, h3⟩ := h
  refine ⟨_, h1, by rw [List.length_map]; exact h2, fun i x hx => ?_⟩
  rw [List.getElem?_map] at hx
  cases e : as[i]? with
  | none => rw [e] at hx; cases hx
  | some a =>
    rw [e] at hx
    have hi : i < ps.length := by
      rw [← h2]
      exact (List.getElem?_eq_some_iff.mp e).1
    exact ⟨a, ps[i], (Option.some.inj hx).symm, List.getElem?_eq_getElem hi, h3 i a _ e (List.getElem?_eq_getElem hi)⟩
/-! ### promises -/
def Near (os : List Int) (k : Nat) (t : Int) : Prop := ∀ i j, i < os.length → j < os.length → i % k = j % k → os.getD j 0 - os.getD i 0 ≤ t
def spNear (K : PySem.W.Frag) : Sp := fun vs H Q _ => ∃ (o : Addr) (os : List Int) (k t : Int), vs = [.ref o, .int k, .int t] ∧ SqL K H o (os.map V.int) ∧ os.length ≤ 1000 ∧ 1 ≤ k ∧ k ≤ 8 ∧ Near os k.toNat t ∧ Q .non H
def spLowest (K : PySem.W.Frag) : Sp := fun vs H Q _ => ∃ (o : Addr) (os : List Int) (k : Int), vs = [.ref o, .int k] ∧ SqL K H o (os.map V.int) ∧ os.length ≤ 1000 ∧ 1 ≤ k ∧ k ≤ 8 ∧ k ≤ os.length ∧
  ∀ (H' : Hp) (p : Addr) (ds : List Int), Same H H' → H p = none → H' p = some (.lst (ds.map V.int)) → Choice ds k os.length → Q (.ref p) H'
/-- x is a way -/
structure Way (x ss : List Int) (k t : Int) : Prop where
  has : Has x ss k.toNat
  inn : Btw 0 t x
  k1 : 1 ≤ k
  k8 : k ≤ 8
  n67 : x.length ≤ 67
  t1 : t ≤ 999999999999999999999999999999
theorem Way.bd {x ss : List Int} {k t : Int} (w : Way x ss k t) (i : Nat) (h : i < x.length) : 0 ≤ x.getD i 0 ∧ x.getD i 0 ≤ t := by
  rw [List.getD_eq_getElem?_getD, List.getElem?_eq_getElem h]
  exact w.inn _ (List.getElem_mem h)
def spFree (K : PySem.W.Frag) : Sp := fun vs H Q _ => ∃ (a : Addr) (ss x : List Int) (k t : Int), vs = [.ref a, .int k, .int t] ∧ SqL K H a (ss.map V.int) ∧ Way x ss k t ∧ ∀ H', Same H H' → Q .non H'
def spStarts (K : PySem.W.Frag) : Sp := fun vs H Q _ => ∃ (o : Addr) (os : List Int) (k t : Int), vs = [.ref o, .int k, .int t] ∧ SqL K H o (os.map V.int) ∧ os.length ≤ 1000 ∧ 1 ≤ k ∧ k ≤ 8 ∧ k ≤ os.length ∧
  ∀ (H' : Hp) (p : Addr), Same H H' → H p = none → PairsAt K H' p (rngs os k.toNat t) → Q (.ref p) H'
def spTak (K : PySem.W.Frag) : Sp := fun vs H Q _ => ∃ (r : Addr) (ps : List (Int × Int)) (tot : Int), vs = [.ref r, .int tot] ∧ PairsAt K H r ps ∧ ps.length ≤ 1000 ∧
  ∀ (H' : Hp) (p : Addr), Same H H' → H p = none → H' p = some (.lst ((tak ps ((ps.map (·.2)).sum - tot)).map V.int)) → Q (.ref p) H'
def spWf (K : PySem.W.Frag) : Sp := fun vs H Q _ => ∃ (a o : Addr) (st os : List Int), vs = [.ref a, .ref o] ∧ SqL K H a (st.map V.int) ∧ SqL K H o (os.map V.int) ∧ 1 ≤ st.length ∧ os.length ≤ 1000 ∧
  ∀ (H' : Hp) (p : Addr), Same H H' → H p = none → H' p = some (.lst ((wf st os).map V.int)) → Q (.ref p) H'
/-- the days of a way, the first of them as little as possible -/
def lw (ss : List Int) (k t : Int) : List Int :=
  wf (tak (rngs (offL ss k.toNat (ss.length + k.toNat - 1)) k.toNat t) (((rngs (offL ss k.toNat (ss.length + k.toNat - 1)) k.toNat t).map (·.2)).sum - ss.getD 0 0)) (offL ss k.toNat (ss.length + k.toNat - 1))
def flip2 (q : Int × Int) : Int × Int := (-q.2, -q.1)
def gw (ss : List Int) (k t : Int) : List Int :=
  wf ((tak ((rngs (offL ss k.toNat (ss.length + k.toNat - 1)) k.toNat t).map flip2) ((((rngs (offL ss k.toNat (ss.length + k.toNat - 1)) k.toNat t).map flip2).map (·.2)).sum - -(ss.getD 0 0))).map fun x => -x) (offL ss k.toNat (ss.length + k.toNat - 1))
def spLw (K : PySem.W.Frag) (f : List Int → Int → Int → List Int) : Sp := fun vs H Q _ => ∃ (a : Addr) (ss x : List Int) (k t : Int), vs = [.ref a, .int k, .int t] ∧ SqL K H a (ss.map V.int) ∧ Way x ss k t ∧
  ∀ (H' : Hp) (p : Addr), Same H H' → H p = none → H' p = some (.lst ((f ss k t).map V.int)) → Q (.ref p) H'
theorem tak_len : ∀ (ps : List (Int × Int)) (b : Int), (tak ps b).length = ps.length
  | [], _ => rfl
  | q :: r, b => by
    rw [tak, List.length_cons, List.length_cons, tak_len r]
end Ws

set_option Elab.async false
set_option linter.all false
set_option maxRecDepth 100000
set_option maxHeartbeats 4000000
namespace Ws
open PySem PySem.Spec PyProof.Rows L2
/-! ### starts within ranges -/
def InR : List (Int × Int) → List Int → Prop
  | [], [] => True
  | q :: r, s :: t => q.1 ≤ s ∧ s ≤ q.2 ∧ InR r t
  | _, _ => False
def los (ps : List (Int × Int)) : Int := (ps.map (·.1)).sum
def his (ps : List (Int × Int)) : Int := (ps.map (·.2)).sum
theorem los_cons (q : Int × Int) (r : List (Int × Int)) : los (q :: r) = q.1 + los r := by
  unfold los
  rw [List.map_cons, List.sum_cons]
theorem his_cons (q : Int × Int) (r : List (Int × Int)) : his (q :: r) = q.2 + his r := by
  unfold his
  rw [List.map_cons, List.sum_cons]
theorem InR.len : ∀ {ps : List (Int × Int)} {z : List Int}, InR ps z → z.length = ps.length
  | [], [], _ => rfl
  | _ :: _, [], h => h.elim
  | [], _ :: _, h => h.elim
  | _ :: r, _ :: t, h => by rw [List.length_cons, List.length_cons, InR.len h.2.2]
theorem InR.sums : ∀ {ps : List (Int × Int)} {z : List Int}, InR ps z → los ps ≤ z.sum ∧ z.sum ≤ his ps
  | [], [], _ => ⟨Int.le_refl _, Int.le_refl _⟩
  | _ :: _, [], h => h.elim
  | [], _ :: _, h => h.elim
  | q :: r, s :: t, h => by
    have ih := InR.sums h.2.2
    have a := h.1
    have b := h.2.1
    rw [los_cons, his_cons, List.sum_cons]
    omega
theorem InR.of : ∀ {ps : List (Int × Int)} {z : List Int}, z.length = ps.length → (∀ (i : Nat) q s, ps[i]? = some q → z[i]? = some s → q.1 ≤ s ∧ s ≤ q.2) → InR ps z
  | [], [], _, _ => trivial
  | _ :: _, [], h, _ => by cases h
  | [], _ :: _, h, _ => by cases h
  | q :: r, s :: t, h, f => ⟨(f 0 q s rfl rfl).1, (f 0 q s rfl rfl).2, InR.of (Nat.succ.inj h) fun i a b e1 e2 => f (i + 1) a b e1 e2⟩
theorem InR.get : ∀ {ps : List (Int × Int)} {z : List Int}, InR ps z → ∀ (i : Nat) q s, ps[i]? = some q → z[i]? = some s → q.1 ≤ s ∧ s ≤ q.2
  | [], [], _, _, _, _, h, _ => by simp at h
  | _ :: _, [], h, _, _, _, _, _ => h.elim
  | [], _ :: _, h, _, _, _, _, _ => h.elim
  | q :: r, s :: t, h, 0, a, b, e1, e2 => by
    cases e1
    cases e2
    exact ⟨h.1, h.2.1⟩
  | q :: r, s :: t, h, i + 1, a, b, e1, e2 => InR.get h.2.2 i a b e1 e2
def Ord2 (ps : List (Int × Int)) : Prop := ∀ q ∈ ps, q.1 ≤ q.2
theorem InR.ord : ∀ {ps : List (Int × Int)} {z : List Int}, InR ps z → Ord2 ps
  | [], [], _ => fun q h => absurd h List.not_mem_nil
  | _ :: _, [], h => h.elim
  | [], _ :: _, h => h.elim
  | q :: r, s :: t, h => fun a ha => by
    rcases List.mem_cons.mp ha with e | e
    · rw [e]
      have := h.1
      have := h.2.1
      omega
    · exact InR.ord h.2.2 a e
theorem tak_ok : ∀ (ps : List (Int × Int)) (b : Int), Ord2 ps → 0 ≤ b → b ≤ his ps - los ps → InR ps (tak ps b) ∧ (tak ps b).sum = his ps - b
  | [], b, _, h0, h1 => by
    have e1 : his [] = 0 := rfl
    have e2 : los [] = 0 := rfl
    refine ⟨trivial, ?_⟩
    show (0 : Int) = _
    omega
  | q :: r, b, o, h0, h1 => by
    have hq := o q List.mem_cons_self
    rw [los_cons, his_cons] at h1
    rw [his_cons, tak, List.sum_cons]
    by_cases z : b ≤ q.2 - q.1
    · rw [Int.min_eq_left z]
      have hr : los r ≤ his r := by
        clear h1 z hq
        have o2 : Ord2 r := fun a ha => o a (List.mem_cons_of_mem _ ha)
        clear o
        induction r with
        | nil => exact Int.le_refl _
        | cons a t ih =>
          have := o2 a List.mem_cons_self
          have := ih fun c hc => o2 c (List.mem_cons_of_mem _ hc)
          rw [los_cons, his_cons]
          omega
      have ih := tak_ok r (b - b) (fun a ha => o a (List.mem_cons_of_mem _ ha)) (by omega) (by omega)
      refine ⟨⟨by omega, by omega, ih.1⟩, ?_⟩
      rw [ih.2]
      omega
    · rw [Int.min_eq_right (by omega)]
      have ih := tak_ok r (b - (q.2 - q.1)) (fun a ha => o a (List.mem_cons_of_mem _ ha)) (by omega) (by omega)
      refine ⟨⟨by omega, by omega, ih.1⟩, ?_⟩
      rw [ih.2]
      omega
theorem tak_zero : ∀ (ps : List (Int × Int)), Ord2 ps → (tak ps 0).sum = his ps
  | [], _ => rfl
  | q :: r, o => by
    have hq := o q List.mem_cons_self
    rw [tak, his_cons, List.sum_cons, Int.min_eq_left (by omega)]
    have := tak_zero r fun a ha => o a (List.mem_cons_of_mem _ ha)
    rw [show (0 : Int) - 0 = 0 from rfl, this]
    omega
/-- each start is the lowest, or all later ones are the highest -/
theorem tak_end : ∀ (ps : List (Int × Int)) (b : Int), Ord2 ps → 0 ≤ b → ∀ (c : Nat) q s, ps[c]? = some q → (tak ps b)[c]? = some s → s = q.1 ∨ ((tak ps b).drop (c + 1)).sum = his (ps.drop (c + 1))
  | [], _, _, _, _, _, _, h, _ => by simp at h
  | p :: r, b, o, h0, c, q, s, h1, h2 => by
    have hq := o p List.mem_cons_self
    have o2 : Ord2 r := fun a ha => o a (List.mem_cons_of_mem _ ha)
    cases c with
    | zero =>
      cases h1
      rw [tak] at h2 ⊢
      cases h2
      by_cases z : b ≤ p.2 - p.1
      · rw [Int.min_eq_left z]
        refine .inr ?_
        show (tak r (b - b)).sum = his r
        rw [Int.sub_self]
        exact tak_zero r o2
      · rw [Int.min_eq_right (by omega)]
        exact .inl (by omega)
    | succ c =>
      rw [tak] at h2 ⊢
      exact tak_end r _ o2 (by omega) c q s h1 h2
/-- the least of all -/
theorem tak_min : ∀ (ps : List (Int × Int)) (b : Int) (z : List Int), InR ps z → 0 ≤ b → z.sum = his ps - b → tak ps b = z ∨ List.Lex (· < ·) (tak ps b) z
  | [], _, [], _, _, _ => .inl rfl
  | _ :: _, _, [], h, _, _ => h.elim
  | [], _, _ :: _, h, _, _ => h.elim
  | q :: r, b, s :: t, h, h0, hs => by
    have st := InR.sums h.2.2
    have h1 := h.1
    have h2 := h.2.1
    rw [his_cons, List.sum_cons] at hs
    rw [tak]
    have ge : q.2 - min b (q.2 - q.1) ≤ s := by omega
    by_cases e : q.2 - min b (q.2 - q.1) = s
    · have ih := tak_min r (b - min b (q.2 - q.1)) t h.2.2 (by omega) (by omega)
      rw [e]
      rcases ih with i | i
      · rw [i]
        exact .inl rfl
      · exact .inr (.cons i)
    · exact .inr (.rel (by omega))
theorem flip_los : ∀ ps : List (Int × Int), los (ps.map flip2) = -(his ps)
  | [] => rfl
  | q :: r => by
    rw [List.map_cons, los_cons, his_cons, flip_los r]
    show -q.2 + _ = _
    omega
theorem flip_his : ∀ ps : List (Int × Int), his (ps.map flip2) = -(los ps)
  | [] => rfl
  | q :: r => by
    rw [List.map_cons, los_cons, his_cons, flip_his r]
    show -q.1 + _ = _
    omega
def neg (z : List Int) : List Int := z.map fun x => -x
theorem neg_sum : ∀ z : List Int, (neg z).sum = -z.sum
  | [] => rfl
  | x :: r => by
    show (-x :: neg r).sum = _
    rw [List.sum_cons, List.sum_cons, neg_sum r]
    omega
theorem neg_neg (z : List Int) : neg (neg z) = z := by
  unfold neg
  rw [List.map_map]
  conv => rhs; rw [← List.map_id z]
  refine List.map_congr_left fun x _ => ?_
  show - -x = x
  omega
theorem InR.flip : ∀ {ps : List (Int × Int)} {z : List Int}, InR ps z → InR (ps.map flip2) (neg z)
  | [], [], _ => trivial
  | _ :: _, [], h => h.elim
  | [], _ :: _, h => h.elim
  | q :: r, s :: t, h => by
    have a := h.1
    have b := h.2.1
    refine ⟨?_, ?_, InR.flip h.2.2⟩
    · show -q.2 ≤ -s
      omega
    · show -s ≤ -q.1
      omega
theorem flip_flip (ps : List (Int × Int)) : (ps.map flip2).map flip2 = ps := by
  rw [List.map_map]
  conv => rhs; rw [← List.map_id ps]
  refine List.map_congr_left fun x _ => ?_
  show (- -x.1, - -x.2) = x
  rw [Int.neg_neg, Int.neg_neg]
theorem InR.unflip {ps : List (Int × Int)} {z : List Int} (h : InR (ps.map flip2) z) : InR ps (neg z) := by
  have := h.flip
  rw [flip_flip] at this
  exact this
/-! ### ways from starts -/
theorem wf_len (st os : List Int) : (wf st os).length = os.length := by
  unfold wf
  rw [List.length_map, List.length_range]
theorem wf_at {st os : List Int} {d : Nat} (h : d < os.length) : (wf st os).getD d 0 = st.getD (d % st.length) 0 + os.getD d 0 := by
  unfold wf
  rw [List.getD_eq_getElem?_getD, List.getElem?_map, List.getElem?_range h]
  rfl
theorem range_getD : ∀ (st : List Int), (List.range st.length).map (fun i => st.getD i 0) = st := fun st => by
  refine List.ext_getElem? fun i => ?_
  by_cases h : i < st.length
  · rw [List.getElem?_map, List.getElem?_range h, List.getElem?_eq_getElem h]
    show some (st.getD i 0) = _
    rw [List.getD_eq_getElem?_getD, List.getElem?_eq_getElem h]
    rfl
  · rw [List.getElem?_eq_none (by rw [List.length_map, List.length_range]; omega), List.getElem?_eq_none (by omega)]
theorem rngs_at {os : List Int} {k c : Nat} {t : Int} (h : c < k) : (rngs os k t)[c]? = some (-(mn (stepL os c k)), t - mx (stepL os c k)) := by
  unfold rngs
  rw [List.getElem?_map, List.getElem?_range h]
  rfl
theorem rngs_len (os : List Int) (k : Nat) (t : Int) : (rngs os k t).length = k := by
  unfold rngs
  rw [List.length_map, List.length_range]
theorem way_n {x ss : List Int} {k t : Int} (w : Way x ss k t) : ss.length + k.toNat - 1 = x.length ∧ 1 ≤ ss.length := by
  have := w.has.len
  have := w.has.2.1
  have := w.k1
  omega
/-- the first numbers of a way lie in the ranges -/
theorem way_inr {x ss : List Int} {k t : Int} (w : Way x ss k t) : InR (rngs (offL ss k.toNat x.length) k.toNat t) (x.take k.toNat) ∧ (x.take k.toNat).sum = ss.getD 0 0 := by
  have kn := w.has.2.1
  have k1 := w.k1
  obtain ⟨en, s1⟩ := way_n w
  have lo := offL_len ss k.toNat x.length
  constructor
  · refine InR.of (by rw [rngs_len, List.length_take]; omega) fun i q s h1 h2 => ?_
    have hi : i < k.toNat := by
      have := (List.getElem?_eq_some_iff.mp h1).1
      rw [rngs_len] at this
      exact this
    rw [rngs_at hi] at h1
    cases h1
    rw [List.getElem?_take_of_lt hi] at h2
    have es : x.getD i 0 = s := by
      rw [List.getD_eq_getElem?_getD, h2]
      rfl
    have ne : 0 < (stepL (offL ss k.toNat x.length) i k.toNat).length := by
      refine List.length_pos_of_mem (a := off ss k.toNat i) ((step_mem (by omega)).mpr ⟨0, ?_⟩)
      rw [Nat.mul_zero, Nat.add_zero]
      exact offL_get (by omega)
    have each : ∀ y ∈ stepL (offL ss k.toNat x.length) i k.toNat, 0 ≤ s + y ∧ s + y ≤ t := fun y hy => by
      obtain ⟨j, hj⟩ := (step_mem (by omega)).mp hy
      have hlt := (List.getElem?_eq_some_iff.mp hj).1
      rw [lo] at hlt
      rw [offL_get hlt] at hj
      cases hj
      rw [off_has w.has _ hlt, Nat.add_mul_mod_self_left, Nat.mod_eq_of_lt hi, es]
      have := w.bd _ hlt
      omega
    have a := each _ (mn_mem ne)
    have b := each _ (mx_mem ne)
    constructor
    · show -(mn _) ≤ s
      omega
    · show s ≤ t - mx _
      omega
  · have h := w.has.at (j := 0) (by omega)
    rw [h]
    unfold win
    rw [List.drop_zero]
/-- starts within the ranges, of the right sum, make a way -/
theorem wf_way {x ss st : List Int} {k t : Int} (w : Way x ss k t) (hr : InR (rngs (offL ss k.toNat x.length) k.toNat t) st) (hs : st.sum = ss.getD 0 0) : Way (wf st (offL ss k.toNat x.length)) ss k t := by
  have kn := w.has.2.1
  have k1 := w.k1
  obtain ⟨en, s1⟩ := way_n w
  have lo := offL_len ss k.toNat x.length
  have ls : st.length = k.toNat := by rw [hr.len, rngs_len]
  have ln : (wf st (offL ss k.toNat x.length)).length = x.length := by rw [wf_len, lo]
  generalize hy : wf st (offL ss k.toNat x.length) = y at *
  have at_ : ∀ d, d < x.length → y.getD d 0 = st.getD (d % k.toNat) 0 + off ss k.toNat d := fun d hd => by
    rw [← hy, wf_at (by rw [lo]; exact hd), ls, List.getD_eq_getElem?_getD (l := offL ss k.toNat x.length), offL_get hd]
    rfl
  have inn : Btw 0 t y := by
    intro z hz
    obtain ⟨d, hd, e⟩ := List.getElem_of_mem hz
    have hd2 : d < x.length := by omega
    have e2 : y.getD d 0 = z := by
      rw [List.getD_eq_getElem?_getD, List.getElem?_eq_getElem hd, e]
      rfl
    rw [at_ d hd2] at e2
    have hm : d % k.toNat < k.toNat := Nat.mod_lt _ (by omega)
    have g := hr.get (d % k.toNat) _ (st.getD (d % k.toNat) 0) (rngs_at hm) (by rw [List.getD_eq_getElem?_getD, List.getElem?_eq_getElem (by omega)]; rfl)
    have mem : off ss k.toNat d ∈ stepL (offL ss k.toNat x.length) (d % k.toNat) k.toNat := (step_mem (by omega)).mpr ⟨d / k.toNat, by rw [Nat.mod_add_div]; exact offL_get hd2⟩
    have a := mn_le mem
    have b := le_mx mem
    have c1 : -(mn (stepL (offL ss k.toNat x.length) (d % k.toNat) k.toNat)) ≤ st.getD (d % k.toNat) 0 := g.1
    have c2 : st.getD (d % k.toNat) 0 ≤ t - mx (stepL (offL ss k.toNat x.length) (d % k.toNat) k.toNat) := g.2
    omega
  have w0 : win y 0 k.toNat = ss.getD 0 0 := by
    rw [← win_range (by omega), ← hs]
    have e : (List.range k.toNat).map (fun i => y.getD i 0) = st := by
      conv => rhs; rw [← range_getD st]
      rw [ls]
      refine List.map_congr_left fun i hi => ?_
      have := List.mem_range.mp hi
      rw [at_ i (by omega), Nat.mod_eq_of_lt this, off_lo this]
      omega
    rw [e]
  have wj : ∀ j, j < ss.length → win y j k.toNat = ss.getD j 0 := by
    intro j
    induction j with
    | zero => intro _; exact w0
    | succ j ih =>
      intro hj
      have a := win_step (x := y) (t := j) (k := k.toNat) (by omega)
      have b := ih (by omega)
      have c : off ss k.toNat (j + k.toNat) = off ss k.toNat j + ss.getD (j + 1) 0 - ss.getD j 0 := by
        rw [Nat.add_comm]
        exact off_hi (by omega)
      rw [at_ (j + k.toNat) (by omega), at_ j (by omega), c, Nat.add_mod_right] at a
      omega
  refine ⟨⟨by omega, by omega, ?_⟩, inn, k1, w.k8, by have := w.n67; omega, w.t1⟩
  refine List.ext_getElem? fun i => ?_
  by_cases hi : i < ss.length
  · have h := wj i hi
    rw [wsums_get (by omega), List.getElem?_eq_getElem hi]
    unfold win at h
    rw [h, List.getD_eq_getElem?_getD, List.getElem?_eq_getElem hi]
    rfl
  · rw [List.getElem?_eq_none (by rw [wsums_len]; omega), List.getElem?_eq_none (by omega)]
/-! ### the least and the greatest way -/
theorem tak_at {x ss : List Int} {k t : Int} (w : Way x ss k t) {ps : List (Int × Int)} {z : List Int} (h : InR ps z) (hs : z.sum = ss.getD 0 0) : 0 ≤ his ps - ss.getD 0 0 ∧ his ps - ss.getD 0 0 ≤ his ps - los ps := by
  have := h.sums
  omega
/-- what an end must show: no start can go a step on -/
def EndOk (ps : List (Int × Int)) (tot : Int) (w : List Int) (step : Int) : Prop := ∀ (c : Nat) q s, ps[c]? = some q → w[c]? = some s → q.1 ≤ s + step → s + step ≤ q.2 →
  ¬ (los (ps.drop (c + 1)) ≤ tot - ((w.take c).sum + (s + step)) ∧ tot - ((w.take c).sum + (s + step)) ≤ his (ps.drop (c + 1)))
theorem sum_cut (w : List Int) (c : Nat) (s : Int) (h : w[c]? = some s) : w.sum = (w.take c).sum + s + (w.drop (c + 1)).sum := by
  have hc := (List.getElem?_eq_some_iff.mp h).1
  conv => lhs; rw [← List.take_append_drop c w]
  rw [List.sum_append_int, List.drop_eq_getElem_cons hc, List.sum_cons]
  have e : w[c] = s := (List.getElem?_eq_some_iff.mp h).2
  rw [e]
  omega
theorem end_least {ps : List (Int × Int)} {b tot : Int} (o : Ord2 ps) (h0 : 0 ≤ b) (hs : (tak ps b).sum = tot) : EndOk ps tot (tak ps b) (-1) := by
  intro c q s h1 h2 l1 l2 ⟨l3, l4⟩
  have e := tak_end ps b o h0 c q s h1 h2
  have sc := sum_cut _ c s h2
  rcases e with e | e
  · omega
  · omega
theorem wf_take {st os : List Int} {k : Nat} (ls : st.length = k) (kn : k ≤ os.length) (k1 : 1 ≤ k) (z : ∀ i, i < k → os.getD i 0 = 0) : (wf st os).take k = st := by
  refine List.ext_getElem? fun i => ?_
  by_cases h : i < k
  · rw [List.getElem?_take_of_lt h]
    unfold wf
    rw [List.getElem?_map, List.getElem?_range (by omega)]
    show some (st.getD (i % st.length) 0 + os.getD i 0) = _
    rw [ls, Nat.mod_eq_of_lt h, z i h, List.getD_eq_getElem?_getD, List.getElem?_eq_getElem (by omega)]
    show some (_ + 0) = _
    rw [Int.add_zero]
    rfl
  · rw [List.getElem?_eq_none (by rw [List.length_take]; omega), List.getElem?_eq_none (by omega)]
theorem offL_zeros {ss : List Int} {k n i : Nat} (h : i < k) (kn : k ≤ n) : (offL ss k n).getD i 0 = 0 := by
  rw [List.getD_eq_getElem?_getD, offL_get (by omega)]
  exact off_lo h
/-- what is told of a way -/
structure Told (ss : List Int) (k t : Int) (n : Nat) (step : Int) (y : List Int) : Prop where
  way : Way y ss k t
  len : y.length = n
  fin : EndOk (rngs (offL ss k.toNat n) k.toNat t) (ss.getD 0 0) (y.take k.toNat) step
theorem lw_told {x ss : List Int} {k t : Int} (w : Way x ss k t) : Told ss k t x.length (-1) (lw ss k t) := by
  obtain ⟨en, s1⟩ := way_n w
  obtain ⟨hi, hs⟩ := way_inr w
  have kn := w.has.2.1
  have k1 := w.k1
  unfold lw
  rw [en]
  have sb := hi.sums
  have tk := tak_ok _ (his (rngs (offL ss k.toNat x.length) k.toNat t) - ss.getD 0 0) hi.ord (by omega) (by omega)
  have ts : (tak (rngs (offL ss k.toNat x.length) k.toNat t) (his (rngs (offL ss k.toNat x.length) k.toNat t) - ss.getD 0 0)).sum = ss.getD 0 0 := by omega
  show Told ss k t x.length (-1) (wf (tak (rngs (offL ss k.toNat x.length) k.toNat t) (his (rngs (offL ss k.toNat x.length) k.toNat t) - ss.getD 0 0)) (offL ss k.toNat x.length))
  refine ⟨wf_way w tk.1 ts, by rw [wf_len, offL_len], ?_⟩
  rw [wf_take (k := k.toNat) (by rw [tak_len, rngs_len]) (by rw [offL_len]; exact kn) (by omega) fun i h => offL_zeros h kn]
  exact end_least hi.ord (by omega) ts
theorem drop_neg (z : List Int) (c : Nat) : (neg z).drop c = neg (z.drop c) := by
  unfold neg
  rw [List.map_drop]
theorem take_neg (z : List Int) (c : Nat) : (neg z).take c = neg (z.take c) := by
  unfold neg
  rw [List.map_take]
theorem end_neg {ps : List (Int × Int)} {tot : Int} {z : List Int} (h : EndOk (ps.map flip2) (-tot) z (-1)) : EndOk ps tot (neg z) 1 := by
  intro c q s h1 h2 l1 l2 ⟨l3, l4⟩
  unfold neg at h2
  rw [List.getElem?_map] at h2
  cases e : z[c]? with
  | none => rw [e] at h2; cases h2
  | some v =>
    rw [e] at h2
    cases h2
    have g := h c (flip2 q) v (by rw [List.getElem?_map, h1]; rfl) e
    rw [take_neg, neg_sum] at l3 l4
    rw [← List.map_drop, flip_los, flip_his] at g
    have a1 : (flip2 q).1 = -q.2 := rfl
    have a2 : (flip2 q).2 = -q.1 := rfl
    rw [a1, a2] at g
    have l1' : q.1 ≤ -v + 1 := l1
    have l2' : -v + 1 ≤ q.2 := l2
    have l3' : los (ps.drop (c + 1)) ≤ tot - (-(z.take c).sum + (-v + 1)) := l3
    have l4' : tot - (-(z.take c).sum + (-v + 1)) ≤ his (ps.drop (c + 1)) := l4
    exact g (by omega) (by omega) ⟨by omega, by omega⟩
theorem gw_told {x ss : List Int} {k t : Int} (w : Way x ss k t) : Told ss k t x.length 1 (gw ss k t) := by
  obtain ⟨en, s1⟩ := way_n w
  obtain ⟨hi, hs⟩ := way_inr w
  have kn := w.has.2.1
  have k1 := w.k1
  unfold gw
  rw [en]
  have sb := hi.sums
  have hf := hi.flip
  have sf := hf.sums
  rw [neg_sum] at sf
  have tk := tak_ok _ (his ((rngs (offL ss k.toNat x.length) k.toNat t).map flip2) - -(ss.getD 0 0)) hf.ord (by omega) (by omega)
  have ts : (tak ((rngs (offL ss k.toNat x.length) k.toNat t).map flip2) (his ((rngs (offL ss k.toNat x.length) k.toNat t).map flip2) - -(ss.getD 0 0))).sum = -(ss.getD 0 0) := by omega
  show Told ss k t x.length 1 (wf (neg (tak ((rngs (offL ss k.toNat x.length) k.toNat t).map flip2) (his ((rngs (offL ss k.toNat x.length) k.toNat t).map flip2) - -(ss.getD 0 0)))) (offL ss k.toNat x.length))
  have ir := tk.1.unflip
  refine ⟨wf_way w ir (by rw [neg_sum]; omega), by rw [wf_len, offL_len], ?_⟩
  rw [wf_take (k := k.toNat) (by rw [ir.len, rngs_len]) (by rw [offL_len]; exact kn) (by omega) fun i h => offL_zeros h kn]
  exact end_neg (end_least hf.ord (by omega) ts)
end Ws
namespace Ws
open PySem PySem.Spec PyProof.Rows L2
/-! ### the order of all ways -/
abbrev Lx : List Int → List Int → Prop := List.Lex (· < ·)
theorem lx_app {a b : List Int} (h : Lx a b) : ∀ (c d : List Int), a.length = b.length → Lx (a ++ c) (b ++ d) := by
  induction h with
  | nil => intro c d e; cases e
  | rel h => intro c d _; exact .rel h
  | cons _ ih => intro c d e; exact .cons (ih c d (Nat.succ.inj e))
theorem lx_last {p q : Int} (h : p < q) : ∀ a : List Int, Lx (a ++ [p]) (a ++ [q])
  | [] => .rel h
  | _ :: r => .cons (lx_last h r)
theorem lx_asymm {a b : List Int} (h : Lx a b) : ¬ Lx b a := by
  induction h with
  | nil => intro g; cases g
  | rel h =>
    intro g
    cases g with
    | rel g => omega
    | cons _ => omega
  | cons _ ih =>
    intro g
    cases g with
    | rel g => omega
    | cons g => exact ih g
theorem lx_neg {a b : List Int} (h : Lx a b) : a.length = b.length → Lx (neg b) (neg a) := by
  induction h with
  | nil => intro e; cases e
  | rel h => intro _; exact .rel (Int.neg_lt_neg h)
  | cons _ ih => intro e; exact .cons (ih (Nat.succ.inj e))
theorem allW_lx {ss : List Int} {k top : Nat} (k1 : 1 ≤ k) : ∀ d, (allW ss k top d).Pairwise Lx
  | 0 => List.pairwise_singleton ..
  | d + 1 => by
    rw [allW, List.pairwise_flatMap]
    constructor
    · intro one _
      unfold nextW
      split
      · rw [List.pairwise_map]
        refine List.Pairwise.imp (fun {a b} h => ?_) List.pairwise_lt_range
        exact lx_last (by omega) one
      · split
        · exact List.pairwise_singleton ..
        · exact .nil
    · have ih := allW_lx (ss := ss) (top := top) k1 d
      refine List.Pairwise.imp_of_mem (fun {a b} ha hb h x hx y hy => ?_) ih
      have la := (allW_pre k1 d a ha).len
      have lb := (allW_pre k1 d b hb).len
      have app : ∀ (one z : List Int), z ∈ nextW ss k top d one → ∃ c, z = one ++ c := fun one z hz => by
        unfold nextW at hz
        split at hz
        · obtain ⟨q, _, rfl⟩ := List.mem_map.mp hz
          exact ⟨_, rfl⟩
        · split at hz
          · rw [List.mem_singleton] at hz
            exact ⟨_, hz⟩
          · cases hz
      obtain ⟨c, rfl⟩ := app a x hx
      obtain ⟨e, rfl⟩ := app b y hy
      exact lx_app h c e (by omega)
theorem Way.pre {y ss : List Int} {k t : Int} (w : Way y ss k t) (t0 : 0 ≤ t) : Pre y ss k.toNat t.toNat y.length := by
  refine ⟨rfl, fun z hz => by have := w.inn z hz; omega, fun j hj => ?_⟩
  have := w.has.len
  have := w.has.1
  exact (w.has.at (by omega)).symm
theorem way_all {y ss : List Int} {k t : Int} (w : Way y ss k t) (t0 : 0 ≤ t) : y ∈ allW ss k.toNat t.toNat y.length := by
  have := allW_mem (show 1 ≤ k.toNat from w.has.1) (w.pre t0) y.length (Nat.le_refl _)
  rw [List.take_length] at this
  exact this
theorem all_way {y ss : List Int} {k t : Int} {n : Nat} (h : y ∈ allW ss k.toNat t.toNat n) (en : n = ss.length + k.toNat - 1) (s1 : 1 ≤ ss.length) (k1 : 1 ≤ k) (k8 : k ≤ 8) (n67 : n ≤ 67) (t0 : 0 ≤ t) (t1 : t ≤ 999999999999999999999999999999) : Way y ss k t := by
  have p := allW_pre (by omega) n y h
  have hl := p.len
  rw [en] at p
  refine ⟨p.sums s1 (by omega), fun z hz => by have := p.inn z hz; omega, k1, k8, by omega, t1⟩
/-- a way is made of its first numbers -/
theorem way_wf {x ss : List Int} {k t : Int} (w : Way x ss k t) : wf (x.take k.toNat) (offL ss k.toNat x.length) = x := by
  have kn := w.has.2.1
  have k1 := w.k1
  refine List.ext_getElem? fun i => ?_
  by_cases h : i < x.length
  · unfold wf
    rw [List.getElem?_map, List.getElem?_range (by rw [offL_len]; exact h), List.getElem?_eq_getElem h]
    have hm : i % k.toNat < k.toNat := Nat.mod_lt _ (by omega)
    have lt : (x.take k.toNat).length = k.toNat := by rw [List.length_take]; omega
    show some ((x.take k.toNat).getD (i % (x.take k.toNat).length) 0 + (offL ss k.toNat x.length).getD i 0) = _
    rw [lt, List.getD_eq_getElem?_getD, List.getElem?_take_of_lt hm, ← List.getD_eq_getElem?_getD, List.getD_eq_getElem?_getD (l := offL ss k.toNat x.length), offL_get h]
    show some (_ + off ss k.toNat i) = _
    rw [off_has w.has i h]
    have e : x.getD i 0 = x[i] := by
      rw [List.getD_eq_getElem?_getD, List.getElem?_eq_getElem h]
      rfl
    rw [e]
    congr 1
    omega
  · rw [List.getElem?_eq_none (by rw [wf_len, offL_len]; omega), List.getElem?_eq_none (by omega)]
theorem wf_lx {a b os : List Int} {k : Nat} (la : a.length = k) (lb : b.length = k) (kn : k ≤ os.length) (k1 : 1 ≤ k) (z : ∀ i, i < k → os.getD i 0 = 0) (h : Lx a b) : Lx (wf a os) (wf b os) := by
  rw [← List.take_append_drop k (wf a os), ← List.take_append_drop k (wf b os), wf_take la kn k1 z, wf_take lb kn k1 z]
  exact lx_app h _ _ (by omega)
theorem lw_first {x y ss : List Int} {k t : Int} (w : Way x ss k t) (v : Way y ss k t) : lw ss k t = y ∨ Lx (lw ss k t) y := by
  obtain ⟨en, s1⟩ := way_n w
  have en2 := (way_n v).1
  obtain ⟨hi, hs⟩ := way_inr v
  have kn := v.has.2.1
  have k1 := v.k1
  have sb := hi.sums
  have nn : y.length = x.length := by omega
  unfold lw
  rw [en, ← nn]
  have m := tak_min _ (his (rngs (offL ss k.toNat y.length) k.toNat t) - ss.getD 0 0) _ hi (by omega) (by omega)
  show wf (tak (rngs (offL ss k.toNat y.length) k.toNat t) (his (rngs (offL ss k.toNat y.length) k.toNat t) - ss.getD 0 0)) (offL ss k.toNat y.length) = y ∨ Lx (wf (tak (rngs (offL ss k.toNat y.length) k.toNat t) (his (rngs (offL ss k.toNat y.length) k.toNat t) - ss.getD 0 0)) (offL ss k.toNat y.length)) y
  rcases m with e | e
  · rw [e]
    exact .inl (way_wf v)
  · refine .inr ?_
    have g := wf_lx (os := offL ss k.toNat y.length) (k := k.toNat) (by rw [tak_len, rngs_len]) (by rw [List.length_take]; omega) (by rw [offL_len]; exact kn) (by omega) (fun i h => offL_zeros h kn) e
    rw [way_wf v] at g
    exact g
theorem gw_last {x y ss : List Int} {k t : Int} (w : Way x ss k t) (v : Way y ss k t) : gw ss k t = y ∨ Lx y (gw ss k t) := by
  obtain ⟨en, s1⟩ := way_n w
  have en2 := (way_n v).1
  obtain ⟨hi, hs⟩ := way_inr v
  have kn := v.has.2.1
  have k1 := v.k1
  have nn : y.length = x.length := by omega
  unfold gw
  rw [en, ← nn]
  have hf := hi.flip
  have sf := hf.sums
  rw [neg_sum] at sf
  have m := tak_min _ (his ((rngs (offL ss k.toNat y.length) k.toNat t).map flip2) - -(ss.getD 0 0)) _ hf (by omega) (by rw [neg_sum]; omega)
  show wf (neg (tak ((rngs (offL ss k.toNat y.length) k.toNat t).map flip2) (his ((rngs (offL ss k.toNat y.length) k.toNat t).map flip2) - -(ss.getD 0 0)))) (offL ss k.toNat y.length) = y ∨ Lx y (wf (neg (tak ((rngs (offL ss k.toNat y.length) k.toNat t).map flip2) (his ((rngs (offL ss k.toNat y.length) k.toNat t).map flip2) - -(ss.getD 0 0)))) (offL ss k.toNat y.length))
  have lst : (tak ((rngs (offL ss k.toNat y.length) k.toNat t).map flip2) (his ((rngs (offL ss k.toNat y.length) k.toNat t).map flip2) - -(ss.getD 0 0))).length = k.toNat := by rw [tak_len, List.length_map, rngs_len]
  generalize tak ((rngs (offL ss k.toNat y.length) k.toNat t).map flip2) (his ((rngs (offL ss k.toNat y.length) k.toNat t).map flip2) - -(ss.getD 0 0)) = st at m lst ⊢
  rcases m with e | e
  · rw [e, neg_neg]
    exact .inl (way_wf v)
  · refine .inr ?_
    have ly : (y.take k.toNat).length = k.toNat := by rw [List.length_take]; omega
    have ln : (neg (y.take k.toNat)).length = k.toNat := by
      unfold neg
      rw [List.length_map, ly]
    have e2 := lx_neg e (by rw [lst, ln])
    rw [neg_neg] at e2
    have g := wf_lx (os := offL ss k.toNat y.length) (k := k.toNat) ly (by unfold neg; rw [List.length_map, lst]) (by rw [offL_len]; exact kn) (by omega) (fun i h => offL_zeros h kn) e2
    rw [way_wf v] at g
    exact g
/-- the first and the last of all ways -/
theorem all_ends {x ss : List Int} {k t : Int} (w : Way x ss k t) (t0 : 0 ≤ t) : (allW ss k.toNat t.toNat x.length)[0]? = some (lw ss k t) ∧
    (allW ss k.toNat t.toNat x.length)[(allW ss k.toNat t.toNat x.length).length - 1]? = some (gw ss k t) := by
  obtain ⟨en, s1⟩ := way_n w
  have wl := (lw_told w).way
  have wg := (gw_told w).way
  have ml := way_all wl t0
  have mg := way_all wg t0
  rw [(lw_told w).len] at ml
  rw [(gw_told w).len] at mg
  have pw := allW_lx (ss := ss) (top := t.toNat) (show 1 ≤ k.toNat from w.has.1) x.length
  have all : ∀ y ∈ allW ss k.toNat t.toNat x.length, Way y ss k t := fun y hy => all_way hy en.symm s1 w.k1 w.k8 w.n67 t0 w.t1
  generalize allW ss k.toNat t.toNat x.length = l at *
  constructor
  · obtain ⟨i, hi, e⟩ := List.getElem_of_mem ml
    cases i with
    | zero => rw [List.getElem?_eq_getElem hi, e]
    | succ i =>
      have h0 : 0 < l.length := by omega
      have r := (List.pairwise_iff_getElem.mp pw) 0 (i + 1) h0 hi (by omega)
      rw [e] at r
      rcases lw_first w (all _ (List.getElem_mem h0)) with z | z
      · rw [List.getElem?_eq_getElem h0, z]
      · exact absurd z (lx_asymm r)
  · obtain ⟨i, hi, e⟩ := List.getElem_of_mem mg
    have h0 : l.length - 1 < l.length := by omega
    by_cases z : i = l.length - 1
    · rw [← z, List.getElem?_eq_getElem hi, e]
    · have r := (List.pairwise_iff_getElem.mp pw) i (l.length - 1) hi h0 (by omega)
      rw [e] at r
      rcases gw_last w (all _ (List.getElem_mem h0)) with y | y
      · rw [List.getElem?_eq_getElem h0, y]
      · exact absurd y (lx_asymm r)
end Ws

set_option Elab.async false
set_option linter.all false
set_option maxRecDepth 100000
set_option maxHeartbeats 4000000
namespace Ws
open PySem PySem.Spec PyProof.Rows L2
/-! ### a comprehension over enumerate -/
section
variable {X : Cx} {K : PySem.W.Frag}
theorem piE {e : Expr} {ta : TA} {p pos tpos : Pos} {elts : List Expr} {kk : Nat} (hg : Gl X "enumerate") (hm : X.mg "enumerate" = none) (ha : PA X [e] ta) (h : X.K = K := by rfl) (hs : starEach [e] X.env = [(false, eval e X.env)] := by rfl) :
    PI X (.Tuple elts kk tpos) (.Call (.Name "enumerate" p) [e] [] pos) (iEnum K ta) := by
  subst h
  exact pi_enum hg hm ha hs
end
theorem lc_enum {K : PySem.W.Frag} {a : Addr} {xs : List V} {g : TG} {tt : TT} {te : TE} {vs : List Nat} {σ : L2.St} {H1 : Hp} {D : Addr} {Qd : Hp → Prop} (Pv : Nat → Hp → Prop) (h0 : Pv 0 (upd H1 D (.lst []))) (hl : ∀ i H, i ≤ xs.length → Pv i H → SqL K H a xs)
    (hs : ∀ i x T H, xs[i]? = some x → Pv i H → H T = none → g (.ref T) (wipe σ vs) (upd H T (.tup [.int (i : Nat), x])) fun σ2 H2 => wipe σ2 vs = wipe σ vs ∧ tt σ2 H2 fun b H3 =>
      if b = true then te σ2 H3 fun y H4 => ∃ acc, H4 D = some (.lst acc) ∧ acc.length < sizeLine ∧ Pv (i + 1) (upd H4 D (.lst (acc ++ [y]))) else Pv (i + 1) H3) (hd : ∀ H, Pv xs.length H → Qd H) :
    ∃ W : Nat → Nat → Hp → Prop, (∃ m, W 0 m (upd H1 D (.lst []))) ∧ ∀ i m H, W i m H →
      ((Ite K a).stop i H ∧ Qd H) ∨ ((Ite K a).go i H ∧ ∃ Nx : Hp → Prop, (∀ H', Nx H' → ∃ m', m' < m ∧ W (i + 1) m' H') ∧ ∀ x H', (Ite K a).yld i H x H' → g x (wipe σ vs) H' fun σ2 H2 => wipe σ2 vs = wipe σ vs ∧ tt σ2 H2 fun b H3 =>
        if b = true then te σ2 H3 fun y H4 => ∃ acc, H4 D = some (.lst acc) ∧ acc.length < sizeLine ∧ Nx (upd H4 D (.lst (acc ++ [y]))) else Nx H3) := by
  refine ⟨fun i m H => m = xs.length - i ∧ i ≤ xs.length ∧ Pv i H, ⟨xs.length, by simp, Nat.zero_le _, h0⟩, ?_⟩
  rintro i m H ⟨rfl, hi, p⟩
  have q := hl i H hi p
  by_cases hlt : i < xs.length
  · refine .inr ⟨⟨xs, xs[i], q, by simp [hlt]⟩, Pv (i + 1), fun H' p' => ⟨xs.length - (i + 1), by omega, rfl, hlt, p'⟩, fun x H' y => ?_⟩
    obtain ⟨T, z, rfl, hT, rfl, hz⟩ := y
    exact hs i z T H (hz xs q) p hT
  · have e : i = xs.length := by omega
    subst e
    exact .inl ⟨⟨xs, q, Nat.le_refl _⟩, hd H p⟩
theorem at_neg {xs : List V} {z : Int} {j : Nat} {v : V} (e : z = (j : Int) - xs.length) (hj : j < xs.length) (h : xs[j]? = some v) : atI xs z = some v := by
  unfold atI ixN
  have e2 : (z + xs.length).toNat = j := by omega
  rw [if_neg (by omega)]
  simp only [e]
  have e3 : -(xs.length : Int) ≤ (j : Int) - xs.length := by omega
  first
  | rw [if_pos e3]
    show xs[((j : Int) - xs.length + xs.length).toNat]? = some v
    have : ((j : Int) - xs.length + xs.length).toNat = j := by omega
    rw [this]
    exact h
  | (simp [e3]
     have : ((j : Int) - xs.length + xs.length).toNat = j := by omega
     rw [this]
     exact h)
/-! ### promises of the law's own defs -/
def spBox (K : PySem.W.Frag) : Sp := fun vs H Q _ => ∃ (a : Addr) (ss : List Int) (k t : Int), vs = [.ref a, .int k, .int t] ∧ SqL K H a (ss.map V.int) ∧ 1 ≤ ss.length ∧ 1 ≤ k ∧ k ≤ 8 ∧ k + ss.length ≤ 68 ∧
  ∀ (H' : Hp) (p lo hi : Addr), Same H H' → H p = none → H' p = some (.tup [.ref lo, .ref hi]) →
    H' lo = some (.lst (((rngs (offL ss k.toNat (ss.length + k.toNat - 1)) k.toNat t).map (·.1)).map V.int)) → H' hi = some (.lst (((rngs (offL ss k.toNat (ss.length + k.toNat - 1)) k.toNat t).map (·.2)).map V.int)) → Q (.ref p) H'
def spFits (K : PySem.W.Frag) : Sp := fun vs H Q _ => ∃ (lo hi : Addr) (ps : List (Int × Int)) (tot : Int), vs = [.ref lo, .ref hi, .int tot] ∧ SqL K H lo ((ps.map (·.1)).map V.int) ∧ SqL K H hi ((ps.map (·.2)).map V.int) ∧ Ord2 ps ∧ ps.length ≤ 1000 ∧
  ∀ H', Same H H' → Q (.bl (decide (los ps ≤ tot) && decide (tot ≤ his ps))) H'
def spEnd (K : PySem.W.Frag) : Sp := fun vs H Q _ => ∃ (a b : Addr) (ss y : List Int) (k t st : Int) (n : Nat), vs = [.ref a, .int k, .int t, .ref b, .int st] ∧ SqL K H a (ss.map V.int) ∧ SqL K H b (y.map V.int) ∧ Told ss k t n st y ∧ ∀ H', Same H H' → Q (.bl true) H'
end Ws
namespace Ws
open PySem PySem.Spec PyProof.Rows L2
theorem cut_last (xs : List V) (y : V) : cutV (xs ++ [y]) none (some (-1)) = xs := by
  unfold cutV
  have e : HT.sIx (xs ++ [y]).length (xs ++ [y]).length (some (-1)) = xs.length := by
    show (if (-1 : Int) < 0 then ((-1 : Int) + ((xs ++ [y]).length : Int)).toNat else min (-1 : Int).toNat (xs ++ [y]).length) = _
    rw [if_pos (by decide), List.length_append]
    show ((-1 : Int) + ((xs.length + 1 : Nat) : Int)).toNat = _
    omega
  rw [e, HT.sIx_none, List.drop_zero, Nat.sub_zero, List.take_left]
def spRight5 (K : PySem.W.Frag) : Sp := fun vs H Q _ => ∃ (a : Addr) (ss x : List Int) (k t : Int), vs = [.ref a, .int k, .int t] ∧ SqL K H a (ss.map V.int) ∧ Way x ss k t ∧ ∀ H', Same H H' → Q (.bl true) H'
end Ws
namespace Ws
open PySem PySem.Spec PyProof.Rows L2
/-- numbers that were drawn are a way of their sums -/
theorem way_of {x : List Int} {k t : Int} (k1 : 1 ≤ k) (k8 : k ≤ 8) (kn : k ≤ x.length) (n67 : x.length ≤ 67) (h : Btw 0 t x) (t1 : t ≤ 999999999999999999999999999999) : Way x (wsums x k.toNat) k t :=
  ⟨⟨by omega, by omega, rfl⟩, h, k1, k8, n67, t1⟩
end Ws

set_option Elab.async false
set_option linter.all false
set_option maxRecDepth 100000
set_option maxHeartbeats 4000000
namespace Pv
open PySem PySem.Spec PyProof.Rows L2 Ws
variable {K : PySem.W.Frag}
/-! ### values that are kept: what is new is frozen -/
def takeR : Rz → Rho → Option (D × Rho)
  | .sh d, ρ => some (d, ρ)
  | .own ds, ρ => some (.list ds, ρ)
  | .brw i, ρ => match ρ[i]? with
    | some (some (.sh d)) => some (d, ρ)
    | some (some (.own ds)) => some (.list ds, ρ.set i (some (.sh (.list ds))))
    | _ => none
def takeL : List Rz → Rho → Option (List D × Rho)
  | [], ρ => some ([], ρ)
  | r :: rs, ρ => (takeR r ρ).bind fun a => (takeL rs a.2).bind fun b => some (a.1 :: b.1, b.2)
def ResW (K : PySem.W.Frag) (σ : L2.St) (F' H0 H' : Hp) (v : V) : Rz → Prop
  | .sh d => Rp K F' v d
  | .own ds => ∃ p xs, v = .ref p ∧ H0 p = none ∧ H' p = some (.lst xs) ∧ RpA K F' xs ds
  | .brw i => σ[i]? = some (some v)
theorem ResR.w {σ : L2.St} {F H0 H : Hp} {v : V} : ∀ {r : Rz}, ResR K σ F H0 H v r → ResW K σ F H0 H v r
  | .sh _, h => h
  | .own _, ⟨p, xs, a, b, c, _, d⟩ => ⟨p, xs, a, b, c, d⟩
  | .brw _, h => h
theorem ResW.up {σ : L2.St} {F F' H0 H : Hp} {v : V} (s : Same F F') : ∀ {r : Rz}, ResW K σ F H0 H v r → ResW K σ F' H0 H v r
  | .sh d, h => Rp.up s d v h
  | .own ds, ⟨p, xs, a, b, c, d⟩ => ⟨p, xs, a, b, c, RpA.up s ds xs d⟩
  | .brw _, h => h
theorem EnvR.freeze {σ : L2.St} {ρ : Rho} {F H : Hp} {p : Addr} {xs : List V} (E : EnvR K σ ρ F H) (hp : H p = some (.lst xs)) (hf : F p = none) (n : ¬ Owns σ ρ p) : EnvR K σ ρ (upd F p (.lst xs)) H := by
  refine ⟨fun a o e => ?_, E.len, fun i x e => ?_, E.inj⟩
  · by_cases z : a = p
    · subst z
      rw [upd_same] at e
      rw [← e]
      exact hp
    · rw [upd_ne z] at e
      exact E.le a o e
  · obtain ⟨v, h1, h2⟩ := E.slot i x e
    refine ⟨v, h1, ?_⟩
    cases x with
    | sh d => exact Rp.up (Same.new hf) d v h2
    | own ds =>
      obtain ⟨q, ys, e1, e2, e3, e4⟩ := h2
      have ne : q ≠ p := fun z => n ⟨i, ds, e, by rw [h1, e1, z]⟩
      exact ⟨q, ys, e1, e2, by rw [upd_ne ne]; exact e3, RpA.up (Same.new hf) ds ys e4⟩
theorem getset_self {α : Type} {l : List α} {i : Nat} {x y : α} (h : l[i]? = some y) : (l.set i x)[i]? = some x := by
  have := (List.getElem?_eq_some_iff.mp h).1
  rw [List.getElem?_set_self this]
theorem take1 {σ : L2.St} {ρ0 ρ ρ' : Rho} {F0 H0 F H : Hp} {v : V} {r : Rz} {d : D} (E0 : EnvR K σ ρ0 F0 H0) (P : Post K σ ρ0 F0 H0 ρ F H) (h : ResW K σ F H0 H v r) (e : takeR r ρ = some (d, ρ')) :
    ∃ F', Post K σ ρ0 F0 H0 ρ' F' H ∧ Same F F' ∧ Rp K F' v d := by
  have E := P.env
  cases r with
  | sh d' =>
    cases e
    exact ⟨F, P, Same.refl _, h⟩
  | own ds =>
    cases e
    obtain ⟨p, xs, rfl, h0, h1, h2⟩ := h
    cases ef : F p with
    | some o =>
      have := E.le p o ef
      rw [h1] at this
      cases this
      exact ⟨F, P, Same.refl _, .lst ef h2⟩
    | none =>
      have n := fresh_nown E0 P h0
      refine ⟨upd F p (.lst xs), ⟨E.freeze h1 ef n, P.fle.trans (Same.new ef), P.keep, P.ex, fun a h f z => ?_, P.sub⟩, Same.new ef, .lst upd_same (RpA.up (Same.new ef) ds xs h2)⟩
      have : a ≠ p := fun q => h (by rw [q]; exact h0)
      rw [upd_ne this]
      exact P.fz a h f z
  | brw i =>
    unfold takeR at e
    simp only at e
    split at e
    · rename_i d' e1
      cases e
      obtain ⟨v', e2, e3⟩ := E.slot i _ e1
      rw [show σ[i]? = some (some v) from h] at e2
      cases e2
      exact ⟨F, P, Same.refl _, e3⟩
    · rename_i ds e1
      cases e
      obtain ⟨v', e2, p, xs, e3, e4, e5, e6⟩ := E.slot i _ e1
      rw [show σ[i]? = some (some v) from h] at e2
      cases e2
      subst e3
      have s : Same F (upd F p (.lst xs)) := Same.new e5
      have own_back : ∀ (j : Nat) (x : Sl), (ρ.set i (some (Sl.sh (.list ds))))[j]? = some (some x) → (j = i ∧ x = .sh (.list ds)) ∨ (j ≠ i ∧ ρ[j]? = some (some x)) := fun j x hj => by
        by_cases z : j = i
        · subst z
          rw [getset_self e1] at hj
          cases hj
          exact .inl ⟨rfl, rfl⟩
        · rw [List.getElem?_set_ne (Ne.symm z)] at hj
          exact .inr ⟨z, hj⟩
      have r1 : Rp K (upd F p (.lst xs)) (.ref p) (.list ds) := .lst upd_same (RpA.up s ds xs e6)
      refine ⟨upd F p (.lst xs), ⟨⟨fun a o q => ?_, by rw [List.length_set]; exact E.len, fun j x hj => ?_, fun j k a b u hj hk ej ek => ?_⟩, P.fle.trans s, P.keep, P.ex, fun a ha f z => ?_, fun j es hj => ?_⟩, s, r1⟩
      · by_cases z : a = p
        · subst z
          rw [upd_same] at q
          rw [← q]
          exact e4
        · rw [upd_ne z] at q
          exact E.le a o q
      · rcases own_back j x hj with ⟨rfl, rfl⟩ | ⟨nj, hj⟩
        · exact ⟨_, h, r1⟩
        · obtain ⟨u, u1, u2⟩ := E.slot j x hj
          refine ⟨u, u1, ?_⟩
          cases x with
          | sh d' => exact Rp.up s d' u u2
          | own es =>
            obtain ⟨q, ys, q1, q2, q3, q4⟩ := u2
            have ne : q ≠ p := fun z => nj (E.inj j i es ds _ hj e1 (by rw [u1, q1, z]) h)
            exact ⟨q, ys, q1, q2, by rw [upd_ne ne]; exact q3, RpA.up s es ys q4⟩
      · rcases own_back j _ hj with ⟨_, z⟩ | ⟨_, hj⟩
        · cases z
        · rcases own_back k _ hk with ⟨_, z⟩ | ⟨_, hk⟩
          · cases z
          · exact E.inj j k a b u hj hk ej ek
      · have ne : a ≠ p := fun q => z (P.back ⟨i, ds, e1, by rw [q]; exact h⟩)
        rw [upd_ne ne]
        exact P.fz a ha f z
      · rcases own_back j _ hj with ⟨_, z⟩ | ⟨_, hj⟩
        · cases z
        · exact P.sub j es hj
    · cases e
theorem takes {σ : L2.St} {ρ0 : Rho} {F0 H0 H : Hp} (E0 : EnvR K σ ρ0 F0 H0) : ∀ {rs : List Rz} {vs : List V} {ρ ρ' : Rho} {F : Hp} {ds : List D}, Post K σ ρ0 F0 H0 ρ F H → (∀ (i : Nat) v r, vs[i]? = some v → rs[i]? = some r → ResW K σ F H0 H v r) → vs.length = rs.length → takeL rs ρ = some (ds, ρ') →
    ∃ F', Post K σ ρ0 F0 H0 ρ' F' H ∧ Same F F' ∧ RpA K F' vs ds
  | [], [], ρ, ρ', F, ds, P, _, _, e => by
    cases e
    exact ⟨F, P, Same.refl _, .nil⟩
  | [], _ :: _, _, _, _, _, _, _, h, _ => by cases h
  | _ :: _, [], _, _, _, _, _, _, h, _ => by cases h
  | r :: rs, v :: vs, ρ, ρ', F, ds, P, h, hl, e => by
    obtain ⟨⟨d, ρ1⟩, e1, e⟩ := bind_some e
    obtain ⟨⟨ds2, ρ2⟩, e2, e⟩ := bind_some e
    cases e
    obtain ⟨F1, P1, s1, r1⟩ := take1 E0 P (h 0 v r rfl rfl) e1
    obtain ⟨F2, P2, s2, r2⟩ := takes E0 (vs := vs) P1 (fun i v r a b => (h (i + 1) v r a b).up s1) (Nat.succ.inj hl) e2
    exact ⟨F2, P2, s1.trans s2, .cons (Rp.up s2 d v r1) r2⟩
theorem takeA {σ : L2.St} {ρ0 ρ ρ' : Rho} {F0 H0 F H : Hp} {vs : List V} {rs : List Rz} {ds : List D} (E0 : EnvR K σ ρ0 F0 H0) (P : Post K σ ρ0 F0 H0 ρ F H) (h : ResA K σ F H0 H vs rs) (e : takeL rs ρ = some (ds, ρ')) :
    ∃ F', Post K σ ρ0 F0 H0 ρ' F' H ∧ Same F F' ∧ RpA K F' vs ds := takes E0 P (fun i v r a b => (h.get i v r a b).w) h.length e
/-! ### displays -/
def lstM (m : AM) : EM := fun ρ => (m ρ).bind fun a => (takeL a.1 a.2).bind fun b => if b.1.length ≤ sizeLine then some (.own b.1, b.2) else none
def tupM (m : AM) : EM := fun ρ => (m ρ).bind fun a => (takeL a.1 a.2).bind fun b => if b.1.length ≤ sizeLine then some (.sh (.tuple b.1), b.2) else none
theorem new_at {σ : L2.St} {ρ0 ρ : Rho} {F0 H0 F H : Hp} {p : Addr} {o : HO} (P : Post K σ ρ0 F0 H0 ρ F H) (hp : H p = none) : Post K σ ρ0 F0 H0 ρ F (upd H p o) :=
  P.trans (Post.grow P.env (Same.refl _) (Same.new hp) (P.env.le.trans (Same.new hp)) fun _ _ => rfl)
theorem none_back {H0 H : Hp} {p : Addr} (ex : ∀ a, H0 a ≠ none → H a ≠ none) (h : H p = none) : H0 p = none := Classical.byContradiction fun z => ex p z h
theorem ev_lst {ta : TA} {m : AM} (h : AV K ta m) : EV K (tLst ta) (lstM m) := fun σ ρ F H r ρ' E e Q q => by
  obtain ⟨⟨rs, ρ1⟩, e1, e⟩ := bind_some e
  obtain ⟨⟨ds, ρ2⟩, e2, e⟩ := bind_some e
  simp only at e
  split at e
  · rename_i hl
    cases e
    refine h σ ρ F H rs ρ1 E e1 _ fun vs F1 H1 P1 R1 => ?_
    obtain ⟨F2, P2, s2, r2⟩ := takeA E P1 R1 e2
    refine ⟨by rw [r2.length]; exact hl, fun p hp => q _ F2 _ (new_at P2 hp) ⟨p, vs, rfl, none_back P2.ex hp, upd_same, fresh_F P2.env.le hp, r2⟩⟩
  · cases e
theorem ev_tup {ta : TA} {m : AM} (h : AV K ta m) : EV K (tTup ta) (tupM m) := fun σ ρ F H r ρ' E e Q q => by
  obtain ⟨⟨rs, ρ1⟩, e1, e⟩ := bind_some e
  obtain ⟨⟨ds, ρ2⟩, e2, e⟩ := bind_some e
  simp only at e
  split at e
  · rename_i hl
    cases e
    refine h σ ρ F H rs ρ1 E e1 _ fun vs F1 H1 P1 R1 => ?_
    obtain ⟨F2, P2, s2, r2⟩ := takeA E P1 R1 e2
    refine ⟨by rw [r2.length]; exact hl, fun p hp => ?_⟩
    refine op_tup P2.env.le hp r2 fun v F' H' s t u n Rz => ?_
    exact q v F' H' (P2.trans (Post.grow P2.env s t u n)) Rz
  · cases e
/-! ### calls of defs -/
def spP (K : PySem.W.Frag) (f : List D → Option Rz) : Sp := fun vs H Q _ => ∃ (F : Hp) (ds : List D) (z : Rz), Same F H ∧ RpA K F vs ds ∧ f ds = some z ∧
  ∀ v F' H', Same F F' → Same H H' → Same F' H' → (∀ a, H a ≠ none → F' a = F a) → ResR K [] F' H H' v z → Q v H'
def callM (f : List D → Option Rz) (m : AM) : EM := fun ρ => (m ρ).bind fun a => (takeL a.1 a.2).bind fun b => (f b.1).bind fun z => some (z, b.2)
theorem ev_call {f : List D → Option Rz} {E0 : XK} {ta : TA} {m : AM} (h : AV K ta m) : EV K (tCall (spP K f) [] E0 ta) (callM f m) := fun σ ρ F H r ρ' E e Q q => by
  obtain ⟨⟨rs, ρ1⟩, e1, e⟩ := bind_some e
  obtain ⟨⟨ds, ρ2⟩, e2, e⟩ := bind_some e
  obtain ⟨z, e3, e⟩ := bind_some e
  cases e
  refine h σ ρ F H rs ρ1 E e1 _ fun vs F1 H1 P1 R1 => ?_
  obtain ⟨F2, P2, s2, r2⟩ := takeA E P1 R1 e2
  refine ⟨F2, ds, r, P2.env.le, by rw [List.append_nil]; exact r2, e3, fun v F' H' s t u n Rz => ?_⟩
  exact q v F' H' (P2.trans (Post.grow P2.env s t u n)) (ResR.base P2.ex Rz.nil)
/-- keywords alone, in any sequence: g tells which of them each parameter has -/
def pick {α : Type} (is : List Nat) (zs : List α) : List α := is.filterMap fun i => zs[i]?
def gP {α : Type} (is : List Nat) : List α → List α → List α
  | [], zs => if zs.length = is.length then pick is zs else []
  | _ :: _, _ => []
theorem gP_rel {is : List Nat} {vs zs : List V} {us ws : List Value} (p : Vals vs us) (q : Vals zs ws) : Vals (gP is vs zs) (gP is us ws) := by
  cases p with
  | cons _ _ => exact .nil
  | nil =>
    show Vals (if zs.length = is.length then pick is zs else []) (if ws.length = is.length then pick is ws else [])
    rw [q.length]
    split
    · rename_i hh
      clear hh
      unfold pick
      induction is with
      | nil => exact .nil
      | cons i t ih =>
        cases e : zs[i]? with
        | none =>
          rw [List.filterMap_cons_none (f := fun i => zs[i]?) e, List.filterMap_cons_none (f := fun i => ws[i]?) (q.none_of e)]
          exact ih
        | some x =>
          obtain ⟨u, h1, h2⟩ := q.get e
          rw [List.filterMap_cons_some (f := fun i => zs[i]?) e, List.filterMap_cons_some (f := fun i => ws[i]?) h1]
          exact .cons h2 ih
    · exact .nil
theorem gP_inv {α : Type} {is : List Nat} {us ws : List α} {n : Nat} (h : (gP is us ws).length = n + 1) : us = [] ∧ ws.length = is.length := by
  cases us with
  | cons _ _ => cases h
  | nil =>
    have h : (if ws.length = is.length then pick is ws else []).length = n + 1 := h
    split at h
    · rename_i e
      exact ⟨rfl, e⟩
    · cases h
theorem pick_rp {F : Hp} {is : List Nat} {ws : List V} {ds : List D} (q : RpA K F ws ds) : RpA K F (pick is ws) (pick is ds) := by
  unfold pick
  induction is with
  | nil => exact .nil
  | cons i t ih =>
    cases e : ds[i]? with
    | none =>
      have l := q.length
      have l1 : ws[i]? = none := List.getElem?_eq_none_iff.mpr (by have := List.getElem?_eq_none_iff.mp e; omega)
      rw [List.filterMap_cons_none (f := fun i => ws[i]?) l1, List.filterMap_cons_none (f := fun i => ds[i]?) e]
      exact ih
    | some x =>
      obtain ⟨u, h1, h2⟩ := q.get e
      rw [List.filterMap_cons_some (f := fun i => ws[i]?) h1, List.filterMap_cons_some (f := fun i => ds[i]?) e]
      exact .cons h2 ih
def callKM (f : List D → Option Rz) (is : List Nat) (m : AM) : EM := fun ρ => (m ρ).bind fun a => (takeL a.1 a.2).bind fun b => if b.1.length = is.length then (f (pick is b.1)).bind fun z => some (z, b.2) else none
theorem ev_callK {f : List D → Option Rz} {E0 : XK} {is : List Nat} {ta : TA} {m : AM} (h : AV K ta m) : EV K (tCallK (spP K f) (gP is) E0 tNil ta) (callKM f is m) := fun σ ρ F H r ρ' E e Q q => by
  obtain ⟨⟨rs, ρ1⟩, e1, e⟩ := bind_some e
  obtain ⟨⟨ds, ρ2⟩, e2, e⟩ := bind_some e
  simp only at e
  split at e
  · rename_i hl
    obtain ⟨z, e3, e⟩ := bind_some e
    cases e
    refine h σ ρ F H rs ρ1 E e1 _ fun vs F1 H1 P1 R1 => ?_
    obtain ⟨F2, P2, s2, r2⟩ := takeA E P1 R1 e2
    refine ⟨F2, _, r, P2.env.le, ?_, e3, fun v F' H' s t u n Rz => ?_⟩
    · show RpA K F2 (if vs.length = is.length then pick is vs else []) _
      rw [if_pos (by rw [r2.length]; exact hl)]
      exact pick_rp r2
    · exact q v F' H' (P2.trans (Post.grow P2.env s t u n)) (ResR.base P2.ex Rz.nil)
  · cases e
/-- the first argument a list that is changed -/
def spJ (K : PySem.W.Frag) (f : List D → List D → Option (Rz × List D)) : Sp := fun vs H Q _ => ∃ (J : Addr) (us : List V) (F : Hp) (js : List D) (xs : List V) (ds : List D) (z : Rz) (js' : List D), vs = .ref J :: us ∧ Same F H ∧ H J = some (.lst xs) ∧ F J = none ∧ RpA K F xs js ∧ RpA K F us ds ∧ f js ds = some (z, js') ∧
  ∀ v F' H' xs', Same F F' → (∀ a o, a ≠ J → H a = some o → H' a = some o) → H' J = some (.lst xs') → RpA K F' xs' js' → Same F' H' → (∀ a, H a ≠ none → F' a = F a) → ResR K [] F' H H' v z → Q v H'
def callJM (f : List D → List D → Option (Rz × List D)) (m : AM) : EM := fun ρ => (m ρ).bind fun a => match a.1 with
  | .brw i :: rs => (takeL rs a.2).bind fun b => match b.2[i]? with
    | some (some (.own js)) => (f js b.1).bind fun z => some (z.1, b.2.set i (some (.own z.2)))
    | _ => none
  | _ => none
theorem ev_callJ {f : List D → List D → Option (Rz × List D)} {E0 : XK} {ta : TA} {m : AM} (h : AV K ta m) : EV K (tCall (spJ K f) [] E0 ta) (callJM f m) := fun σ ρ F H r ρ' E e Q q => by
  obtain ⟨⟨rs, ρ1⟩, e1, e⟩ := bind_some e
  cases rs with
  | nil => cases e
  | cons r0 rs =>
    cases r0 with
    | sh _ => cases e
    | own _ => cases e
    | brw i =>
      simp only at e
      obtain ⟨⟨ds, ρ2⟩, e2, e⟩ := bind_some e
      simp only at e
      split at e
      · rename_i js ej
        obtain ⟨⟨z, js'⟩, e3, e⟩ := bind_some e
        cases e
        refine h σ ρ F H _ ρ1 E e1 _ fun vs F1 H1 P1 R1 => ?_
        cases R1 with
        | cons a0 R1 nn =>
          rename_i v0 us
          obtain ⟨F2, P2, s2, r2⟩ := takeA E P1 R1 e2
          obtain ⟨v', hv, J, xs, rfl, hJ, fJ, rJ⟩ := P2.env.slot i _ ej
          have v0e : σ[i]? = some (some v0) := a0
          rw [hv] at v0e
          cases v0e
          refine ⟨J, us, F2, js, xs, ds, z, js', by rw [List.append_nil], P2.env.le, hJ, fJ, rJ, r2, e3, fun v F' H' xs' s t tJ rJ' u n Rz => ?_⟩
          have own_back : ∀ (j : Nat) (x : Sl), (ρ2.set i (some (Sl.own js')))[j]? = some (some x) → (j = i ∧ x = .own js') ∨ (j ≠ i ∧ ρ2[j]? = some (some x)) := fun j x hj => by
            by_cases z : j = i
            · subst z
              rw [getset_self ej] at hj
              cases hj
              exact .inl ⟨rfl, rfl⟩
            · rw [List.getElem?_set_ne (Ne.symm z)] at hj
              exact .inr ⟨z, hj⟩
          have oJ : Owns σ ρ2 J := ⟨i, js, ej, hv⟩
          have fJ' : F' J = none := by rw [n J (not_none hJ)]; exact fJ
          have sub : ∀ (j : Nat) es, (ρ2.set i (some (Sl.own js')))[j]? = some (some (.own es)) → ∃ es', ρ2[j]? = some (some (.own es')) := fun j es hj => by
            rcases own_back j _ hj with ⟨rfl, _⟩ | ⟨_, hj⟩
            · exact ⟨js, ej⟩
            · exact ⟨es, hj⟩
          have P3 : Post K σ ρ2 F2 H1 (ρ2.set i (some (Sl.own js'))) F' H' := by
            refine ⟨⟨u, by rw [List.length_set]; exact P2.env.len, fun j x hj => ?_, fun j k a b w hj hk wj wk => ?_⟩, s, fun a o ha na => t a o (fun z => na (by rw [z]; exact oJ)) ha, fun a ha => ?_, fun a ha hf _ => by rw [n a ha]; exact hf, sub⟩
            · rcases own_back j x hj with ⟨rfl, rfl⟩ | ⟨nj, hj⟩
              · exact ⟨_, hv, J, xs', rfl, tJ, fJ', rJ'⟩
              · obtain ⟨w, w1, w2⟩ := P2.env.slot j x hj
                refine ⟨w, w1, ?_⟩
                cases x with
                | sh d => exact Rp.up s d w w2
                | own es =>
                  obtain ⟨p, ys, q1, q2, q3, q4⟩ := w2
                  have ne : p ≠ J := fun z => nj (P2.env.inj j i es js _ hj ej (by rw [w1, q1, z]) hv)
                  exact ⟨p, ys, q1, t p _ ne q2, by rw [n p (not_none q2)]; exact q3, RpA.up s es ys q4⟩
            · rcases own_back j _ hj with ⟨rfl, ea⟩ | ⟨nj, hj1⟩
              · rcases own_back k _ hk with ⟨rfl, _⟩ | ⟨nk, hk1⟩
                · rfl
                · exact P2.env.inj j k js b w ej hk1 wj wk
              · rcases own_back k _ hk with ⟨rfl, _⟩ | ⟨nk, hk1⟩
                · exact P2.env.inj j k a js w hj1 ej wj wk
                · exact P2.env.inj j k a b w hj1 hk1 wj wk
            · by_cases z : a = J
              · rw [z]
                exact not_none tJ
              · cases ea : H1 a with
                | none => exact absurd ea ha
                | some o => exact not_none (t a o z ea)
          exact q v F' H' (P2.trans P3) (ResR.base P2.ex Rz.nil)
      · cases e
end Pv

set_option Elab.async false
set_option linter.all false
set_option maxRecDepth 100000
set_option maxHeartbeats 4000000
namespace Pv
open PySem PySem.Spec PyProof.Rows L2 Ws
variable {K : PySem.W.Frag}
/-! ### operations -/
instance {i j : Int} : Decidable (CMulW i j) := by unfold CMulW; infer_instance
instance {i j : Int} : Decidable (CDivW i j) := by unfold CDivW; infer_instance
instance {i j : Int} : Decidable (PowOk i j) := by unfold PowOk; infer_instance
def fI (C : Int → Int → Prop) [∀ i j, Decidable (C i j)] (g : Int → Int → D) : List D → Option Rz
  | [.int i, .int j] => if C i j then some (.sh (g i j)) else none
  | _ => none
def fI0 (g : Int → Int → D) : List D → Option Rz
  | [.int i, .int j] => some (.sh (g i j))
  | _ => none
theorem cont2 {F H : Hp} {vs : List V} {a b : D} (h : ContA K F H vs [a, b]) : ∃ x y, vs = [x, y] ∧ Cont K F H x a ∧ Cont K F H y b := by
  cases h with
  | cons h1 h => cases h with
    | cons h2 h => cases h; exact ⟨_, _, rfl, h1, h2⟩
theorem cont1 {F H : Hp} {vs : List V} {a : D} (h : ContA K F H vs [a]) : ∃ x, vs = [x] ∧ Cont K F H x a := by
  cases h with
  | cons h1 h => cases h; exact ⟨_, rfl, h1⟩
theorem o_I0 {g : Int → Int → V} {k : Int → Int → D} (hg : ∀ F i j, Rp K F (g i j) (k i j)) : OpV K (l2 (rI0 g)) (fI0 k) := fun F H vs ds z le c e Q q => by
  unfold fI0 at e
  split at e
  · rename_i i j
    cases e
    obtain ⟨x, y, rfl, h1, h2⟩ := cont2 c
    exact ⟨i, j, h1.int, h2.int, op_sh le (hg F i j) q⟩
  · cases e
theorem o_I {C : Int → Int → Prop} [∀ i j, Decidable (C i j)] {g : Int → Int → V} {k : Int → Int → D} (hg : ∀ F i j, Rp K F (g i j) (k i j)) : OpV K (l2 (rI C g)) (fI C k) := fun F H vs ds z le c e Q q => by
  unfold fI at e
  split at e
  · rename_i i j
    split at e
    · rename_i hC
      cases e
      obtain ⟨x, y, rfl, h1, h2⟩ := cont2 c
      exact ⟨i, j, h1.int, h2.int, hC, op_sh le (hg F i j) q⟩
    · cases e
  · cases e
@[irreducible] def fAdd : List D → Option Rz := fI0 fun i j => .int (i + j)
@[irreducible] def fSub : List D → Option Rz := fI0 fun i j => .int (i - j)
@[irreducible] def fMul : List D → Option Rz := fI CMulW fun i j => .int (i * j)
@[irreducible] def fDiv : List D → Option Rz := fI CDivW fun i j => .int (i / j)
@[irreducible] def fMod : List D → Option Rz := fI (fun _ j => 0 < j) fun i j => .int (i % j)
@[irreducible] def fPow : List D → Option Rz := fI PowOk fun i j => .int (i ^ j.toNat)
@[irreducible] def fLt : List D → Option Rz := fI0 fun i j => .bool (decide (i < j))
@[irreducible] def fLe : List D → Option Rz := fI0 fun i j => .bool (decide (i ≤ j))
@[irreducible] def fGt : List D → Option Rz := fI0 fun i j => .bool (decide (j < i))
@[irreducible] def fGe : List D → Option Rz := fI0 fun i j => .bool (decide (j ≤ i))
theorem o_add : OpV K (l2 (rI0 fun i j => .int (i + j))) fAdd := by
  unfold fAdd
  exact o_I0 fun _ _ _ => .int _
theorem o_sub : OpV K (l2 (rI0 fun i j => .int (i - j))) fSub := by
  unfold fSub
  exact o_I0 fun _ _ _ => .int _
theorem o_mul : OpV K (l2 (rI CMulW fun i j => .int (i * j))) fMul := by
  unfold fMul
  exact o_I fun _ _ _ => .int _
theorem o_div : OpV K (l2 (rI CDivW fun i j => .int (i / j))) fDiv := by
  unfold fDiv
  exact o_I fun _ _ _ => .int _
theorem o_mod : OpV K (l2 (rI (fun _ j => 0 < j) fun i j => .int (i % j))) fMod := by
  unfold fMod
  exact o_I fun _ _ _ => .int _
theorem o_pow : OpV K (l2 (rI PowOk fun i j => .int (i ^ j.toNat))) fPow := by
  unfold fPow
  exact o_I fun _ _ _ => .int _
theorem o_lt : OpV K (l2 (rI0 fun i j => .bl (decide (i < j)))) fLt := by
  unfold fLt
  exact o_I0 fun _ _ _ => .bl _
theorem o_le : OpV K (l2 (rI0 fun i j => .bl (decide (i ≤ j)))) fLe := by
  unfold fLe
  exact o_I0 fun _ _ _ => .bl _
theorem o_gt : OpV K (l2 (rI0 fun i j => .bl (decide (j < i)))) fGt := by
  unfold fGt
  exact o_I0 fun _ _ _ => .bl _
theorem o_ge : OpV K (l2 (rI0 fun i j => .bl (decide (j ≤ i)))) fGe := by
  unfold fGe
  exact o_I0 fun _ _ _ => .bl _
def fNeg : List D → Option Rz
  | [.int i] => some (.sh (.int (-i)))
  | _ => none
theorem o_neg : OpV K (l1 (rU fun i => .int (-i))) fNeg := fun F H vs ds z le c e Q q => by
  unfold fNeg at e
  split at e
  · cases e
    obtain ⟨x, rfl, h⟩ := cont1 c
    exact ⟨_, h.int, op_sh le (.int _) q⟩
  · cases e
/-! ### comparison of data -/
def fEq : List D → Option Rz
  | [a, b] => if SeqAt.shaped a = true ∧ SeqAt.shaped b = true then some (.sh (.bool (PyData.eqv a b))) else none
  | _ => none
def fNe : List D → Option Rz
  | [a, b] => if SeqAt.shaped a = true ∧ SeqAt.shaped b = true then some (.sh (.bool (!PyData.eqv a b))) else none
  | _ => none
mutual
theorem nd_lay : ∀ d : D, d.canLay0 = true → d.hasDict = false
  | .none, _ => by simp only [PyData.hasDict]
  | .bool _, _ => by simp only [PyData.hasDict]
  | .int _, _ => by simp only [PyData.hasDict]
  | .str _, _ => by simp only [PyData.hasDict]
  | .list ds, h => by
    simp only [PyData.hasDict]
    exact nd_layA ds (by simpa only [PyData.canLay0] using h)
  | .tuple ds, h => by
    simp only [PyData.hasDict]
    exact nd_layA ds (by simpa only [PyData.canLay0] using h)
  | .dict _, h => by simp [PyData.canLay0] at h
theorem nd_layA : ∀ ds : List D, PyData.canLayAll0 ds = true → PyData.hasDictAll ds = false
  | [], _ => by simp only [PyData.hasDictAll]
  | d :: ds, h => by
    have h1 : d.canLay0 = true ∧ PyData.canLayAll0 ds = true := by simpa only [PyData.canLayAll0, Bool.and_eq_true] using h
    simp only [PyData.hasDictAll, nd_lay d h1.1, nd_layA ds h1.2]
    rfl
end
theorem nd_of {d : D} (h : SeqAt.shaped d = true) : d.hasDict = false := by
  unfold SeqAt.shaped at h
  exact nd_lay d (Bool.and_eq_true_iff.mp h).1
theorem o_eq {K : PySem.W.Frag} : OpV K (l2 (rEqD K)) fEq := fun F H vs ds z le c e Q q => by
  unfold fEq at e
  split at e
  · split at e
    · rename_i hs
      cases e
      obtain ⟨x, y, rfl, h1, h2⟩ := cont2 c
      exact ⟨_, _, h1.dp (nd_of hs.1) le, h2.dp (nd_of hs.2) le, hs.1, hs.2, op_sh le (.bl _) q⟩
    · cases e
  · cases e
theorem o_ne {K : PySem.W.Frag} : OpV K (l2 (rNeD K)) fNe := fun F H vs ds z le c e Q q => by
  unfold fNe at e
  split at e
  · split at e
    · rename_i hs
      cases e
      obtain ⟨x, y, rfl, h1, h2⟩ := cont2 c
      exact ⟨_, _, h1.dp (nd_of hs.1) le, h2.dp (nd_of hs.2) le, hs.1, hs.2, op_sh le (.bl _) q⟩
    · cases e
  · cases e
def fEqS : List D → Option Rz
  | [.str a, .str b] => some (.sh (.bool (decide (a = b))))
  | _ => none
def fNeS : List D → Option Rz
  | [.str a, .str b] => some (.sh (.bool (!decide (a = b))))
  | _ => none
theorem str_eq (a b : Str) : decide (V.str a = V.str b) = decide (a = b) := by
  by_cases h : a = b
  · subst h; simp
  · have : V.str a ≠ V.str b := fun z => h (V.str.inj z)
    rw [decide_eq_false h, decide_eq_false this]
theorem o_eqS : OpV K (l2 rEq) fEqS := fun F H vs ds z le c e Q q => by
  unfold fEqS at e
  split at e
  · rename_i a b
    cases e
    obtain ⟨x, y, rfl, h1, h2⟩ := cont2 c
    rw [h1.str, h2.str]
    refine ⟨rfl, ?_⟩
    rw [str_eq]
    exact op_sh le (.bl _) q
  · cases e
theorem o_neS : OpV K (l2 rNe) fNeS := fun F H vs ds z le c e Q q => by
  unfold fNeS at e
  split at e
  · rename_i a b
    cases e
    obtain ⟨x, y, rfl, h1, h2⟩ := cont2 c
    rw [h1.str, h2.str]
    refine ⟨rfl, ?_⟩
    rw [str_eq]
    exact op_sh le (.bl _) q
  · cases e
def isNone : D → Bool
  | .none => true
  | _ => false
theorem Cont.none {F H : Hp} {v : V} {d : D} (le : Same F H) (h : Cont K F H v d) : decide (v = .non) = isNone d := by
  rcases h with h | ⟨p, xs, ds, rfl, rfl, _⟩
  · cases h <;> rfl
  · rfl
def fIsN : List D → Option Rz
  | [a, .none] => some (.sh (.bool (isNone a)))
  | _ => none
def fNotN : List D → Option Rz
  | [a, .none] => some (.sh (.bool (!isNone a)))
  | _ => none
theorem Cont.non {F H : Hp} {v : V} (h : Cont K F H v .none) : v = .non := by
  rcases h with h | ⟨p, xs, ds, e, _⟩
  · cases h; rfl
  · cases e
theorem o_isN : OpV K (l2 (fun x y H Q => y = .non ∧ Q (.bl (decide (x = .non))) H)) fIsN := fun F H vs ds z le c e Q q => by
  unfold fIsN at e
  split at e
  · rename_i a
    cases e
    obtain ⟨x, y, rfl, h1, h2⟩ := cont2 c
    exact ⟨h2.non, by rw [h1.none le]; exact op_sh le (.bl _) q⟩
  · cases e
theorem o_notN : OpV K (l2 (fun x y H Q => y = .non ∧ Q (.bl (!decide (x = .non))) H)) fNotN := fun F H vs ds z le c e Q q => by
  unfold fNotN at e
  split at e
  · rename_i a
    cases e
    obtain ⟨x, y, rfl, h1, h2⟩ := cont2 c
    exact ⟨h2.non, by rw [h1.none le]; exact op_sh le (.bl _) q⟩
  · cases e
def fIsB : List D → Option Rz
  | [.bool a, .bool b] => some (.sh (.bool (decide (a = b))))
  | _ => none
def fNotB : List D → Option Rz
  | [.bool a, .bool b] => some (.sh (.bool (!decide (a = b))))
  | _ => none
theorem o_isB : OpV K (l2 (fun x y H Q => ∃ a b, x = .bl a ∧ y = .bl b ∧ Q (.bl (decide (a = b))) H)) fIsB := fun F H vs ds z le c e Q q => by
  unfold fIsB at e
  split at e
  · cases e
    obtain ⟨x, y, rfl, h1, h2⟩ := cont2 c
    exact ⟨_, _, h1.bool, h2.bool, op_sh le (.bl _) q⟩
  · cases e
theorem o_notB : OpV K (l2 (fun x y H Q => ∃ a b, x = .bl a ∧ y = .bl b ∧ Q (.bl (!decide (a = b))) H)) fNotB := fun F H vs ds z le c e Q q => by
  unfold fNotB at e
  split at e
  · cases e
    obtain ⟨x, y, rfl, h1, h2⟩ := cont2 c
    exact ⟨_, _, h1.bool, h2.bool, op_sh le (.bl _) q⟩
  · cases e
/-! ### lists -/
def fCat : List D → Option Rz
  | [.list a, .list b] => if a.length + b.length ≤ sizeLine then some (.own (a ++ b)) else none
  | _ => none
theorem o_cat : OpV K (l2 rCat) fCat := fun F H vs ds z le c e Q q => by
  unfold fCat at e
  split at e
  · split at e
    · rename_i a b hl
      cases e
      obtain ⟨x, y, rfl, h1, h2⟩ := cont2 c
      obtain ⟨p, xs, rfl, e1, r1⟩ := h1.list le
      obtain ⟨p2, ys, rfl, e2, r2⟩ := h2.list le
      exact ⟨p, p2, xs, ys, rfl, rfl, e1, e2, by rw [r1.length, r2.length]; exact hl, fun l hp => op_new le hp (r1.append r2) q⟩
    · cases e
  · cases e
def fRep : List D → Option Rz
  | [.list a, .int k] => if -(2 ^ 63) ≤ k ∧ k < 2 ^ 63 ∧ a.length * k.toNat ≤ sizeLine then some (.own (List.replicate k.toNat a).flatten) else none
  | _ => none
theorem o_rep : OpV K (l2 rRep) fRep := fun F H vs ds z le c e Q q => by
  unfold fRep at e
  split at e
  · split at e
    · rename_i a k hl
      cases e
      obtain ⟨x, y, rfl, h1, h2⟩ := cont2 c
      obtain ⟨p, xs, rfl, e1, r1⟩ := h1.list le
      exact ⟨p, k, xs, rfl, h2.int, e1, hl.1, hl.2.1, by rw [r1.length]; exact hl.2.2, fun l hp => op_new le hp (r1.rep _) q⟩
    · cases e
  · cases e
def fCatS : List D → Option Rz
  | [.str a, .str b] => if a.length + b.length ≤ sizeLine then some (.sh (.str (a ++ b))) else none
  | _ => none
theorem o_catS : OpV K (l2 (fun x y H Q => ∃ i j, x = .str i ∧ y = .str j ∧ i.length + j.length ≤ sizeLine ∧ Q (.str (i ++ j)) H)) fCatS := fun F H vs ds z le c e Q q => by
  unfold fCatS at e
  split at e
  · split at e
    · rename_i a b hl
      cases e
      obtain ⟨x, y, rfl, h1, h2⟩ := cont2 c
      exact ⟨a, b, h1.str, h2.str, hl, op_sh le (.str _) q⟩
    · cases e
  · cases e
def fIx : List D → Option Rz
  | [.list a, .int i] => (atI a i).map .sh
  | [.tuple a, .int i] => (atI a i).map .sh
  | [.dict [(.list a, .none)], .int i] => (atI a i).map .sh
  | [.str z, .int i] => if z.length ≤ sizeLine then (atI z.cps.toList i).map fun c => .sh (.str ⟨#[c]⟩) else none
  | _ => none
theorem RpA.atI {F : Hp} {vs : List V} {ds : List D} {i : Int} {d : D} (h : RpA K F vs ds) (e : atI ds i = some d) : ∃ v, L2.atI vs i = some v ∧ Rp K F v d := by
  obtain ⟨j, e1, e2⟩ := bind_some e
  obtain ⟨v, e3, e4⟩ := h.get e2
  refine ⟨v, ?_, e4⟩
  unfold L2.atI
  rw [h.length, e1]
  exact e3
theorem ixA {X : Cx} {K : PySem.W.Frag} (h : X.K = K := by rfl) : IxR X (rIx K) := by
  subst h
  exact ix_seq
theorem map_some {α β : Type} {o : Option α} {f : α → β} {z : β} (h : o.map f = some z) : ∃ x, o = some x ∧ f x = z := by
  cases o with
  | none => cases h
  | some x => exact ⟨x, rfl, Option.some.inj h⟩
theorem o_ix {K : PySem.W.Frag} : OpV K (l2 (rIx K)) fIx := fun F H vs ds z le c e Q q => by
  unfold fIx at e
  split at e
  · obtain ⟨d, ea, rfl⟩ := map_some e
    obtain ⟨x, y, rfl, h1, h2⟩ := cont2 c
    obtain ⟨p, xs, rfl, e1, r1⟩ := h1.list le
    obtain ⟨v, e3, e4⟩ := r1.atI ea
    exact .inl ⟨p, xs, _, v, rfl, h2.int, SqL.of e1, e3, op_sh le e4 q⟩
  · obtain ⟨d, ea, rfl⟩ := map_some e
    obtain ⟨x, y, rfl, h1, h2⟩ := cont2 c
    obtain ⟨p, xs, rfl, e1, r1⟩ := h1.tuple le
    obtain ⟨v, e3, e4⟩ := r1.atI ea
    exact .inr (.inl ⟨p, xs, _, v, rfl, h2.int, SqT.of e1, e3, op_sh le e4 q⟩)
  · obtain ⟨d, ea, rfl⟩ := map_some e
    obtain ⟨x, y, rfl, h1, h2⟩ := cont2 c
    obtain ⟨p, ns, rfl, e1, rfl⟩ := h1.scr le
    obtain ⟨v, e3, e4⟩ := (RpA.ofInts (K := K) (F := F) ns).atI ea
    exact .inl ⟨p, _, _, v, rfl, h2.int, e1, e3, op_sh le e4 q⟩
  · split at e
    · rename_i hl
      obtain ⟨d, ea, rfl⟩ := map_some e
      obtain ⟨x, y, rfl, h1, h2⟩ := cont2 c
      exact .inr (.inr ⟨_, _, _, h1.str, h2.int, hl, ea, op_sh le (.str _) q⟩)
    · cases e
  · cases e
/-- a list whose items cannot be known to be in a heap of data: the script -/
def rLenA (K : PySem.W.Frag) : List V → Hp → VK → Prop := fun xs H Q => ∃ p ys, xs = [.ref p] ∧ (SqL K H p ys ∨ SqT K H p ys) ∧ Q (.int ys.length) H
theorem lenA {X : Cx} {K : PySem.W.Frag} (h : X.K = K := by rfl) : CallR X (.builtin "len") (rLenA K) := by
  subst h
  exact call_len_seq
def fLen : List D → Option Rz
  | [.list a] => some (.sh (.int a.length))
  | [.tuple a] => some (.sh (.int a.length))
  | [.dict [(.list a, .none)]] => some (.sh (.int a.length))
  | _ => none
theorem o_len {K : PySem.W.Frag} : OpV K (rLenA K) fLen := fun F H vs ds z le c e Q q => by
  unfold fLen at e
  split at e
  · cases e
    obtain ⟨x, rfl, h1⟩ := cont1 c
    obtain ⟨p, xs, rfl, e1, r1⟩ := h1.list le
    exact ⟨p, xs, rfl, .inl (SqL.of e1), by rw [r1.length]; exact op_sh le (.int _) q⟩
  · cases e
    obtain ⟨x, rfl, h1⟩ := cont1 c
    obtain ⟨p, xs, rfl, e1, r1⟩ := h1.tuple le
    exact ⟨p, xs, rfl, .inr (SqT.of e1), by rw [r1.length]; exact op_sh le (.int _) q⟩
  · cases e
    obtain ⟨x, rfl, h1⟩ := cont1 c
    obtain ⟨p, ns, rfl, e1, rfl⟩ := h1.scr le
    exact ⟨p, _, rfl, .inl e1, by rw [List.length_map, ← List.length_map (f := PyData.int)]; exact op_sh le (.int _) q⟩
  · cases e
def fLenS : List D → Option Rz
  | [.str a] => if a.length ≤ sizeLine then some (.sh (.int a.length)) else none
  | _ => none
theorem o_lenS : OpV K (fun xs H Q => ∃ z : Str, xs = [.str z] ∧ z.length ≤ sizeLine ∧ Q (.int z.length) H) fLenS := fun F H vs ds z le c e Q q => by
  unfold fLenS at e
  split at e
  · split at e
    · rename_i hl
      cases e
      obtain ⟨x, rfl, h1⟩ := cont1 c
      exact ⟨_, by rw [h1.str], hl, op_sh le (.int _) q⟩
    · cases e
  · cases e
def fAbs : List D → Option Rz
  | [.int i] => some (.sh (.int (if i < 0 then -i else i)))
  | _ => none
theorem o_abs : OpV K (fun xs H Q => ∃ i, xs = [.int i] ∧ Q (.int (if i < 0 then -i else i)) H) fAbs := fun F H vs ds z le c e Q q => by
  unfold fAbs at e
  split at e
  · cases e
    obtain ⟨x, rfl, h1⟩ := cont1 c
    exact ⟨_, by rw [h1.int], op_sh le (.int _) q⟩
  · cases e
@[irreducible] def fMax2 : List D → Option Rz := fI0 fun i j => .int (if j > i then j else i)
@[irreducible] def fMin2 : List D → Option Rz := fI0 fun i j => .int (if j < i then j else i)
theorem o_max2 : OpV K (fun xs H Q => ∃ i j, xs = [.int i, .int j] ∧ Q (.int (if j > i then j else i)) H) fMax2 := fun F H vs ds z le c e Q q => by
  unfold fMax2 fI0 at e
  split at e
  · cases e
    obtain ⟨x, y, rfl, h1, h2⟩ := cont2 c
    exact ⟨_, _, by rw [h1.int, h2.int], op_sh le (.int _) q⟩
  · cases e
theorem o_min2 : OpV K (fun xs H Q => ∃ i j, xs = [.int i, .int j] ∧ Q (.int (if j < i then j else i)) H) fMin2 := fun F H vs ds z le c e Q q => by
  unfold fMin2 fI0 at e
  split at e
  · cases e
    obtain ⟨x, y, rfl, h1, h2⟩ := cont2 c
    exact ⟨_, _, by rw [h1.int, h2.int], op_sh le (.int _) q⟩
  · cases e
def fInt : List D → Option Rz
  | [.int i] => some (.sh (.int i))
  | [.bool b] => some (.sh (.int (if b then 1 else 0)))
  | _ => none
theorem o_int : OpV K (fun xs H Q => (∃ i, xs = [.int i] ∧ Q (.int i) H) ∨ ∃ k : Bool, xs = [.bl k] ∧ Q (.int (if k then 1 else 0)) H) fInt := fun F H vs ds z le c e Q q => by
  unfold fInt at e
  split at e
  · cases e
    obtain ⟨x, rfl, h1⟩ := cont1 c
    exact .inl ⟨_, by rw [h1.int], op_sh le (.int _) q⟩
  · cases e
    obtain ⟨x, rfl, h1⟩ := cont1 c
    exact .inr ⟨_, by rw [h1.bool], op_sh le (.int _) q⟩
  · cases e
/-! ### lists of ints -/
def toInts : List D → Option (List Int)
  | [] => some []
  | .int i :: r => (toInts r).map fun s => i :: s
  | _ :: _ => none
theorem toInts_eq : ∀ {ds : List D} {ns : List Int}, toInts ds = some ns → ds = ns.map PyData.int
  | [], ns, h => by cases h; rfl
  | .int i :: r, ns, h => by
    obtain ⟨s, e, rfl⟩ := map_some (show (toInts r).map (fun s => i :: s) = some ns from h)
    rw [toInts_eq e]
    rfl
  | .none :: _, _, h => nomatch h
  | .bool _ :: _, _, h => nomatch h
  | .str _ :: _, _, h => nomatch h
  | .list _ :: _, _, h => nomatch h
  | .tuple _ :: _, _, h => nomatch h
  | .dict _ :: _, _, h => nomatch h
theorem toInts_map : ∀ (ns : List Int), toInts (ns.map PyData.int) = some ns
  | [] => rfl
  | n :: r => by
    show (toInts (r.map PyData.int)).map (fun s => n :: s) = _
    rw [toInts_map r]
    rfl
def toBls : List D → Option (List Bool)
  | [] => some []
  | .bool i :: r => (toBls r).map fun s => i :: s
  | _ :: _ => none
theorem toBls_eq : ∀ {ds : List D} {ns : List Bool}, toBls ds = some ns → ds = ns.map PyData.bool
  | [], ns, h => by cases h; rfl
  | .bool i :: r, ns, h => by
    obtain ⟨s, e, rfl⟩ := map_some (show (toBls r).map (fun s => i :: s) = some ns from h)
    rw [toBls_eq e]
    rfl
  | .none :: _, _, h => nomatch h
  | .int _ :: _, _, h => nomatch h
  | .str _ :: _, _, h => nomatch h
  | .list _ :: _, _, h => nomatch h
  | .tuple _ :: _, _, h => nomatch h
  | .dict _ :: _, _, h => nomatch h
theorem toBls_map : ∀ (ns : List Bool), toBls (ns.map PyData.bool) = some ns
  | [] => rfl
  | n :: r => by
    show (toBls (r.map PyData.bool)).map (fun s => n :: s) = _
    rw [toBls_map r]
    rfl
theorem Cont.ints {F H : Hp} {v : V} {ns : List Int} (le : Same F H) (h : Cont K F H v (.list (ns.map PyData.int))) : ∃ p, v = .ref p ∧ H p = some (.lst (ns.map V.int)) := by
  obtain ⟨p, xs, e, e1, r1⟩ := h.list le
  exact ⟨p, e, by rw [e1, r1.ints]⟩
/-- an answer about one list of ints -/
def fL1 (g : List Int → Option Rz) : List D → Option Rz
  | [.list a] => (toInts a).bind g
  | _ => none
def fSum : List D → Option Rz := fL1 fun ns => some (.sh (.int ns.sum))
def fMaxL : List D → Option Rz := fL1 fun ns => if 0 < ns.length then some (.sh (.int (mx ns))) else none
def fMinL : List D → Option Rz := fL1 fun ns => if 0 < ns.length then some (.sh (.int (mn ns))) else none
/-- the ints of a list in order -/
def srt (ns : List Int) : List Int := ns.mergeSort
theorem srt_perm (ns : List Int) : (srt ns).Perm ns := List.mergeSort_perm ns _
theorem srt_asc (ns : List Int) : (srt ns).Pairwise (· ≤ ·) := by
  have h := List.pairwise_mergeSort (le := fun a b : Int => decide (a ≤ b)) (fun a b c h1 h2 => by simp only [decide_eq_true_eq] at *; omega) (fun a b => by simp only [Bool.or_eq_true, decide_eq_true_eq]; omega) ns
  exact h.imp fun h => of_decide_eq_true h
theorem srt_uniq {ns ms : List Int} (h : ms.Perm ns) (a : ms.Pairwise (· ≤ ·)) : ms = srt ns := perm_sorted_eq (h.trans (srt_perm ns).symm) a (srt_asc ns)
def fSorted : List D → Option Rz := fL1 fun ns => some (.own ((srt ns).map PyData.int))
theorem fL1_inv {g : List Int → Option Rz} {F H : Hp} {vs : List V} {ds : List D} {z : Rz} (le : Same F H) (c : ContA K F H vs ds) (e : fL1 g ds = some z) : ∃ p ns, vs = [.ref p] ∧ H p = some (.lst (ns.map V.int)) ∧ g ns = some z := by
  unfold fL1 at e
  split at e
  · obtain ⟨ns, e1, e2⟩ := bind_some e
    rw [toInts_eq e1] at c
    obtain ⟨x, rfl, h1⟩ := cont1 c
    obtain ⟨p, rfl, hp⟩ := h1.ints le
    exact ⟨p, ns, rfl, hp, e2⟩
  · cases e
theorem o_sum {K : PySem.W.Frag} : OpV K (rSum K) fSum := fun F H vs ds z le c e Q q => by
  obtain ⟨p, ns, rfl, hp, e⟩ := fL1_inv le c e
  cases e
  exact ⟨p, ns, rfl, SqL.of hp, op_sh le (.int _) q⟩
theorem o_maxL {K : PySem.W.Frag} : OpV K (rMax K) fMaxL := fun F H vs ds z le c e Q q => by
  obtain ⟨p, ns, rfl, hp, e⟩ := fL1_inv le c e
  split at e
  · rename_i hl
    cases e
    exact ⟨p, ns, rfl, SqL.of hp, hl, fun m h1 h2 => by rw [mx_uniq h1 h2]; exact op_sh le (.int _) q⟩
  · cases e
theorem o_minL {K : PySem.W.Frag} : OpV K (rMin K) fMinL := fun F H vs ds z le c e Q q => by
  obtain ⟨p, ns, rfl, hp, e⟩ := fL1_inv le c e
  split at e
  · rename_i hl
    cases e
    exact ⟨p, ns, rfl, SqL.of hp, hl, fun m h1 h2 => by rw [mn_uniq h1 h2]; exact op_sh le (.int _) q⟩
  · cases e
theorem o_sorted {K : PySem.W.Frag} : OpV K (rSortedI K) fSorted := fun F H vs ds z le c e Q q => by
  obtain ⟨p, ns, rfl, hp, e⟩ := fL1_inv le c e
  cases e
  exact ⟨p, ns, rfl, SqL.of hp, fun ns' l h1 h2 hl => by rw [srt_uniq h1 h2]; exact op_new le hl (RpA.ofInts _) q⟩
def fB1 (g : List Bool → Bool) : List D → Option Rz
  | [.list a] => (toBls a).map fun bs => .sh (.bool (g bs))
  | _ => none
theorem fB1_inv {g : List Bool → Bool} {F H : Hp} {vs : List V} {ds : List D} {z : Rz} (le : Same F H) (c : ContA K F H vs ds) (e : fB1 g ds = some z) : ∃ p bs, vs = [.ref p] ∧ H p = some (.lst (bs.map V.bl)) ∧ z = .sh (.bool (g bs)) := by
  unfold fB1 at e
  split at e
  · obtain ⟨ns, e1, e2⟩ := map_some e
    rw [toBls_eq e1] at c
    obtain ⟨x, rfl, h1⟩ := cont1 c
    obtain ⟨p, xs, rfl, hp, r⟩ := h1.list le
    exact ⟨p, ns, rfl, by rw [hp, r.bls], e2.symm⟩
  · cases e
theorem o_all {K : PySem.W.Frag} : OpV K (rAll K) (fB1 fun bs => bs.all id) := fun F H vs ds z le c e Q q => by
  obtain ⟨p, bs, rfl, hp, rfl⟩ := fB1_inv le c e
  exact ⟨p, bs, rfl, SqL.of hp, op_sh le (.bl _) q⟩
theorem o_any {K : PySem.W.Frag} : OpV K (rAny K) (fB1 fun bs => bs.any id) := fun F H vs ds z le c e Q q => by
  obtain ⟨p, bs, rfl, hp, rfl⟩ := fB1_inv le c e
  exact ⟨p, bs, rfl, SqL.of hp, op_sh le (.bl _) q⟩
/-! ### list(..), tuple(..), repr -/
def rListA (K : PySem.W.Frag) : List V → Hp → VK → Prop := fun xs H Q => ∃ p ys, xs = [.ref p] ∧ (SqL K H p ys ∨ SqT K H p ys) ∧ ∀ l, H l = none → Q (.ref l) (upd H l (.lst ys))
theorem listA {X : Cx} {K : PySem.W.Frag} (h : X.K = K := by rfl) : CallR X (.type "list") (rListA K) := by
  subst h
  exact call_list_of
def fList : List D → Option Rz
  | [.list a] => some (.own a)
  | [.tuple a] => some (.own a)
  | _ => none
theorem o_list {K : PySem.W.Frag} : OpV K (rListA K) fList := fun F H vs ds z le c e Q q => by
  unfold fList at e
  split at e
  · cases e
    obtain ⟨x, rfl, h1⟩ := cont1 c
    obtain ⟨p, xs, rfl, e1, r1⟩ := h1.list le
    exact ⟨p, xs, rfl, .inl (SqL.of e1), fun l hl => op_new le hl r1 q⟩
  · cases e
    obtain ⟨x, rfl, h1⟩ := cont1 c
    obtain ⟨p, xs, rfl, e1, r1⟩ := h1.tuple le
    exact ⟨p, xs, rfl, .inr (SqT.of e1), fun l hl => op_new le hl r1 q⟩
  · cases e
def fTup : List D → Option Rz
  | [.list a] => some (.sh (.tuple a))
  | _ => none
theorem o_tup {K : PySem.W.Frag} : OpV K (rTup1 K) fTup := fun F H vs ds z le c e Q q => by
  unfold fTup at e
  split at e
  · cases e
    obtain ⟨x, rfl, h1⟩ := cont1 c
    obtain ⟨p, xs, rfl, e1, r1⟩ := h1.list le
    exact ⟨p, xs, rfl, SqL.of e1, fun l hl => op_tup le hl r1 q⟩
  · cases e
instance {d : D} : Decidable (Shw d) := by unfold Shw; infer_instance
def fRepr : List D → Option Rz
  | [d] => if Shw d ∧ d.hasDict = false then some (.sh (.str d.shown)) else none
  | _ => none
theorem o_repr {K : PySem.W.Frag} : OpV K (rRepr K) fRepr := fun F H vs ds z le c e Q q => by
  unfold fRepr at e
  split at e
  · split at e
    · rename_i d hs
      cases e
      obtain ⟨x, rfl, h1⟩ := cont1 c
      exact ⟨x, d, rfl, h1.dp hs.2 le, hs.1, op_sh le (.str _) q⟩
    · cases e
  · cases e
/-! ### slices -/
def OV (K : PySem.W.Frag) (to : TO) (m : Rho → Option (Option Int × Rho)) : Prop := ∀ (σ : L2.St) (ρ : Rho) (F H : Hp) (i : Option Int) (ρ' : Rho), EnvR K σ ρ F H → m ρ = some (i, ρ') → ∀ Q : Option Int → Hp → Prop,
  (∀ F' H', Post K σ ρ F H ρ' F' H' → Q i H') → to σ H Q
def noM : Rho → Option (Option Int × Rho) := fun ρ => some (none, ρ)
def partM (m : EM) : Rho → Option (Option Int × Rho) := fun ρ => (m ρ).bind fun a => match deref a.2 a.1 with
  | some (.int i) => some (some i, a.2)
  | _ => none
theorem ov_none : OV K tNoPart noM := fun σ ρ F H i ρ' E e Q q => by
  cases e
  exact q F H (Post.refl E)
theorem ov_some {te : TE} {m : EM} (h : EV K te m) : OV K (tPart te) (partM m) := fun σ ρ F H i ρ' E e Q q => by
  obtain ⟨⟨r, ρ1⟩, e1, e⟩ := bind_some e
  simp only at e
  split at e
  · rename_i j ed
    cases e
    refine h σ ρ F H r _ E e1 _ fun v F1 H1 P1 R1 => ?_
    exact ⟨j, (Cont.of P1.env R1 ed).int, q F1 H1 P1⟩
  · cases e
theorem RpA.cut {F : Hp} {xs : List V} {ds : List D} (h : RpA K F xs ds) (lo hi : Option Int) : RpA K F (cutV xs lo hi) ((ds.drop (HT.sIx ds.length 0 lo)).take (HT.sIx ds.length ds.length hi - HT.sIx ds.length 0 lo)) := by
  unfold cutV
  rw [h.length]
  exact (h.drop _).take _
def cutD {α : Type} (ds : List α) (lo hi : Option Int) : List α := (ds.drop (HT.sIx ds.length 0 lo)).take (HT.sIx ds.length ds.length hi - HT.sIx ds.length 0 lo)
def slM (m : EM) (ml mh : Rho → Option (Option Int × Rho)) : EM := fun ρ => (m ρ).bind fun a => (ml a.2).bind fun l => (mh l.2).bind fun h => match deref h.2 a.1 with
  | some (.list ds) => some (.own (cutD ds l.1 h.1), h.2)
  | _ => none
theorem ev_sl {K : PySem.W.Frag} {te : TE} {tl th : TO} {m : EM} {ml mh : Rho → Option (Option Int × Rho)} (h : EV K te m) (hl : OV K tl ml) (hh : OV K th mh) : EV K (tSl (rSlL K) te tl th) (slM m ml mh) := fun σ ρ F H r ρ' E e Q q => by
  obtain ⟨⟨r0, ρ1⟩, e1, e⟩ := bind_some e
  obtain ⟨⟨lo, ρ2⟩, e2, e⟩ := bind_some e
  obtain ⟨⟨hi, ρ3⟩, e3, e⟩ := bind_some e
  simp only at e
  split at e
  · rename_i ds ed
    cases e
    refine h σ ρ F H r0 ρ1 E e1 _ fun v F1 H1 P1 R1 => ?_
    refine hl σ ρ1 F1 H1 lo ρ2 P1.env e2 _ fun F2 H2 P2 => ?_
    refine hh σ ρ2 F2 H2 hi _ P2.env e3 _ fun F3 H3 P3 => ?_
    have P13 := P2.trans P3
    have P := P1.trans P13
    obtain ⟨p, xs, rfl, e4, r4⟩ := (Cont.of P.env (ResR.up E P1 P13 R1) ed).list P.env.le
    refine ⟨p, xs, rfl, SqL.of e4, fun l hp => q _ F3 _ (new_at P hp) ⟨l, _, rfl, none_back P.ex hp, upd_same, fresh_F P.env.le hp, r4.cut lo hi⟩⟩
  · cases e
theorem RpA.step {F : Hp} {xs : List V} {ds : List D} (h : RpA K F xs ds) (i k : Nat) : RpA K F (stepL xs i k) (stepL ds i k) := by
  unfold stepL
  rw [h.length]
  generalize List.range _ = js
  induction js with
  | nil => exact .nil
  | cons j t ih =>
    cases e : ds[i + k * j]? with
    | none =>
      have l := h.length
      have l1 : xs[i + k * j]? = none := List.getElem?_eq_none_iff.mpr (by have := List.getElem?_eq_none_iff.mp e; omega)
      rw [List.filterMap_cons_none (f := fun j => xs[i + k * j]?) l1, List.filterMap_cons_none (f := fun j => ds[i + k * j]?) e]
      exact ih
    | some x =>
      obtain ⟨u, h1, h2⟩ := h.get e
      rw [List.filterMap_cons_some (f := fun j => xs[i + k * j]?) h1, List.filterMap_cons_some (f := fun j => ds[i + k * j]?) e]
      exact .cons h2 ih
def stepM (m : EM) (ml ms : Rho → Option (Option Int × Rho)) : EM := fun ρ => (m ρ).bind fun a => (ml a.2).bind fun l => (ms l.2).bind fun h => match deref h.2 a.1, l.1, h.1 with
  | some (.list ds), some i, some k => if 0 ≤ i ∧ i ≤ ds.length ∧ 1 ≤ k then some (.own (stepL ds i.toNat k.toNat), h.2) else none
  | _, _, _ => none
theorem ev_step {K : PySem.W.Frag} {te : TE} {tl th : TO} {m : EM} {ml mh : Rho → Option (Option Int × Rho)} (h : EV K te m) (hl : OV K tl ml) (hh : OV K th mh) : EV K (tStep K te tl th) (stepM m ml mh) := fun σ ρ F H r ρ' E e Q q => by
  obtain ⟨⟨r0, ρ1⟩, e1, e⟩ := bind_some e
  obtain ⟨⟨lo, ρ2⟩, e2, e⟩ := bind_some e
  obtain ⟨⟨hi, ρ3⟩, e3, e⟩ := bind_some e
  simp only at e
  split at e
  · rename_i ds i k ed _
    split at e
    · rename_i hc
      cases e
      refine h σ ρ F H r0 ρ1 E e1 _ fun v F1 H1 P1 R1 => ?_
      refine hl σ ρ1 F1 H1 _ ρ2 P1.env e2 _ fun F2 H2 P2 => ?_
      refine hh σ ρ2 F2 H2 _ _ P2.env e3 _ fun F3 H3 P3 => ?_
      have P13 := P2.trans P3
      have P := P1.trans P13
      obtain ⟨p, xs, rfl, e4, r4⟩ := (Cont.of P.env (ResR.up E P1 P13 R1) ed).list P.env.le
      refine ⟨p, xs, i, k, rfl, rfl, rfl, SqL.of e4, hc.1, by rw [r4.length]; exact hc.2.1, hc.2.2, fun l hp => q _ F3 _ (new_at P hp) ⟨l, _, rfl, none_back P.ex hp, upd_same, fresh_F P.env.le hp, r4.step _ _⟩⟩
    · cases e
  · cases e
/-! ### list(range(..)) -/
instance {a b : Int} : Decidable (RgOk a b) := by unfold RgOk; infer_instance
instance {a b c : Int} {n : Nat} : Decidable (RgC a b c n) := by unfold RgC; infer_instance
def rgD (a b : Int) : List D := (List.range (b - a).toNat).map fun i => PyData.int (a + (i : Nat))
def rgDC (i c : Int) (n : Nat) : List D := (List.range n).map fun m => PyData.int (i + (m : Nat) * c)
theorem rp_rg {F : Hp} {f : Nat → Int} : ∀ js : List Nat, RpA K F (js.map fun i => V.int (f i)) (js.map fun i => PyData.int (f i))
  | [] => .nil
  | _ :: r => .cons (.int _) (rp_rg r)
def oneI (m : EM) : Rho → Option (Int × Rho) := fun ρ => (m ρ).bind fun a => match deref a.2 a.1 with
  | some (.int i) => some (i, a.2)
  | _ => none
theorem one_int {te : TE} {m : EM} (h : EV K te m) {σ : L2.St} {ρ ρ' : Rho} {F H : Hp} {i : Int} (E : EnvR K σ ρ F H) (e : oneI m ρ = some (i, ρ')) {Q : VK} (q : ∀ F' H', Post K σ ρ F H ρ' F' H' → Q (.int i) H') : te σ H Q := by
  obtain ⟨⟨r, ρ1⟩, e1, e⟩ := bind_some e
  simp only at e
  split at e
  · rename_i j ed
    cases e
    refine h σ ρ F H r _ E e1 _ fun v F1 H1 P1 R1 => ?_
    rw [(Cont.of P1.env R1 ed).int]
    exact q F1 H1 P1
  · cases e
def lrg1 (m : EM) : EM := fun ρ => (oneI m ρ).bind fun a => if RgOk 0 a.1 then some (.own (rgD 0 a.1), a.2) else none
theorem ev_lrg1 {ta : TE} {m : EM} (h : EV K ta m) : EV K (tLstRg (tRg1 ta)) (lrg1 m) := fun σ ρ F H r ρ' E e Q q => by
  obtain ⟨⟨i, ρ1⟩, e1, e⟩ := bind_some e
  simp only at e
  split at e
  · rename_i hc
    cases e
    refine one_int h E e1 fun F1 H1 P1 => ?_
    exact ⟨i, rfl, hc, fun l hp => q _ F1 _ (new_at P1 hp) ⟨l, _, rfl, none_back P1.ex hp, upd_same, fresh_F P1.env.le hp, rp_rg _⟩⟩
  · cases e
def lrg2 (m n : EM) : EM := fun ρ => (oneI m ρ).bind fun a => (oneI n a.2).bind fun b => if RgOk a.1 b.1 then some (.own (rgD a.1 b.1), b.2) else none
theorem ev_lrg2 {ta tb : TE} {m n : EM} (h : EV K ta m) (h2 : EV K tb n) : EV K (tLstRg (tRg2 ta tb)) (lrg2 m n) := fun σ ρ F H r ρ' E e Q q => by
  obtain ⟨⟨i, ρ1⟩, e1, e⟩ := bind_some e
  obtain ⟨⟨j, ρ2⟩, e2, e⟩ := bind_some e
  simp only at e
  split at e
  · rename_i hc
    cases e
    refine one_int h E e1 fun F1 H1 P1 => ?_
    refine one_int h2 P1.env e2 fun F2 H2 P2 => ?_
    have P := P1.trans P2
    exact ⟨i, j, rfl, rfl, hc, fun l hp => q _ F2 _ (new_at P hp) ⟨l, _, rfl, none_back P.ex hp, upd_same, fresh_F P.env.le hp, rp_rg _⟩⟩
  · cases e
/-- how many a range with a step has -/
def rgN (i j k : Int) : Nat := (Builtin.Range.rangeSize i j k).toNat
def lrg3 (m n l : EM) : EM := fun ρ => (oneI m ρ).bind fun a => (oneI n a.2).bind fun b => (oneI l b.2).bind fun c => if RgC a.1 b.1 c.1 (rgN a.1 b.1 c.1) ∧ rgN a.1 b.1 c.1 ≤ 100000 then some (.own (rgDC a.1 c.1 (rgN a.1 b.1 c.1)), c.2) else none
theorem ev_lrg3 {ta tb tc : TE} {m n l : EM} (h : EV K ta m) (h2 : EV K tb n) (h3 : EV K tc l) : EV K (tLstR3 (tCons ta (tCons tb (tCons tc tNil)))) (lrg3 m n l) := fun σ ρ F H r ρ' E e Q q => by
  obtain ⟨⟨i, ρ1⟩, e1, e⟩ := bind_some e
  obtain ⟨⟨j, ρ2⟩, e2, e⟩ := bind_some e
  obtain ⟨⟨k, ρ3⟩, e3, e⟩ := bind_some e
  simp only at e
  split at e
  · rename_i hc
    cases e
    refine one_int h E e1 fun F1 H1 P1 => ?_
    refine one_int h2 P1.env e2 fun F2 H2 P2 => ?_
    refine one_int h3 P2.env e3 fun F3 H3 P3 => ?_
    have P := P1.trans (P2.trans P3)
    exact ⟨i, j, k, _, rfl, hc.1, hc.2, fun l hp => q _ F3 _ (new_at P hp) ⟨l, _, rfl, none_back P.ex hp, upd_same, fresh_F P.env.le hp, rp_rg _⟩⟩
  · cases e
/-! ### tests, and, or, not, if else, chains -/
def TV (K : PySem.W.Frag) (tt : TT) (m : TM) : Prop := ∀ (σ : L2.St) (ρ : Rho) (F H : Hp) (b : Bool) (ρ' : Rho), EnvR K σ ρ F H → m ρ = some (b, ρ') → ∀ Q : Bool → Hp → Prop,
  (∀ F' H', Post K σ ρ F H ρ' F' H' → Q b H') → tt σ H Q
def tstM (m : EM) : TM := fun ρ => (m ρ).bind fun a => match deref a.2 a.1 with
  | some (.bool i) => some (i, a.2)
  | _ => none
theorem one_bool {te : TE} {m : EM} (h : EV K te m) {σ : L2.St} {ρ ρ' : Rho} {F H : Hp} {i : Bool} (E : EnvR K σ ρ F H) (e : tstM m ρ = some (i, ρ')) {Q : VK} (q : ∀ F' H', Post K σ ρ F H ρ' F' H' → Q (.bl i) H') : te σ H Q := by
  obtain ⟨⟨r, ρ1⟩, e1, e⟩ := bind_some e
  simp only at e
  split at e
  · rename_i j ed
    cases e
    refine h σ ρ F H r _ E e1 _ fun v F1 H1 P1 R1 => ?_
    rw [(Cont.of P1.env R1 ed).bool]
    exact q F1 H1 P1
  · cases e
theorem tv_tst {te : TE} {m : EM} (h : EV K te m) : TV K (tTest te) (tstM m) := fun σ ρ F H b ρ' E e Q q => one_bool h E e fun F1 H1 P1 => ⟨b, rfl, q F1 H1 P1⟩
theorem tv_B {te : TE} {m : EM} (h : EV K te m) : TV K (tB te) (tstM m) := fun σ ρ F H b ρ' E e Q q => one_bool h E e fun F1 H1 P1 => ⟨b, rfl, q F1 H1 P1⟩
def notT (m : TM) : TM := fun ρ => (m ρ).map fun a => (!a.1, a.2)
theorem tv_not {t : TT} {m : TM} (h : TV K t m) : TV K (tNot t) (notT m) := fun σ ρ F H b ρ' E e Q q => by
  obtain ⟨⟨c, ρ1⟩, e1, e⟩ := map_some e
  cases e
  exact h σ ρ F H c _ E e1 _ fun F1 H1 P1 => q F1 H1 P1
def andT (m n : TM) : TM := fun ρ => (m ρ).bind fun a => if a.1 = true then n a.2 else some (false, a.2)
def orT (m n : TM) : TM := fun ρ => (m ρ).bind fun a => if a.1 = true then some (true, a.2) else n a.2
theorem tv_and {t u : TT} {m n : TM} (h : TV K t m) (g : TV K u n) : TV K (tAnd t u) (andT m n) := fun σ ρ F H b ρ' E e Q q => by
  obtain ⟨⟨c, ρ1⟩, e1, e⟩ := bind_some e
  refine h σ ρ F H c ρ1 E e1 _ fun F1 H1 P1 => ?_
  cases c with
  | true => exact g σ ρ1 F1 H1 b ρ' P1.env e Q fun F2 H2 P2 => q F2 H2 (P1.trans P2)
  | false =>
    cases e
    exact q F1 H1 P1
theorem tv_or {t u : TT} {m n : TM} (h : TV K t m) (g : TV K u n) : TV K (tOr t u) (orT m n) := fun σ ρ F H b ρ' E e Q q => by
  obtain ⟨⟨c, ρ1⟩, e1, e⟩ := bind_some e
  refine h σ ρ F H c ρ1 E e1 _ fun F1 H1 P1 => ?_
  cases c with
  | false => exact g σ ρ1 F1 H1 b ρ' P1.env e Q fun F2 H2 P2 => q F2 H2 (P1.trans P2)
  | true =>
    cases e
    exact q F1 H1 P1
def andE (m n : EM) : EM := fun ρ => (tstM m ρ).bind fun a => if a.1 = true then n a.2 else some (.sh (.bool false), a.2)
def orE (m n : EM) : EM := fun ρ => (tstM m ρ).bind fun a => if a.1 = true then some (.sh (.bool true), a.2) else n a.2
def notE (m : EM) : EM := fun ρ => (tstM m ρ).map fun a => (.sh (.bool (!a.1)), a.2)
theorem ev_and {ta tb : TE} {m n : EM} (h : EV K ta m) (g : EV K tb n) : EV K (tAndV ta tb) (andE m n) := fun σ ρ F H r ρ' E e Q q => by
  obtain ⟨⟨c, ρ1⟩, e1, e⟩ := bind_some e
  refine one_bool h E e1 fun F1 H1 P1 => ⟨c, rfl, ?_⟩
  cases c with
  | true => exact g σ ρ1 F1 H1 r ρ' P1.env e Q fun v F2 H2 P2 R2 => q v F2 H2 (P1.trans P2) (ResR.base P1.ex R2)
  | false =>
    cases e
    exact q _ F1 H1 P1 (.bl false)
theorem ev_or {ta tb : TE} {m n : EM} (h : EV K ta m) (g : EV K tb n) : EV K (tOrV ta tb) (orE m n) := fun σ ρ F H r ρ' E e Q q => by
  obtain ⟨⟨c, ρ1⟩, e1, e⟩ := bind_some e
  refine one_bool h E e1 fun F1 H1 P1 => ⟨c, rfl, ?_⟩
  cases c with
  | false => exact g σ ρ1 F1 H1 r ρ' P1.env e Q fun v F2 H2 P2 R2 => q v F2 H2 (P1.trans P2) (ResR.base P1.ex R2)
  | true =>
    cases e
    exact q _ F1 H1 P1 (.bl true)
theorem ev_not {ta : TE} {m : EM} (h : EV K ta m) : EV K (tNotV ta) (notE m) := fun σ ρ F H r ρ' E e Q q => by
  obtain ⟨⟨c, ρ1⟩, e1, e⟩ := map_some e
  cases e
  exact one_bool h E e1 fun F1 H1 P1 => ⟨c, rfl, q _ F1 H1 P1 (.bl _)⟩
def ifE (c : TM) (m n : EM) : EM := fun ρ => (c ρ).bind fun a => if a.1 = true then m a.2 else n a.2
theorem ev_if {t : TT} {ta tb : TE} {c : TM} {m n : EM} (h : TV K t c) (ha : EV K ta m) (hb : EV K tb n) : EV K (tIf t ta tb) (ifE c m n) := fun σ ρ F H r ρ' E e Q q => by
  obtain ⟨⟨b, ρ1⟩, e1, e⟩ := bind_some e
  refine h σ ρ F H b ρ1 E e1 _ fun F1 H1 P1 => ?_
  cases b with
  | true => exact ha σ ρ1 F1 H1 r ρ' P1.env e Q fun v F2 H2 P2 R2 => q v F2 H2 (P1.trans P2) (ResR.base P1.ex R2)
  | false => exact hb σ ρ1 F1 H1 r ρ' P1.env e Q fun v F2 H2 P2 R2 => q v F2 H2 (P1.trans P2) (ResR.base P1.ex R2)
/-- a < b < c: ints alone -/
def chM (p p' : Int → Int → Bool) (m n l : EM) : EM := fun ρ => (oneI m ρ).bind fun a => (oneI n a.2).bind fun b => if p a.1 b.1 = true then (oneI l b.2).map fun c => (.sh (.bool (p' b.1 c.1)), c.2) else some (.sh (.bool false), b.2)
theorem ev_ch {p p' : Int → Int → Bool} {ta tb tc : TE} {m n l : EM} (ha : EV K ta m) (hb : EV K tb n) (hc : EV K tc l) : EV K (tChain (rI0 fun i j => .bl (p i j)) (rI0 fun i j => .bl (p' i j)) ta tb tc) (chM p p' m n l) := fun σ ρ F H r ρ' E e Q q => by
  obtain ⟨⟨i, ρ1⟩, e1, e⟩ := bind_some e
  obtain ⟨⟨j, ρ2⟩, e2, e⟩ := bind_some e
  simp only at e
  refine one_int ha E e1 fun F1 H1 P1 => ?_
  refine one_int hb P1.env e2 fun F2 H2 P2 => ?_
  refine ⟨i, j, rfl, rfl, p i j, rfl, ?_⟩
  split at e
  · rename_i hp
    rw [if_pos hp]
    obtain ⟨⟨k, ρ3⟩, e3, e⟩ := map_some e
    cases e
    refine one_int hc P2.env e3 fun F3 H3 P3 => ?_
    exact ⟨j, k, rfl, rfl, q _ F3 H3 (P1.trans (P2.trans P3)) (.bl _)⟩
  · rename_i hp
    rw [if_neg hp]
    cases e
    exact q _ F2 H2 (P1.trans P2) (.bl _)
end Pv

set_option Elab.async false
set_option linter.all false
set_option maxRecDepth 100000
set_option maxHeartbeats 4000000
namespace Pv
open PySem PySem.Spec PyProof.Rows L2 Ws
variable {K : PySem.W.Frag}
/-! ### statements: A the entry, pr the slots of what is changed for the caller -/
inductive Out where
  | nx (ρ : Rho)
  | rt (r : Rz) (ρ : Rho)
  | bk (ρ : Rho)
  | ct (ρ : Rho)
abbrev SM := Rho → Option Out
structure Anc where
  σ0 : L2.St
  F0 : Hp
  H0 : Hp
def Jr (A : Anc) (pr : List Nat) (a : Addr) : Prop := ∃ i ∈ pr, A.σ0[i]? = some (some (V.ref a))
structure Now (K : PySem.W.Frag) (A : Anc) (pr : List Nat) (σ : L2.St) (ρ : Rho) (F H : Hp) : Prop where
  env : EnvR K σ ρ F H
  fle : Same A.F0 F
  keep : ∀ a o, A.H0 a = some o → ¬ Jr A pr a → H a = some o
  ex : ∀ a, A.H0 a ≠ none → H a ≠ none
  fz : ∀ a, A.H0 a ≠ none → ¬ Jr A pr a → F a = A.F0 a
  own : ∀ (i : Nat) ds a, ρ[i]? = some (some (.own ds)) → σ[i]? = some (some (.ref a)) → i ∈ pr ∨ A.H0 a = none
  prot : ∀ i ∈ pr, σ[i]? = A.σ0[i]?
theorem Now.owns {A : Anc} {pr : List Nat} {σ : L2.St} {ρ : Rho} {F H : Hp} {a : Addr} (N : Now K A pr σ ρ F H) (h : A.H0 a ≠ none) (n : ¬ Jr A pr a) : ¬ Owns σ ρ a := fun ⟨i, ds, e1, e2⟩ => by
  rcases N.own i ds a e1 e2 with z | z
  · exact n ⟨i, z, by rw [← N.prot i z]; exact e2⟩
  · exact h z
theorem Now.post {A : Anc} {pr : List Nat} {σ : L2.St} {ρ ρ' : Rho} {F H F' H' : Hp} (N : Now K A pr σ ρ F H) (P : Post K σ ρ F H ρ' F' H') : Now K A pr σ ρ' F' H' where
  env := P.env
  fle := N.fle.trans P.fle
  keep := fun a o h n => P.keep a o (N.keep a o h n) (N.owns (not_none h) n)
  ex := fun a h => P.ex a (N.ex a h)
  fz := fun a h n => by
    have e := N.fz a h n
    rw [← e]
    cases f : F a with
    | none => exact P.fz a (N.ex a h) f (N.owns h n)
    | some o => exact P.fle a o f
  own := fun i ds a h1 h2 => let ⟨es, h3⟩ := P.sub i ds h1; N.own i es a h3 h2
  prot := N.prot
theorem set_back {α : Type} {l : List α} {i j : Nat} {x y : α} (h : (l.set i x)[j]? = some y) : (j = i ∧ y = x) ∨ (j ≠ i ∧ l[j]? = some y) := by
  by_cases z : j = i
  · subst z
    rw [List.getElem?_set] at h
    simp only [if_true] at h
    split at h
    · cases h
      exact .inl ⟨rfl, rfl⟩
    · cases h
  · rw [List.getElem?_set_ne (Ne.symm z)] at h
    exact .inr ⟨z, h⟩
theorem Now.put {A : Anc} {pr : List Nat} {σ : L2.St} {ρ : Rho} {F H : Hp} {i : Nat} {v : V} {s : Sl} (N : Now K A pr σ ρ F H) (hi : i ∉ pr) (h : SlotR K F H v s) (n : ∀ ds a, s = .own ds → v = .ref a → A.H0 a = none ∧ ¬ Owns σ ρ a) :
    Now K A pr (σ.set i (some v)) (ρ.set i (some s)) F H := by
  have hl := N.env.len
  have sg : ∀ (j : Nat) (x : Sl), (ρ.set i (some s))[j]? = some (some x) → (j = i ∧ x = s ∧ (σ.set i (some v))[j]? = some (some v)) ∨ (j ≠ i ∧ ρ[j]? = some (some x) ∧ (σ.set i (some v))[j]? = σ[j]?) := fun j x e => by
    rcases set_back e with ⟨rfl, ex⟩ | ⟨z, e⟩
    · cases ex
      have : j < σ.length := by
        rw [← hl]
        have := (List.getElem?_eq_some_iff.mp e).1
        rw [List.length_set] at this
        exact this
      exact .inl ⟨rfl, rfl, by rw [List.getElem?_set_self this]⟩
    · exact .inr ⟨z, e, List.getElem?_set_ne (Ne.symm z)⟩
  refine ⟨⟨N.env.le, by rw [List.length_set, List.length_set]; exact hl, fun j x e => ?_, fun j k ds es w ej ek wj wk => ?_⟩, N.fle, N.keep, N.ex, N.fz, fun j ds a e1 e2 => ?_, fun j hj => ?_⟩
  · rcases sg j x e with ⟨rfl, rfl, e2⟩ | ⟨z, e1, e2⟩
    · exact ⟨v, e2, h⟩
    · obtain ⟨w, w1, w2⟩ := N.env.slot j x e1
      exact ⟨w, by rw [e2]; exact w1, w2⟩
  · rcases sg j _ ej with ⟨rfl, sj, e2⟩ | ⟨z, e1, e2⟩
    · rcases sg k _ ek with ⟨rfl, sk, e4⟩ | ⟨z2, e3, e4⟩
      · rfl
      · rw [e2] at wj
        cases wj
        rw [e4] at wk
        obtain ⟨w', w1, p, xs, rfl, _⟩ := N.env.slot k _ e3
        rw [w1] at wk
        cases wk
        exact absurd ⟨k, es, e3, w1⟩ (n ds p sj.symm rfl).2
    · rcases sg k _ ek with ⟨rfl, sk, e4⟩ | ⟨z2, e3, e4⟩
      · rw [e4] at wk
        cases wk
        rw [e2] at wj
        obtain ⟨w', w1, p, xs, rfl, _⟩ := N.env.slot j _ e1
        rw [w1] at wj
        cases wj
        exact absurd ⟨j, ds, e1, w1⟩ (n es p sk.symm rfl).2
      · rw [e2] at wj
        rw [e4] at wk
        exact N.env.inj j k ds es w e1 e3 wj wk
  · rcases sg j _ e1 with ⟨rfl, sj, e3⟩ | ⟨z, e3, e4⟩
    · rw [e3] at e2
      cases e2
      exact .inr (n ds a sj.symm rfl).1
    · rw [e4] at e2
      exact N.own j ds a e3 e2
  · have : j ≠ i := fun z => hi (by rw [← z]; exact hj)
    rw [List.getElem?_set_ne (Ne.symm this)]
    exact N.prot j hj
/-- a slot is forgotten -/
theorem Now.drop {A : Anc} {pr : List Nat} {σ : L2.St} {ρ : Rho} {F H : Hp} (i : Nat) (N : Now K A pr σ ρ F H) : Now K A pr σ (ρ.set i none) F H := by
  have sg : ∀ (j : Nat) (x : Sl), (ρ.set i none)[j]? = some (some x) → ρ[j]? = some (some x) := fun j x e => by
    rcases set_back e with ⟨_, ex⟩ | ⟨_, e⟩
    · cases ex
    · exact e
  exact ⟨⟨N.env.le, by rw [List.length_set]; exact N.env.len, fun j x e => N.env.slot j x (sg j x e), fun j k ds es w ej ek => N.env.inj j k ds es w (sg j _ ej) (sg k _ ek)⟩, N.fle, N.keep, N.ex, N.fz, fun j ds a e => N.own j ds a (sg j _ e), N.prot⟩
def Then (K : PySem.W.Frag) (A : Anc) (pr : List Nat) (F : Hp) (o : Out) (E : Ends) : Prop := match o with
  | .nx ρ' => ∀ σ' F' H', Now K A pr σ' ρ' F' H' → Same F F' → E.nx σ' H'
  | .rt r ρ' => ∀ v σ' F' H', Now K A pr σ' ρ' F' H' → Same F F' → ResR K [] F' A.H0 H' v r → E.rt v H'
  | .bk ρ' => ∀ σ' F' H', Now K A pr σ' ρ' F' H' → Same F F' → E.bk σ' H'
  | .ct ρ' => ∀ σ' F' H', Now K A pr σ' ρ' F' H' → Same F F' → E.ct σ' H'
theorem Then.up {A : Anc} {pr : List Nat} {F F1 : Hp} {o : Out} {E : Ends} (s : Same F F1) (h : Then K A pr F o E) : Then K A pr F1 o E := by
  cases o with
  | nx ρ => exact fun σ' F' H' N t => h σ' F' H' N (s.trans t)
  | rt r ρ => exact fun v σ' F' H' N t => h v σ' F' H' N (s.trans t)
  | bk ρ => exact fun σ' F' H' N t => h σ' F' H' N (s.trans t)
  | ct ρ => exact fun σ' F' H' N t => h σ' F' H' N (s.trans t)
def SV (K : PySem.W.Frag) (pr : List Nat) (ts : TS) (m : SM) : Prop := ∀ (A : Anc) (σ : L2.St) (ρ : Rho) (F H : Hp) (o : Out) (E : Ends), Now K A pr σ ρ F H → m ρ = some o → Then K A pr F o E → ts E σ H
def skipS : SM := fun ρ => some (.nx ρ)
theorem sv_nil {pr : List Nat} : SV K pr tNext skipS := fun A σ ρ F H o E N e q => by
  cases e
  exact q σ F H N (Same.refl _)
def seqS (m n : SM) : SM := fun ρ => (m ρ).bind fun o => match o with
  | .nx ρ1 => n ρ1
  | o => some o
theorem sv_seq {pr : List Nat} {t u : TS} {m n : SM} (h : SV K pr t m) (g : SV K pr u n) : SV K pr (tSeq t u) (seqS m n) := fun A σ ρ F H o E N e q => by
  obtain ⟨o1, e1, e⟩ := bind_some e
  refine h A σ ρ F H o1 _ N e1 ?_
  cases o1 with
  | nx ρ1 => exact fun σ' F' H' N' s => g A σ' ρ1 F' H' o E N' e (q.up s)
  | rt r ρ1 => cases e; exact q
  | bk ρ1 => cases e; exact q
  | ct ρ1 => cases e; exact q
def exprS (m : EM) : SM := fun ρ => (m ρ).map fun a => .nx a.2
theorem sv_expr {pr : List Nat} {te : TE} {m : EM} (h : EV K te m) : SV K pr (tDrop te) (exprS m) := fun A σ ρ F H o E N e q => by
  obtain ⟨⟨r, ρ1⟩, e1, rfl⟩ := map_some e
  exact h σ ρ F H r ρ1 N.env e1 _ fun v F1 H1 P1 R1 => q σ F1 H1 (N.post P1) P1.fle
def retS (pr : List Nat) (m : EM) : SM := fun ρ => (m ρ).bind fun a => match a.1 with
  | .brw i => if i ∈ pr then none else match a.2[i]? with
    | some (some (.sh d)) => some (.rt (.sh d) a.2)
    | some (some (.own ds)) => some (.rt (.own ds) (a.2.set i none))
    | _ => none
  | r => some (.rt r a.2)
theorem fresh0 {A : Anc} {pr : List Nat} {σ : L2.St} {ρ : Rho} {F H F' H' : Hp} {v : V} (N : Now K A pr σ ρ F H) : ∀ {r : Rz}, (∀ i, r ≠ .brw i) → ResR K σ F' H H' v r → ResR K [] F' A.H0 H' v r
  | .sh _, _, h => h
  | .own ds, _, ⟨p, xs, e, h0, h1⟩ => ⟨p, xs, e, none_back N.ex h0, h1⟩
  | .brw i, n, _ => absurd rfl (n i)
theorem sv_ret {pr : List Nat} {te : TE} {m : EM} (h : EV K te m) : SV K pr (tRet te) (retS pr m) := fun A σ ρ F H o E N e q => by
  obtain ⟨⟨r, ρ1⟩, e1, e⟩ := bind_some e
  refine h σ ρ F H r ρ1 N.env e1 _ fun v F1 H1 P1 R1 => ?_
  have N1 := N.post P1
  cases r with
  | sh d => cases e; exact q v σ F1 H1 N1 P1.fle R1
  | own ds => cases e; exact q v σ F1 H1 N1 P1.fle (fresh0 N (fun i z => nomatch z) R1)
  | brw i =>
    simp only at e
    split at e
    · cases e
    · rename_i hi
      split at e
      · rename_i d ed
        cases e
        obtain ⟨v', w1, w2⟩ := N1.env.slot i _ ed
        rw [show σ[i]? = some (some v) from R1] at w1
        cases w1
        exact q v σ F1 H1 N1 P1.fle w2
      · rename_i ds ed
        cases e
        obtain ⟨v', w1, p, xs, e3, e4, e5, e6⟩ := N1.env.slot i _ ed
        rw [show σ[i]? = some (some v) from R1] at w1
        cases w1
        subst e3
        rcases N1.own i ds p ed R1 with z | z
        · exact absurd z hi
        · exact q _ σ F1 H1 (N1.drop i) P1.fle ⟨p, xs, rfl, z, e4, e5, e6⟩
      · cases e
def retN : SM := fun ρ => some (.rt (.sh .none) ρ)
theorem sv_retN {pr : List Nat} : SV K pr tRetN retN := fun A σ ρ F H o E N e q => by
  cases e
  exact q .non σ F H N (Same.refl _) .non
def ifS (c : TM) (m n : SM) : SM := fun ρ => (c ρ).bind fun a => if a.1 = true then m a.2 else n a.2
theorem sv_if {pr : List Nat} {t : TT} {u w : TS} {c : TM} {m n : SM} (h : TV K t c) (g : SV K pr u m) (k : SV K pr w n) : SV K pr (tIfS t u w) (ifS c m n) := fun A σ ρ F H o E N e q => by
  obtain ⟨⟨b, ρ1⟩, e1, e⟩ := bind_some e
  refine h σ ρ F H b ρ1 N.env e1 _ fun F1 H1 P1 => ?_
  cases b with
  | true => exact g A σ ρ1 F1 H1 o E (N.post P1) e (q.up P1.fle)
  | false => exact k A σ ρ1 F1 H1 o E (N.post P1) e (q.up P1.fle)
def neverS : SM := fun _ => none
theorem sv_never {pr : List Nat} : SV K pr tNever neverS := fun A σ ρ F H o E N e q => nomatch e
def brkS : SM := fun ρ => some (.bk ρ)
theorem sv_brk {pr : List Nat} : SV K pr tBreak brkS := fun A σ ρ F H o E N e q => by
  cases e
  exact q σ F H N (Same.refl _)
def cntS : SM := fun ρ => some (.ct ρ)
theorem sv_cnt {pr : List Nat} : SV K pr tCont cntS := fun A σ ρ F H o E N e q => by
  cases e
  exact q σ F H N (Same.refl _)
/-! ### stores -/
def setS (i : Nat) (m : EM) : SM := fun ρ => (m ρ).bind fun a => match a.1 with
  | .sh d => some (.nx (a.2.set i (some (.sh d))))
  | .own ds => some (.nx (a.2.set i (some (.own ds))))
  | .brw j => (takeR (.brw j) a.2).map fun b => .nx (b.2.set i (some (.sh b.1)))
theorem sv_set {pr : List Nat} {i : Nat} {te : TE} {m : EM} (h : EV K te m) (hi : i ∉ pr := by decide) : SV K pr (tAsg te (gName i)) (setS i m) := fun A σ ρ F H o E N e q => by
  obtain ⟨⟨r, ρ1⟩, e1, e⟩ := bind_some e
  refine h σ ρ F H r ρ1 N.env e1 _ fun v F1 H1 P1 R1 => ?_
  have N1 := N.post P1
  cases r with
  | sh d =>
    cases e
    exact q _ F1 H1 (N1.put hi (s := .sh d) R1 fun ds a z _ => nomatch z) P1.fle
  | own ds =>
    cases e
    obtain ⟨p, xs, rfl, h0, h1, h2, h3⟩ := R1
    refine q _ F1 H1 (N1.put hi (s := .own ds) ⟨p, xs, rfl, h1, h2, h3⟩ fun ds' a _ z => ?_) P1.fle
    cases z
    exact ⟨none_back N.ex h0, fresh_nown N.env P1 h0⟩
  | brw j =>
    obtain ⟨⟨d, ρ2⟩, e2, rfl⟩ := map_some e
    obtain ⟨F2, P2, s2, r2⟩ := take1 N.env P1 (ResR.w (r := .brw j) R1) e2
    exact q _ F2 H1 ((N.post P2).put hi (s := .sh d) r2 fun ds a z _ => nomatch z) P2.fle
/-! ### targets -/
def Agree (is : List Nat) (σ σ' : L2.St) : Prop := σ'.length = σ.length ∧ ∀ j, j ∉ is → σ'[j]? = σ[j]?
def AgreeO (is : List Nat) (ρ ρ' : Rho) : Prop := ∀ (j : Nat) ds, ρ'[j]? = some (some (.own ds)) → j ∉ is ∧ ρ[j]? = some (some (.own ds))
def GV (K : PySem.W.Frag) (pr is : List Nat) (g : TG) (m : D → Rho → Option Rho) : Prop := ∀ (A : Anc) (σ : L2.St) (ρ : Rho) (F H : Hp) (v : V) (d : D) (ρ' : Rho), Now K A pr σ ρ F H → Rp K F v d → m d ρ = some ρ' → ∀ Q : L2.St → Hp → Prop,
  (∀ σ', Now K A pr σ' ρ' F H → Agree is σ σ' → AgreeO is ρ ρ' → Q σ' H) → g v σ H Q
def GVs (K : PySem.W.Frag) (pr is : List Nat) (g : TGs) (m : List D → Rho → Option Rho) : Prop := ∀ (A : Anc) (σ : L2.St) (ρ : Rho) (F H : Hp) (vs : List V) (ds : List D) (ρ' : Rho), Now K A pr σ ρ F H → RpA K F vs ds → m ds ρ = some ρ' → ∀ Q : L2.St → Hp → Prop,
  (∀ σ', Now K A pr σ' ρ' F H → Agree is σ σ' → AgreeO is ρ ρ' → Q σ' H) → g vs σ H Q
def gN (i : Nat) : D → Rho → Option Rho := fun d ρ => some (ρ.set i (some (.sh d)))
theorem gv_name {pr : List Nat} {i : Nat} (hi : i ∉ pr := by decide) : GV K pr [i] (gName i) (gN i) := fun A σ ρ F H v d ρ' N r e Q q => by
  cases e
  exact q _ (N.put hi (s := .sh d) r fun ds a z _ => nomatch z) ⟨List.length_set, fun j hj => List.getElem?_set_ne (fun z => hj (by rw [z]; exact List.mem_singleton_self _))⟩ fun j ds h => by
    rcases set_back h with ⟨_, z⟩ | ⟨z, h⟩
    · cases z
    · exact ⟨fun y => z (List.mem_singleton.mp y), h⟩
def gsNil : List D → Rho → Option Rho := fun ds ρ => match ds with
  | [] => some ρ
  | _ => none
def gsCons (m : D → Rho → Option Rho) (n : List D → Rho → Option Rho) : List D → Rho → Option Rho := fun ds ρ => match ds with
  | d :: r => (m d ρ).bind fun ρ1 => n r ρ1
  | _ => none
theorem gvs_nil {pr : List Nat} : GVs K pr [] gNil gsNil := fun A σ ρ F H vs ds ρ' N r e Q q => by
  unfold gsNil at e
  split at e
  · cases e
    cases r
    exact ⟨rfl, q σ N ⟨rfl, fun _ _ => rfl⟩ fun j ds h => ⟨List.not_mem_nil, h⟩⟩
  · cases e
theorem gvs_cons {pr is js : List Nat} {t : TG} {u : TGs} {m : D → Rho → Option Rho} {n : List D → Rho → Option Rho} (h : GV K pr is t m) (g : GVs K pr js u n) : GVs K pr (is ++ js) (gCons t u) (gsCons m n) := fun A σ ρ F H vs ds ρ' N r e Q q => by
  unfold gsCons at e
  split at e
  · obtain ⟨ρ1, e1, e2⟩ := bind_some e
    cases r with
    | cons r1 r2 =>
      refine ⟨_, _, rfl, h A σ ρ F H _ _ ρ1 N r1 e1 _ fun σ1 N1 a1 b1 => ?_⟩
      refine g A σ1 ρ1 F H _ _ ρ' N1 r2 e2 Q fun σ2 N2 a2 b2 => q σ2 N2 ⟨a2.1.trans a1.1, fun j hj => ?_⟩ fun j ds h => let ⟨h1, h2⟩ := b2 j ds h; let ⟨h3, h4⟩ := b1 j ds h2; ⟨fun z => (List.mem_append.mp z).elim h3 h1, h4⟩
      rw [a2.2 j fun z => hj (List.mem_append_right _ z), a1.2 j fun z => hj (List.mem_append_left _ z)]
  · cases e
def gT (m : List D → Rho → Option Rho) : D → Rho → Option Rho := fun d ρ => match d with
  | .tuple ds => m ds ρ
  | _ => none
theorem gv_tup {pr is : List Nat} {K : PySem.W.Frag} {n : Nat} {t : TGs} {m : List D → Rho → Option Rho} (h : GVs K pr is t m) (hn : ∀ ds ρ ρ', m ds ρ = some ρ' → ds.length = n) : GV K pr is (gTup K n t) (gT m) := fun A σ ρ F H v d ρ' N r e Q q => by
  unfold gT at e
  split at e
  · rename_i ds
    cases r with
    | tup ha hr =>
      exact ⟨_, _, rfl, SqT.of (N.env.le _ _ ha), by rw [hr.length]; exact hn _ _ _ e, h A σ ρ F H _ _ ρ' N hr e Q q⟩
  · cases e
theorem gsNil_len {ds : List D} {ρ ρ' : Rho} (h : gsNil ds ρ = some ρ') : ds.length = 0 := by
  unfold gsNil at h
  split at h
  · rfl
  · cases h
theorem gsCons_len {n : Nat} {m : D → Rho → Option Rho} {k : List D → Rho → Option Rho} (hk : ∀ ds ρ ρ', k ds ρ = some ρ' → ds.length = n) : ∀ ds ρ ρ', gsCons m k ds ρ = some ρ' → ds.length = n + 1 := fun ds ρ ρ' h => by
  unfold gsCons at h
  split at h
  · obtain ⟨ρ1, e1, e2⟩ := bind_some h
    rw [List.length_cons, hk _ _ _ e2]
  · cases h
def asgS (m : EM) (g : D → Rho → Option Rho) : SM := fun ρ => (m ρ).bind fun a => (takeR a.1 a.2).bind fun b => (g b.1 b.2).map .nx
theorem sv_asg {pr is : List Nat} {te : TE} {g : TG} {m : EM} {mg : D → Rho → Option Rho} (h : EV K te m) (k : GV K pr is g mg) : SV K pr (tAsg te g) (asgS m mg) := fun A σ ρ F H o E N e q => by
  obtain ⟨⟨r, ρ1⟩, e1, e⟩ := bind_some e
  obtain ⟨⟨d, ρ2⟩, e2, e⟩ := bind_some e
  obtain ⟨ρ3, e3, rfl⟩ := map_some e
  refine h σ ρ F H r ρ1 N.env e1 _ fun v F1 H1 P1 R1 => ?_
  obtain ⟨F2, P2, s2, r2⟩ := take1 N.env P1 R1.w e2
  exact k A σ ρ2 F2 H1 v d ρ3 (N.post P2) r2 e3 _ fun σ' N' _ _ => q σ' F2 H1 N' P2.fle
/-! ### a, b = x, y: what is new stays the slot's own -/
def nrmL : List Rz → Rho → Option (List Rz × Rho)
  | [], ρ => some ([], ρ)
  | .brw i :: rs, ρ => (takeR (.brw i) ρ).bind fun a => (nrmL rs a.2).map fun b => (.sh a.1 :: b.1, b.2)
  | r :: rs, ρ => (nrmL rs ρ).map fun b => (r :: b.1, b.2)
def sets : List Nat → List Rz → Rho → Option Rho
  | [], [], ρ => some ρ
  | i :: is, .sh d :: rs, ρ => sets is rs (ρ.set i (some (.sh d)))
  | i :: is, .own ds :: rs, ρ => sets is rs (ρ.set i (some (.own ds)))
  | _, _, _ => none
def parS (is : List Nat) (m : AM) : SM := fun ρ => (m ρ).bind fun a => (nrmL a.1 a.2).bind fun b => (sets is b.1 b.2).map .nx
/-- results, none of them a slot's -/
inductive ResN (K : PySem.W.Frag) (F' H0 H' : Hp) : List V → List Rz → Prop
  | nil : ResN K F' H0 H' [] []
  | sh {v : V} {vs : List V} {d : D} {rs : List Rz} : Rp K F' v d → ResN K F' H0 H' vs rs → ResN K F' H0 H' (v :: vs) (.sh d :: rs)
  | own {p : Addr} {xs : List V} {vs : List V} {ds : List D} {rs : List Rz} : H0 p = none → H' p = some (.lst xs) → F' p = none → RpA K F' xs ds → ResN K F' H0 H' vs rs → (∀ (j : Nat) es, rs[j]? = some (.own es) → vs[j]? ≠ some (.ref p)) →
      ResN K F' H0 H' (.ref p :: vs) (.own ds :: rs)
theorem ResA.up {σ : L2.St} {ρ ρ1 ρ2 : Rho} {F H F1 H1 F2 H2 : Hp} (E : EnvR K σ ρ F H) (a : Post K σ ρ F H ρ1 F1 H1) (b : Post K σ ρ1 F1 H1 ρ2 F2 H2) : ∀ {vs : List V} {rs : List Rz}, ResA K σ F1 H H1 vs rs → ResA K σ F2 H H2 vs rs
  | _, _, .nil => .nil
  | _, _, .cons r t n => .cons (ResR.up E a b r) (ResA.up E a b t) n
theorem nrm_own : ∀ {rs rs' : List Rz} {ρ ρ' : Rho} {j : Nat} {es : List D}, nrmL rs ρ = some (rs', ρ') → rs'[j]? = some (.own es) → rs[j]? = some (.own es)
  | [], _, _, _, _, _, h, e => by
    cases h
    simp at e
  | .brw i :: rs, _, _, _, j, _, h, e => by
    obtain ⟨⟨d, ρ1⟩, e1, h⟩ := bind_some h
    obtain ⟨⟨t, ρ2⟩, e2, h⟩ := map_some h
    cases h
    cases j with
    | zero => simp at e
    | succ j =>
      have := nrm_own (j := j) e2 (by simpa using e)
      simpa using this
  | .sh d :: rs, _, _, _, j, _, h, e => by
    obtain ⟨⟨t, ρ2⟩, e2, h⟩ := map_some h
    cases h
    cases j with
    | zero => simp at e
    | succ j =>
      have := nrm_own (j := j) e2 (by simpa using e)
      simpa using this
  | .own ds :: rs, _, _, _, j, _, h, e => by
    obtain ⟨⟨t, ρ2⟩, e2, h⟩ := map_some h
    cases h
    cases j with
    | zero => simpa using e
    | succ j =>
      have := nrm_own (j := j) e2 (by simpa using e)
      simpa using this
theorem nrm {σ : L2.St} {ρ0 : Rho} {F0 H0 H : Hp} (E0 : EnvR K σ ρ0 F0 H0) : ∀ {rs rs' : List Rz} {vs : List V} {ρ ρ' : Rho} {F : Hp}, Post K σ ρ0 F0 H0 ρ F H → ResA K σ F H0 H vs rs → nrmL rs ρ = some (rs', ρ') → ∃ F', Post K σ ρ F H ρ' F' H ∧ ResN K F' H0 H vs rs'
  | [], _, _, ρ, _, F, P, h, e => by
    cases h
    cases e
    exact ⟨F, Post.refl P.env, .nil⟩
  | .brw i :: rs, _, _, ρ, _, F, P, h, e => by
    obtain ⟨⟨d, ρ1⟩, e1, e⟩ := bind_some e
    obtain ⟨⟨t, ρ2⟩, e2, e⟩ := map_some e
    cases e
    cases h with
    | cons r h n =>
      obtain ⟨F1, P1, s1, r1⟩ := take1 P.env (Post.refl P.env) (ResR.w (r := .brw i) (F := F) (H0 := H) r) e1
      obtain ⟨F2, P2, r2⟩ := nrm E0 (P.trans P1) (h.up E0 P P1) e2
      exact ⟨F2, P1.trans P2, .sh (Rp.up P2.fle d _ r1) r2⟩
  | .sh d :: rs, _, _, ρ, _, F, P, h, e => by
    obtain ⟨⟨t, ρ2⟩, e2, e⟩ := map_some e
    cases e
    cases h with
    | cons r h n =>
      obtain ⟨F2, P2, r2⟩ := nrm E0 P h e2
      exact ⟨F2, P2, .sh (Rp.up P2.fle d _ r) r2⟩
  | .own ds :: rs, _, _, ρ, _, F, P, h, e => by
    obtain ⟨⟨t, ρ2⟩, e2, e⟩ := map_some e
    cases e
    cases h with
    | cons r h n =>
      obtain ⟨F2, P2, r2⟩ := nrm E0 P h e2
      obtain ⟨p, xs, rfl, h0, h1, h2, h3⟩ := r
      exact ⟨F2, P2, .own h0 h1 (P2.fz p (not_none h1) h2 (fresh_nown E0 P h0)) (RpA.up P2.fle ds xs h3) r2 fun j es ej => n ds rfl j es (nrm_own e2 ej)⟩
def setV : List Nat → List V → L2.St → L2.St
  | i :: is, v :: vs, σ => setV is vs (σ.set i (some v))
  | _, _, σ => σ
theorem sets_now {A : Anc} {pr : List Nat} {F H0 H : Hp} : ∀ {is : List Nat} {rs : List Rz} {vs : List V} {σ : L2.St} {ρ ρ' : Rho}, Now K A pr σ ρ F H → ResN K F H0 H vs rs → (∀ (j : Nat) ds p, rs[j]? = some (.own ds) → vs[j]? = some (.ref p) → A.H0 p = none ∧ ¬ Owns σ ρ p) → (∀ i ∈ is, i ∉ pr) → sets is rs ρ = some ρ' →
    Now K A pr (setV is vs σ) ρ' F H ∧ vs.length = is.length
  | [], [], _, σ, ρ, ρ', N, h, _, _, e => by
    cases h
    cases e
    exact ⟨N, rfl⟩
  | i :: is, .sh d :: rs, _, σ, ρ, ρ', N, h, n, hp, e => by
    cases h with
    | sh r h =>
      rename_i v vs
      have N1 := N.put (hp i List.mem_cons_self) (s := .sh d) r fun ds a z _ => nomatch z
      have nn : ∀ (j : Nat) ds p, rs[j]? = some (.own ds) → vs[j]? = some (V.ref p) → A.H0 p = none ∧ ¬ Owns (σ.set i (some v)) (ρ.set i (some (.sh d))) p := fun j ds p e1 e2 => by
        obtain ⟨a, b⟩ := n (j + 1) ds p (by simpa using e1) (by simpa using e2)
        refine ⟨a, fun ⟨k, es, e3, e4⟩ => ?_⟩
        rcases set_back e3 with ⟨_, z⟩ | ⟨z, e3⟩
        · cases z
        · rw [List.getElem?_set_ne (Ne.symm z)] at e4
          exact b ⟨k, es, e3, e4⟩
      obtain ⟨N2, l2⟩ := sets_now N1 h nn (fun k hk => hp k (List.mem_cons_of_mem _ hk)) (show sets is rs (ρ.set i (some (.sh d))) = some ρ' from e)
      exact ⟨N2, by rw [List.length_cons, List.length_cons, l2]⟩
  | i :: is, .own ds :: rs, _, σ, ρ, ρ', N, h, n, hp, e => by
    cases h with
    | own h0 h1 h2 h3 h nn =>
      rename_i p xs vs
      obtain ⟨pa, pb⟩ := n 0 ds p rfl rfl
      have N1 := N.put (hp i List.mem_cons_self) (s := .own ds) ⟨p, xs, rfl, h1, h2, h3⟩ fun ds' a _ z => by
        cases z
        exact ⟨pa, pb⟩
      have nm : ∀ (j : Nat) es q, rs[j]? = some (.own es) → vs[j]? = some (V.ref q) → A.H0 q = none ∧ ¬ Owns (σ.set i (some (.ref p))) (ρ.set i (some (.own ds))) q := fun j es q e1 e2 => by
        obtain ⟨a, b⟩ := n (j + 1) es q (by simpa using e1) (by simpa using e2)
        refine ⟨a, fun ⟨k, gs, e3, e4⟩ => ?_⟩
        rcases set_back e3 with ⟨rfl, z⟩ | ⟨z, e3⟩
        · have hl : k < σ.length := by
            rw [← N.env.len]
            have := (List.getElem?_eq_some_iff.mp e3).1
            rw [List.length_set] at this
            exact this
          rw [List.getElem?_set_self hl] at e4
          cases e4
          exact nn j es e1 e2
        · rw [List.getElem?_set_ne (Ne.symm z)] at e4
          exact b ⟨k, gs, e3, e4⟩
      obtain ⟨N2, l2⟩ := sets_now N1 h nm (fun k hk => hp k (List.mem_cons_of_mem _ hk)) (show sets is rs (ρ.set i (some (.own ds))) = some ρ' from e)
      exact ⟨N2, by rw [List.length_cons, List.length_cons, l2]⟩
  | [], _ :: _, _, _, _, _, _, _, _, _, e => by cases e
  | _ :: _, [], _, _, _, _, _, _, _, _, e => by cases e
  | _ :: _, .brw _ :: _, _, _, _, _, _, _, _, _, e => by cases e
theorem par_now {A : Anc} {pr : List Nat} {σ : L2.St} {ρ ρ1 ρ2 ρ3 : Rho} {F H F1 H1 : Hp} {is : List Nat} {rs rs' : List Rz} {vs : List V} (N : Now K A pr σ ρ F H) (P1 : Post K σ ρ F H ρ1 F1 H1) (R1 : ResA K σ F1 H H1 vs rs) (e2 : nrmL rs ρ1 = some (rs', ρ2)) (e3 : sets is rs' ρ2 = some ρ3) (hp : ∀ i ∈ is, i ∉ pr) :
    ∃ F2, Now K A pr (setV is vs σ) ρ3 F2 H1 ∧ vs.length = is.length ∧ Same F F2 := by
  obtain ⟨F2, P2, r2⟩ := nrm N.env P1 R1 e2
  have N2 := N.post (P1.trans P2)
  have nn : ∀ (j : Nat) ds p, rs'[j]? = some (.own ds) → vs[j]? = some (V.ref p) → A.H0 p = none ∧ ¬ Owns σ ρ2 p := fun j ds p e4 e5 => by
    have e6 := nrm_own e2 e4
    obtain ⟨p', xs, ep, h0, _⟩ := R1.get j _ _ e5 e6
    cases ep
    exact ⟨none_back N.ex h0, fresh_nown N.env (P1.trans P2) h0⟩
  obtain ⟨N3, l3⟩ := sets_now N2 r2 nn hp e3
  exact ⟨F2, N3, l3, P1.fle.trans P2.fle⟩
theorem sv_par2 {pr : List Nat} {i j : Nat} {ta : TA} {m : AM} (h : AV K ta m) (hp : ∀ k ∈ [i, j], k ∉ pr := by decide) : SV K pr (tPar i j ta) (parS [i, j] m) := fun A σ ρ F H o E N e q => by
  obtain ⟨⟨rs, ρ1⟩, e1, e⟩ := bind_some e
  obtain ⟨⟨rs', ρ2⟩, e2, e⟩ := bind_some e
  obtain ⟨ρ3, e3, rfl⟩ := map_some e
  refine h σ ρ F H rs ρ1 N.env e1 _ fun vs F1 H1 P1 R1 => ?_
  obtain ⟨F2, N2, l2, s2⟩ := par_now N P1 R1 e2 e3 hp
  match vs, l2 with
  | [v, w], _ => exact ⟨v, w, rfl, q _ F2 H1 N2 s2⟩
theorem sv_par3 {pr : List Nat} {i j k : Nat} {ta : TA} {m : AM} (h : AV K ta m) (hp : ∀ l ∈ [i, j, k], l ∉ pr := by decide) : SV K pr (tPar3 i j k ta) (parS [i, j, k] m) := fun A σ ρ F H o E N e q => by
  obtain ⟨⟨rs, ρ1⟩, e1, e⟩ := bind_some e
  obtain ⟨⟨rs', ρ2⟩, e2, e⟩ := bind_some e
  obtain ⟨ρ3, e3, rfl⟩ := map_some e
  refine h σ ρ F H rs ρ1 N.env e1 _ fun vs F1 H1 P1 R1 => ?_
  obtain ⟨F2, N2, l2, s2⟩ := par_now N P1 R1 e2 e3 hp
  match vs, l2 with
  | [u, v, w], _ => exact ⟨u, v, w, rfl, q _ F2 H1 N2 s2⟩
def gsOf : List Nat → TGs
  | [] => gNil
  | i :: is => gCons (gName i) (gsOf is)
theorem gs_run : ∀ {is : List Nat} {vs : List V} {σ : L2.St} {H : Hp} {Q : L2.St → Hp → Prop}, vs.length = is.length → Q (setV is vs σ) H → gsOf is vs σ H Q
  | [], [], _, _, _, _, q => ⟨rfl, q⟩
  | [], _ :: _, _, _, _, h, _ => by cases h
  | _ :: _, [], _, _, _, h, _ => by cases h
  | i :: is, v :: vs, σ, H, Q, h, q => ⟨v, vs, rfl, gs_run (is := is) (Nat.succ.inj h) q⟩
theorem sv_parT {pr is : List Nat} {K : PySem.W.Frag} {n : Nat} {ta : TA} {m : AM} (h : AV K ta m) (hn : is.length = n := by rfl) (hz : n ≤ sizeLine := by decide) (hp : ∀ k ∈ is, k ∉ pr := by decide) : SV K pr (tAsg (tTup ta) (gTup K n (gsOf is))) (parS is m) := fun A σ ρ F H o E N e q => by
  obtain ⟨⟨rs, ρ1⟩, e1, e⟩ := bind_some e
  obtain ⟨⟨rs', ρ2⟩, e2, e⟩ := bind_some e
  obtain ⟨ρ3, e3, rfl⟩ := map_some e
  refine h σ ρ F H rs ρ1 N.env e1 _ fun vs F1 H1 P1 R1 => ?_
  obtain ⟨F2, N2, l2, s2⟩ := par_now N P1 R1 e2 e3 hp
  refine ⟨by omega, fun p hp => ⟨p, vs, rfl, SqT.of upd_same, by omega, gs_run l2 ?_⟩⟩
  have g := Post.grow N2.env (Same.refl F2) (Same.new hp) (N2.env.le.trans (Same.new (o := .tup vs) hp)) fun _ _ => rfl
  exact q _ F2 _ (N2.post g) s2
/-! ### i op= e -/
def augS (i : Nat) (f : Int → Int → Int) (m : EM) : SM := fun ρ => match ρ[i]? with
  | some (some (.sh (.int a))) => (oneI m ρ).map fun b => .nx (b.2.set i (some (.sh (.int (f a b.1)))))
  | _ => none
theorem sv_aug {pr : List Nat} {i : Nat} {f : Int → Int → Int} {te : TE} {m : EM} (h : EV K te m) (hi : i ∉ pr := by decide) : SV K pr (tAug i te (ipI f)) (augS i f m) := fun A σ ρ F H o E N e q => by
  unfold augS at e
  split at e
  · rename_i a ea
    obtain ⟨⟨b, ρ1⟩, e1, rfl⟩ := map_some e
    obtain ⟨v, w1, w2⟩ := N.env.slot i _ ea
    cases (show Rp K F v (.int a) from w2)
    refine ⟨_, w1, one_int h N.env e1 fun F1 H1 P1 => ⟨a, b, rfl, rfl, ?_⟩⟩
    exact q _ F1 H1 ((N.post P1).put hi (s := .sh (.int (f a b))) (.int _) fun ds a z _ => nomatch z) P1.fle
  · cases e
/-! ### an own list is changed -/
theorem own_put {σ : L2.St} {ρ : Rho} {F H : Hp} {k : Nat} {p : Addr} {ds es : List D} {ys : List V} (E : EnvR K σ ρ F H) (ek : ρ[k]? = some (some (.own ds))) (ep : σ[k]? = some (some (.ref p))) (r : RpA K F ys es) :
    Post K σ ρ F H (ρ.set k (some (.own es))) F (upd H p (.lst ys)) := by
  obtain ⟨v, hv, p', xs, e3, e4, e5, e6⟩ := E.slot k _ ek
  rw [ep] at hv
  cases hv
  cases e3
  have n : ∀ a o, F a = some o → a ≠ p := fun a o h z => by
    rw [z, e5] at h
    cases h
  refine ⟨⟨fun a o h => by rw [upd_ne (n a o h)]; exact E.le a o h, by rw [List.length_set]; exact E.len, fun j x hj => ?_, fun j l a b w hj hl wj wl => ?_⟩, Same.refl F, fun a o h no => ?_, fun a h => ?_, fun a _ f _ => f, fun j gs hj => ?_⟩
  · rcases set_back hj with ⟨rfl, ex⟩ | ⟨z, hj⟩
    · cases ex
      exact ⟨_, ep, p, ys, rfl, upd_same, e5, r⟩
    · obtain ⟨w, w1, w2⟩ := E.slot j x hj
      refine ⟨w, w1, ?_⟩
      cases x with
      | sh d => exact w2
      | own gs =>
        obtain ⟨q, zs, q1, q2, q3, q4⟩ := w2
        have ne : q ≠ p := fun y => z (E.inj j k gs ds _ hj ek (by rw [w1, q1, y]) ep)
        exact ⟨q, zs, q1, by rw [upd_ne ne]; exact q2, q3, q4⟩
  · rcases set_back hj with ⟨rfl, _⟩ | ⟨_, hj1⟩
    · rcases set_back hl with ⟨rfl, _⟩ | ⟨_, hl1⟩
      · rfl
      · exact E.inj j l ds b w ek hl1 wj wl
    · rcases set_back hl with ⟨rfl, _⟩ | ⟨_, hl1⟩
      · exact E.inj j l a ds w hj1 ek wj wl
      · exact E.inj j l a b w hj1 hl1 wj wl
  · have ne : a ≠ p := fun z => no ⟨k, ds, ek, by rw [z]; exact ep⟩
    rw [upd_ne ne]
    exact h
  · by_cases z : a = p
    · rw [z, upd_same]
      exact fun z => nomatch z
    · rw [upd_ne z]
      exact h
  · rcases set_back hj with ⟨rfl, _⟩ | ⟨_, hj⟩
    · exact ⟨ds, ek⟩
    · exact ⟨gs, hj⟩
def appE (k : Nat) (m : EM) : EM := fun ρ => match ρ[k]? with
  | some (some (.own _)) => (m ρ).bind fun a => (takeR a.1 a.2).bind fun b => match b.2[k]? with
    | some (some (.own ds)) => if ds.length < sizeLine then some (.sh .none, b.2.set k (some (.own (ds ++ [b.1])))) else none
    | _ => none
  | _ => none
theorem ev_app {K : PySem.W.Frag} {k : Nat} {te : TE} {m : EM} (h : EV K te m) : EV K (tBM K "list" rAppend (tVar k) (tCons te tNil)) (appE k m) := fun σ ρ F H r ρ' E e Q q => by
  unfold appE at e
  split at e
  · rename_i ds0 e0
    obtain ⟨⟨r1, ρ1⟩, e1, e⟩ := bind_some e
    obtain ⟨⟨d, ρ2⟩, e2, e⟩ := bind_some e
    simp only at e
    split at e
    · rename_i ds ed
      split at e
      · rename_i hl
        cases e
        obtain ⟨v, hv, p, xs, rfl, hp, fp, rp⟩ := E.slot k _ e0
        refine ⟨_, hv, .inl ⟨rfl, xs, SqL.of hp⟩, h σ ρ F H r1 ρ1 E e1 _ fun v F1 H1 P1 R1 => ?_⟩
        obtain ⟨F2, P2, s2, r2⟩ := take1 E P1 R1.w e2
        obtain ⟨v', hv', p', xs', e3, e4, e5, e6⟩ := P2.env.slot k _ ed
        rw [hv] at hv'
        cases hv'
        cases e3
        refine ⟨p, xs', v, rfl, rfl, e4, by rw [e6.length]; exact hl, ?_⟩
        exact q _ F2 _ (P2.trans (own_put P2.env ed hv (e6.snoc r2))) .non
      · cases e
    · cases e
  · cases e
def subS (k : Nat) (mi m : EM) : SM := fun ρ => match ρ[k]? with
  | some (some (.own _)) => (m ρ).bind fun a => (oneI mi a.2).bind fun i => (takeR a.1 i.2).bind fun b => match b.2[k]? with
    | some (some (.own ds)) => (ixN ds.length i.1).map fun j => .nx (b.2.set k (some (.own (ds.set j b.1))))
    | _ => none
  | _ => none
theorem one_intP {te : TE} {m : EM} (h : EV K te m) {σ : L2.St} {ρ ρ' : Rho} {F H : Hp} {i : Int} (E : EnvR K σ ρ F H) (e : oneI m ρ = some (i, ρ')) {Q : VK} (q : ∀ F' H', Post K σ ρ F H ρ' F' H' → Q (.int i) H') : te σ H Q := one_int h E e q
theorem sv_sub {pr : List Nat} {k : Nat} {te ti : TE} {m mi : EM} (h : EV K te m) (g : EV K ti mi) : SV K pr (tAsg te (gSub (tVar k) ti rSetL)) (subS k mi m) := fun A σ ρ F H o E N e q => by
  unfold subS at e
  split at e
  · rename_i ds0 e0
    obtain ⟨⟨r, ρ1⟩, e1, e⟩ := bind_some e
    obtain ⟨⟨i, ρ2⟩, e2, e⟩ := bind_some e
    obtain ⟨⟨d, ρ3⟩, e3, e⟩ := bind_some e
    simp only at e
    split at e
    · rename_i ds ed
      obtain ⟨j, e4, rfl⟩ := map_some e
      obtain ⟨v0, hv, p, xs0, rfl, _⟩ := N.env.slot k _ e0
      refine h σ ρ F H r ρ1 N.env e1 _ fun v F1 H1 P1 R1 => ?_
      refine ⟨_, hv, one_int g P1.env e2 fun F2 H2 P2 => ?_⟩
      have P := P1.trans P2
      obtain ⟨F3, P3, s3, r3⟩ := take1 N.env P (ResR.up N.env P1 P2 R1).w e3
      obtain ⟨v', hv', p', xs, e5, e6, e7, e8⟩ := P3.env.slot k _ ed
      rw [hv] at hv'
      cases hv'
      cases e5
      refine ⟨p, xs, i, j, rfl, rfl, e6, by rw [e8.length]; exact e4, ?_⟩
      exact q σ F3 _ (N.post (P3.trans (own_put P3.env ed hv (RpA.set r3 j e8)))) P3.fle
    · cases e
  · cases e
/-- o[i] op= e of a list of ints at i -/
def augSubS (k : Nat) (mi : EM) (f : Int → Int → Int) (m : EM) : SM := fun ρ => match ρ[k]? with
  | some (some (.own _)) => (oneI mi ρ).bind fun i => match i.2[k]? with
    | some (some (.own ds)) => match atI ds i.1 with
      | some (.int a) => (oneI m i.2).bind fun b => match b.2[k]? with
        | some (some (.own es)) => (ixN es.length i.1).map fun j => .nx (b.2.set k (some (.own (es.set j (.int (f a b.1))))))
        | _ => none
      | _ => none
    | _ => none
  | _ => none
theorem sv_augSub {pr : List Nat} {K : PySem.W.Frag} {k : Nat} {f : Int → Int → Int} {te ti : TE} {m mi : EM} (h : EV K te m) (g : EV K ti mi) : SV K pr (tAugS (tVar k) ti te (rIxL K) (ipI f) rSetL) (augSubS k mi f m) := fun A σ ρ F H o E N e q => by
  unfold augSubS at e
  split at e
  · rename_i ds0 e0
    obtain ⟨⟨i, ρ1⟩, e1, e⟩ := bind_some e
    simp only at e
    split at e
    · rename_i ds ed
      split at e
      · rename_i a ea
        obtain ⟨⟨b, ρ2⟩, e2, e⟩ := bind_some e
        simp only at e
        split at e
        · rename_i es ee
          obtain ⟨j, e4, rfl⟩ := map_some e
          obtain ⟨v0, hv, p, xs0, rfl, _⟩ := N.env.slot k _ e0
          refine ⟨_, hv, one_int g N.env e1 fun F1 H1 P1 => ?_⟩
          obtain ⟨v', hv', p', xs, e5, e6, e7, e8⟩ := P1.env.slot k _ ed
          rw [hv] at hv'
          cases hv'
          cases e5
          obtain ⟨w, w1, w2⟩ := e8.atI ea
          cases w2
          refine ⟨p, xs, i, _, rfl, rfl, SqL.of e6, w1, one_int h P1.env e2 fun F2 H2 P2 => ⟨a, b, rfl, rfl, ?_⟩⟩
          obtain ⟨v', hv', p', ys, f5, f6, f7, f8⟩ := P2.env.slot k _ ee
          rw [hv] at hv'
          cases hv'
          cases f5
          refine ⟨p, ys, i, j, rfl, rfl, f6, by rw [f8.length]; exact e4, ?_⟩
          exact q σ F2 _ (N.post ((P1.trans P2).trans (own_put P2.env ee hv (RpA.set (.int _) j f8)))) (P1.fle.trans P2.fle)
        · cases e
      · cases e
    · cases e
  · cases e
/-! ### loops -/
/-- what a walk gives, turn by turn -/
structure Walks (K : PySem.W.Frag) (J : It) (F : Hp) (ds : List D) : Prop where
  go : ∀ i H, Same F H → i < ds.length → J.go i H
  stop : ∀ H, Same F H → J.stop ds.length H
  yld : ∀ i F1 H x H', Same F F1 → Same F1 H → i < ds.length → J.yld i H x H' → ∃ F2 d, ds[i]? = some d ∧ Same F1 F2 ∧ Same H H' ∧ Same F2 H' ∧ (∀ a, H a ≠ none → F2 a = F1 a) ∧ Rp K F2 x d
abbrev IM := Rho → Option (List D × Rho)
def IV (K : PySem.W.Frag) (wi : TI) (m : IM) : Prop := ∀ (σ : L2.St) (ρ : Rho) (F H : Hp) (ds : List D) (ρ' : Rho), EnvR K σ ρ F H → m ρ = some (ds, ρ') → ∀ Q : It → Hp → Prop,
  (∀ J F' H', Post K σ ρ F H ρ' F' H' → Walks K J F' ds → Q J H') → wi σ H Q
def walkM (m : EM) : IM := fun ρ => (m ρ).bind fun a => (takeR a.1 a.2).bind fun b => match b.1 with
  | .list ds => some (ds, b.2)
  | _ => none
def walkTM (m : EM) : IM := fun ρ => (m ρ).bind fun a => (takeR a.1 a.2).bind fun b => match b.1 with
  | .tuple ds => some (ds, b.2)
  | _ => none
theorem walks_list {K : PySem.W.Frag} {F : Hp} {a : Addr} {xs : List V} {ds : List D} (ha : F a = some (.lst xs)) (r : RpA K F xs ds) : Walks K (Itl K a) F ds where
  go := fun i H s h => by
    obtain ⟨v, e, _⟩ := r.get (List.getElem?_eq_getElem h)
    exact ⟨xs, v, SqL.of (s _ _ ha), e⟩
  stop := fun H s => ⟨xs, SqL.of (s _ _ ha), by rw [r.length]; exact Nat.le_refl _⟩
  yld := fun i F1 H x H' s s1 h y => by
    obtain ⟨rfl, y⟩ := y
    obtain ⟨v, e, rv⟩ := r.get (List.getElem?_eq_getElem h)
    have e2 := y xs (SqL.of (s1 _ _ (s _ _ ha)))
    rw [e] at e2
    cases e2
    exact ⟨F1, _, List.getElem?_eq_getElem h, Same.refl _, Same.refl _, s1, fun _ _ => rfl, Rp.up s _ _ rv⟩
theorem walks_tup {K : PySem.W.Frag} {F : Hp} {a : Addr} {xs : List V} {ds : List D} (ha : F a = some (.tup xs)) (r : RpA K F xs ds) : Walks K (Itt K a) F ds where
  go := fun i H s h => by
    obtain ⟨v, e, _⟩ := r.get (List.getElem?_eq_getElem h)
    exact ⟨xs, v, SqT.of (s _ _ ha), e⟩
  stop := fun H s => ⟨xs, SqT.of (s _ _ ha), by rw [r.length]; exact Nat.le_refl _⟩
  yld := fun i F1 H x H' s s1 h y => by
    obtain ⟨rfl, y⟩ := y
    obtain ⟨v, e, rv⟩ := r.get (List.getElem?_eq_getElem h)
    have e2 := y xs (SqT.of (s1 _ _ (s _ _ ha)))
    rw [e] at e2
    cases e2
    exact ⟨F1, _, List.getElem?_eq_getElem h, Same.refl _, Same.refl _, s1, fun _ _ => rfl, Rp.up s _ _ rv⟩
theorem iv_list {K : PySem.W.Frag} {te : TE} {m : EM} (h : EV K te m) : IV K (iList K te) (walkM m) := fun σ ρ F H ds ρ' E e Q q => by
  obtain ⟨⟨r, ρ1⟩, e1, e⟩ := bind_some e
  obtain ⟨⟨d, ρ2⟩, e2, e⟩ := bind_some e
  simp only at e
  split at e
  · cases e
    refine h σ ρ F H r ρ1 E e1 _ fun v F1 H1 P1 R1 => ?_
    obtain ⟨F2, P2, s2, r2⟩ := take1 E P1 R1.w e2
    cases r2 with
    | lst ha hr => exact ⟨_, rfl, ⟨_, SqL.of (P2.env.le _ _ ha)⟩, q _ F2 H1 P2 (walks_list ha hr)⟩
  · cases e
theorem iv_tup {K : PySem.W.Frag} {te : TE} {m : EM} (h : EV K te m) : IV K (iTup K te) (walkTM m) := fun σ ρ F H ds ρ' E e Q q => by
  obtain ⟨⟨r, ρ1⟩, e1, e⟩ := bind_some e
  obtain ⟨⟨d, ρ2⟩, e2, e⟩ := bind_some e
  simp only at e
  split at e
  · cases e
    refine h σ ρ F H r ρ1 E e1 _ fun v F1 H1 P1 R1 => ?_
    obtain ⟨F2, P2, s2, r2⟩ := take1 E P1 R1.w e2
    cases r2 with
    | tup ha hr => exact ⟨_, rfl, ⟨_, SqT.of (P2.env.le _ _ ha)⟩, q _ F2 H1 P2 (walks_tup ha hr)⟩
  · cases e
theorem walks_rng {F : Hp} {lo : Int} {n : Nat} : Walks K (Itr lo n) F ((List.range n).map fun i => PyData.int (lo + (i : Nat))) where
  go := fun i H s h => by
    rw [List.length_map, List.length_range] at h
    exact h
  stop := fun H s => by
    rw [List.length_map, List.length_range]
    exact Nat.le_refl _
  yld := fun i F1 H x H' s s1 h y => by
    obtain ⟨rfl, rfl⟩ := y
    rw [List.length_map, List.length_range] at h
    exact ⟨F1, _, by rw [List.getElem?_map, List.getElem?_range h]; rfl, Same.refl _, Same.refl _, s1, fun _ _ => rfl, .int _⟩
theorem walks_rngC {F : Hp} {lo c : Int} {n : Nat} : Walks K (Itc lo c n) F (rgDC lo c n) where
  go := fun i H s h => by
    unfold rgDC at h
    rw [List.length_map, List.length_range] at h
    exact h
  stop := fun H s => by
    unfold rgDC
    rw [List.length_map, List.length_range]
    exact Nat.le_refl _
  yld := fun i F1 H x H' s s1 h y => by
    obtain ⟨rfl, rfl⟩ := y
    unfold rgDC at h ⊢
    rw [List.length_map, List.length_range] at h
    exact ⟨F1, _, by rw [List.getElem?_map, List.getElem?_range h]; rfl, Same.refl _, Same.refl _, s1, fun _ _ => rfl, .int _⟩
def rng1 (m : EM) : IM := fun ρ => (oneI m ρ).bind fun a => if -(2 ^ 62) ≤ a.1 ∧ a.1 < 2 ^ 62 then some (rgD 0 a.1, a.2) else none
def rng2 (m n : EM) : IM := fun ρ => (oneI m ρ).bind fun a => (oneI n a.2).bind fun b => if -(2 ^ 62) ≤ a.1 ∧ a.1 < 2 ^ 62 ∧ -(2 ^ 62) ≤ b.1 ∧ b.1 < 2 ^ 62 then some (rgD a.1 b.1, b.2) else none
def rng3 (m n l : EM) : IM := fun ρ => (oneI m ρ).bind fun a => (oneI n a.2).bind fun b => (oneI l b.2).bind fun c => if RgC a.1 b.1 c.1 (rgN a.1 b.1 c.1) then some (rgDC a.1 c.1 (rgN a.1 b.1 c.1), c.2) else none
theorem iv_rng1 {ta : TE} {m : EM} (h : EV K ta m) : IV K (iRng1 (tCons ta tNil)) (rng1 m) := fun σ ρ F H ds ρ' E e Q q => by
  obtain ⟨⟨i, ρ1⟩, e1, e⟩ := bind_some e
  simp only at e
  split at e
  · rename_i hc
    cases e
    refine one_int h E e1 fun F1 H1 P1 => ⟨i, rfl, hc.1, hc.2, q _ F1 H1 P1 ?_⟩
    unfold rgD
    rw [Int.sub_zero]
    exact walks_rng
  · cases e
theorem iv_rng2 {ta tb : TE} {m n : EM} (h : EV K ta m) (g : EV K tb n) : IV K (iRng2 (tCons ta (tCons tb tNil))) (rng2 m n) := fun σ ρ F H ds ρ' E e Q q => by
  obtain ⟨⟨i, ρ1⟩, e1, e⟩ := bind_some e
  obtain ⟨⟨j, ρ2⟩, e2, e⟩ := bind_some e
  simp only at e
  split at e
  · rename_i hc
    cases e
    refine one_int h E e1 fun F1 H1 P1 => one_int g P1.env e2 fun F2 H2 P2 => ⟨i, j, rfl, hc, q _ F2 H2 (P1.trans P2) walks_rng⟩
  · cases e
theorem iv_rng3 {ta tb tc : TE} {m n l : EM} (h : EV K ta m) (g : EV K tb n) (k : EV K tc l) : IV K (iRng3 (tCons ta (tCons tb (tCons tc tNil)))) (rng3 m n l) := fun σ ρ F H ds ρ' E e Q q => by
  obtain ⟨⟨i, ρ1⟩, e1, e⟩ := bind_some e
  obtain ⟨⟨j, ρ2⟩, e2, e⟩ := bind_some e
  obtain ⟨⟨c, ρ3⟩, e3, e⟩ := bind_some e
  simp only at e
  split at e
  · rename_i hc
    cases e
    refine one_int h E e1 fun F1 H1 P1 => one_int g P1.env e2 fun F2 H2 P2 => one_int k P2.env e3 fun F3 H3 P3 => ⟨i, j, c, _, rfl, hc, q _ F3 H3 (P1.trans (P2.trans P3)) walks_rngC⟩
  · cases e
/-- enumerate(list), zip(list, list): each item a new pair -/
def enumD : Nat → List D → List D
  | _, [] => []
  | i, d :: ds => .tuple [.int i, d] :: enumD (i + 1) ds
theorem enumD_len : ∀ (ds : List D) (i : Nat), (enumD i ds).length = ds.length
  | [], _ => rfl
  | _ :: ds, i => by rw [enumD, List.length_cons, List.length_cons, enumD_len ds]
theorem enumD_get : ∀ {ds : List D} {i j : Nat} {d : D}, ds[j]? = some d → (enumD i ds)[j]? = some (.tuple [.int (i + j : Nat), d])
  | [], _, _, _, h => by simp at h
  | _ :: ds, i, 0, _, h => by
    cases h
    rfl
  | _ :: ds, i, j + 1, d, h => by
    have := enumD_get (i := i + 1) (j := j) (d := d) (by simpa using h)
    rw [enumD, List.getElem?_cons_succ, this]
    have e : i + 1 + j = i + (j + 1) := by omega
    rw [e]
def zipD : List D → List D → List D
  | a :: as, b :: bs => .tuple [a, b] :: zipD as bs
  | _, _ => []
theorem zipD_len : ∀ (as bs : List D), (zipD as bs).length = min as.length bs.length
  | [], bs => by simp [zipD]
  | a :: as, [] => by simp [zipD]
  | a :: as, b :: bs => by rw [zipD, List.length_cons, List.length_cons, List.length_cons, zipD_len as bs]; omega
theorem zipD_get : ∀ {as bs : List D} {j : Nat} {a b : D}, as[j]? = some a → bs[j]? = some b → (zipD as bs)[j]? = some (.tuple [a, b])
  | [], _, _, _, _, h, _ => by simp at h
  | _ :: _, [], _, _, _, _, h => by simp at h
  | _ :: as, _ :: bs, 0, _, _, h, g => by
    cases h
    cases g
    rfl
  | _ :: as, _ :: bs, j + 1, a, b, h, g => by
    rw [zipD, List.getElem?_cons_succ]
    exact zipD_get (by simpa using h) (by simpa using g)
theorem pair_new {F1 H : Hp} {T : Addr} {x y : V} {a b : D} (s1 : Same F1 H) (hT : H T = none) (ra : Rp K F1 x a) (rb : Rp K F1 y b) :
    ∃ F2, Same F1 F2 ∧ Same H (upd H T (.tup [x, y])) ∧ Same F2 (upd H T (.tup [x, y])) ∧ (∀ c, H c ≠ none → F2 c = F1 c) ∧ Rp K F2 (.ref T) (.tuple [a, b]) := by
  have s : Same F1 (upd F1 T (.tup [x, y])) := Same.new (fresh_F s1 hT)
  refine ⟨upd F1 T (.tup [x, y]), s, Same.new hT, fun c o e => ?_, fun c h => upd_ne fun z => h (by rw [z]; exact hT), .tup upd_same (.cons (Rp.up s _ _ ra) (.cons (Rp.up s _ _ rb) .nil))⟩
  by_cases z : c = T
  · subst z
    rw [upd_same] at e ⊢
    exact e
  · rw [upd_ne z] at e ⊢
    exact s1 c o e
theorem walks_enum {K : PySem.W.Frag} {F : Hp} {a : Addr} {xs : List V} {ds : List D} (ha : F a = some (.lst xs)) (r : RpA K F xs ds) : Walks K (Ite K a) F (enumD 0 ds) where
  go := fun i H s h => by
    rw [enumD_len] at h
    obtain ⟨v, e, _⟩ := r.get (List.getElem?_eq_getElem h)
    exact ⟨xs, v, SqL.of (s _ _ ha), e⟩
  stop := fun H s => ⟨xs, SqL.of (s _ _ ha), by rw [r.length, enumD_len]; exact Nat.le_refl _⟩
  yld := fun i F1 H x H' s s1 h y => by
    rw [enumD_len] at h
    obtain ⟨T, z, rfl, hT, rfl, y⟩ := y
    obtain ⟨v, e, rv⟩ := r.get (List.getElem?_eq_getElem h)
    have e2 := y xs (SqL.of (s1 _ _ (s _ _ ha)))
    rw [e] at e2
    cases e2
    obtain ⟨F2, a1, a2, a3, a4, a5⟩ := pair_new (x := .int (i : Nat)) (y := z) s1 hT (.int _) (Rp.up s _ _ rv)
    refine ⟨F2, _, enumD_get (List.getElem?_eq_getElem h), a1, a2, a3, a4, ?_⟩
    rw [Nat.zero_add]
    exact a5
theorem walks_zip {K : PySem.W.Frag} {F : Hp} {a b : Addr} {xs ys : List V} {ds es : List D} (ha : F a = some (.lst xs)) (r : RpA K F xs ds) (hb : F b = some (.lst ys)) (r2 : RpA K F ys es) : Walks K (Itz K a b) F (zipD ds es) where
  go := fun i H s h => by
    rw [zipD_len] at h
    obtain ⟨v, e, _⟩ := r.get (List.getElem?_eq_getElem (show i < ds.length by omega))
    obtain ⟨w, e2, _⟩ := r2.get (List.getElem?_eq_getElem (show i < es.length by omega))
    exact ⟨xs, ys, v, w, SqL.of (s _ _ ha), SqL.of (s _ _ hb), e, e2⟩
  stop := fun H s => ⟨xs, ys, SqL.of (s _ _ ha), SqL.of (s _ _ hb), by rw [r.length, r2.length, zipD_len]; omega⟩
  yld := fun i F1 H x H' s s1 h y => by
    rw [zipD_len] at h
    obtain ⟨T, z, w, rfl, hT, rfl, y1, y2⟩ := y
    obtain ⟨v, e, rv⟩ := r.get (List.getElem?_eq_getElem (show i < ds.length by omega))
    obtain ⟨u, e', ru⟩ := r2.get (List.getElem?_eq_getElem (show i < es.length by omega))
    have e2 := y1 xs (SqL.of (s1 _ _ (s _ _ ha)))
    rw [e] at e2
    cases e2
    have e3 := y2 ys (SqL.of (s1 _ _ (s _ _ hb)))
    rw [e'] at e3
    cases e3
    obtain ⟨F2, a1, a2, a3, a4, a5⟩ := pair_new s1 hT (Rp.up s _ _ rv) (Rp.up s _ _ ru)
    exact ⟨F2, _, zipD_get (List.getElem?_eq_getElem _) (List.getElem?_eq_getElem _), a1, a2, a3, a4, a5⟩
def enumM (m : AM) : IM := fun ρ => (m ρ).bind fun a => (takeL a.1 a.2).bind fun b => match b.1 with
  | [.list ds] => some (enumD 0 ds, b.2)
  | _ => none
def zipM (m : AM) : IM := fun ρ => (m ρ).bind fun a => (takeL a.1 a.2).bind fun b => match b.1 with
  | [.list ds, .list es] => some (zipD ds es, b.2)
  | _ => none
theorem iv_enum {K : PySem.W.Frag} {ta : TA} {m : AM} (h : AV K ta m) : IV K (iEnum K ta) (enumM m) := fun σ ρ F H ds ρ' E e Q q => by
  obtain ⟨⟨rs, ρ1⟩, e1, e⟩ := bind_some e
  obtain ⟨⟨d, ρ2⟩, e2, e⟩ := bind_some e
  simp only at e
  split at e
  · cases e
    refine h σ ρ F H rs ρ1 E e1 _ fun vs F1 H1 P1 R1 => ?_
    obtain ⟨F2, P2, s2, r2⟩ := takeA E P1 R1 e2
    cases r2 with
    | cons r3 r4 =>
      cases r4
      cases r3 with
      | lst ha hr => exact ⟨_, _, rfl, SqL.of (P2.env.le _ _ ha), q _ F2 H1 P2 (walks_enum ha hr)⟩
  · cases e
theorem iv_zip {K : PySem.W.Frag} {ta : TA} {m : AM} (h : AV K ta m) : IV K (iZip K ta) (zipM m) := fun σ ρ F H ds ρ' E e Q q => by
  obtain ⟨⟨rs, ρ1⟩, e1, e⟩ := bind_some e
  obtain ⟨⟨d, ρ2⟩, e2, e⟩ := bind_some e
  simp only at e
  split at e
  · cases e
    refine h σ ρ F H rs ρ1 E e1 _ fun vs F1 H1 P1 R1 => ?_
    obtain ⟨F2, P2, s2, r2⟩ := takeA E P1 R1 e2
    cases r2 with
    | cons r3 r4 =>
      cases r4 with
      | cons r5 r6 =>
        cases r6
        cases r3 with
        | lst ha hr =>
          cases r5 with
          | lst hb hr2 => exact ⟨_, _, _, _, rfl, SqL.of (P2.env.le _ _ ha), SqL.of (P2.env.le _ _ hb), q _ F2 H1 P2 (walks_zip ha hr hb hr2)⟩
  · cases e
end Pv

set_option Elab.async false
set_option linter.all false
set_option maxRecDepth 100000
set_option maxHeartbeats 4000000
namespace Pv
open PySem PySem.Spec PyProof.Rows L2 Ws
variable {K : PySem.W.Frag}
/-! ### for -/
def forL (g : D → Rho → Option Rho) (b : SM) : List D → SM
  | [], ρ => some (.nx ρ)
  | d :: ds, ρ => (g d ρ).bind fun ρ1 => (b ρ1).bind fun o => match o with
    | .nx ρ2 => forL g b ds ρ2
    | .ct ρ2 => forL g b ds ρ2
    | .bk ρ2 => some (.nx ρ2)
    | .rt r ρ2 => some (.rt r ρ2)
def forS (m : IM) (g : D → Rho → Option Rho) (b : SM) : SM := fun ρ => (m ρ).bind fun a => forL g b a.1 a.2
theorem sv_for {pr is : List Nat} {wi : TI} {g : TG} {tb : TS} {m : IM} {mg : D → Rho → Option Rho} {b : SM} (h : IV K wi m) (hg : GV K pr is g mg) (hb : SV K pr tb b) : SV K pr (tFor wi g tb) (forS m mg b) := fun A σ ρ F H o E N e q => by
  obtain ⟨⟨ds, ρ1⟩, e1, e⟩ := bind_some e
  refine h σ ρ F H ds ρ1 N.env e1 _ fun J F1 H1 P1 wk => ?_
  have q1 := q.up P1.fle
  refine ⟨fun i m σ H => ∃ ρ F, m = ds.length - i ∧ i ≤ ds.length ∧ Now K A pr σ ρ F H ∧ Same F1 F ∧ forL mg b (ds.drop i) ρ = some o, ⟨ds.length, ρ1, F1, by simp, Nat.zero_le _, N.post P1, Same.refl _, e⟩, ?_⟩
  rintro i m σ3 H3 ⟨ρ3, F3, rfl, hi, N3, s3, e3⟩
  by_cases hlt : i < ds.length
  · rw [List.drop_eq_getElem_cons hlt] at e3
    obtain ⟨ρ4, e4, e3⟩ := bind_some e3
    obtain ⟨o5, e5, e3⟩ := bind_some e3
    refine .inr ⟨wk.go i H3 (s3.trans N3.env.le) hlt, fun σ' H' => ∃ ρ' F', Now K A pr σ' ρ' F' H' ∧ Same F1 F' ∧ forL mg b (ds.drop (i + 1)) ρ' = some o, fun σ' H' ⟨ρ', F', N', s', e'⟩ => ⟨ds.length - (i + 1), by omega, ρ', F', rfl, hlt, N', s', e'⟩, fun x H' y => ?_⟩
    obtain ⟨F2, d, hd, a1, a2, a3, a4, a5⟩ := wk.yld i F3 H3 x H' s3 N3.env.le hlt y
    rw [List.getElem?_eq_getElem hlt] at hd
    cases hd
    have N4 := N3.post (Post.grow N3.env a1 a2 a3 a4)
    refine hg A σ3 ρ3 F2 H' x _ ρ4 N4 a5 e4 _ fun σ5 N5 _ _ => ?_
    refine hb A σ5 ρ4 F2 H' o5 _ N5 e5 ?_
    have s4 := s3.trans a1
    cases o5 with
    | nx ρ6 => exact fun σ' F' H' N' s' => ⟨ρ6, F', N', s4.trans s', e3⟩
    | ct ρ6 => exact fun σ' F' H' N' s' => ⟨ρ6, F', N', s4.trans s', e3⟩
    | bk ρ6 =>
      cases e3
      exact fun σ' F' H' N' s' => q1 σ' F' H' N' (s4.trans s')
    | rt r ρ6 =>
      cases e3
      exact fun v σ' F' H' N' s' r' => q1 v σ' F' H' N' (s4.trans s') r'
  · have : i = ds.length := by omega
    subst this
    rw [List.drop_length] at e3
    cases e3
    exact .inl ⟨wk.stop H3 (s3.trans N3.env.le), q1 σ3 F3 H3 N3 s3⟩
/-! ### while -/
def whileL (c : TM) (b : SM) : Nat → SM
  | 0 => fun _ => none
  | n + 1 => fun ρ => (c ρ).bind fun a => if a.1 = true then (b a.2).bind fun o => match o with
    | .nx ρ2 => whileL c b n ρ2
    | .ct ρ2 => whileL c b n ρ2
    | .bk ρ2 => some (.nx ρ2)
    | .rt r ρ2 => some (.rt r ρ2)
    else some (.nx a.2)
@[irreducible] def fuel : Nat := 1000000
theorem fuel_eq : fuel = 1000000 := by unfold fuel; rfl
def whileS (c : TM) (b : SM) : SM := whileL c b fuel
theorem sv_while {pr : List Nat} {tc : TT} {tb : TS} {c : TM} {b : SM} (h : TV K tc c) (hb : SV K pr tb b) : SV K pr (tWhile tc tb) (whileS c b) := fun A σ ρ F H o E N e q => by
  refine ⟨fun n σ H => ∃ ρ F', Now K A pr σ ρ F' H ∧ Same F F' ∧ whileL c b n ρ = some o, ⟨fuel, ρ, F, N, Same.refl _, e⟩, ?_⟩
  rintro n σ1 H1 ⟨ρ1, F1, N1, s1, e1⟩
  cases n with
  | zero => cases e1
  | succ n =>
    obtain ⟨⟨k, ρ2⟩, e2, e1⟩ := bind_some e1
    refine h σ1 ρ1 F1 H1 k ρ2 N1.env e2 _ fun F2 H2 P2 => ?_
    have N2 := N1.post P2
    have s2 := s1.trans P2.fle
    cases k with
    | true =>
      obtain ⟨o3, e3, e1⟩ := bind_some e1
      refine ⟨fun σ' H' => ∃ ρ' F', Now K A pr σ' ρ' F' H' ∧ Same F F' ∧ whileL c b n ρ' = some o, fun σ' H' w => ⟨n, Nat.lt_succ_self n, w⟩, ?_⟩
      refine hb A σ1 ρ2 F2 H2 o3 _ N2 e3 ?_
      cases o3 with
      | nx ρ6 => exact fun σ' F' H' N' s' => ⟨ρ6, F', N', s2.trans s', e1⟩
      | ct ρ6 => exact fun σ' F' H' N' s' => ⟨ρ6, F', N', s2.trans s', e1⟩
      | bk ρ6 =>
        cases e1
        exact fun σ' F' H' N' s' => q σ' F' H' N' (s2.trans s')
      | rt r ρ6 =>
        cases e1
        exact fun v σ' F' H' N' s' r' => q v σ' F' H' N' (s2.trans s') r'
    | false =>
      cases e1
      exact q σ1 F2 H2 N2 s2
/-! ### comprehensions -/
def wipeE (ρ : Rho) : List Nat → Rho
  | [] => ρ
  | v :: vs => (wipeE ρ vs).set v none
theorem wipeE_len (ρ : Rho) : ∀ vs, (wipeE ρ vs).length = ρ.length
  | [] => rfl
  | v :: vs => by rw [wipeE, List.length_set, wipeE_len ρ vs]
theorem wipeE_some {ρ : Rho} {i : Nat} {x : Sl} : ∀ {vs : List Nat}, (wipeE ρ vs)[i]? = some (some x) → i ∉ vs ∧ ρ[i]? = some (some x)
  | [], h => ⟨List.not_mem_nil, h⟩
  | v :: vs, h => by
    rcases set_back h with ⟨_, z⟩ | ⟨z, h⟩
    · cases z
    · obtain ⟨a, b⟩ := wipeE_some h
      exact ⟨fun y => (List.mem_cons.mp y).elim z a, b⟩
theorem wipeE_ne {ρ : Rho} {i : Nat} : ∀ {vs : List Nat}, i ∉ vs → (wipeE ρ vs)[i]? = ρ[i]?
  | [], _ => rfl
  | v :: vs, h => by
    rw [wipeE, List.getElem?_set_ne (fun z => h (by rw [z]; exact List.mem_cons_self)), wipeE_ne fun z => h (List.mem_cons_of_mem _ z)]
theorem wipe_ne {σ : L2.St} {i : Nat} : ∀ {vs : List Nat}, i ∉ vs → (wipe σ vs)[i]? = σ[i]?
  | [], _ => rfl
  | v :: vs, h => by
    rw [wipe, List.getElem?_set_ne (fun z => h (by rw [z]; exact List.mem_cons_self)), wipe_ne fun z => h (List.mem_cons_of_mem _ z)]
theorem wipe_in {σ : L2.St} {i : Nat} : ∀ {vs : List Nat}, i ∈ vs → i < σ.length → (wipe σ vs)[i]? = some none
  | v :: vs, h, l => by
    rw [wipe]
    by_cases z : i = v
    · subst z
      rw [List.getElem?_set_self (by rw [wipe_length]; exact l)]
    · rw [List.getElem?_set_ne (Ne.symm z)]
      exact wipe_in ((List.mem_cons.mp h).resolve_left z) l
theorem wipe_agree {σ σ2 : L2.St} {vs is : List Nat} (a : Agree is (wipe σ vs) σ2) (hs : ∀ i ∈ is, i ∈ vs) : wipe σ2 vs = wipe σ vs := by
  have l : σ2.length = σ.length := by rw [a.1, wipe_length]
  refine List.ext_getElem? fun j => ?_
  by_cases hj : j ∈ vs
  · by_cases hl : j < σ.length
    · rw [wipe_in hj hl, wipe_in hj (by omega)]
    · rw [List.getElem?_eq_none (by rw [wipe_length]; omega), List.getElem?_eq_none (by rw [wipe_length]; omega)]
  · rw [wipe_ne hj, wipe_ne hj, a.2 j fun z => hj (hs j z), wipe_ne hj]
/-- slots vs as they were in ρ1, all others as in ρ2 -/
def unwipe (ρ1 ρ2 : Rho) : List Nat → Rho
  | [] => ρ2
  | v :: vs => (unwipe ρ1 ρ2 vs).set v (ρ1[v]?.getD none)
theorem unwipe_len (ρ1 ρ2 : Rho) : ∀ vs, (unwipe ρ1 ρ2 vs).length = ρ2.length
  | [] => rfl
  | v :: vs => by rw [unwipe, List.length_set, unwipe_len ρ1 ρ2 vs]
theorem unwipe_some {ρ1 ρ2 : Rho} {i : Nat} {x : Sl} : ∀ {vs : List Nat}, (unwipe ρ1 ρ2 vs)[i]? = some (some x) → (i ∈ vs ∧ ρ1[i]? = some (some x)) ∨ (i ∉ vs ∧ ρ2[i]? = some (some x))
  | [], h => .inr ⟨List.not_mem_nil, h⟩
  | v :: vs, h => by
    rcases set_back h with ⟨rfl, z⟩ | ⟨z, h⟩
    · refine .inl ⟨List.mem_cons_self, ?_⟩
      cases e : ρ1[i]? with
      | none =>
        rw [e] at z
        cases z
      | some o =>
        rw [e] at z
        rw [z]
        rfl
    · rcases unwipe_some h with ⟨a, b⟩ | ⟨a, b⟩
      · exact .inl ⟨List.mem_cons_of_mem _ a, b⟩
      · exact .inr ⟨fun y => (List.mem_cons.mp y).elim z a, b⟩
def compL (g : D → Rho → Option Rho) (t : TM) (m : EM) (vs : List Nat) : List D → Rho → List D → Option (List D × Rho)
  | [], ρ, acc => some (acc, ρ)
  | d :: ds, ρ, acc => (g d ρ).bind fun ρ1 => (t ρ1).bind fun b => if b.1 = true then (m b.2).bind fun r => (takeR r.1 r.2).bind fun x => if acc.length < sizeLine then compL g t m vs ds (wipeE x.2 vs) (acc ++ [x.1]) else none
    else compL g t m vs ds (wipeE b.2 vs) acc
def compM (mi : IM) (g : D → Rho → Option Rho) (t : TM) (m : EM) (vs : List Nat) : EM := fun ρ => (mi ρ).bind fun a => (compL g t m vs a.1 (wipeE a.2 vs) []).bind fun b => some (.own b.1, unwipe a.2 b.2 vs)
def Anc.none : Anc := ⟨[], fun _ => Option.none, fun _ => Option.none⟩
theorem Now.any {σ : L2.St} {ρ : Rho} {F H : Hp} (E : EnvR K σ ρ F H) : Now K Anc.none [] σ ρ F H :=
  ⟨E, (fun _ _ h => nomatch h), (fun _ _ h => nomatch h), (fun _ h => absurd rfl h), (fun _ h => absurd rfl h), (fun _ _ _ _ _ => .inr rfl), (fun _ h => nomatch h)⟩
theorem EnvR.wipe {σ : L2.St} {ρ : Rho} {F H : Hp} (E : EnvR K σ ρ F H) (vs : List Nat) : EnvR K (L2.wipe σ vs) (wipeE ρ vs) F H := by
  refine ⟨E.le, by rw [wipeE_len, wipe_length]; exact E.len, fun i s h => ?_, fun i j ds es v h g a b => ?_⟩
  · obtain ⟨n, h⟩ := wipeE_some h
    rw [wipe_ne n]
    exact E.slot i s h
  · obtain ⟨n, h⟩ := wipeE_some h
    obtain ⟨m, g⟩ := wipeE_some g
    rw [wipe_ne n] at a
    rw [wipe_ne m] at b
    exact E.inj i j ds es v h g a b
/-- a turn's own slots are cleared behind it -/
theorem Post.scope {σ σ2 : L2.St} {vs is : List Nat} {ρ ρ1 ρ2 : Rho} {F H F2 H2 : Hp} (hs : ∀ i ∈ is, i ∈ vs) (a : Agree is (L2.wipe σ vs) σ2) (b : AgreeO is ρ ρ1) (P : Post K σ2 ρ1 F H ρ2 F2 H2) : Post K (L2.wipe σ vs) ρ F H (wipeE ρ2 vs) F2 H2 := by
  have hw := wipe_agree a hs
  have o : ∀ x, Owns σ2 ρ1 x → Owns (L2.wipe σ vs) ρ x := fun x ⟨i, ds, h1, h2⟩ => by
    obtain ⟨n, h3⟩ := b i ds h1
    exact ⟨i, ds, h3, by rw [← a.2 i n]; exact h2⟩
  refine ⟨by rw [← hw]; exact P.env.wipe vs, P.fle, fun x u h n => P.keep x u h fun z => n (o x z), P.ex, fun x h f n => P.fz x h f fun z => n (o x z), fun i ds h => ?_⟩
  obtain ⟨n, h⟩ := wipeE_some h
  obtain ⟨es, h⟩ := P.sub i ds h
  exact ⟨es, (b i es h).2⟩
theorem Post.unscope {σ : L2.St} {vs : List Nat} {ρ ρ1 ρ2 : Rho} {F H F1 H1 F2 H2 : Hp} (P1 : Post K σ ρ F H ρ1 F1 H1) (P : Post K (L2.wipe σ vs) (wipeE ρ1 vs) F1 H1 ρ2 F2 H2) : Post K σ ρ1 F1 H1 (unwipe ρ1 ρ2 vs) F2 H2 := by
  have E1 := P1.env
  have o : ∀ x, Owns (L2.wipe σ vs) (wipeE ρ1 vs) x → Owns σ ρ1 x := fun x ⟨i, ds, h1, h2⟩ => by
    obtain ⟨n, h1⟩ := wipeE_some h1
    rw [wipe_ne n] at h2
    exact ⟨i, ds, h1, h2⟩
  refine ⟨⟨P.env.le, by rw [unwipe_len, P.env.len, wipe_length], fun i s h => ?_, fun i j ds es v h g a b => ?_⟩, P.fle, fun x u h n => P.keep x u h fun z => n (o x z), P.ex, fun x h f n => P.fz x h f fun z => n (o x z), fun i ds h => ?_⟩
  · rcases unwipe_some h with ⟨hi, h⟩ | ⟨hi, h⟩
    · obtain ⟨v, h1, h2⟩ := E1.slot i s h
      refine ⟨v, h1, ?_⟩
      cases s with
      | sh d => exact Rp.up P.fle d v h2
      | own ds =>
        obtain ⟨p, xs, rfl, e1, e2, e3⟩ := h2
        have n : ¬ Owns (L2.wipe σ vs) (wipeE ρ1 vs) p := fun ⟨j, es, g1, g2⟩ => by
          obtain ⟨nj, g1⟩ := wipeE_some g1
          rw [wipe_ne nj] at g2
          have := E1.inj i j ds es _ h g1 h1 g2
          exact nj (by rw [← this]; exact hi)
        exact ⟨p, xs, rfl, P.keep p _ e1 n, P.fz p (not_none e1) e2 n, RpA.up P.fle ds xs e3⟩
    · obtain ⟨v, h1, h2⟩ := P.env.slot i s h
      rw [wipe_ne hi] at h1
      exact ⟨v, h1, h2⟩
  · have two : ∀ {i j : Nat} {ds es : List D}, i ∈ vs → ρ1[i]? = some (some (.own ds)) → j ∉ vs → ρ2[j]? = some (some (.own es)) → σ[i]? = some (some v) → σ[j]? = some (some v) → False := fun {i j ds es} hi h hj g a b => by
      obtain ⟨fs, g1⟩ := P.sub j es g
      have := E1.inj i j ds fs v h (wipeE_some g1).2 a b
      exact hj (by rw [← this]; exact hi)
    rcases unwipe_some h with ⟨hi, h⟩ | ⟨hi, h⟩
    · rcases unwipe_some g with ⟨hj, g⟩ | ⟨hj, g⟩
      · exact E1.inj i j ds es v h g a b
      · exact (two hi h hj g a b).elim
    · rcases unwipe_some g with ⟨hj, g⟩ | ⟨hj, g⟩
      · exact (two hj g hi h b a).elim
      · exact P.env.inj i j ds es v h g (by rw [wipe_ne hi]; exact a) (by rw [wipe_ne hj]; exact b)
  · rcases unwipe_some h with ⟨hi, h⟩ | ⟨hi, h⟩
    · exact ⟨ds, h⟩
    · obtain ⟨es, g⟩ := P.sub i ds h
      exact ⟨es, (wipeE_some g).2⟩
theorem Post.acc {σ : L2.St} {ρ0 ρ : Rho} {F0 H0 F H : Hp} {p : Addr} {xs : List V} {o : HO} (E0 : EnvR K σ ρ0 F0 H0) (P : Post K σ ρ0 F0 H0 ρ F H) (h0 : H0 p = none) (hf : F p = none) : Post K σ ρ0 F0 H0 ρ F (upd H p o) := by
  have n := fresh_nown E0 P h0
  refine ⟨⟨fun a u h => ?_, P.env.len, fun i s h => ?_, P.env.inj⟩, P.fle, fun a u h na => ?_, fun a h => ?_, P.fz, P.sub⟩
  · have : a ≠ p := fun z => by
      rw [z, hf] at h
      cases h
    rw [upd_ne this]
    exact P.env.le a u h
  · obtain ⟨v, h1, h2⟩ := P.env.slot i s h
    refine ⟨v, h1, ?_⟩
    cases s with
    | sh d => exact h2
    | own ds =>
      obtain ⟨q, ys, e1, e2, e3, e4⟩ := h2
      have : q ≠ p := fun z => n ⟨i, ds, h, by rw [h1, e1, z]⟩
      exact ⟨q, ys, e1, by rw [upd_ne this]; exact e2, e3, e4⟩
  · have : a ≠ p := fun z => by
      rw [z, h0] at h
      cases h
    rw [upd_ne this]
    exact P.keep a u h na
  · by_cases z : a = p
    · rw [z, upd_same]
      exact fun z => nomatch z
    · rw [upd_ne z]
      exact P.ex a h
theorem ev_comp {is vs : List Nat} {wi : TI} {g : TG} {tt : TT} {te : TE} {mi : IM} {mg : D → Rho → Option Rho} {mt : TM} {m : EM} (hi : IV K wi mi) (hg : GV K [] is g mg) (ht : TV K tt mt) (he : EV K te m) (hs : ∀ i ∈ is, i ∈ vs := by decide) : EV K (tLc wi g tt te vs) (compM mi mg mt m vs) := fun σ ρ F H r ρ' E e Q q => by
  obtain ⟨⟨ds, ρ1⟩, e1, e⟩ := bind_some e
  obtain ⟨⟨res, ρz⟩, e2, e⟩ := bind_some e
  cases e
  refine hi σ ρ F H ds ρ1 E e1 _ fun J F1 H1 P1 wk => fun Dd hD => ?_
  have Ew := P1.env.wipe vs
  refine ⟨fun i m' H => ∃ ρ2 F2 xs acc, m' = ds.length - i ∧ i ≤ ds.length ∧ Post K (wipe σ vs) (wipeE ρ1 vs) F1 H1 ρ2 F2 H ∧ H Dd = some (.lst xs) ∧ F2 Dd = none ∧ RpA K F2 xs acc ∧ compL mg mt m vs (ds.drop i) ρ2 acc = some (res, ρz), ⟨ds.length, wipeE ρ1 vs, F1, [], [], by simp, Nat.zero_le _, ?_, upd_same, fresh_F P1.env.le hD, .nil, e2⟩, ?_⟩
  · exact Post.acc (xs := []) Ew (Post.refl Ew) hD (fresh_F P1.env.le hD)
  rintro i m' H2 ⟨ρ2, F2, xs, acc, rfl, hi, P2, hx, fx, rx, e3⟩
  by_cases hlt : i < ds.length
  · rw [List.drop_eq_getElem_cons hlt] at e3
    obtain ⟨ρ3, e4, e3⟩ := bind_some e3
    obtain ⟨⟨b, ρ4⟩, e5, e3⟩ := bind_some e3
    refine .inr ⟨wk.go i H2 (P2.fle.trans P2.env.le) hlt, fun H => ∃ ρ2 F2 xs acc, Post K (wipe σ vs) (wipeE ρ1 vs) F1 H1 ρ2 F2 H ∧ H Dd = some (.lst xs) ∧ F2 Dd = none ∧ RpA K F2 xs acc ∧ compL mg mt m vs (ds.drop (i + 1)) ρ2 acc = some (res, ρz), fun H' ⟨ρ', F', xs', acc', a⟩ => ⟨ds.length - (i + 1), by omega, ρ', F', xs', acc', rfl, hlt, a⟩, fun x H' y => ?_⟩
    obtain ⟨F3, d, hd, a1, a2, a3, a4, a5⟩ := wk.yld i F2 H2 x H' P2.fle P2.env.le hlt y
    rw [List.getElem?_eq_getElem hlt] at hd
    cases hd
    have P3 := P2.trans (Post.grow P2.env a1 a2 a3 a4)
    refine hg Anc.none (wipe σ vs) ρ2 F3 H' x _ ρ3 (Now.any P3.env) a5 e4 _ fun σ2 N2 ag ago => ?_
    refine ⟨wipe_agree ag hs, ?_⟩
    have fx3 : F3 Dd = none := by rw [a4 Dd (not_none hx)]; exact fx
    have hx3 : H' Dd = some (.lst xs) := a2 _ _ hx
    have n2 : ∀ {ρ5 F5 H5}, Post K σ2 ρ3 F3 H' ρ5 F5 H5 → H5 Dd = some (.lst xs) ∧ F5 Dd = none := fun {ρ5 F5 H5} P => by
      have n : ¬ Owns σ2 ρ3 Dd := fun ⟨k, es, g1, g2⟩ => by
        obtain ⟨nk, g3⟩ := ago k es g1
        exact fresh_nown Ew P3 hD ⟨k, es, g3, by rw [← ag.2 k nk]; exact g2⟩
      exact ⟨P.keep _ _ hx3 n, P.fz _ (not_none hx3) fx3 n⟩
    refine ht σ2 ρ3 F3 H' b ρ4 N2.env e5 _ fun F4 H4 P4 => ?_
    cases b with
    | false =>
      have P5 := P3.trans (P4.scope hs ag ago)
      obtain ⟨b1, b2⟩ := n2 P4
      exact ⟨_, F4, xs, acc, P5, b1, b2, RpA.up (a1.trans P4.fle) acc xs rx, e3⟩
    | true =>
      obtain ⟨⟨r, ρ5⟩, e6, e3⟩ := bind_some e3
      obtain ⟨⟨d5, ρ6⟩, e7, e3⟩ := bind_some e3
      simp only at e3
      split at e3
      · rename_i hl
        refine he σ2 ρ4 F4 H4 r ρ5 P4.env e6 _ fun v F5 H5 P5 R5 => ?_
        have P45 := P4.trans P5
        obtain ⟨F6, P6, s6, r6⟩ := take1 N2.env P45 (ResR.base P4.ex R5).w e7
        obtain ⟨b1, b2⟩ := n2 P6
        have rx6 := RpA.up (a1.trans P6.fle) acc xs rx
        refine ⟨xs, b1, by rw [rx6.length]; exact hl, wipeE ρ6 vs, F6, xs ++ [v], acc ++ [d5], ?_, upd_same, b2, rx6.snoc r6, e3⟩
        exact Post.acc (xs := []) Ew (P3.trans (P6.scope hs ag ago)) hD b2
      · cases e3
  · have : i = ds.length := by omega
    subst this
    rw [List.drop_length] at e3
    cases e3
    refine .inl ⟨wk.stop H2 (P2.fle.trans P2.env.le), ?_⟩
    have P5 := P1.trans (P1.unscope P2)
    exact q _ F2 H2 P5 ⟨Dd, xs, rfl, none_back P1.ex hD, hx, fx, rx⟩
def yesT : TM := fun ρ => some (true, ρ)
theorem tv_yes : TV K tYes yesT := fun σ ρ F H b ρ' E e Q q => by
  cases e
  exact q F H (Post.refl E)
/-! ### defs -/
def fin (o : Option Out) : Option Rz := match o with
  | some (.rt r _) => some r
  | some (.nx _) => some (.sh .none)
  | _ => none
def fnP (n k : Nat) (m : SM) : List D → Option Rz := fun ds => if ds.length = k then fin (m (ds.map (fun d => some (Sl.sh d)) ++ List.replicate (n - k) none)) else none
def finJ (o : Option Out) : Option (Rz × List D) := match o with
  | some (.rt r ρ) => (match (ρ[0]? : Option (Option Sl)) with
    | some (some (.own js)) => some (r, js)
    | _ => none)
  | some (.nx ρ) => (match (ρ[0]? : Option (Option Sl)) with
    | some (some (.own js)) => some (.sh .none, js)
    | _ => none)
  | _ => none
def fnJ (n k : Nat) (m : SM) : List D → List D → Option (Rz × List D) := fun js ds => if ds.length + 1 = k then finJ (m (some (.own js) :: ds.map (fun d => some (Sl.sh d)) ++ List.replicate (n - k) none)) else none
theorem RpA.env {F : Hp} {vs : List V} {ds : List D} (r : RpA K F vs ds) (n : Nat) {i : Nat} {s : Sl} (h : (ds.map (fun d => some (Sl.sh d)) ++ List.replicate n none)[i]? = some (some s)) : ∃ v d, s = .sh d ∧ (vs.map some ++ List.replicate n none)[i]? = some (some v) ∧ Rp K F v d := by
  by_cases hi : i < ds.length
  · rw [List.getElem?_append_left (by rw [List.length_map]; exact hi), List.getElem?_map, List.getElem?_eq_getElem hi] at h
    cases h
    obtain ⟨v, h1, h2⟩ := r.get (List.getElem?_eq_getElem hi)
    refine ⟨v, _, rfl, ?_, h2⟩
    rw [List.getElem?_append_left (by rw [List.length_map, r.length]; exact hi), List.getElem?_map, h1]
    rfl
  · rw [List.getElem?_append_right (by rw [List.length_map]; omega)] at h
    have := List.mem_of_getElem? h
    have := (List.mem_replicate.mp this).2
    cases this
section
variable {P : Program} {w : World} {K : PySem.W.Frag} {mg : Str → Option Value} {base : Heap}
theorem okP {x qual : Str} {st : Stmt} {f : Addr} {fd : FuncData} {N ps : List Str} {k : Nat} {m : SM} (F : L2.Fun K x qual st f fd) (Sc : FnScope N ps (defScope st))
    (hb : ∀ (cdv : Value) (A : Around) (out : List PySem.Env) (s : Shared) (H : Hp) (E : XK), Room k (A.deeper (envOfC qual (defScope st) s.heap.objs.size f cdv)) → A.guards = some [] →
      ∃ t, PSs (cxOf CX0 P w K mg base N qual (defScope st) f cdv A out s H E).nox (defBody st) t ∧ SV K [] t m) :
    FnG P w K mg base CX0 (k + 1) f fd ps (spP K (fnP N.length ps.length m)) := by
  have cnt : ∀ {vs H Q E}, spP K (fnP N.length ps.length m) vs H Q E → vs.length = ps.length := fun {vs H Q E} ⟨F, ds, z, _, r, e, _⟩ => by
    unfold fnP at e
    split at e
    · rename_i h
      rw [r.length]
      exact h
    · cases e
  refine okG F Sc (fun vs H Q E h => cnt h) fun cdv A out s H vs Q E hr hg h => ?_
  obtain ⟨t, ht, sv⟩ := hb cdv A out s H E hr hg
  refine ⟨t, ht, ?_⟩
  have hl := cnt h
  obtain ⟨F0, ds, z, le, r, e, q⟩ := h
  unfold fnP at e
  split at e
  · rename_i hd
    have env : EnvR K (L2.start N vs) (ds.map (fun d => some (Sl.sh d)) ++ List.replicate (N.length - ps.length) none) F0 H := by
      unfold L2.start
      rw [hl]
      refine ⟨le, by simp [r.length], fun i sl h => ?_, fun i j a b v h _ _ _ => ?_⟩
      · obtain ⟨v, d, rfl, h1, h2⟩ := r.env _ h
        exact ⟨v, h1, h2⟩
      · obtain ⟨v, d, z, _⟩ := r.env _ h
        cases z
    have N0 : Now K ⟨L2.start N vs, F0, H⟩ [] (L2.start N vs) (ds.map (fun d => some (Sl.sh d)) ++ List.replicate (N.length - ps.length) none) F0 H := by
      refine ⟨env, Same.refl _, fun _ _ h _ => h, fun _ h => h, fun _ _ _ => rfl, fun i a b h _ => ?_, fun _ h => nomatch h⟩
      obtain ⟨v, d, z, _⟩ := r.env _ h
      cases z
    have nj : ∀ a, ¬ Jr ⟨L2.start N vs, F0, H⟩ [] a := fun a ⟨i, hi, _⟩ => nomatch hi
    cases eo : m (ds.map (fun d => some (Sl.sh d)) ++ List.replicate (N.length - ps.length) none) with
    | none =>
      rw [eo] at e
      cases e
    | some o =>
      rw [eo] at e
      refine sv _ _ _ F0 H o _ N0 eo ?_
      cases o with
      | nx ρ =>
        cases e
        exact fun σ' F' H' N' s' => q .non F' H' s' (fun a o h => N'.keep a o h (nj a)) N'.env.le (fun a h => N'.fz a h (nj a)) .non
      | rt r ρ =>
        cases e
        exact fun v σ' F' H' N' s' r' => q v F' H' s' (fun a o h => N'.keep a o h (nj a)) N'.env.le (fun a h => N'.fz a h (nj a)) r'
      | bk ρ => cases e
      | ct ρ => cases e
  · cases e
theorem okJ {x qual : Str} {st : Stmt} {f : Addr} {fd : FuncData} {N ps : List Str} {k : Nat} {m : SM} (F : L2.Fun K x qual st f fd) (Sc : FnScope N ps (defScope st))
    (hb : ∀ (cdv : Value) (A : Around) (out : List PySem.Env) (s : Shared) (H : Hp) (E : XK), Room k (A.deeper (envOfC qual (defScope st) s.heap.objs.size f cdv)) → A.guards = some [] →
      ∃ t, PSs (cxOf CX0 P w K mg base N qual (defScope st) f cdv A out s H E).nox (defBody st) t ∧ SV K [0] t m) :
    FnG P w K mg base CX0 (k + 1) f fd ps (spJ K (fnJ N.length ps.length m)) := by
  have cnt : ∀ {vs H Q E}, spJ K (fnJ N.length ps.length m) vs H Q E → vs.length = ps.length := fun {vs H Q E} ⟨J, us, F, js, xs, ds, z, js', ev, _, _, _, _, r, e, _⟩ => by
    unfold fnJ at e
    split at e
    · rename_i h
      rw [ev, List.length_cons, r.length]
      exact h
    · cases e
  refine okG F Sc (fun vs H Q E h => cnt h) fun cdv A out s H vs Q E hr hg h => ?_
  obtain ⟨t, ht, sv⟩ := hb cdv A out s H E hr hg
  refine ⟨t, ht, ?_⟩
  have hl := cnt h
  obtain ⟨J, us, F0, js, xs, ds, z, js', rfl, le, hJ, fJ, rj, r, e, q⟩ := h
  unfold fnJ at e
  split at e
  · rename_i hd
    have back : ∀ {i : Nat} {sl : Sl}, (some (Sl.own js) :: ds.map (fun d => some (Sl.sh d)) ++ List.replicate (N.length - ps.length) none)[i]? = some (some sl) → (i = 0 ∧ sl = .own js) ∨ ∃ v d, i ≠ 0 ∧ sl = .sh d ∧ (L2.start N (V.ref J :: us))[i]? = some (some v) ∧ Rp K F0 v d := fun {i sl} h => by
      cases i with
      | zero =>
        cases h
        exact .inl ⟨rfl, rfl⟩
      | succ i =>
        obtain ⟨v, d, h1, h2, h3⟩ := r.env (N.length - ps.length) (i := i) (s := sl) (by simpa using h)
        refine .inr ⟨v, d, Nat.succ_ne_zero i, h1, ?_, h3⟩
        unfold L2.start
        rw [hl]
        simpa using h2
    have s0 : (L2.start N (V.ref J :: us))[0]? = some (some (.ref J)) := rfl
    have env : EnvR K (L2.start N (V.ref J :: us)) (some (Sl.own js) :: ds.map (fun d => some (Sl.sh d)) ++ List.replicate (N.length - ps.length) none) F0 H := by
      refine ⟨le, by unfold L2.start; rw [hl]; simp [r.length], fun i sl h => ?_, fun i j a b v h g _ _ => ?_⟩
      · rcases back h with ⟨rfl, rfl⟩ | ⟨v, d, _, rfl, h1, h2⟩
        · exact ⟨_, s0, J, xs, rfl, hJ, fJ, rj⟩
        · exact ⟨v, h1, h2⟩
      · rcases back h with ⟨rfl, _⟩ | ⟨v, d, _, z, _⟩
        · rcases back g with ⟨rfl, _⟩ | ⟨v, d, _, z, _⟩
          · rfl
          · cases z
        · cases z
    have jr : ∀ a, Jr ⟨L2.start N (V.ref J :: us), F0, H⟩ [0] a ↔ a = J := fun a => by
      constructor
      · rintro ⟨i, hi, h⟩
        rw [List.mem_singleton.mp hi, s0] at h
        cases h
        rfl
      · rintro rfl
        exact ⟨0, List.mem_singleton_self _, s0⟩
    have N0 : Now K ⟨L2.start N (V.ref J :: us), F0, H⟩ [0] (L2.start N (V.ref J :: us)) (some (Sl.own js) :: ds.map (fun d => some (Sl.sh d)) ++ List.replicate (N.length - ps.length) none) F0 H := by
      refine ⟨env, Same.refl _, fun _ _ h _ => h, fun _ h => h, fun _ _ _ => rfl, fun i a b h _ => ?_, fun _ _ => rfl⟩
      rcases back h with ⟨rfl, _⟩ | ⟨v, d, _, z, _⟩
      · exact .inl (List.mem_singleton_self _)
      · cases z
    have out : ∀ {σ' ρ' F' H' v r js'}, Now K ⟨L2.start N (V.ref J :: us), F0, H⟩ [0] σ' ρ' F' H' → Same F0 F' → ρ'[0]? = some (some (.own js')) → ResR K [] F' H H' v r → (∀ v F' H' xs', Same F0 F' → (∀ a o, a ≠ J → H a = some o → H' a = some o) → H' J = some (.lst xs') → RpA K F' xs' js' → Same F' H' → (∀ a, H a ≠ none → F' a = F0 a) → ResR K [] F' H H' v r → Q v H') → Q v H' := fun {σ' ρ' F' H' v r js'} N' s' e' rr q => by
      obtain ⟨u, h1, p, ys, rfl, h2, h3, h4⟩ := N'.env.slot 0 _ e'
      rw [N'.prot 0 (List.mem_singleton_self _)] at h1
      cases (show some (some (V.ref J)) = some (some (V.ref p)) from h1)
      refine q v F' H' ys s' (fun a o n h => N'.keep a o h fun z => n ((jr a).mp z)) h2 h4 N'.env.le (fun a h => ?_) rr
      by_cases z : a = J
      · rw [z, h3, fJ]
      · exact N'.fz a h fun y => z ((jr a).mp y)
    cases eo : m (some (.own js) :: ds.map (fun d => some (Sl.sh d)) ++ List.replicate (N.length - ps.length) none) with
    | none =>
      rw [eo] at e
      cases e
    | some o =>
      rw [eo] at e
      refine sv _ _ _ F0 H o _ N0 eo ?_
      cases o with
      | nx ρ =>
        unfold finJ at e
        simp only at e
        split at e
        · rename_i js2 ej
          cases e
          exact fun σ' F' H' N' s' => out (v := .non) (r := .sh .none) N' s' ej .non q
        · cases e
      | rt r ρ =>
        unfold finJ at e
        simp only at e
        split at e
        · rename_i js2 ej
          cases e
          exact fun v σ' F' H' N' s' r' => out N' s' ej r' q
        · cases e
      | bk ρ => cases e
      | ct ρ => cases e
  · cases e
end
/-- what a caller has of such a def -/
theorem FnG.sp {P : Program} {w : World} {K : PySem.W.Frag} {mg : Str → Option Value} {base : Heap} {CX : CXT} {k : Nat} {f : Addr} {fd : FuncData} {ps : List Str} {sp sp' : Sp} (F : FnG P w K mg base CX k f fd ps sp) (h : ∀ vs H Q E, sp' vs H Q E → sp vs H Q E) : FnG P w K mg base CX k f fd ps sp' :=
  ⟨fun vs H Q E q => F.cnt vs H Q E (h _ _ _ _ q), fun A out s H ar us vs Q E a b c d e q => F.go A out s H ar us vs Q E a b c d e (h _ _ _ _ q)⟩
section
variable {P : Program} {w : World} {mg : Str → Option Value} {base : Heap}
theorem okPn {x qual : Str} {st : Stmt} {f : Addr} {fd : FuncData} {N ps : List Str} {k n l : Nat} {m : SM} {p : List D → Option Rz} (F : L2.Fun K x qual st f fd) (Sc : FnScope N ps (defScope st)) (hp : p = fnP n l m) (hn : N.length = n) (hl : ps.length = l)
    (hb : ∀ (cdv : Value) (A : Around) (out : List PySem.Env) (s : Shared) (H : Hp) (E : XK), Room k (A.deeper (envOfC qual (defScope st) s.heap.objs.size f cdv)) → A.guards = some [] →
      ∃ t, PSs (cxOf CX0 P w K mg base N qual (defScope st) f cdv A out s H E).nox (defBody st) t ∧ SV K [] t m) :
    FnG P w K mg base CX0 (k + 1) f fd ps (spP K p) := by
  subst hp hn hl
  exact okP F Sc hb
theorem okJn {x qual : Str} {st : Stmt} {f : Addr} {fd : FuncData} {N ps : List Str} {k n l : Nat} {m : SM} {p : List D → List D → Option (Rz × List D)} (F : L2.Fun K x qual st f fd) (Sc : FnScope N ps (defScope st)) (hp : p = fnJ n l m) (hn : N.length = n) (hl : ps.length = l)
    (hb : ∀ (cdv : Value) (A : Around) (out : List PySem.Env) (s : Shared) (H : Hp) (E : XK), Room k (A.deeper (envOfC qual (defScope st) s.heap.objs.size f cdv)) → A.guards = some [] →
      ∃ t, PSs (cxOf CX0 P w K mg base N qual (defScope st) f cdv A out s H E).nox (defBody st) t ∧ SV K [0] t m) :
    FnG P w K mg base CX0 (k + 1) f fd ps (spJ K p) := by
  subst hp hn hl
  exact okJ F Sc hb
end
end Pv

set_option Elab.async false
set_option linter.all false
set_option maxRecDepth 100000
set_option maxHeartbeats 4000000
namespace Pv
open PySem PySem.Spec PyProof.Rows L2 Ws
variable {K : PySem.W.Frag}
/-! ### xs[::-1] -/
theorem pe_rev {X : Cx} {e : Expr} {te : TE} {k : Nat} {p1 p2 p3 pos : Pos} (he : PE X e te) (h : X.K = K := by rfl) : PE X (.Subscript e (.Slice none none (some (.UnaryOp .USub (.Constant (.int 1) k p1) p2)) p3) pos) (tRevL K te) := by
  subst h
  exact pe_revL he
def revM (m : EM) : EM := fun ρ => (m ρ).bind fun a => match deref a.2 a.1 with
  | some (.list ds) => some (.own ds.reverse, a.2)
  | _ => none
theorem ev_rev {te : TE} {m : EM} (h : EV K te m) : EV K (tRevL K te) (revM m) := fun σ ρ F H r ρ' E e Q q => by
  obtain ⟨⟨r0, ρ1⟩, e1, e⟩ := bind_some e
  simp only at e
  split at e
  · rename_i ds ed
    cases e
    refine h σ ρ F H r0 _ E e1 _ fun v F1 H1 P R1 => ?_
    obtain ⟨p, xs, rfl, e4, r4⟩ := (Cont.of P.env R1 ed).list P.env.le
    exact ⟨p, xs, rfl, SqL.of e4, fun l hp => q _ F1 _ (new_at P hp) ⟨l, _, rfl, none_back P.ex hp, upd_same, fresh_F P.env.le hp, r4.reverse⟩⟩
  · cases e
/-! ### isinstance(x, int), (x, bool); type(x) is list -/
def tyD : D → String
  | .none => "NoneType"
  | .bool _ => "bool"
  | .int _ => "int"
  | .str _ => "str"
  | .list _ => "list"
  | .tuple _ => "tuple"
  | .dict _ => "list"
def isDct : D → Bool
  | .dict [(.list _, .none)] => false
  | .dict _ => true
  | _ => false
theorem kvr_dct {kvs : List (Key × V)} {ds : List (D × D)} (h : KvR kvs ds) : isDct (.dict ds) = true := by
  cases h <;> simp [isDct]
theorem Cont.ty {F H : Hp} {v : V} {d : D} (le : Same F H) (h : Cont K F H v d) (n : isDct d = false) : TyB K H v (tyD d) := by
  rcases h with h | ⟨p, xs, ds, rfl, rfl, h1, h2⟩
  · cases h with
    | non => exact .non
    | bl b => exact .bl b
    | int i => exact .int i
    | str x => exact .str x
    | lst h1 h2 => exact .lst (SqL.of (le _ _ h1))
    | tup h1 h2 => exact .tup (SqT.of (le _ _ h1))
    | scr h => exact .lst (Same.seq le h)
    | dct _ hk =>
      rw [kvr_dct hk] at n
      cases n
  · exact .lst (SqL.of h1)
def insInt : D → Bool
  | .bool _ => true
  | .int _ => true
  | _ => false
def insBool : D → Bool
  | .bool _ => true
  | _ => false
def noScr : D → Bool
  | .dict _ => false
  | _ => true
def fIns (g : D → Bool) : List D → Option Rz
  | [d] => if noScr d = true then some (.sh (.bool (g d))) else none
  | _ => none
/-- isinstance of a value with a class that is written out -/
def InsOk (K : PySem.W.Frag) (T : String) (g : D → Bool) : Prop := ∀ (F H : Hp) (v : V) (d : D), Same F H → Cont K F H v d → noScr d = true → ∃ t b, TyX K H v t ∧ PySem.W.kitOne K t (.type T) = some b ∧ b = g d
theorem ins_of {T : String} {g : D → Bool} (h0 : PySem.W.kitOne K (.type "NoneType") (.type T) = some (g .none)) (h1 : ∀ b, PySem.W.kitOne K (.type "bool") (.type T) = some (g (.bool b))) (h2 : ∀ i, PySem.W.kitOne K (.type "int") (.type T) = some (g (.int i)))
    (h3 : ∀ x, PySem.W.kitOne K (.type "str") (.type T) = some (g (.str x))) (h4 : ∀ x, PySem.W.kitOne K (.type "list") (.type T) = some (g (.list x))) (h5 : ∀ x, PySem.W.kitOne K (.type "tuple") (.type T) = some (g (.tuple x))) : InsOk K T g := fun F H v d le c n => by
  rcases c with c | ⟨p, xs, ds, rfl, rfl, c1, c2⟩
  · cases c with
    | non => exact ⟨_, _, .base .non, h0, rfl⟩
    | bl b => exact ⟨_, _, .base (.bl b), h1 b, rfl⟩
    | int i => exact ⟨_, _, .base (.int i), h2 i, rfl⟩
    | str x => exact ⟨_, _, .base (.str x), h3 x, rfl⟩
    | lst a b => exact ⟨_, _, .base (.lst (le _ _ a)), h4 _, rfl⟩
    | tup a b => exact ⟨_, _, .base (.tup (le _ _ a)), h5 _, rfl⟩
    | scr a => cases n
    | dct a b => cases n
  · exact ⟨_, _, .base (.lst c1), h4 _, rfl⟩
theorem ins_int : InsOk K "int" insInt := ins_of (kit_ty (by decide +kernel)) (fun _ => kit_ty (by show _ = some true; decide +kernel)) (fun _ => kit_ty (by show _ = some true; decide +kernel)) (fun _ => kit_ty (by show _ = some false; decide +kernel)) (fun _ => kit_ty (by show _ = some false; decide +kernel)) (fun _ => kit_ty (by show _ = some false; decide +kernel))
theorem ins_bool : InsOk K "bool" insBool := ins_of (kit_ty (by decide +kernel)) (fun _ => kit_ty (by show _ = some true; decide +kernel)) (fun _ => kit_ty (by show _ = some false; decide +kernel)) (fun _ => kit_ty (by show _ = some false; decide +kernel)) (fun _ => kit_ty (by show _ = some false; decide +kernel)) (fun _ => kit_ty (by show _ = some false; decide +kernel))
theorem ev_ins {T : String} {g : D → Bool} {te : TE} {m : EM} (o : InsOk K T g) (h : EV K te m) : EV K (tCB (rIsi K) (tCons te (tCons (tC (.ty T)) tNil))) (opM (fIns g) (arg1 m)) := fun σ ρ F H r ρ' E e Q q => by
  obtain ⟨⟨rs, ρ1⟩, e1, e⟩ := bind_some e
  obtain ⟨⟨r0, ρ2⟩, e2, e1⟩ := bind_some e1
  cases e1
  obtain ⟨ds, e3, e⟩ := bind_some e
  obtain ⟨z, e4, e⟩ := bind_some e
  cases e
  obtain ⟨d, e5, e3⟩ := bind_some e3
  cases e3
  simp only [fIns] at e4
  split at e4
  · rename_i hn
    cases e4
    refine h σ ρ F H r0 _ E e2 _ fun v F1 H1 P R1 => ?_
    obtain ⟨t, b, h1, h2, rfl⟩ := o F1 H1 v d P.env.le (Cont.of P.env R1 e5) hn
    exact ⟨v, _, t, _, _, rfl, .ty T, h1, h2, q _ F1 H1 P (.bl _)⟩
  · cases e4
def fIsTy (T : String) : List D → Option Rz
  | [d] => if isDct d = true then none else some (.sh (.bool (decide (tyD d = T))))
  | _ => none
def fNotTy (T : String) : List D → Option Rz
  | [d] => if isDct d = true then none else some (.sh (.bool (!decide (tyD d = T))))
  | _ => none
theorem ev_isTy {T : String} {te : TE} {m : EM} (h : EV K te m) : EV K (tOp (fun x y H Q => ∃ m n, x = .ty m ∧ y = .ty n ∧ Q (.bl (decide (m = n))) H) (tCB (rTyp K) (tCons te tNil)) (tC (.ty T))) (opM (fIsTy T) (arg1 m)) := fun σ ρ F H r ρ' E e Q q => by
  obtain ⟨⟨rs, ρ1⟩, e1, e⟩ := bind_some e
  obtain ⟨⟨r0, ρ2⟩, e2, e1⟩ := bind_some e1
  cases e1
  obtain ⟨ds, e3, e⟩ := bind_some e
  obtain ⟨z, e4, e⟩ := bind_some e
  cases e
  obtain ⟨d, e5, e3⟩ := bind_some e3
  cases e3
  simp only [fIsTy] at e4
  split at e4
  · cases e4
  · rename_i n
    cases e4
    refine h σ ρ F H r0 _ E e2 _ fun v F1 H1 P R1 => ?_
    exact ⟨v, _, rfl, (Cont.of P.env R1 e5).ty P.env.le (by simpa using n), _, _, rfl, rfl, q _ F1 H1 P (.bl _)⟩
theorem ev_notTy {T : String} {te : TE} {m : EM} (h : EV K te m) : EV K (tOp (fun x y H Q => ∃ m n, x = .ty m ∧ y = .ty n ∧ Q (.bl (!decide (m = n))) H) (tCB (rTyp K) (tCons te tNil)) (tC (.ty T))) (opM (fNotTy T) (arg1 m)) := fun σ ρ F H r ρ' E e Q q => by
  obtain ⟨⟨rs, ρ1⟩, e1, e⟩ := bind_some e
  obtain ⟨⟨r0, ρ2⟩, e2, e1⟩ := bind_some e1
  cases e1
  obtain ⟨ds, e3, e⟩ := bind_some e
  obtain ⟨z, e4, e⟩ := bind_some e
  cases e
  obtain ⟨d, e5, e3⟩ := bind_some e3
  cases e3
  simp only [fNotTy] at e4
  split at e4
  · cases e4
  · rename_i n
    cases e4
    refine h σ ρ F H r0 _ E e2 _ fun v F1 H1 P R1 => ?_
    exact ⟨v, _, rfl, (Cont.of P.env R1 e5).ty P.env.le (by simpa using n), _, _, rfl, rfl, q _ F1 H1 P (.bl _)⟩
/-! ### keywords alone -/
section
variable {X : Cx} {k j : Nat} {f : Addr} {fd : FuncData} {ps ks : List Str} {sp : Sp} {x : Str} {p pos : Pos} {kws : List Keyword} {tk : TA} {CX : CXT} {E : XK}
  {g : List Value → List Value → List Value} {gV : List V → List V → List V}
theorem pe_callKWd (F : FnG X.prog X.w X.K X.mg X.base CX k f fd ps sp) (hr : Room k X.A) (gu : X.A.guards = some []) (hg : Gl X x)
    (hm : X.mg x = some (.ref f)) (hk : PySem.W.keepIn X.K (.ref f) = true) (hb : KBinds X.K fd ps ks g gV) (hx : Passes CX X E)
    (hkw : PK X kws tk) (hall : (backToKw pos (keywordEach kws X.env)).all (·.1.isSome) = true := by rfl)
    (hks : (backToKw pos (keywordEach kws X.env)).filterMap (·.1) = ks := by rfl)
    (hdb : (x == ("__debug__" : Str)) = false := by decide)
    (hpl : ((backTo pos (starEach [] X.env)).any (·.1) || (backToKw pos (keywordEach kws X.env)).any (·.1.isNone)) = false := by rfl) :
    PE X (.Call (.Name x p) [] kws pos) (tCallK sp gV E tNil tk) := by
  constructor
  intro pins s σ H Q I h
  refine wpAny_Call_Name_kw (ld_glob I hg hm ?_ hdb)
  refine PySem.W.callWith_KW0 (h₀ := X.base) I.ok.mod.kin hk hall ?_ hpl
  refine thn (hkw.run pos pins s σ H _ I h) ?_
  intro ws s1 hh
  obtain ⟨zs, H1, I1, rz, q⟩ := hh
  refine ⟨I1.kIn, ?_⟩
  rw [hks]
  have rel := hb.rel (vs := []) (us := []) (.nil) rz
  refine callG F hr gu hx I1 (ws := g [] ws) (fun n => ?_) rel q
  exact hb.to s1 [] ws I1.kIn n
theorem pgkw (D : DefG X.prog X.w X.K X.mg X.base CX0 k x f fd ps sp) (hr : Room j X.A) (gu : X.A.guards = some []) (hb : KBinds X.K fd ps ks g gV) (hkw : PK X kws tk)
    (hkj : k ≤ j := by decide) (hg : Gl X x := by rfl)
    (hall : (backToKw pos (keywordEach kws X.env)).all (·.1.isSome) = true := by rfl)
    (hks : (backToKw pos (keywordEach kws X.env)).filterMap (·.1) = ks := by rfl)
    (hdb : (x == ("__debug__" : Str)) = false := by decide)
    (hpl : ((backTo pos (starEach [] X.env)).any (·.1) || (backToKw pos (keywordEach kws X.env)).any (·.1.isNone)) = false := by rfl) :
    PE X (.Call (.Name x p) [] kws pos) (tCallK sp gV E0 tNil tk) :=
  pe_callKWd D.ok (hr.mono hkj) gu hg D.g D.kp hb pass0 hkw hall hks hdb hpl
end
end Pv

set_option Elab.async false
set_option linter.all false
set_option maxRecDepth 100000
set_option maxHeartbeats 4000000
namespace Pv
open PySem PySem.Spec PyProof.Rows L2 Ws
variable {K : PySem.W.Frag}
/-! ### the rest of the rules, K named -/
theorem piZ {X : Cx} {e e2 : Expr} {ta : TA} {p pos tpos : Pos} {elts : List Expr} {kk : Nat} (hg : Gl X "zip") (hm : X.mg "zip" = none) (ha : PA X [e, e2] ta) (h : X.K = K := by rfl)
    (hs : starEach [e, e2] X.env = (false, eval e X.env) :: starEach [e2] X.env := by rfl) (hpl : (backTo pos (starEach [e2] X.env)).any (·.1) = false := by rfl) :
    PI X (.Tuple elts kk tpos) (.Call (.Name "zip" p) [e, e2] [] pos) (iZip K ta) := by
  subst h
  exact pi_zip hg hm ha hs hpl
/-- the script's law by its function -/
def scrD (ns : List Int) : D := .dict [(.list (ns.map PyData.int), .none)]
theorem law_end {P : Program} {w : World} {mg : Str → Option Value} {base : Heap} {k : Nat} {f : Addr} {fd : FuncData} {p : List D → Option Rz} (F : FnG P w K mg base CX0 k f fd ["script"] (spP K p)) (h : ∀ ns : List Int, ns.length ≤ 63 → p [scrD ns] = some (.sh (.bool true))) :
    FnG P w K mg base CX0 k f fd ["script"] (fun vs H Q _ => ∃ (a : Addr) (ns : List Int), vs = [.ref a] ∧ SqL K H a (ns.map V.int) ∧ ns.length ≤ 63 ∧ ∀ H', Q (.bl true) H') :=
  FnG.sp F fun vs H Q E ⟨a, ns, e, hs, hl, q⟩ => by
    subst e
    refine ⟨H, _, _, Same.refl _, .cons (.scr hs) .nil, h ns hl, fun v F' H' _ _ _ _ r => ?_⟩
    cases (show Rp K F' v (.bool true) from r)
    exact q H'
end Pv

set_option Elab.async false
set_option linter.all false
set_option maxRecDepth 100000
set_option maxHeartbeats 4000000
namespace Pv
open PySem PySem.Spec PyProof.Rows L2 Ws
/-! ### how such functions are gone through -/
structure Go (m : SM) (ρ : Rho) (Q : Out → Prop) : Prop where
  ex : ∃ o, m ρ = some o ∧ Q o
structure GoE (m : EM) (ρ : Rho) (Q : Rz → Rho → Prop) : Prop where
  ex : ∃ r ρ', m ρ = some (r, ρ') ∧ Q r ρ'
structure GoT (m : TM) (ρ : Rho) (Q : Bool → Rho → Prop) : Prop where
  ex : ∃ b ρ', m ρ = some (b, ρ') ∧ Q b ρ'
structure GoA (m : AM) (ρ : Rho) (Q : List Rz → Rho → Prop) : Prop where
  ex : ∃ rs ρ', m ρ = some (rs, ρ') ∧ Q rs ρ'
structure GoO (m : Rho → Option (Option Int × Rho)) (ρ : Rho) (Q : Option Int → Rho → Prop) : Prop where
  ex : ∃ i ρ', m ρ = some (i, ρ') ∧ Q i ρ'
structure GoI (m : EM) (ρ : Rho) (Q : Int → Rho → Prop) : Prop where
  ex : ∃ i ρ', oneI m ρ = some (i, ρ') ∧ Q i ρ'
structure GoW (m : IM) (ρ : Rho) (Q : List D → Rho → Prop) : Prop where
  ex : ∃ ds ρ', m ρ = some (ds, ρ') ∧ Q ds ρ'
structure GoP (p : List D → Option Rz) (ds : List D) (Q : Rz → Prop) : Prop where
  ex : ∃ r, p ds = some r ∧ Q r
structure GoJ (p : List D → List D → Option (Rz × List D)) (js ds : List D) (Q : Rz → List D → Prop) : Prop where
  ex : ∃ r js', p js ds = some (r, js') ∧ Q r js'
@[irreducible] def Nxt (Q : Out → Prop) (k : Rho → Prop) : Out → Prop
  | .nx ρ => k ρ
  | o => Q o
@[irreducible] def SetQ (i : Nat) (r : Rz) (ρ : Rho) (Q : Out → Prop) : Prop := match r with
  | .sh d => Q (.nx (ρ.set i (some (.sh d))))
  | .own ds => Q (.nx (ρ.set i (some (.own ds))))
  | .brw j => ∃ d ρ2, takeR (.brw j) ρ = some (d, ρ2) ∧ Q (.nx (ρ2.set i (some (.sh d))))
@[irreducible] def RetQ (pr : List Nat) (r : Rz) (ρ : Rho) (Q : Out → Prop) : Prop := match r with
  | .sh d => Q (.rt (.sh d) ρ)
  | .own ds => Q (.rt (.own ds) ρ)
  | .brw k => k ∉ pr ∧ ∃ ds, ρ[k]? = some (some (.own ds)) ∧ Q (.rt (.own ds) (ρ.set k none))
@[irreducible] def StepQ (r : Rz) (lo hi : Option Int) (ρ : Rho) (QE : Rz → Rho → Prop) : Prop := ∃ ds i k, deref ρ r = some (.list ds) ∧ lo = some i ∧ hi = some k ∧ (0 ≤ i ∧ i ≤ (ds.length : Int) ∧ 1 ≤ k) ∧ QE (.own (stepL ds i.toNat k.toNat)) ρ
@[irreducible] def EnQ (l : List D) (ρ : Rho) (QW : List D → Rho → Prop) : Prop := ∃ ds, l = [.list ds] ∧ QW (enumD 0 ds) ρ
@[irreducible] def ZiQ (l : List D) (ρ : Rho) (QW : List D → Rho → Prop) : Prop := ∃ ds es, l = [.list ds, .list es] ∧ QW (zipD ds es) ρ
@[irreducible] def FinQ (Q : Rz → Prop) : Out → Prop
  | .rt r _ => Q r
  | .nx _ => Q (.sh .none)
  | _ => False
@[irreducible] def FinJ (Q : Rz → List D → Prop) : Out → Prop
  | .rt r ρ => ∃ js, ρ[0]? = some (some (.own js)) ∧ Q r js
  | .nx ρ => ∃ js, ρ[0]? = some (some (.own js)) ∧ Q (.sh .none) js
  | _ => False
theorem GoP.mono {p : List D → Option Rz} {ds : List D} {Q Q' : Rz → Prop} (h : GoP p ds Q) (k : ∀ r, Q r → Q' r) : GoP p ds Q' := let ⟨r, e, q⟩ := h; ⟨r, e, k r q⟩
theorem GoJ.mono {p : List D → List D → Option (Rz × List D)} {js ds : List D} {Q Q' : Rz → List D → Prop} (h : GoJ p js ds Q) (k : ∀ r js', Q r js' → Q' r js') : GoJ p js ds Q' := let ⟨r, j, e, q⟩ := h; ⟨r, j, e, k r j q⟩
theorem Go.mono {m : SM} {ρ : Rho} {Q Q' : Out → Prop} (h : Go m ρ Q) (k : ∀ o, Q o → Q' o) : Go m ρ Q' := let ⟨o, e, q⟩ := h; ⟨o, e, k o q⟩
theorem goP {n k : Nat} {m : SM} {ds : List D} {Q : Rz → Prop} (hl : ds.length = k) (h : Go m (ds.map (fun d => some (Sl.sh d)) ++ List.replicate (n - k) none) (FinQ Q)) : GoP (fnP n k m) ds Q := by
  obtain ⟨o, e, q⟩ := h
  refine ⟨?_⟩
  unfold fnP
  unfold FinQ at q
  rw [if_pos hl, e]
  cases o with
  | nx ρ => exact ⟨_, rfl, q⟩
  | rt r ρ => exact ⟨_, rfl, q⟩
  | bk ρ => exact q.elim
  | ct ρ => exact q.elim
theorem goJ {n k : Nat} {m : SM} {js ds : List D} {Q : Rz → List D → Prop} (hl : ds.length + 1 = k) (h : Go m (some (.own js) :: ds.map (fun d => some (Sl.sh d)) ++ List.replicate (n - k) none) (FinJ Q)) : GoJ (fnJ n k m) js ds Q := by
  obtain ⟨o, e, q⟩ := h
  refine ⟨?_⟩
  unfold fnJ
  unfold FinJ at q
  rw [if_pos hl, e]
  cases o with
  | nx ρ =>
    obtain ⟨js', e1, q⟩ := q
    refine ⟨_, js', ?_, q⟩
    unfold finJ
    simp only [e1]
  | rt r ρ =>
    obtain ⟨js', e1, q⟩ := q
    refine ⟨_, js', ?_, q⟩
    unfold finJ
    simp only [e1]
  | bk ρ => exact q.elim
  | ct ρ => exact q.elim
section
variable {m n l : EM} {ms : AM} {c c2 : TM} {a b : SM} {ρ : Rho} {Q : Out → Prop} {QE : Rz → Rho → Prop} {QA : List Rz → Rho → Prop} {QT : Bool → Rho → Prop} {i j : Nat}
theorem nxt {Q : Out → Prop} {k : Rho → Prop} (h : k ρ) : Nxt Q k (.nx ρ) := by unfold Nxt; exact h
theorem nxt_rt {Q : Out → Prop} {k : Rho → Prop} {r : Rz} (h : Q (.rt r ρ)) : Nxt Q k (.rt r ρ) := by unfold Nxt; exact h
theorem nxt_bk {Q : Out → Prop} {k : Rho → Prop} (h : Q (.bk ρ)) : Nxt Q k (.bk ρ) := by unfold Nxt; exact h
theorem nxt_ct {Q : Out → Prop} {k : Rho → Prop} (h : Q (.ct ρ)) : Nxt Q k (.ct ρ) := by unfold Nxt; exact h
theorem finq_rt {Q : Rz → Prop} {r : Rz} (h : Q r) : FinQ Q (.rt r ρ) := by unfold FinQ; exact h
theorem finj_rt {Q : Rz → List D → Prop} {r : Rz} {js : List D} (e : ρ[0]? = some (some (.own js))) (h : Q r js) : FinJ Q (.rt r ρ) := by unfold FinJ; exact ⟨js, e, h⟩
theorem finq_nx {Q : Rz → Prop} (h : Q (.sh .none)) : FinQ Q (.nx ρ) := by unfold FinQ; exact h
theorem finj_nx {Q : Rz → List D → Prop} {js : List D} (e : ρ[0]? = some (some (.own js))) (h : Q (.sh .none) js) : FinJ Q (.nx ρ) := by unfold FinJ; exact ⟨js, e, h⟩
theorem g_skip (h : Q (.nx ρ)) : Go skipS ρ Q := ⟨_, rfl, h⟩
theorem g_seq (h : Go a ρ (Nxt Q fun ρ1 => Go b ρ1 Q)) : Go (seqS a b) ρ Q := by
  obtain ⟨o, e, q⟩ := h
  unfold Nxt at q
  refine ⟨?_⟩
  unfold seqS
  rw [e]
  cases o with
  | nx ρ1 =>
    have q : Go b ρ1 Q := q
    exact q.ex
  | rt r ρ1 => exact ⟨_, rfl, q⟩
  | bk ρ1 => exact ⟨_, rfl, q⟩
  | ct ρ1 => exact ⟨_, rfl, q⟩
theorem g_expr (h : GoE m ρ fun _ ρ1 => Q (.nx ρ1)) : Go (exprS m) ρ Q := by
  obtain ⟨r, ρ', e, q⟩ := h
  exact ⟨_, by unfold exprS; rw [e]; rfl, q⟩
theorem g_set (h : GoE m ρ fun r ρ1 => SetQ i r ρ1 Q) : Go (setS i m) ρ Q := by
  obtain ⟨r, ρ', e, q⟩ := h
  unfold SetQ at q
  refine ⟨?_⟩
  unfold setS
  rw [e]
  cases r with
  | sh d => exact ⟨_, rfl, q⟩
  | own ds => exact ⟨_, rfl, q⟩
  | brw j =>
    obtain ⟨d, ρ2, e2, q⟩ := q
    exact ⟨_, by simp only [Option.bind_some, e2, Option.map_some], q⟩
theorem setq_sh {d : D} (h : Q (.nx (ρ.set i (some (.sh d))))) : SetQ i (.sh d) ρ Q := by unfold SetQ; exact h
theorem setq_own {d : List D} (h : Q (.nx (ρ.set i (some (.own d))))) : SetQ i (.own d) ρ Q := by unfold SetQ; exact h
theorem setq_brw {d : List D} (e : ρ[j]? = some (some (.own d))) (h : Q (.nx ((ρ.set j (some (.sh (.list d)))).set i (some (.sh (.list d)))))) : SetQ i (.brw j) ρ Q := by unfold SetQ; exact ⟨_, _, by unfold takeR; simp only [e], h⟩
theorem g_ret {pr : List Nat} (h : GoE m ρ fun r ρ1 => RetQ pr r ρ1 Q) : Go (retS pr m) ρ Q := by
  obtain ⟨r, ρ', e, q⟩ := h
  unfold RetQ at q
  refine ⟨?_⟩
  unfold retS
  rw [e]
  cases r with
  | sh d => exact ⟨_, rfl, q⟩
  | own ds => exact ⟨_, rfl, q⟩
  | brw k =>
    obtain ⟨n, ds, e2, q⟩ := q
    refine ⟨_, ?_, q⟩
    simp only [Option.bind_some, if_neg n, e2]
theorem retq_sh {pr : List Nat} {d : D} (h : Q (.rt (.sh d) ρ)) : RetQ pr (.sh d) ρ Q := by unfold RetQ; exact h
theorem retq_own {pr : List Nat} {d : List D} (h : Q (.rt (.own d) ρ)) : RetQ pr (.own d) ρ Q := by unfold RetQ; exact h
theorem retq_brw {pr : List Nat} {d : List D} (hi : i ∉ pr) (e : ρ[i]? = some (some (.own d))) (h : Q (.rt (.own d) (ρ.set i none))) : RetQ pr (.brw i) ρ Q := by unfold RetQ; exact ⟨hi, d, e, h⟩
theorem g_retN (h : Q (.rt (.sh .none) ρ)) : Go retN ρ Q := ⟨_, rfl, h⟩
theorem g_brk (h : Q (.bk ρ)) : Go brkS ρ Q := ⟨_, rfl, h⟩
theorem g_cnt (h : Q (.ct ρ)) : Go cntS ρ Q := ⟨_, rfl, h⟩
theorem g_if (h : GoT c ρ fun k ρ1 => if k = true then Go a ρ1 Q else Go b ρ1 Q) : Go (ifS c a b) ρ Q := by
  obtain ⟨k, ρ', e, q⟩ := h
  refine ⟨?_⟩
  unfold ifS
  rw [e, Option.bind_some]
  cases k with
  | true =>
    have q : Go a ρ' Q := q
    exact q.ex
  | false =>
    have q : Go b ρ' Q := q
    exact q.ex
/-! expressions -/
theorem e_var {d : D} (e : ρ[i]? = some (some (.sh d))) (q : QE (.sh d) ρ) : GoE (varM i) ρ QE := ⟨_, _, by unfold varM; simp only [e], q⟩
theorem e_varO {d : List D} (e : ρ[i]? = some (some (.own d))) (q : QE (.brw i) ρ) : GoE (varM i) ρ QE := ⟨_, _, by unfold varM; simp only [e], q⟩
theorem e_c {d : D} (q : QE (.sh d) ρ) : GoE (cM d) ρ QE := ⟨_, _, rfl, q⟩
theorem a_nil (q : QA [] ρ) : GoA nilM ρ QA := ⟨_, _, rfl, q⟩
theorem a_cons (h : GoE m ρ fun r ρ1 => GoA ms ρ1 fun rs ρ2 => QA (r :: rs) ρ2) : GoA (consM m ms) ρ QA := by
  obtain ⟨r, ρ1, e, rs, ρ2, e2, q⟩ := h
  exact ⟨_, _, by unfold consM; rw [e, Option.bind_some, e2]; rfl, q⟩
theorem e_op {f : List D → Option Rz} (h : GoA ms ρ fun rs ρ1 => ∃ ds, derefL ρ1 rs = some ds ∧ ∃ z, f ds = some z ∧ QE z ρ1) : GoE (opM f ms) ρ QE := by
  obtain ⟨rs, ρ1, e, ds, e2, z, e3, q⟩ := h
  exact ⟨_, _, by unfold opM; rw [e, Option.bind_some, e2, Option.bind_some, e3]; rfl, q⟩
theorem a_1 (h : GoE m ρ fun r ρ1 => QA [r] ρ1) : GoA (arg1 m) ρ QA := a_cons (let ⟨r, ρ1, e, q⟩ := h; ⟨r, ρ1, e, a_nil q⟩)
theorem a_2 (h : GoE m ρ fun r ρ1 => GoE n ρ1 fun r2 ρ2 => QA [r, r2] ρ2) : GoA (arg2 m n) ρ QA := a_cons (let ⟨r, ρ1, e, r2, ρ2, e2, q⟩ := h; ⟨r, ρ1, e, a_cons ⟨r2, ρ2, e2, a_nil q⟩⟩)
theorem e_call {p : List D → Option Rz} (h : GoA ms ρ fun rs ρ1 => ∃ ds ρ2, takeL rs ρ1 = some (ds, ρ2) ∧ GoP p ds fun z => QE z ρ2) : GoE (callM p ms) ρ QE := by
  obtain ⟨rs, ρ1, e, ds, ρ2, e2, z, e3, q⟩ := h
  exact ⟨_, _, by unfold callM; rw [e, Option.bind_some, e2, Option.bind_some, e3]; rfl, q⟩
theorem e_callK {p : List D → Option Rz} {is : List Nat} (h : GoA ms ρ fun rs ρ1 => ∃ ds ρ2, takeL rs ρ1 = some (ds, ρ2) ∧ ds.length = is.length ∧ GoP p (pick is ds) fun z => QE z ρ2) : GoE (callKM p is ms) ρ QE := by
  obtain ⟨rs, ρ1, e, ds, ρ2, e2, hl, z, e3, q⟩ := h
  exact ⟨_, _, by unfold callKM; rw [e, Option.bind_some, e2, Option.bind_some, if_pos hl, e3]; rfl, q⟩
theorem e_callJ {p : List D → List D → Option (Rz × List D)} (h : GoA ms ρ fun rs ρ1 => ∃ k rest, rs = .brw k :: rest ∧ ∃ ds ρ2, takeL rest ρ1 = some (ds, ρ2) ∧ ∃ js, ρ2[k]? = some (some (.own js)) ∧ GoJ p js ds fun z js' => QE z (ρ2.set k (some (.own js')))) : GoE (callJM p ms) ρ QE := by
  obtain ⟨rs, ρ1, e, k, rest, rfl, ds, ρ2, e2, js, e3, z, js', e4, q⟩ := h
  refine ⟨_, _, ?_, q⟩
  unfold callJM
  simp only [e, Option.bind_some, e2, e3, e4]
theorem e_lst (h : GoA ms ρ fun rs ρ1 => ∃ ds ρ2, takeL rs ρ1 = some (ds, ρ2) ∧ ds.length ≤ sizeLine ∧ QE (.own ds) ρ2) : GoE (lstM ms) ρ QE := by
  obtain ⟨rs, ρ1, e, ds, ρ2, e2, hl, q⟩ := h
  exact ⟨_, _, by unfold lstM; rw [e, Option.bind_some, e2, Option.bind_some, if_pos hl], q⟩
theorem e_tup (h : GoA ms ρ fun rs ρ1 => ∃ ds ρ2, takeL rs ρ1 = some (ds, ρ2) ∧ ds.length ≤ sizeLine ∧ QE (.sh (.tuple ds)) ρ2) : GoE (tupM ms) ρ QE := by
  obtain ⟨rs, ρ1, e, ds, ρ2, e2, hl, q⟩ := h
  exact ⟨_, _, by unfold tupM; rw [e, Option.bind_some, e2, Option.bind_some, if_pos hl], q⟩
theorem i_of {QI : Int → Rho → Prop} (h : GoE m ρ fun r ρ1 => ∃ k, deref ρ1 r = some (.int k) ∧ QI k ρ1) : GoI m ρ QI := by
  obtain ⟨r, ρ1, e, k, e2, q⟩ := h
  refine ⟨_, _, ?_, q⟩
  unfold oneI
  simp only [e, Option.bind_some, e2]
theorem t_of (h : GoE m ρ fun r ρ1 => ∃ k, deref ρ1 r = some (.bool k) ∧ QT k ρ1) : GoT (tstM m) ρ QT := by
  obtain ⟨r, ρ1, e, k, e2, q⟩ := h
  refine ⟨_, _, ?_, q⟩
  unfold tstM
  simp only [e, Option.bind_some, e2]
theorem t_not (h : GoT c ρ fun k ρ1 => QT (!k) ρ1) : GoT (notT c) ρ QT := by
  obtain ⟨k, ρ1, e, q⟩ := h
  exact ⟨_, _, by unfold notT; rw [e]; rfl, q⟩
theorem t_and (h : GoT c ρ fun k ρ1 => if k = true then GoT c2 ρ1 QT else QT false ρ1) : GoT (andT c c2) ρ QT := by
  obtain ⟨k, ρ1, e, q⟩ := h
  refine ⟨?_⟩
  unfold andT
  rw [e, Option.bind_some]
  cases k with
  | true =>
    have q : GoT c2 ρ1 QT := q
    exact q.ex
  | false => exact ⟨_, _, rfl, q⟩
theorem t_or (h : GoT c ρ fun k ρ1 => if k = true then QT true ρ1 else GoT c2 ρ1 QT) : GoT (orT c c2) ρ QT := by
  obtain ⟨k, ρ1, e, q⟩ := h
  refine ⟨?_⟩
  unfold orT
  rw [e, Option.bind_some]
  cases k with
  | false =>
    have q : GoT c2 ρ1 QT := q
    exact q.ex
  | true => exact ⟨_, _, rfl, q⟩
theorem e_and (h : GoT (tstM m) ρ fun k ρ1 => if k = true then GoE n ρ1 QE else QE (.sh (.bool false)) ρ1) : GoE (andE m n) ρ QE := by
  obtain ⟨k, ρ1, e, q⟩ := h
  refine ⟨?_⟩
  unfold andE
  rw [e, Option.bind_some]
  cases k with
  | true =>
    have q : GoE n ρ1 QE := q
    exact q.ex
  | false => exact ⟨_, _, rfl, q⟩
theorem e_or (h : GoT (tstM m) ρ fun k ρ1 => if k = true then QE (.sh (.bool true)) ρ1 else GoE n ρ1 QE) : GoE (orE m n) ρ QE := by
  obtain ⟨k, ρ1, e, q⟩ := h
  refine ⟨?_⟩
  unfold orE
  rw [e, Option.bind_some]
  cases k with
  | false =>
    have q : GoE n ρ1 QE := q
    exact q.ex
  | true => exact ⟨_, _, rfl, q⟩
theorem e_not (h : GoT (tstM m) ρ fun k ρ1 => QE (.sh (.bool (!k))) ρ1) : GoE (notE m) ρ QE := by
  obtain ⟨k, ρ1, e, q⟩ := h
  exact ⟨_, _, by unfold notE; rw [e]; rfl, q⟩
theorem e_if (h : GoT c ρ fun k ρ1 => if k = true then GoE m ρ1 QE else GoE n ρ1 QE) : GoE (ifE c m n) ρ QE := by
  obtain ⟨k, ρ1, e, q⟩ := h
  refine ⟨?_⟩
  unfold ifE
  rw [e, Option.bind_some]
  cases k with
  | true =>
    have q : GoE m ρ1 QE := q
    exact q.ex
  | false =>
    have q : GoE n ρ1 QE := q
    exact q.ex
theorem e_ch {p p' : Int → Int → Bool} (h : GoI m ρ fun i ρ1 => GoI n ρ1 fun j ρ2 => if p i j = true then GoI l ρ2 fun k ρ3 => QE (.sh (.bool (p' j k))) ρ3 else QE (.sh (.bool false)) ρ2) : GoE (chM p p' m n l) ρ QE := by
  obtain ⟨i, ρ1, e1, j, ρ2, e2, h⟩ := h
  refine ⟨?_⟩
  unfold chM
  rw [e1, Option.bind_some, e2, Option.bind_some]
  cases hp : p i j with
  | true =>
    rw [hp] at h
    obtain ⟨k, ρ3, e3, q⟩ := h
    refine ⟨_, _, ?_, q⟩
    simp only [hp, if_true]
    rw [e3]
    rfl
  | false =>
    rw [hp] at h
    refine ⟨_, _, ?_, h⟩
    simp only [hp]
    rfl
theorem o_no {QO : Option Int → Rho → Prop} (q : QO none ρ) : GoO noM ρ QO := ⟨_, _, rfl, q⟩
theorem o_part {QO : Option Int → Rho → Prop} (h : GoE m ρ fun r ρ1 => ∃ k, deref ρ1 r = some (.int k) ∧ QO (some k) ρ1) : GoO (partM m) ρ QO := by
  obtain ⟨r, ρ1, e, k, e2, q⟩ := h
  refine ⟨_, _, ?_, q⟩
  unfold partM
  simp only [e, Option.bind_some, e2]
theorem e_sl {ml mh : Rho → Option (Option Int × Rho)} (h : GoE m ρ fun r ρ1 => GoO ml ρ1 fun lo ρ2 => GoO mh ρ2 fun hi ρ3 => ∃ ds, deref ρ3 r = some (.list ds) ∧ QE (.own (cutD ds lo hi)) ρ3) : GoE (slM m ml mh) ρ QE := by
  obtain ⟨r, ρ1, e, lo, ρ2, e2, hi, ρ3, e3, ds, e4, q⟩ := h
  refine ⟨_, _, ?_, q⟩
  unfold slM
  simp only [e, Option.bind_some, e2, e3, e4]
theorem e_step {ml mh : Rho → Option (Option Int × Rho)} (h : GoE m ρ fun r ρ1 => GoO ml ρ1 fun lo ρ2 => GoO mh ρ2 fun hi ρ3 => StepQ r lo hi ρ3 QE) : GoE (stepM m ml mh) ρ QE := by
  obtain ⟨r, ρ1, e, lo, ρ2, e2, hi, ρ3, e3, hq⟩ := h
  unfold StepQ at hq
  obtain ⟨ds, i, k, e4, rfl, rfl, hc, q⟩ := hq
  refine ⟨_, _, ?_, q⟩
  unfold stepM
  simp only [e, Option.bind_some, e2, e3, e4, if_pos hc]
theorem e_rev (h : GoE m ρ fun r ρ1 => ∃ ds, deref ρ1 r = some (.list ds) ∧ QE (.own ds.reverse) ρ1) : GoE (revM m) ρ QE := by
  obtain ⟨r, ρ1, e, ds, e4, q⟩ := h
  refine ⟨_, _, ?_, q⟩
  unfold revM
  simp only [e, Option.bind_some, e4]
theorem e_lrg1 (h : GoI m ρ fun i ρ1 => RgOk 0 i ∧ QE (.own (rgD 0 i)) ρ1) : GoE (lrg1 m) ρ QE := by
  obtain ⟨i, ρ1, e, hc, q⟩ := h
  exact ⟨_, _, by unfold lrg1; rw [e, Option.bind_some, if_pos hc], q⟩
theorem e_lrg2 (h : GoI m ρ fun i ρ1 => GoI n ρ1 fun j ρ2 => RgOk i j ∧ QE (.own (rgD i j)) ρ2) : GoE (lrg2 m n) ρ QE := by
  obtain ⟨i, ρ1, e, j, ρ2, e2, hc, q⟩ := h
  exact ⟨_, _, by unfold lrg2; rw [e, Option.bind_some, e2, Option.bind_some, if_pos hc], q⟩
theorem e_lrg3 (h : GoI m ρ fun i ρ1 => GoI n ρ1 fun j ρ2 => GoI l ρ2 fun k ρ3 => (RgC i j k (rgN i j k) ∧ rgN i j k ≤ 100000) ∧ QE (.own (rgDC i k (rgN i j k))) ρ3) : GoE (lrg3 m n l) ρ QE := by
  obtain ⟨i, ρ1, e, j, ρ2, e2, k, ρ3, e3, hc, q⟩ := h
  exact ⟨_, _, by unfold lrg3; rw [e, Option.bind_some, e2, Option.bind_some, e3, Option.bind_some, if_pos hc], q⟩
theorem e_app {ds0 : List D} (h0 : ρ[i]? = some (some (.own ds0))) (h : GoE m ρ fun r ρ1 => ∃ d ρ2, takeR r ρ1 = some (d, ρ2) ∧ ∃ ds, ρ2[i]? = some (some (.own ds)) ∧ ds.length < sizeLine ∧ QE (.sh .none) (ρ2.set i (some (.own (ds ++ [d]))))) : GoE (appE i m) ρ QE := by
  obtain ⟨r, ρ1, e, d, ρ2, e2, ds, e3, hl, q⟩ := h
  refine ⟨_, _, ?_, q⟩
  unfold appE
  simp only [h0, e, Option.bind_some, e2, e3, if_pos hl]
/-! stores -/
theorem g_asg {g : D → Rho → Option Rho} (h : GoE m ρ fun r ρ1 => ∃ d ρ2, takeR r ρ1 = some (d, ρ2) ∧ ∃ ρ3, g d ρ2 = some ρ3 ∧ Q (.nx ρ3)) : Go (asgS m g) ρ Q := by
  obtain ⟨r, ρ1, e, d, ρ2, e2, ρ3, e3, q⟩ := h
  refine ⟨_, ?_, q⟩
  unfold asgS
  rw [e, Option.bind_some, e2, Option.bind_some, e3]
  rfl
theorem g_par {is : List Nat} (h : GoA ms ρ fun rs ρ1 => ∃ rs' ρ2, nrmL rs ρ1 = some (rs', ρ2) ∧ ∃ ρ3, sets is rs' ρ2 = some ρ3 ∧ Q (.nx ρ3)) : Go (parS is ms) ρ Q := by
  obtain ⟨rs, ρ1, e, d, ρ2, e2, ρ3, e3, q⟩ := h
  refine ⟨_, ?_, q⟩
  unfold parS
  rw [e, Option.bind_some, e2, Option.bind_some, e3]
  rfl
theorem g_aug {f : Int → Int → Int} {k : Int} (h0 : ρ[i]? = some (some (.sh (.int k)))) (h : GoI m ρ fun j ρ1 => Q (.nx (ρ1.set i (some (.sh (.int (f k j))))))) : Go (augS i f m) ρ Q := by
  obtain ⟨j, ρ1, e, q⟩ := h
  refine ⟨_, ?_, q⟩
  unfold augS
  simp only [h0, e, Option.map_some]
theorem g_sub {ds0 : List D} (h0 : ρ[i]? = some (some (.own ds0))) (h : GoE n ρ fun r ρ1 => GoI m ρ1 fun k ρ2 => ∃ d ρ3, takeR r ρ2 = some (d, ρ3) ∧ ∃ ds, ρ3[i]? = some (some (.own ds)) ∧ ∃ j, ixN ds.length k = some j ∧ Q (.nx (ρ3.set i (some (.own (ds.set j d)))))) : Go (subS i m n) ρ Q := by
  obtain ⟨r, ρ1, e, k, ρ2, e2, d, ρ3, e3, ds, e4, j, e5, q⟩ := h
  refine ⟨_, ?_, q⟩
  unfold subS
  simp only [h0, e, Option.bind_some, e2, e3, e4, e5, Option.map_some]
theorem g_augSub {f : Int → Int → Int} {ds0 : List D} (h0 : ρ[i]? = some (some (.own ds0))) (h : GoI m ρ fun k ρ1 => ∃ ds, ρ1[i]? = some (some (.own ds)) ∧ ∃ a, atI ds k = some (.int a) ∧ GoI n ρ1 fun b ρ2 => ∃ es, ρ2[i]? = some (some (.own es)) ∧ ∃ j, ixN es.length k = some j ∧ Q (.nx (ρ2.set i (some (.own (es.set j (.int (f a b)))))))) : Go (augSubS i m f n) ρ Q := by
  obtain ⟨k, ρ1, e, ds, e2, a, e3, b, ρ2, e4, es, e5, j, e6, q⟩ := h
  refine ⟨_, ?_, q⟩
  unfold augSubS
  simp only [h0, e, Option.bind_some, e2, e3, e4, e5, e6, Option.map_some]
/-! walks -/
theorem w_list (h : GoE m ρ fun r ρ1 => ∃ ds ρ2, takeR r ρ1 = some (.list ds, ρ2) ∧ QW ds ρ2) : GoW (walkM m) ρ QW := by
  obtain ⟨r, ρ1, e, ds, ρ2, e2, q⟩ := h
  refine ⟨_, _, ?_, q⟩
  unfold walkM
  simp only [e, Option.bind_some, e2]
theorem w_tup (h : GoE m ρ fun r ρ1 => ∃ ds ρ2, takeR r ρ1 = some (.tuple ds, ρ2) ∧ QW ds ρ2) : GoW (walkTM m) ρ QW := by
  obtain ⟨r, ρ1, e, ds, ρ2, e2, q⟩ := h
  refine ⟨_, _, ?_, q⟩
  unfold walkTM
  simp only [e, Option.bind_some, e2]
theorem w_rng1 (h : GoI m ρ fun i ρ1 => (-(2 ^ 62) ≤ i ∧ i < 2 ^ 62) ∧ QW (rgD 0 i) ρ1) : GoW (rng1 m) ρ QW := by
  obtain ⟨i, ρ1, e, hc, q⟩ := h
  refine ⟨_, _, ?_, q⟩
  unfold rng1
  rw [e, Option.bind_some, if_pos hc]
theorem w_rng2 (h : GoI m ρ fun i ρ1 => GoI n ρ1 fun j ρ2 => (-(2 ^ 62) ≤ i ∧ i < 2 ^ 62 ∧ -(2 ^ 62) ≤ j ∧ j < 2 ^ 62) ∧ QW (rgD i j) ρ2) : GoW (rng2 m n) ρ QW := by
  obtain ⟨i, ρ1, e, j, ρ2, e2, hc, q⟩ := h
  refine ⟨_, _, ?_, q⟩
  unfold rng2
  rw [e, Option.bind_some, e2, Option.bind_some, if_pos hc]
theorem w_rng3 (h : GoI m ρ fun i ρ1 => GoI n ρ1 fun j ρ2 => GoI l ρ2 fun k ρ3 => RgC i j k (rgN i j k) ∧ QW (rgDC i k (rgN i j k)) ρ3) : GoW (rng3 m n l) ρ QW := by
  obtain ⟨i, ρ1, e, j, ρ2, e2, k, ρ3, e3, hc, q⟩ := h
  refine ⟨_, _, ?_, q⟩
  unfold rng3
  rw [e, Option.bind_some, e2, Option.bind_some, e3, Option.bind_some, if_pos hc]
theorem w_enum {QW : List D → Rho → Prop} (h : GoA ms ρ fun rs ρ1 => ∃ l ρ2, takeL rs ρ1 = some (l, ρ2) ∧ EnQ l ρ2 QW) : GoW (enumM ms) ρ QW := by
  obtain ⟨rs, ρ1, e, l, ρ2, e2, q⟩ := h
  unfold EnQ at q
  obtain ⟨ds, rfl, q⟩ := q
  refine ⟨_, _, ?_, q⟩
  unfold enumM
  simp only [e, Option.bind_some, e2]
theorem w_zip {QW : List D → Rho → Prop} (h : GoA ms ρ fun rs ρ1 => ∃ l ρ2, takeL rs ρ1 = some (l, ρ2) ∧ ZiQ l ρ2 QW) : GoW (zipM ms) ρ QW := by
  obtain ⟨rs, ρ1, e, l, ρ2, e2, q⟩ := h
  unfold ZiQ at q
  obtain ⟨ds, es, rfl, q⟩ := q
  refine ⟨_, _, ?_, q⟩
  unfold zipM
  simp only [e, Option.bind_some, e2]
theorem enq {QW : List D → Rho → Prop} {ds : List D} (q : QW (enumD 0 ds) ρ) : EnQ [.list ds] ρ QW := by unfold EnQ; exact ⟨_, rfl, q⟩
theorem ziq {QW : List D → Rho → Prop} {ds es : List D} (q : QW (zipD ds es) ρ) : ZiQ [.list ds, .list es] ρ QW := by unfold ZiQ; exact ⟨_, _, rfl, q⟩
theorem g_for {mi : IM} {g : D → Rho → Option Rho} (h : GoW mi ρ fun ds ρ1 => Go (forL g b ds) ρ1 Q) : Go (forS mi g b) ρ Q := by
  obtain ⟨ds, ρ1, e, q⟩ := h
  refine ⟨?_⟩
  unfold forS
  rw [e]
  exact q.ex
end
/-- what a turn leaves -/
@[irreducible] def TurnQ (Q : Out → Prop) (P : Rho → Prop) : Out → Prop
  | .nx ρ => P ρ
  | .ct ρ => P ρ
  | .bk ρ => Q (.nx ρ)
  | .rt r ρ => Q (.rt r ρ)
theorem turn {Q : Out → Prop} {P : Rho → Prop} {ρ : Rho} (h : P ρ) : TurnQ Q P (.nx ρ) := by unfold TurnQ; exact h
theorem turn_rt {Q : Out → Prop} {P : Rho → Prop} {ρ : Rho} {r : Rz} (h : Q (.rt r ρ)) : TurnQ Q P (.rt r ρ) := by unfold TurnQ; exact h
theorem turn_ct {Q : Out → Prop} {P : Rho → Prop} {ρ : Rho} (h : P ρ) : TurnQ Q P (.ct ρ) := by unfold TurnQ; exact h
theorem turn_bk {Q : Out → Prop} {P : Rho → Prop} {ρ : Rho} (h : Q (.nx ρ)) : TurnQ Q P (.bk ρ) := by unfold TurnQ; exact h
/-- a for loop by what is true ahead of turn i -/
theorem for_inv {g : D → Rho → Option Rho} {b : SM} {Q : Out → Prop} {ds : List D} {ρ : Rho} (P : Nat → Rho → Prop) (h0 : P 0 ρ) (hs : ∀ i d ρ, ds[i]? = some d → P i ρ → ∃ ρ1, g d ρ = some ρ1 ∧ Go b ρ1 (TurnQ Q (P (i + 1)))) (he : ∀ ρ, P ds.length ρ → Q (.nx ρ)) : Go (forL g b ds) ρ Q := by
  have key : ∀ (k : Nat) (es : List D) (ρ : Rho), k ≤ ds.length → ds.drop k = es → P k ρ → Go (forL g b es) ρ Q := by
    intro k es
    induction es generalizing k with
    | nil =>
      intro ρ hk e p
      have hk2 : k = ds.length := by
        have := congrArg List.length e
        rw [List.length_drop, List.length_nil] at this
        omega
      subst hk2
      exact ⟨_, rfl, he ρ p⟩
    | cons d es ih =>
      intro ρ hk e p
      have hd : ds[k]? = some d := by
        have := congrArg (fun l => l[0]?) e
        simpa using this
      obtain ⟨ρ1, e1, o, e2, q⟩ := hs k d ρ hd p
      unfold TurnQ at q
      have e3 : ds.drop (k + 1) = es := by
        have := congrArg List.tail e
        simpa using this
      have hk1 : k + 1 ≤ ds.length := (List.getElem?_eq_some_iff.mp hd).1
      refine ⟨?_⟩
      unfold forL
      rw [e1, Option.bind_some, e2, Option.bind_some]
      cases o with
      | nx ρ2 => exact (ih (k + 1) ρ2 hk1 e3 q).ex
      | ct ρ2 => exact (ih (k + 1) ρ2 hk1 e3 q).ex
      | bk ρ2 => exact ⟨_, rfl, q⟩
      | rt r ρ2 => exact ⟨_, rfl, q⟩
  exact key 0 ds ρ (Nat.zero_le _) rfl h0
/-- a while loop by what is true ahead of each test, and a measure -/
theorem while_inv {c : TM} {b : SM} {Q : Out → Prop} {ρ : Rho} (P : Nat → Rho → Prop) (k : Nat) (hk : k < 1000000) (h0 : P k ρ) (hs : ∀ k ρ, P k ρ → GoT c ρ fun t ρ1 => if t = true then Go b ρ1 (TurnQ Q fun ρ2 => ∃ j, j < k ∧ P j ρ2) else Q (.nx ρ1)) : Go (whileS c b) ρ Q := by
  have key : ∀ (n k : Nat) (ρ : Rho), k < n → P k ρ → Go (whileL c b n) ρ Q := by
    intro n
    induction n with
    | zero => intro k ρ h; omega
    | succ n ih =>
      intro k ρ h p
      obtain ⟨t, ρ1, e, q⟩ := hs k ρ p
      refine ⟨?_⟩
      unfold whileL
      rw [e, Option.bind_some]
      cases t with
      | false => exact ⟨_, rfl, q⟩
      | true =>
        obtain ⟨o, e2, q⟩ := q
        unfold TurnQ at q
        simp only [if_true]
        rw [e2, Option.bind_some]
        cases o with
        | nx ρ2 =>
          obtain ⟨j, hj, p2⟩ := q
          exact (ih j ρ2 (by omega) p2).ex
        | ct ρ2 =>
          obtain ⟨j, hj, p2⟩ := q
          exact (ih j ρ2 (by omega) p2).ex
        | bk ρ2 => exact ⟨_, rfl, q⟩
        | rt r ρ2 => exact ⟨_, rfl, q⟩
  unfold whileS
  exact key fuel k ρ (by rw [fuel_eq]; exact hk) h0
/-! comprehensions -/
theorem e_comp {mi : IM} {g : D → Rho → Option Rho} {t : TM} {m : EM} {vs : List Nat} {ρ : Rho} {QE : Rz → Rho → Prop} (h : GoW mi ρ fun ds ρ1 => ∃ acc ρ2, compL g t m vs ds (wipeE ρ1 vs) [] = some (acc, ρ2) ∧ QE (.own acc) (unwipe ρ1 ρ2 vs)) : GoE (compM mi g t m vs) ρ QE := by
  obtain ⟨ds, ρ1, e, acc, ρ2, e2, q⟩ := h
  refine ⟨_, _, ?_, q⟩
  unfold compM
  rw [e, Option.bind_some, e2, Option.bind_some]
theorem comp_inv {g : D → Rho → Option Rho} {t : TM} {m : EM} {vs : List Nat} {ds : List D} {ρ : Rho} {Q : List D → Rho → Prop} (P : Nat → List D → Rho → Prop) (h0 : P 0 [] ρ) (hz : ds.length < 16000000)
    (hs : ∀ i d acc ρ, ds[i]? = some d → acc.length ≤ i → P i acc ρ → ∃ ρ1, g d ρ = some ρ1 ∧ GoT t ρ1 fun b ρ2 => if b = true then GoE m ρ2 fun r ρ3 => ∃ y ρ4, takeR r ρ3 = some (y, ρ4) ∧ P (i + 1) (acc ++ [y]) (wipeE ρ4 vs) else P (i + 1) acc (wipeE ρ2 vs))
    (he : ∀ acc ρ, P ds.length acc ρ → Q acc ρ) : ∃ acc ρ2, compL g t m vs ds ρ [] = some (acc, ρ2) ∧ Q acc ρ2 := by
  have hZ : 16000000 ≤ sizeLine := by decide
  have key : ∀ (k : Nat) (es : List D) (acc : List D) (ρ : Rho), k ≤ ds.length → ds.drop k = es → acc.length ≤ k → P k acc ρ → ∃ acc2 ρ2, compL g t m vs es ρ acc = some (acc2, ρ2) ∧ Q acc2 ρ2 := by
    intro k es
    induction es generalizing k with
    | nil =>
      intro acc ρ hk e hl p
      have hk2 : k = ds.length := by
        have := congrArg List.length e
        rw [List.length_drop, List.length_nil] at this
        omega
      subst hk2
      exact ⟨_, _, rfl, he acc ρ p⟩
    | cons d es ih =>
      intro acc ρ hk e hl p
      have hd : ds[k]? = some d := by
        have := congrArg (fun l => l[0]?) e
        simpa using this
      obtain ⟨ρ1, e1, b, ρ2, e2, q⟩ := hs k d acc ρ hd hl p
      have e3 : ds.drop (k + 1) = es := by
        have := congrArg List.tail e
        simpa using this
      have hk1 : k + 1 ≤ ds.length := (List.getElem?_eq_some_iff.mp hd).1
      unfold compL
      rw [e1, Option.bind_some, e2, Option.bind_some]
      cases b with
      | true =>
        obtain ⟨r, ρ3, e4, y, ρ4, e5, q⟩ := q
        simp only [if_true]
        rw [e4, Option.bind_some, e5, Option.bind_some, if_pos (by omega)]
        exact ih (k + 1) _ _ hk1 e3 (by rw [List.length_append]; simp; omega) q
      | false => exact ih (k + 1) _ _ hk1 e3 (by omega) q
  exact key 0 ds [] ρ (Nat.zero_le _) rfl (Nat.le_refl 0) h0
/-- no test, and each item told by a function, nothing changed -/
theorem comp_map {g : D → Rho → Option Rho} {m : EM} {vs : List Nat} {ds : List D} {ρ : Rho} (f : D → D) (hz : ds.length < 16000000) (hs : ∀ d, d ∈ ds → ∃ ρ1, g d ρ = some ρ1 ∧ GoE m ρ1 fun r ρ3 => ∃ ρ4, takeR r ρ3 = some (f d, ρ4) ∧ wipeE ρ4 vs = ρ) :
    compL g yesT m vs ds ρ [] = some (ds.map f, ρ) := by
  obtain ⟨acc, ρ2, e, rfl, rfl⟩ := comp_inv (g := g) (t := yesT) (m := m) (vs := vs) (ds := ds) (ρ := ρ) (Q := fun acc ρ2 => acc = ds.map f ∧ ρ2 = ρ) (fun i acc ρ2 => acc = (ds.take i).map f ∧ ρ2 = ρ) ⟨by simp, rfl⟩ hz
    (fun i d acc ρ2 hd hl p => by
      obtain ⟨rfl, rfl⟩ := p
      obtain ⟨ρ1, e1, r, ρ3, e2, ρ4, e3, e4⟩ := hs d (List.mem_of_getElem? hd)
      refine ⟨ρ1, e1, true, ρ1, rfl, ?_⟩
      simp only [if_true]
      refine ⟨r, ρ3, e2, _, ρ4, e3, ?_, e4⟩
      rw [take_next hd, List.map_append]
      rfl)
    (fun acc ρ2 p => by
      obtain ⟨rfl, rfl⟩ := p
      exact ⟨by rw [List.take_length], rfl⟩)
  exact e
/-- the same for encoded items -/
theorem comp_enc {β : Type} {g : D → Rho → Option Rho} {m : EM} {vs : List Nat} {bs : List β} {ρ : Rho} (enc : β → D) (f : β → D) (hz : bs.length < 16000000) (hs : ∀ b, b ∈ bs → ∃ ρ1, g (enc b) ρ = some ρ1 ∧ GoE m ρ1 fun r ρ3 => ∃ ρ4, takeR r ρ3 = some (f b, ρ4) ∧ wipeE ρ4 vs = ρ) :
    compL g yesT m vs (bs.map enc) ρ [] = some (bs.map f, ρ) := by
  obtain ⟨acc, ρ2, e, rfl, rfl⟩ := comp_inv (g := g) (t := yesT) (m := m) (vs := vs) (ds := bs.map enc) (ρ := ρ) (Q := fun acc ρ2 => acc = bs.map f ∧ ρ2 = ρ) (fun i acc ρ2 => acc = (bs.take i).map f ∧ ρ2 = ρ) ⟨by simp, rfl⟩ (by rw [List.length_map]; exact hz)
    (fun i d acc ρ2 hd hl p => by
      obtain ⟨rfl, rfl⟩ := p
      rw [List.getElem?_map] at hd
      obtain ⟨b, hb, rfl⟩ := map_some hd
      obtain ⟨ρ1, e1, r, ρ3, e2, ρ4, e3, e4⟩ := hs b (List.mem_of_getElem? hb)
      refine ⟨ρ1, e1, true, ρ1, rfl, ?_⟩
      simp only [if_true]
      refine ⟨r, ρ3, e2, _, ρ4, e3, ?_, e4⟩
      rw [take_next hb, List.map_append]
      rfl)
    (fun acc ρ2 p => by
      obtain ⟨rfl, rfl⟩ := p
      exact ⟨by rw [List.length_map, List.take_length], rfl⟩)
  exact e
theorem comp_ints {β : Type} {g : D → Rho → Option Rho} {m : EM} {vs : List Nat} {bs : List β} {ρ : Rho} (enc : β → D) (f : β → Int) (hz : bs.length < 16000000) (hs : ∀ b, b ∈ bs → ∃ ρ1, g (enc b) ρ = some ρ1 ∧ GoE m ρ1 fun r ρ3 => ∃ ρ4, takeR r ρ3 = some (.int (f b), ρ4) ∧ wipeE ρ4 vs = ρ) :
    compL g yesT m vs (bs.map enc) ρ [] = some ((bs.map f).map PyData.int, ρ) := by
  rw [comp_enc enc (fun b => .int (f b)) hz hs, List.map_map]
  rfl
theorem f_I {C : Int → Int → Prop} [∀ i j, Decidable (C i j)] {g : Int → Int → D} {i j : Int} (h : C i j) : fI C g [.int i, .int j] = some (.sh (g i j)) := by
  show (if C i j then some (Rz.sh (g i j)) else none) = _
  rw [if_pos h]
/-! ### steps that leave plain terms -/
section
variable {ρ : Rho} {Q : List D → Rho → Prop} {QD : List D → Prop} {Q1 : D → Rho → Prop} {QZ : Rz → Prop} {rs : List Rz} {d : D} {ds : List D} {i j : Int} {k : Nat}
theorem tk_nil (q : Q [] ρ) : ∃ ds ρ2, takeL [] ρ = some (ds, ρ2) ∧ Q ds ρ2 := ⟨_, _, rfl, q⟩
theorem tk_sh (q : ∃ ds ρ2, takeL rs ρ = some (ds, ρ2) ∧ Q (d :: ds) ρ2) : ∃ ds ρ2, takeL (.sh d :: rs) ρ = some (ds, ρ2) ∧ Q ds ρ2 := by
  obtain ⟨ds, ρ2, e, q⟩ := q
  exact ⟨_, _, by show (takeL rs ρ).bind (fun b => some (d :: b.1, b.2)) = _; rw [e]; rfl, q⟩
theorem tk_own (q : ∃ es ρ2, takeL rs ρ = some (es, ρ2) ∧ Q (.list ds :: es) ρ2) : ∃ es ρ2, takeL (.own ds :: rs) ρ = some (es, ρ2) ∧ Q es ρ2 := by
  obtain ⟨es, ρ2, e, q⟩ := q
  exact ⟨_, _, by show (takeL rs ρ).bind (fun b => some (PyData.list ds :: b.1, b.2)) = _; rw [e]; rfl, q⟩
theorem tk_brw (h : ρ[k]? = some (some (.own ds))) (q : ∃ es ρ2, takeL rs (ρ.set k (some (.sh (.list ds)))) = some (es, ρ2) ∧ Q (.list ds :: es) ρ2) : ∃ es ρ2, takeL (.brw k :: rs) ρ = some (es, ρ2) ∧ Q es ρ2 := by
  obtain ⟨es, ρ2, e, q⟩ := q
  refine ⟨_, _, ?_, q⟩
  have e1 : takeR (.brw k) ρ = some (.list ds, ρ.set k (some (.sh (.list ds)))) := by unfold takeR; simp only [h]
  show (takeR (.brw k) ρ).bind _ = _
  rw [e1, Option.bind_some]
  simp only
  rw [e, Option.bind_some]
theorem stp {ns : List Int} {QE : Rz → Rho → Prop} (h : 0 ≤ i ∧ i ≤ ns.length ∧ 1 ≤ j) (q : QE (.own ((stepL ns i.toNat j.toNat).map PyData.int)) ρ) : StepQ (.sh (.list (ns.map PyData.int))) (some i) (some j) ρ QE := by
  unfold StepQ
  exact ⟨_, i, j, rfl, rfl, rfl, ⟨h.1, by rw [List.length_map]; exact h.2.1, h.2.2⟩, by rw [step_map]; exact q⟩
theorem stpO {ns : List Int} {QE : Rz → Rho → Prop} {k : Nat} (e : ρ[k]? = some (some (.own (ns.map PyData.int)))) (h : 0 ≤ i ∧ i ≤ ns.length ∧ 1 ≤ j) (q : QE (.own ((stepL ns i.toNat j.toNat).map PyData.int)) ρ) : StepQ (.brw k) (some i) (some j) ρ QE := by
  unfold StepQ
  exact ⟨ns.map PyData.int, i, j, by unfold deref; simp only [e], rfl, rfl, ⟨h.1, by rw [List.length_map]; exact h.2.1, h.2.2⟩, by rw [step_map]; exact q⟩
theorem cj {QJ : Nat → List Rz → Prop} (q : QJ k rs) : ∃ k' rest, Rz.brw k :: rs = .brw k' :: rest ∧ QJ k' rest := ⟨_, _, rfl, q⟩
theorem ow {QL : List D → Prop} (h : ρ[k]? = some (some (.own ds))) (q : QL ds) : ∃ js, ρ[k]? = some (some (.own js)) ∧ QL js := ⟨_, h, q⟩
theorem gn {QR : Rho → Prop} (q : QR (ρ.set k (some (.sh d)))) : ∃ ρ3, gN k d ρ = some ρ3 ∧ QR ρ3 := ⟨_, rfl, q⟩
theorem ixn {n m : Nat} {QN : Nat → Prop} (h : ixN n i = some m) (q : QN m) : ∃ j, ixN n i = some j ∧ QN j := ⟨_, h, q⟩
theorem gt3 {QR : Rho → Prop} {g : D → Rho → Option Rho} {ρ' : Rho} (h : g d ρ = some ρ') (q : QR ρ') : ∃ ρ3, g d ρ = some ρ3 ∧ QR ρ3 := ⟨_, h, q⟩
theorem pr3 {is : List Nat} {rs' : List Rz} {ρ1 ρ2 : Rho} {QR : Rho → Prop} (h : nrmL rs ρ = some (rs', ρ1)) (h2 : sets is rs' ρ1 = some ρ2) (q : QR ρ2) : ∃ rs' ρ2, nrmL rs ρ = some (rs', ρ2) ∧ ∃ ρ3, sets is rs' ρ2 = some ρ3 ∧ QR ρ3 := ⟨_, _, h, _, h2, q⟩
theorem t1_sh (q : Q1 d ρ) : ∃ e ρ2, takeR (.sh d) ρ = some (e, ρ2) ∧ Q1 e ρ2 := ⟨_, _, rfl, q⟩
theorem t1_own (q : Q1 (.list ds) ρ) : ∃ e ρ2, takeR (.own ds) ρ = some (e, ρ2) ∧ Q1 e ρ2 := ⟨_, _, rfl, q⟩
theorem t1_brw (h : ρ[k]? = some (some (.own ds))) (q : Q1 (.list ds) (ρ.set k (some (.sh (.list ds))))) : ∃ e ρ2, takeR (.brw k) ρ = some (e, ρ2) ∧ Q1 e ρ2 := ⟨_, _, by unfold takeR; simp only [h], q⟩
theorem tl_sh {QL : List D → Rho → Prop} (q : QL ds ρ) : ∃ es ρ2, takeR (.sh (.list ds)) ρ = some (.list es, ρ2) ∧ QL es ρ2 := ⟨_, _, rfl, q⟩
theorem tl_own {QL : List D → Rho → Prop} (q : QL ds ρ) : ∃ es ρ2, takeR (.own ds) ρ = some (.list es, ρ2) ∧ QL es ρ2 := ⟨_, _, rfl, q⟩
theorem tl_brw {QL : List D → Rho → Prop} (h : ρ[k]? = some (some (.own ds))) (q : QL ds (ρ.set k (some (.sh (.list ds))))) : ∃ es ρ2, takeR (.brw k) ρ = some (.list es, ρ2) ∧ QL es ρ2 := ⟨_, _, by unfold takeR; simp only [h], q⟩
theorem dl_nil (q : QD []) : ∃ ds, derefL ρ [] = some ds ∧ QD ds := ⟨_, rfl, q⟩
theorem dl_sh (q : ∃ ds, derefL ρ rs = some ds ∧ QD (d :: ds)) : ∃ ds, derefL ρ (.sh d :: rs) = some ds ∧ QD ds := by
  obtain ⟨ds, e, q⟩ := q
  exact ⟨_, by show (derefL ρ rs).bind (fun ds => some (d :: ds)) = _; rw [e]; rfl, q⟩
theorem dl_own (q : ∃ es, derefL ρ rs = some es ∧ QD (.list ds :: es)) : ∃ es, derefL ρ (.own ds :: rs) = some es ∧ QD es := by
  obtain ⟨es, e, q⟩ := q
  exact ⟨_, by show (derefL ρ rs).bind (fun es => some (PyData.list ds :: es)) = _; rw [e]; rfl, q⟩
theorem dl_brw (h : ρ[k]? = some (some (.own ds))) (q : ∃ es, derefL ρ rs = some es ∧ QD (.list ds :: es)) : ∃ es, derefL ρ (.brw k :: rs) = some es ∧ QD es := by
  obtain ⟨es, e, q⟩ := q
  refine ⟨_, ?_, q⟩
  have e1 : deref ρ (.brw k) = some (.list ds) := by unfold deref; simp only [h]
  show (deref ρ (.brw k)).bind _ = _
  rw [e1, Option.bind_some, e, Option.bind_some]
theorem d1_list {QL : List D → Prop} (q : QL ds) : ∃ es, deref ρ (.sh (.list ds)) = some (.list es) ∧ QL es := ⟨_, rfl, q⟩
theorem d1_own {QL : List D → Prop} (q : QL ds) : ∃ es, deref ρ (.own ds) = some (.list es) ∧ QL es := ⟨_, rfl, q⟩
theorem d1_brw {QL : List D → Prop} (h : ρ[k]? = some (some (.own ds))) (q : QL ds) : ∃ es, deref ρ (.brw k) = some (.list es) ∧ QL es := ⟨_, by unfold deref; simp only [h], q⟩
theorem d1_int {QI : Int → Prop} (q : QI i) : ∃ e, deref ρ (.sh (.int i)) = some (.int e) ∧ QI e := ⟨_, rfl, q⟩
theorem d1_bool {b : Bool} {QB : Bool → Prop} (q : QB b) : ∃ e, deref ρ (.sh (.bool b)) = some (.bool e) ∧ QB e := ⟨_, rfl, q⟩
theorem fz_add (q : QZ (.sh (.int (i + j)))) : ∃ z, fAdd [.int i, .int j] = some z ∧ QZ z := ⟨_, by unfold fAdd; rfl, q⟩
theorem fz_sub (q : QZ (.sh (.int (i - j)))) : ∃ z, fSub [.int i, .int j] = some z ∧ QZ z := ⟨_, by unfold fSub; rfl, q⟩
theorem fz_mul (h : CMulW i j) (q : QZ (.sh (.int (i * j)))) : ∃ z, fMul [.int i, .int j] = some z ∧ QZ z := ⟨_, by unfold fMul; exact f_I (C := _) h, q⟩
theorem fz_div (h : CDivW i j) (q : QZ (.sh (.int (i / j)))) : ∃ z, fDiv [.int i, .int j] = some z ∧ QZ z := ⟨_, by unfold fDiv; exact f_I (C := _) h, q⟩
theorem fz_mod (h : 0 < j) (q : QZ (.sh (.int (i % j)))) : ∃ z, fMod [.int i, .int j] = some z ∧ QZ z := ⟨_, by unfold fMod; exact f_I (C := _) h, q⟩
theorem fz_pow (h : PowOk i j) (q : QZ (.sh (.int (i ^ j.toNat)))) : ∃ z, fPow [.int i, .int j] = some z ∧ QZ z := ⟨_, by unfold fPow; exact f_I (C := _) h, q⟩
theorem fz_lt (q : QZ (.sh (.bool (decide (i < j))))) : ∃ z, fLt [.int i, .int j] = some z ∧ QZ z := ⟨_, by unfold fLt; rfl, q⟩
theorem fz_le (q : QZ (.sh (.bool (decide (i ≤ j))))) : ∃ z, fLe [.int i, .int j] = some z ∧ QZ z := ⟨_, by unfold fLe; rfl, q⟩
theorem fz_gt (q : QZ (.sh (.bool (decide (j < i))))) : ∃ z, fGt [.int i, .int j] = some z ∧ QZ z := ⟨_, by unfold fGt; rfl, q⟩
theorem fz_ge (q : QZ (.sh (.bool (decide (j ≤ i))))) : ∃ z, fGe [.int i, .int j] = some z ∧ QZ z := ⟨_, by unfold fGe; rfl, q⟩
theorem fz_neg (q : QZ (.sh (.int (-i)))) : ∃ z, fNeg [.int i] = some z ∧ QZ z := ⟨_, rfl, q⟩
theorem fz_abs (q : QZ (.sh (.int (if i < 0 then -i else i)))) : ∃ z, fAbs [.int i] = some z ∧ QZ z := ⟨_, rfl, q⟩
theorem fz_max (q : QZ (.sh (.int (max i j)))) : ∃ z, fMax2 [.int i, .int j] = some z ∧ QZ z := ⟨_, by
  unfold fMax2
  show some (Rz.sh (.int (if j > i then j else i))) = some (Rz.sh (.int (max i j)))
  have e : (if j > i then j else i) = max i j := by rw [Int.max_def]; split <;> split <;> omega
  rw [e], q⟩
theorem fz_min (q : QZ (.sh (.int (min i j)))) : ∃ z, fMin2 [.int i, .int j] = some z ∧ QZ z := ⟨_, by
  unfold fMin2
  show some (Rz.sh (.int (if j < i then j else i))) = some (Rz.sh (.int (min i j)))
  have e : (if j < i then j else i) = min i j := by rw [Int.min_def]; split <;> split <;> omega
  rw [e], q⟩
theorem sz {ds : List D} (h : Nat.ble ds.length 16000000 = true) : ds.length ≤ sizeLine := Nat.le_trans (Nat.le_of_ble_eq_true h) (by decide)
theorem sl {ds : List D} (h : Nat.ble ds.length 16000000 = true) : ds.length < sizeLine := Nat.lt_of_le_of_lt (Nat.le_of_ble_eq_true h) (by decide)
theorem fz_int (q : QZ (.sh (.int i))) : ∃ z, fInt [.int i] = some z ∧ QZ z := ⟨_, rfl, q⟩
theorem fz_intB {b : Bool} (q : QZ (.sh (.int (if b then 1 else 0)))) : ∃ z, fInt [.bool b] = some z ∧ QZ z := ⟨_, rfl, q⟩
theorem fz_len (q : QZ (.sh (.int ds.length))) : ∃ z, fLen [.list ds] = some z ∧ QZ z := ⟨_, rfl, q⟩
theorem fz_lenT (q : QZ (.sh (.int ds.length))) : ∃ z, fLen [.tuple ds] = some z ∧ QZ z := ⟨_, rfl, q⟩
theorem fz_ix (h : atI ds i = some d) (q : QZ (.sh d)) : ∃ z, fIx [.list ds, .int i] = some z ∧ QZ z := ⟨_, by show (atI ds i).map Rz.sh = _; rw [h]; rfl, q⟩
theorem fz_ixT (h : atI ds i = some d) (q : QZ (.sh d)) : ∃ z, fIx [.tuple ds, .int i] = some z ∧ QZ z := ⟨_, by show (atI ds i).map Rz.sh = _; rw [h]; rfl, q⟩
theorem fz_lenX {ns : List Int} (q : QZ (.sh (.int ns.length))) : ∃ z, fLen [scrD ns] = some z ∧ QZ z := ⟨_, by show some (Rz.sh (.int (ns.map PyData.int).length)) = _; rw [List.length_map], q⟩
theorem atI_nat {α : Type} {xs : List α} {i : Int} {x : α} (h0 : 0 ≤ i) (h : xs[i.toNat]? = some x) : atI xs i = some x := by
  have hl := (List.getElem?_eq_some_iff.mp h).1
  unfold atI ixN
  rw [if_pos h0, if_pos (by omega)]
  exact h
theorem fz_ixX {ns : List Int} {x : Int} (h0 : 0 ≤ i) (h : ns[i.toNat]? = some x) (q : QZ (.sh (.int x))) : ∃ z, fIx [scrD ns, .int i] = some z ∧ QZ z := ⟨_, by
  show (atI (ns.map PyData.int) i).map Rz.sh = _
  rw [atI_nat (x := PyData.int x) h0 (by rw [List.getElem?_map, h]; rfl)]
  rfl, q⟩
/-- an item of a list of ints -/
theorem fz_ixI {ns : List Int} {x : Int} (h0 : 0 ≤ i) (h : ns[i.toNat]? = some x) (q : QZ (.sh (.int x))) : ∃ z, fIx [.list (ns.map PyData.int), .int i] = some z ∧ QZ z := fz_ix (atI_nat h0 (by rw [List.getElem?_map, h]; rfl)) q
theorem fz_cat {es : List D} (h : ds.length + es.length ≤ sizeLine) (q : QZ (.own (ds ++ es))) : ∃ z, fCat [.list ds, .list es] = some z ∧ QZ z := ⟨_, by show (if ds.length + es.length ≤ sizeLine then some (Rz.own (ds ++ es)) else none) = _; rw [if_pos h], q⟩
theorem fz_rep (h : -(2 ^ 63) ≤ i ∧ i < 2 ^ 63 ∧ ds.length * i.toNat ≤ sizeLine) (q : QZ (.own (List.replicate i.toNat ds).flatten)) : ∃ z, fRep [.list ds, .int i] = some z ∧ QZ z := ⟨_, by show (if _ then some (Rz.own (List.replicate i.toNat ds).flatten) else none) = _; rw [if_pos h], q⟩
theorem fz_list (q : QZ (.own ds)) : ∃ z, fList [.list ds] = some z ∧ QZ z := ⟨_, rfl, q⟩
theorem fz_listT (q : QZ (.own ds)) : ∃ z, fList [.tuple ds] = some z ∧ QZ z := ⟨_, rfl, q⟩
theorem l1_ints {g : List Int → Option Rz} {ns : List Int} : fL1 g [.list (ns.map PyData.int)] = g ns := by
  show (toInts (ns.map PyData.int)).bind g = _
  rw [toInts_map]
  rfl
theorem fz_sum {ns : List Int} (q : QZ (.sh (.int ns.sum))) : ∃ z, fSum [.list (ns.map PyData.int)] = some z ∧ QZ z := ⟨_, l1_ints, q⟩
theorem fz_maxL {ns : List Int} (h : 0 < ns.length) (q : QZ (.sh (.int (mx ns)))) : ∃ z, fMaxL [.list (ns.map PyData.int)] = some z ∧ QZ z := ⟨_, by unfold fMaxL; rw [l1_ints, if_pos h], q⟩
theorem fz_minL {ns : List Int} (h : 0 < ns.length) (q : QZ (.sh (.int (mn ns)))) : ∃ z, fMinL [.list (ns.map PyData.int)] = some z ∧ QZ z := ⟨_, by unfold fMinL; rw [l1_ints, if_pos h], q⟩
theorem fz_sorted {ns : List Int} (q : QZ (.own ((srt ns).map PyData.int))) : ∃ z, fSorted [.list (ns.map PyData.int)] = some z ∧ QZ z := ⟨_, l1_ints, q⟩
theorem fz_all {bs : List Bool} (q : QZ (.sh (.bool (bs.all id)))) : ∃ z, (fB1 fun bs => bs.all id) [.list (bs.map PyData.bool)] = some z ∧ QZ z := ⟨_, by show (toBls (bs.map PyData.bool)).map _ = _; rw [toBls_map]; rfl, q⟩
theorem fz_any {bs : List Bool} (q : QZ (.sh (.bool (bs.any id)))) : ∃ z, (fB1 fun bs => bs.any id) [.list (bs.map PyData.bool)] = some z ∧ QZ z := ⟨_, by show (toBls (bs.map PyData.bool)).map _ = _; rw [toBls_map]; rfl, q⟩
theorem fz_repr (h : Shw d ∧ d.hasDict = false) (q : QZ (.sh (.str d.shown))) : ∃ z, fRepr [d] = some z ∧ QZ z := ⟨_, by show (if Shw d ∧ d.hasDict = false then some (Rz.sh (.str d.shown)) else none) = _; rw [if_pos h], q⟩
theorem fz_eqS {a b : Str} (q : QZ (.sh (.bool (decide (a = b))))) : ∃ z, fEqS [.str a, .str b] = some z ∧ QZ z := ⟨_, rfl, q⟩
theorem fz_neS {a b : Str} (q : QZ (.sh (.bool (!decide (a = b))))) : ∃ z, fNeS [.str a, .str b] = some z ∧ QZ z := ⟨_, rfl, q⟩
theorem eqv_int (a b : Int) : PyData.eqv (.int a) (.int b) = decide (a = b) := by
  rw [PyData.eqv, Bool.eq_iff_iff]
  simp
theorem fz_eqI (q : QZ (.sh (.bool (decide (i = j))))) : ∃ z, fEq [.int i, .int j] = some z ∧ QZ z := ⟨_, by
  show (if SeqAt.shaped (.int i) = true ∧ SeqAt.shaped (.int j) = true then some (Rz.sh (.bool (PyData.eqv (.int i) (.int j)))) else none) = _
  rw [if_pos ⟨rfl, rfl⟩, eqv_int], q⟩
theorem fz_neI (q : QZ (.sh (.bool (!decide (i = j))))) : ∃ z, fNe [.int i, .int j] = some z ∧ QZ z := ⟨_, by
  show (if SeqAt.shaped (.int i) = true ∧ SeqAt.shaped (.int j) = true then some (Rz.sh (.bool (!PyData.eqv (.int i) (.int j)))) else none) = _
  rw [if_pos ⟨rfl, rfl⟩, eqv_int], q⟩
theorem fz_eqL {ns ms : List Int} (q : QZ (.sh (.bool (decide (ns = ms))))) : ∃ z, fEq [.list (ns.map PyData.int), .list (ms.map PyData.int)] = some z ∧ QZ z := ⟨_, by
  show (if SeqAt.shaped (dI ns) = true ∧ SeqAt.shaped (dI ms) = true then some (Rz.sh (.bool (PyData.eqv (dI ns) (dI ms)))) else none) = _
  rw [if_pos ⟨shaped_ints ns, shaped_ints ms⟩, eqv_ints], q⟩
theorem fz_neL {ns ms : List Int} (q : QZ (.sh (.bool (!decide (ns = ms))))) : ∃ z, fNe [.list (ns.map PyData.int), .list (ms.map PyData.int)] = some z ∧ QZ z := ⟨_, by
  show (if SeqAt.shaped (dI ns) = true ∧ SeqAt.shaped (dI ms) = true then some (Rz.sh (.bool (!PyData.eqv (dI ns) (dI ms)))) else none) = _
  rw [if_pos ⟨shaped_ints ns, shaped_ints ms⟩, eqv_ints], q⟩
theorem fz_eq {a b : D} (ha : SeqAt.shaped a = true) (hb : SeqAt.shaped b = true) (q : QZ (.sh (.bool (PyData.eqv a b)))) : ∃ z, fEq [a, b] = some z ∧ QZ z := ⟨_, by show (if SeqAt.shaped a = true ∧ SeqAt.shaped b = true then some (Rz.sh (.bool (PyData.eqv a b))) else none) = _; rw [if_pos ⟨ha, hb⟩], q⟩
theorem fz_ne {a b : D} (ha : SeqAt.shaped a = true) (hb : SeqAt.shaped b = true) (q : QZ (.sh (.bool (!PyData.eqv a b)))) : ∃ z, fNe [a, b] = some z ∧ QZ z := ⟨_, by show (if SeqAt.shaped a = true ∧ SeqAt.shaped b = true then some (Rz.sh (.bool (!PyData.eqv a b))) else none) = _; rw [if_pos ⟨ha, hb⟩], q⟩
theorem fz_isN (q : QZ (.sh (.bool (isNone d)))) : ∃ z, fIsN [d, .none] = some z ∧ QZ z := ⟨_, rfl, q⟩
theorem fz_notN (q : QZ (.sh (.bool (!isNone d)))) : ∃ z, fNotN [d, .none] = some z ∧ QZ z := ⟨_, rfl, q⟩
end
end Pv

set_option Elab.async false
set_option linter.all false
set_option maxRecDepth 100000
set_option maxHeartbeats 4000000
namespace Pv
open PySem PySem.Spec PyProof.Rows L2 Ws
variable {K : PySem.W.Frag}
/-! ### pairs of ints: the least -/
abbrev prD (q : Int × Int) : D := .tuple [.int q.1, .int q.2]
def plt (p q : Int × Int) : Bool := decide (p.1 < q.1 ∨ (p.1 = q.1 ∧ p.2 < q.2))
def minPr (q : Int × Int) (qs : List (Int × Int)) : Int × Int := qs.foldl (fun a y => if plt y a = true then y else a) q
theorem minD_pr (qs : List (Int × Int)) : ∀ q : Int × Int, PySem.W.minD (prD q) (qs.map prD) = prD (minPr q qs) := by
  unfold PySem.W.minD minPr
  induction qs with
  | nil => intro q; rfl
  | cons y r ih =>
    intro q
    rw [List.map_cons, List.foldl_cons, List.foldl_cons, ← ih]
    congr 1
    rw [PySem.W.dataLt_ii]
    unfold plt
    split <;> rfl
def toPrs : List D → Option (List (Int × Int))
  | [] => some []
  | .tuple [.int a, .int b] :: r => (toPrs r).map fun s => (a, b) :: s
  | _ :: _ => none
theorem toPrs_map : ∀ (ns : List (Int × Int)), toPrs (ns.map prD) = some ns
  | [] => rfl
  | n :: r => by
    show (toPrs (r.map prD)).map (fun s => (n.1, n.2) :: s) = _
    rw [toPrs_map r]
    rfl
theorem toPrs_eq : ∀ {ds : List D} {ns : List (Int × Int)}, toPrs ds = some ns → ds = ns.map prD := by
  intro ds
  induction ds with
  | nil =>
    intro ns h
    cases h
    rfl
  | cons d r ih =>
    intro ns h
    unfold toPrs at h
    split at h
    · rename_i e
      cases e
    · rename_i a b r' e
      cases e
      obtain ⟨s, e, rfl⟩ := map_some h
      rw [ih e]
      rfl
    · cases h
theorem alike_pr (ps : List (Int × Int)) : PySem.W.AlikeAll (ps.map prD) := by
  refine ⟨fun x hx y hy => ?_, fun x hx => ?_⟩
  · obtain ⟨a, _, rfl⟩ := List.mem_map.mp hx
    obtain ⟨b, _, rfl⟩ := List.mem_map.mp hy
    simp [PySem.W.alike, PySem.W.alikeAll]
  · obtain ⟨a, _, rfl⟩ := List.mem_map.mp hx
    intro z
    cases z
theorem depth_pr (ps : List (Int × Int)) : PyData.depthAll (ps.map prD) ≤ 1 := by
  induction ps with
  | nil => exact Nat.zero_le _
  | cons a t ih =>
    rw [List.map_cons]
    simp only [PyData.depthAll, PyData.depth] at ih ⊢
    omega
def rMinQ (K : PySem.W.Frag) : List V → Hp → VK → Prop := fun vs H Q => ∃ (p : Addr) (xs : List V) (q0 : Int × Int) (qs : List (Int × Int)), vs = [.ref p] ∧ SqL K H p xs ∧ DpAll K H xs ((q0 :: qs).map prD) ∧
  ∀ (i : Nat) x, xs[i]? = some x → (q0 :: qs)[i]? = some (minPr q0 qs) → Q x H
theorem minQ {X : Cx} (hc : X.calm = true) (hu : X.A.units + 64 < cLine) (h : X.K = K := by rfl) : CallR X (.builtin "min") (rMinQ K) := by
  subst h
  intro pins s σ H vs us Q I r hh
  obtain ⟨p, xs, q0, qs, rfl, hs, hd, q⟩ := hh
  obtain ⟨its, rv, hL, hz⟩ := I.list hs
  rw [Vals.ref1 r]
  obtain ⟨bs, rd⟩ := Dp.readsAll I _ _ its hd rv
  have dep := depth_pr (q0 :: qs)
  refine PySem.W.min_list_data (vs := its.toArray) (x := prD q0) (xs := qs.map prD) (I.ok.hd hc) hL.isList (by rw [List.toList_toArray]; exact rd) (alike_pr (q0 :: qs)) (by show X.A.units + 1 + PyData.depthAll ((q0 :: qs).map prD) < cLine; omega) fun i v h' tk cs hv hr hk => ?_
  rw [List.getElem?_toArray] at hv
  obtain ⟨bs', r1, hi, _, _⟩ := PySem.W.readsAll_at rd i v hv
  have r2 := PyProof.Rows.Reads.keeps hk r1
  have e1 := (PySem.Reads.unique r2 _ _ hr).1
  rw [minD_pr] at e1
  have hi2 : i < (q0 :: qs).length := by
    have : ((q0 :: qs).map prD).length = (q0 :: qs).length := List.length_map ..
    omega
  have hx : i < xs.length := by
    have a := rv.length
    have b := (List.getElem?_eq_some_iff.mp hv).1
    omega
  obtain ⟨u, hu2, ru⟩ := rv.get (List.getElem?_eq_getElem hx)
  rw [hv] at hu2
  cases hu2
  refine ⟨xs[i], H, I.kept hk, ru, q i _ (List.getElem?_eq_getElem hx) ?_⟩
  rw [List.getElem?_eq_getElem hi2]
  have e2 : ((q0 :: qs).map prD).getD i .none = prD (q0 :: qs)[i] := by
    rw [List.getD_eq_getElem?_getD, List.getElem?_map, List.getElem?_eq_getElem hi2]
    rfl
  have e3 : prD (q0 :: qs)[i] = prD (minPr q0 qs) := by
    rw [← e2]
    exact e1
  have e4 : (q0 :: qs)[i].1 = (minPr q0 qs).1 ∧ (q0 :: qs)[i].2 = (minPr q0 qs).2 := by
    have := PyData.tuple.inj e3
    simp only [List.cons.injEq, PyData.int.injEq, and_true] at this
    exact this
  rw [Option.some.injEq]
  exact Prod.ext e4.1 e4.2
def fMinQ : List D → Option Rz
  | [.list ds] => match toPrs ds with
    | some (q :: qs) => some (.sh (prD (minPr q qs)))
    | _ => none
  | _ => none
theorem hasDict_pr : ∀ ps : List (Int × Int), PyData.hasDictAll (ps.map prD) = false
  | [] => by simp only [List.map_nil, PyData.hasDictAll]
  | n :: r => by
    rw [List.map_cons]
    simp only [PyData.hasDictAll, PyData.hasDict, hasDict_pr r]
    rfl
theorem minPr_mem (q : Int × Int) (qs : List (Int × Int)) : minPr q qs ∈ q :: qs := by
  unfold minPr
  induction qs generalizing q with
  | nil => exact List.mem_cons_self
  | cons y r ih =>
    rw [List.foldl_cons]
    split
    · have := ih y
      exact List.mem_cons_of_mem _ this
    · rcases List.mem_cons.mp (ih q) with z | z
      · rw [z]
        exact List.mem_cons_self
      · exact List.mem_cons_of_mem _ (List.mem_cons_of_mem _ z)
theorem o_minQ : OpV K (rMinQ K) fMinQ := fun F H vs ds z le c e Q q => by
  unfold fMinQ at e
  split at e
  · split at e
    · rename_i ds q0 qs ep
      cases e
      rw [toPrs_eq ep] at c
      obtain ⟨x, rfl, h1⟩ := cont1 c
      obtain ⟨p, xs, rfl, e1, r1⟩ := h1.list le
      refine ⟨p, xs, q0, qs, rfl, SqL.of e1, RpA.dp _ _ (hasDict_pr _) (RpA.up le _ _ r1), fun i x hx hq => ?_⟩
      have hi := (List.getElem?_eq_some_iff.mp hq).1
      obtain ⟨v, h2, h3⟩ := r1.get (i := i) (d := prD (minPr q0 qs)) (by rw [List.getElem?_map, hq]; rfl)
      rw [hx] at h2
      cases h2
      exact op_sh le h3 q
    · cases e
  · cases e
theorem fz_minQ {q0 : Int × Int} {qs : List (Int × Int)} {QZ : Rz → Prop} (q : QZ (.sh (prD (minPr q0 qs)))) : ∃ z, fMinQ [.list ((q0 :: qs).map prD)] = some z ∧ QZ z := ⟨_, by
  show (match toPrs ((q0 :: qs).map prD) with
    | some (q :: qs) => some (Rz.sh (prD (minPr q qs)))
    | _ => none) = _
  rw [toPrs_map], q⟩
theorem minPr_le (q : Int × Int) (qs : List (Int × Int)) : ∀ p ∈ q :: qs, plt p (minPr q qs) = false := by
  unfold minPr
  induction qs generalizing q with
  | nil =>
    intro p hp
    rcases List.mem_cons.mp hp with rfl | hp
    · unfold plt
      simp
    · cases hp
  | cons y r ih =>
    intro p hp
    rw [List.foldl_cons]
    have tr : ∀ a b c : Int × Int, plt a b = false → plt b c = false → plt a c = false := fun a b c h1 h2 => by
      unfold plt at *
      simp only [decide_eq_false_iff_not] at *
      omega
    by_cases h : plt y q = true
    · rw [if_pos h]
      have hy := ih y y List.mem_cons_self
      rcases List.mem_cons.mp hp with rfl | hp
      · have : plt p y = false := by
          unfold plt at *
          simp only [decide_eq_true_eq, decide_eq_false_iff_not] at *
          omega
        exact tr _ _ _ this hy
      · exact ih y p hp
    · rw [if_neg h]
      have hq := ih q q List.mem_cons_self
      rcases List.mem_cons.mp hp with rfl | hp
      · exact hq
      · rcases List.mem_cons.mp hp with rfl | hp
        · exact tr _ _ _ (by simpa using h) hq
        · exact ih q p (List.mem_cons_of_mem _ hp)
/-! ### kinds -/
section
variable {QZ : Rz → Prop} {d : D}
theorem fz_ins {g : D → Bool} (h : noScr d = true) (q : QZ (.sh (.bool (g d)))) : ∃ z, fIns g [d] = some z ∧ QZ z := ⟨_, by show (if noScr d = true then some (Rz.sh (.bool (g d))) else none) = _; rw [if_pos h], q⟩
theorem fz_isTy {T : String} (n : isDct d = false) (q : QZ (.sh (.bool (decide (tyD d = T))))) : ∃ z, fIsTy T [d] = some z ∧ QZ z := ⟨_, by simp only [fIsTy, n]; rfl, q⟩
theorem fz_notTy {T : String} (n : isDct d = false) (q : QZ (.sh (.bool (!decide (tyD d = T))))) : ∃ z, fNotTy T [d] = some z ∧ QZ z := ⟨_, by simp only [fNotTy, n]; rfl, q⟩
end
/-- a test whose outcome is known -/
theorem iteP {c : Prop} [Decidable c] {p q : Prop} (h : c) (k : p) : if c then p else q := by
  rw [if_pos h]
  exact k
theorem iteN {c : Prop} [Decidable c] {p q : Prop} (h : ¬c) (k : q) : if c then p else q := by
  rw [if_neg h]
  exact k
theorem iteB {b : Bool} {p q : Prop} (h1 : b = true → p) (h2 : b = false → q) : if b = true then p else q := by
  cases b with
  | true => exact h1 rfl
  | false => exact h2 rfl
/-- a test of a proposition that is decided -/
theorem iteD {c : Prop} [Decidable c] {p q : Prop} (h1 : c → p) (h2 : ¬c → q) : if decide c = true then p else q := by
  by_cases h : c
  · rw [if_pos (decide_eq_true h)]
    exact h1 h
  · rw [if_neg (by rw [decide_eq_false h]; exact Bool.false_ne_true)]
    exact h2 h
theorem iteDP {c : Prop} [Decidable c] {p q : Prop} (h : c) (k : p) : if decide c = true then p else q := iteD (fun _ => k) fun n => absurd h n
theorem iteDN {c : Prop} [Decidable c] {p q : Prop} (h : ¬c) (k : q) : if decide c = true then p else q := iteD (fun n => absurd n h) fun _ => k
/-- a negative index -/
theorem atI_back {α : Type} {xs : List α} {i : Int} {j : Nat} {x : α} (e : i = (j : Int) - xs.length) (hj : j < xs.length) (h : xs[j]? = some x) : atI xs i = some x := by
  unfold atI ixN
  rw [if_neg (by omega), if_pos (by omega)]
  show xs[(i + (xs.length : Int)).toNat]? = _
  rw [show (i + (xs.length : Int)).toNat = j by omega]
  exact h
end Pv

set_option Elab.async false
set_option linter.all false
set_option maxRecDepth 100000
set_option maxHeartbeats 4000000
/-! # a comprehension over a list of one's own that is changed later on -/
namespace Pv
open PySem PySem.Spec PyProof.Rows L2 Ws
variable {K : PySem.W.Frag}
theorem hid_some {ρ : Rho} {k i : Nat} {x : Sl} (h : (ρ.set k none)[i]? = some (some x)) : i ≠ k ∧ ρ[i]? = some (some x) := by
  rcases set_back h with ⟨_, z⟩ | ⟨z, h⟩
  · cases z
  · exact ⟨z, h⟩
theorem EnvR.hide {σ : L2.St} {ρ : Rho} {F H : Hp} (E : EnvR K σ ρ F H) (k : Nat) : EnvR K σ (ρ.set k none) F H :=
  ⟨E.le, by rw [List.length_set]; exact E.len, fun i s h => E.slot i s (hid_some h).2, fun i j ds es v h g a b => E.inj i j ds es v (hid_some h).2 (hid_some g).2 a b⟩
theorem hid_nown {σ : L2.St} {ρ : Rho} {F H : Hp} {k : Nat} {p : Addr} {ds : List D} (E : EnvR K σ ρ F H) (ek : ρ[k]? = some (some (.own ds))) (hv : σ[k]? = some (some (.ref p))) : ¬ Owns σ (ρ.set k none) p := fun ⟨j, es, g1, g2⟩ => by
  obtain ⟨n, g⟩ := hid_some g1
  exact n (E.inj j k es ds _ g ek g2 hv)
theorem Post.unhide {σ : L2.St} {ρ ρ' : Rho} {F H F' H' : Hp} {k : Nat} {ds : List D} (E : EnvR K σ ρ F H) (ek : ρ[k]? = some (some (.own ds))) (P : Post K σ (ρ.set k none) F H ρ' F' H') : Post K σ ρ F H (ρ'.set k (some (.own ds))) F' H' := by
  obtain ⟨v0, hv, p, ys, rfl, ep, fp, ry⟩ := E.slot k _ ek
  have nP := hid_nown E ek hv
  have ow : ∀ a, Owns σ (ρ.set k none) a → Owns σ ρ a := fun a ⟨j, es, g1, g2⟩ => ⟨j, es, (hid_some g1).2, g2⟩
  have two : ∀ (j : Nat) (es : List D) (v : V), j ≠ k → ρ'[j]? = some (some (.own es)) → σ[j]? = some (some v) → σ[k]? = some (some v) → False := fun j es v n g a b => by
    obtain ⟨fs, g1⟩ := P.sub j es g
    exact n (E.inj j k fs ds v (hid_some g1).2 ek a b)
  refine ⟨⟨P.env.le, by rw [List.length_set]; exact P.env.len, fun i s h => ?_, fun i j as bs v h g a b => ?_⟩, P.fle, fun a o h n => P.keep a o h fun z => n (ow a z), P.ex, fun a h f n => P.fz a h f fun z => n (ow a z), fun i as h => ?_⟩
  · rcases set_back h with ⟨rfl, z⟩ | ⟨z, h⟩
    · cases z
      exact ⟨_, hv, p, ys, rfl, P.keep p _ ep nP, P.fz p (not_none ep) fp nP, RpA.up P.fle _ _ ry⟩
    · exact P.env.slot i s h
  · rcases set_back h with ⟨y1, _⟩ | ⟨y1, h1⟩
    · rcases set_back g with ⟨y2, _⟩ | ⟨y2, g1⟩
      · rw [y1, y2]
      · exact (two j bs v y2 g1 b (by rw [← y1]; exact a)).elim
    · rcases set_back g with ⟨y2, _⟩ | ⟨y2, g1⟩
      · exact (two i as v y1 h1 a (by rw [← y2]; exact b)).elim
      · exact P.env.inj i j as bs v h1 g1 a b
  · rcases set_back h with ⟨rfl, z⟩ | ⟨z, h⟩
    · exact ⟨_, ek⟩
    · obtain ⟨es, g⟩ := P.sub i as h
      exact ⟨es, (hid_some g).2⟩
def compO (k : Nat) (g : D → Rho → Option Rho) (t : TM) (m : EM) (vs : List Nat) : EM := fun ρ => match ρ[k]? with
  | some (some (.own ds)) => (compL g t m vs ds (wipeE (ρ.set k none) vs) []).bind fun b => some (.own b.1, (unwipe (ρ.set k none) b.2 vs).set k (some (.own ds)))
  | _ => none
theorem ev_compO {k : Nat} {is vs : List Nat} {g : TG} {tt : TT} {te : TE} {mg : D → Rho → Option Rho} {mt : TM} {m : EM} (hg : GV K [] is g mg) (ht : TV K tt mt) (he : EV K te m) (hs : ∀ i ∈ is, i ∈ vs := by decide) : EV K (tLc (iList K (tVar k)) g tt te vs) (compO k mg mt m vs) := fun σ ρ F H0 r ρ' E e Q q => by
  unfold compO at e
  split at e
  · rename_i ds ek
    obtain ⟨⟨res, ρz⟩, e2, e⟩ := bind_some e
    cases e
    obtain ⟨v0, hv, p, ys, rfl, ep, fp, ry⟩ := E.slot k _ ek
    have Eh := E.hide k
    have Ew := Eh.wipe vs
    have nP : ¬ Owns (L2.wipe σ vs) (wipeE (ρ.set k none) vs) p := fun ⟨j, es, g1, g2⟩ => by
      obtain ⟨nj, g3⟩ := wipeE_some g1
      rw [wipe_ne nj] at g2
      exact hid_nown E ek hv ⟨j, es, g3, g2⟩
    refine ⟨_, hv, p, rfl, ⟨ys, SqL.of ep⟩, fun Dd hD => ?_⟩
    refine ⟨fun i m' H1 => ∃ ρ2 F2 xs acc, m' = ds.length - i ∧ i ≤ ds.length ∧ Post K (wipe σ vs) (wipeE (ρ.set k none) vs) F H0 ρ2 F2 H1 ∧ H1 Dd = some (.lst xs) ∧ F2 Dd = none ∧ RpA K F2 xs acc ∧ compL mg mt m vs (ds.drop i) ρ2 acc = some (res, ρz), ⟨ds.length, wipeE (ρ.set k none) vs, F, [], [], by simp, Nat.zero_le _, ?_, upd_same, fresh_F E.le hD, .nil, e2⟩, ?_⟩
    · exact Post.acc (xs := []) Ew (Post.refl Ew) hD (fresh_F E.le hD)
    rintro i m' H2 ⟨ρ2, F2, xs, acc, rfl, hi, P2, hx, fx, rx, e3⟩
    have hp2 : H2 p = some (.lst ys) := P2.keep p _ ep nP
    by_cases hlt : i < ds.length
    · rw [List.drop_eq_getElem_cons hlt] at e3
      obtain ⟨ρ3, e4, e3⟩ := bind_some e3
      obtain ⟨⟨b, ρ4⟩, e5, e3⟩ := bind_some e3
      obtain ⟨w, ew, rw_⟩ := ry.get (List.getElem?_eq_getElem hlt)
      refine .inr ⟨⟨ys, w, SqL.of hp2, ew⟩, fun H => ∃ ρ2 F2 xs acc, Post K (wipe σ vs) (wipeE (ρ.set k none) vs) F H0 ρ2 F2 H ∧ H Dd = some (.lst xs) ∧ F2 Dd = none ∧ RpA K F2 xs acc ∧ compL mg mt m vs (ds.drop (i + 1)) ρ2 acc = some (res, ρz), fun H' ⟨ρ', F', xs', acc', a⟩ => ⟨ds.length - (i + 1), by omega, ρ', F', xs', acc', rfl, hlt, a⟩, fun x H' y => ?_⟩
      obtain ⟨rfl, y⟩ := y
      have ey := y ys (SqL.of hp2)
      rw [ew] at ey
      cases ey
      have a5 := Rp.up P2.fle _ _ rw_
      refine hg Anc.none (wipe σ vs) ρ2 F2 H' w _ ρ3 (Now.any P2.env) a5 e4 _ fun σ2 N2 ag ago => ?_
      refine ⟨wipe_agree ag hs, ?_⟩
      have n2 : ∀ {ρ5 F5 H5}, Post K σ2 ρ3 F2 H' ρ5 F5 H5 → H5 Dd = some (.lst xs) ∧ F5 Dd = none := fun {ρ5 F5 H5} P => by
        have n : ¬ Owns σ2 ρ3 Dd := fun ⟨j, es, g1, g2⟩ => by
          obtain ⟨nk, g3⟩ := ago j es g1
          exact fresh_nown Ew P2 hD ⟨j, es, g3, by rw [← ag.2 j nk]; exact g2⟩
        exact ⟨P.keep _ _ hx n, P.fz _ (not_none hx) fx n⟩
      refine ht σ2 ρ3 F2 H' b ρ4 N2.env e5 _ fun F4 H4 P4 => ?_
      cases b with
      | false =>
        have P5 := P2.trans (P4.scope hs ag ago)
        obtain ⟨b1, b2⟩ := n2 P4
        exact ⟨_, F4, xs, acc, P5, b1, b2, RpA.up P4.fle acc xs rx, e3⟩
      | true =>
        obtain ⟨⟨r, ρ5⟩, e6, e3⟩ := bind_some e3
        obtain ⟨⟨d5, ρ6⟩, e7, e3⟩ := bind_some e3
        simp only at e3
        split at e3
        · rename_i hl
          refine he σ2 ρ4 F4 H4 r ρ5 P4.env e6 _ fun v F5 H5 P5 R5 => ?_
          have P45 := P4.trans P5
          obtain ⟨F6, P6, s6, r6⟩ := take1 N2.env P45 (ResR.base P4.ex R5).w e7
          obtain ⟨b1, b2⟩ := n2 P6
          have rx6 := RpA.up P6.fle acc xs rx
          refine ⟨xs, b1, by rw [rx6.length]; exact hl, wipeE ρ6 vs, F6, xs ++ [v], acc ++ [d5], ?_, upd_same, b2, rx6.snoc r6, e3⟩
          exact Post.acc (xs := []) Ew (P2.trans (P6.scope hs ag ago)) hD b2
        · cases e3
    · have : i = ds.length := by omega
      subst this
      rw [List.drop_length] at e3
      cases e3
      refine .inl ⟨⟨ys, SqL.of hp2, by rw [ry.length]; exact Nat.le_refl _⟩, ?_⟩
      exact q _ F2 H2 (Post.unhide E ek ((Post.refl Eh).trans ((Post.refl Eh).unscope P2))) ⟨Dd, xs, rfl, hD, hx, fx, rx⟩
  · cases e
theorem e_compO {k : Nat} {ds : List D} {g : D → Rho → Option Rho} {t : TM} {m : EM} {vs : List Nat} {ρ : Rho} {QE : Rz → Rho → Prop} (ek : ρ[k]? = some (some (.own ds))) (h : ∃ acc ρ2, compL g t m vs ds (wipeE (ρ.set k none) vs) [] = some (acc, ρ2) ∧ QE (.own acc) ((unwipe (ρ.set k none) ρ2 vs).set k (some (.own ds)))) : GoE (compO k g t m vs) ρ QE := by
  obtain ⟨acc, ρ2, e2, q⟩ := h
  refine ⟨_, _, ?_, q⟩
  unfold compO
  rw [ek]
  show ((compL g t m vs ds (wipeE (ρ.set k none) vs) []).bind _) = _
  rw [e2, Option.bind_some]
/-! ### calls that take a list of one's own for a while and tell plain values -/
def flatD : D → Bool
  | .none => true
  | .bool _ => true
  | .int _ => true
  | .str _ => true
  | _ => false
theorem Rp.flat {F F' : Hp} {v : V} {d : D} (h : Rp K F v d) (f : flatD d = true) : Rp K F' v d := by
  cases h with
  | non => exact .non
  | bl b => exact .bl b
  | int i => exact .int i
  | str x => exact .str x
  | lst _ _ => cases f
  | tup _ _ => cases f
  | scr _ => cases f
  | dct _ _ => cases f
theorem RpA.flat {F F' : Hp} : ∀ {ds : List D} {vs : List V}, RpA K F vs ds → ds.all flatD = true → RpA K F' vs ds
  | [], _, h, _ => by
    cases h
    exact .nil
  | d :: ds, _, h, f => by
    cases h with
    | cons a b =>
      rw [List.all_cons, Bool.and_eq_true] at f
      exact .cons (Rp.flat a f.1) (RpA.flat b f.2)
def FlatR : Rz → Prop
  | .sh d => flatD d = true
  | .own ds => ds.all flatD = true
  | .brw _ => False
def Thaw (ρ ρ' : Rho) : Prop := ∀ (i : Nat) ds, ρ[i]? = some (some (.own ds)) → ds.all flatD = true ∧ (ρ'[i]? = some (some (.own ds)) ∨ ρ'[i]? = some (some (.sh (.list ds))))
open Classical in
noncomputable def thawM (m : EM) : EM := fun ρ => (m ρ).bind fun a => if FlatR a.1 ∧ Thaw ρ a.2 then some (a.1, ρ) else none
theorem ev_thaw {te : TE} {m : EM} (h : EV K te m) : EV K te (thawM m) := fun σ ρ F H r ρ' E e Q q => by
  obtain ⟨⟨r1, ρ1⟩, e1, e⟩ := bind_some e
  simp only at e
  split at e
  · rename_i c
    obtain ⟨f, t⟩ := c
    cases e
    refine h σ ρ F H r ρ1 E e1 _ fun v F1 H1 P1 R1 => ?_
    refine q v F H1 ⟨⟨fun a o x => P1.env.le a o (P1.fle a o x), E.len, fun i s hs => ?_, E.inj⟩, Same.refl _, P1.keep, P1.ex, fun _ _ x _ => x, fun _ ds x => ⟨ds, x⟩⟩ ?_
    · obtain ⟨w, hw, hr⟩ := E.slot i s hs
      refine ⟨w, hw, ?_⟩
      cases s with
      | sh d => exact hr
      | own ds =>
        obtain ⟨p, xs, rfl, ep, fp, rx⟩ := hr
        obtain ⟨fl, t1 | t1⟩ := t i ds hs
        · obtain ⟨w2, hw2, hr2⟩ := P1.env.slot i _ t1
          rw [hw] at hw2
          cases hw2
          obtain ⟨p2, ys, e2, ep2, fp2, ry⟩ := hr2
          cases e2
          exact ⟨p, ys, rfl, ep2, fp, RpA.flat ry fl⟩
        · obtain ⟨w2, hw2, hr2⟩ := P1.env.slot i _ t1
          rw [hw] at hw2
          cases hw2
          cases (show Rp K F1 (.ref p) (.list ds) from hr2) with
          | lst ha hr => exact ⟨p, _, rfl, P1.env.le _ _ ha, fp, RpA.flat hr fl⟩
    · cases r with
      | sh d => exact Rp.flat (show Rp K F1 v d from R1) f
      | own ds =>
        obtain ⟨p, xs, ev, h0, h1, f0, rx⟩ := R1
        exact ⟨p, xs, ev, h0, h1, fresh_F E.le h0, RpA.flat rx f⟩
      | brw i => exact f.elim
  · cases e
theorem e_thaw {m : EM} {ρ : Rho} {QE : Rz → Rho → Prop} (h : GoE m ρ fun r ρ1 => FlatR r ∧ Thaw ρ ρ1 ∧ QE r ρ) : GoE (thawM m) ρ QE := by
  obtain ⟨r, ρ1, e, f, t, q⟩ := h
  refine ⟨_, _, ?_, q⟩
  unfold thawM
  rw [e, Option.bind_some, if_pos ⟨f, t⟩]
theorem flat_ints (ns : List Int) : (ns.map PyData.int).all flatD = true := by
  rw [List.all_map, List.all_eq_true]
  exact fun _ _ => rfl
theorem thaw_nil : Thaw [] [] := fun i ds h => by
  rw [List.getElem?_nil] at h
  cases h
theorem thaw_sh {ρ ρ' : Rho} {d : D} {s : Option Sl} (t : Thaw ρ ρ') : Thaw (some (.sh d) :: ρ) (s :: ρ') := fun i ds h => by
  cases i with
  | zero => cases h
  | succ i => exact t i ds h
theorem thaw_non {ρ ρ' : Rho} {s : Option Sl} (t : Thaw ρ ρ') : Thaw (none :: ρ) (s :: ρ') := fun i ds h => by
  cases i with
  | zero => cases h
  | succ i => exact t i ds h
theorem thaw_own {ρ ρ' : Rho} {ds : List D} (f : ds.all flatD = true) (t : Thaw ρ ρ') : Thaw (some (.own ds) :: ρ) (some (.own ds) :: ρ') := fun i es h => by
  cases i with
  | zero =>
    cases h
    exact ⟨f, .inl rfl⟩
  | succ i => exact t i es h
theorem thaw_frz {ρ ρ' : Rho} {ds : List D} (f : ds.all flatD = true) (t : Thaw ρ ρ') : Thaw (some (.own ds) :: ρ) (some (.sh (.list ds)) :: ρ') := fun i es h => by
  cases i with
  | zero =>
    cases h
    exact ⟨f, .inr rfl⟩
  | succ i => exact t i es h
end Pv

set_option Elab.async false
set_option linter.all false
set_option maxRecDepth 100000
set_option maxHeartbeats 4000000
namespace Pv
open PySem PySem.Spec PyProof.Rows L2 Ws
/-! ### list(zip(a, b)) -/
theorem zip_no_len : typeLookup (.type "zip") "__len__" = pure none := by rw [typeLookup_type, builtinLookup_eq_fast]; kernel_rfl
theorem zip_no_hint : typeLookup (.type "zip") "__length_hint__" = pure none := by rw [typeLookup_type, builtinLookup_eq_fast]; kernel_rfl
theorem fp_up {X : Cx} {pins : List (Addr × Obj)} {H H' : Hp} {b : Addr} (h : FpOk X pins H b) (n : H' b = none) : FpOk X pins H' b := ⟨n, h.2⟩
theorem fresh_none {F H : Hp} {p : Addr} (s : Same F H) (h : H p = none) : F p = none := fresh_F s h
/-- an object that was outside is tracked -/
theorem lays {X : Cx} {pins : List (Addr × Obj)} {σ : L2.St} {H : Hp} {s : Shared} {h' : Heap} {t' : Nat} {ch : List Addr} {T : Addr} {ob : HO} (I : Inv X pins σ H s) (k : ∀ b o, b ∉ ch → s.heap.get? b = some o → h'.get? b = some o)
    (hf : ∀ b ∈ ch, FpOk X pins H b) (hT : T ∈ ch) (new : ObjOk X.prog X.w (upd H T ob) h' T ob) : Inv X pins σ (upd H T ob) { s with heap := h', toks := t' } := by
  have hn : H T = none := (hf T hT).1
  have nit : ∀ b u, H b = some u → b ∉ ch := fun b u e z => by
    have q := (hf b z).1
    rw [q] at e; cases e
  refine I.step (g' := s.gens) (d' := s.drawn) (ch := ch) (fun b hb => ⟨(hf b hb).2.2.2.1, (hf b hb).2.1, (hf b hb).2.2.2.2.1, (hf b hb).2.2.2.2.2⟩) (fun b o _ _ hc e _ => k b o hc e) (fun b o _ _ hc e _ => ⟨o.slots, k b o hc e⟩)
    (fun b o hc e n => ?_) (fun b o hc e => ⟨o, k b o hc e⟩) (fun b xs e => ?_) (fun b o u e => ?_) (fun b ps e => ⟨#[], ?_⟩) (fun m hm => ?_) (fun b u e => ?_) I.bare
  · rw [upd_ne (fun z => hc (by rw [z]; exact hT))]; exact n
  · rw [upd_ne (ne_of_none e hn)]; exact e
  · rw [upd_ne (ne_of_none e hn)]; exact e
  · rw [upd_ne (ne_of_none e hn), e]; simp
  · obtain ⟨o, es, ep, ho, r⟩ := hm
    exact ⟨o, es, ep, k _ o (fun z => (hf _ z).2.1 rfl) ho, r⟩
  · by_cases hb : b = T
    · subst hb
      rw [upd_same] at e
      cases e
      exact new
    · rw [upd_ne hb] at e
      refine (I.hok b u e).stay (fun c v hc q => k c v ?_ q) (fun c q => by rw [upd_ne (ne_of_none q hn)]; exact q) fun c xs q => by rw [upd_ne (ne_of_none q hn)]; exact q
      rcases hc with z | z
      · rw [z]; exact nit b u e
      · exact nit c _ z
/-- the pairs made so far -/
def PrsAt (H0 H : Hp) (xs ys zs : List V) : Prop := ∀ (j : Nat) v, zs[j]? = some v → ∃ t x y, v = .ref t ∧ H0 t = none ∧ xs[j]? = some x ∧ ys[j]? = some y ∧ H t = some (.tup [x, y])
structure ZAt (X : Cx) (pins : List (Addr × Obj)) (σ : L2.St) (H0 : Hp) (l1 l2 S z TI TO i1 i2 : Addr) (xs ys : List V) (i : Nat) (s : Shared) (H : Hp) (zs : List V) : Prop where
  inv : Inv X pins σ H s
  same : Same H0 H
  len : zs.length = i
  prs : PrsAt H0 H xs ys zs
  acc : ∃ (its : List Value) (c : Nat), s.heap.get? S = some { cls := .type "list", data := .seq its.toArray c } ∧ Vals zs its
  fp : ∀ b ∈ [z, TI, TO, i1, i2, S], FpOk X pins H b
  ti : IsPair s.heap TI (.ref i1) (.ref i2)
  z1 : s.heap.IsListIter i1 l1 i
  z2 : s.heap.IsListIter i2 l2 i
  to : ∃ a b, IsPair s.heap TO a b
  zt : IsZip s.heap z TI TO .none ∨ ∃ T f oT, IsZipHeld s.heap z TI TO T f ∧ s.heap.get? T = some oT ∧ T ∉ [z, TI, TO, i1, i2, S]
/-- behind all turns -/
structure ZEnd (X : Cx) (pins : List (Addr × Obj)) (σ : L2.St) (H0 : Hp) (ch : List Addr) (S : Addr) (xs ys : List V) (n : Nat) (s : Shared) (H : Hp) (zs : List V) : Prop where
  inv : Inv X pins σ H s
  same : Same H0 H
  len : zs.length = n
  prs : PrsAt H0 H xs ys zs
  acc : ∃ (its : List Value) (c : Nat), s.heap.get? S = some { cls := .type "list", data := .seq its.toArray c } ∧ Vals zs its
  fp : ∀ b ∈ ch, FpOk X pins H b
theorem zip_drain {X : Cx} {pins : List (Addr × Obj)} {σ : L2.St} {H0 : Hp} {l1 l2 S z TI TO i1 i2 : Addr} {xs ys : List V} {A : Around} {R : Result → Shared → Prop} {res : Value} (hh : A.handled = none)
    (q1 : SqL X.K H0 l1 xs) (q2 : SqL X.K H0 l2 ys) (D : ZipApart z TI TO i1 i2 l1 l2) (hSn : S ∉ [z, TI, TO, i1, i2]) (hz : min xs.length ys.length < sizeLine)
    (hend : ∀ s' H' zs, ZEnd X pins σ H0 [z, TI, TO, i1, i2, S] S xs ys (min xs.length ys.length) s' H' zs → R (.ok (.ret res)) s') :
    ∀ (m i : Nat) (s : Shared) (H : Hp) (zs : List V), min xs.length ys.length - i = m → i ≤ min xs.length ys.length → ZAt X pins σ H0 l1 l2 S z TI TO i1 i2 xs ys i s H zs →
      codeAny (model X.prog X.w) A (.builtin "list.extend.loop" ⟨[.ref S, .ref z, res], []⟩) R s := by
  intro m
  have Sz : S ≠ z := fun e => hSn (by rw [e]; simp)
  have SI : S ≠ TI := fun e => hSn (by rw [e]; simp)
  have SO : S ≠ TO := fun e => hSn (by rw [e]; simp)
  have S1 : S ≠ i1 := fun e => hSn (by rw [e]; simp)
  have S2 : S ≠ i2 := fun e => hSn (by rw [e]; simp)
  induction m with
  | zero =>
    intro i s H zs hm hi Z
    obtain ⟨its, c, hS, hv⟩ := Z.acc
    obtain ⟨its1, rv1, p1, _⟩ := Z.inv.list (Same.seq Z.same q1)
    obtain ⟨its2, rv2, p2, _⟩ := Z.inv.list (Same.seq Z.same q2)
    have e1 := rv1.length
    have e2 := rv2.length
    have he : its1.toArray[i]? = none ∨ its2.toArray[i]? = none := by
      rcases (show xs.length ≤ i ∨ ys.length ≤ i by omega) with q | q
      · exact .inl (by simp; omega)
      · exact .inr (by simp; omega)
    have fin : ∀ h' : Heap, (∀ c o, c ≠ z → c ≠ TO → c ≠ i1 → c ≠ i2 → s.heap.get? c = some o → h'.get? c = some o) → R (.ok (.ret res)) { s with heap := h' } := fun h' hk =>
      hend _ H zs ⟨Z.inv.turnedL (t' := s.toks) (ch := [z, TI, TO, i1, i2, S]) (fun b o hb q => hk b o (fun q' => hb (by simp [q'])) (fun q' => hb (by simp [q'])) (fun q' => hb (by simp [q'])) (fun q' => hb (by simp [q'])) q) Z.fp,
        Z.same, by rw [Z.len]; omega, Z.prs, ⟨its, c, hk S _ Sz SO S1 S2 hS, hv⟩, Z.fp⟩
    refine codeAny_builtin F.entry_extend_loop ?_
    rw [Around.under_plainId F.plain_extend_loop _]
    show wpAny _ A.in1 (pyNext (.ref z) >>= _) _ _ s
    refine wpAny_bind ?_
    obtain ⟨a, b, hTO⟩ := Z.to
    rcases Z.zt with hz | ⟨T, f, oT, hz, hT, _⟩
    · exact wpAny_pyNext_zip_end hh D hz Z.ti hTO Z.z1 Z.z2 p1.isList p2.isList he fun h' hk => wpAny_pure (fin h' hk)
    · exact wpAny_pyNext_zip_end_held hh D hz hT Z.ti Z.z1 Z.z2 p1.isList p2.isList he fun h' hk => wpAny_pure (fin h' fun c o a _ b d => hk c o a b d)
  | succ m ih =>
    intro i s H zs hm hi Z
    have hi1 : i < xs.length := by omega
    have hi2 : i < ys.length := by omega
    obtain ⟨its, c, hS, hv⟩ := Z.acc
    obtain ⟨its1, rv1, p1, _⟩ := Z.inv.list (Same.seq Z.same q1)
    obtain ⟨its2, rv2, p2, _⟩ := Z.inv.list (Same.seq Z.same q2)
    obtain ⟨u, hu, ru⟩ := rv1.get (List.getElem?_eq_getElem hi1)
    obtain ⟨u2, hu2, ru2⟩ := rv2.get (List.getElem?_eq_getElem hi2)
    have il : its.length = i := by rw [← hv.length, Z.len]
    have hSl : S < s.heap.objs.size := Heap.lt_size hS
    obtain ⟨a0, b0, hTO⟩ := Z.to
    have zl : z < s.heap.objs.size := by
      rcases Z.zt with hz | ⟨_, _, _, hz, _⟩
      · exact Heap.lt_size hz
      · exact Heap.lt_size hz
    have lt : ∀ b ∈ [z, TI, TO, i1, i2, S], b < s.heap.objs.size := fun b hb => by
      have e' : b = z ∨ b = TI ∨ b = TO ∨ b = i1 ∨ b = i2 ∨ b = S := by simpa using hb
      rcases e' with q | q | q | q | q | q
      · rw [q]; exact zl
      · rw [q]; exact Heap.lt_size Z.ti
      · rw [q]; exact Heap.lt_size hTO
      · rw [q]; obtain ⟨_, e1, _⟩ := Z.z1; exact Heap.lt_size e1
      · rw [q]; obtain ⟨_, e1, _⟩ := Z.z2; exact Heap.lt_size e1
      · rw [q]; exact hSl
    have Tn : s.heap.objs.size ∉ [z, TI, TO, i1, i2, S] := fun h => Nat.lt_irrefl _ (lt _ h)
    have TS : s.heap.objs.size ≠ S := fun e => Tn (by rw [e]; simp)
    have step : ∀ (h' : Heap) (f' : Bool) (a' b' : Value) (T' : Addr) (oT' : Obj), T' ∉ [z, TI, TO, i1, i2, S] → h'.get? T' = some oT' → IsZipHeld h' z TI TO T' f' → IsPair h' TO a' b' → h'.IsListIter i1 l1 (i + 1) → h'.IsListIter i2 l2 (i + 1) → IsPair h' s.heap.objs.size u u2 →
        (∀ c o, c ≠ z → c ≠ TO → c ≠ i1 → c ≠ i2 → s.heap.get? c = some o → h'.get? c = some o) →
        codeAny (model X.prog X.w) A (.builtin "list.extend.loop" ⟨[.ref S, .ref z, res], []⟩) R { s with heap := h'.update S (Obj.mapSeq (·.push (.ref s.heap.objs.size))) } := by
      intro h' f' a' b' T' oT' Tm' hTT hz' hTO' h1' h2' hT' hk
      have hS' : h'.get? S = some { cls := .type "list", data := .seq its.toArray c } := hk S _ Sz SO S1 S2 hS
      have up : ∀ b o, b ≠ S → h'.get? b = some o → (h'.update S (Obj.mapSeq (·.push (.ref s.heap.objs.size)))).get? b = some o := fun b o n e => (Heap.get?_update_other _ _ (Ne.symm n)).trans e
      have hS2 := Heap.get?_update_self (Obj.mapSeq (·.push (Value.ref s.heap.objs.size))) hS' rfl
      have hS3 : ∃ c', (h'.update S (Obj.mapSeq (·.push (Value.ref s.heap.objs.size)))).get? S = some { cls := .type "list", data := .seq (its ++ [Value.ref s.heap.objs.size]).toArray c' } := by
        refine ⟨if (its.toArray.push (Value.ref s.heap.objs.size)).size == its.toArray.size then c else c + 1, hS2.trans ?_⟩
        rw [← List.push_toArray]
        rfl
      have new : ObjOk X.prog X.w (upd H s.heap.objs.size (.tup [xs[i], ys[i]])) (h'.update S (Obj.mapSeq (·.push (.ref s.heap.objs.size)))) s.heap.objs.size (.tup [xs[i], ys[i]]) :=
        ⟨by show 2 ≤ sizeLine; decide, [u, u2], .cons ru (.cons ru2 .nil), ⟨_, up _ _ TS hT', rfl, _, rfl⟩⟩
      have hn : H s.heap.objs.size = none := Z.inv.hok.fresh (Nat.le_refl _)
      have I1 : Inv X pins σ (upd H s.heap.objs.size (.tup [xs[i], ys[i]])) { s with heap := h'.update S (Obj.mapSeq (·.push (.ref s.heap.objs.size))) } :=
        Z.inv.turnedNew (t' := s.toks) (ch := [z, TI, TO, i1, i2, S]) (fun b o hb q => up b o (fun q' => hb (by simp [q'])) (hk b o (fun q' => hb (by simp [q'])) (fun q' => hb (by simp [q'])) (fun q' => hb (by simp [q'])) (fun q' => hb (by simp [q'])) q)) Z.fp (Nat.le_refl _) new
      refine ih (i + 1) _ (upd H s.heap.objs.size (.tup [xs[i], ys[i]])) (zs ++ [.ref s.heap.objs.size]) (by omega) (by omega) ⟨I1, Z.same.trans (Same.new hn), by rw [List.length_append, Z.len]; rfl, ?_, ⟨its ++ [.ref s.heap.objs.size], hS3.choose, hS3.choose_spec, hv.append (show Vals [V.ref s.heap.objs.size] [Value.ref s.heap.objs.size] from .cons rfl .nil)⟩, fun b hb => fp_up (Z.fp b hb) ?_, up _ _ (Ne.symm SI) (hk _ _ D.TIz D.TITO D.TIi1 D.TIi2 Z.ti), h1'.at fun o q => up _ _ (Ne.symm S1) q, h2'.at fun o q => up _ _ (Ne.symm S2) q,
        ⟨a', b', up _ _ (Ne.symm SO) hTO'⟩, .inr ⟨T', f', _, up _ _ (Ne.symm Sz) hz', up _ _ (fun e => Tm' (by rw [e]; simp)) hTT, Tm'⟩⟩
      · intro j v hj
        by_cases hji : j < i
        · rw [List.getElem?_append_left (by rw [Z.len]; exact hji)] at hj
          obtain ⟨t, x, y, e1, e2, e3, e4, e5⟩ := Z.prs j v hj
          exact ⟨t, x, y, e1, e2, e3, e4, by rw [upd_ne (ne_of_none e5 hn)]; exact e5⟩
        · have jl := (List.getElem?_eq_some_iff.mp hj).1
          rw [List.length_append, Z.len] at jl
          have ej : j = i := by simp at jl; omega
          subst ej
          rw [List.getElem?_append_right (by rw [Z.len]; exact Nat.le_refl _), Z.len, Nat.sub_self] at hj
          cases hj
          exact ⟨_, _, _, rfl, fresh_none Z.same hn, List.getElem?_eq_getElem hi1, List.getElem?_eq_getElem hi2, upd_same⟩
      · rw [upd_ne (fun e => Tn (by rw [← e]; exact hb))]
        exact (Z.fp b hb).1
    refine codeAny_builtin F.entry_extend_loop ?_
    rw [Around.under_plainId F.plain_extend_loop _]
    show wpAny _ A.in1 (pyNext (.ref z) >>= _) _ _ s
    refine wpAny_bind ?_
    have go : ∀ (h' : Heap) (f' : Bool) (a' b' : Value) (T' : Addr) (oT' : Obj), T' ∉ [z, TI, TO, i1, i2, S] → h'.get? T' = some oT' → IsZipHeld h' z TI TO T' f' → IsPair h' TO a' b' → h'.IsListIter i1 l1 (i + 1) → h'.IsListIter i2 l2 (i + 1) → IsPair h' s.heap.objs.size u u2 →
        (∀ c o, c ≠ z → c ≠ TO → c ≠ i1 → c ≠ i2 → s.heap.get? c = some o → h'.get? c = some o) →
        wpAny (model X.prog X.w) A.in1 (updateSeq S (·.push (.ref s.heap.objs.size)) >>= fun _ => again (.builtin "list.extend.loop" ⟨[.ref S, .ref z, res], []⟩))
          (fun fin s' => match fin with | .done f => R (.ok f) s' | .again c' => c'.quiet = true ∧ codeAny (model X.prog X.w) A c' R s') (fun e s' => R (.error e) s') { s with heap := h' } := by
      intro h' f' a' b' T' oT' Tm' hTT hz' hTO' h1' h2' hT' hk
      have hS' : h'.get? S = some { cls := .type "list", data := .seq its.toArray c } := hk S _ Sz SO S1 S2 hS
      refine wpAny_bind ?_
      exact wpAny_updateSeq hS' rfl (wpAny_pure ⟨plainId_quiet F.plain_extend_loop _, step h' f' a' b' T' oT' Tm' hTT hz' hTO' h1' h2' hT' hk⟩) (by simp; omega) (by show (its.toArray.push _).size ≤ sizeLine + 1; rw [Array.size_push]; simp; omega)
    rcases Z.zt with hz | ⟨T, f, oT, hz, hT, Tm⟩
    · refine wpAny_pyNext_zip_item D hz Z.ti hTO Z.z1 Z.z2 p1.isList p2.isList (x := u) (y := u2) (by simpa using hu) (by simpa using hu2) fun h' z' TO' h1' h2' hT' hsz hk => ?_
      exact go h' false _ _ _ _ Tn hT' z' TO' h1' h2' hT' hk
    · refine wpAny_pyNext_zip_item_held D hz hT Z.ti Z.z1 Z.z2 p1.isList p2.isList (x := u) (y := u2) (by simpa using hu) (by simpa using hu2) fun h' z' h1' h2' hT' hsz hk => ?_
      exact go h' true _ _ _ _ Tm (hk T oT (fun e => Tm (by rw [e]; simp)) (fun e => Tm (by rw [e]; simp)) (fun e => Tm (by rw [e]; simp)) hT) z' (hk TO _ D.TOz D.TOi1 D.TOi2 hTO) h1' h2' hT' fun c o a _ b d => hk c o a b d

def tLstZip (K : PySem.W.Frag) (ta : TA) : TE := fun σ H Q => ta σ H fun vs H1 => ∃ (a b : Addr) (xs ys : List V), vs = [.ref a, .ref b] ∧ SqL K H1 a xs ∧ SqL K H1 b ys ∧ min xs.length ys.length < sizeLine ∧
  ∀ (H2 : Hp) (l : Addr) (zs : List V), Same H1 H2 → H1 l = none → H2 l = some (.lst zs) → zs.length = min xs.length ys.length → PrsAt H1 H2 xs ys zs → Q (.ref l) H2
theorem pe_listZip {X : Cx} {K : PySem.W.Frag} {a b : Expr} {ta : TA} {p1 p2 q1 q2 : Pos} (hc : X.calm = true) (hgl : Gl X "list") (hml : X.mg "list" = none) (hg : Gl X "zip") (hm : X.mg "zip" = none)
    (ha : PA X [a, b] ta) (h : X.K = K := by rfl) (hs : starEach [a, b] X.env = (false, eval a X.env) :: starEach [b] X.env := by rfl)
    (hpl : (backTo q2 (starEach [b] X.env)).any (·.1) = false := by rfl)
    (na : starEach [Expr.Call (.Name "zip" q1) [a, b] [] q2] X.env = (false, eval (Expr.Call (.Name "zip" q1) [a, b] [] q2) X.env) :: starEach [] X.env := by rfl) :
    PE X (.Call (.Name "list" p1) [.Call (.Name "zip" q1) [a, b] [] q2] [] p2) (tLstZip K ta) := by
  subst h
  constructor
  intro pins s σ H Q I h
  refine Call_ (ld_blt I hgl hml boot_list (PyProof.Rows.callWith_type1 (args_cons ?_ na) na))
  refine Call_ (ld_blt I hg hm PyProof.Rows.boot_zip (PyProof.Rows.callWith_type1 (thn (ha.run q2 pins s σ H _ I h) ?_) hs hpl))
  intro us s1 hh
  obtain ⟨vs, H1, I1, r1, l1, l2, xs, ys, rfl, hqx, hqy, hmin, q⟩ := hh
  cases r1 with
  | cons r rr =>
  cases rr with
  | cons r' rr =>
  cases rr
  cases r
  cases r'
  obtain ⟨its, rv, p1, _⟩ := I1.list hqx
  obtain ⟨its2, rv2, p2, _⟩ := I1.list hqy
  have la : l1 < s1.heap.objs.size := p1.lt
  have lb : l2 < s1.heap.objs.size := p2.lt
  refine call_zip_2 p1.isList p2.isList fun h' hz hTI hTO h1 h2 hsz hk => args_nil ?_
  have I2 : Inv X pins σ H1 { s1 with heap := h' } := I1.kept (t' := s1.toks) hk
  have fr : ∀ b, s1.heap.objs.size ≤ b → FpOk X pins H1 b := fun b hb => I1.fpOk hb (I1.hok.fresh hb)
  generalize hn : s1.heap.objs.size = n at *
  have D : ZipApart (n + 4) (n + 2) (n + 3) n (n + 1) l1 l2 := PySem.W.ktu_apart n l1 l2 la lb
  refine callType_codes (s := { s1 with heap := h' }) (Q₁ := fun obj s₁ => obj = .ref h'.objs.size ∧ s₁ = { s1 with heap := h'.push { cls := .type "list", data := .seq #[] } }) F.called_list (F.typeCall_list_1 _) F.entry_list_init
    (code_list_new _ ⟨rfl, rfl⟩) fun obj s₁ h₁ => ?_
  obtain ⟨rfl, rfl⟩ := h₁
  have hS : (h'.push { cls := .type "list", data := .seq #[] }).get? h'.objs.size = some { cls := .type "list", data := .seq #[] } := Heap.get?_push_size _ rfl
  refine ⟨⟨_, hS, rfl⟩, F.args_list_init_2 _ _, ?_⟩
  rw [hsz] at hS ⊢
  show wpAny _ _ (do let old ← Builtin.List.listItems (.ref (n + 5)); Builtin.List.listUpdate (.ref (n + 5)) (fun _ => #[]); letGo old.toList.reverse; Builtin.List.listExtendWith (.ref (n + 5)) (.ref (n + 4)) .none) _ _ _
  refine wpAny_bind ?_
  unfold Builtin.List.listItems
  refine wpAny_bind (wpAny_seqItems hS rfl (wpAny_pure ?_))
  show wpAny _ _ (updateSeq (n + 5) (fun _ => #[]) >>= fun _ => letGo (#[] : Array Value).toList.reverse >>= fun _ => Builtin.List.listExtendWith (.ref (n + 5)) (.ref (n + 4)) .none) _ _ _
  refine wpAny_bind (wpAny_updateSeq hS rfl ?_)
  have hS2 := Heap.get?_update_self (Obj.mapSeq (fun _ => (#[] : Array Value))) hS rfl
  refine wpAny_bind (wpAny_letGo ?_)
  unfold Builtin.List.listExtendWith
  have up : ∀ (h : Heap) (f : Obj → Obj), (∀ b o, h'.get? b = some o → h.get? b = some o) → ∀ b o, h'.get? b = some o → (h.update (n + 5) f).get? b = some o := fun h f q b o e =>
    (Heap.get?_update_other _ _ (Nat.ne_of_gt (hsz ▸ Heap.lt_size e))).trans (q b o e)
  have k1 : ∀ b o, h'.get? b = some o → (h'.push { cls := .type "list", data := .seq #[] }).get? b = some o := fun b o e => Heap.get?_push_of_some _ e
  have k2 := up _ (Obj.mapSeq (fun _ => (#[] : Array Value))) k1
  have zk : ∀ {h : Heap}, (∀ b o, h'.get? b = some o → h.get? b = some o) → IsZip h (n + 4) (n + 2) (n + 3) .none := fun {h} q => q _ _ hz
  refine wpAny_bind (wpAny_typeOf (T := "zip") ⟨_, zk k2, rfl⟩ ?_)
  have e1 : Builtin.List.listSameRef (.ref (n + 5)) (.ref (n + 4)) = false := by simp [Builtin.List.listSameRef]
  have e2 : (Value.type "zip" == Value.type "list") = false := by decide
  have e3 : (Value.type "zip" == Value.type "tuple") = false := by decide
  simp only [e1, e2, e3, Bool.or_false, Bool.false_eq_true, if_false]
  refine wpAny_bind (wpAny_pyIter_zip (zk k2) ?_)
  refine wpAny_bind (wpAny_holding ?_)
  unfold Builtin.List.listLengthHint
  refine wpAny_bind (wpAny_specialOf (T := "zip") ⟨_, zk k2, rfl⟩ zip_no_len ?_)
  show wpAny _ _ (specialOf (Value.ref (n + 4)) (Str.ofString "__length_hint__") >>= _) _ _ _
  refine wpAny_bind (wpAny_specialOf (T := "zip") ⟨_, zk k2, rfl⟩ zip_no_hint ?_)
  refine wpAny_pure ?_
  show wpAny _ _ (rule "list.extend.makes-room" >>= fun _ => Builtin.List.listTouch (.ref (n + 5)) >>= fun _ =>
    again (.builtin "list.extend.loop" ⟨[.ref (n + 5), .ref (n + 4), .none], []⟩)) _ _ _
  refine wpAny_bind (wpAny_rule ?_)
  refine wpAny_bind ?_
  show wpAny _ _ (updateSeq (n + 5) (·.push .none) >>= fun _ => updateSeq (n + 5) (·.pop)) _ _ _
  refine wpAny_bind (wpAny_updateSeq hS2 rfl ?_)
  have hS3 := Heap.get?_update_self (Obj.mapSeq (·.push Value.none)) hS2 rfl
  refine wpAny_updateSeq (hz := by seq_fits) hS3 rfl ?_
  have hS4 := Heap.get?_update_self (Obj.mapSeq (·.pop)) hS3 rfl
  have k4 := up _ (Obj.mapSeq (·.pop)) (up _ (Obj.mapSeq (·.push Value.none)) k2)
  refine wpAny_pure ⟨plainId_quiet F.plain_extend_loop _, ?_⟩
  have mem : ∀ b ∈ [n + 4, n + 2, n + 3, n, n + 1, n + 5], n ≤ b := by
    intro b hb
    simp only [List.mem_cons, List.not_mem_nil, or_false] at hb
    rcases hb with rfl | rfl | rfl | rfl | rfl | rfl <;> first | exact Nat.le_refl _ | exact Nat.le_add_right _ _
  have hnm : (n + 5) ∉ [n + 4, n + 2, n + 3, n, n + 1] := by
    simp
  refine zip_drain (X := X) (pins := pins) (σ := σ) (H0 := H1) (l1 := l1) (l2 := l2) (S := n + 5) (z := n + 4) (TI := n + 2) (TO := n + 3) (i1 := n) (i2 := n + 1) (xs := xs) (ys := ys) (A := X.A.in1) (I1.ok.hd hc) hqx hqy D hnm hmin ?_ _ 0 _ H1 [] rfl (Nat.zero_le _) ?_
  · intro s' H' zs Z
    obtain ⟨acc, c, hacc, hva⟩ := Z.acc
    have zl : zs.length ≤ sizeLine := by rw [Z.len]; exact Nat.le_of_lt hmin
    have hn' : H' (n + 5) = none := (Z.fp (n + 5) (by simp)).1
    have new : ObjOk X.prog X.w (upd H' (n + 5) (.lst zs)) s'.heap (n + 5) (.lst zs) := ⟨zl, acc, c, hva, hacc⟩
    have I3 := lays (t' := s'.toks) (h' := s'.heap) Z.inv (fun b o _ q => q) Z.fp (T := n + 5) (ob := .lst zs) (by simp) new
    refine ⟨rfl, ?_⟩
    refine ⟨.ref (n + 5), upd H' (n + 5) (.lst zs), I3, rfl, ?_⟩
    have hH1 : H1 (n + 5) = none := fresh_none Z.same hn'
    refine q _ _ zs (Z.same.trans (Same.new hn')) hH1 upd_same Z.len fun j v hv => ?_
    obtain ⟨t, x, y, f1, f2, f3, f4, f5⟩ := Z.prs j v hv
    exact ⟨t, x, y, f1, f2, f3, f4, by rw [upd_ne (ne_of_none f5 hn')]; exact f5⟩
  · refine ⟨I2.kept (t' := s1.toks) k4, Same.refl _, rfl, fun j v e => by simp at e, ⟨[], _, hS4, .nil⟩, fun b hb => fr b (mem b hb), k4 _ _ hTI, h1.at fun o e => k4 _ o e, h2.at fun o e => k4 _ o e, ⟨_, _, k4 _ _ hTO⟩, .inl (zk k4)⟩
end Pv

set_option Elab.async false
set_option linter.all false
set_option maxRecDepth 100000
set_option maxHeartbeats 4000000
namespace Pv
open PySem PySem.Spec PyProof.Rows L2 Ws
variable {K : PySem.W.Frag}
/-! ### list(zip(a, b)) by values -/
def rLstZip (K : PySem.W.Frag) : List V → Hp → VK → Prop := fun vs H1 Q => ∃ (a b : Addr) (xs ys : List V), vs = [.ref a, .ref b] ∧ SqL K H1 a xs ∧ SqL K H1 b ys ∧ min xs.length ys.length < sizeLine ∧
  ∀ (H2 : Hp) (l : Addr) (zs : List V), Same H1 H2 → H1 l = none → H2 l = some (.lst zs) → zs.length = min xs.length ys.length → PrsAt H1 H2 xs ys zs → Q (.ref l) H2
def fZipL : List D → Option Rz
  | [.list a, .list b] => if min a.length b.length < sizeLine then some (.own (zipD a b)) else none
  | _ => none
/-- what is new of H2 is frozen, but for the list l -/
noncomputable def grow (F H H2 : Hp) (l : Addr) : Hp := fun a => match F a with
  | some o => some o
  | none => match H a with
    | some _ => none
    | none => if a = l then none else H2 a
theorem grow_old {F H H2 : Hp} {l a : Addr} (h : H a ≠ none) : grow F H H2 l a = F a := by
  unfold grow
  cases e : F a with
  | some o => rfl
  | none =>
    cases e2 : H a with
    | some o => rfl
    | none => exact absurd e2 h
theorem grow_new {F H H2 : Hp} {l a : Addr} (le : Same F H) (h : H a = none) (n : a ≠ l) : grow F H H2 l a = H2 a := by
  unfold grow
  rw [fresh_none le h, h]
  simp [n]
theorem grow_l {F H H2 : Hp} {l : Addr} (le : Same F H) (h : H l = none) : grow F H H2 l l = none := by
  unfold grow
  rw [fresh_none le h, h]
  simp
theorem grow_same {F H H2 : Hp} {l : Addr} : Same F (grow F H H2 l) := fun a o e => by
  unfold grow
  rw [e]
theorem grow_le {F H H2 : Hp} {l : Addr} (le : Same F H) (s : Same H H2) : Same (grow F H H2 l) H2 := fun a o e => by
  unfold grow at e
  cases e1 : F a with
  | some u =>
    rw [e1] at e
    cases e
    exact s _ _ (le _ _ e1)
  | none =>
    rw [e1] at e
    cases e2 : H a with
    | some u =>
      rw [e2] at e
      cases e
    | none =>
      rw [e2] at e
      simp only at e
      split at e
      · cases e
      · exact e
theorem zip_rp {F' H1 H2 : Hp} {l : Addr} (g : ∀ a, H1 a = none → a ≠ l → F' a = H2 a) (hl : ∀ o, H2 l = some o → ∀ xs, o ≠ .tup xs) : ∀ {xs ys zs : List V} {ds es : List D}, RpA K F' xs ds → RpA K F' ys es → zs.length = min xs.length ys.length → PrsAt H1 H2 xs ys zs → RpA K F' zs (zipD ds es)
  | [], _, [], _, _, .nil, _, _, _ => .nil
  | [], _, _ :: _, _, _, .nil, _, h, _ => by simp at h
  | _ :: _, [], [], _, _, .cons _ _, .nil, _, _ => .nil
  | _ :: _, [], _ :: _, _, _, .cons _ _, .nil, h, _ => by simp at h
  | x :: xs, y :: ys, [], _, _, _, _, h, _ => by simp at h
  | x :: xs, y :: ys, z :: zs, _, _, .cons r1 t1, .cons r2 t2, h, p => by
    obtain ⟨t, x', y', rfl, e2, e3, e4, e5⟩ := p 0 z rfl
    cases e3
    cases e4
    have nl : t ≠ l := fun e => hl _ (by rw [← e]; exact e5) _ rfl
    rw [zipD]
    refine .cons (.tup (by rw [g t e2 nl]; exact e5) (.cons r1 (.cons r2 .nil))) (zip_rp g hl t1 t2 (by simpa using h) fun j v hv => p (j + 1) v (by simpa using hv))
theorem o_zipL : OpV K (rLstZip K) fZipL := fun F H vs ds z le c e Q q => by
  unfold fZipL at e
  split at e
  · split at e
    · rename_i a b hlt
      cases e
      obtain ⟨x, y, rfl, h1, h2⟩ := cont2 c
      obtain ⟨p, xs, rfl, e1, r1⟩ := h1.list le
      obtain ⟨p2, ys, rfl, e2, r2⟩ := h2.list le
      refine ⟨p, p2, xs, ys, rfl, SqL.of e1, SqL.of e2, by rw [r1.length, r2.length]; exact hlt, fun H2 l zs s hl hz hn hp => ?_⟩
      have gl := grow_le (H2 := H2) (l := l) le s
      refine q _ (grow F H H2 l) H2 grow_same s gl (fun a h => grow_old h) ⟨l, zs, rfl, hl, hz, grow_l le hl, ?_⟩
      refine zip_rp (fun a h n => grow_new le h n) (fun o ho ts => ?_) (RpA.up grow_same _ _ r1) (RpA.up grow_same _ _ r2) hn hp
      rw [hz] at ho
      cases ho
      exact fun z => nomatch z
    · cases e
  · cases e
theorem fz_zipL {a b : List D} {QZ : Rz → Prop} (h : min a.length b.length < sizeLine) (q : QZ (.own (zipD a b))) : ∃ z, fZipL [.list a, .list b] = some z ∧ QZ z := ⟨_, if_pos h, q⟩
/-! ### sorted of pairs of ints -/
def ple (p q : Int × Int) : Bool := !plt q p
def srtP (ps : List (Int × Int)) : List (Int × Int) := ps.mergeSort ple
theorem srtP_perm (ps : List (Int × Int)) : (srtP ps).Perm ps := List.mergeSort_perm ..
theorem ple_tr (a b c : Int × Int) (h : ple a b = true) (k : ple b c = true) : ple a c = true := by
  unfold ple plt at *
  simp only [Bool.not_eq_true', decide_eq_false_iff_not] at *
  omega
theorem ple_tot (a b : Int × Int) : (ple a b || ple b a) = true := by
  unfold ple plt
  simp only [Bool.or_eq_true, Bool.not_eq_true', decide_eq_false_iff_not]
  omega
theorem ple_anti {a b : Int × Int} (h : ple a b = true) (k : ple b a = true) : a = b := by
  unfold ple plt at *
  simp only [Bool.not_eq_true', decide_eq_false_iff_not] at *
  exact Prod.ext (by omega) (by omega)
theorem srtP_asc (ps : List (Int × Int)) : (srtP ps).Pairwise fun a b => ple a b = true := List.pairwise_mergeSort (le := ple) ple_tr (fun a b => by simpa using ple_tot a b) ps
theorem srtP_uniq {ps qs : List (Int × Int)} (h : ps.Perm qs) (a : ps.Pairwise fun a b => ple a b = true) : ps = srtP qs :=
  List.Perm.eq_of_pairwise (fun a b _ _ h k => ple_anti h k) a (srtP_asc qs) (h.trans (srtP_perm qs).symm)
def rSortedB (K : PySem.W.Frag) (b : Bool) : List V → List V → Hp → VK → Prop := fun vs zs H Q => ∃ (a : Addr) (xs : List V) (k : V → Int × Int), vs = [V.ref a] ∧ zs = [.bl b] ∧ SqL K H a xs ∧ (∀ x ∈ xs, ∃ t, x = V.ref t ∧ H t = some (.tup [.int (k x).1, .int (k x).2])) ∧
  ∀ ys p, SrtO.Srtd (ltP k) ys → ys.Perm xs → H p = none → Q (.ref p) (upd H p (.lst (if b = true then ys.reverse else ys)))
theorem cr_sortedB {X : Cx} {b : Bool} : CallRK X (.builtin "sorted") [Str.ofString "reverse"] (rSortedB X.K b) := by
  intro pins s σ H vs zs us ws Q I r rz h
  obtain ⟨a, xs, k, rfl, rfl, hs, hx, q⟩ := h
  obtain rfl := Vals.ref1 r
  obtain ⟨w1, rfl, e1⟩ := vals1 rz
  obtain rfl : w1 = Value.bool b := e1
  obtain ⟨its, rv, hl, hz⟩ := I.list hs
  obtain ⟨e1, e2⟩ := refs_back rv fun x m => by
    obtain ⟨t, e, _⟩ := hx x m
    exact ⟨t, e⟩
  have hp : ∀ v ∈ its, Srt.IsPair s.heap v (k (backV v)).1 (k (backV v)).2 := fun v hv => by
    obtain ⟨t, rfl⟩ := e2 v hv
    have hm : V.ref t ∈ xs := by rw [e1]; exact List.mem_map.mpr ⟨_, hv, rfl⟩
    obtain ⟨t', e, ht⟩ := hx _ hm
    cases e
    obtain ⟨_, its2, r2, o, ho, hc, n, hd⟩ := I.hok _ _ ht
    obtain ⟨u1, u2, rfl, ri, rj⟩ := vals2 r2
    obtain ⟨t1, rfl⟩ := ri
    obtain ⟨t2, rfl⟩ := rj
    exact ⟨t, o, t1, t2, n, rfl, ho, hc, hd⟩
  refine SrtR.sorted_ordK (b := b) (fun _ => rfl) (PyProof.Rows.args_sorted_rev _ _) (fun _ => PyProof.Rows.args_list_sort_rev _ _) (SrtO.swo_lex fun u => k (backV u)) hl.isList (by rw [← rv.length]; exact hz) (fun h2 h₁ a' ha kk => ?_) fun out h1 h2 => ?_
  · refine SrtO.pairs_sortableO (by omega) (fun v hm => (hp v hm).keeps fun b o e _ => (kk b o e).2) fun o e => ?_
    have e' := e.symm.trans ha
    cases e'
    exact fun z => by
      injection z with z3
      exact absurd z3 (by decide)
  · have h2p : out.Perm its := by
      have := h2.perm
      split at this
      · exact this.trans (List.reverse_perm _)
      · exact this
    have h3 : ∀ u ∈ out, ∃ a, u = Value.ref a := fun u hu => e2 u (h2p.mem_iff.mp hu)
    have hb : (out.map backV).Perm xs := by
      rw [e1]
      exact h2p.map backV
    obtain ⟨ep, he'⟩ := PyProof.Rows.sortedAll_at s.heap its (if b = true then out.toArray.reverse else out.toArray)
    have hlen : (if b = true then (out.map backV).reverse else out.map backV).length ≤ sizeLine := by
      have : (out.map backV).length ≤ sizeLine := by rw [hb.length_eq]; exact hz
      split
      · rw [List.length_reverse]; exact this
      · exact this
    have hv : Vals (if b = true then (out.map backV).reverse else out.map backV) (if b = true then out.reverse else out) := by
      split
      · rw [← List.map_reverse]
        exact vals_back fun u hu => h3 u (List.mem_reverse.mp hu)
      · exact vals_back h3
    have ea : (if b = true then out.toArray.reverse else out.toArray) = (if b = true then out.reverse else out).toArray := by
      split
      · rw [List.reverse_toArray]
      · rfl
    rw [ea] at he' ⊢
    exact ⟨.ref _, upd H (s.heap.objs.size + 1) (.lst (if b = true then (out.map backV).reverse else out.map backV)), I.laid (t' := s.toks) (fun _ _ => PyProof.Rows.sortedAll_old) (Nat.le_succ _) ⟨hlen, _, ep, hv, he'⟩, rfl, q _ _ (SrtO.srtd_map h1) hb (I.hok.fresh (Nat.le_succ _))⟩

open Classical in
noncomputable def keyOf (H : Hp) : V → Int × Int
  | .ref t => if h : ∃ i j, H t = some (.tup [.int i, .int j]) then (h.choose, h.choose_spec.choose) else (0, 0)
  | _ => (0, 0)
theorem keyOf_eq {H : Hp} {t : Addr} {i j : Int} (h : H t = some (.tup [.int i, .int j])) : keyOf H (.ref t) = (i, j) := by
  have e : ∃ i j, H t = some (.tup [.int i, .int j]) := ⟨i, j, h⟩
  unfold keyOf
  simp only [dif_pos e]
  have e2 := h.symm.trans e.choose_spec.choose_spec
  simp only [Option.some.injEq, HO.tup.injEq, List.cons.injEq, V.int.injEq, and_true] at e2
  exact Prod.ext e2.1.symm e2.2.symm
theorem rp_pair {F : Hp} {v : V} {p : Int × Int} (h : Rp K F v (prD p)) : ∃ t, v = .ref t ∧ F t = some (.tup [.int p.1, .int p.2]) := by
  cases h with
  | tup e r =>
    cases r with
    | cons r1 r =>
      cases r with
      | cons r2 r =>
        cases r
        cases r1
        cases r2
        exact ⟨_, rfl, e⟩
theorem rp_pairs {F H : Hp} (le : Same F H) : ∀ {xs : List V} {ps : List (Int × Int)}, RpA K F xs (ps.map prD) → xs.map (keyOf H) = ps ∧ ∀ x ∈ xs, Rp K F x (prD (keyOf H x))
  | [], [], .nil => ⟨rfl, fun x h => by cases h⟩
  | x :: xs, p :: ps, .cons r t => by
    obtain ⟨a, rfl, e⟩ := rp_pair r
    obtain ⟨h1, h2⟩ := rp_pairs le t
    have e2 := keyOf_eq (le _ _ e)
    refine ⟨by rw [List.map_cons, h1, e2], fun y hy => ?_⟩
    rcases List.mem_cons.mp hy with rfl | hy
    · rw [e2]; exact r
    · exact h2 y hy
theorem rp_of_map {F : Hp} {g : V → Int × Int} : ∀ {ys : List V}, (∀ y ∈ ys, Rp K F y (prD (g y))) → RpA K F ys ((ys.map g).map prD)
  | [], _ => .nil
  | y :: ys, h => .cons (h y List.mem_cons_self) (rp_of_map fun z hz => h z (List.mem_cons_of_mem _ hz))
theorem lex_ple (a b : Int × Int) : SrtO.lexB b a = false ↔ ple a b = true := by
  rw [SrtO.lexB_no]
  unfold ple plt
  simp only [Bool.not_eq_true', decide_eq_false_iff_not]
theorem srtd_srtP {k : V → Int × Int} {ys xs : List V} (h : SrtO.Srtd (ltP k) ys) (p : ys.Perm xs) : ys.map k = srtP (xs.map k) :=
  srtP_uniq (p.map k) (List.pairwise_map.mpr (h.imp fun {a b} e => (lex_ple _ _).mp e))
def fSortP : List D → Option Rz
  | [.list ds] => (toPrs ds).map fun ps => .own ((srtP ps).map prD)
  | _ => none
def fSortR : List D → Option Rz
  | [.list ds] => (toPrs ds).map fun ps => .own ((srtP ps).reverse.map prD)
  | _ => none
theorem o_sortP : OpV K (rSortedPO K) fSortP := fun F H vs ds z le c e Q q => by
  unfold fSortP at e
  split at e
  · rename_i ds
    obtain ⟨ps, ep, rfl⟩ := map_some e
    rw [toPrs_eq ep] at c
    obtain ⟨x, rfl, h1⟩ := cont1 c
    obtain ⟨p, xs, rfl, e1, r1⟩ := h1.list le
    obtain ⟨k1, k2⟩ := rp_pairs le r1
    refine ⟨p, xs, keyOf H, rfl, SqL.of e1, fun x hx => ?_, fun ys l hs hb hl => ?_⟩
    · obtain ⟨t, e, e2⟩ := rp_pair (k2 x hx)
      exact ⟨t, e, le _ _ e2⟩
    · have e3 := srtd_srtP hs hb.perm
      rw [k1] at e3
      have r2 : RpA K F ys ((srtP ps).map prD) := by
        rw [← e3]
        exact rp_of_map fun y hy => k2 y (hb.perm.mem_iff.mp hy)
      exact op_new le hl r2 q
  · cases e
theorem o_sortR : OpV K (fun vs H Q => rSortedB K true vs [.bl true] H Q) fSortR := fun F H vs ds z le c e Q q => by
  unfold fSortR at e
  split at e
  · rename_i ds
    obtain ⟨ps, ep, rfl⟩ := map_some e
    rw [toPrs_eq ep] at c
    obtain ⟨x, rfl, h1⟩ := cont1 c
    obtain ⟨p, xs, rfl, e1, r1⟩ := h1.list le
    obtain ⟨k1, k2⟩ := rp_pairs le r1
    refine ⟨p, xs, keyOf H, rfl, rfl, SqL.of e1, fun x hx => ?_, fun ys l hs hb hl => ?_⟩
    · obtain ⟨t, e, e2⟩ := rp_pair (k2 x hx)
      exact ⟨t, e, le _ _ e2⟩
    · have e3 := srtd_srtP hs hb
      rw [k1] at e3
      have r2 : RpA K F (ys.reverse) ((srtP ps).reverse.map prD) := by
        rw [← e3, ← List.map_reverse]
        exact rp_of_map fun y hy => k2 y (hb.mem_iff.mp (List.mem_reverse.mp hy))
      rw [if_pos rfl]
      exact op_new le hl r2 q
  · cases e
theorem ev_sortR {ta : TA} {m : AM} (h : AV K ta m) : EV K (tCKw (rSortedB K true) ta (tCons (tC (.bl true)) tNil)) (opM fSortR m) := ev_cb o_sortR h
theorem fz_sortP {ps : List (Int × Int)} {QZ : Rz → Prop} (q : QZ (.own ((srtP ps).map prD))) : ∃ z, fSortP [.list (ps.map prD)] = some z ∧ QZ z := ⟨_, by
  show (toPrs (ps.map prD)).map _ = _
  rw [toPrs_map]
  rfl, q⟩
theorem fz_sortR {ps : List (Int × Int)} {QZ : Rz → Prop} (q : QZ (.own ((srtP ps).reverse.map prD))) : ∃ z, fSortR [.list (ps.map prD)] = some z ∧ QZ z := ⟨_, by
  show (toPrs (ps.map prD)).map _ = _
  rw [toPrs_map]
  rfl, q⟩
end Pv

set_option Elab.async false
set_option linter.all false
set_option maxRecDepth 100000
set_option maxHeartbeats 4000000
namespace Pv
open PySem PySem.Spec PyProof.Rows L2 Ws
variable {K : PySem.W.Frag}
/-! ### x in list, x not in list -/
theorem inL {X : Cx} (hu : X.A.units + 65 < cLine) (h : X.K = K := by rfl) : OpR X (compareOp .In) (rInD K) := by
  subst h
  exact op_inD hu
theorem notInL {X : Cx} (hu : X.A.units + 65 < cLine) (h : X.K = K := by rfl) : OpR X (compareOp .NotIn) (rNotInD K) := by
  subst h
  exact op_notInD hu
theorem units65 {k : Nat} {A : Around} (hr : Room k A) : A.units + 65 < cLine := by
  have := hr.un
  omega
def fIn : List D → Option Rz
  | [d, .list ds] => if SeqAt.shaped d = true ∧ SeqAt.shaped (.list ds) = true then some (.sh (.bool (ds.any fun z => PyData.eqv z d))) else none
  | _ => none
def fNotIn : List D → Option Rz
  | [d, .list ds] => if SeqAt.shaped d = true ∧ SeqAt.shaped (.list ds) = true then some (.sh (.bool (!ds.any fun z => PyData.eqv z d))) else none
  | _ => none
theorem o_in : OpV K (l2 (rInD K)) fIn := fun F H vs ds z le c e Q q => by
  unfold fIn at e
  split at e
  · split at e
    · rename_i d es hs
      cases e
      obtain ⟨x, y, rfl, h1, h2⟩ := cont2 c
      exact ⟨d, es, h1.dp (nd_of hs.1) le, h2.dp (nd_of hs.2) le, hs.1, hs.2, op_sh le (.bl _) q⟩
    · cases e
  · cases e
theorem o_notIn : OpV K (l2 (rNotInD K)) fNotIn := fun F H vs ds z le c e Q q => by
  unfold fNotIn at e
  split at e
  · split at e
    · rename_i d es hs
      cases e
      obtain ⟨x, y, rfl, h1, h2⟩ := cont2 c
      exact ⟨d, es, h1.dp (nd_of hs.1) le, h2.dp (nd_of hs.2) le, hs.1, hs.2, op_sh le (.bl _) q⟩
    · cases e
  · cases e
theorem fz_in {d : D} {ds : List D} {QZ : Rz → Prop} (h1 : SeqAt.shaped d = true) (h2 : SeqAt.shaped (.list ds) = true) (q : QZ (.sh (.bool (ds.any fun z => PyData.eqv z d)))) : ∃ z, fIn [d, .list ds] = some z ∧ QZ z := ⟨_, if_pos ⟨h1, h2⟩, q⟩
theorem fz_notIn {d : D} {ds : List D} {QZ : Rz → Prop} (h1 : SeqAt.shaped d = true) (h2 : SeqAt.shaped (.list ds) = true) (q : QZ (.sh (.bool (!ds.any fun z => PyData.eqv z d)))) : ∃ z, fNotIn [d, .list ds] = some z ∧ QZ z := ⟨_, if_pos ⟨h1, h2⟩, q⟩
/-! ### comb, gcd -/
def fpr (n : Int) (k : Nat) : Int := Builtin.Math.fallingProduct n k
def cmb (a b : Int) : Int := if b > a then 0 else fpr a (min b (a - b)).toNat / fpr (min b (a - b)) (min b (a - b)).toNat
def CombOk (a b : Int) : Prop := 0 ≤ a ∧ 0 ≤ b ∧ b ≤ 9000 ∧ a.natAbs < 2 ^ 128
instance {a b : Int} : Decidable (CombOk a b) := by unfold CombOk; infer_instance
theorem fpr_abs {n : Int} (hn : n.natAbs < 2 ^ 128) : ∀ k : Nat, (k : Int) ≤ n → (fpr n k).natAbs ≤ (2 ^ 128) ^ k
  | 0, _ => Nat.le_refl 1
  | k + 1, h => by
    unfold fpr
    rw [PySem.W.mc_fp_succ, Int.natAbs_mul, Nat.pow_succ]
    have := fpr_abs hn k (by omega)
    unfold fpr at this
    exact Nat.mul_le_mul this (by omega)
theorem comb_size {a b : Int} (h : CombOk a b) (hb : ¬b > a) : (fpr a (min b (a - b)).toNat / fpr (min b (a - b)) (min b (a - b)).toNat).natAbs.log2 < bitsLine := by
  obtain ⟨h1, h2, h3, h4⟩ := h
  generalize hm : min b (a - b) = m
  have m0 : 0 ≤ m := by omega
  have m1 : m ≤ 9000 := by omega
  have h5 := fpr_abs h4 m.toNat (by omega)
  have h6 : (fpr a m.toNat / fpr m m.toNat).natAbs ≤ (fpr a m.toNat).natAbs := Int.natAbs_ediv_le_natAbs _ _
  refine PySem.W.mc_size (k := 18000) (Nat.le_trans h6 (Nat.le_trans h5 ?_)) (by decide)
  rw [← Nat.pow_mul]
  exact Nat.pow_le_pow_right (by decide) (by have : 128 * m.toNat ≤ 128 * 9000 := Nat.mul_le_mul_left _ (by omega); omega)
def rComb : List V → Hp → VK → Prop := fun vs H Q => ∃ a b : Int, vs = [.int a, .int b] ∧ CombOk a b ∧ Q (.int (cmb a b)) H
theorem cr_comb {X : Cx} : CallR X (.builtin "math.comb") rComb := by
  intro pins s σ H vs us Q I r h
  obtain ⟨a, b, rfl, hc, q⟩ := h
  obtain ⟨t, u, rfl⟩ := Vals.int2 r
  have g : PySem.Gives (Builtin.«math.comb» ⟨[.int a t, .int b u], []⟩) (.int (cmb a b)) := by
    obtain ⟨h1, h2, h3, h4⟩ := id hc
    unfold cmb
    by_cases h : b > a
    · rw [if_pos h]
      exact PySem.W.mc_run_comb0 a t b u (by omega) (by omega) h
    · rw [if_neg h]
      exact PySem.W.mc_run_comb a t b u (by omega) (by omega) h (by show ¬min b (a - b) > 2 ^ 63 - 1; omega) (by show ¬min b (a - b) > 20000; omega) (by omega) (comb_size hc h)
  exact PySem.call_function_meets PySem.W.MGF.kind_comb PySem.W.MGF.plain_comb PySem.W.MGF.entry_comb (PySem.W.MGF.args_comb _ _) g.meets ⟨.int _, H, I.tok _, ⟨_, rfl⟩, q⟩
def fComb : List D → Option Rz := fI CombOk fun a b => .int (cmb a b)
theorem o_comb : OpV K rComb fComb := fun F H vs ds z le c e Q q => by
  unfold fComb fI at e
  split at e
  · split at e
    · rename_i i j hc
      cases e
      obtain ⟨x, y, rfl, h1, h2⟩ := cont2 c
      rw [h1.int, h2.int]
      exact ⟨i, j, rfl, hc, op_sh le (.int _) q⟩
    · cases e
  · cases e
theorem fz_comb {a b : Int} {QZ : Rz → Prop} (h : CombOk a b) (q : QZ (.sh (.int (cmb a b)))) : ∃ z, fComb [.int a, .int b] = some z ∧ QZ z := ⟨_, f_I h, q⟩
def fGcd : List D → Option Rz := fI0 fun a b => .int ((Nat.gcd a.natAbs b.natAbs : Nat) : Int)
theorem o_gcd : OpV K rGcd fGcd := fun F H vs ds z le c e Q q => by
  unfold fGcd fI0 at e
  split at e
  · rename_i i j
    cases e
    obtain ⟨x, y, rfl, h1, h2⟩ := cont2 c
    rw [h1.int, h2.int]
    exact ⟨i, j, rfl, op_sh le (.int _) q⟩
  · cases e
theorem fz_gcd {a b : Int} {QZ : Rz → Prop} (q : QZ (.sh (.int ((Nat.gcd a.natAbs b.natAbs : Nat) : Int)))) : ∃ z, fGcd [.int a, .int b] = some z ∧ QZ z := ⟨_, rfl, q⟩
/-! ### xs[i] op= e -/
theorem getA {X : Cx} (h : X.K = K := by rfl) : PGet X (rIxL K) := by
  subst h
  intro pins s σ H x y v u Q I rx ry h
  obtain ⟨p, xs, i, z, rfl, rfl, hq, he, q⟩ := h
  cases rx
  obtain ⟨t, rfl⟩ := ry
  obtain ⟨its, r, pl, hz⟩ := I.list hq
  obtain ⟨j, h1, h2, h3, h4, h5⟩ := atI_get he
  obtain ⟨w, ew, rw'⟩ := r.get h2
  have hl := r.length
  have hn := line63
  have fin : EP X pins σ Q w s := ⟨z, H, I, rw', q⟩
  by_cases h0 : 0 ≤ i
  · have hj : i.toNat = j := by
      rw [seqIndex_of h0 h5] at h1
      exact Option.some.inj h1
    exact wpAny_getItem_list pl.isList h0 (by omega) (by rw [hj]; simpa using ew) fin
  · have hj : (i + (its.toArray.size : Int)).toNat = j := by
      rw [seqIndex_neg (by omega) h4] at h1
      rw [List.size_toArray, ← hl]
      exact Option.some.inj h1
    exact wpAny_getItem_list_neg pl.isList (by omega) (by rw [List.size_toArray] <;> omega) (by omega) (by rw [hj]; simpa using ew) fin
/-! ### len(set(xs)), xs a list of ints -/
def ddp (ns : List Int) : List Int := PyProof.Rows.firstMet (fun i => ns.getD i 0) ns.length
def tLenSetG (K : PySem.W.Frag) (ta : TE) : TE := fun σ H Q => ta σ H fun x H1 => ∃ (l : Addr) (ns : List Int), x = .ref l ∧ SqL K H1 l (ns.map V.int) ∧ ns.length ≤ 4000 ∧ Q (.int ((ddp ns).length : Nat)) H1
open RZ in
theorem pe_lenSetG {X : Cx} {K : PySem.W.Frag} {a : Expr} {ta : TE} {p p2 q pos : Pos} (hg : Gl X "len") (hm : X.mg "len" = none) (hg2 : Gl X "set") (hm2 : X.mg "set" = none) (ha : PE X a ta) (h : X.K = K := by rfl) (hc : X.calm = true := by rfl)
    (na : starEach [a] X.env = (false, eval a X.env) :: starEach [] X.env := by rfl) : PE X (.Call (.Name "len" p) [.Call (.Name "set" p2) [a] [] q] [] pos) (tLenSetG K ta) := by
  subst h
  refine ⟨fun pins s σ H Q I h => ?_⟩
  refine Call_ (ld_blt I hg hm boot_len ?_)
  refine PyProof.Rows.callWith_builtin1 (PyProof.Rows.args_cons ?_ rfl) rfl rfl
  refine Call_ (ld_blt I hg2 hm2 boot_set ?_)
  refine PyProof.Rows.callWith_type1 (PyProof.Rows.args_cons (thn (ha.run pins s σ H _ I h) fun v s1 ⟨x, H1, I1, r1, q1⟩ => PyProof.Rows.args_nil ?_) na) na rfl
  obtain ⟨l, ns, rfl, hq, hl, q1⟩ := q1
  cases r1
  obtain ⟨its, r, pl, hz⟩ := I1.list hq
  have hlen : its.toArray.size = ns.length := by rw [List.size_toArray, ← r.length, List.length_map]
  refine call_set_list (I1.ok.hd hc) pl.isList (by simpa using intsAre_vals r) (by rw [hlen]; unfold scanBound; omega) fun h' tk hS hk => ?_
  refine PyProof.Rows.args_nil ?_
  rw [hlen] at hS
  have hle : (ddp ns).length ≤ 4000 := Nat.le_trans (PyProof.Rows.firstMet_length_le _ _) hl
  obtain ⟨o, es, ep, t, ho, hex, hd, _, _, _, hf, hn⟩ := hS
  have I2 : Inv X pins σ H1 { s1 with heap := h', toks := tk } := I1.kept fun b o e => hk b o (Heap.lt_size e) e
  have hn' : es.size = (ddp ns).length ∨ True := .inr trivial
  exact call_len_set ho hex hd hf (by rw [hn]; unfold ddp at hle; omega) ⟨.int (ddp ns).length, H1, I2.tok _, ⟨_, by rw [hn]; rfl⟩, q1⟩
def fLenSet : List D → Option Rz
  | [.list ds] => (toInts ds).bind fun ns => if ns.length ≤ 4000 then some (.sh (.int ((ddp ns).length : Nat))) else none
  | _ => none
theorem ev_lenSet {te : TE} {m : EM} (h : EV K te m) : EV K (tLenSetG K te) (opM fLenSet (arg1 m)) := by
  have o : OpV K (l1 fun x H1 Q => ∃ (l : Addr) (ns : List Int), x = .ref l ∧ SqL K H1 l (ns.map V.int) ∧ ns.length ≤ 4000 ∧ Q (.int ((ddp ns).length : Nat)) H1) fLenSet := fun F H vs ds z le c e Q q => by
    unfold fLenSet at e
    split at e
    · obtain ⟨ns, e1, e⟩ := bind_some e
      split at e
      · rename_i hl
        cases e
        rw [toInts_eq e1] at c
        obtain ⟨x, rfl, h1⟩ := cont1 c
        obtain ⟨p, rfl, e2⟩ := h1.ints le
        exact ⟨p, ns, rfl, SqL.of e2, hl, op_sh le (.int _) q⟩
      · cases e
    · cases e
  exact ev_un o h
theorem fz_lenSet {ns : List Int} {QZ : Rz → Prop} (h : ns.length ≤ 4000) (q : QZ (.sh (.int ((ddp ns).length : Nat)))) : ∃ z, fLenSet [.list (ns.map PyData.int)] = some z ∧ QZ z := ⟨_, by
  show (toInts (ns.map PyData.int)).bind _ = _
  rw [toInts_map]
  exact if_pos h, q⟩
theorem ddp_nodup {ns : List Int} (h : ns.Nodup) : ddp ns = ns := by
  unfold ddp
  rw [RZ.firstMet_nodup h ns.length (Nat.le_refl _), List.take_length]
/-! ### isinstance of further kinds -/
def insList : D → Bool
  | .list _ => true
  | _ => false
def insStr : D → Bool
  | .str _ => true
  | _ => false
def insTuple : D → Bool
  | .tuple _ => true
  | _ => false
theorem ins_list : InsOk K "list" insList := ins_of (kit_ty (by decide +kernel)) (fun _ => kit_ty (by show _ = some false; decide +kernel)) (fun _ => kit_ty (by show _ = some false; decide +kernel)) (fun _ => kit_ty (by show _ = some false; decide +kernel)) (fun _ => kit_ty (by show _ = some true; decide +kernel)) (fun _ => kit_ty (by show _ = some false; decide +kernel))
theorem ins_str : InsOk K "str" insStr := ins_of (kit_ty (by decide +kernel)) (fun _ => kit_ty (by show _ = some false; decide +kernel)) (fun _ => kit_ty (by show _ = some false; decide +kernel)) (fun _ => kit_ty (by show _ = some true; decide +kernel)) (fun _ => kit_ty (by show _ = some false; decide +kernel)) (fun _ => kit_ty (by show _ = some false; decide +kernel))
theorem ins_tuple : InsOk K "tuple" insTuple := ins_of (kit_ty (by decide +kernel)) (fun _ => kit_ty (by show _ = some false; decide +kernel)) (fun _ => kit_ty (by show _ = some false; decide +kernel)) (fun _ => kit_ty (by show _ = some false; decide +kernel)) (fun _ => kit_ty (by show _ = some false; decide +kernel)) (fun _ => kit_ty (by show _ = some true; decide +kernel))
/-! ### calls whose answer is known -/
theorem cal {p : List D → Option Rz} {ds : List D} {r : Rz} {Q : Rz → Prop} (h : GoP p ds fun z => z = r) (q : Q r) : GoP p ds Q := h.mono fun z hz => by
  rw [hz]
  exact q
theorem tlt_sh {ds : List D} {ρ : Rho} {QL : List D → Rho → Prop} (q : QL ds ρ) : ∃ es ρ2, takeR (.sh (.tuple ds)) ρ = some (.tuple es, ρ2) ∧ QL es ρ2 := ⟨_, _, rfl, q⟩
theorem fz_ixA {i x : Int} {ns : List Int} {QZ : Rz → Prop} (h : ns[i.toNat]? = some x) (h0 : 0 ≤ i) (q : QZ (.sh (.int x))) : ∃ z, fIx [.list (ns.map PyData.int), .int i] = some z ∧ QZ z := fz_ixI h0 h q
end Pv

set_option Elab.async false
set_option linter.all false
set_option maxRecDepth 100000
set_option maxHeartbeats 4000000
namespace Pv
open PySem PySem.Spec PyProof.Rows L2 Ws
variable {K : PySem.W.Frag}
/-! ### a, b = a list -/
theorem pgL {X : Cx} {es : List Expr} {k : Nat} {t : TGs} {n : Nat} {pos : Pos} (hc : X.calm = true) (ht : PGs X es t) (h : X.K = K := by rfl)
    (hn : (assignEach es X.env).length = n := by rfl) (hst : (assignEach es X.env).findIdx? (·.1) = none := by rfl) : PG X (.Tuple es k pos) (gLst K n t) := by
  subst h
  exact pg_lst hc ht hn hst
def gL (m : List D → Rho → Option Rho) : D → Rho → Option Rho := fun d ρ => match d with
  | .list ds => m ds ρ
  | _ => none
theorem gv_lst {pr is : List Nat} {n : Nat} {t : TGs} {m : List D → Rho → Option Rho} (h : GVs K pr is t m) (hn : ∀ ds ρ ρ', m ds ρ = some ρ' → ds.length = n) : GV K pr is (gLst K n t) (gL m) := fun A σ ρ F H v d ρ' N r e Q q => by
  unfold gL at e
  split at e
  · rename_i ds
    cases r with
    | lst ha hr =>
      exact ⟨_, _, rfl, SqL.of (N.env.le _ _ ha), by rw [hr.length]; exact hn _ _ _ e, h A σ ρ F H _ _ ρ' N hr e Q q⟩
  · cases e
end Pv

set_option Elab.async false
set_option linter.all false
set_option maxRecDepth 100000
set_option maxHeartbeats 4000000
namespace Pv
open PySem PySem.Spec PyProof.Rows L2 Ws
variable {K : PySem.W.Frag}
/-! ### {"a": "b", ..}[x]: a written table of texts -/
def tabT (tab : List (Str × Str)) : List (TE × TE) := tab.map fun q => (tC (.str q.1), tC (.str q.2))
def tabV (tab : List (Str × Str)) : List (Key × V) := tab.map fun q => (.inr q.1, .str q.2)
def fTab (tab : List (Str × Str)) : List D → Option Rz := fun ds => match ds with
  | [.str s] => (tab.find? fun q => decide (q.1 = s)).map fun q => .sh (.str q.2)
  | _ => none
theorem tab_pairs {σ : L2.St} {H : Hp} : ∀ {tab : List (Str × Str)} {Q : List (V × V) → Hp → Prop}, Q ((tabV tab).map fun kv => (kV kv.1, kv.2)) H → tPairs (tabT tab) σ H Q
  | [], _, q => q
  | _ :: r, _, q => tab_pairs (tab := r) q
theorem tab_merge : ∀ {tab acc : List (Str × Str)}, ((acc ++ tab).map (·.1)).Nodup → mergeK (tabV acc) (tabV tab) = tabV (acc ++ tab)
  | [], acc, _ => by
    rw [List.append_nil]
    rfl
  | q :: r, acc, h => by
    have e : acc ++ q :: r = (acc ++ [q]) ++ r := by rw [List.append_assoc]; rfl
    rw [e] at h ⊢
    rw [← tab_merge (tab := r) (acc := acc ++ [q]) h]
    show mergeK (putK (tabV acc) (.inr q.1) (.str q.2)) (tabV r) = _
    congr 1
    unfold putK
    rw [if_neg fun z => ?_]
    · unfold tabV
      rw [List.map_append]
      rfl
    · obtain ⟨kv, hk, hz⟩ := List.any_eq_true.mp z
      have hz := of_decide_eq_true hz
      obtain ⟨p, hp, rfl⟩ := List.mem_map.mp hk
      rw [List.map_append, List.map_append, List.nodup_append] at h
      have h := (List.nodup_append.mp h.1).2.2 p.1 (List.mem_map.mpr ⟨p, hp, rfl⟩) q.1 (by simp)
      exact h (Sum.inr.inj hz)
theorem tab_val {tab : List (Str × Str)} {s : Str} {p : Str × Str} (h : tab.find? (fun q => decide (q.1 = s)) = some p) : valV (tabV tab) (.inr s) = some (.str p.2) := by
  induction tab with
  | nil => cases h
  | cons q r ih =>
    by_cases e : q.1 = s
    · simp only [List.find?_cons, e, decide_true] at h
      cases h
      exact valV_pos (congrArg Sum.inr e)
    · simp only [List.find?_cons, e, decide_false] at h
      exact (valV_neg (fun z => e (Sum.inr.inj z))).trans (ih h)
theorem ev_tab {tab : List (Str × Str)} {te : TE} {m : EM} (h : EV K te m) (nd : (tab.map (·.1)).Nodup := by decide) (hl : tab.length ≤ 15 := by decide) : EV K (tDGet (tDisp (tabT tab)) te) (opM (fTab tab) (arg1 m)) := fun σ ρ F H z ρ' E e Q q => by
  obtain ⟨⟨rs, ρ1⟩, e1, e⟩ := bind_some e
  obtain ⟨⟨r, ρ2⟩, e0, e1⟩ := bind_some e1
  cases e1
  obtain ⟨ds, e2, e⟩ := bind_some e
  obtain ⟨z', e3, e⟩ := bind_some e
  cases e
  obtain ⟨d, e4, e2⟩ := bind_some e2
  cases e2
  intro p hp
  refine tab_pairs ?_
  refine ⟨upd_same, tabV tab, rfl, by unfold tabV; rw [List.length_map]; exact hl, ?_⟩
  have em : mergeK [] (tabV tab) = tabV tab := tab_merge (acc := []) nd
  rw [em]
  have P0 : Post K σ ρ F H ρ F (upd (upd H p (.dK [])) p (.dK (tabV tab))) := by
    rw [show upd (upd H p (.dK [])) p (.dK (tabV tab)) = upd H p (.dK (tabV tab)) from funext fun a => by
      by_cases z : a = p
      · rw [z, upd_same, upd_same]
      · rw [upd_ne z, upd_ne z, upd_ne z]]
    exact new_at (Post.refl E) hp
  refine h σ ρ F _ r _ P0.env e0 _ fun v F1 H1 P1 R1 => ?_
  have kp : H1 p = some (.dK (tabV tab)) := P1.keep p _ upd_same (fresh_nown E P0 hp)
  have C := Cont.of P1.env R1 e4
  unfold fTab at e3
  split at e3
  · rename_i s es
    cases es
    obtain ⟨w, e5, rfl⟩ := map_some e3
    rw [Cont.str C]
    refine ⟨p, .str w.2, rfl, ?_, q _ F1 H1 (P0.trans P1) (.str w.2)⟩
    rw [← tab_val e5]
    exact DGet.k (k := .inr s) kp
  · cases e3
theorem fz_tab {tab : List (Str × Str)} {s : Str} {p : Str × Str} {QZ : Rz → Prop} (h : tab.find? (fun q => decide (q.1 = s)) = some p) (q : QZ (.sh (.str p.2))) : ∃ z, fTab tab [.str s] = some z ∧ QZ z := ⟨_, by unfold fTab; simp only [h]; rfl, q⟩
theorem units1 {k : Nat} {A : Around} (hr : Room k A) : A.units + 1 < cLine := by
  have := units65 hr
  omega
end Pv

set_option Elab.async false
set_option linter.all false
set_option maxRecDepth 100000
set_option maxHeartbeats 4000000
namespace Ct
/-! ### plain mathematics: how many lists of numbers from 0 to each room add up to a total -/
/-- of n things k -/
def bin : Nat → Nat → Nat
  | _, 0 => 1
  | 0, _ + 1 => 0
  | n + 1, k + 1 => bin n k + bin n (k + 1)
theorem bin_gt : ∀ {n k : Nat}, n < k → bin n k = 0
  | 0, k + 1, _ => rfl
  | n + 1, k + 1, h => by rw [bin, bin_gt (by omega), bin_gt (by omega)]
theorem bin_self : ∀ n : Nat, bin n n = 1
  | 0 => rfl
  | n + 1 => by rw [bin, bin_self n, bin_gt (by omega)]
theorem bin_zero (n : Nat) : bin n 0 = 1 := by cases n <;> rfl
theorem bin_symm : ∀ {n k : Nat}, k ≤ n → bin n (n - k) = bin n k
  | n, 0, _ => by rw [Nat.sub_zero, bin_self, bin_zero]
  | 0, k + 1, h => by omega
  | n + 1, k + 1, h => by
    rw [Nat.add_sub_add_right]
    by_cases e : k = n
    · subst e
      rw [Nat.sub_self, bin_zero, bin_self]
    · obtain ⟨m, hm⟩ : ∃ m, n - k = m + 1 := ⟨n - k - 1, by omega⟩
      rw [hm, bin, ← hm, bin_symm (by omega), show m = n - (k + 1) by omega, bin_symm (by omega), bin]
      omega
def fct : Nat → Nat
  | 0 => 1
  | n + 1 => (n + 1) * fct n
theorem fct_pos : ∀ n, 0 < fct n
  | 0 => by decide
  | n + 1 => Nat.mul_pos (by omega) (fct_pos n)
/-- n · (n - 1) · .., k factors -/
def fal : Nat → Nat → Nat
  | _, 0 => 1
  | n, k + 1 => n * fal (n - 1) k
theorem bin_mul : ∀ (n k : Nat), (k + 1) * bin (n + 1) (k + 1) = (n + 1) * bin n k
  | 0, k => by
    cases k with
    | zero => decide
    | succ k => rw [bin_gt (by omega), bin_gt (by omega)]
                omega
  | n + 1, 0 => by
    have := bin_mul n 0
    rw [bin_zero] at this ⊢
    rw [bin, bin_zero, Nat.mul_add]
    omega
  | n + 1, k + 1 => by
    have a := bin_mul n (k + 1)
    have b := bin_mul n k
    rw [bin, Nat.mul_add, a]
    have c : (k + 1 + 1) * bin (n + 1) (k + 1) = bin (n + 1) (k + 1) + (k + 1) * bin (n + 1) (k + 1) := by rw [Nat.add_mul (k + 1) 1, Nat.one_mul, Nat.add_comm]
    rw [c, b]
    have d : bin (n + 1) (k + 1) = bin n k + bin n (k + 1) := rfl
    have e : (n + 1 + 1) * bin (n + 1) (k + 1) = bin (n + 1) (k + 1) + (n + 1) * bin (n + 1) (k + 1) := by rw [Nat.add_mul (n + 1) 1, Nat.one_mul, Nat.add_comm]
    rw [e]
    have g : (n + 1) * bin (n + 1) (k + 1) = (n + 1) * bin n k + (n + 1) * bin n (k + 1) := by rw [d, Nat.mul_add]
    rw [g]
    omega
theorem fal_bin : ∀ (n k : Nat), fal n k = bin n k * fct k
  | n, 0 => by rw [bin_zero]; rfl
  | 0, k + 1 => by rw [bin_gt (by omega), fal, Nat.zero_mul, Nat.zero_mul]
  | n + 1, k + 1 => by
    rw [fal, Nat.add_sub_cancel, fal_bin n k, fct, ← Nat.mul_assoc, ← bin_mul n k, ← Nat.mul_assoc, Nat.mul_comm (k + 1)]
/-- lists of j numbers from 0 on that add up to t -/
def G : Nat → Int → Int
  | 0, t => if t = 0 then 1 else 0
  | j + 1, t => if 0 ≤ t then (bin (t.toNat + j) j : Nat) else 0
theorem G_suc (j : Nat) (t : Int) : G (j + 1) t = if 0 ≤ t then ((bin (t.toNat + j) j : Nat) : Int) else 0 := rfl
theorem G_nil (t : Int) : G 0 t = if t = 0 then 1 else 0 := rfl
theorem G_step (j : Nat) (t : Int) : G (j + 1) t - G (j + 1) (t - 1) = G j t := by
  cases j with
  | zero =>
    rw [G_suc, G_suc, G_nil]
    simp only [Nat.add_zero, bin_zero]
    split <;> split <;> split <;> first | omega | rfl
  | succ j =>
    rw [G_suc, G_suc, G_suc]
    by_cases h : 0 ≤ t
    · rw [if_pos h]
      simp only [h, if_true]
      by_cases h1 : 0 ≤ t - 1
      · rw [if_pos h1]
        obtain ⟨m, e⟩ : ∃ m, t.toNat = m + 1 := ⟨t.toNat - 1, by omega⟩
        have e2 : (t - 1).toNat = m := by omega
        rw [e, e2]
        have a : bin (m + 1 + (j + 1)) (j + 1) = bin (m + 1 + j) j + bin (m + 1 + j) (j + 1) := rfl
        have b : m + (j + 1) = m + 1 + j := by omega
        rw [a, b]
        omega
      · rw [if_neg h1]
        have : t.toNat = 0 := by omega
        rw [this, Nat.zero_add, Nat.zero_add, bin_self, bin_self]
        rfl
    · rw [if_neg h, if_neg (by omega)]
      simp [h]
/-- the same, ahead of these one number from 0 to each room -/
def cf : List Int → Nat → Int → Int
  | [], j, t => G j t
  | r :: rs, j, t => ((List.range (r + 1).toNat).map fun (x : Nat) => cf rs j (t - x)).sum
theorem sum_map_sub (f g : Nat → Int) : ∀ l : List Nat, (l.map fun x => f x - g x).sum = (l.map f).sum - (l.map g).sum
  | [] => rfl
  | a :: l => by
    have := sum_map_sub f g l
    simp only [List.map_cons, List.sum_cons] at this ⊢
    omega
theorem cf_step : ∀ (rs : List Int) (j : Nat) (t : Int), cf rs (j + 1) t - cf rs (j + 1) (t - 1) = cf rs j t
  | [], j, t => G_step j t
  | r :: rs, j, t => by
    show ((List.range (r + 1).toNat).map fun (x : Nat) => cf rs (j + 1) (t - x)).sum - ((List.range (r + 1).toNat).map fun (x : Nat) => cf rs (j + 1) (t - 1 - x)).sum = ((List.range (r + 1).toNat).map fun (x : Nat) => cf rs j (t - x)).sum
    rw [← sum_map_sub]
    congr 1
    refine List.map_congr_left fun x _ => ?_
    rw [← cf_step rs j (t - x), show t - 1 - (x : Int) = t - x - 1 by omega]
theorem tele (f : Int → Int) (t : Int) : ∀ n : Nat, ((List.range n).map fun (x : Nat) => f (t - x) - f (t - x - 1)).sum = f t - f (t - n)
  | 0 => by simp
  | n + 1 => by
    rw [List.range_succ, List.map_append, List.sum_append, tele f t n]
    simp only [List.map_cons, List.map_nil, List.sum_cons, List.sum_nil]
    rw [show t - ((n + 1 : Nat) : Int) = t - n - 1 by omega]
    omega
theorem cf_room {r : Int} (rs : List Int) (j : Nat) (t : Int) (h : -1 ≤ r) : cf (r :: rs) j t = cf rs (j + 1) t - cf rs (j + 1) (t - r - 1) := by
  have e := tele (cf rs (j + 1)) t (r + 1).toNat
  rw [show t - ((r + 1).toNat : Int) = t - r - 1 by omega] at e
  rw [← e]
  show ((List.range (r + 1).toNat).map fun (x : Nat) => cf rs j (t - x)).sum = _
  congr 1
  refine List.map_congr_left fun x _ => ?_
  exact (cf_step rs j (t - x)).symm
/-- by inclusion and exclusion -/
def ie : List Int → Nat → Int → Int
  | [], m, t => G m t
  | r :: rs, m, t => ie rs m t - ie rs m (t - r - 1)
theorem ie_cf : ∀ (rs : List Int) (j : Nat) (t : Int), (∀ r ∈ rs, -1 ≤ r) → ie rs (j + rs.length) t = cf rs j t
  | [], j, t, _ => rfl
  | r :: rs, j, t, h => by
    have e : j + (r :: rs).length = (j + 1) + rs.length := by rw [List.length_cons]; omega
    rw [ie, e, ie_cf rs (j + 1) t (fun x hx => h x (List.mem_cons_of_mem _ hx)), ie_cf rs (j + 1) _ (fun x hx => h x (List.mem_cons_of_mem _ hx)), cf_room rs j t (h r List.mem_cons_self)]
/-- the terms, a sign and what is left each -/
def trm (rs : List Int) (ts : List (Int × Int)) : List (Int × Int) := rs.foldl (fun ts r => ts ++ ts.map fun q => (-q.1, q.2 - r - 1)) ts
theorem trm_sum (m : Nat) : ∀ (rs : List Int) (ts : List (Int × Int)), ((trm rs ts).map fun q => q.1 * G m q.2).sum = (ts.map fun q => q.1 * ie rs m q.2).sum
  | [], ts => rfl
  | r :: rs, ts => by
    have e := trm_sum m rs (ts ++ ts.map fun q => (-q.1, q.2 - r - 1))
    show ((trm rs (ts ++ ts.map fun q => (-q.1, q.2 - r - 1))).map fun q => q.1 * G m q.2).sum = _
    rw [e, List.map_append, List.sum_append, List.map_map]
    clear e
    induction ts with
    | nil => rfl
    | cons q ts ih =>
      simp only [List.map_cons, List.sum_cons, Function.comp] at ih ⊢
      rw [show ie (r :: rs) m q.2 = ie rs m q.2 - ie rs m (q.2 - r - 1) from rfl, Int.mul_sub, Int.neg_mul]
      omega
/-- how many lists fill the rooms -/
def cnt (rs : List Int) (t : Int) : Int := cf rs 0 t
theorem trm_cnt (rs : List Int) (t : Int) (h : ∀ r ∈ rs, -1 ≤ r) : ((trm rs [(1, t)]).map fun q => q.1 * G rs.length q.2).sum = cnt rs t := by
  rw [trm_sum]
  simp only [List.map_cons, List.map_nil, List.sum_cons, List.sum_nil, Int.one_mul, Int.add_zero]
  have := ie_cf rs 0 t h
  rw [Nat.zero_add] at this
  exact this
theorem trm_len : ∀ (rs : List Int) (ts : List (Int × Int)), (trm rs ts).length = 2 ^ rs.length * ts.length
  | [], ts => by simp [trm]
  | r :: rs, ts => by
    show (trm rs (ts ++ ts.map fun q => (-q.1, q.2 - r - 1))).length = _
    rw [trm_len rs, List.length_append, List.length_map, List.length_cons, Nat.pow_succ, Nat.mul_assoc]
    congr 1
    omega
/-! ### the lists themselves, ascending -/
def fil : List Int → Int → List (List Int)
  | [], t => if t = 0 then [[]] else []
  | r :: rs, t => (List.range (r + 1).toNat).flatMap fun (x : Nat) => (fil rs (t - x)).map fun z => (x : Int) :: z
theorem fil_len : ∀ (rs : List Int) (t : Int), ((fil rs t).length : Int) = cnt rs t
  | [], t => by
    show (((if t = 0 then [[]] else [] : List (List Int)).length : Nat) : Int) = if t = 0 then 1 else 0
    split <;> rfl
  | r :: rs, t => by
    have ih := fil_len rs
    unfold fil
    unfold cnt cf
    generalize (r + 1).toNat = n
    induction n with
    | zero => rfl
    | succ n jh =>
      rw [List.range_succ, List.flatMap_append, List.length_append, List.map_append, List.sum_append, Int.natCast_add, jh]
      simp only [List.flatMap_cons, List.flatMap_nil, List.append_nil, List.length_map, List.map_cons, List.map_nil, List.sum_cons, List.sum_nil, Int.add_zero]
      rw [ih (t - n)]
      rfl
theorem cnt_pos (rs : List Int) (t : Int) : 0 ≤ cnt rs t := by
  rw [← fil_len]
  omega
/-- z fills the rooms -/
def Fil : List Int → List Int → Prop
  | [], [] => True
  | r :: rs, x :: z => (0 ≤ x ∧ x ≤ r) ∧ Fil rs z
  | _, _ => False
theorem Fil.len : ∀ {rs z : List Int}, Fil rs z → z.length = rs.length
  | [], [], _ => rfl
  | _ :: _, _ :: _, h => by rw [List.length_cons, List.length_cons, Fil.len h.2]
  | [], _ :: _, h => h.elim
  | _ :: _, [], h => h.elim
theorem mem_fil : ∀ {rs : List Int} {t : Int} {z : List Int}, z ∈ fil rs t ↔ Fil rs z ∧ z.sum = t
  | [], t, z => by
    unfold fil
    split
    · rename_i h
      subst h
      rw [List.mem_singleton]
      constructor
      · rintro rfl
        exact ⟨trivial, rfl⟩
      · rintro ⟨h, _⟩
        cases z with
        | nil => rfl
        | cons _ _ => exact h.elim
    · rename_i h
      constructor
      · intro a
        cases a
      · rintro ⟨a, b⟩
        cases z with
        | nil => exact absurd b.symm h
        | cons _ _ => exact a.elim
  | r :: rs, t, z => by
    unfold fil
    rw [List.mem_flatMap]
    constructor
    · rintro ⟨x, hx, hz⟩
      obtain ⟨y, hy, rfl⟩ := List.mem_map.mp hz
      have hx := List.mem_range.mp hx
      obtain ⟨a, b⟩ := mem_fil.mp hy
      refine ⟨⟨by omega, a⟩, ?_⟩
      rw [List.sum_cons, b]
      omega
    · rintro ⟨h, e⟩
      cases z with
      | nil => exact h.elim
      | cons x y =>
        obtain ⟨h1, h2⟩ := h
        rw [List.sum_cons] at e
        refine ⟨x.toNat, List.mem_range.mpr (by omega), List.mem_map.mpr ⟨y, mem_fil.mpr ⟨h2, by omega⟩, ?_⟩⟩
        rw [Int.toNat_of_nonneg h1.1]
/-- how many have less than x in the first room -/
def cah (rs : List Int) (t x : Int) : Int := cnt ((x - 1) :: rs) t
theorem cah_zero (rs : List Int) (t : Int) : cah rs t 0 = 0 := by
  unfold cah cnt cf
  rfl
theorem cah_succ (rs : List Int) (t : Int) {x : Int} (h : 0 ≤ x) : cah rs t (x + 1) = cah rs t x + cnt rs (t - x) := by
  unfold cah cnt
  rw [cf, cf, show (x + 1 - 1 + 1).toNat = (x - 1 + 1).toNat + 1 by omega, List.range_succ, List.map_append, List.sum_append]
  simp only [List.map_cons, List.map_nil, List.sum_cons, List.sum_nil, Int.add_zero]
  rw [show ((x - 1 + 1).toNat : Int) = x by omega]
theorem cah_mono (rs : List Int) (t : Int) {x y : Int} (h : 0 ≤ x) (hy : x ≤ y) : cah rs t x ≤ cah rs t y := by
  obtain ⟨n, rfl⟩ : ∃ n : Nat, y = x + n := ⟨(y - x).toNat, by omega⟩
  clear hy
  induction n with
  | zero => rw [Int.natCast_zero, Int.add_zero]; exact Int.le_refl _
  | succ n ih =>
    have := cah_succ rs t (x := x + n) (by omega)
    have := cnt_pos rs (t - (x + n))
    rw [show x + ((n + 1 : Nat) : Int) = x + n + 1 by omega]
    omega
theorem cnt_cah (r : Int) (rs : List Int) (t : Int) : cnt (r :: rs) t = cah rs t (r + 1) := by
  unfold cah
  rw [Int.add_sub_cancel]
/-- a list in the first room's block -/
theorem fil_get {r : Int} {rs : List Int} {t x : Int} {i : Nat} {z : List Int} (h0 : 0 ≤ x) (h1 : x ≤ r) (h : (fil rs (t - x))[i]? = some z) : (fil (r :: rs) t)[(cah rs t x).toNat + i]? = some (x :: z) := by
  have hi := (List.getElem?_eq_some_iff.mp h).1
  have key : ∀ n : Nat, (((List.range n).flatMap fun (x : Nat) => (fil rs (t - x)).map fun z => (x : Int) :: z).length : Int) = cah rs t n := fun n => by
    have e := fil_len (((n : Int) - 1) :: rs) t
    unfold fil at e
    rw [show ((n : Int) - 1 + 1).toNat = n by omega] at e
    exact e
  have kx := key x.toNat
  rw [Int.toNat_of_nonneg h0] at kx
  unfold fil
  obtain ⟨m, hm⟩ : ∃ m, (r + 1).toNat = (x.toNat + 1) + m := ⟨(r + 1).toNat - (x.toNat + 1), by omega⟩
  rw [hm, List.range_add, List.flatMap_append, List.range_succ, List.flatMap_append]
  have l1 : (cah rs t x).toNat + i = ((List.range x.toNat).flatMap fun (x : Nat) => (fil rs (t - x)).map fun z => (x : Int) :: z).length + i := by omega
  rw [l1]
  rw [List.append_assoc, List.getElem?_append_right (by omega), Nat.add_sub_cancel_left]
  simp only [List.flatMap_cons, List.flatMap_nil, List.append_nil]
  rw [List.getElem?_append_left (by rw [List.length_map, Int.toNat_of_nonneg h0]; exact hi), List.getElem?_map, Int.toNat_of_nonneg h0, h]
  rfl
/-! ### the list with an index, and the index of a list -/
/-- the number in the first room of the list with index i: the greatest x from 0 to r with cah x at most i -/
def Gst (r : Int) (rs : List Int) (t i x : Int) : Prop := 0 ≤ x ∧ x ≤ r ∧ cah rs t x ≤ i ∧ i < cah rs t (x + 1)
theorem gst_some {r : Int} {rs : List Int} {t i : Int} (h0 : 0 ≤ i) (h1 : i < cnt (r :: rs) t) : ∃ x, Gst r rs t i x := by
  have key : ∀ n : Nat, i < cah rs t n → ∃ x : Int, 0 ≤ x ∧ x < n ∧ cah rs t x ≤ i ∧ i < cah rs t (x + 1) := by
    intro n
    induction n with
    | zero =>
      intro h
      rw [show ((0 : Nat) : Int) = 0 from rfl, cah_zero] at h
      omega
    | succ n ih =>
      intro h
      by_cases c : i < cah rs t n
      · obtain ⟨x, a, b, d⟩ := ih c
        exact ⟨x, a, by omega, d⟩
      · exact ⟨n, by omega, by omega, by omega, by rw [show ((n : Nat) : Int) + 1 = ((n + 1 : Nat) : Int) by omega]; exact h⟩
  have r0 : 0 ≤ r := by
    by_cases c : 0 ≤ r
    · exact c
    · rw [cnt, cf, show (r + 1).toNat = 0 by omega] at h1
      simp at h1
      omega
  rw [cnt_cah] at h1
  obtain ⟨x, a, b, d⟩ := key (r + 1).toNat (by rw [Int.toNat_of_nonneg (by omega)]; exact h1)
  exact ⟨x, a, by omega, d⟩
theorem gst_uniq {r : Int} {rs : List Int} {t i x y : Int} (a : Gst r rs t i x) (b : Gst r rs t i y) : x = y := by
  obtain ⟨a0, a1, a2, a3⟩ := a
  obtain ⟨b0, b1, b2, b3⟩ := b
  by_cases h : x < y
  · have := cah_mono rs t (x := x + 1) (y := y) (by omega) (by omega)
    omega
  · by_cases g : y < x
    · have := cah_mono rs t (x := y + 1) (y := x) (by omega) (by omega)
      omega
    · omega
theorem gst_left {r : Int} {rs : List Int} {t i x : Int} (g : Gst r rs t i x) : 0 ≤ i - cah rs t x ∧ i - cah rs t x < cnt rs (t - x) := by
  obtain ⟨a0, a1, a2, a3⟩ := g
  rw [cah_succ rs t a0] at a3
  omega
/-- z is the list with index i -/
def Nth : List Int → Int → Int → List Int → Prop
  | [], _, _, z => z = []
  | r :: rs, t, i, z => ∃ x y, z = x :: y ∧ Gst r rs t i x ∧ Nth rs (t - x) (i - cah rs t x) y
theorem nth_get : ∀ {rs : List Int} {t i : Int} {z : List Int}, 0 ≤ i → i < cnt rs t → Nth rs t i z → (fil rs t)[i.toNat]? = some z
  | [], t, i, z, h0, h1, h => by
    have e : cnt [] t = if t = 0 then 1 else 0 := rfl
    rw [e] at h1
    split at h1
    · rename_i c
      cases (show z = [] from h)
      unfold fil
      rw [if_pos c, show i.toNat = 0 by omega]
      rfl
    · omega
  | r :: rs, t, i, z, h0, h1, h => by
    obtain ⟨x, y, rfl, g, n⟩ := h
    have l := gst_left g
    have a := nth_get l.1 l.2 n
    have b := fil_get (r := r) g.1 g.2.1 a
    have c0 : 0 ≤ cah rs t x := cnt_pos _ _
    rw [show (cah rs t x).toNat + (i - cah rs t x).toNat = i.toNat by omega] at b
    exact b
/-- the index of a list -/
def idx : List Int → Int → List Int → Int
  | _ :: rs, t, x :: z => cah rs t x + idx rs (t - x) z
  | _, _, _ => 0
theorem idx_get : ∀ {rs : List Int} {t : Int} {z : List Int}, Fil rs z → z.sum = t → 0 ≤ idx rs t z ∧ (fil rs t)[(idx rs t z).toNat]? = some z
  | [], t, [], _, e => by
    have e : 0 = t := e
    subst e
    exact ⟨Int.le_refl _, rfl⟩
  | r :: rs, t, x :: z, h, e => by
    rw [List.sum_cons] at e
    obtain ⟨a, b⟩ := idx_get (t := t - x) h.2 (by omega)
    have c0 : 0 ≤ cah rs t x := cnt_pos _ _
    have g := fil_get (r := r) h.1.1 h.1.2 b
    refine ⟨?_, ?_⟩
    · show 0 ≤ cah rs t x + idx rs (t - x) z
      omega
    · show (fil (r :: rs) t)[(cah rs t x + idx rs (t - x) z).toNat]? = _
      rw [← g]
      congr 1
      omega
  | [], _, _ :: _, h, _ => h.elim
  | _ :: _, _, [], h, _ => h.elim
abbrev Lx : List Int → List Int → Prop := List.Lex (· < ·)
theorem fil_asc : ∀ (rs : List Int) (t : Int), (fil rs t).Pairwise Lx
  | [], t => by
    unfold fil
    split
    · exact List.pairwise_singleton _ _
    · exact List.Pairwise.nil
  | r :: rs, t => by
    unfold fil
    rw [List.pairwise_flatMap]
    refine ⟨fun x _ => ?_, ?_⟩
    · rw [List.pairwise_map]
      exact (fil_asc rs (t - x)).imp fun h => List.Lex.cons h
    · refine List.pairwise_lt_range.imp fun {a b} hab => ?_
      intro p hp q hq
      obtain ⟨u, _, rfl⟩ := List.mem_map.mp hp
      obtain ⟨v, _, rfl⟩ := List.mem_map.mp hq
      exact List.Lex.rel (by omega)
theorem lx_irrefl : ∀ a : List Int, ¬ Lx a a
  | [], h => by cases h
  | x :: a, h => by
    cases h with
    | rel h => omega
    | cons h => exact lx_irrefl a h
theorem lx_asymm : ∀ {a b : List Int}, Lx a b → ¬ Lx b a
  | _, _, .nil, h => by cases h
  | _, _, .cons h, g => by
    cases g with
    | rel g => omega
    | cons g => exact lx_asymm h g
  | _, _, .rel h, g => by
    cases g with
    | rel g => omega
    | cons g => omega
/-- two ascending lists with the same members are one -/
theorem lx_ext : ∀ {as bs : List (List Int)}, as.Pairwise Lx → bs.Pairwise Lx → (∀ x, x ∈ as ↔ x ∈ bs) → as = bs
  | [], [], _, _, _ => rfl
  | [], b :: bs, _, _, h => by
    have := (h b).mpr List.mem_cons_self
    cases this
  | a :: as, [], _, _, h => by
    have := (h a).mp List.mem_cons_self
    cases this
  | a :: as, b :: bs, ha, hb, h => by
    obtain ⟨a1, a2⟩ := List.pairwise_cons.mp ha
    obtain ⟨b1, b2⟩ := List.pairwise_cons.mp hb
    have e : a = b := by
      rcases List.mem_cons.mp ((h a).mp List.mem_cons_self) with e | e
      · exact e
      · rcases List.mem_cons.mp ((h b).mpr List.mem_cons_self) with g | g
        · exact g.symm
        · exact absurd (b1 _ e) (lx_asymm (a1 _ g))
    subst e
    congr 1
    refine lx_ext a2 b2 fun x => ⟨fun hx => ?_, fun hx => ?_⟩
    · rcases List.mem_cons.mp ((h x).mp (List.mem_cons_of_mem _ hx)) with e | e
      · subst e
        exact absurd (a1 _ hx) (lx_irrefl _)
      · exact e
    · rcases List.mem_cons.mp ((h x).mpr (List.mem_cons_of_mem _ hx)) with e | e
      · subst e
        exact absurd (b1 _ hx) (lx_irrefl _)
      · exact e
theorem fal_last : ∀ (k n : Nat), fal n (k + 1) = fal n k * (n - k)
  | 0, n => by
    show n * 1 = 1 * n
    omega
  | k + 1, n => by
    have e := fal_last k (n - 1)
    have a : fal n (k + 1 + 1) = n * fal (n - 1) (k + 1) := rfl
    have b : fal n (k + 1) = n * fal (n - 1) k := rfl
    rw [a, b, e, Nat.mul_assoc, show n - 1 - k = n - (k + 1) by omega]
theorem fal_le : ∀ (k n : Nat), fal n k ≤ n ^ k
  | 0, n => Nat.le_refl 1
  | k + 1, n => by
    rw [fal_last, Nat.pow_succ]
    exact Nat.mul_le_mul (fal_le k n) (Nat.sub_le _ _)
theorem bin_le (n k : Nat) : bin n k ≤ n ^ k := by
  have a := fal_le k n
  rw [fal_bin] at a
  exact Nat.le_trans (Nat.le_mul_of_pos_right _ (fct_pos k)) a
theorem bin_div (n m : Nat) : fal n m / fal m m = bin n m := by
  rw [fal_bin n m, fal_bin m m, bin_self, Nat.one_mul, Nat.mul_div_cancel _ (fct_pos m)]
theorem trm_mem {t : Int} : ∀ {rs : List Int} {ts : List (Int × Int)}, (∀ r ∈ rs, -1 ≤ r) → (∀ q ∈ ts, (q.1 = 1 ∨ q.1 = -1) ∧ q.2 ≤ t) → ∀ q ∈ trm rs ts, (q.1 = 1 ∨ q.1 = -1) ∧ q.2 ≤ t
  | [], ts, _, h => h
  | r :: rs, ts, hr, h => by
    refine trm_mem (rs := rs) (fun x hx => hr x (List.mem_cons_of_mem _ hx)) fun q hq => ?_
    rcases List.mem_append.mp hq with hq | hq
    · exact h q hq
    · obtain ⟨p, hp, rfl⟩ := List.mem_map.mp hq
      have := h p hp
      have := hr r List.mem_cons_self
      refine ⟨?_, ?_⟩
      · show -p.1 = 1 ∨ -p.1 = -1
        omega
      · show p.2 - r - 1 ≤ t
        omega
theorem trm_snoc (rs : List Int) (r : Int) (ts : List (Int × Int)) : trm (rs ++ [r]) ts = trm rs ts ++ (trm rs ts).map fun q => (-q.1, q.2 - r - 1) := by
  unfold trm
  rw [List.foldl_append]
  rfl
theorem sum_filter {α : Type} (p : α → Bool) (f : α → Int) : ∀ l : List α, (∀ x ∈ l, p x = false → f x = 0) → ((l.filter p).map f).sum = (l.map f).sum
  | [], _ => rfl
  | a :: l, h => by
    have ih := sum_filter p f l fun x hx => h x (List.mem_cons_of_mem _ hx)
    cases e : p a with
    | true =>
      rw [List.filter_cons_of_pos e, List.map_cons, List.sum_cons, List.map_cons, List.sum_cons, ih]
    | false =>
      rw [List.filter_cons_of_neg (by rw [e]; exact Bool.false_ne_true), List.map_cons, List.sum_cons, ih, h a List.mem_cons_self e, Int.zero_add]
theorem Gst.of {r : Int} {rs : List Int} {t i lo : Int} (h0 : 0 ≤ lo) (h1 : lo ≤ r) (a : cah rs t lo ≤ i) (b : i < cah rs t (lo + 1)) : Gst r rs t i lo := ⟨h0, h1, a, b⟩
theorem fil_room {rs : List Int} {t : Int} {z : List Int} (h : z ∈ fil rs t) : ∀ r ∈ rs, 0 ≤ r := by
  have f := (mem_fil.mp h).1
  clear h
  induction rs generalizing z with
  | nil => intro r hr; cases hr
  | cons r rs ih =>
    cases z with
    | nil => exact f.elim
    | cons x z =>
      intro q hq
      rcases List.mem_cons.mp hq with rfl | hq
      · have := f.1
        omega
      · exact ih f.2 q hq
end Ct

set_option Elab.async false
set_option linter.all false
set_option maxRecDepth 100000
set_option maxHeartbeats 4000000
namespace Pv
open PySem PySem.Spec PyProof.Rows L2 Ws
variable {K : PySem.W.Frag}
/-! ### xs < ys for lists of ints -/
theorem toks_lt : ∀ {a b : List Int}, Ct.Lx a b → PyProof.Rows.lexLt PyProof.Rows.itemOrd (PySem.W.keyToksAll (a.map PyData.int)) (PySem.W.keyToksAll (b.map PyData.int)) = true
  | _, _, .nil => by
    simp only [List.map_nil, List.map_cons, PySem.W.keyToksAll]
    rw [PySem.W.lex_atom (by intro h; cases h), PySem.W.lex_one]
    decide
  | x :: a, y :: b, .rel h => by
    simp only [List.map_cons, PySem.W.keyToksAll, PySem.W.keyToks]
    have e := PySem.W.lex_pre [Sum.inl 1] ([Sum.inl x] ++ PySem.W.keyToksAll (a.map PyData.int)) ([Sum.inl y] ++ PySem.W.keyToksAll (b.map PyData.int))
    refine Eq.trans e ?_
    refine Eq.trans (PySem.W.lex_atom (fun z => ?_) _ _) ?_
    · have : x = y := Sum.inl.inj z
      omega
    · rw [PySem.W.lex_one]
      exact decide_eq_true h
  | x :: a, _ :: b, .cons h => by
    simp only [List.map_cons, PySem.W.keyToksAll, PySem.W.keyToks]
    have e := PySem.W.lex_pre [Sum.inl 1, Sum.inl x] (PySem.W.keyToksAll (a.map PyData.int)) (PySem.W.keyToksAll (b.map PyData.int))
    exact Eq.trans e (toks_lt h)
theorem alike_ints : ∀ a b : List Int, PySem.W.alike (.list (a.map PyData.int)) (.list (b.map PyData.int)) = true := by
  intro a b
  show PySem.W.alikeAll (a.map PyData.int) (b.map PyData.int) = true
  induction a generalizing b with
  | nil => unfold PySem.W.alikeAll; rfl
  | cons x a ih =>
    cases b with
    | nil => unfold PySem.W.alikeAll; rfl
    | cons y b => exact ih b
def rLtLI (K : PySem.W.Frag) : R2 := fun x y H Q => ∃ a b ns ms, x = .ref a ∧ y = .ref b ∧ SqL K H a (ns.map V.int) ∧ SqL K H b (ms.map V.int) ∧ Q (.bl (PySem.W.dataLt (dI ns) (dI ms))) H
theorem op_ltL {X : Cx} (hu : X.A.units + 64 < cLine) (h : X.K = K := by rfl) : OpR X (compareOp .Lt) (rLtLI K) := by
  subst h
  intro pins s σ H x y v u Q I rx ry hh
  obtain ⟨a, b, ns, ms, rfl, rfl, ha, hb, q⟩ := hh
  obtain ⟨as, r1⟩ := Dp.reads I _ _ _ (Dp.ints ha) rx
  obtain ⟨bs, r2⟩ := Dp.reads I _ _ _ (Dp.ints hb) ry
  refine PySem.W.rcLt_alike _ _ _ _ _ _ _ _ r1 r2 (alike_ints ns ms) (fun z => nomatch z) ?_ _ _ _ _ ⟨.bl _, H, I, rfl, q⟩
  simp only [PyData.depth, depth_ints]
  omega
def fLtL : List D → Option Rz := fun ds => match ds with
  | [.list as, .list bs] => (toInts as).bind fun ns => (toInts bs).map fun ms => .sh (.bool (PySem.W.dataLt (dI ns) (dI ms)))
  | _ => none
theorem o_ltL : OpV K (l2 (rLtLI K)) fLtL := fun F H vs ds z le c e Q q => by
  unfold fLtL at e
  split at e
  · rename_i as bs
    obtain ⟨ns, e1, e⟩ := bind_some e
    obtain ⟨ms, e2, rfl⟩ := map_some e
    obtain rfl := toInts_eq e1
    obtain rfl := toInts_eq e2
    obtain ⟨x, y, rfl, ca, cb⟩ := cont2 c
    obtain ⟨p, rfl, hp⟩ := Cont.ints le ca
    obtain ⟨r, rfl, hr⟩ := Cont.ints le cb
    exact ⟨p, r, ns, ms, rfl, rfl, SqL.of hp, SqL.of hr, op_sh le (.bl _) q⟩
  · cases e
theorem fz_ltLt {ns ms : List Int} {QZ : Rz → Prop} (h : Ct.Lx ns ms) (q : QZ (.sh (.bool true))) : ∃ z, fLtL [.list (ns.map PyData.int), .list (ms.map PyData.int)] = some z ∧ QZ z := by
  refine ⟨_, ?_, q⟩
  show (toInts (ns.map PyData.int)).bind (fun ns => (toInts (ms.map PyData.int)).map fun ms => Rz.sh (.bool (PySem.W.dataLt (dI ns) (dI ms)))) = _
  rw [toInts_map, toInts_map]
  show some (Rz.sh (.bool (PySem.W.dataLt (dI ns) (dI ms)))) = _
  have e : PySem.W.dataLt (dI ns) (dI ms) = true := by
    unfold PySem.W.dataLt
    simp only [PySem.W.keyToks]
    exact toks_lt h
  rw [e]
/-! ### a call that changes a list that is new: the list is lost -/
def shL : List Rz → Option (List D)
  | [] => some []
  | .sh d :: rs => (shL rs).map fun ds => d :: ds
  | _ => none
theorem shL_rp {σ : L2.St} {F H0 H : Hp} : ∀ {rs : List Rz} {vs : List V} {ds : List D}, ResA K σ F H0 H vs rs → shL rs = some ds → RpA K F vs ds
  | [], _, _, .nil, e => by cases e; exact .nil
  | .sh d :: rs, _, _, .cons a t _, e => by
    obtain ⟨ds', e1, rfl⟩ := map_some e
    exact .cons a (shL_rp t e1)
  | .own _ :: _, _, _, _, e => by cases e
  | .brw _ :: _, _, _, _, e => by cases e
def callJoM (f : List D → List D → Option (Rz × List D)) (m : AM) : EM := fun ρ => (m ρ).bind fun a => match a.1 with
  | .own js :: rs => (shL rs).bind fun ds => (f js ds).bind fun z => some (z.1, a.2)
  | _ => none
theorem ev_callJo {f : List D → List D → Option (Rz × List D)} {E0 : XK} {ta : TA} {m : AM} (h : AV K ta m) : EV K (tCall (spJ K f) [] E0 ta) (callJoM f m) := fun σ ρ F H r ρ' E e Q q => by
  obtain ⟨⟨rs, ρ1⟩, e1, e⟩ := bind_some e
  simp only at e
  split at e
  · rename_i js rs'
    obtain ⟨ds, e2, e⟩ := bind_some e
    obtain ⟨⟨z, js'⟩, e3, e⟩ := bind_some e
    cases e
    refine h σ ρ F H _ _ E e1 _ fun vs F1 H1 P1 R1 => ?_
    cases R1 with
    | cons a0 R1 nn =>
      rename_i v0 us
      obtain ⟨J, xs, rfl, h0, hJ, fJ, rJ⟩ := a0
      have nJ := fresh_nown E P1 h0
      refine ⟨J, us, F1, js, xs, ds, _, js', by rw [List.append_nil], P1.env.le, hJ, fJ, rJ, shL_rp R1 e2, e3, fun v F' H' xs' s t tJ rJ' u n Rz => ?_⟩
      have ex : ∀ a, H1 a ≠ none → H' a ≠ none := fun a ha => by
        by_cases c : a = J
        · rw [c, tJ]
          exact fun z => nomatch z
        · cases e : H1 a with
          | none => exact absurd e ha
          | some o => exact not_none (t a o c e)
      refine q v F' H' ⟨⟨u, P1.env.len, fun i x hx => ?_, P1.env.inj⟩, P1.fle.trans s, fun a o ha na => ?_, fun a ha => ex a (P1.ex a ha), fun a ha hf na => ?_, P1.sub⟩ (ResR.base P1.ex Rz.nil)
      · obtain ⟨w, h1, h2⟩ := P1.env.slot i x hx
        refine ⟨w, h1, ?_⟩
        cases x with
        | sh d => exact Rp.up s d w h2
        | own es =>
          obtain ⟨p, ys, q1, q2, q3, q4⟩ := h2
          have ne : p ≠ J := fun z => nJ ⟨i, es, hx, by rw [h1, q1, z]⟩
          exact ⟨p, ys, q1, t p _ ne q2, by rw [n p (not_none q2)]; exact q3, RpA.up s es ys q4⟩
      · have k := P1.keep a o ha na
        exact t a o (fun z => by rw [z, h0] at ha; cases ha) k
      · have k := P1.fz a ha hf na
        rw [n a (P1.ex a ha)]
        exact k
  · cases e
theorem e_callJo {p : List D → List D → Option (Rz × List D)} {ms : AM} {ρ : Rho} {QE : Rz → Rho → Prop} (h : GoA ms ρ fun rs ρ1 => ∃ js rest, rs = .own js :: rest ∧ ∃ ds, shL rest = some ds ∧ GoJ p js ds fun z _ => QE z ρ1) : GoE (callJoM p ms) ρ QE := by
  obtain ⟨rs, ρ1, e1, js, rest, rfl, ds, e2, z, js', e3, q⟩ := h
  exact ⟨z, ρ1, by show (ms ρ).bind _ = _; rw [e1]; show (shL rest).bind _ = _; rw [e2]; show (p js ds).bind _ = _; rw [e3]; rfl, q⟩
end Pv

set_option Elab.async false
set_option linter.all false
set_option maxRecDepth 100000
set_option maxHeartbeats 4000000
namespace Pv
open PySem PySem.Spec PyProof.Rows L2 Ws
theorem szB {α : Type} {l : List α} (h : Nat.blt l.length 1000 = true) : l.length < sizeLine := Nat.lt_trans (Nat.blt_eq.mp h) (by decide)
theorem iteND {c : Prop} [Decidable c] {p q : Prop} (h : c) (k : q) : if (!decide c) = true then p else q := by
  rw [if_neg (by rw [decide_eq_true h]; decide)]
  exact k
theorem t_yes {ρ : Rho} {QT : Bool → Rho → Prop} (h : QT true ρ) : GoT yesT ρ QT := ⟨_, _, rfl, h⟩
end Pv

set_option Elab.async false
set_option linter.all false
set_option maxRecDepth 100000
set_option maxHeartbeats 4000000
namespace Pv
open PySem PySem.Spec PyProof.Rows L2 Ws
variable {K : PySem.W.Frag}
/-! ### xs[::k] -/
theorem pick_step0 (us : List Value) (k : Nat) (hk : 1 ≤ k) : slicePick us.toArray none none (some (k : Int)) = (stepL us 0 k).toArray := by
  rw [← pick_step us 0 k (Nat.zero_le _) hk]
  unfold slicePick
  have e : sliceBounds none none (some (k : Int)) us.toArray.size = sliceBounds (some ((0 : Nat) : Int)) none (some (k : Int)) us.toArray.size := by
    unfold sliceBounds
    simp
    omega
  rw [e]
/-- xs[::k] -/
def tStep0 (K : PySem.W.Frag) (te : TE) (ts : TO) : TE := fun σ H Q => te σ H fun x H1 => ts σ H1 fun st H3 => ∃ (a : Addr) (xs : List V) (k : Int), x = .ref a ∧ st = some k ∧ SqL K H3 a xs ∧
  1 ≤ k ∧ ∀ p, H3 p = none → Q (.ref p) (upd H3 p (.lst (stepL xs 0 k.toNat)))
theorem pe_step0 {X : Cx} {e st : Expr} {te : TE} {ts : TE} {p3 pos : Pos} (he : PE X e te) (hst : PE X st ts) (hK : X.K = K := by rfl) :
    PE X (.Subscript e (.Slice none none (some st) p3) pos) (tStep0 K te (tPart ts)) := by
  subst hK
  refine ⟨fun pins s σ H Q I h => ?_⟩
  refine Subscript_ (thn (he.run pins s σ H _ I h) fun v s1 ⟨x, H1, I1, r1, q1⟩ => ?_)
  refine wpAny_Slice (thn (po_none.run pins s1 σ H1 (fun o H3 => o = none ∧ H3 = H1) I1 ⟨rfl, rfl⟩) fun vl s2 ⟨l, H2, I2, pl, el, e2⟩ => ?_)
  subst el e2
  refine thn (po_none.run pins s2 σ H2 (fun o H3 => o = none ∧ H3 = H2) I2 ⟨rfl, rfl⟩) fun vu s3 ⟨u, H3, I3, pu, eu, e3⟩ => ?_
  subst eu e3
  refine thn ((po_some hst).run pins s3 σ H3 _ I3 q1) fun vs s4 ⟨o, H4, I4, ps, a, xs, k, ex, eo, hx, k1, q⟩ => ?_
  subst ex eo
  cases r1
  have I5 : Inv X pins σ H4 { s4 with heap := s4.heap.push { cls := .type "slice", data := .fields #[vl, vu, vs] } } := I4.kept (t' := s4.toks) fun b ob w => Heap.get?_push_of_some _ w
  obtain ⟨its, r, ht, hz⟩ := I5.list hx
  have hlen := r.length
  show wpAny (model X.prog X.w) X.A (subscriptTail e (.Slice none none (some st) p3) (.ref a) (.ref s4.heap.objs.size)) (EP X pins σ Q) X.xe { s4 with heap := s4.heap.push { cls := .type "slice", data := .fields #[vl, vu, vs] } }
  refine tail_any (ops := [.ref a, .ref s4.heap.objs.size]) ht.isList.typeIs (PySem.slot_list_getitem.lookup) ?_ (by with_unfolding_all rfl)
  refine wpAny_getItem_list_slice ht.isList (Heap.IsSliceOf.new _ vl vu vs) pl pu ps (by intro z; have := Option.some.inj z; omega) ?_ (by rw [List.size_toArray]; omega)
  have ek : k = (k.toNat : Int) := by omega
  rw [ek, pick_step0 its k.toNat (by omega)]
  refine ⟨.ref _, _, I5.laid (t' := s4.toks) (o := .lst (stepL xs 0 k.toNat)) (fun b ob w => Heap.get?_push_of_some _ w) (Nat.le_refl _) ?_, rfl, q _ (I5.hok.fresh (Nat.le_refl _))⟩
  have hc : (stepL xs 0 k.toNat).length ≤ sizeLine := by
    refine Nat.le_trans (List.length_filterMap_le _ _) ?_
    rw [List.length_range]
    have := step_count xs.length 0 (show 1 ≤ k.toNat by omega)
    omega
  exact ⟨hc, _, 0, vals_step r _ _, Heap.get?_push_size _ rfl⟩
def step0M (m : EM) (ms : Rho → Option (Option Int × Rho)) : EM := fun ρ => (m ρ).bind fun a => (ms a.2).bind fun h => match deref h.2 a.1, h.1 with
  | some (.list ds), some k => if 1 ≤ k then some (.own (stepL ds 0 k.toNat), h.2) else none
  | _, _ => none
theorem ev_step0 {K : PySem.W.Frag} {te : TE} {th : TO} {m : EM} {mh : Rho → Option (Option Int × Rho)} (h : EV K te m) (hh : OV K th mh) : EV K (tStep0 K te th) (step0M m mh) := fun σ ρ F H r ρ' E e Q q => by
  obtain ⟨⟨r0, ρ1⟩, e1, e⟩ := bind_some e
  obtain ⟨⟨hi, ρ3⟩, e3, e⟩ := bind_some e
  simp only at e
  split at e
  · rename_i ds k ed
    split at e
    · rename_i hc
      cases e
      refine h σ ρ F H r0 ρ1 E e1 _ fun v F1 H1 P1 R1 => ?_
      refine hh σ ρ1 F1 H1 _ _ P1.env e3 _ fun F3 H3 P3 => ?_
      have P := P1.trans P3
      obtain ⟨p, xs, rfl, e4, r4⟩ := (Cont.of P.env (ResR.up E P1 P3 R1) ed).list P.env.le
      refine ⟨p, xs, k, rfl, rfl, SqL.of e4, hc, fun l hp => q _ F3 _ (new_at P hp) ⟨l, _, rfl, none_back P.ex hp, upd_same, fresh_F P.env.le hp, r4.step _ _⟩⟩
    · cases e
  · cases e
@[irreducible] def Step0Q (r : Rz) (hi : Option Int) (ρ : Rho) (QE : Rz → Rho → Prop) : Prop := ∃ ds, deref ρ r = some (.list ds) ∧ ∃ k, hi = some k ∧ 1 ≤ k ∧ QE (.own (stepL ds 0 k.toNat)) ρ
theorem e_step0 {m : EM} {ms : Rho → Option (Option Int × Rho)} {ρ : Rho} {QE : Rz → Rho → Prop} (h : GoE m ρ fun r ρ1 => GoO ms ρ1 fun hi ρ3 => Step0Q r hi ρ3 QE) : GoE (step0M m ms) ρ QE := by
  obtain ⟨r, ρ1, e1, hi, ρ3, e3, h⟩ := h
  unfold Step0Q at h
  obtain ⟨ds, e4, k, rfl, k1, q⟩ := h
  refine ⟨_, ρ3, ?_, q⟩
  unfold step0M
  rw [e1, Option.bind_some]
  show ((ms ρ1).bind _) = _
  rw [e3, Option.bind_some]
  simp only [e4, if_pos k1]
theorem st0I {ns : List Int} {c : Int} {ρ : Rho} {QE : Rz → Rho → Prop} (h : 1 ≤ c) (q : QE (.own ((stepL ns 0 c.toNat).map PyData.int)) ρ) : Step0Q (.sh (.list (ns.map PyData.int))) (some c) ρ QE := by
  unfold Step0Q
  exact ⟨_, rfl, _, rfl, h, by rw [step_map]; exact q⟩
theorem st0O {ns : List Int} {c : Int} {k : Nat} {ρ : Rho} {QE : Rz → Rho → Prop} (e : ρ[k]? = some (some (.own (ns.map PyData.int)))) (h : 1 ≤ c) (q : QE (.own ((stepL ns 0 c.toNat).map PyData.int)) ρ) : Step0Q (.brw k) (some c) ρ QE := by
  unfold Step0Q
  exact ⟨ns.map PyData.int, by unfold deref; simp only [e], _, rfl, h, by rw [step_map]; exact q⟩
/-! ### a <= b <= c <= d -/
def tChain3 (r r' r2 : R2) (ta tb tc td : TE) : TE := fun σ H Q => ta σ H fun x H1 => tb σ H1 fun y H2 => r x y H2 fun z H3 => ∃ k, z = .bl k ∧
  (if k = true then tc σ H3 fun w' H4 => r' y w' H4 fun z2 H5 => ∃ k2, z2 = .bl k2 ∧ (if k2 = true then td σ H5 fun u H6 => r2 w' u H6 Q else Q (.bl false) H5) else Q (.bl false) H3)
section
variable {X : Cx} {op op' op2 : CmpOp} {r r' r2 : R2} {a b c d : Expr} {ta tb tc td : TE} {pos : Pos}
theorem pe_chain3 (ho : OpR X (compareOp op) r) (ho' : OpR X (compareOp op') r') (ho2 : OpR X (compareOp op2) r2) (ha : PE X a ta) (hb : PE X b tb) (hc : PE X c tc) (hd : PE X d td)
    (hm : lastMarks [op, op', op2] [b, c, d] = false := by with_unfolding_all rfl) : PE X (.Compare a [op, op', op2] [b, c, d] pos) (tChain3 r r' r2 ta tb tc td) := by
  refine ⟨fun pins s σ H Q I h => ?_⟩
  refine Compare_chain (thn (ha.run pins s σ H _ I h) fun v s1 ⟨x, H1, I1, r1, q1⟩ => chain_link (thn (hb.run pins s1 σ H1 _ I1 q1) fun u s2 ⟨y, H2, I2, q2, q3⟩ =>
    thn (ho pins s2 σ H2 x y v u _ I2 r1 q2 q3) fun e s3 ⟨z, H3, I3, r3, k, ek, q4⟩ => ?_)) hm
  subst ek
  cases r3
  refine wpAny_truthy_bool ?_
  cases k with
  | false => exact ite_ff ⟨.bl false, H3, I3, rfl, q4⟩
  | true =>
    refine ite_tt (chain_link (thn (hc.run pins s3 σ H3 _ I3 q4) fun w' s4 ⟨z', H4, I4, r4, q5⟩ => thn (ho' pins s4 σ H4 y z' u w' _ I4 q2 r4 q5) fun e s5 ⟨z2, H5, I5, r5, k2, ek, q6⟩ => ?_))
    subst ek
    cases r5
    refine wpAny_truthy_bool ?_
    cases k2 with
    | false => exact ite_ff ⟨.bl false, H5, I5, rfl, q6⟩
    | true => exact ite_tt (chain_last (thn (hd.run pins s5 σ H5 _ I5 q6) fun w2 s6 ⟨z3, H6, I6, r6, q7⟩ => ho2 pins s6 σ H6 z' z3 w' w2 Q I6 r4 r6 q7))
theorem pt_chain3 (ho : OpR X (compareOp op) r) (ho' : OpR X (compareOp op') r') (ho2 : OpR X (compareOp op2) r2) (ha : PE X a ta) (hb : PE X b tb) (hc : PE X c tc) (hd : PE X d td)
    (hm : lastMarks [op, op', op2] [b, c, d] = false := by with_unfolding_all rfl) : PT X (.Compare a [op, op', op2] [b, c, d] pos) (tTest (tChain3 r r' r2 ta tb tc td)) := by
  refine ⟨fun pins s σ H Q I h => ?_⟩
  refine isTrue_chain (thn (ha.run pins s σ H _ I h) fun v s1 ⟨x, H1, I1, r1, q1⟩ => test_link (thn (hb.run pins s1 σ H1 _ I1 q1) fun u s2 ⟨y, H2, I2, q2, q3⟩ =>
    thn (ho pins s2 σ H2 x y v u _ I2 r1 q2 q3) fun e s3 ⟨z, H3, I3, r3, k, ek, q4⟩ => ?_)) hm
  subst ek
  cases r3
  refine wpAny_truthy_bool ?_
  cases k with
  | false =>
    obtain ⟨k', e', q'⟩ := q4
    cases e'
    exact ite_ff ⟨H3, I3, q'⟩
  | true =>
    refine ite_tt (test_link (thn (hc.run pins s3 σ H3 _ I3 q4) fun w' s4 ⟨z', H4, I4, r4, q5⟩ => thn (ho' pins s4 σ H4 y z' u w' _ I4 q2 r4 q5) fun e s5 ⟨z2, H5, I5, r5, k2, ek, q6⟩ => ?_))
    subst ek
    cases r5
    refine wpAny_truthy_bool ?_
    cases k2 with
    | false =>
      obtain ⟨k', e', q'⟩ := q6
      cases e'
      exact ite_ff ⟨H5, I5, q'⟩
    | true =>
      refine ite_tt (test_last (thn (hd.run pins s5 σ H5 _ I5 q6) fun w2 s6 ⟨z3, H6, I6, r6, q7⟩ => thn (ho2 pins s6 σ H6 z' z3 w' w2 _ I6 r4 r6 q7) fun e s7 ⟨z4, H7, I7, r7, k3, ek, q8⟩ => ?_))
      subst ek
      cases r7
      exact wpAny_truthy_bool ⟨H7, I7, q8⟩
end
def ch3M (p p' p2 : Int → Int → Bool) (m n l o : EM) : EM := fun ρ => (oneI m ρ).bind fun a => (oneI n a.2).bind fun b => if p a.1 b.1 = true then (oneI l b.2).bind fun c => if p' b.1 c.1 = true then (oneI o c.2).map fun d => (.sh (.bool (p2 c.1 d.1)), d.2) else some (.sh (.bool false), c.2) else some (.sh (.bool false), b.2)
theorem ev_ch3 {p p' p2 : Int → Int → Bool} {ta tb tc td : TE} {m n l o : EM} (ha : EV K ta m) (hb : EV K tb n) (hc : EV K tc l) (hd : EV K td o) : EV K (tChain3 (rI0 fun i j => .bl (p i j)) (rI0 fun i j => .bl (p' i j)) (rI0 fun i j => .bl (p2 i j)) ta tb tc td) (ch3M p p' p2 m n l o) := fun σ ρ F H r ρ' E e Q q => by
  obtain ⟨⟨i, ρ1⟩, e1, e⟩ := bind_some e
  obtain ⟨⟨j, ρ2⟩, e2, e⟩ := bind_some e
  simp only at e
  refine one_int ha E e1 fun F1 H1 P1 => ?_
  refine one_int hb P1.env e2 fun F2 H2 P2 => ?_
  refine ⟨i, j, rfl, rfl, p i j, rfl, ?_⟩
  split at e
  · rename_i hp
    rw [if_pos hp]
    obtain ⟨⟨k, ρ3⟩, e3, e⟩ := bind_some e
    simp only at e
    refine one_int hc P2.env e3 fun F3 H3 P3 => ?_
    refine ⟨j, k, rfl, rfl, p' j k, rfl, ?_⟩
    split at e
    · rename_i hp2
      rw [if_pos hp2]
      obtain ⟨⟨u, ρ4⟩, e4, e⟩ := map_some e
      cases e
      refine one_int hd P3.env e4 fun F4 H4 P4 => ?_
      exact ⟨k, u, rfl, rfl, q _ F4 H4 (P1.trans (P2.trans (P3.trans P4))) (.bl _)⟩
    · rename_i hp2
      rw [if_neg hp2]
      cases e
      exact q _ F3 H3 (P1.trans (P2.trans P3)) (.bl _)
  · rename_i hp
    rw [if_neg hp]
    cases e
    exact q _ F2 H2 (P1.trans P2) (.bl _)
theorem e_ch3 {p p' p2 : Int → Int → Bool} {m n l o : EM} {ρ : Rho} {QE : Rz → Rho → Prop} (h : GoI m ρ fun i ρ1 => GoI n ρ1 fun j ρ2 => if p i j = true then GoI l ρ2 fun k ρ3 => if p' j k = true then GoI o ρ3 fun u ρ4 => QE (.sh (.bool (p2 k u))) ρ4 else QE (.sh (.bool false)) ρ3 else QE (.sh (.bool false)) ρ2) : GoE (ch3M p p' p2 m n l o) ρ QE := by
  obtain ⟨i, ρ1, e1, j, ρ2, e2, q⟩ := h
  refine ⟨?_⟩
  unfold ch3M
  rw [e1, Option.bind_some]
  show ∃ r ρ', ((oneI n ρ1).bind _) = some (r, ρ') ∧ QE r ρ'
  rw [e2, Option.bind_some]
  simp only
  split at q
  · rename_i hp
    rw [if_pos hp]
    obtain ⟨k, ρ3, e3, q⟩ := q
    rw [e3, Option.bind_some]
    simp only
    split at q
    · rename_i hp2
      rw [if_pos hp2]
      obtain ⟨u, ρ4, e4, q⟩ := q
      rw [e4]
      exact ⟨_, _, rfl, q⟩
    · rename_i hp2
      rw [if_neg hp2]
      exact ⟨_, _, rfl, q⟩
  · rename_i hp
    rw [if_neg hp]
    exact ⟨_, _, rfl, q⟩
end Pv

set_option Elab.async false
set_option linter.all false
set_option maxRecDepth 100000
set_option maxHeartbeats 4000000
namespace Pv
open PySem PySem.Spec PyProof.Rows L2 Ws
variable {K : PySem.W.Frag}
/-! ### dicts from ints to ints that stay as they are -/
/-- a dict that is written no more -/
def tFrz (t : TE) : TE := fun σ H Q => t σ H fun v H1 => ∃ d u, v = .ref d ∧ H1 d = some u ∧ Mut (some u) ∧ ∀ od, Q v (upd H1 d (.frz od u))
theorem pe_frz {X : Cx} {e : Expr} {t : TE} (h : PE X e t) : PE X e (tFrz t) := by
  refine ⟨fun pins s σ H Q I hw => ?_⟩
  refine thn (h.run pins s σ H _ I hw) fun v s1 ⟨x, H1, I1, r, d, u, ex, hd, mu, q⟩ => ?_
  obtain ⟨od, I2⟩ := I1.lock hd mu
  exact ⟨x, _, I2, r, q od⟩
def encKV (t : List (Int × Int)) : List (Key × V) := t.map fun q => (.inl q.1, .int q.2)
def encD (t : List (Int × Int)) : List (D × D) := t.map fun q => (.int q.1, .int q.2)
abbrev dcD (t : List (Int × Int)) : D := .dict (encD t)
theorem kvr_enc : ∀ t : List (Int × Int), KvR (encKV t) (encD t)
  | [] => .nil
  | q :: t => .cons q.1 q.2 (kvr_enc t)
theorem kvr_inv : ∀ {kvs : List (Key × V)} {t : List (Int × Int)}, KvR kvs (encD t) → kvs = encKV t
  | _, [], h => by cases h; rfl
  | _, q :: t, h => by
    cases h with
    | cons i j h => rw [kvr_inv h]; rfl
theorem toT : ∀ {ds : List (D × D)} {kvs : List (Key × V)}, KvR kvs ds → ∃ t, ds = encD t ∧ kvs = encKV t
  | _, _, .nil => ⟨[], rfl, rfl⟩
  | _, _, .cons i j h => by
    obtain ⟨t, rfl, rfl⟩ := toT h
    exact ⟨(i, j) :: t, rfl, rfl⟩
/-- what a dict tells -/
def lkD : List (D × D) → Int → Option Int
  | [], _ => none
  | (.int i, .int j) :: r, k => if i = k then some j else lkD r k
  | _ :: r, k => lkD r k
def lkT (t : List (Int × Int)) (k : Int) : Option Int := (t.find? fun q => decide (q.1 = k)).map (·.2)
theorem lkD_enc : ∀ (t : List (Int × Int)) (k : Int), lkD (encD t) k = lkT t k
  | [], k => rfl
  | q :: t, k => by
    show (if q.1 = k then some q.2 else lkD (encD t) k) = _
    unfold lkT
    rw [List.find?_cons]
    by_cases h : q.1 = k
    · rw [if_pos h, decide_eq_true h]
      rfl
    · rw [if_neg h, decide_eq_false h, lkD_enc t k]
      rfl
theorem valV_enc : ∀ (t : List (Int × Int)) (k : Int), valV (encKV t) (.inl k) = (lkT t k).map V.int
  | [], k => rfl
  | q :: t, k => by
    unfold valV encKV lkT
    rw [List.map_cons, List.find?_cons, List.find?_cons]
    by_cases h : q.1 = k
    · rw [decide_eq_true h, decide_eq_true (show (Sum.inl q.1 : Key) = Sum.inl k by rw [h])]
      rfl
    · rw [decide_eq_false h, decide_eq_false (show ¬ (Sum.inl q.1 : Key) = Sum.inl k from fun z => h (Sum.inl.inj z))]
      exact valV_enc t k
theorem Cont.dct {F H : Hp} {v : V} {ds : List (D × D)} (le : Same F H) (h : Cont K F H v (.dict ds)) (n : isDct (.dict ds) = true) : ∃ p o kvs, v = .ref p ∧ H p = some (.frz o (.dK kvs)) ∧ KvR kvs ds := by
  rcases h with h | ⟨p, xs, ds', e, _⟩
  · cases h with
    | scr h => simp [isDct] at n
    | dct h1 h2 => exact ⟨_, _, _, rfl, le _ _ h1, h2⟩
  · cases e
def rDIn : R2 := fun y x H Q => ∃ a o, x = .ref a ∧ DGet H a y o ∧ Q (.bl o.isSome) H
def rDNotIn : R2 := fun y x H Q => ∃ a o, x = .ref a ∧ DGet H a y o ∧ Q (.bl (!o.isSome)) H
def rDGet : R2 := fun x y H Q => ∃ a v, x = .ref a ∧ DGet H a y (some v) ∧ Q v H
def fDIn : List D → Option Rz
  | [.int k, .dict ds] => if isDct (.dict ds) = true then some (.sh (.bool (lkD ds k).isSome)) else none
  | _ => none
def fDNotIn : List D → Option Rz
  | [.int k, .dict ds] => if isDct (.dict ds) = true then some (.sh (.bool (!(lkD ds k).isSome))) else none
  | _ => none
def fDGet : List D → Option Rz
  | [.dict ds, .int k] => if isDct (.dict ds) = true then (lkD ds k).map fun j => .sh (.int j) else none
  | _ => none
theorem dget_enc {H : Hp} {a : Addr} {o : Obj} {kvs : List (Key × V)} {ds : List (D × D)} (h : H a = some (.frz o (.dK kvs))) (r : KvR kvs ds) (k : Int) : DGet H a (.int k) ((lkD ds k).map V.int) := by
  obtain ⟨t, rfl, rfl⟩ := toT r
  refine .inl ⟨_, .inl k, .inr ⟨o, h⟩, rfl, ?_⟩
  rw [valV_enc, lkD_enc]
theorem o_dIn : OpV K (l2 rDIn) fDIn := fun F H vs ds z le c e Q q => by
  unfold fDIn at e
  split at e
  · split at e
    · rename_i k es hn
      cases e
      obtain ⟨x, y, rfl, h1, h2⟩ := cont2 c
      obtain ⟨p, o, kvs, rfl, h3, h4⟩ := h2.dct le hn
      rw [h1.int]
      refine ⟨p, _, rfl, dget_enc h3 h4 k, ?_⟩
      rw [Option.isSome_map]
      exact op_sh le (.bl _) q
    · cases e
  · cases e
theorem o_dNotIn : OpV K (l2 rDNotIn) fDNotIn := fun F H vs ds z le c e Q q => by
  unfold fDNotIn at e
  split at e
  · split at e
    · rename_i k es hn
      cases e
      obtain ⟨x, y, rfl, h1, h2⟩ := cont2 c
      obtain ⟨p, o, kvs, rfl, h3, h4⟩ := h2.dct le hn
      rw [h1.int]
      refine ⟨p, _, rfl, dget_enc h3 h4 k, ?_⟩
      rw [Option.isSome_map]
      exact op_sh le (.bl _) q
    · cases e
  · cases e
theorem o_dGet : OpV K (l2 rDGet) fDGet := fun F H vs ds z le c e Q q => by
  unfold fDGet at e
  split at e
  · split at e
    · rename_i es k hn
      obtain ⟨j, ej, rfl⟩ := map_some e
      obtain ⟨x, y, rfl, h1, h2⟩ := cont2 c
      obtain ⟨p, o, kvs, rfl, h3, h4⟩ := h1.dct le hn
      rw [h2.int]
      have g := dget_enc h3 h4 k
      rw [ej] at g
      exact ⟨p, _, rfl, g, op_sh le (.int _) q⟩
    · cases e
  · cases e
theorem ev_dIn {ta tb : TE} {m n : EM} (ha : EV K ta m) (hb : EV K tb n) : EV K (tDIn ta tb) (opM fDIn (arg2 m n)) := ev_op (r := rDIn) o_dIn ha hb
theorem ev_dNotIn {ta tb : TE} {m n : EM} (ha : EV K ta m) (hb : EV K tb n) : EV K (tDNotIn ta tb) (opM fDNotIn (arg2 m n)) := ev_op (r := rDNotIn) o_dNotIn ha hb
theorem ev_dGet {ta tb : TE} {m n : EM} (ha : EV K ta m) (hb : EV K tb n) : EV K (tDGet ta tb) (opM fDGet (arg2 m n)) := ev_op (r := rDGet) o_dGet ha hb
theorem dct_enc (t : List (Int × Int)) : isDct (dcD t) = true := kvr_dct (kvr_enc t)
theorem fz_dIn {t : List (Int × Int)} {k : Int} {QZ : Rz → Prop} (q : QZ (.sh (.bool (lkT t k).isSome))) : ∃ z, fDIn [.int k, dcD t] = some z ∧ QZ z := ⟨_, by unfold fDIn; simp only [dct_enc, if_true, lkD_enc], q⟩
theorem fz_dNotIn {t : List (Int × Int)} {k : Int} {QZ : Rz → Prop} (q : QZ (.sh (.bool (!(lkT t k).isSome)))) : ∃ z, fDNotIn [.int k, dcD t] = some z ∧ QZ z := ⟨_, by unfold fDNotIn; simp only [dct_enc, if_true, lkD_enc], q⟩
theorem fz_dGet {t : List (Int × Int)} {k j : Int} {QZ : Rz → Prop} (h : lkT t k = some j) (q : QZ (.sh (.int j))) : ∃ z, fDGet [dcD t, .int k] = some z ∧ QZ z := ⟨_, by unfold fDGet; simp only [dct_enc, if_true, lkD_enc, h, Option.map_some], q⟩
/-! len(d) -/
def rLenD : List V → Hp → VK → Prop := fun xs H Q => ∃ a kvs, xs = [V.ref a] ∧ Rd H a (.dK kvs) ∧ Q (.int (kvs.length : Nat)) H
theorem lenD {X : Cx} : CallR X (.builtin "len") rLenD := by
  intro pins s σ H xs us Q I r h
  obtain ⟨a, kvs, e, ha, q⟩ := h
  subst e
  obtain ⟨u, eu, ru⟩ := vals1 r
  subst eu
  cases ru
  exact d_len I ha fun t s' I' => ⟨.int (kvs.length : Nat), H, I', ⟨t, rfl⟩, q⟩
def fLenD : List D → Option Rz
  | [.dict ds] => if isDct (.dict ds) = true then some (.sh (.int (ds.length : Nat))) else none
  | _ => none
theorem kvr_len : ∀ {kvs : List (Key × V)} {ds : List (D × D)}, KvR kvs ds → kvs.length = ds.length
  | _, _, .nil => rfl
  | _, _, .cons _ _ h => by rw [List.length_cons, List.length_cons, kvr_len h]
theorem o_lenD : OpV K rLenD fLenD := fun F H vs ds z le c e Q q => by
  unfold fLenD at e
  split at e
  · split at e
    · rename_i es hn
      cases e
      obtain ⟨x, rfl, h1⟩ := cont1 c
      obtain ⟨p, o, kvs, rfl, h3, h4⟩ := h1.dct le hn
      exact ⟨p, kvs, rfl, .inr ⟨o, h3⟩, by rw [kvr_len h4]; exact op_sh le (.int _) q⟩
    · cases e
  · cases e
theorem fz_lenD {t : List (Int × Int)} {QZ : Rz → Prop} (q : QZ (.sh (.int (t.length : Nat)))) : ∃ z, fLenD [dcD t] = some z ∧ QZ z := ⟨_, by unfold fLenD; simp only [dct_enc, if_true]; rw [show (encD t).length = t.length by unfold encD; rw [List.length_map]], q⟩
/-! walks -/
theorem kvr_get : ∀ {kvs : List (Key × V)} {ds : List (D × D)} {i : Nat}, KvR kvs ds → i < ds.length → ∃ a b : Int, kvs[i]? = some (.inl a, .int b) ∧ ds[i]? = some (.int a, .int b)
  | _, _, _, .nil, h => by simp at h
  | _, _, 0, .cons a b _, _ => ⟨a, b, rfl, rfl⟩
  | _, _, i + 1, .cons _ _ r, h => by
    obtain ⟨a, b, e1, e2⟩ := kvr_get (i := i) r (by simpa using h)
    exact ⟨a, b, by simpa using e1, by simpa using e2⟩
def keysD (ds : List (D × D)) : List D := ds.map (·.1)
def itemsD (ds : List (D × D)) : List D := ds.map fun q => .tuple [q.1, q.2]
theorem walks_keys {F : Hp} {d : Addr} {o : Obj} {kvs : List (Key × V)} {ds : List (D × D)} (ha : F d = some (.frz o (.dK kvs))) (r : KvR kvs ds) : Walks K (Itk d o kvs) F (keysD ds) where
  go := fun i H s h => ⟨s _ _ ha, by rw [kvr_len r]; simpa [keysD] using h⟩
  stop := fun H s => ⟨s _ _ ha, by rw [kvr_len r]; simp [keysD]⟩
  yld := fun i F1 H x H' s s1 h y => by
    obtain ⟨rfl, k, v, e, rfl⟩ := y
    obtain ⟨a, b, e1, e2⟩ := kvr_get r (by simpa [keysD] using h)
    rw [e1] at e
    cases e
    exact ⟨F1, .int a, by unfold keysD; rw [List.getElem?_map, e2]; rfl, Same.refl _, Same.refl _, s1, fun _ _ => rfl, .int a⟩
theorem walks_items {F : Hp} {d : Addr} {o : Obj} {kvs : List (Key × V)} {ds : List (D × D)} (ha : F d = some (.frz o (.dK kvs))) (r : KvR kvs ds) : Walks K (Iti d o kvs) F (itemsD ds) where
  go := fun i H s h => ⟨s _ _ ha, by rw [kvr_len r]; simpa [itemsD] using h⟩
  stop := fun H s => ⟨s _ _ ha, by rw [kvr_len r]; simp [itemsD]⟩
  yld := fun i F1 H x H' s s1 h y => by
    obtain ⟨T, k, v, e, rfl, hT, rfl⟩ := y
    obtain ⟨a, b, e1, e2⟩ := kvr_get r (by simpa [itemsD] using h)
    rw [e1] at e
    cases e
    obtain ⟨F2, a1, a2, a3, a4, a5⟩ := pair_new (K := K) (x := kV (.inl a)) (y := .int b) (a := .int a) (b := .int b) s1 hT (.int a) (.int b)
    exact ⟨F2, _, by unfold itemsD; rw [List.getElem?_map, e2]; rfl, a1, a2, a3, a4, a5⟩
def keysM (m : EM) : IM := fun ρ => (m ρ).bind fun a => match a.1 with
  | .sh (.dict ds) => if isDct (.dict ds) = true then some (keysD ds, a.2) else none
  | _ => none
def itemsM (m : EM) : IM := fun ρ => (m ρ).bind fun a => match a.1 with
  | .sh (.dict ds) => if isDct (.dict ds) = true then some (itemsD ds, a.2) else none
  | _ => none
theorem rp_dct {F : Hp} {v : V} {ds : List (D × D)} (h : Rp K F v (.dict ds)) (n : isDct (.dict ds) = true) : ∃ d o kvs, v = .ref d ∧ F d = some (.frz o (.dK kvs)) ∧ KvR kvs ds := by
  cases h with
  | scr h => simp [isDct] at n
  | dct h1 h2 => exact ⟨_, _, _, rfl, h1, h2⟩
theorem iv_keys {te : TE} {m : EM} (h : EV K te m) : IV K (iKeys te) (keysM m) := fun σ ρ F H ds ρ' E e Q q => by
  obtain ⟨⟨r, ρ1⟩, e1, e⟩ := bind_some e
  simp only at e
  split at e
  · split at e
    · rename_i es hn
      cases e
      refine h σ ρ F H _ _ E e1 _ fun v F1 H1 P1 R1 => ?_
      obtain ⟨d, o, kvs, rfl, h3, h4⟩ := rp_dct R1 hn
      exact ⟨d, o, rfl, .inl ⟨kvs, P1.env.le _ _ h3, q _ F1 H1 P1 (walks_keys h3 h4)⟩⟩
    · cases e
  · cases e
theorem iv_items {te : TE} {m : EM} (h : EV K te m) : IV K (iItems te) (itemsM m) := fun σ ρ F H ds ρ' E e Q q => by
  obtain ⟨⟨r, ρ1⟩, e1, e⟩ := bind_some e
  simp only at e
  split at e
  · split at e
    · rename_i es hn
      cases e
      refine h σ ρ F H _ _ E e1 _ fun v F1 H1 P1 R1 => ?_
      obtain ⟨d, o, kvs, rfl, h3, h4⟩ := rp_dct R1 hn
      exact ⟨d, o, kvs, rfl, P1.env.le _ _ h3, q _ F1 H1 P1 (walks_items h3 h4)⟩
    · cases e
  · cases e
@[irreducible] def DctQ (r : Rz) (ρ : Rho) (R : List (Int × Int) → Prop) : Prop := ∃ t, r = .sh (dcD t) ∧ R t
theorem dctq {t : List (Int × Int)} {ρ : Rho} {R : List (Int × Int) → Prop} (q : R t) : DctQ (.sh (dcD t)) ρ R := by
  unfold DctQ
  exact ⟨t, rfl, q⟩
def ksD (t : List (Int × Int)) : List D := t.map fun q => .int q.1
def isD (t : List (Int × Int)) : List D := t.map prD
theorem keys_enc (t : List (Int × Int)) : keysD (encD t) = ksD t := by
  unfold keysD encD ksD
  rw [List.map_map]
  rfl
theorem items_enc (t : List (Int × Int)) : itemsD (encD t) = isD t := by
  unfold itemsD encD isD
  rw [List.map_map]
  rfl
theorem w_keys {m : EM} {ρ : Rho} {QW : List D → Rho → Prop} (h : GoE m ρ fun r ρ1 => DctQ r ρ1 fun t => QW (ksD t) ρ1) : GoW (keysM m) ρ QW := by
  obtain ⟨r, ρ1, e, h⟩ := h
  unfold DctQ at h
  obtain ⟨t, rfl, q⟩ := h
  refine ⟨_, ρ1, ?_, q⟩
  unfold keysM
  rw [e, Option.bind_some]
  simp only [dct_enc, if_true, keys_enc]
theorem w_items {m : EM} {ρ : Rho} {QW : List D → Rho → Prop} (h : GoE m ρ fun r ρ1 => DctQ r ρ1 fun t => QW (isD t) ρ1) : GoW (itemsM m) ρ QW := by
  obtain ⟨r, ρ1, e, h⟩ := h
  unfold DctQ at h
  obtain ⟨t, rfl, q⟩ := h
  refine ⟨_, ρ1, ?_, q⟩
  unfold itemsM
  rw [e, Option.bind_some]
  simp only [dct_enc, if_true, items_enc]
end Pv

set_option Elab.async false
set_option linter.all false
set_option maxRecDepth 100000
set_option maxHeartbeats 4000000
namespace Pv
open PySem PySem.Spec PyProof.Rows L2 Ws
variable {K : PySem.W.Frag}
/-! ### sorted(d), d a dict of ints -/
def rSortedDK : List V → Hp → VK → Prop := fun vs H Q => ∃ (d : Addr) (t : List (Int × Int)), vs = [.ref d] ∧ Rd H d (.dK (encKV t)) ∧ t.length ≤ 1000 ∧
  ∀ (ys : List Int) (p : Addr), ys.Perm (t.map (·.1)) → ys.Pairwise (· ≤ ·) → H p = none → Q (.ref p) (upd H p (.lst (ys.map V.int)))
theorem keys_ints {us : List Value} {t : List (Int × Int)} (hl : us.length = t.length) (h : ∀ (j : Nat) (q : Int × Int), t[j]? = some q → ∃ tk, us[j]? = some (Value.int q.1 tk)) : IntsAre us (t.map (·.1)) := by
  refine ints_each (by rw [List.length_map]; exact hl) fun j v e => ?_
  have hj : j < t.length := by
    rw [← hl]
    exact (List.getElem?_eq_some_iff.mp e).1
  obtain ⟨tk, e2⟩ := h j t[j] (List.getElem?_eq_getElem hj)
  rw [e] at e2
  cases e2
  exact ⟨_, tk, by rw [List.getElem?_map, List.getElem?_eq_getElem hj]; rfl, rfl⟩
theorem call_sortedDK {X : Cx} (hcalm : X.calm = true) : CallR X (.builtin "sorted") rSortedDK := by
  intro pins s σ H xs us Q I r h
  obtain ⟨d, t, e0, hd, ht, q⟩ := h
  subst e0
  obtain ⟨u0, e1, r0⟩ := vals1 r
  subst e1
  cases r0
  obtain ⟨z, low, ws, rel, at0⟩ := dk_rd I.hok hd
  obtain ⟨ep, at1⟩ := at0.dictAt
  have kk : ws.map (·.1) = (t.map fun p => (Sum.inl p.1 : Key)) := by
    have := rel.keys
    unfold encKV at this
    rw [← this, List.map_map]
    rfl
  have ll : ws.length = t.length := by simpa using congrArg List.length kk
  have big : ws.length ≤ sizeLine := by
    rw [ll, sizeLine_eq]
    omega
  have entry := Calls.call_function_entry (prog := X.prog) (w := X.w) (A := X.A) (E := X.xe) (s := s) (Q := EP X pins σ Q) kind_sorted plain_sorted entry_sorted (args_sorted1 (.ref d))
  refine entry ?_
  unfold Builtin.«sorted»
  apply wpAny_bind (m := checkCount "sorted" 1 1 _)
  refine wpAny_pure (wpAny_bind (PySem.W.kdu_collect (PySem.W.kdl_dict (knd := mixKind X.prog X.w) low) (I.ok.hd hcalm) at1 big fun h1 tk1 acc keep hacc => ?_))
  have al : acc.toList.length = t.length := by
    rw [Array.length_toList, ← ll]
    exact hacc.1
  have ia : IntsAre acc.toList (t.map (·.1)) := keys_ints al fun j q0 ej => by
    have hj : j < acc.toList.length := by
      rw [al]
      exact (List.getElem?_eq_some_iff.mp ej).1
    obtain ⟨k, x, e2, e3⟩ := hacc.2 j acc.toList[j] (by rw [← Array.getElem?_toList]; exact List.getElem?_eq_getElem hj)
    have e4 : (ws.map (·.1))[j]? = some k := by
      rw [List.getElem?_map, e2]
      rfl
    rw [kk, List.getElem?_map, ej] at e4
    have e5 : (Sum.inl q0.1 : Key) = k := Option.some.inj e4
    subst e5
    have e6 : keyIs (Sum.inl q0.1) acc.toList[j] = true := e3
    rcases keyIs_shape e6 with ⟨i, tk, ek, ev⟩ | ⟨_, _, ek, _⟩
    · cases ek
      exact ⟨tk, by rw [List.getElem?_eq_getElem hj, ev]⟩
    · cases ek
  have I1 : Inv X pins σ H { s with heap := h1, toks := tk1 } := I.kept keep
  have small : acc.toList.length ≤ sizeLine := by rw [al, sizeLine_eq]; omega
  refine wpAny_bind (wpAny_newList ?_ small)
  generalize hp : h1.push (seqObj "list" acc.toList.toArray 0) = h2
  have at2 : h2.get? h1.objs.size = some (seqObj "list" acc.toList.toArray 0) := by
    rw [← hp]
    exact Heap.get?_push_size _ rfl
  have sz : h2.objs.size = h1.objs.size + 1 := by
    rw [← hp, size_push']
  show wpAny _ _ _ _ _ { s with heap := h2, toks := tk1 }
  refine wpAny_bind (wpAny_holding (wpAny_call_entry slot_list_sort ⟨_, at2, rfl⟩ entry_list_sort ?_ (args_list_sort _)))
  refine list_sort_treeAny at2 ia small fun out ys g1 g2 g3 => ⟨_, rfl, ?_⟩
  obtain ⟨e', he'⟩ := sortedHeap_at (vs := acc.toList) (out := out) at2
  have hlen : (ys.map V.int).length ≤ sizeLine := by
    rw [List.length_map, g2.length_eq, List.length_map, sizeLine_eq]
    omega
  have old : ∀ b o, h1.get? b = some o → (sortedHeap h2 h1.objs.size acc.toList out).get? b = some o := fun b o e => by
    have lt : b < h1.objs.size := Heap.lt_size e
    have e7 : h2.get? b = some o := by
      rw [← hp]
      exact Heap.get?_push_of_some _ e
    rw [← e7]
    refine sortedHeap_old (Nat.ne_of_lt lt) ?_
    rw [sz]
    exact Nat.lt_succ_of_lt lt
  have lay := I1.laid (t' := tk1) (a := h1.objs.size) (o := .lst (ys.map V.int)) old (Nat.le_refl _) ⟨hlen, out.toList, e', vals_of_ints g1, by rw [Array.toArray_toList]; exact he'⟩
  exact wpAny_pure ⟨_, rfl, .ref h1.objs.size, upd H h1.objs.size (.lst (ys.map V.int)), lay, rfl, q ys _ g2 g3 (I1.hok.fresh (Nat.le_refl _))⟩
def fSortedDK : List D → Option Rz
  | [.dict ds] => if isDct (.dict ds) = true ∧ ds.length ≤ 1000 then (toInts (keysD ds)).map fun ns => .own ((srt ns).map PyData.int) else none
  | _ => none
theorem toInts_keys (t : List (Int × Int)) : toInts (keysD (encD t)) = some (t.map (·.1)) := by
  rw [keys_enc]
  show toInts (t.map fun q => PyData.int q.1) = _
  rw [show (t.map fun q => PyData.int q.1) = (t.map (·.1)).map PyData.int by rw [List.map_map]; rfl]
  exact toInts_map _
theorem o_sortedDK : OpV K rSortedDK fSortedDK := fun F H vs ds z le c e Q q => by
  unfold fSortedDK at e
  split at e
  · split at e
    · rename_i es hn
      obtain ⟨x, rfl, h1⟩ := cont1 c
      obtain ⟨p, o, kvs, rfl, h3, h4⟩ := h1.dct le hn.1
      obtain ⟨t, rfl, rfl⟩ := toT h4
      rw [toInts_keys] at e
      cases e
      refine ⟨p, t, rfl, .inr ⟨o, h3⟩, by simpa [encD] using hn.2, fun ys p2 g1 g2 hp => ?_⟩
      have : ys = srt (t.map (·.1)) := srt_uniq g1 g2
      rw [this]
      exact op_new le hp (RpA.ofInts _) q
    · cases e
  · cases e
theorem fz_sortedDK {t : List (Int × Int)} {QZ : Rz → Prop} (h : t.length ≤ 1000) (q : QZ (.own ((srt (t.map (·.1))).map PyData.int))) : ∃ z, fSortedDK [dcD t] = some z ∧ QZ z := ⟨_, by
  have l : (encD t).length ≤ 1000 := by unfold encD; rw [List.length_map]; exact h
  unfold fSortedDK
  simp only [dct_enc, true_and, if_pos l, toInts_keys, Option.map_some], q⟩
end Pv
namespace Pv
open PySem PySem.Spec PyProof.Rows L2 Ws
variable {K : PySem.W.Frag}
/-! ### the greatest of three -/
theorem nu2 (i j : Int) : nuMax2 (.int i) (.int j) = some (.int (max i j)) := by
  show (some (decide (i < j))).map (fun c => if c = true then V.int j else V.int i) = _
  by_cases h : i < j
  · rw [Int.max_eq_right (Int.le_of_lt h), decide_eq_true h]
    rfl
  · rw [Int.max_eq_left (by omega), decide_eq_false h]
    rfl
theorem call_max3 {X : Cx} (hc : X.calm = true) : CallR X (.builtin "max") (fun xs H Q => ∃ i j k, xs = [.int i, .int j, .int k] ∧ Q (.int (max (max i j) k)) H) := fun pins s σ H xs us Q I r h => by
  obtain ⟨i, j, k, e, q⟩ := h
  refine call_max3Nu hc pins s σ H xs us Q I r ⟨.int i, .int j, .int k, .int (max (max i j) k), e, ?_, q⟩
  unfold nuMax3
  rw [nu2, Option.bind_some, nu2]
def fMax3 : List D → Option Rz
  | [.int i, .int j, .int k] => some (.sh (.int (max (max i j) k)))
  | _ => none
theorem o_max3 : OpV K (fun xs H Q => ∃ i j k, xs = [.int i, .int j, .int k] ∧ Q (.int (max (max i j) k)) H) fMax3 := fun F H vs ds z le c e Q q => by
  unfold fMax3 at e
  split at e
  · rename_i i j k
    cases e
    cases c with
    | cons a c =>
      cases c with
      | cons b c =>
        cases c with
        | cons d c =>
          cases c
          exact ⟨i, j, k, by rw [a.int, b.int, d.int], op_sh le (.int _) q⟩
  · cases e
theorem fz_max3 {i j k : Int} {QZ : Rz → Prop} (q : QZ (.sh (.int (max (max i j) k)))) : ∃ z, fMax3 [.int i, .int j, .int k] = some z ∧ QZ z := ⟨_, rfl, q⟩
end Pv

set_option Elab.async false
set_option linter.all false
set_option maxRecDepth 100000
set_option maxHeartbeats 4000000
/-! ### a tree of days: which day was reached from which -/
namespace Tr
def bes (p q n day : Int) : List Int := [day - p, day - q, day + p, day + q].filter fun o => decide (0 ≤ o) && decide (o < n)
abbrev TL := List (Int × Int) × List Int
def stp (day : Int) (s : TL) (o : Int) : TL := if (Pv.lkT s.1 o).isSome = true then s else (s.1 ++ [(o, day)], s.2 ++ [o])
def dy (p q n : Int) (s : TL) (day : Int) : TL := (bes p q n day).foldl (stp day) s
def bfs (p q n : Int) : Nat → List (Int × Int) → List Int → Option (List (Int × Int))
  | 0, _, _ => none
  | k + 1, t, near => if near = [] then some t else bfs p q n k (near.foldl (dy p q n) (t, [])).1 (near.foldl (dy p q n) (t, [])).2
theorem stp_len (day : Int) (s : TL) (o : Int) : s.1.length ≤ (stp day s o).1.length ∧ (stp day s o).2.length + s.1.length = s.2.length + (stp day s o).1.length := by
  unfold stp
  split
  · exact ⟨Nat.le_refl _, rfl⟩
  · simp
    omega
theorem fold_len (day : Int) : ∀ (os : List Int) (s : TL), s.1.length ≤ (os.foldl (stp day) s).1.length ∧ (os.foldl (stp day) s).2.length + s.1.length = s.2.length + (os.foldl (stp day) s).1.length
  | [], s => ⟨Nat.le_refl _, rfl⟩
  | o :: os, s => by
    have a := stp_len day s o
    have b := fold_len day os (stp day s o)
    rw [List.foldl_cons]
    omega
theorem days_len (p q n : Int) : ∀ (near : List Int) (s : TL), s.1.length ≤ (near.foldl (dy p q n) s).1.length ∧ (near.foldl (dy p q n) s).2.length + s.1.length = s.2.length + (near.foldl (dy p q n) s).1.length
  | [], s => ⟨Nat.le_refl _, rfl⟩
  | d :: near, s => by
    have a := fold_len d (bes p q n d) s
    have b := days_len p q n near (dy p q n s d)
    rw [List.foldl_cons]
    unfold dy at b ⊢
    omega
theorem bfs_len (p q n : Int) : ∀ (k : Nat) (t : List (Int × Int)) (near : List Int) (f : List (Int × Int)), bfs p q n k t near = some f → t.length ≤ f.length
  | 0, _, _, _, h => by cases h
  | k + 1, t, near, f, h => by
    unfold bfs at h
    split at h
    · cases h
      exact Nat.le_refl _
    · have := bfs_len p q n k _ _ f h
      have := (days_len p q n near (t, [])).1
      simp only at this
      omega
end Tr
namespace Pv
open PySem PySem.Spec PyProof.Rows L2 Ws
variable {K : PySem.W.Frag}
/-- if x, x a list -/
def tTr (K : PySem.W.Frag) (te : TE) : TT := fun σ H Q => te σ H fun x H' => ∃ k, TruV K x H' k ∧ Q k H'
theorem pt_tr {X : Cx} {a : Expr} {ta : TE} (ha : PE X a ta) (h : X.K = K := by rfl) (he : ∀ whole, isTrue a X.env whole = (do let v ← whole; standAt a.pos; holding [v] (truthy v)) := by exact fun _ => rfl) : PT X a (tTr K ta) := by
  subst h
  exact pt_truth ha he
theorem putK_new {t : List (Int × Int)} {o d : Int} (h : lkT t o = none) : putK (encKV t) (.inl o) (.int d) = encKV (t ++ [(o, d)]) := by
  unfold putK
  rw [if_neg]
  · unfold encKV
    rw [List.map_append]
    rfl
  · intro z
    rw [List.any_eq_true] at z
    obtain ⟨kv, hm, e⟩ := z
    unfold encKV at hm
    obtain ⟨q, hq, rfl⟩ := List.mem_map.mp hm
    have e1 : q.1 = o := Sum.inl.inj (of_decide_eq_true e)
    unfold lkT at h
    rw [Option.map_eq_none_iff, List.find?_eq_none] at h
    exact h q hq (decide_eq_true e1)
def m_tree : SM := fun ρ => match ρ with
  | [some (.sh (.int s)), some (.sh (.int n)), some (.sh (.tuple [.int p, .int q])), none, none, none, none, none] =>
    (Tr.bfs p q n 1000 [(s, s)] [s]).bind fun t => if t.length ≤ 1000 then some (.rt (.sh (dcD t)) (List.replicate 8 none)) else none
  | _ => none
abbrev tsTree (K : PySem.W.Frag) (pb : List D → Option Rz) (E0 : XK) : TS :=
  tSeq (tAsg (tDisp [(tVar 0, tVar 0)]) (gName 3))
  (tSeq (tAsg (tLst (tCons (tVar 0) tNil)) (gName 4))
  (tSeq (tWhile (tTr K (tVar 4))
    (tSeq (tAsg (tLst tNil) (gName 5))
    (tSeq (tFor (iList K (tVar 4)) (gName 6)
      (tFor (iList K (tCall (spP K pb) [] E0 (tCons (tVar 6) (tCons (tVar 1) (tCons (tVar 2) tNil))))) (gName 7)
        (tIfS (tB (tDNotIn (tVar 7) (tVar 3)))
          (tSeq (sDPut (tVar 3) (tVar 7) (tVar 6))
            (tDrop (tBM K "list" rAppend (tVar 5) (tCons (tVar 7) tNil))))
          tNext)))
    (tAsg (tVar 5) (gName 4)))))
  (tRet (tFrz (tVar 3)))))
/-- how it stands in a turn of the outer loop -/
structure TrSt (F0 H0 : Hp) (n : Int) (v2 : V) (σ : L2.St) (H : Hp) (t : List (Int × Int)) (near : List Int) : Prop where
  ex : ∃ (s : Int) (a b : Addr) (x5 x6 x7 : Option V), σ = [some (.int s), some (.int n), some v2, some (.ref a), some (.ref b), x5, x6, x7] ∧ H a = some (.dK (encKV t)) ∧ H b = some (.lst (near.map V.int)) ∧ H0 a = none ∧ H0 b = none
  le : Same H0 H
structure TrIn (F0 H0 : Hp) (n : Int) (v2 : V) (near : List Int) (σ : L2.St) (H : Hp) (s : Tr.TL) : Prop where
  ex : ∃ (i : Int) (a b l : Addr) (x6 x7 : Option V), σ = [some (.int i), some (.int n), some v2, some (.ref a), some (.ref b), some (.ref l), x6, x7] ∧ H a = some (.dK (encKV s.1)) ∧ H b = some (.lst (near.map V.int)) ∧ H l = some (.lst (s.2.map V.int)) ∧ H0 a = none ∧ H0 b = none ∧ H0 l = none ∧ b ≠ l
  le : Same H0 H
theorem upd_keep {H : Hp} {a b : Addr} {o o' : HO} (h : H b = some o) (n : b ≠ a) : upd H a o' b = some o := by rw [upd_ne n]; exact h
theorem same_upd {H0 H : Hp} {a : Addr} {o : HO} (s : Same H0 H) (n : H0 a = none) : Same H0 (upd H a o) := fun b x e => by
  have : b ≠ a := fun z => by rw [z, n] at e; cases e
  rw [upd_ne this]
  exact s b x e
theorem addr_ne {H : Hp} {a b : Addr} {x y : HO} (h : H a = some x) (g : H b = some y) (n : x ≠ y) : a ≠ b := fun z => by
  subst z
  rw [h] at g
  exact n (Option.some.inj g)
theorem new_ne {H : Hp} {a b : Addr} {x : HO} (h : H a = some x) (g : H b = none) : a ≠ b := fun z => by
  subst z
  rw [h] at g
  cases g
theorem fresh_back {H0 H : Hp} {a : Addr} (s : Same H0 H) (h : H a = none) : H0 a = none := by
  cases e : H0 a with
  | none => rfl
  | some o =>
    rw [s a o e] at h
    cases h
theorem getD_int {l : List Int} {i : Nat} (h : i < l.length) : (l.map V.int)[i]? = some (V.int (l[i])) := by
  rw [List.getElem?_map, List.getElem?_eq_getElem h]
  rfl
theorem bes_len (p q n d : Int) : (Tr.bes p q n d).length ≤ 4 := Nat.le_trans (List.length_filter_le _ _) (Nat.le_refl 4)
theorem lk_some {t : List (Int × Int)} {o : Int} (h : (lkT t o).isSome = false) : lkT t o = none := by
  cases e : lkT t o with
  | none => rfl
  | some x => rw [e] at h; cases h
/-- one day beside another one -/
theorem tr_one {F0 H0 : Hp} {n : Int} {v2 : V} {near : List Int} {σ : L2.St} {H : Hp} {st : Tr.TL} {day o : Int} {En : Ends} (h : TrIn F0 H0 n v2 near σ H st) (h6 : σ[6]? = some (some (.int day)))
    (l1 : st.1.length ≤ 1000) (l2 : st.2.length ≤ 1000) (q : ∀ H', TrIn F0 H0 n v2 near (σ.set 7 (some (.int o))) H' (Tr.stp day st o) → (∀ x u, σ[3]? ≠ some (some (.ref x)) → σ[5]? ≠ some (some (.ref x)) → H x = some u → H' x = some u) → En.nx (σ.set 7 (some (.int o))) H') :
    tIfS (tB (tDNotIn (tVar 7) (tVar 3))) (tSeq (sDPut (tVar 3) (tVar 7) (tVar 6)) (tDrop (tBM K "list" rAppend (tVar 5) (tCons (tVar 7) tNil)))) tNext En (σ.set 7 (some (.int o))) H := by
  obtain ⟨⟨i, a, b, l, x6, x7, rfl, ha, hb, hl, fa, fb, fl, bl⟩, le⟩ := h
  cases h6
  have nal : a ≠ l := addr_ne ha hl (fun z => by cases z)
  have nba : b ≠ a := addr_ne hb ha (fun z => by cases z)
  refine ⟨.int o, rfl, .ref a, rfl, a, valV (encKV st.1) (.inl o), rfl, DGet.k (k := .inl o) ha, _, rfl, ?_⟩
  rw [valV_enc, Option.isSome_map]
  cases hs : (lkT st.1 o).isSome with
  | true =>
    refine iteN (by decide) ?_
    refine q H ⟨⟨i, a, b, l, _, _, rfl, ?_, hb, ?_, fa, fb, fl, bl⟩, le⟩ fun _ _ _ _ h => h
    · unfold Tr.stp
      rw [if_pos hs]
      exact ha
    · unfold Tr.stp
      rw [if_pos hs]
      exact hl
  | false =>
    refine iteP rfl ?_
    have e1 : Tr.stp day st o = (st.1 ++ [(o, day)], st.2 ++ [o]) := by
      unfold Tr.stp
      rw [if_neg (by rw [hs]; decide)]
    refine ⟨.int day, rfl, .ref a, rfl, .int o, rfl, a, _, rfl, DPut.k (k := .inl o) ha (by unfold encKV; rw [List.length_map, sizeLine_eq]; omega), ?_⟩
    have hl2 : upd H a (.dK (putK (encKV st.1) (.inl o) (.int day))) l = some (.lst (st.2.map V.int)) := upd_keep hl (Ne.symm nal)
    refine ⟨.ref l, rfl, .inl ⟨rfl, _, SqL.of hl2⟩, .int o, rfl, l, st.2.map V.int, .int o, rfl, rfl, hl2, by rw [List.length_map, sizeLine_eq]; omega, ?_⟩
    refine q _ ⟨⟨i, a, b, l, _, _, rfl, ?_, ?_, ?_, fa, fb, fl, bl⟩, same_upd (same_upd le fa) fl⟩ fun x u n3 n5 hx => upd_keep (upd_keep hx fun z => n3 (by rw [z]; rfl)) fun z => n5 (by rw [z]; rfl)
    · rw [e1, upd_ne nal, upd_same, putK_new (lk_some hs)]
    · exact upd_keep (upd_keep hb nba) bl
    · rw [upd_same, e1, List.map_append]
      rfl
/-- the days beside one day -/
theorem tr_day {F0 H0 : Hp} {n p qq : Int} {v2 : V} {near : List Int} {σ : L2.St} {H : Hp} {st : Tr.TL} {day : Int} {En : Ends} {pb : List D → Option Rz} {E0 : XK} (hpb : ∀ day n p q : Int, pb [.int day, .int n, .tuple [.int p, .int q]] = some (.own ((Tr.bes p q n day).map PyData.int)))
    (s0 : Same F0 H0) (r2 : Rp K F0 v2 (.tuple [.int p, .int qq])) (h : TrIn F0 H0 n v2 near σ H st) (l1 : (Tr.dy p qq n st day).1.length ≤ 1000) (l2 : (Tr.dy p qq n st day).2.length ≤ 1000)
    (q : ∀ σ' H', TrIn F0 H0 n v2 near σ' H' (Tr.dy p qq n st day) → σ'[4]? = σ[4]? → En.nx σ' H') :
    tFor (iList K (tCall (spP K pb) [] E0 (tCons (tVar 6) (tCons (tVar 1) (tCons (tVar 2) tNil))))) (gName 7)
        (tIfS (tB (tDNotIn (tVar 7) (tVar 3)))
          (tSeq (sDPut (tVar 3) (tVar 7) (tVar 6))
            (tDrop (tBM K "list" rAppend (tVar 5) (tCons (tVar 7) tNil))))
          tNext) En (σ.set 6 (some (.int day))) H := by
  have h' : TrIn F0 H0 n v2 near (σ.set 6 (some (.int day))) H st := by
    obtain ⟨⟨i, a, b, l, x6, x7, rfl, r⟩, le⟩ := h
    exact ⟨⟨i, a, b, l, _, _, rfl, r⟩, le⟩
  have g6 : (σ.set 6 (some (.int day)))[6]? = some (some (.int day)) := by
    obtain ⟨⟨i, a, b, l, x6, x7, rfl, r⟩, le⟩ := h
    rfl
  have g4 : (σ.set 6 (some (.int day)))[4]? = σ[4]? := List.getElem?_set_ne (by decide)
  generalize σ.set 6 (some (V.int day)) = σ1 at h' g6 g4
  clear h
  rw [← g4] at q
  clear g4
  have hh := h'
  obtain ⟨⟨i, a, b, l, x6, x7, rfl, ha, hb, hl, fa, fb, fl, bl⟩, le⟩ := h'
  cases g6
  refine ⟨.int day, rfl, .int n, rfl, v2, rfl, ?_⟩
  refine ⟨F0, [.int day, .int n, .tuple [.int p, .int qq]], _, s0.trans le, .cons (.int _) (.cons (.int _) (.cons r2 .nil)), hpb day n p qq, fun v F' H' sF sH sFH nf rr => ?_⟩
  obtain ⟨c, xs, rfl, hc0, hc, fc, rx⟩ := rr
  have ex := RpA.ints rx
  subst ex
  have hh2 : TrIn F0 H0 n v2 near [some (.int i), some (.int n), some v2, some (.ref a), some (.ref b), some (.ref l), some (.int day), x7] H' st := ⟨⟨i, a, b, l, _, _, rfl, sH _ _ ha, sH _ _ hb, sH _ _ hl, fa, fb, fl, bl⟩, le.trans sH⟩
  have nca : c ≠ a := Ne.symm (new_ne ha hc0)
  have ncb : c ≠ b := Ne.symm (new_ne hb hc0)
  have ncl : c ≠ l := Ne.symm (new_ne hl hc0)
  refine ⟨c, rfl, ⟨_, SqL.of hc⟩, fun i m σ H => m = (Tr.bes p qq n day).length - i ∧ i ≤ (Tr.bes p qq n day).length ∧ TrIn F0 H0 n v2 near σ H (((Tr.bes p qq n day).take i).foldl (Tr.stp day) st) ∧ σ[6]? = some (some (.int day)) ∧ H c = some (.lst ((Tr.bes p qq n day).map V.int)) ∧ σ[3]? = some (some (.ref a)) ∧ σ[4]? = some (some (.ref b)) ∧ σ[5]? = some (some (.ref l)), ⟨_, rfl, Nat.zero_le _, hh2, rfl, hc, rfl, rfl, rfl⟩, ?_⟩
  rintro j m σ2 H2 ⟨rfl, hj, t2, g6, gc, g3, g4, g5⟩
  by_cases lt : j < (Tr.bes p qq n day).length
  · refine .inr ⟨⟨_, _, SqL.of gc, getD_int lt⟩, fun σ' H' => TrIn F0 H0 n v2 near σ' H' (((Tr.bes p qq n day).take (j + 1)).foldl (Tr.stp day) st) ∧ σ'[6]? = some (some (.int day)) ∧ H' c = some (.lst ((Tr.bes p qq n day).map V.int)) ∧ σ'[3]? = some (some (.ref a)) ∧ σ'[4]? = some (some (.ref b)) ∧ σ'[5]? = some (some (.ref l)), fun σ' H' ⟨y1, y2, y3, y4, y5, y6⟩ => ⟨(Tr.bes p qq n day).length - (j + 1), by omega, rfl, by omega, y1, y2, y3, y4, y5, y6⟩, fun x H3 y => ?_⟩
    obtain ⟨rfl, y⟩ := y
    have e2 := y _ (SqL.of gc)
    rw [getD_int lt] at e2
    cases e2
    have en : ((Tr.bes p qq n day).take (j + 1)).foldl (Tr.stp day) st = Tr.stp day (((Tr.bes p qq n day).take j).foldl (Tr.stp day) st) (Tr.bes p qq n day)[j] := by
      rw [List.take_succ, List.getElem?_eq_getElem lt, List.foldl_append]
      rfl
    have m1 := Tr.fold_len day ((Tr.bes p qq n day).take j) st
    have m2 := Tr.fold_len day ((Tr.bes p qq n day).drop j) (((Tr.bes p qq n day).take j).foldl (Tr.stp day) st)
    rw [← List.foldl_append, List.take_append_drop] at m2
    unfold Tr.dy at l1 l2
    refine tr_one (En := _) t2 g6 (by omega) (by omega) fun H4 t4 kp => ?_
    rw [← en] at t4
    obtain ⟨⟨i2, a2, b2, l3, x62, x72, e3, _⟩, _⟩ := t2
    subst e3
    exact ⟨t4, g6, kp c _ (fun z => nca (by rw [g3] at z; cases z; rfl)) (fun z => ncl (by rw [g5] at z; cases z; rfl)) gc, g3, g4, g5⟩
  · have : j = (Tr.bes p qq n day).length := by omega
    subst this
    rw [List.take_length] at t2
    exact .inl ⟨⟨_, SqL.of gc, by rw [List.length_map]; exact Nat.le_refl _⟩, q _ _ t2 g4⟩
/-- one turn of the outer loop -/
theorem tr_turn {F0 H0 : Hp} {n p qq : Int} {v2 : V} {near : List Int} {σ : L2.St} {H : Hp} {t : List (Int × Int)} {En : Ends} {pb : List D → Option Rz} {E0 : XK} (hpb : ∀ day n p q : Int, pb [.int day, .int n, .tuple [.int p, .int q]] = some (.own ((Tr.bes p q n day).map PyData.int)))
    (s0 : Same F0 H0) (r2 : Rp K F0 v2 (.tuple [.int p, .int qq])) (h : TrSt F0 H0 n v2 σ H t near) (l1 : (near.foldl (Tr.dy p qq n) (t, [])).1.length ≤ 1000)
    (q : ∀ σ' H', TrSt F0 H0 n v2 σ' H' (near.foldl (Tr.dy p qq n) (t, [])).1 (near.foldl (Tr.dy p qq n) (t, [])).2 → En.nx σ' H') :
    (tSeq (tAsg (tLst tNil) (gName 5))
    (tSeq (tFor (iList K (tVar 4)) (gName 6)
      (tFor (iList K (tCall (spP K pb) [] E0 (tCons (tVar 6) (tCons (tVar 1) (tCons (tVar 2) tNil))))) (gName 7)
        (tIfS (tB (tDNotIn (tVar 7) (tVar 3)))
          (tSeq (sDPut (tVar 3) (tVar 7) (tVar 6))
            (tDrop (tBM K "list" rAppend (tVar 5) (tCons (tVar 7) tNil))))
          tNext)))
    (tAsg (tVar 5) (gName 4)))) En σ H := by
  obtain ⟨⟨s, a, b, x5, x6, x7, rfl, ha, hb, fa, fb⟩, le⟩ := h
  refine ⟨Nat.zero_le _, fun l hl => ?_⟩
  have nla : a ≠ l := new_ne ha hl
  have nlb : b ≠ l := new_ne hb hl
  have fl := fresh_back le hl
  have i0 : TrIn F0 H0 n v2 near [some (.int s), some (.int n), some v2, some (.ref a), some (.ref b), some (.ref l), x6, x7] (upd H l (.lst [])) (t, []) := ⟨⟨s, a, b, l, _, _, rfl, upd_keep ha nla, upd_keep hb nlb, upd_same, fa, fb, fl, nlb⟩, same_upd le fl⟩
  refine ⟨.ref b, rfl, b, rfl, ⟨_, SqL.of (upd_keep hb nlb)⟩, fun i m σ H => m = near.length - i ∧ i ≤ near.length ∧ TrIn F0 H0 n v2 near σ H ((near.take i).foldl (Tr.dy p qq n) (t, [])) ∧ σ[4]? = some (some (.ref b)), ⟨_, rfl, Nat.zero_le _, i0, rfl⟩, ?_⟩
  rintro j m σ2 H2 ⟨rfl, hj, t2, g4⟩
  have hb2 : H2 b = some (.lst (near.map V.int)) := by
    obtain ⟨⟨i2, a2, b2, l3, x62, x72, e3, _, h2, _⟩, _⟩ := t2
    subst e3
    cases g4
    exact h2
  by_cases lt : j < near.length
  · refine .inr ⟨⟨_, _, SqL.of hb2, getD_int lt⟩, fun σ' H' => TrIn F0 H0 n v2 near σ' H' ((near.take (j + 1)).foldl (Tr.dy p qq n) (t, [])) ∧ σ'[4]? = some (some (.ref b)), fun σ' H' ⟨y1, y2⟩ => ⟨near.length - (j + 1), by omega, rfl, by omega, y1, y2⟩, fun x H3 y => ?_⟩
    obtain ⟨rfl, y⟩ := y
    have e2 := y _ (SqL.of hb2)
    rw [getD_int lt] at e2
    cases e2
    have en : (near.take (j + 1)).foldl (Tr.dy p qq n) (t, []) = Tr.dy p qq n ((near.take j).foldl (Tr.dy p qq n) (t, [])) near[j] := by
      rw [List.take_succ, List.getElem?_eq_getElem lt, List.foldl_append]
      rfl
    have m2 := Tr.days_len p qq n (near.drop (j + 1)) ((near.take (j + 1)).foldl (Tr.dy p qq n) (t, []))
    have m3 := Tr.days_len p qq n near (t, [])
    have m4 := Tr.days_len p qq n (near.take (j + 1)) (t, [])
    rw [← List.foldl_append, List.take_append_drop] at m2
    have z0 : (([] : List Int).length) = 0 := rfl
    rw [en] at m2 m4
    refine tr_day (En := _) hpb s0 r2 t2 (by omega) (by
      have := m4.2
      simp only at this
      omega) fun σ' H' t4 k4 => ?_
    rw [← en] at t4
    exact ⟨t4, by rw [k4]; exact g4⟩
  · have : j = near.length := by omega
    subst this
    rw [List.take_length] at t2
    refine .inl ⟨⟨_, SqL.of hb2, by rw [List.length_map]; exact Nat.le_refl _⟩, ?_⟩
    obtain ⟨⟨i2, a2, b2, l3, x62, x72, rfl, h1, h2, h3, h4, h5, h6, h7⟩, le2⟩ := t2
    exact ⟨.ref l3, rfl, q _ _ ⟨⟨i2, a2, l3, _, _, _, rfl, h1, h3, h4, h6⟩, le2⟩⟩
theorem sv_tree {pb : List D → Option Rz} {E0 : XK} (hpb : ∀ day n p q : Int, pb [.int day, .int n, .tuple [.int p, .int q]] = some (.own ((Tr.bes p q n day).map PyData.int))) : SV K [] (tsTree K pb E0) m_tree := fun A σ ρ F H o E N e q => by
  unfold m_tree at e
  split at e
  · rename_i s n p qq
    obtain ⟨f, ef, e⟩ := bind_some e
    split at e
    · rename_i hf
      cases e
      have len := N.env.len
      obtain ⟨v0, w0, r0⟩ := N.env.slot 0 _ rfl
      obtain ⟨v1, w1, r1⟩ := N.env.slot 1 _ rfl
      obtain ⟨v2, w2, r2⟩ := N.env.slot 2 _ rfl
      have r0 : Rp K F v0 (.int s) := r0
      have r1 : Rp K F v1 (.int n) := r1
      have r2 : Rp K F v2 (.tuple [.int p, .int qq]) := r2
      cases r0
      cases r1
      obtain ⟨x0, x1, x2, x3, x4, x5, x6, x7, rfl⟩ : ∃ a0 a1 a2 a3 a4 a5 a6 a7, σ = [a0, a1, a2, a3, a4, a5, a6, a7] := by
        match σ, len with
        | [a0, a1, a2, a3, a4, a5, a6, a7], _ => exact ⟨_, _, _, _, _, _, _, _, rfl⟩
      cases w0
      cases w1
      cases w2
      intro a ha
      refine ⟨.int s, rfl, .int s, rfl, upd_same, [(.inl s, .int s)], rfl, show 1 ≤ 15 by decide, ?_⟩
      refine ⟨.int s, rfl, show 1 ≤ sizeLine by rw [sizeLine_eq]; decide, fun b hb => ?_⟩
      have nba : a ≠ b := new_ne (upd_same (o := .dK (mergeK [] [(.inl s, .int s)]))) hb
      have hb0 : H b = none := by
        rw [upd_ne (Ne.symm nba), upd_ne (Ne.symm nba)] at hb
        exact hb
      have st0 : TrSt F H n v2 [some (.int s), some (.int n), some v2, some (.ref a), some (.ref b), x5, x6, x7] (upd (upd (upd H a (.dK [])) a (.dK (mergeK [] [(.inl s, .int s)]))) b (.lst [.int s])) [(s, s)] [s] := ⟨⟨s, a, b, _, _, _, rfl, upd_keep upd_same nba, upd_same, ha, hb0⟩, same_upd (same_upd (same_upd (Same.refl _) ha) ha) hb0⟩
      refine ⟨fun m σ H' => ∃ t near, Tr.bfs p qq n m t near = some f ∧ TrSt F H n v2 σ H' t near, ⟨1000, _, _, ef, st0⟩, ?_⟩
      rintro m σ' H' ⟨t, near, eb, st⟩
      have st2 := st
      obtain ⟨⟨i, a2, b2, y5, y6, y7, rfl, h1, h2, h3, h4⟩, le⟩ := st2
      refine ⟨.ref b2, rfl, !(near.map V.int).isEmpty, .inl ⟨_, SqL.of h2, rfl⟩, ?_⟩
      cases m with
      | zero => cases eb
      | succ m =>
        unfold Tr.bfs at eb
        cases near with
        | nil =>
          rw [if_pos rfl] at eb
          cases eb
          refine iteN (by decide) ?_
          refine ⟨.ref a2, rfl, a2, _, rfl, h1, trivial, fun od => ?_⟩
          have fa2 : F a2 = none := fresh_F N.env.le h3
          have sF : Same F (upd F a2 (.frz od (.dK (encKV f)))) := Same.new fa2
          have lF : Same (upd F a2 (.frz od (.dK (encKV f)))) (upd H' a2 (.frz od (.dK (encKV f)))) := fun x o e => by
            by_cases z : x = a2
            · subst z
              rw [upd_same] at e ⊢
              exact e
            · rw [upd_ne z] at e ⊢
              exact le x o (N.env.le x o e)
          have kp : ∀ x o, H x = some o → upd H' a2 (.frz od (.dK (encKV f))) x = some o := fun x o e => same_upd le h3 x o e
          have noO : ∀ (i : Nat) (x : Option Sl), (List.replicate 8 (none : Option Sl))[i]? = some x → x = none := fun i x e => by
            rw [List.getElem?_replicate] at e
            split at e
            · cases e; rfl
            · cases e
          refine q (.ref a2) [some (.int i), some (.int n), some v2, some (.ref a2), some (.ref b2), y5, y6, y7] _ _ ⟨⟨lF, rfl, fun i x e => (by have := noO i _ e; cases this), fun i j ds es v e _ _ _ => (by have := noO i _ e; cases this)⟩, N.fle.trans sF, fun x o e n => kp x o (N.keep x o e n), fun x h => ?_, fun x h n => ?_, fun i ds x e _ => (by have := noO i _ e; cases this), fun i hi => by cases hi⟩ sF (.dct upd_same (kvr_enc f))
          · have := N.ex x h
            cases ex : H x with
            | none => exact absurd ex this
            | some o => exact not_none (kp x o ex)
          · rw [← N.fz x h n]
            have : x ≠ a2 := fun z => N.ex x h (by rw [z]; exact h3)
            exact upd_ne this
        | cons d near =>
          rw [if_neg (by simp)] at eb
          refine iteP rfl ⟨fun σ' H'' => ∃ t' near', Tr.bfs p qq n m t' near' = some f ∧ TrSt F H n v2 σ' H'' t' near', fun σ' H'' ⟨t', near', e1, e2⟩ => ⟨m, Nat.lt_succ_self m, t', near', e1, e2⟩, ?_⟩
          have bl := Tr.bfs_len p qq n m _ _ f eb
          exact tr_turn hpb N.env.le r2 st (by omega) fun σ' H'' e2 => ⟨_, _, eb, e2⟩
    · cases e
  · cases e
end Pv

set_option Elab.async false
set_option linter.all false
set_option maxRecDepth 100000
set_option maxHeartbeats 4000000
namespace Pv
open PySem PySem.Spec PyProof.Rows L2 Ws
variable {K : PySem.W.Frag}
/-! ### sorted of lists of ints -/
def srtLL (l : List (List Int)) : List (List Int) := l.mergeSort fun p q => decide (p ≤ q)
theorem each_refl {α : Type} {P : α → α → Prop} : ∀ {l : List α}, (∀ u ∈ l, P u u) → PySem.W.EachIs P l l
  | [], _ => .nil
  | u :: l, h => .cons (h u List.mem_cons_self) (each_refl fun v hv => h v (List.mem_cons_of_mem _ hv))
theorem each_inv {α : Type} : ∀ {l m : List α}, PySem.W.EachIs (fun v b => v = b) l m → l = m
  | _, _, .nil => rfl
  | _, _, .cons h t => by rw [h, each_inv t]
def rSortLL (K : PySem.W.Frag) : List V → Hp → VK → Prop := fun vs H Q => ∃ (a : Addr) (xs : List V) (k : V → List Int), vs = [V.ref a] ∧ SqL K H a xs ∧ (∀ x ∈ xs, ∃ t, x = V.ref t ∧ SqL K H t ((k x).map V.int)) ∧
  ∀ ys p, ys.map k = srtLL (xs.map k) → ys.Perm xs → H p = none → Q (.ref p) (upd H p (.lst ys))
theorem cr_sortLL {X : Cx} (hu : X.A.units + 64 < cLine) : CallR X (.builtin "sorted") (rSortLL X.K) := by
  intro pins s σ H vs us Q I r h
  obtain ⟨a, xs, k, rfl, hs, hx, q⟩ := h
  obtain rfl := Vals.ref1 r
  obtain ⟨its, rv, hl, hz⟩ := I.list hs
  obtain ⟨e1, e2⟩ := refs_back rv fun x m => by
    obtain ⟨t, e, _⟩ := hx x m
    exact ⟨t, e⟩
  have ll : its.length ≤ sizeLine := by rw [← rv.length]; exact hz
  refine PySem.W.sorted_data (vs := its) (bs := its) (enc := fun u => .list ((k (backV u)).map PyData.int)) (R := fun v b => v = b) hl.isList (each_refl fun _ _ => rfl) (each_refl fun u hu => ?_) ?_ ?_ ll ?_ ?_
  · obtain ⟨t, rfl⟩ := e2 u hu
    have hm : V.ref t ∈ xs := by rw [e1]; exact List.mem_map.mpr ⟨_, hu, rfl⟩
    obtain ⟨t', e, ht⟩ := hx _ hm
    cases e
    exact Dp.reads I _ _ _ (Dp.ints ht) (show RelV (V.ref t) (Value.ref t) from rfl)
  · intro d hd d' hd'
    obtain ⟨u, _, rfl⟩ := List.mem_map.mp hd
    obtain ⟨u', _, rfl⟩ := List.mem_map.mp hd'
    exact alike_ints _ _
  · refine .inr fun d hd => ?_
    obtain ⟨u, _, rfl⟩ := List.mem_map.mp hd
    exact ⟨(fun z => nomatch z), fun xs z => nomatch z⟩
  · intro u _
    simp only [PyData.depth, depth_ints]
    omega
  · intro out hlen ho
    have eo := each_inv ho
    have hp : out.Perm its := by rw [eo]; exact List.mergeSort_perm ..
    have h3 : ∀ u ∈ out, ∃ a, u = Value.ref a := fun u hu => e2 u (hp.mem_iff.mp hu)
    have hb : (out.map backV).Perm xs := by
      rw [e1]
      exact hp.map backV
    obtain ⟨ep, he'⟩ := PyProof.Rows.sortedAll_at s.heap its out.toArray
    have hlen2 : (out.map backV).length ≤ sizeLine := by rw [hb.length_eq]; exact hz
    refine ⟨.ref _, upd H (s.heap.objs.size + 1) (.lst (out.map backV)), I.laid (t' := s.toks) (fun _ _ => PyProof.Rows.sortedAll_old) (Nat.le_succ _) ⟨hlen2, _, ep, vals_back h3, he'⟩, rfl, q _ _ ?_ hb (I.hok.fresh (Nat.le_succ _))⟩
    rw [eo, e1, PySem.W.dataLe_rows]
    unfold srtLL
    rw [List.map_map, List.map_map]
    exact List.map_mergeSort fun _ _ _ _ => rfl
def toRows : List D → Option (List (List Int))
  | [] => some []
  | .list ds :: r => (toInts ds).bind fun ns => (toRows r).map fun t => ns :: t
  | _ => none
theorem toRows_map : ∀ ls : List (List Int), toRows (ls.map fun ns => .list (ns.map PyData.int)) = some ls
  | [] => rfl
  | ns :: r => by
    show (toInts (ns.map PyData.int)).bind _ = _
    rw [toInts_map, Option.bind_some, toRows_map r]
    rfl
theorem toRows_eq : ∀ {ds : List D} {ls : List (List Int)}, toRows ds = some ls → ds = ls.map fun ns => .list (ns.map PyData.int)
  | [], ls, h => by
    cases h
    rfl
  | .list ds :: r, ls, h => by
    obtain ⟨ns, e1, h⟩ := bind_some h
    obtain ⟨t, e2, rfl⟩ := map_some h
    rw [List.map_cons, ← toInts_eq e1, ← toRows_eq e2]
  | .none :: _, _, h => by cases h
  | .bool _ :: _, _, h => by cases h
  | .int _ :: _, _, h => by cases h
  | .str _ :: _, _, h => by cases h
  | .tuple _ :: _, _, h => by cases h
  | .dict _ :: _, _, h => by cases h
def fSortLL : List D → Option Rz
  | [.list ds] => (toRows ds).map fun ls => .own ((srtLL ls).map fun ns => .list (ns.map PyData.int))
  | _ => none
open Classical in
noncomputable def rowOf (H : Hp) : V → List Int
  | .ref t => if h : ∃ ns : List Int, H t = some (.lst (ns.map V.int)) then h.choose else []
  | _ => []
theorem ints_inj : ∀ {a b : List Int}, a.map V.int = b.map V.int → a = b
  | [], [], _ => rfl
  | [], _ :: _, h => by cases h
  | _ :: _, [], h => by cases h
  | x :: a, y :: b, h => by
    rw [List.map_cons, List.map_cons] at h
    injection h with h1 h2
    injection h1 with h1
    rw [h1, ints_inj h2]
theorem rowOf_eq {H : Hp} {t : Addr} {ns : List Int} (h : H t = some (.lst (ns.map V.int))) : rowOf H (.ref t) = ns := by
  have e : ∃ ns : List Int, H t = some (.lst (ns.map V.int)) := ⟨ns, h⟩
  unfold rowOf
  simp only [dif_pos e]
  have e2 := h.symm.trans e.choose_spec
  simp only [Option.some.injEq, HO.lst.injEq] at e2
  exact (ints_inj e2).symm
theorem rp_row {F : Hp} {v : V} {ns : List Int} (h : Rp K F v (.list (ns.map PyData.int))) : ∃ t, v = .ref t ∧ F t = some (.lst (ns.map V.int)) := by
  cases h with
  | lst e r =>
    rw [RpA.ints r] at e
    exact ⟨_, rfl, e⟩
theorem rp_rows {F H : Hp} (le : Same F H) : ∀ {xs : List V} {ls : List (List Int)}, RpA K F xs (ls.map fun ns => .list (ns.map PyData.int)) → xs.map (rowOf H) = ls ∧ ∀ x ∈ xs, Rp K F x (.list ((rowOf H x).map PyData.int))
  | [], [], .nil => ⟨rfl, fun x h => by cases h⟩
  | x :: xs, p :: ps, .cons r t => by
    obtain ⟨a, rfl, e⟩ := rp_row r
    obtain ⟨h1, h2⟩ := rp_rows le t
    have e2 := rowOf_eq (le _ _ e)
    refine ⟨by rw [List.map_cons, h1, e2], fun y hy => ?_⟩
    rcases List.mem_cons.mp hy with rfl | hy
    · rw [e2]; exact r
    · exact h2 y hy
theorem rp_rows_of {F : Hp} {g : V → List Int} : ∀ {ys : List V}, (∀ y ∈ ys, Rp K F y (.list ((g y).map PyData.int))) → RpA K F ys ((ys.map g).map fun ns => .list (ns.map PyData.int))
  | [], _ => .nil
  | y :: ys, h => .cons (h y List.mem_cons_self) (rp_rows_of fun z hz => h z (List.mem_cons_of_mem _ hz))
theorem o_sortLL : OpV K (rSortLL K) fSortLL := fun F H vs ds z le c e Q q => by
  unfold fSortLL at e
  split at e
  · rename_i ds
    obtain ⟨ls, ep, rfl⟩ := map_some e
    rw [toRows_eq ep] at c
    obtain ⟨x, rfl, h1⟩ := cont1 c
    obtain ⟨p, xs, rfl, e1, r1⟩ := h1.list le
    obtain ⟨k1, k2⟩ := rp_rows le r1
    refine ⟨p, xs, rowOf H, rfl, SqL.of e1, fun x hx => ?_, fun ys l hs hb hl => ?_⟩
    · obtain ⟨t, e, e2⟩ := rp_row (k2 x hx)
      exact ⟨t, e, SqL.of (le _ _ e2)⟩
    · rw [k1] at hs
      have r2 : RpA K F ys ((srtLL ls).map fun ns => .list (ns.map PyData.int)) := by
        rw [← hs]
        exact rp_rows_of fun y hy => k2 y (hb.mem_iff.mp hy)
      exact op_new le hl r2 q
  · cases e
theorem fz_sortLL {ls : List (List Int)} {QZ : Rz → Prop} (q : QZ (.own ((srtLL ls).map fun ns => .list (ns.map PyData.int)))) : ∃ z, fSortLL [.list (ls.map fun ns => .list (ns.map PyData.int))] = some z ∧ QZ z := ⟨_, by
  show (toRows (ls.map fun ns => .list (ns.map PyData.int))).map _ = _
  rw [toRows_map]
  rfl, q⟩
end Pv

set_option Elab.async false
set_option linter.all false
set_option maxRecDepth 100000
set_option maxHeartbeats 4000000
namespace Pv
open PySem PySem.Spec PyProof.Rows L2 Ws
variable {K : PySem.W.Frag}
/-! ### i.bit_length() -/
@[irreducible] def fBits : List D → Option Rz
  | [.int i] => some (.sh (.int (Builtin.Int.intBits i : Nat)))
  | _ => none
theorem ev_bits {te : TE} {m : EM} (h : EV K te m) : EV K (tBits te) (opM fBits (arg1 m)) := by
  have o : OpV K (l1 fun x H Q => ∃ i, x = .int i ∧ Q (.int (Builtin.Int.intBits i : Nat)) H) fBits := fun F H vs ds z le c e Q q => by
    unfold fBits at e
    split at e
    · cases e
      obtain ⟨x, rfl, h1⟩ := cont1 c
      exact ⟨_, h1.int, op_sh le (.int _) q⟩
    · cases e
  exact ev_un o h
theorem fz_bits {i : Int} {QZ : Rz → Prop} (q : QZ (.sh (.int (Builtin.Int.intBits i : Nat)))) : ∃ z, fBits [.int i] = some z ∧ QZ z := ⟨_, by unfold fBits; rfl, q⟩
/-! ### a slice of the script -/
def slSM (m : EM) (ml mh : Rho → Option (Option Int × Rho)) : EM := fun ρ => (m ρ).bind fun a => (ml a.2).bind fun l => (mh l.2).bind fun h => match deref h.2 a.1 with
  | some (.dict [(.list ds, .none)]) => some (.own (cutD ds l.1 h.1), h.2)
  | _ => none
theorem ev_slS {K : PySem.W.Frag} {te : TE} {tl th : TO} {m : EM} {ml mh : Rho → Option (Option Int × Rho)} (h : EV K te m) (hl : OV K tl ml) (hh : OV K th mh) : EV K (tSl (rSlL K) te tl th) (slSM m ml mh) := fun σ ρ F H r ρ' E e Q q => by
  obtain ⟨⟨r0, ρ1⟩, e1, e⟩ := bind_some e
  obtain ⟨⟨lo, ρ2⟩, e2, e⟩ := bind_some e
  obtain ⟨⟨hi, ρ3⟩, e3, e⟩ := bind_some e
  simp only at e
  split at e
  · rename_i ds ed
    cases e
    refine h σ ρ F H r0 ρ1 E e1 _ fun v F1 H1 P1 R1 => ?_
    refine hl σ ρ1 F1 H1 lo ρ2 P1.env e2 _ fun F2 H2 P2 => ?_
    refine hh σ ρ2 F2 H2 hi _ P2.env e3 _ fun F3 H3 P3 => ?_
    have P13 := P2.trans P3
    have P := P1.trans P13
    obtain ⟨p, ns, rfl, e4, rfl⟩ := (Cont.of P.env (ResR.up E P1 P13 R1) ed).scr P.env.le
    refine ⟨p, _, rfl, e4, fun l hp => q _ F3 _ (new_at P hp) ⟨l, _, rfl, none_back P.ex hp, upd_same, fresh_F P.env.le hp, (RpA.ofInts (K := K) (F := F3) ns).cut lo hi⟩⟩
  · cases e
/-! ### isinstance(x, (list, tuple)) -/
def insLT : D → Bool
  | .list _ => true
  | .tuple _ => true
  | _ => false
def fInsLT : List D → Option Rz
  | [d] => if noScr d = true then some (.sh (.bool (insLT d))) else none
  | _ => none
def tLT : TE := tTup (tCons (tC (.ty "list")) (tCons (tC (.ty "tuple")) tNil))
theorem ty_lt {F H : Hp} {v : V} {d : D} (le : Same F H) (c : Cont K F H v d) (n : noScr d = true) : ∃ t, TyX K H v t ∧ PySem.W.kitAny K t [.type "list", .type "tuple"] = some (insLT d) := by
  have k : ∀ {T : String} {a b : Bool}, kitB T "list" = some a → kitB T "tuple" = some b → PySem.W.kitAny K (.type T) [.type "list", .type "tuple"] = some (a || b) := fun {T a b} h g => by
    show PySem.W.kitAny K (.type T) (.type "list" :: .type "tuple" :: []) = _
    simp only [PySem.W.kitAny, kit_ty h, kit_ty g]
    cases a <;> cases b <;> rfl
  rcases c with c | ⟨p, xs, ds, rfl, rfl, c1, c2⟩
  · cases c with
    | non => exact ⟨_, .base .non, k (a := false) (b := false) (by decide +kernel) (by decide +kernel)⟩
    | bl b => exact ⟨_, .base (.bl b), k (a := false) (b := false) (by decide +kernel) (by decide +kernel)⟩
    | int i => exact ⟨_, .base (.int i), k (a := false) (b := false) (by decide +kernel) (by decide +kernel)⟩
    | str x => exact ⟨_, .base (.str x), k (a := false) (b := false) (by decide +kernel) (by decide +kernel)⟩
    | lst a b => exact ⟨_, .base (.lst (le _ _ a)), k (a := true) (b := false) (by decide +kernel) (by decide +kernel)⟩
    | tup a b => exact ⟨_, .base (.tup (le _ _ a)), k (a := false) (b := true) (by decide +kernel) (by decide +kernel)⟩
    | scr a => cases n
    | dct a b => cases n
  · exact ⟨_, .base (.lst c1), k (a := true) (b := false) (by decide +kernel) (by decide +kernel)⟩
theorem ev_insLT {te : TE} {m : EM} (h : EV K te m) : EV K (tCB (rIsiT K) (tCons te (tCons tLT tNil))) (opM fInsLT (arg1 m)) := fun σ ρ F H r ρ' E e Q q => by
  obtain ⟨⟨rs, ρ1⟩, e1, e⟩ := bind_some e
  obtain ⟨⟨r0, ρ2⟩, e2, e1⟩ := bind_some e1
  cases e1
  obtain ⟨ds, e3, e⟩ := bind_some e
  obtain ⟨z, e4, e⟩ := bind_some e
  cases e
  obtain ⟨d, e5, e3⟩ := bind_some e3
  cases e3
  simp only [fInsLT] at e4
  split at e4
  · rename_i hn
    cases e4
    refine h σ ρ F H r0 _ E e2 _ fun v F1 H1 P R1 => ?_
    refine ⟨by decide, fun p hp => ?_⟩
    have Pn : Post K σ _ F1 H1 _ F1 (upd H1 p (.tup [.ty "list", .ty "tuple"])) := Post.grow P.env (Same.refl _) (Same.new hp) (P.env.le.trans (Same.new hp)) fun _ _ => rfl
    have P2 := P.trans Pn
    obtain ⟨t, h1, h2⟩ := ty_lt P2.env.le (Cont.of P2.env (ResR.up E P Pn R1) e5) hn
    exact ⟨v, p, [.ty "list", .ty "tuple"], t, [.type "list", .type "tuple"], _, rfl, upd_same, .cons (.ty _) (.cons (.ty _) .nil), h1, h2, q _ F1 _ P2 (.bl _)⟩
  · cases e4
theorem fz_insLT {d : D} {QZ : Rz → Prop} (n : noScr d = true) (q : QZ (.sh (.bool (insLT d)))) : ∃ z, fInsLT [d] = some z ∧ QZ z := ⟨_, by
  show (if noScr d = true then some (Rz.sh (.bool (insLT d))) else none) = _
  rw [if_pos n], q⟩
theorem isiT {X : Cx} (h : X.K = K := by rfl) : CallR X (.builtin "isinstance") (rIsiT K) := by
  subst h
  exact call_isiT
/-- a def that is never called this deep -/
theorem fnG_none {P : Program} {w : World} {mg : Str → Option Value} {base : Heap} {k : Nat} {f : Addr} {fd : FuncData} {ps : List Str} : FnG P w K mg base CX0 k f fd ps (spP K fun _ => none) :=
  ⟨fun vs H Q E h => by
    obtain ⟨F, ds, z, _, _, e, _⟩ := h
    exact absurd e (by simp), fun A out s H ar us vs Q E _ _ _ _ _ h => by
    obtain ⟨F, ds, z, _, _, e, _⟩ := h
    exact absurd e (by simp)⟩
end Pv

set_option Elab.async false
set_option linter.all false
set_option maxRecDepth 100000
set_option maxHeartbeats 4000000
namespace Pv
open PySem PySem.Spec PyProof.Rows L2 Ws
variable {K : PySem.W.Frag}
/-! ### calls that change nothing that was there, and tell plain values: lists of one's own stay so -/
def EVS (K : PySem.W.Frag) (te : TE) (m : EM) : Prop := ∀ (σ : L2.St) (ρ : Rho) (F H : Hp) (r : Rz) (ρ' : Rho), EnvR K σ ρ F H → m ρ = some (r, ρ') → ∀ Q : VK,
  (∀ v F' H', Post K σ ρ F H ρ' F' H' → Same H H' → ResR K σ F' H H' v r → Q v H') → te σ H Q
def AVS (K : PySem.W.Frag) (ta : TA) (m : AM) : Prop := ∀ (σ : L2.St) (ρ : Rho) (F H : Hp) (rs : List Rz) (ρ' : Rho), EnvR K σ ρ F H → m ρ = some (rs, ρ') → ∀ Q : List V → Hp → Prop,
  (∀ vs F' H', Post K σ ρ F H ρ' F' H' → Same H H' → ResA K σ F' H H' vs rs → Q vs H') → ta σ H Q
theorem avs_nil : AVS K tNil nilM := fun σ ρ F H rs ρ' E h Q q => by
  cases h
  exact q [] F H (Post.refl E) (Same.refl _) .nil
theorem avs_var {i : Nat} {ta : TA} {ms : AM} (h2 : AVS K ta ms) : AVS K (tCons (tVar i) ta) (consM (varM i) ms) := fun σ ρ F H rs ρ' E h Q q => by
  obtain ⟨⟨r, ρ1⟩, e1, h⟩ := bind_some h
  obtain ⟨⟨rs2, ρ2⟩, e2, h⟩ := bind_some h
  cases h
  unfold varM at e1
  split at e1
  · rename_i d hd
    cases e1
    obtain ⟨v, h1, hr⟩ := E.slot i _ hd
    refine ⟨v, h1, h2 σ ρ F H rs2 _ E e2 _ fun vs F2 H2 P2 S2 R2 => ?_⟩
    exact q _ F2 H2 P2 S2 (.cons (Rp.up P2.fle d v hr) R2 fun ds er => nomatch er)
  · rename_i d hd
    cases e1
    obtain ⟨v, h1, hr⟩ := E.slot i _ hd
    refine ⟨v, h1, h2 σ ρ F H rs2 _ E e2 _ fun vs F2 H2 P2 S2 R2 => ?_⟩
    exact q _ F2 H2 P2 S2 (.cons h1 R2 fun ds er => nomatch er)
  · cases e1
theorem evs_call {f : List D → Option Rz} {E0 : XK} {ta : TA} {m : AM} (h : AVS K ta m) : EVS K (tCall (spP K f) [] E0 ta) (callM f m) := fun σ ρ F H r ρ' E e Q q => by
  obtain ⟨⟨rs, ρ1⟩, e1, e⟩ := bind_some e
  obtain ⟨⟨ds, ρ2⟩, e2, e⟩ := bind_some e
  obtain ⟨z, e3, e⟩ := bind_some e
  cases e
  refine h σ ρ F H rs ρ1 E e1 _ fun vs F1 H1 P1 S1 R1 => ?_
  obtain ⟨F2, P2, s2, r2⟩ := takeA E P1 R1 e2
  refine ⟨F2, ds, r, P2.env.le, by rw [List.append_nil]; exact r2, e3, fun v F' H' s t u n Rz => ?_⟩
  exact q v F' H' (P2.trans (Post.grow P2.env s t u n)) (S1.trans t) (ResR.base P2.ex Rz.nil)
open Classical in
noncomputable def keepM (m : EM) : EM := fun ρ => (m ρ).bind fun a => if FlatR a.1 then some (a.1, ρ) else none
theorem ev_keep {te : TE} {m : EM} (h : EVS K te m) : EV K te (keepM m) := fun σ ρ F H r ρ' E e Q q => by
  obtain ⟨⟨r1, ρ1⟩, e1, e⟩ := bind_some e
  simp only at e
  split at e
  · rename_i f
    cases e
    refine h σ ρ F H r ρ1 E e1 _ fun v F1 H1 P1 S1 R1 => ?_
    refine q v F H1 ⟨⟨E.le.trans S1, E.len, fun i s hs => ?_, E.inj⟩, Same.refl _, P1.keep, P1.ex, fun _ _ x _ => x, fun _ ds x => ⟨ds, x⟩⟩ ?_
    · obtain ⟨w, hw, hr⟩ := E.slot i s hs
      refine ⟨w, hw, ?_⟩
      cases s with
      | sh d => exact hr
      | own ds =>
        obtain ⟨p, xs, rfl, ep, fp, rx⟩ := hr
        exact ⟨p, xs, rfl, S1 _ _ ep, fp, rx⟩
    · cases r with
      | sh d => exact Rp.flat (show Rp K F1 v d from R1) f
      | own ds =>
        obtain ⟨p, xs, ev, h0, h1, f0, rx⟩ := R1
        exact ⟨p, xs, ev, h0, h1, fresh_F E.le h0, RpA.flat rx f⟩
      | brw i => exact f.elim
  · cases e
theorem e_keep {m : EM} {ρ : Rho} {QE : Rz → Rho → Prop} (h : GoE m ρ fun r _ => FlatR r ∧ QE r ρ) : GoE (keepM m) ρ QE := by
  obtain ⟨r, ρ1, e, f, q⟩ := h
  refine ⟨_, _, ?_, q⟩
  unfold keepM
  rw [e, Option.bind_some, if_pos f]
end Pv

set_option Elab.async false
set_option linter.all false
set_option maxRecDepth 100000
set_option maxHeartbeats 4000000
namespace Pv
open PySem PySem.Spec PyProof.Rows L2 Ws
variable {K : PySem.W.Frag}
/-! ### xs > ys for lists of ints -/
theorem toks_nlt : ∀ {a b : List Int}, Ct.Lx a b → PyProof.Rows.lexLt PyProof.Rows.itemOrd (PySem.W.keyToksAll (b.map PyData.int)) (PySem.W.keyToksAll (a.map PyData.int)) = false
  | _, _, .nil => by
    simp only [List.map_nil, List.map_cons, PySem.W.keyToksAll]
    rw [PySem.W.lex_atom (by intro h; cases h), PySem.W.lex_one]
    decide
  | x :: a, y :: b, .rel h => by
    simp only [List.map_cons, PySem.W.keyToksAll, PySem.W.keyToks]
    have e := PySem.W.lex_pre [Sum.inl 1] ([Sum.inl y] ++ PySem.W.keyToksAll (b.map PyData.int)) ([Sum.inl x] ++ PySem.W.keyToksAll (a.map PyData.int))
    refine Eq.trans e ?_
    refine Eq.trans (PySem.W.lex_atom (fun z => ?_) _ _) ?_
    · have : y = x := Sum.inl.inj z
      omega
    · rw [PySem.W.lex_one]
      exact decide_eq_false (show ¬ y < x by omega)
  | x :: a, _ :: b, .cons h => by
    simp only [List.map_cons, PySem.W.keyToksAll, PySem.W.keyToks]
    have e := PySem.W.lex_pre [Sum.inl 1, Sum.inl x] (PySem.W.keyToksAll (b.map PyData.int)) (PySem.W.keyToksAll (a.map PyData.int))
    exact Eq.trans e (toks_nlt h)
theorem toks_irr : ∀ a : List Int, PyProof.Rows.lexLt PyProof.Rows.itemOrd (PySem.W.keyToksAll (a.map PyData.int)) (PySem.W.keyToksAll (a.map PyData.int)) = false
  | [] => by
    simp only [List.map_nil, PySem.W.keyToksAll]
    rw [PySem.W.lex_one]
    decide
  | x :: a => by
    simp only [List.map_cons, PySem.W.keyToksAll, PySem.W.keyToks]
    have e := PySem.W.lex_pre [Sum.inl 1, Sum.inl x] (PySem.W.keyToksAll (a.map PyData.int)) (PySem.W.keyToksAll (a.map PyData.int))
    exact Eq.trans e (toks_irr a)
def rGtLI (K : PySem.W.Frag) : R2 := fun x y H Q => ∃ a b ns ms, x = .ref a ∧ y = .ref b ∧ SqL K H a (ns.map V.int) ∧ SqL K H b (ms.map V.int) ∧ Q (.bl (PySem.W.dataLt (dI ms) (dI ns))) H
theorem op_gtL {X : Cx} (hu : X.A.units + 64 < cLine) (h : X.K = K := by rfl) : OpR X (compareOp .Gt) (rGtLI K) := by
  subst h
  intro pins s σ H x y v u Q I rx ry hh
  obtain ⟨a, b, ns, ms, rfl, rfl, ha, hb, q⟩ := hh
  obtain ⟨as, r1⟩ := Dp.reads I _ _ _ (Dp.ints ha) rx
  obtain ⟨bs, r2⟩ := Dp.reads I _ _ _ (Dp.ints hb) ry
  refine PySem.W.rcGt_alike _ _ _ _ _ _ _ _ r1 r2 (alike_ints ns ms) (fun z => nomatch z) ?_ _ _ _ _ ⟨.bl _, H, I, rfl, q⟩
  simp only [PyData.depth, depth_ints]
  omega
def fGtL : List D → Option Rz := fun ds => match ds with
  | [.list as, .list bs] => (toInts as).bind fun ns => (toInts bs).map fun ms => .sh (.bool (PySem.W.dataLt (dI ms) (dI ns)))
  | _ => none
theorem o_gtL : OpV K (l2 (rGtLI K)) fGtL := fun F H vs ds z le c e Q q => by
  unfold fGtL at e
  split at e
  · rename_i as bs
    obtain ⟨ns, e1, e⟩ := bind_some e
    obtain ⟨ms, e2, rfl⟩ := map_some e
    obtain rfl := toInts_eq e1
    obtain rfl := toInts_eq e2
    obtain ⟨x, y, rfl, ca, cb⟩ := cont2 c
    obtain ⟨p, rfl, hp⟩ := Cont.ints le ca
    obtain ⟨r, rfl, hr⟩ := Cont.ints le cb
    exact ⟨p, r, ns, ms, rfl, rfl, SqL.of hp, SqL.of hr, op_sh le (.bl _) q⟩
  · cases e
theorem fz_gtLf {ns ms : List Int} {QZ : Rz → Prop} (h : ns = ms ∨ Ct.Lx ns ms) (q : QZ (.sh (.bool false))) : ∃ z, fGtL [.list (ns.map PyData.int), .list (ms.map PyData.int)] = some z ∧ QZ z := by
  refine ⟨_, ?_, q⟩
  show (toInts (ns.map PyData.int)).bind (fun ns => (toInts (ms.map PyData.int)).map fun ms => Rz.sh (.bool (PySem.W.dataLt (dI ms) (dI ns)))) = _
  rw [toInts_map, toInts_map]
  show some (Rz.sh (.bool (PySem.W.dataLt (dI ms) (dI ns)))) = _
  have e : PySem.W.dataLt (dI ms) (dI ns) = false := by
    unfold PySem.W.dataLt
    simp only [PySem.W.keyToks]
    rcases h with rfl | h
    · exact toks_irr ns
    · exact toks_nlt h
  rw [e]
end Pv

set_option Elab.async false
set_option linter.all false
set_option maxRecDepth 100000
set_option maxHeartbeats 4000000
namespace Pv
open PySem PySem.Spec PyProof.Rows L2 Ws
variable {K : PySem.W.Frag}
/-! ### a tuple of a word and a list of its own: whoever is told it may change that list -/
/-- the list in the second place was not there before -/
def FrT (H0 F' : Hp) (v : V) : Prop := ∀ q w p, v = .ref q → F' q = some (.tup [w, .ref p]) → H0 p = none
/-- what a def tells, with a further fact of its value -/
def spX (K : PySem.W.Frag) (X : Hp → Hp → V → Prop) (f : List D → Option Rz) : Sp := fun vs H Q _ => ∃ (F : Hp) (ds : List D) (z : Rz), Same F H ∧ RpA K F vs ds ∧ f ds = some z ∧
  ∀ v F' H', Same F F' → Same H H' → Same F' H' → (∀ a, H a ≠ none → F' a = F a) → ResR K [] F' H H' v z → X H F' v → Q v H'
theorem spX_of {X : Hp → Hp → V → Prop} {f : List D → Option Rz} {vs : List V} {H : Hp} {Q : VK} {E : XK} (h : spP K f vs H Q E) : spX K X f vs H Q E := by
  obtain ⟨F, ds, z, a, b, c, q⟩ := h
  exact ⟨F, ds, z, a, b, c, fun v F' H' s t u n r _ => q v F' H' s t u n r⟩
def ThenX (K : PySem.W.Frag) (X : Hp → Hp → V → Prop) (A : Anc) (F : Hp) (o : Out) (E : Ends) : Prop := match o with
  | .nx ρ' => ∀ σ' F' H', Now K A [] σ' ρ' F' H' → Same F F' → E.nx σ' H'
  | .rt r ρ' => ∀ v σ' F' H', Now K A [] σ' ρ' F' H' → Same F F' → ResR K [] F' A.H0 H' v r → X A.H0 F' v → E.rt v H'
  | .bk ρ' => ∀ σ' F' H', Now K A [] σ' ρ' F' H' → Same F F' → E.bk σ' H'
  | .ct ρ' => ∀ σ' F' H', Now K A [] σ' ρ' F' H' → Same F F' → E.ct σ' H'
theorem ThenX.up {X : Hp → Hp → V → Prop} {A : Anc} {F F1 : Hp} {o : Out} {E : Ends} (s : Same F F1) (h : ThenX K X A F o E) : ThenX K X A F1 o E := by
  cases o with
  | nx ρ => exact fun σ' F' H' N t => h σ' F' H' N (s.trans t)
  | rt r ρ => exact fun v σ' F' H' N t => h v σ' F' H' N (s.trans t)
  | bk ρ => exact fun σ' F' H' N t => h σ' F' H' N (s.trans t)
  | ct ρ => exact fun σ' F' H' N t => h σ' F' H' N (s.trans t)
def SVX (K : PySem.W.Frag) (X : Hp → Hp → V → Prop) (ts : TS) (m : SM) : Prop := ∀ (A : Anc) (σ : L2.St) (ρ : Rho) (F H : Hp) (o : Out) (E : Ends), Now K A [] σ ρ F H → m ρ = some o → ThenX K X A F o E → ts E σ H
/-- statements that tell nothing -/
def NoRt (m : SM) : Prop := ∀ ρ r ρ', m ρ ≠ some (.rt r ρ')
theorem svx_of {X : Hp → Hp → V → Prop} {ts : TS} {m : SM} (h : SV K [] ts m) (n : NoRt m) : SVX K X ts m := fun A σ ρ F H o E N e q => by
  refine h A σ ρ F H o E N e ?_
  cases o with
  | nx ρ => exact q
  | rt r ρ' => exact absurd e (n ρ r ρ')
  | bk ρ => exact q
  | ct ρ => exact q
theorem noRt_expr {m : EM} : NoRt (exprS m) := fun ρ r ρ' h => by
  obtain ⟨a, _, z⟩ := map_some h
  cases z
theorem noRt_set {i : Nat} {m : EM} : NoRt (setS i m) := fun ρ r ρ' h => by
  obtain ⟨⟨x, ρ1⟩, _, e⟩ := bind_some h
  cases x with
  | sh d => cases e
  | own ds => cases e
  | brw j =>
    obtain ⟨b, _, z⟩ := map_some e
    cases z
theorem noRt_skip : NoRt skipS := fun ρ r ρ' h => nomatch h
theorem svx_seq {X : Hp → Hp → V → Prop} {t u : TS} {m n : SM} (h : SVX K X t m) (g : SVX K X u n) : SVX K X (tSeq t u) (seqS m n) := fun A σ ρ F H o E N e q => by
  obtain ⟨o1, e1, e⟩ := bind_some e
  refine h A σ ρ F H o1 _ N e1 ?_
  cases o1 with
  | nx ρ1 => exact fun σ' F' H' N' s => g A σ' ρ1 F' H' o E N' e (q.up s)
  | rt r ρ1 => cases e; exact q
  | bk ρ1 => cases e; exact q
  | ct ρ1 => cases e; exact q
theorem svx_if {X : Hp → Hp → V → Prop} {t : TT} {u w : TS} {c : TM} {m n : SM} (h : TV K t c) (g : SVX K X u m) (k : SVX K X w n) : SVX K X (tIfS t u w) (ifS c m n) := fun A σ ρ F H o E N e q => by
  obtain ⟨⟨b, ρ1⟩, e1, e⟩ := bind_some e
  refine h σ ρ F H b ρ1 N.env e1 _ fun F1 H1 P1 => ?_
  cases b with
  | true => exact g A σ ρ1 F1 H1 o E (N.post P1) e (q.up P1.fle)
  | false => exact k A σ ρ1 F1 H1 o E (N.post P1) e (q.up P1.fle)
/-- the told list is one's own -/
def ownR : List Rz → Rho → Bool
  | [_, .own _], _ => true
  | [_, .brw i], ρ => match ρ[i]? with
    | some (some (.own _)) => true
    | _ => false
  | _, _ => false
def tupFM (m : AM) : EM := fun ρ => (m ρ).bind fun a => if ownR a.1 a.2 = true then tupM m ρ else none
def retF (m : AM) : SM := fun ρ => (tupFM m ρ).bind fun a => some (.rt a.1 a.2)
theorem svx_ret {ta : TA} {m : AM} (h : AV K ta m) : SVX K FrT (tRet (tTup ta)) (retF m) := fun A σ ρ F H o E N e q => by
  obtain ⟨⟨r, ρ3⟩, e1, e⟩ := bind_some e
  cases e
  obtain ⟨⟨rs, ρ1⟩, e2, e1⟩ := bind_some e1
  simp only at e1
  split at e1
  · rename_i ho
    unfold tupM at e1
    rw [e2] at e1
    obtain ⟨⟨ds, ρ2⟩, e3, e1⟩ := bind_some (show (takeL rs ρ1).bind _ = _ from e1)
    simp only at e1
    split at e1
    · rename_i hl
      cases e1
      show tTup ta σ H E.rt
      refine h σ ρ F H rs ρ1 N.env e2 _ fun vs F1 H1 P1 R1 => ?_
      have N1 := N.post P1
      obtain ⟨F2, P2, s2, r2⟩ := takeA N.env P1 R1 e3
      refine ⟨by rw [r2.length]; exact hl, fun p hp => ?_⟩
      have hf : ∀ (w : V) (p' : Addr), vs = [w, .ref p'] → A.H0 p' = none := fun w p' ev => by
        subst ev
        cases R1 with
        | @cons _ _ r1 _ a1 t1 _ =>
          cases t1 with
          | @cons _ _ r2' _ a2 t2 _ =>
            cases t2
            cases r2' with
            | sh d => cases r1 <;> cases ho
            | own es =>
              obtain ⟨p2, xs, z, h0, _⟩ := a2
              cases z
              exact none_back N.ex h0
            | brw i =>
              have ho' : (match ρ1[i]? with
                | some (some (.own _)) => true
                | _ => false) = true := by cases r1 <;> exact ho
              split at ho'
              · rename_i es hes
                rcases N1.own i es p' hes a2 with z | z
                · cases z
                · exact z
              · cases ho'
      have s : Same F2 (upd F2 p (.tup vs)) := Same.new (fresh_F P2.env.le hp)
      have u : Same (upd F2 p (.tup vs)) (upd H1 p (.tup vs)) := fun a o e => by
        by_cases z : a = p
        · subst z
          rw [upd_same] at e ⊢
          exact e
        · rw [upd_ne z] at e ⊢
          exact P2.env.le a o e
      have G : Post K σ ρ F H _ (upd F2 p (.tup vs)) (upd H1 p (.tup vs)) := P2.trans (Post.grow P2.env s (Same.new hp) u fun a h => upd_ne fun z => h (by rw [z]; exact hp))
      refine q (.ref p) σ _ _ (N.post G) G.fle (.tup upd_same (RpA.up s ds vs r2)) fun q' w p' ev et => ?_
      cases ev
      rw [upd_same] at et
      cases et
      exact hf w p' rfl
    · cases e1
  · cases e1
section
variable {P : Program} {w : World} {K : PySem.W.Frag} {mg : Str → Option Value} {base : Heap}
theorem okX {X : Hp → Hp → V → Prop} (hn : ∀ H0 F', X H0 F' .non) {x qual : Str} {st : Stmt} {f : Addr} {fd : FuncData} {N ps : List Str} {k n l : Nat} {m : SM} {p : List D → Option Rz} (F : L2.Fun K x qual st f fd) (Sc : FnScope N ps (defScope st)) (hp : p = fnP n l m) (hN : N.length = n) (hl : ps.length = l)
    (hb : ∀ (cdv : Value) (A : Around) (out : List PySem.Env) (s : Shared) (H : Hp) (E : XK), Room k (A.deeper (envOfC qual (defScope st) s.heap.objs.size f cdv)) → A.guards = some [] →
      ∃ t, PSs (cxOf CX0 P w K mg base N qual (defScope st) f cdv A out s H E).nox (defBody st) t ∧ SVX K X t m) :
    FnG P w K mg base CX0 (k + 1) f fd ps (spX K X p) := by
  subst hp hN hl
  have cnt : ∀ {vs H Q E}, spX K X (fnP N.length ps.length m) vs H Q E → vs.length = ps.length := fun {vs H Q E} ⟨F, ds, z, _, r, e, _⟩ => by
    unfold fnP at e
    split at e
    · rename_i h
      rw [r.length]
      exact h
    · cases e
  refine okG F Sc (fun vs H Q E h => cnt h) fun cdv A out s H vs Q E hr hg h => ?_
  obtain ⟨t, ht, sv⟩ := hb cdv A out s H E hr hg
  refine ⟨t, ht, ?_⟩
  have hl := cnt h
  obtain ⟨F0, ds, z, le, r, e, q⟩ := h
  unfold fnP at e
  split at e
  · rename_i hd
    have env : EnvR K (L2.start N vs) (ds.map (fun d => some (Sl.sh d)) ++ List.replicate (N.length - ps.length) none) F0 H := by
      unfold L2.start
      rw [hl]
      refine ⟨le, by simp [r.length], fun i sl h => ?_, fun i j a b v h _ _ _ => ?_⟩
      · obtain ⟨v, d, rfl, h1, h2⟩ := r.env _ h
        exact ⟨v, h1, h2⟩
      · obtain ⟨v, d, z, _⟩ := r.env _ h
        cases z
    have N0 : Now K ⟨L2.start N vs, F0, H⟩ [] (L2.start N vs) (ds.map (fun d => some (Sl.sh d)) ++ List.replicate (N.length - ps.length) none) F0 H := by
      refine ⟨env, Same.refl _, fun _ _ h _ => h, fun _ h => h, fun _ _ _ => rfl, fun i a b h _ => ?_, fun _ h => nomatch h⟩
      obtain ⟨v, d, z, _⟩ := r.env _ h
      cases z
    have nj : ∀ a, ¬ Jr ⟨L2.start N vs, F0, H⟩ [] a := fun a ⟨i, hi, _⟩ => nomatch hi
    cases eo : m (ds.map (fun d => some (Sl.sh d)) ++ List.replicate (N.length - ps.length) none) with
    | none =>
      rw [eo] at e
      cases e
    | some o =>
      rw [eo] at e
      refine sv _ _ _ F0 H o _ N0 eo ?_
      cases o with
      | nx ρ =>
        cases e
        exact fun σ' F' H' N' s' => q .non F' H' s' (fun a o h => N'.keep a o h (nj a)) N'.env.le (fun a h => N'.fz a h (nj a)) .non (hn _ _)
      | rt r ρ =>
        cases e
        exact fun v σ' F' H' N' s' r' x' => q v F' H' s' (fun a o h => N'.keep a o h (nj a)) N'.env.le (fun a h => N'.fz a h (nj a)) r' x'
      | bk ρ => cases e
      | ct ρ => cases e
  · cases e
end
theorem frT_non (H0 F' : Hp) : FrT H0 F' .non := fun _ _ _ h => nomatch h
/-! ### the told list is changed, and nobody looks at it any more -/
def EVSX (K : PySem.W.Frag) (X : Hp → Hp → V → Prop) (te : TE) (m : EM) : Prop := ∀ (σ : L2.St) (ρ : Rho) (F H : Hp) (r : Rz) (ρ' : Rho), EnvR K σ ρ F H → m ρ = some (r, ρ') → ∀ Q : VK,
  (∀ v F' H', Post K σ ρ F H ρ' F' H' → Same H H' → ResR K σ F' H H' v r → X H F' v → Q v H') → te σ H Q
theorem FrT.back {H H1 F : Hp} {v : V} (ex : ∀ a, H a ≠ none → H1 a ≠ none) (h : FrT H1 F v) : FrT H F v := fun q w p a b => none_back ex (h q w p a b)
theorem evsx_call {f : List D → Option Rz} {E0 : XK} {ta : TA} {m : AM} (h : AVS K ta m) : EVSX K FrT (tCall (spX K FrT f) [] E0 ta) (callM f m) := fun σ ρ F H r ρ' E e Q q => by
  obtain ⟨⟨rs, ρ1⟩, e1, e⟩ := bind_some e
  obtain ⟨⟨ds, ρ2⟩, e2, e⟩ := bind_some e
  obtain ⟨z, e3, e⟩ := bind_some e
  cases e
  refine h σ ρ F H rs ρ1 E e1 _ fun vs F1 H1 P1 S1 R1 => ?_
  obtain ⟨F2, P2, s2, r2⟩ := takeA E P1 R1 e2
  refine ⟨F2, ds, r, P2.env.le, by rw [List.append_nil]; exact r2, e3, fun v F' H' s t u n Rz x => ?_⟩
  exact q v F' H' (P2.trans (Post.grow P2.env s t u n)) (S1.trans t) (ResR.base P2.ex Rz.nil) (x.back P2.ex)
theorem evsx_callK {f : List D → Option Rz} {E0 : XK} {is : List Nat} {ta : TA} {m : AM} (h : AVS K ta m) : EVSX K FrT (tCallK (spX K FrT f) (gP is) E0 tNil ta) (callKM f is m) := fun σ ρ F H r ρ' E e Q q => by
  obtain ⟨⟨rs, ρ1⟩, e1, e⟩ := bind_some e
  obtain ⟨⟨ds, ρ2⟩, e2, e⟩ := bind_some e
  simp only at e
  split at e
  · rename_i hl
    obtain ⟨z, e3, e⟩ := bind_some e
    cases e
    refine h σ ρ F H rs ρ1 E e1 _ fun vs F1 H1 P1 S1 R1 => ?_
    obtain ⟨F2, P2, s2, r2⟩ := takeA E P1 R1 e2
    refine ⟨F2, _, r, P2.env.le, ?_, e3, fun v F' H' s t u n Rz x => ?_⟩
    · show RpA K F2 (if vs.length = is.length then pick is vs else []) _
      rw [if_pos (by rw [r2.length]; exact hl)]
      exact pick_rp r2
    · exact q v F' H' (P2.trans (Post.grow P2.env s t u n)) (S1.trans t) (ResR.base P2.ex Rz.nil) (x.back P2.ex)
  · cases e
theorem ev_callX {X : Hp → Hp → V → Prop} {f : List D → Option Rz} {E0 : XK} {ta : TA} {m : AM} (h : AV K ta m) : EV K (tCall (spX K X f) [] E0 ta) (callM f m) := fun σ ρ F H r ρ' E e Q q => by
  obtain ⟨⟨rs, ρ1⟩, e1, e⟩ := bind_some e
  obtain ⟨⟨ds, ρ2⟩, e2, e⟩ := bind_some e
  obtain ⟨z, e3, e⟩ := bind_some e
  cases e
  refine h σ ρ F H rs ρ1 E e1 _ fun vs F1 H1 P1 R1 => ?_
  obtain ⟨F2, P2, s2, r2⟩ := takeA E P1 R1 e2
  refine ⟨F2, ds, r, P2.env.le, by rw [List.append_nil]; exact r2, e3, fun v F' H' s t u n Rz _ => ?_⟩
  exact q v F' H' (P2.trans (Post.grow P2.env s t u n)) (ResR.base P2.ex Rz.nil)
theorem ev_callKX {X : Hp → Hp → V → Prop} {f : List D → Option Rz} {E0 : XK} {is : List Nat} {ta : TA} {m : AM} (h : AV K ta m) : EV K (tCallK (spX K X f) (gP is) E0 tNil ta) (callKM f is m) := fun σ ρ F H r ρ' E e Q q => by
  obtain ⟨⟨rs, ρ1⟩, e1, e⟩ := bind_some e
  obtain ⟨⟨ds, ρ2⟩, e2, e⟩ := bind_some e
  simp only at e
  split at e
  · rename_i hl
    obtain ⟨z, e3, e⟩ := bind_some e
    cases e
    refine h σ ρ F H rs ρ1 E e1 _ fun vs F1 H1 P1 R1 => ?_
    obtain ⟨F2, P2, s2, r2⟩ := takeA E P1 R1 e2
    refine ⟨F2, _, r, P2.env.le, ?_, e3, fun v F' H' s t u n Rz _ => ?_⟩
    · show RpA K F2 (if vs.length = is.length then pick is vs else []) _
      rw [if_pos (by rw [r2.length]; exact hl)]
      exact pick_rp r2
    · exact q v F' H' (P2.trans (Post.grow P2.env s t u n)) (ResR.base P2.ex Rz.nil)
  · cases e
/-- an own list is from here on only read -/
def frzS (i : Nat) (m : SM) : SM := fun ρ => (takeR (.brw i) ρ).bind fun b => m b.2
theorem sv_frz {pr : List Nat} {i : Nat} {ts : TS} {m : SM} (h : SV K pr ts m) : SV K pr ts (frzS i m) := fun A σ ρ F H o E N e q => by
  obtain ⟨⟨d, ρ1⟩, e1, e⟩ := bind_some e
  have hv : ∃ v, σ[i]? = some (some v) := by
    unfold takeR at e1
    simp only at e1
    split at e1
    · rename_i d' hd
      obtain ⟨v, a, _⟩ := N.env.slot i _ hd
      exact ⟨v, a⟩
    · rename_i d' hd
      obtain ⟨v, a, _⟩ := N.env.slot i _ hd
      exact ⟨v, a⟩
    · cases e1
  obtain ⟨v, hv⟩ := hv
  obtain ⟨F', P, s, _⟩ := take1 N.env (Post.refl N.env) (v := v) (r := .brw i) hv e1
  exact h A σ ρ1 F' H o E (N.post P) e (q.up P.fle)
def tMelt (K : PySem.W.Frag) (i : Nat) : TS := tDrop (tBM K "list" rAppend (tOp (rIx K) (tVar i) (tC (.int 1))) (tCons (tC .non) tNil))
theorem melt_at {i : Nat} {σ : L2.St} {H : Hp} {D : Ends} {q p : Addr} {w : V} {xs : List V} (hs : σ[i]? = some (some (.ref q))) (hq : H q = some (.tup [w, .ref p])) (hp : H p = some (.lst xs)) (hl : xs.length < sizeLine)
    (k : D.nx σ (upd H p (.lst (xs ++ [.non])))) : tMelt K i D σ H :=
  ⟨_, hs, .inr (.inl ⟨q, _, 1, _, rfl, rfl, SqT.of hq, rfl, .inl ⟨rfl, xs, SqL.of hp⟩, p, xs, .non, rfl, rfl, hp, hl, k⟩)⟩
def NoOwn (ρ : Rho) : Prop := ∀ (i : Nat) (ds : List D), ρ[i]? ≠ some (some (.own ds))
open Classical in
noncomputable def meltS (i : Nat) (mC : EM) (c : TM) (mb ml : SM) : SM := fun ρ => (mC ρ).bind fun a => match a.1 with
  | .sh (.tuple [.str s, .list ds]) => if NoOwn ρ ∧ a.2 = ρ ∧ ds.length < sizeLine ∧ i < ρ.length then
      (c (ρ.set i (some (.sh (.tuple [.str s, .list ds]))))).bind fun b => if b.2 = ρ.set i (some (.sh (.tuple [.str s, .list ds]))) then
        (if b.1 = true then (match mb b.2 with
          | some (.rt r ρ') => some (.rt r ρ')
          | _ => none) else ml (ρ.set i none)) else none
    else none
  | _ => none
theorem sv_melt {i : Nat} {te : TE} {tt : TT} {tb tl : TS} {mC : EM} {c : TM} {mb ml : SM} (hC : EVSX K FrT te mC) (hT : TV K tt c) (hB : SV K [] tb mb) (hL : SV K [] tl ml) :
    SV K [] (tSeq (tAsg te (gName i)) (tSeq (tIfS tt tb tNext) (tSeq (tMelt K i) tl))) (meltS i mC c mb ml) := fun A σ ρ F H o E N e q => by
  obtain ⟨⟨r, ρa⟩, e1, e⟩ := bind_some e
  simp only at e
  split at e
  · rename_i s ds
    split at e
    · rename_i hh
      obtain ⟨hN, ea, hl, hi⟩ := hh
      subst ea
      obtain ⟨⟨b, ρ2⟩, e2, e⟩ := bind_some e
      simp only at e
      split at e
      · rename_i ec
        subst ec
        refine hC σ ρa F H _ _ N.env e1 _ fun v F1 H1 P1 S1 R1 X1 => ?_
        have R1' : Rp K F1 v (.tuple [.str s, .list ds]) := R1
        cases R1' with
        | tup hq ha =>
          rename_i aq axs
          cases ha with
          | cons ha1 ha2 =>
            rename_i w ws
            cases ha2 with
            | cons hb1 hb2 =>
              cases hb2
              cases hb1 with
              | lst hp hx =>
                rename_i p xs
                have hp0 : H p = none := X1 aq w p rfl hq
                have N1 := (N.post P1).put (i := i) (fun z => nomatch z) (v := .ref aq) (s := .sh (.tuple [.str s, .list ds])) R1 (fun es a z _ => nomatch z)
                have no : ∀ a, ¬ Owns (σ.set i (some (.ref aq))) (ρa.set i (some (.sh (.tuple [.str s, .list ds])))) a := fun a ⟨j, es, x, _⟩ => by
                  rcases set_back x with ⟨_, z⟩ | ⟨_, z⟩
                  · cases z
                  · exact hN j es z
                refine hT _ _ F1 H1 b _ N1.env e2 _ fun F2 H2 P2 => ?_
                cases b with
                | true =>
                  rw [if_pos rfl] at e
                  split at e
                  · rename_i r' ρ' eb
                    cases e
                    refine hB A _ _ F2 H2 _ _ (N1.post P2) eb ?_
                    exact Then.up (P1.fle.trans P2.fle) q
                  · cases e
                | false =>
                  rw [if_neg (by decide)] at e
                  have ne : ∀ a, H a ≠ none → a ≠ p := fun a h z => h (by rw [z]; exact hp0)
                  have hk : ∀ a ob, H a = some ob → upd H2 p (.lst (xs ++ [.non])) a = some ob := fun a ob h => by
                    rw [upd_ne (ne a (not_none h))]
                    exact P2.keep a ob (S1 a ob h) (no a)
                  refine melt_at (q := aq) (p := p) (w := w) (xs := xs) ?_ (P2.env.le _ _ (P2.fle _ _ hq)) (P2.env.le _ _ (P2.fle _ _ hp)) (by rw [hx.length]; exact hl) ?_
                  · exact List.getElem?_set_self (by rw [← N.env.len]; exact hi)
                  · refine hL A _ _ F _ o E ⟨⟨fun a ob h => hk a ob (N.env.le a ob h), by rw [List.length_set, List.length_set]; exact N.env.len, fun j x h => ?_, fun j k ds1 ds2 u h _ _ _ => ?_⟩, N.fle, fun a ob h n => hk a ob (N.keep a ob h n), fun a h => ?_, N.fz, fun j es a h _ => ?_, fun _ h => nomatch h⟩ e q
                    · rcases set_back h with ⟨_, z⟩ | ⟨z, h⟩
                      · cases z
                      · obtain ⟨u, h1, h2⟩ := N.env.slot j x h
                        refine ⟨u, by rw [List.getElem?_set_ne (Ne.symm z)]; exact h1, ?_⟩
                        cases x with
                        | sh d => exact h2
                        | own es => exact absurd h (hN j es)
                    · rcases set_back h with ⟨_, z⟩ | ⟨_, h⟩
                      · cases z
                      · exact absurd h (hN j ds1)
                    · have h' := N.ex a h
                      cases ho : H a with
                      | none => exact absurd ho h'
                      | some ob => exact not_none (hk a ob ho)
                    · rcases set_back h with ⟨_, z⟩ | ⟨_, h⟩
                      · cases z
                      · exact absurd h (hN j es)
      · cases e
    · cases e
  · cases e
end Pv

set_option Elab.async false
set_option linter.all false
set_option maxRecDepth 100000
set_option maxHeartbeats 4000000
namespace Lib
open PySem PySem.Spec PyProof.Rows L2 Ws Pv
-- 0:script 1:k 2:cell_here
def m__law_jar : Pv.SM :=
  (seqS (setS 2 (ifE (tstM (opM fLt (arg2 (varM 1) (opM fLen (consM (varM 0) nilM))))) (opM fAbs (consM (opM fIx (arg2 (varM 0) (varM 1))) nilM)) (cM (.int 0))))
    (retS [] (lstM (consM (opM fMax2 (consM (cM (.int 0)) (consM (opM fSub (arg2 (varM 2) (opM fPow (arg2 (cM (.int 10)) (cM (.int 18)))))) nilM))) (consM (opM fAdd (arg2 (opM fMul (arg2 (opM fMod (arg2 (opM fInt (consM (varM 2) nilM)) (opM fAdd (arg2 (opM fPow (arg2 (cM (.int 10)) (cM (.int 43)))) (cM (.int 57)))))) (cM (.int 101)))) (opM fMul (arg2 (cM (.int 70001)) (varM 1))))) (consM (cM (.int 0)) nilM))))))
def p__law_jar : List Pv.D → Option Pv.Rz := Pv.fnP 3 2 m__law_jar
-- 0:jar 1:many 2:digit 3:mixed
def m__law_dip : Pv.SM :=
  (seqS (ifS (tstM (opM fGt (arg2 (opM fIx (arg2 (varM 0) (cM (.int 0)))) (cM (.int 0)))))
    (seqS (setS 2 (opM fMod (arg2 (opM fInt (consM (opM fIx (arg2 (varM 0) (cM (.int 0)))) nilM)) (varM 1))))
    (seqS (subS 0 (cM (.int 0)) (opM fDiv (arg2 (opM fIx (arg2 (varM 0) (cM (.int 0)))) (varM 1))))
    (retS [0] (varM 2))))
    skipS)
    (seqS (subS 0 (cM (.int 2)) (opM fAdd (arg2 (opM fIx (arg2 (varM 0) (cM (.int 2)))) (cM (.int 1)))))
    (seqS (setS 3 (opM fMod (arg2 (opM fInt (consM (opM fPow (arg2 (opM fAdd (arg2 (opM fIx (arg2 (varM 0) (cM (.int 1)))) (opM fMul (arg2 (cM (.int 60000049)) (opM fIx (arg2 (varM 0) (cM (.int 2)))))))) (cM (.int 3)))) nilM)) (opM fAdd (arg2 (opM fPow (arg2 (cM (.int 10)) (cM (.int 47)))) (cM (.int 91)))))))
    (seqS (setS 3 (opM fMod (arg2 (opM fInt (consM (opM fPow (arg2 (opM fAdd (arg2 (varM 3) (opM fMul (arg2 (cM (.int 35000021)) (opM fIx (arg2 (varM 0) (cM (.int 2)))))))) (cM (.int 3)))) nilM)) (opM fAdd (arg2 (opM fPow (arg2 (cM (.int 10)) (cM (.int 46)))) (cM (.int 79)))))))
    (retS [0] (opM fMod (arg2 (opM fInt (consM (opM fDiv (arg2 (varM 3) (cM (.int 1073741827)))) nilM)) (varM 1))))))))
def p__law_dip : List Pv.D → List Pv.D → Option (Pv.Rz × List Pv.D) := Pv.fnJ 4 2 m__law_dip
-- 0:numbers_here 1:size 2:found 3:place_here 4:total 5:spot
def m__law_sums : Pv.SM :=
  (seqS (setS 2 (lstM nilM))
    (seqS (forS (rng1 (opM fAdd (arg2 (opM fSub (arg2 (opM fLen (consM (varM 0) nilM)) (varM 1))) (cM (.int 1))))) (gN 3)
    (seqS (setS 4 (cM (.int 0)))
    (seqS (forS (rng1 (varM 1)) (gN 5)
    (setS 4 (opM fAdd (arg2 (varM 4) (opM fIx (arg2 (varM 0) (opM fAdd (arg2 (varM 3) (varM 5)))))))))
    (exprS (appE 2 (varM 4))))))
    (retS [] (varM 2))))
def p__law_sums : List Pv.D → Option Pv.Rz := Pv.fnP 6 2 m__law_sums
-- 0:jar 1:many 2:top 3:way_here 4:found 5:turn 6:one
def m__law_days : Pv.SM :=
  (seqS (setS 3 (callJM p__law_dip (consM (varM 0) (consM (cM (.int 3)) nilM))))
    (seqS (setS 4 (compM (rng1 (varM 1)) (gN 5) yesT (callJM p__law_dip (consM (varM 0) (consM (opM fAdd (arg2 (varM 2) (cM (.int 1)))) nilM))) [5]))
    (seqS (ifS (tstM (opM fEq (arg2 (varM 3) (cM (.int 0)))))
    (setS 4 (compM (walkM (varM 4)) (gN 6) yesT (opM fIx (arg2 (lstM (consM (cM (.int 0)) (consM (varM 2) (consM (varM 6) nilM)))) (callJM p__law_dip (consM (varM 0) (consM (cM (.int 3)) nilM))))) [6]))
    skipS)
    (retS [0] (varM 4)))))
def p__law_days : List Pv.D → List Pv.D → Option (Pv.Rz × List Pv.D) := Pv.fnJ 7 3 m__law_days
-- 0:jar 1:way_here
def m__law_top : Pv.SM :=
  (seqS (setS 1 (callJM p__law_dip (consM (varM 0) (consM (cM (.int 3)) nilM))))
    (seqS (ifS (tstM (opM fEq (arg2 (varM 1) (cM (.int 2)))))
    (retS [0] (opM fSub (arg2 (opM fSub (arg2 (opM fPow (arg2 (cM (.int 10)) (cM (.int 30)))) (cM (.int 1)))) (callJM p__law_dip (consM (varM 0) (consM (opM fPow (arg2 (cM (.int 10)) (cM (.int 30)))) nilM))))))
    skipS)
    (retS [0] (callJM p__law_dip (consM (varM 0) (consM (opM fIx (arg2 (lstM (consM (cM (.int 4)) (consM (cM (.int 30)) nilM))) (varM 1))) nilM))))))
def p__law_top : List Pv.D → List Pv.D → Option (Pv.Rz × List Pv.D) := Pv.fnJ 2 1 m__law_top
-- 0:jar 1:parts 2:top
def m__law_high : Pv.SM :=
  (seqS (setS 2 (callJM p__law_top (consM (varM 0) nilM)))
    (retS [0] (ifE (tstM (opM fGt (arg2 (varM 2) (opM fPow (arg2 (cM (.int 10)) (cM (.int 6))))))) (opM fDiv (arg2 (varM 2) (varM 1))) (varM 2))))
def p__law_high : List Pv.D → List Pv.D → Option (Pv.Rz × List Pv.D) := Pv.fnJ 3 2 m__law_high
-- 0:jar 1:most_days 2:size
def m__law_size : Pv.SM :=
  (seqS (setS 2 (opM fAdd (arg2 (cM (.int 1)) (callJM p__law_dip (consM (varM 0) (consM (cM (.int 8)) nilM))))))
    (retS [0] (tupM (consM (varM 2) (consM (opM fAdd (arg2 (varM 2) (callJM p__law_dip (consM (varM 0) (consM (opM fAdd (arg2 (opM fSub (arg2 (varM 1) (varM 2))) (cM (.int 1)))) nilM))))) nilM)))))
def p__law_size : List Pv.D → List Pv.D → Option (Pv.Rz × List Pv.D) := Pv.fnJ 3 2 m__law_size
end Lib

set_option Elab.async false
set_option linter.all false
set_option maxRecDepth 100000
set_option maxHeartbeats 4000000
namespace Lib
open PySem PySem.Spec PyProof.Rows L2 Ws Pv
-- 0:thing
def m_is_integer : Pv.SM :=
  (retS [] (andE (opM (fIns insInt) (arg1 (varM 0))) (notE (opM (fIns insBool) (arg1 (varM 0))))))
def p_is_integer : List Pv.D → Option Pv.Rz := Pv.fnP 1 1 m_is_integer
-- 0:thing 1:low 2:high
def m_is_within : Pv.SM :=
  (retS [] (andE (callM p_is_integer (consM (varM 0) nilM)) (chM (fun i j => decide (i ≤ j)) (fun i j => decide (i ≤ j)) (varM 1) (varM 0) (varM 2))))
def p_is_within : List Pv.D → Option Pv.Rz := Pv.fnP 3 3 m_is_within
-- 0:thing 1:many 2:item
def m_is_row : Pv.SM :=
  (seqS (ifS (orT (tstM (opM (fNotTy "list") (arg1 (varM 0)))) (notT (tstM (chM (fun i j => decide (i ≤ j)) (fun i j => decide (i ≤ j)) (cM (.int 1)) (opM fLen (consM (varM 0) nilM)) (varM 1)))))
    (retS [] (cM (.bool false)))
    skipS)
    (retS [] (opM (fB1 fun bs => bs.all id) (consM (compM (walkM (varM 0)) (gN 2) yesT (callM p_is_integer (consM (varM 2) nilM)) [2]) nilM))))
def p_is_row : List Pv.D → Option Pv.Rz := Pv.fnP 3 2 m_is_row
-- 0:sums
def m_check_row_of_sums : Pv.SM :=
  (ifS (notT (tstM (callM p_is_row (consM (varM 0) (consM (cM (.int 67)) nilM)))))
    neverS
    skipS)
def p_check_row_of_sums : List Pv.D → Option Pv.Rz := Pv.fnP 1 1 m_check_row_of_sums
-- 0:sums 1:length
def m_check_sums : Pv.SM :=
  (seqS (exprS (callM p_check_row_of_sums (consM (varM 0) nilM)))
    (ifS (notT (tstM (callM p_is_within (consM (varM 1) (consM (cM (.int 1)) (consM (opM fMin2 (consM (cM (.int 8)) (consM (opM fSub (arg2 (opM fAdd (arg2 (cM (.int 67)) (cM (.int 1)))) (opM fLen (consM (varM 0) nilM)))) nilM))) nilM))))))
    neverS
    skipS))
def p_check_sums : List Pv.D → Option Pv.Rz := Pv.fnP 2 2 m_check_sums
-- 0:most
def m_check_most : Pv.SM :=
  (ifS (notT (tstM (callM p_is_within (consM (varM 0) (consM (cM (.int 0)) (consM (cM (.int 999999999999999999999999999999)) nilM))))))
    neverS
    skipS)
def p_check_most : List Pv.D → Option Pv.Rz := Pv.fnP 1 1 m_check_most
-- 0:sums 1:length 2:most
def m_check_told : Pv.SM :=
  (seqS (exprS (callM p_check_sums (consM (varM 0) (consM (varM 1) nilM))))
    (exprS (callM p_check_most (consM (varM 2) nilM))))
def p_check_told : List Pv.D → Option Pv.Rz := Pv.fnP 3 3 m_check_told
-- 0:sums 1:length 2:offsets 3:at
def m_offsets_of : Pv.SM :=
  (seqS (setS 2 (opM fRep (arg2 (lstM (consM (cM (.int 0)) nilM)) (varM 1))))
    (seqS (forS (rng1 (opM fSub (arg2 (opM fLen (consM (varM 0) nilM)) (cM (.int 1))))) (gN 3)
    (exprS (appE 2 (opM fSub (arg2 (opM fAdd (arg2 (opM fIx (arg2 (varM 2) (varM 3))) (opM fIx (arg2 (varM 0) (opM fAdd (arg2 (varM 3) (cM (.int 1)))))))) (opM fIx (arg2 (varM 0) (varM 3))))))))
    (retS [] (varM 2))))
def p_offsets_of : List Pv.D → Option Pv.Rz := Pv.fnP 4 2 m_offsets_of
-- 0:sums 1:offsets 2:days 3:day
def m_total_at : Pv.SM :=
  (retS [] (opM fAdd (arg2 (opM fIx (arg2 (varM 0) (cM (.int 0)))) (opM fSum (consM (compM (walkM (varM 2)) (gN 3) yesT (opM fIx (arg2 (varM 1) (varM 3))) [3]) nilM)))))
def p_total_at : List Pv.D → Option Pv.Rz := Pv.fnP 4 3 m_total_at
-- 0:offsets 1:length 2:most 3:first 4:second
def m_first_apart : Pv.SM :=
  (seqS (forS (rng1 (opM fLen (consM (varM 0) nilM))) (gN 3)
    (forS (rng3 (opM fAdd (arg2 (varM 3) (varM 1))) (opM fLen (consM (varM 0) nilM)) (varM 1)) (gN 4)
    (ifS (tstM (opM fGt (arg2 (opM fAbs (consM (opM fSub (arg2 (opM fIx (arg2 (varM 0) (varM 4))) (opM fIx (arg2 (varM 0) (varM 3))))) nilM)) (varM 2))))
    (retS [] (lstM (consM (varM 3) (consM (varM 4) nilM))))
    skipS)))
    (retS [] (cM .none)))
def p_first_apart : List Pv.D → Option Pv.Rz := Pv.fnP 5 3 m_first_apart
-- 0:offsets 1:length 2:days 3:start 4:_ 5:lowest 6:day
def m_lowest_days : Pv.SM :=
  (seqS (setS 2 (lstM nilM))
    (seqS (forS (rng1 (varM 1)) (gN 3)
    (seqS (asgS (opM fMinQ (consM (compM (rng3 (varM 3) (opM fLen (consM (varM 0) nilM)) (varM 1)) (gN 6) yesT (tupM (consM (opM fIx (arg2 (varM 0) (varM 6))) (consM (varM 6) nilM))) [6]) nilM)) (gT (gsCons (gN 4) (gsCons (gN 5) gsNil))))
    (exprS (appE 2 (varM 5)))))
    (retS [] (opM fSorted (consM (varM 2) nilM)))))
def p_lowest_days : List Pv.D → Option Pv.Rz := Pv.fnP 7 2 m_lowest_days
-- 0:offsets 1:length 2:offset
def m_highest_days : Pv.SM :=
  (retS [] (callM p_lowest_days (consM (compM (walkM (varM 0)) (gN 2) yesT (opM fNeg (arg1 (varM 2))) [2]) (consM (varM 1) nilM))))
def p_highest_days : List Pv.D → Option Pv.Rz := Pv.fnP 3 2 m_highest_days
-- 0:sums 1:length 2:most 3:offsets 4:pair 5:lowest 6:highest
def m_find_conflict : Pv.SM :=
  (seqS (setS 3 (callM p_offsets_of (consM (varM 0) (consM (varM 1) nilM))))
    (seqS (setS 4 (callM p_first_apart (consM (varM 3) (consM (varM 1) (consM (varM 2) nilM)))))
    (seqS (ifS (tstM (opM fNotN (arg2 (varM 4) (cM .none))))
    (retS [] (tupM (consM (cM (.str "apart")) (consM (varM 4) nilM))))
    skipS)
    (seqS (setS 5 (callM p_lowest_days (consM (varM 3) (consM (varM 1) nilM))))
    (seqS (ifS (tstM (opM fLt (arg2 (callM p_total_at (consM (varM 0) (consM (varM 3) (consM (varM 5) nilM)))) (cM (.int 0)))))
    (retS [] (tupM (consM (cM (.str "low")) (consM (varM 5) nilM))))
    skipS)
    (seqS (setS 6 (callM p_highest_days (consM (varM 3) (consM (varM 1) nilM))))
    (seqS (ifS (tstM (opM fGt (arg2 (callM p_total_at (consM (varM 0) (consM (varM 3) (consM (varM 6) nilM)))) (opM fMul (arg2 (varM 1) (varM 2))))))
    (retS [] (tupM (consM (cM (.str "high")) (consM (varM 6) nilM))))
    skipS)
    (retS [] (cM .none)))))))))
def p_find_conflict : List Pv.D → Option Pv.Rz := Pv.fnP 7 3 m_find_conflict
-- 0:sums 1:length 2:most 3:conflict 4:word 5:days
def m_need_way : Pv.SM :=
  (seqS (setS 3 (callM p_find_conflict (consM (varM 0) (consM (varM 1) (consM (varM 2) nilM)))))
    (ifS (tstM (opM fNotN (arg2 (varM 3) (cM .none))))
    (seqS (asgS (varM 3) (gT (gsCons (gN 4) (gsCons (gN 5) gsNil))))
    neverS)
    skipS))
def p_need_way : List Pv.D → Option Pv.Rz := Pv.fnP 6 3 m_need_way
-- 0:offsets 1:length 2:most 3:ranges 4:start 5:row
def m_start_ranges : Pv.SM :=
  (seqS (setS 3 (lstM nilM))
    (seqS (forS (rng1 (varM 1)) (gN 4)
    (seqS (setS 5 (stepM (varM 0) (partM (varM 4)) (partM (varM 1))))
    (exprS (appE 3 (tupM (consM (opM fNeg (arg1 (opM fMinL (consM (varM 5) nilM)))) (consM (opM fSub (arg2 (varM 2) (opM fMaxL (consM (varM 5) nilM)))) nilM)))))))
    (retS [] (varM 3))))
def p_start_ranges : List Pv.D → Option Pv.Rz := Pv.fnP 6 3 m_start_ranges
-- 0:ranges 1:total 2:high 3:beyond 4:starts 5:low 6:less 7:_
def m_least_starts : Pv.SM :=
  (seqS (setS 3 (opM fSub (arg2 (opM fSum (consM (compM (walkM (varM 0)) (gT (gsCons (gN 7) (gsCons (gN 2) gsNil))) yesT (varM 2) [7, 2]) nilM)) (varM 1))))
    (seqS (setS 4 (lstM nilM))
    (seqS (forS (walkM (varM 0)) (gT (gsCons (gN 5) (gsCons (gN 2) gsNil)))
    (seqS (setS 6 (opM fMin2 (consM (varM 3) (consM (opM fSub (arg2 (varM 2) (varM 5))) nilM))))
    (seqS (exprS (appE 4 (opM fSub (arg2 (varM 2) (varM 6)))))
    (augS 3 (fun a b => a - b) (varM 6)))))
    (retS [] (varM 4)))))
def p_least_starts : List Pv.D → Option Pv.Rz := Pv.fnP 8 2 m_least_starts
-- 0:starts 1:offsets 2:day
def m_way_from : Pv.SM :=
  (retS [] (compM (rng1 (opM fLen (consM (varM 1) nilM))) (gN 2) yesT (opM fAdd (arg2 (opM fIx (arg2 (varM 0) (opM fMod (arg2 (varM 2) (opM fLen (consM (varM 0) nilM)))))) (opM fIx (arg2 (varM 1) (varM 2))))) [2]))
def p_way_from : List Pv.D → Option Pv.Rz := Pv.fnP 3 2 m_way_from
-- 0:sums 1:length 2:most 3:offsets 4:starts
def m_first_way : Pv.SM :=
  (seqS (setS 3 (callM p_offsets_of (consM (varM 0) (consM (varM 1) nilM))))
    (seqS (setS 4 (callM p_least_starts (consM (callM p_start_ranges (consM (varM 3) (consM (varM 1) (consM (varM 2) nilM)))) (consM (opM fIx (arg2 (varM 0) (cM (.int 0)))) nilM))))
    (retS [] (callM p_way_from (consM (varM 4) (consM (varM 3) nilM))))))
def p_first_way : List Pv.D → Option Pv.Rz := Pv.fnP 5 3 m_first_way
-- 0:offsets 1:length 2:rows 3:start 4:row
def m_widest_tie : Pv.SM :=
  (seqS (setS 2 (compM (rng1 (varM 1)) (gN 3) yesT (stepM (varM 0) (partM (varM 3)) (partM (varM 1))) [3]))
    (retS [] (opM fMaxL (consM (compM (walkM (varM 2)) (gN 4) yesT (opM fSub (arg2 (opM fMaxL (consM (varM 4) nilM)) (opM fMinL (consM (varM 4) nilM)))) [4]) nilM))))
def p_widest_tie : List Pv.D → Option Pv.Rz := Pv.fnP 5 2 m_widest_tie
-- 0:sums 1:offsets 2:length
def m_least_high : Pv.SM :=
  (retS [] (opM fNeg (arg1 (opM fDiv (arg2 (opM fNeg (arg1 (callM p_total_at (consM (varM 0) (consM (varM 1) (consM (callM p_highest_days (consM (varM 1) (consM (varM 2) nilM))) nilM)))))) (varM 2))))))
def p_least_high : List Pv.D → Option Pv.Rz := Pv.fnP 3 3 m_least_high
-- 0:sums 1:offsets 2:length
def m_greatest_low : Pv.SM :=
  (retS [] (opM fDiv (arg2 (callM p_total_at (consM (varM 0) (consM (varM 1) (consM (callM p_lowest_days (consM (varM 1) (consM (varM 2) nilM))) nilM)))) (varM 2))))
def p_greatest_low : List Pv.D → Option Pv.Rz := Pv.fnP 3 3 m_greatest_low
-- 0:sums 1:length 2:offsets
def m_peak_of : Pv.SM :=
  (seqS (setS 2 (callM p_offsets_of (consM (varM 0) (consM (varM 1) nilM))))
    (retS [] (opM fMax2 (consM (callM p_widest_tie (consM (varM 2) (consM (varM 1) nilM))) (consM (callM p_least_high (consM (varM 0) (consM (varM 2) (consM (varM 1) nilM)))) nilM)))))
def p_peak_of : List Pv.D → Option Pv.Rz := Pv.fnP 3 2 m_peak_of
-- 0:sums 1:length 2:most 3:offsets
def m_floor_of : Pv.SM :=
  (seqS (setS 3 (callM p_offsets_of (consM (varM 0) (consM (varM 1) nilM))))
    (retS [] (opM fMin2 (consM (opM fSub (arg2 (varM 2) (callM p_widest_tie (consM (varM 3) (consM (varM 1) nilM))))) (consM (callM p_greatest_low (consM (varM 0) (consM (varM 3) (consM (varM 1) nilM)))) nilM)))))
def p_floor_of : List Pv.D → Option Pv.Rz := Pv.fnP 4 3 m_floor_of
-- 0:sums 1:length 2:most
def m_least_peak : Pv.SM :=
  (seqS (exprS (callM p_check_told (consM (varM 0) (consM (varM 1) (consM (varM 2) nilM)))))
    (seqS (exprS (callM p_need_way (consM (varM 0) (consM (varM 1) (consM (varM 2) nilM)))))
    (retS [] (callM p_peak_of (consM (varM 0) (consM (varM 1) nilM))))))
def p_least_peak : List Pv.D → Option Pv.Rz := Pv.fnP 3 3 m_least_peak
-- 0:sums 1:length 2:most
def m_greatest_floor : Pv.SM :=
  (seqS (exprS (callM p_check_told (consM (varM 0) (consM (varM 1) (consM (varM 2) nilM)))))
    (seqS (exprS (callM p_need_way (consM (varM 0) (consM (varM 1) (consM (varM 2) nilM)))))
    (retS [] (callM p_floor_of (consM (varM 0) (consM (varM 1) (consM (varM 2) nilM)))))))
def p_greatest_floor : List Pv.D → Option Pv.Rz := Pv.fnP 3 3 m_greatest_floor
-- 0:sums 1:length 2:most 3:low 4:high 5:lowest 6:highest 7:lowered 8:told 9:number
def m_way_within : Pv.SM :=
  (seqS (exprS (callM p_check_told (consM (varM 0) (consM (varM 1) (consM (varM 2) nilM)))))
    (seqS (setS 5 (opM fMax2 (consM (varM 3) (consM (cM (.int 0)) nilM))))
    (seqS (setS 6 (opM fMin2 (consM (varM 4) (consM (varM 2) nilM))))
    (seqS (ifS (tstM (opM fGt (arg2 (varM 5) (varM 6))))
    (retS [] (cM .none))
    skipS)
    (seqS (setS 7 (compM (walkM (varM 0)) (gN 8) yesT (opM fSub (arg2 (varM 8) (opM fMul (arg2 (varM 1) (varM 5))))) [8]))
    (seqS (ifS (tstM (opM fNotN (arg2 (callM p_find_conflict (consM (varM 7) (consM (varM 1) (consM (opM fSub (arg2 (varM 6) (varM 5))) nilM)))) (cM .none))))
    (retS [] (cM .none))
    skipS)
    (retS [] (compM (walkM (callM p_first_way (consM (varM 7) (consM (varM 1) (consM (opM fSub (arg2 (varM 6) (varM 5))) nilM))))) (gN 9) yesT (opM fAdd (arg2 (varM 9) (varM 5))) [9]))))))))
def p_way_within : List Pv.D → Option Pv.Rz := Pv.fnP 10 5 m_way_within
-- 0:sums_here 1:size 2:found 3:place_here 4:step
def m__law_gaps : Pv.SM :=
  (seqS (setS 2 (opM fRep (arg2 (lstM (consM (cM (.int 0)) nilM)) (varM 1))))
    (seqS (forS (rng1 (opM fSub (arg2 (opM fLen (consM (varM 0) nilM)) (cM (.int 1))))) (gN 3)
    (seqS (setS 4 (opM fSub (arg2 (opM fIx (arg2 (varM 0) (opM fAdd (arg2 (varM 3) (cM (.int 1)))))) (opM fIx (arg2 (varM 0) (varM 3))))))
    (exprS (appE 2 (opM fAdd (arg2 (opM fIx (arg2 (varM 2) (opM fNeg (arg1 (varM 1))))) (varM 4)))))))
    (retS [] (varM 2))))
def p__law_gaps : List Pv.D → Option Pv.Rz := Pv.fnP 5 2 m__law_gaps
-- 0:sums_here 1:size 2:top 3:gaps 4:lows 5:highs 6:rest 7:some 8:day_here
def m__law_box : Pv.SM :=
  (seqS (parS [3, 4, 5] (consM (callM p__law_gaps (consM (varM 0) (consM (varM 1) nilM))) (consM (lstM nilM) (consM (lstM nilM) nilM))))
    (seqS (forS (rng1 (varM 1)) (gN 6)
    (seqS (setS 7 (compM (rng3 (varM 6) (opM fLen (consM (varM 3) nilM)) (varM 1)) (gN 8) yesT (opM fIx (arg2 (varM 3) (varM 8))) [8]))
    (seqS (exprS (appE 4 (opM fSub (arg2 (cM (.int 0)) (opM fMinL (consM (varM 7) nilM))))))
    (exprS (appE 5 (opM fSub (arg2 (varM 2) (opM fMaxL (consM (varM 7) nilM)))))))))
    (retS [] (tupM (consM (varM 4) (consM (varM 5) nilM))))))
def p__law_box : List Pv.D → Option Pv.Rz := Pv.fnP 9 3 m__law_box
-- 0:lows 1:highs 2:total 3:wrong 4:spot 5:low
def m__law_fits : Pv.SM :=
  (seqS (setS 3 (compM (enumM (consM (varM 0) nilM)) (gT (gsCons (gN 4) (gsCons (gN 5) gsNil))) (tstM (opM fGt (arg2 (varM 5) (opM fIx (arg2 (varM 1) (varM 4)))))) (varM 4) [4, 5]))
    (retS [] (andE (opM fEq (arg2 (varM 3) (lstM nilM))) (andE (opM fLe (arg2 (opM fSum (consM (varM 0) nilM)) (varM 2))) (opM fLe (arg2 (varM 2) (opM fSum (consM (varM 1) nilM))))))))
def p__law_fits : List Pv.D → Option Pv.Rz := Pv.fnP 6 3 m__law_fits
end Lib

-- steps of a walk
local macro_rules | `(tactic| walk_at "p0") => `(tactic| refine Pv.fz_lenSet (by omega) ?_)
local macro_rules | `(tactic| walk_at "p0") => `(tactic| refine Pv.fz_ixA (by assumption) (by omega) ?_)
local macro_rules | `(tactic| walk_at "p0") => `(tactic| refine ⟨rfl, Pv.cal (by assumption) ?_⟩)
local macro_rules | `(tactic| walk_at "p0") => `(tactic| refine Pv.cal (by assumption) ?_)
local macro_rules | `(tactic| walk_at "p0") => `(tactic| refine Pv.ixn rfl ?_)
local macro_rules | `(tactic| walk_at "p0") => `(tactic| (refine Pv.pr3 (by rfl) (by rfl) ?_; try walk_at "pn"))
local macro_rules | `(tactic| walk_at "p0") => `(tactic| (refine Pv.gt3 (by rfl) ?_; try walk_at "pn"))
local macro_rules | `(tactic| walk_at "p0") => `(tactic| (refine Pv.gn ?_; try walk_at "pn"))
local macro_rules | `(tactic| walk_at "p0") => `(tactic| refine Pv.ow rfl ?_)
local macro_rules | `(tactic| walk_at "p0") => `(tactic| refine Pv.cj ?_)
local macro_rules | `(tactic| walk_at "p0") => `(tactic| refine Pv.fz_mod (by decide +kernel) ?_)
local macro_rules | `(tactic| walk_at "p0") => `(tactic| refine Pv.fz_pow (by decide +kernel) ?_)
local macro_rules | `(tactic| walk_at "p0") => `(tactic| refine Pv.fz_notN ?_)
local macro_rules | `(tactic| walk_at "p0") => `(tactic| refine Pv.fz_isN ?_)
local macro_rules | `(tactic| walk_at "p0") => `(tactic| refine Pv.iteN Bool.false_ne_true ?_)
local macro_rules | `(tactic| walk_at "p0") => `(tactic| refine Pv.iteP rfl ?_)
local macro_rules | `(tactic| walk_at "p0") => `(tactic| with_reducible refine Pv.iteND rfl ?_)
local macro_rules | `(tactic| walk_at "p0") => `(tactic| refine Pv.fz_notTy rfl ?_)
local macro_rules | `(tactic| walk_at "p0") => `(tactic| refine Pv.fz_isTy rfl ?_)
local macro_rules | `(tactic| walk_at "p0") => `(tactic| refine Pv.fz_ins rfl ?_)
local macro_rules | `(tactic| walk_at "p0") => `(tactic| refine Pv.fz_neL ?_)
local macro_rules | `(tactic| walk_at "p0") => `(tactic| refine Pv.fz_eqL ?_)
local macro_rules | `(tactic| walk_at "p0") => `(tactic| refine Pv.fz_neI ?_)
local macro_rules | `(tactic| walk_at "p0") => `(tactic| refine Pv.fz_eqI ?_)
local macro_rules | `(tactic| walk_at "p0") => `(tactic| refine Pv.fz_neS ?_)
local macro_rules | `(tactic| walk_at "p0") => `(tactic| refine Pv.fz_eqS ?_)
local macro_rules | `(tactic| walk_at "p0") => `(tactic| refine Pv.fz_any ?_)
local macro_rules | `(tactic| walk_at "p0") => `(tactic| refine Pv.fz_all ?_)
local macro_rules | `(tactic| walk_at "p0") => `(tactic| refine Pv.fz_sorted ?_)
local macro_rules | `(tactic| walk_at "p0") => `(tactic| refine Pv.fz_sum ?_)
local macro_rules | `(tactic| walk_at "p0") => `(tactic| refine Pv.fz_listT ?_)
local macro_rules | `(tactic| walk_at "p0") => `(tactic| refine Pv.fz_list ?_)
local macro_rules | `(tactic| walk_at "p0") => `(tactic| refine Pv.fz_ixT rfl ?_)
local macro_rules | `(tactic| walk_at "p0") => `(tactic| refine Pv.fz_ix rfl ?_)
local macro_rules | `(tactic| walk_at "p0") => `(tactic| refine Pv.fz_lenT ?_)
local macro_rules | `(tactic| walk_at "p0") => `(tactic| refine Pv.fz_len ?_)
local macro_rules | `(tactic| walk_at "p0") => `(tactic| refine Pv.fz_lenX ?_)
local macro_rules | `(tactic| walk_at "p0") => `(tactic| refine Pv.fz_intB ?_)
local macro_rules | `(tactic| walk_at "p0") => `(tactic| refine Pv.fz_int ?_)
local macro_rules | `(tactic| walk_at "p0") => `(tactic| refine Pv.fz_min ?_)
local macro_rules | `(tactic| walk_at "p0") => `(tactic| refine Pv.fz_max ?_)
local macro_rules | `(tactic| walk_at "p0") => `(tactic| refine Pv.fz_abs ?_)
local macro_rules | `(tactic| walk_at "p0") => `(tactic| refine Pv.fz_neg ?_)
local macro_rules | `(tactic| walk_at "p0") => `(tactic| refine Pv.fz_ge ?_)
local macro_rules | `(tactic| walk_at "p0") => `(tactic| refine Pv.fz_gt ?_)
local macro_rules | `(tactic| walk_at "p0") => `(tactic| refine Pv.fz_le ?_)
local macro_rules | `(tactic| walk_at "p0") => `(tactic| refine Pv.fz_lt ?_)
local macro_rules | `(tactic| walk_at "p0") => `(tactic| refine Pv.fz_sub ?_)
local macro_rules | `(tactic| walk_at "p0") => `(tactic| refine Pv.fz_add ?_)
local macro_rules | `(tactic| walk_at "p0") => `(tactic| refine Pv.d1_brw rfl ?_)
local macro_rules | `(tactic| walk_at "p0") => `(tactic| refine Pv.d1_own ?_)
local macro_rules | `(tactic| walk_at "p0") => `(tactic| refine Pv.d1_list ?_)
local macro_rules | `(tactic| walk_at "p0") => `(tactic| refine Pv.d1_bool ?_)
local macro_rules | `(tactic| walk_at "p0") => `(tactic| refine Pv.d1_int ?_)
local macro_rules | `(tactic| walk_at "p0") => `(tactic| refine Pv.dl_brw rfl ?_)
local macro_rules | `(tactic| walk_at "p0") => `(tactic| refine Pv.dl_own ?_)
local macro_rules | `(tactic| walk_at "p0") => `(tactic| refine Pv.dl_sh ?_)
local macro_rules | `(tactic| walk_at "p0") => `(tactic| refine Pv.dl_nil ?_)
local macro_rules | `(tactic| walk_at "p0") => `(tactic| refine Pv.tl_brw rfl ?_)
local macro_rules | `(tactic| walk_at "p0") => `(tactic| refine Pv.tl_own ?_)
local macro_rules | `(tactic| walk_at "p0") => `(tactic| refine Pv.tlt_sh ?_)
local macro_rules | `(tactic| walk_at "p0") => `(tactic| refine Pv.tl_sh ?_)
local macro_rules | `(tactic| walk_at "p0") => `(tactic| refine Pv.t1_brw rfl ?_)
local macro_rules | `(tactic| walk_at "p0") => `(tactic| refine Pv.t1_own ?_)
local macro_rules | `(tactic| walk_at "p0") => `(tactic| refine Pv.t1_sh ?_)
local macro_rules | `(tactic| walk_at "p0") => `(tactic| refine Pv.tk_brw rfl ?_)
local macro_rules | `(tactic| walk_at "p0") => `(tactic| refine Pv.tk_own ?_)
local macro_rules | `(tactic| walk_at "p0") => `(tactic| refine Pv.tk_sh ?_)
local macro_rules | `(tactic| walk_at "p0") => `(tactic| refine Pv.tk_nil ?_)
local macro_rules | `(tactic| walk_at "p0") => `(tactic| refine Pv.ziq ?_)
local macro_rules | `(tactic| walk_at "p0") => `(tactic| refine Pv.enq ?_)
local macro_rules | `(tactic| walk_at "p0") => `(tactic| refine Pv.w_zip ?_)
local macro_rules | `(tactic| walk_at "p0") => `(tactic| refine Pv.w_enum ?_)
local macro_rules | `(tactic| walk_at "p0") => `(tactic| refine Pv.w_rng3 ?_)
local macro_rules | `(tactic| walk_at "p0") => `(tactic| refine Pv.w_rng2 ?_)
local macro_rules | `(tactic| walk_at "p0") => `(tactic| refine Pv.w_rng1 ?_)
local macro_rules | `(tactic| walk_at "p0") => `(tactic| refine Pv.w_tup ?_)
local macro_rules | `(tactic| walk_at "p0") => `(tactic| refine Pv.w_list ?_)
local macro_rules | `(tactic| walk_at "p0") => `(tactic| refine Pv.t_or ?_)
local macro_rules | `(tactic| walk_at "p0") => `(tactic| refine Pv.t_and ?_)
local macro_rules | `(tactic| walk_at "p0") => `(tactic| refine Pv.t_yes ?_)
local macro_rules | `(tactic| walk_at "p0") => `(tactic| refine Pv.t_not ?_)
local macro_rules | `(tactic| walk_at "p0") => `(tactic| refine Pv.t_of ?_)
local macro_rules | `(tactic| walk_at "p0") => `(tactic| refine Pv.i_of ?_)
local macro_rules | `(tactic| walk_at "p0") => `(tactic| refine Pv.o_part ?_)
local macro_rules | `(tactic| walk_at "p0") => `(tactic| refine Pv.o_no ?_)
local macro_rules | `(tactic| walk_at "p0") => `(tactic| refine Pv.e_comp ?_)
local macro_rules | `(tactic| walk_at "p0") => `(tactic| refine Pv.e_thaw ?_)
local macro_rules | `(tactic| walk_at "p0") => `(tactic| refine Pv.e_compO rfl ?_)
local macro_rules | `(tactic| walk_at "p0") => `(tactic| refine Pv.e_lrg3 ?_)
local macro_rules | `(tactic| walk_at "p0") => `(tactic| refine Pv.e_lrg2 ?_)
local macro_rules | `(tactic| walk_at "p0") => `(tactic| refine Pv.e_lrg1 ?_)
local macro_rules | `(tactic| walk_at "p0") => `(tactic| refine Pv.e_app rfl ?_)
local macro_rules | `(tactic| walk_at "p0") => `(tactic| refine Pv.e_rev ?_)
local macro_rules | `(tactic| walk_at "p0") => `(tactic| refine Pv.e_step ?_)
local macro_rules | `(tactic| walk_at "p0") => `(tactic| refine Pv.e_step0 ?_)
local macro_rules | `(tactic| walk_at "p0") => `(tactic| refine Pv.st0I (by omega) ?_)
local macro_rules | `(tactic| walk_at "p0") => `(tactic| refine Pv.e_ch3 ?_)
local macro_rules | `(tactic| walk_at "p0") => `(tactic| refine Pv.e_sl ?_)
local macro_rules | `(tactic| walk_at "p0") => `(tactic| refine Pv.e_ch ?_)
local macro_rules | `(tactic| walk_at "p0") => `(tactic| refine Pv.e_not ?_)
local macro_rules | `(tactic| walk_at "p0") => `(tactic| refine Pv.e_or ?_)
local macro_rules | `(tactic| walk_at "p0") => `(tactic| refine Pv.e_and ?_)
local macro_rules | `(tactic| walk_at "p0") => `(tactic| refine Pv.e_if ?_)
local macro_rules | `(tactic| walk_at "p0") => `(tactic| refine Pv.e_tup ?_)
local macro_rules | `(tactic| walk_at "p0") => `(tactic| refine Pv.e_lst ?_)
local macro_rules | `(tactic| walk_at "p0") => `(tactic| refine Pv.e_callK ?_)
local macro_rules | `(tactic| walk_at "p0") => `(tactic| refine Pv.e_call ?_)
local macro_rules | `(tactic| walk_at "p0") => `(tactic| refine Pv.e_callJ ?_)
local macro_rules | `(tactic| walk_at "p0") => `(tactic| refine Pv.a_2 ?_)
local macro_rules | `(tactic| walk_at "p0") => `(tactic| refine Pv.a_1 ?_)
local macro_rules | `(tactic| walk_at "p0") => `(tactic| refine Pv.a_cons ?_)
local macro_rules | `(tactic| walk_at "p0") => `(tactic| refine Pv.a_nil ?_)
local macro_rules | `(tactic| walk_at "p0") => `(tactic| refine Pv.e_c ?_)
local macro_rules | `(tactic| walk_at "p0") => `(tactic| refine Pv.e_varO rfl ?_)
local macro_rules | `(tactic| walk_at "p0") => `(tactic| refine Pv.e_var rfl ?_)
local macro_rules | `(tactic| walk_at "p0") => `(tactic| refine Pv.e_op ?_)
local macro_rules | `(tactic| walk_at "p0") => `(tactic| refine Pv.turn_bk ?_)
local macro_rules | `(tactic| walk_at "p0") => `(tactic| refine Pv.turn_ct ?_)
local macro_rules | `(tactic| walk_at "p0") => `(tactic| refine Pv.nxt_bk ?_)
local macro_rules | `(tactic| walk_at "p0") => `(tactic| refine Pv.nxt_ct ?_)
local macro_rules | `(tactic| walk_at "p0") => `(tactic| refine Pv.g_brk ?_)
local macro_rules | `(tactic| walk_at "p0") => `(tactic| refine Pv.g_cnt ?_)
local macro_rules | `(tactic| walk_at "p0") => `(tactic| refine Pv.turn_rt ?_)
local macro_rules | `(tactic| walk_at "p0") => `(tactic| refine Pv.turn ?_)
local macro_rules | `(tactic| walk_at "p0") => `(tactic| refine Pv.nxt_rt ?_)
local macro_rules | `(tactic| walk_at "p0") => `(tactic| refine Pv.finj_nx rfl ?_)
local macro_rules | `(tactic| walk_at "p0") => `(tactic| refine Pv.finq_nx ?_)
local macro_rules | `(tactic| walk_at "p0") => `(tactic| refine Pv.finj_rt rfl ?_)
local macro_rules | `(tactic| walk_at "p0") => `(tactic| refine ⟨Pv.szB rfl, ?_⟩)
local macro_rules | `(tactic| walk_at "p0") => `(tactic| refine ⟨Pv.sz rfl, ?_⟩)
local macro_rules | `(tactic| walk_at "p0") => `(tactic| refine Pv.finq_rt ?_)
local macro_rules | `(tactic| walk_at "p0") => `(tactic| refine Pv.retq_brw (by decide) rfl ?_)
local macro_rules | `(tactic| walk_at "p0") => `(tactic| refine Pv.retq_own ?_)
local macro_rules | `(tactic| walk_at "p0") => `(tactic| refine Pv.retq_sh ?_)
local macro_rules | `(tactic| walk_at "p0") => `(tactic| refine Pv.g_retN ?_)
local macro_rules | `(tactic| walk_at "p0") => `(tactic| refine Pv.g_skip ?_)
local macro_rules | `(tactic| walk_at "p0") => `(tactic| refine Pv.g_augSub rfl ?_)
local macro_rules | `(tactic| walk_at "p0") => `(tactic| refine Pv.g_sub rfl ?_)
local macro_rules | `(tactic| walk_at "p0") => `(tactic| refine Pv.g_aug rfl ?_)
local macro_rules | `(tactic| walk_at "p0") => `(tactic| refine Pv.g_par ?_)
local macro_rules | `(tactic| walk_at "p0") => `(tactic| refine Pv.g_asg ?_)
local macro_rules | `(tactic| walk_at "p0") => `(tactic| refine Pv.g_for ?_)
local macro_rules | `(tactic| walk_at "p0") => `(tactic| refine Pv.g_expr ?_)
local macro_rules | `(tactic| walk_at "p0") => `(tactic| refine Pv.g_ret ?_)
local macro_rules | `(tactic| walk_at "p0") => `(tactic| refine Pv.g_if ?_)
local macro_rules | `(tactic| walk_at "p0") => `(tactic| refine Pv.g_set ?_)
local macro_rules | `(tactic| walk_at "p0") => `(tactic| refine Pv.g_seq ?_)
local macro_rules | `(tactic| walk_at "p0") => `(tactic| (refine Pv.setq_brw rfl ?_; try walk_at "pn"))
local macro_rules | `(tactic| walk_at "p0") => `(tactic| (refine Pv.setq_own ?_; try walk_at "pn"))
local macro_rules | `(tactic| walk_at "p0") => `(tactic| (refine Pv.setq_sh ?_; try walk_at "pn"))
local macro_rules | `(tactic| walk_at "p0") => `(tactic| refine Pv.nxt ?_)
local macro_rules | `(tactic| walk_at "p1") => `(tactic| walk_at "p0")
local macro_rules | `(tactic| walk_at "p1") => `(tactic| with_reducible walk_at "p0")
local macro_rules | `(tactic| walk_at "pn") => `(tactic| simp only [List.set_cons_zero, List.set_cons_succ, List.map_cons, List.map_nil, List.replicate_succ, List.replicate_zero, List.cons_append, List.nil_append, Nat.reduceSub, Pv.wipeE, Pv.unwipe, List.getElem?_cons_zero, List.getElem?_cons_succ, Option.getD_some, Option.getD_none])
local macro_rules | `(tactic| walk_at "pv") => `(tactic| ((try walk_at "pn"); repeat' (first | walk_at "p1" | fail)))
local macro_rules | `(tactic| walk_at "thawed") => `(tactic| repeat (first | exact Pv.thaw_nil | refine Pv.thaw_sh ?_ | refine Pv.thaw_non ?_ | refine Pv.thaw_own (Pv.flat_ints _) ?_ | refine Pv.thaw_frz (Pv.flat_ints _) ?_))
-- end of the steps

set_option Elab.async false
set_option linter.all false
set_option maxRecDepth 100000
set_option maxHeartbeats 4000000
namespace Lib
open PySem PySem.Spec PyProof.Rows L2 Ws Pv

abbrev dIs (ns : List Int) : D := .list (ns.map PyData.int)
/-- the jar: three numbers -/
def JarD (n : Int) (js : List D) : Prop := ∃ a b c : Int, js = [.int a, .int b, .int c] ∧ 0 ≤ a ∧ 0 ≤ b ∧ b < 2 ^ 300 ∧ 0 ≤ c ∧ c ≤ n
theorem JarD.mono {n m : Int} {js : List D} (h : JarD n js) (l : n ≤ m) : JarD m js := by
  obtain ⟨a, b, c, e, h1, h2, h3, h4, h5⟩ := h
  exact ⟨a, b, c, e, h1, h2, h3, h4, by omega⟩
theorem jar_ok {ns : List Int} {k : Int} (h0 : 0 ≤ k) (h1 : k ≤ 1000) : GoP p__law_jar [scrD ns, .int k] fun z => ∃ js, z = .own js ∧ JarD 0 js := by
  have cell : ∃ x : Int, 0 ≤ x ∧ GoE (ifE (tstM (opM fLt (arg2 (varM 1) (opM fLen (consM (varM 0) nilM))))) (opM fAbs (consM (opM fIx (arg2 (varM 0) (varM 1))) nilM)) (cM (.int 0)))
      [some (.sh (scrD ns)), some (.sh (.int k)), none] fun r ρ => r = .sh (.int x) ∧ ρ = [some (.sh (scrD ns)), some (.sh (.int k)), none] := by
    by_cases hk : k < ns.length
    · have hi : k.toNat < ns.length := by omega
      refine ⟨if ns[k.toNat] < 0 then -ns[k.toNat] else ns[k.toNat], by split <;> omega, ?_⟩
      walk_at "pv"
      rw [if_pos (decide_eq_true (by simpa using hk))]
      walk_at "pv"
      refine fz_ixX h0 (List.getElem?_eq_getElem hi) ?_
      walk_at "pv"
      exact ⟨rfl, rfl⟩
    · refine ⟨0, by decide, ?_⟩
      walk_at "pv"
      rw [if_neg (by rw [decide_eq_true_iff]; simpa using hk)]
      walk_at "pv"
      exact ⟨rfl, rfl⟩
  obtain ⟨x, x0, r, ρ, e1, rfl, rfl⟩ := cell
  refine goP rfl ?_
  unfold m__law_jar
  refine g_seq (g_set ⟨_, _, e1, setq_sh (nxt ?_)⟩)
  have hb := Int.emod_lt_of_pos x (show (0 : Int) < 10 ^ (43 : Int).toNat + 57 by decide +kernel)
  have hb0 := Int.emod_nonneg x (show (10 ^ (43 : Int).toNat + 57 : Int) ≠ 0 by decide +kernel)
  have hb2 : (10 ^ (43 : Int).toNat + 57 : Int) < 2 ^ 160 := by decide +kernel
  walk_at "pv"
  refine fz_mul (mulOk (n := 200) (m := 8) hb0 (Int.lt_trans hb (by decide +kernel)) (by decide) (by decide) (by decide) (by decide) (by decide)) ?_
  walk_at "pv"
  refine fz_mul (mulOk (n := 20) (m := 11) (by decide) (by decide) (by decide) h0 (by omega) (by decide) (by decide)) ?_
  walk_at "pv"
  refine ⟨_, rfl, _, _, _, rfl, ?_, ?_, ?_, by decide, by decide⟩
  · omega
  · omega
  · have : (2 : Int) ^ 160 * 101 + 70001 * 1000 < 2 ^ 300 := by decide +kernel
    omega
theorem dip_ok {js : List D} {m n : Int} (h : JarD n js) (hn : n ≤ 1000000000) (hm : 0 < m) (hm2 : m < 2 ^ 8000) : GoJ p__law_dip js [.int m] fun z js' => ∃ d, z = .sh (.int d) ∧ 0 ≤ d ∧ d < m ∧ JarD (n + 1) js' := by
  obtain ⟨a, b, c, rfl, ha, hb, hb2, hc, hcn⟩ := h
  refine goJ rfl ?_
  unfold m__law_dip
  walk_at "pv"
  refine ite2 (fun z => ?_) (fun z => ?_)
  · have a0 : 0 < a := of_decide_eq_true z
    walk_at "pv"
    refine fz_mod hm ?_
    walk_at "pv"
    refine fz_div (divOk hm hm2 (by decide) (by decide)) ?_
    walk_at "pv"
    exact ⟨_, rfl, Int.emod_nonneg _ (by omega), Int.emod_lt_of_pos _ hm, _, _, _, rfl, Int.ediv_nonneg ha (by omega), hb, hb2, hc, by omega⟩
  · walk_at "pv"
    refine fz_mul (mulOk (n := 26) (m := 31) (by decide) (by decide) (by decide) (by omega) (by omega) (by decide) (by decide)) ?_
    walk_at "pv"
    refine fz_pow (powOk (n := 400) (by omega) (by omega) (by decide) (by decide) (by decide) (by decide)) ?_
    walk_at "pv"
    generalize hx : ((b + 60000049 * (c + 1)) ^ (3 : Int).toNat % (10 ^ (47 : Int).toNat + 91)) = x
    have x0 : 0 ≤ x := hx ▸ Int.emod_nonneg _ (by decide +kernel)
    have x1 : x < 2 ^ 300 := hx ▸ Int.lt_trans (Int.emod_lt_of_pos _ (by decide +kernel)) (by decide +kernel)
    walk_at "pv"
    refine fz_mul (mulOk (n := 26) (m := 31) (by decide) (by decide) (by decide) (by omega) (by omega) (by decide) (by decide)) ?_
    walk_at "pv"
    refine fz_pow (powOk (n := 400) (by omega) (by omega) (by decide) (by decide) (by decide) (by decide)) ?_
    walk_at "pv"
    generalize ((x + 35000021 * (c + 1)) ^ (3 : Int).toNat % (10 ^ (46 : Int).toNat + 79)) = y
    walk_at "pv"
    refine fz_div (divOk (n := 31) (by decide) (by decide) (by decide) (by decide)) ?_
    walk_at "pv"
    refine fz_mod hm ?_
    walk_at "pv"
    exact ⟨_, rfl, Int.emod_nonneg _ (by omega), Int.emod_lt_of_pos _ hm, _, _, _, rfl, ha, hb, hb2, by omega, by omega⟩
end Lib

set_option Elab.async false
set_option linter.all false
set_option maxRecDepth 100000
set_option maxHeartbeats 4000000
namespace Lib
open PySem PySem.Spec PyProof.Rows L2 Ws Pv

theorem is_integer_ok {i : Int} : GoP p_is_integer [.int i] fun z => z = .sh (.bool true) := by
  refine goP rfl ?_
  unfold m_is_integer
  walk_at "pv"
  rfl
theorem is_within_ok {i lo hi : Int} : GoP p_is_within [.int i, .int lo, .int hi] fun z => z = .sh (.bool (decide (lo ≤ i) && decide (i ≤ hi))) := by
  refine goP rfl ?_
  unfold m_is_within
  walk_at "pv"
  refine is_integer_ok.mono fun z hz => ?_
  subst hz
  walk_at "pv"
  refine iteD (fun h => ?_) (fun h => ?_)
  · walk_at "pv"
    rw [decide_eq_true h, Bool.true_and]
  · walk_at "pv"
    rw [decide_eq_false h, Bool.false_and]
theorem map_rep {ns : List Int} (b : Bool) : (ns.map PyData.int).map (fun _ => PyData.bool b) = (List.replicate ns.length b).map PyData.bool := by
  induction ns with
  | nil => rfl
  | cons n r ih =>
    rw [List.map_cons, List.map_cons, ih, List.length_cons, List.replicate_succ, List.map_cons]
theorem all_rep (n : Nat) : (List.replicate n true).all id = true := by
  induction n with
  | zero => rfl
  | succ n ih => rw [List.replicate_succ, List.all_cons, ih]; rfl
theorem is_row_ok {ns : List Int} {m : Int} (h1 : 1 ≤ ns.length) (h2 : ns.length ≤ m) (hm : m ≤ 1000) : GoP p_is_row [dIs ns, .int m] fun z => z = .sh (.bool true) := by
  refine goP rfl ?_
  unfold m_is_row
  walk_at "pv"
  refine iteDP (by rw [List.length_map]; omega) ?_
  walk_at "pv"
  refine iteN (by rw [decide_eq_true (by rw [List.length_map]; omega)]; exact Bool.false_ne_true) ?_
  walk_at "pv"
  refine ⟨_, _, comp_map (fun _ => .bool true) (by rw [List.length_map]; omega) fun d hd => ?_, ?_⟩
  · obtain ⟨n, _, rfl⟩ := List.mem_map.mp hd
    refine gn ?_
    walk_at "pv"
    refine is_integer_ok.mono fun z hz => ?_
    subst hz
    exact ⟨_, rfl, rfl⟩
  · rw [map_rep]
    walk_at "pv"
    rw [all_rep]
theorem check_row_of_sums_ok {ss : List Int} (s1 : 1 ≤ ss.length) (s2 : ss.length ≤ 67) : GoP p_check_row_of_sums [dIs ss] fun z => z = .sh .none := by
  refine goP rfl ?_
  unfold m_check_row_of_sums
  walk_at "pv"
  refine (is_row_ok s1 (by omega) (by omega)).mono fun z hz => ?_
  subst hz
  walk_at "pv"
  rfl
theorem check_sums_ok {ss : List Int} {k : Int} (s1 : 1 ≤ ss.length) (k1 : 1 ≤ k) (k8 : k ≤ 8) (n : k + ss.length ≤ 68) : GoP p_check_sums [dIs ss, .int k] fun z => z = .sh .none := by
  refine goP rfl ?_
  unfold m_check_sums
  walk_at "pv"
  refine (check_row_of_sums_ok s1 (by omega)).mono fun z hz => ?_
  walk_at "pv"
  refine is_within_ok.mono fun z hz => ?_
  subst hz
  walk_at "pv"
  refine iteN (by rw [decide_eq_true k1, decide_eq_true (by rw [List.length_map]; omega)]; exact Bool.false_ne_true) ?_
  walk_at "pv"
  rfl
theorem check_most_ok {t : Int} (t0 : 0 ≤ t) (t1 : t ≤ 999999999999999999999999999999) : GoP p_check_most [.int t] fun z => z = .sh .none := by
  refine goP rfl ?_
  unfold m_check_most
  walk_at "pv"
  refine is_within_ok.mono fun z hz => ?_
  subst hz
  walk_at "pv"
  refine iteN (by rw [decide_eq_true t0, decide_eq_true t1]; exact Bool.false_ne_true) ?_
  walk_at "pv"
  rfl
theorem check_told_ok {ss : List Int} {k t : Int} (s1 : 1 ≤ ss.length) (k1 : 1 ≤ k) (k8 : k ≤ 8) (n : k + ss.length ≤ 68) (t0 : 0 ≤ t) (t1 : t ≤ 999999999999999999999999999999) : GoP p_check_told [dIs ss, .int k, .int t] fun z => z = .sh .none := by
  refine goP rfl ?_
  unfold m_check_told
  walk_at "pv"
  refine (check_sums_ok s1 k1 k8 n).mono fun z hz => ?_
  walk_at "pv"
  refine (check_most_ok t0 t1).mono fun z hz => ?_
  walk_at "pv"
  rfl
theorem offs_get {ss : List Int} {k n i : Nat} (h : i < n) : (offL ss k n)[i]? = some (off ss k i) := offL_get h
theorem getD_some {l : List Int} {i : Nat} (h : i < l.length) : l[i]? = some (l.getD i 0) := by
  rw [List.getD_eq_getElem?_getD, List.getElem?_eq_getElem h]
  rfl
theorem rep_ints (n : Nat) (x : Int) : List.replicate n (PyData.int x) = (List.replicate n x).map PyData.int := by
  rw [List.map_replicate]
theorem rgD_get {a b : Int} {i : Nat} {d : D} (h : (rgD a b)[i]? = some d) : d = .int (a + (i : Nat)) ∧ i < (b - a).toNat := by
  have hi : i < (b - a).toNat := by
    have := (List.getElem?_eq_some_iff.mp h).1
    unfold rgD at this
    rw [List.length_map, List.length_range] at this
    exact this
  unfold rgD at h
  rw [List.getElem?_map, List.getElem?_range hi] at h
  cases h
  exact ⟨rfl, hi⟩
theorem rgD_len (a b : Int) : (rgD a b).length = (b - a).toNat := by
  unfold rgD
  rw [List.length_map, List.length_range]
theorem rgD0 (b : Int) : rgD 0 b = (List.range b.toNat).map fun i => PyData.int ((i : Nat) : Int) := by
  unfold rgD
  rw [Int.sub_zero]
  refine List.map_congr_left fun i _ => ?_
  rw [Int.zero_add]
theorem rg0_get {b : Int} {i : Nat} {d : D} (h : (rgD 0 b)[i]? = some d) : d = .int ((i : Nat) : Int) ∧ i < b.toNat := by
  obtain ⟨e, h1⟩ := rgD_get h
  rw [Int.zero_add] at e
  rw [Int.sub_zero] at h1
  exact ⟨e, h1⟩
theorem rg0_len (b : Int) : (rgD 0 b).length = b.toNat := by
  rw [rgD_len, Int.sub_zero]
theorem rgDC_get {a c : Int} {n i : Nat} {d : D} (h : (rgDC a c n)[i]? = some d) : d = .int (a + (i : Nat) * c) ∧ i < n := by
  have hi : i < n := by
    have := (List.getElem?_eq_some_iff.mp h).1
    unfold rgDC at this
    rw [List.length_map, List.length_range] at this
    exact this
  unfold rgDC at h
  rw [List.getElem?_map, List.getElem?_range hi] at h
  cases h
  exact ⟨rfl, hi⟩
theorem rgDC_len (a c : Int) (n : Nat) : (rgDC a c n).length = n := by
  unfold rgDC
  rw [List.length_map, List.length_range]
theorem snocD (ns : List Int) (x : Int) : ns.map PyData.int ++ [PyData.int x] = (ns ++ [x]).map PyData.int := by
  rw [List.map_append]
  rfl
theorem offsets_of_ok {ss : List Int} {k : Int} (s1 : 1 ≤ ss.length) (s2 : ss.length ≤ 1000) (k1 : 1 ≤ k) (k8 : k ≤ 8) : GoP p_offsets_of [dIs ss, .int k] fun z => z = .own ((offL ss k.toNat (ss.length + k.toNat - 1)).map PyData.int) := by
  refine goP rfl ?_
  unfold m_offsets_of
  walk_at "pv"
  refine fz_rep ⟨by omega, by omega, Nat.le_trans (by show 1 * k.toNat ≤ 8; omega) (by decide)⟩ ?_
  rw [flat_rep, rep_ints, ← offL_zero ss]
  walk_at "pv"
  refine ⟨by rw [List.length_map]; omega, ?_⟩
  refine for_inv (fun i ρ => ∃ x, ρ = [some (.sh (dIs ss)), some (.sh (.int k)), some (.own ((offL ss k.toNat (k.toNat + i)).map PyData.int)), x]) ⟨none, rfl⟩ ?_ ?_
  · rintro i d ρ hd ⟨x, rfl⟩
    obtain ⟨rfl, hi⟩ := rgD_get hd
    rw [List.length_map] at hi
    refine gn ?_
    walk_at "pv"
    refine fz_ixI (by omega) (show (offL ss k.toNat (k.toNat + i))[(0 + (i : Int)).toNat]? = some (off ss k.toNat i) by rw [show (0 + (i : Int)).toNat = i by omega]; exact offL_get (by omega)) ?_
    walk_at "pv"
    refine fz_ixI (by omega) (show ss[(0 + (i : Int) + 1).toNat]? = some (ss.getD (i + 1) 0) by rw [show (0 + (i : Int) + 1).toNat = i + 1 by omega]; exact getD_some (by omega)) ?_
    walk_at "pv"
    refine fz_ixI (by omega) (show ss[(0 + (i : Int)).toNat]? = some (ss.getD i 0) by rw [show (0 + (i : Int)).toNat = i by omega]; exact getD_some (by omega)) ?_
    walk_at "pv"
    refine ⟨Nat.lt_of_lt_of_le (by rw [List.length_map, offL_len]; omega) (show 2000 ≤ sizeLine by decide), ?_⟩
    walk_at "pv"
    rw [snocD, ← off_hi (by omega), ← offL_succ, Nat.add_assoc]
    exact ⟨_, rfl⟩
  · rintro ρ ⟨x, rfl⟩
    walk_at "pv"
    rw [rgD_len, List.length_map, show k.toNat + ((ss.length : Int) - 1 - 0).toNat = ss.length + k.toNat - 1 by omega]
theorem total_at_ok {ss os ds : List Int} (s1 : 1 ≤ ss.length) (hd : ∀ d ∈ ds, 0 ≤ d ∧ d < os.length) (hl : ds.length ≤ 1000) : GoP p_total_at [dIs ss, dIs os, dIs ds] fun z => z = .sh (.int (ss.getD 0 0 + (ds.map fun d => os.getD d.toNat 0).sum)) := by
  refine goP rfl ?_
  unfold m_total_at
  walk_at "pv"
  refine fz_ixI (by omega) (show ss[(0 : Int).toNat]? = some (ss.getD 0 0) from getD_some (by show 0 < _; omega)) ?_
  walk_at "pv"
  refine ⟨_, _, comp_ints PyData.int (fun d => os.getD d.toNat 0) (by omega) fun n hn => ?_, ?_⟩
  · obtain ⟨n0, n1⟩ := hd n hn
    refine gn ?_
    walk_at "pv"
    refine fz_ixI n0 (getD_some (by omega)) ?_
    exact ⟨_, rfl, rfl⟩
  · walk_at "pv"
    rfl
theorem step_pos {os : List Int} {i k : Nat} (hk : 1 ≤ k) (h : i < os.length) : 0 < (stepL os i k).length := by
  refine List.length_pos_of_mem ((step_mem hk).mpr ⟨0, ?_⟩ : os[i] ∈ stepL os i k)
  rw [Nat.mul_zero, Nat.add_zero]
  exact List.getElem?_eq_getElem h
theorem start_ranges_ok {os : List Int} {k t : Int} (o1 : os.length ≤ 1000) (k1 : 1 ≤ k) (k8 : k ≤ 8) (ko : k ≤ os.length) : GoP p_start_ranges [dIs os, .int k, .int t] fun z => z = .own ((rngs os k.toNat t).map Pv.prD) := by
  refine goP rfl ?_
  unfold m_start_ranges
  walk_at "pv"
  refine ⟨by omega, ?_⟩
  walk_at "pv"
  refine for_inv (fun i ρ => ∃ x y, ρ = [some (.sh (dIs os)), some (.sh (.int k)), some (.sh (.int t)), some (.own (((rngs os k.toNat t).take i).map Pv.prD)), x, y]) ⟨none, none, rfl⟩ ?_ ?_
  · rintro i d ρ hd ⟨x, y, rfl⟩
    obtain ⟨rfl, hi⟩ := rg0_get hd
    have sp : 0 < (stepL os i k.toNat).length := step_pos (by omega) (by omega)
    refine gn ?_
    walk_at "pv"
    refine stp (ns := os) (i := (i : Int)) (j := k) ⟨by omega, by omega, k1⟩ ?_
    walk_at "pv"
    rw [show ((i : Nat) : Int).toNat = i by omega]
    refine fz_minL sp ?_
    walk_at "pv"
    refine fz_maxL sp ?_
    walk_at "pv"
    refine ⟨Nat.lt_of_le_of_lt (by rw [List.length_map, List.length_take, rngs_len]; omega) (show 8 < sizeLine by decide), ?_⟩
    walk_at "pv"
    rw [take_next (rngs_at (os := os) (t := t) (show i < k.toNat by omega)), List.map_append]
    exact ⟨_, _, rfl⟩
  · rintro ρ ⟨x, y, rfl⟩
    walk_at "pv"
    rw [rg0_len, List.take_of_length_le (by rw [rngs_len]; omega)]
theorem way_from_ok {st os : List Int} (l : 1 ≤ st.length) (o1 : os.length ≤ 1000) : GoP p_way_from [dIs st, dIs os] fun z => z = .own ((wf st os).map PyData.int) := by
  refine goP rfl ?_
  unfold m_way_from
  walk_at "pv"
  refine ⟨by rw [List.length_map]; omega, ?_⟩
  walk_at "pv"
  rw [List.length_map, rgD0]
  refine ⟨_, _, comp_ints (bs := List.range ((os.length : Nat) : Int).toNat) (fun i => .int ((i : Nat) : Int)) (fun d => st.getD (d % st.length) 0 + os.getD d 0) (by rw [List.length_range]; omega) fun n hn => ?_, ?_⟩
  · have hn := List.mem_range.mp hn
    have hm : n % st.length < st.length := Nat.mod_lt _ (by omega)
    refine gn ?_
    walk_at "pv"
    refine fz_mod (by rw [List.length_map]; omega) ?_
    walk_at "pv"
    rw [List.length_map]
    refine fz_ixI (Int.emod_nonneg _ (by omega)) (show st[((n : Int) % (st.length : Int)).toNat]? = some (st.getD (n % st.length) 0) by rw [← Int.natCast_emod, Int.toNat_natCast]; exact getD_some hm) ?_
    walk_at "pv"
    refine fz_ixI (by omega) (show os[((n : Nat) : Int).toNat]? = some (os.getD n 0) from getD_some (by omega)) ?_
    walk_at "pv"
    exact ⟨_, rfl, rfl⟩
  · walk_at "pv"
    rw [Int.toNat_natCast]
    rfl
theorem tak_step : ∀ (ps : List (Int × Int)) (b : Int) (i : Nat) (q : Int × Int), ps[i]? = some q → (tak ps b)[i]? = some (q.2 - min (b - (((ps.take i).map (·.2)).sum - ((tak ps b).take i).sum)) (q.2 - q.1))
  | [], _, _, _, h => by simp at h
  | p :: r, b, 0, q, h => by
    cases h
    rw [tak]
    simp
  | p :: r, b, i + 1, q, h => by
    have ih := tak_step r (b - min b (p.2 - p.1)) i q (by simpa using h)
    rw [tak, List.getElem?_cons_succ, ih, List.take_succ_cons, List.take_succ_cons, List.map_cons, List.sum_cons, List.sum_cons]
    congr 2
    congr 1
    omega
theorem least_starts_ok {ps : List (Int × Int)} {tot : Int} (l : ps.length ≤ 1000) : GoP p_least_starts [.list (ps.map Pv.prD), .int tot] fun z => z = .own ((tak ps ((ps.map (·.2)).sum - tot)).map PyData.int) := by
  refine goP rfl ?_
  unfold m_least_starts
  walk_at "pv"
  refine ⟨_, _, comp_ints Pv.prD (fun q => q.2) (by omega) fun n hn => ?_, ?_⟩
  · refine gt3 (by rfl) ?_
    walk_at "pv"
    exact ⟨_, rfl, rfl⟩
  walk_at "pv"
  refine for_inv (fun i ρ => ∃ x y z A L, ρ = [some (.sh (.list (ps.map Pv.prD))), some (.sh (.int tot)), x, some (.sh (.int A)), some (.own (L.map PyData.int)), y, z, none] ∧ A = (ps.map (·.2)).sum - tot - (((ps.take i).map (·.2)).sum - ((tak ps ((ps.map (·.2)).sum - tot)).take i).sum) ∧ L = (tak ps ((ps.map (·.2)).sum - tot)).take i) ?_ ?_ ?_
  · exact ⟨none, none, none, _, [], rfl, by simp, by simp⟩
  · rintro i d ρ hd ⟨x, y, z, A, L, rfl, hA, hL⟩
    rw [List.getElem?_map] at hd
    obtain ⟨p, hp, rfl⟩ := map_some hd
    have hi := (List.getElem?_eq_some_iff.mp hp).1
    have ht := tak_step ps ((ps.map (·.2)).sum - tot) i p hp
    rw [← hA] at ht
    refine gt3 (by rfl) ?_
    walk_at "pv"
    refine ⟨Nat.lt_of_le_of_lt (by rw [List.length_map, hL, List.length_take, tak_len]; omega) (show 1000 < sizeLine by decide), ?_⟩
    walk_at "pv"
    rw [snocD]
    refine ⟨_, _, _, _, _, rfl, ?_, ?_⟩
    · rw [take_next hp, take_next ht, List.map_append, List.sum_append_int, List.sum_append_int]
      simp only [List.map_cons, List.map_nil, List.sum_cons, List.sum_nil]
      omega
    · rw [take_next ht, hL]
  · rintro ρ ⟨x, y, z, A, L, rfl, hA, hL⟩
    walk_at "pv"
    rw [hL, List.length_map, List.take_of_length_le (by rw [tak_len]; omega)]
theorem off_z {ss : List Int} {k : Nat} (k1 : 1 ≤ k) (s1 : 1 ≤ ss.length) : (offL ss k (ss.length + k - 1)).length = ss.length + k - 1 := offL_len _ _ _
theorem first_way_ok {ss : List Int} {k t : Int} (s1 : 1 ≤ ss.length) (k1 : 1 ≤ k) (k8 : k ≤ 8) (n : k + ss.length ≤ 68) : GoP p_first_way [dIs ss, .int k, .int t] fun z => z = .own ((lw ss k t).map PyData.int) := by
  refine goP rfl ?_
  unfold m_first_way
  walk_at "pv"
  refine (offsets_of_ok s1 (by omega) k1 k8).mono fun z hz => ?_
  subst hz
  walk_at "pv"
  refine (start_ranges_ok (by rw [offL_len]; omega) k1 k8 (by rw [offL_len]; omega)).mono fun z hz => ?_
  subst hz
  walk_at "pv"
  refine fz_ixI (by omega) (show ss[(0 : Int).toNat]? = some (ss.getD 0 0) from getD_some (by show 0 < _; omega)) ?_
  walk_at "pv"
  refine (least_starts_ok (by rw [rngs_len]; omega)).mono fun z hz => ?_
  subst hz
  walk_at "pv"
  refine (way_from_ok (by rw [tak_len, rngs_len]; omega) (by rw [offL_len]; omega)).mono fun z hz => ?_
  subst hz
  walk_at "pv"
  rfl
end Lib

set_option Elab.async false
set_option linter.all false
set_option maxRecDepth 100000
set_option maxHeartbeats 4000000
namespace Lib
open PySem PySem.Spec PyProof.Rows L2 Ws Pv

/-! ### two tied days too far apart -/
def ab (x : Int) : Int := if x < 0 then -x else x
def Apart (os : List Int) (k : Nat) (t : Int) (i j : Nat) : Prop := i < j ∧ j < os.length ∧ (j - i) % k = 0 ∧ t < ab (os.getD j 0 - os.getD i 0)
/-- the first such pair -/
structure FirstA (os : List Int) (k : Nat) (t : Int) (i j : Nat) : Prop where
  at' : Apart os k t i j
  least : ∀ i' j', Apart os k t i' j' → i < i' ∨ (i = i' ∧ j ≤ j')
theorem rgC_up {a n k : Int} (h0 : 0 ≤ a) (h1 : a ≤ 2000) (n0 : 0 ≤ n) (n1 : n ≤ 1000) (k1 : 1 ≤ k) (k8 : k ≤ 8) : RgC a n k (rgN a n k) ∧ rgN a n k = (n.toNat - a.toNat + k.toNat - 1) / k.toNat := by
  have r := rg_step h0 (by omega) n0 n1 k1 k8
  have e : rgN a n k = (n.toNat - a.toNat + k.toNat - 1) / k.toNat := by
    unfold rgN
    rw [r.2.2.2]
    rfl
  rw [e]
  exact ⟨r, rfl⟩
theorem cnt_ge {m k j : Nat} (hk : 1 ≤ k) (h : k * j < m) : j < (m + k - 1) / k := by
  rw [Nat.lt_div_iff_mul_lt (by omega)]
  have : j * k = k * j := Nat.mul_comm _ _
  omega
theorem first_apart_ok {os : List Int} {k t : Int} (o1 : os.length ≤ 1000) (k1 : 1 ≤ k) (k8 : k ≤ 8) : GoP p_first_apart [dIs os, .int k, .int t] fun z =>
    (z = .sh .none ∧ ∀ i j, ¬ Apart os k.toNat t i j) ∨ ∃ i j : Nat, z = .own [.int (i : Int), .int (j : Int)] ∧ FirstA os k.toNat t i j := by
  refine goP rfl ?_
  unfold m_first_apart
  walk_at "pv"
  refine ⟨by rw [List.length_map]; omega, ?_⟩
  refine for_inv (fun i ρ => (∃ x y, ρ = [some (.sh (dIs os)), some (.sh (.int k)), some (.sh (.int t)), x, y]) ∧ ∀ i' j', i' < i → ¬ Apart os k.toNat t i' j') ⟨⟨none, none, rfl⟩, fun _ _ h => absurd h (Nat.not_lt_zero _)⟩ ?_ ?_
  · rintro i d ρ hd ⟨⟨x, y, rfl⟩, hn⟩
    obtain ⟨rfl, hi⟩ := rg0_get hd
    rw [List.length_map] at hi
    refine gn ?_
    walk_at "pv"
    rw [List.length_map]
    obtain ⟨r1, r2⟩ := rgC_up (a := (i : Int) + k) (n := os.length) (k := k) (by omega) (by omega) (by omega) (by omega) k1 k8
    refine ⟨r1, ?_⟩
    refine for_inv (fun m ρ => (∃ y, ρ = [some (.sh (dIs os)), some (.sh (.int k)), some (.sh (.int t)), some (.sh (.int (i : Int))), y]) ∧ ∀ m', m' < m → ¬ Apart os k.toNat t i (i + k.toNat + m' * k.toNat)) ⟨⟨y, rfl⟩, fun _ h => absurd h (Nat.not_lt_zero _)⟩ ?_ ?_
    · rintro m d ρ hd ⟨⟨y, rfl⟩, hm⟩
      obtain ⟨rfl, hm1⟩ := rgDC_get hd
      rw [r2] at hm1
      have hm2 := cnt_lt (by omega) hm1
      have ek : k = (k.toNat : Int) := by omega
      have ej : ((i : Int) + k + (m : Int) * k) = ((i + k.toNat + m * k.toNat : Nat) : Int) := by
        conv => lhs; rw [ek]
        rw [← Int.natCast_mul]
        omega
      have hj : i + k.toNat + m * k.toNat < os.length := by
        have : k.toNat * m = m * k.toNat := Nat.mul_comm _ _
        omega
      rw [ej]
      refine gn ?_
      walk_at "pv"
      refine fz_ixI (by omega) (show os[((i + k.toNat + m * k.toNat : Nat) : Int).toNat]? = some (os.getD (i + k.toNat + m * k.toNat) 0) by rw [Int.toNat_natCast]; exact getD_some hj) ?_
      walk_at "pv"
      refine fz_ixI (by omega) (show os[((i : Nat) : Int).toNat]? = some (os.getD i 0) by rw [Int.toNat_natCast]; exact getD_some (by omega)) ?_
      walk_at "pv"
      have tie : i < i + k.toNat + m * k.toNat ∧ i + k.toNat + m * k.toNat < os.length ∧ (i + k.toNat + m * k.toNat - i) % k.toNat = 0 := by
        refine ⟨by omega, hj, ?_⟩
        rw [show i + k.toNat + m * k.toNat - i = k.toNat * (m + 1) by rw [Nat.mul_add, Nat.mul_comm k.toNat m]; omega]
        exact Nat.mul_mod_right _ _
      refine iteD (fun h => ?_) (fun h => ?_)
      · walk_at "pv"
        refine .inr ⟨i, i + k.toNat + m * k.toNat, rfl, ⟨tie.1, tie.2.1, tie.2.2, h⟩, fun i' j' ha => ?_⟩
        by_cases c1 : i' < i
        · exact absurd ha (hn i' j' c1)
        · by_cases c2 : i < i'
          · exact .inl c2
          · have : i' = i := by omega
            subst this
            refine .inr ⟨rfl, ?_⟩
            obtain ⟨a1, a2, a3, a4⟩ := ha
            obtain ⟨w, hw⟩ := Nat.dvd_of_mod_eq_zero a3
            have w1 : 1 ≤ w := by
              rcases Nat.eq_zero_or_pos w with z | z
              · rw [z, Nat.mul_zero] at hw
                omega
              · exact z
            by_cases c3 : w - 1 < m
            · refine absurd ?_ (hm (w - 1) c3)
              have ew : i' + k.toNat + (w - 1) * k.toNat = j' := by
                have : (w - 1) * k.toNat + k.toNat = w * k.toNat := by rw [← Nat.succ_mul]; congr 1; omega
                have : k.toNat * w = w * k.toNat := Nat.mul_comm _ _
                omega
              rw [ew]
              exact ⟨a1, a2, a3, a4⟩
            · have : m * k.toNat ≤ (w - 1) * k.toNat := Nat.mul_le_mul_right _ (by omega)
              have : (w - 1) * k.toNat + k.toNat = w * k.toNat := by rw [← Nat.succ_mul]; congr 1; omega
              have : k.toNat * w = w * k.toNat := Nat.mul_comm _ _
              omega
      · walk_at "pv"
        refine ⟨⟨_, rfl⟩, fun m' hm' => ?_⟩
        by_cases c : m' < m
        · exact hm m' c
        · have : m' = m := by omega
          subst this
          rintro ⟨_, _, _, h4⟩
          exact h h4
    · rintro ρ ⟨⟨y, rfl⟩, hm⟩
      walk_at "pv"
      refine ⟨⟨_, _, rfl⟩, fun i' j' hi' => ?_⟩
      by_cases c : i' < i
      · exact hn i' j' c
      · have : i' = i := by omega
        subst this
        rintro ⟨a1, a2, a3, a4⟩
        obtain ⟨w, hw⟩ := Nat.dvd_of_mod_eq_zero a3
        have w1 : 1 ≤ w := by
          rcases Nat.eq_zero_or_pos w with z | z
          · rw [z, Nat.mul_zero] at hw
            omega
          · exact z
        have e1 : (w - 1) * k.toNat + k.toNat = w * k.toNat := by rw [← Nat.succ_mul]; congr 1; omega
        have e2 : k.toNat * w = w * k.toNat := Nat.mul_comm _ _
        have ew : i' + k.toNat + (w - 1) * k.toNat = j' := by omega
        refine hm (w - 1) ?_ (by rw [ew]; exact ⟨a1, a2, a3, a4⟩)
        rw [rgDC_len, r2]
        refine cnt_ge (by omega) ?_
        have e3 : k.toNat * (w - 1) = (w - 1) * k.toNat := Nat.mul_comm _ _
        omega
  · rintro ρ ⟨⟨x, y, rfl⟩, hn⟩
    walk_at "pv"
    refine .inl ⟨rfl, fun i j h => hn i j ?_ h⟩
    rw [rg0_len, List.length_map]
    have := h.1
    have := h.2.1
    omega
/-! ### of each class the first day with its least offset -/
def lstPr : List (Int × Int) → Int × Int
  | [] => (0, 0)
  | q :: qs => minPr q qs
theorem fz_minP {ps : List (Int × Int)} {QZ : Rz → Prop} (h : 0 < ps.length) (q : QZ (.sh (Pv.prD (lstPr ps)))) : ∃ z, fMinQ [.list (ps.map Pv.prD)] = some z ∧ QZ z := by
  cases ps with
  | nil => cases h
  | cons a r => exact fz_minQ q
def cls (n k c : Nat) : List Nat := (List.range ((n - c + k - 1) / k)).map fun m => c + m * k
theorem mem_cls {n k c d : Nat} (hk : 1 ≤ k) (hc : c < k) : d ∈ cls n k c ↔ d < n ∧ d % k = c := by
  unfold cls
  rw [List.mem_map]
  constructor
  · rintro ⟨m, hm, rfl⟩
    have := cnt_lt hk (List.mem_range.mp hm)
    have e : k * m = m * k := Nat.mul_comm _ _
    exact ⟨by omega, by rw [Nat.add_mul_mod_self_right, Nat.mod_eq_of_lt hc]⟩
  · rintro ⟨hd, hm⟩
    have e := Nat.div_add_mod d k
    refine ⟨d / k, List.mem_range.mpr (cnt_ge hk ?_), ?_⟩
    · omega
    · rw [Nat.mul_comm]
      omega
def prs (os : List Int) (k c : Nat) : List (Int × Int) := (cls os.length k c).map fun d => (os.getD d 0, ((d : Nat) : Int))
def lowday (os : List Int) (k c : Nat) : Nat := (lstPr (prs os k c)).2.toNat
theorem lstPr_mem {ps : List (Int × Int)} (h : 0 < ps.length) : lstPr ps ∈ ps := by
  cases ps with
  | nil => cases h
  | cons a r => exact minPr_mem a r
theorem lstPr_le {ps : List (Int × Int)} : ∀ p ∈ ps, plt p (lstPr ps) = false := by
  cases ps with
  | nil =>
    intro p h
    cases h
  | cons a r => exact minPr_le a r
theorem cls_pos {n k c : Nat} (hk : 1 ≤ k) (hc : c < n) : 0 < (cls n k c).length := by
  unfold cls
  rw [List.length_map, List.length_range]
  exact cnt_ge hk (by omega)
theorem lowday_is {os : List Int} {k c : Nat} (hk : 1 ≤ k) (hc : c < k) (hn : c < os.length) : lowday os k c < os.length ∧ lowday os k c % k = c ∧ lstPr (prs os k c) = (os.getD (lowday os k c) 0, ((lowday os k c : Nat) : Int)) ∧
    ∀ d, d < os.length → d % k = c → os.getD (lowday os k c) 0 < os.getD d 0 ∨ (os.getD (lowday os k c) 0 = os.getD d 0 ∧ lowday os k c ≤ d) := by
  have hp : 0 < (prs os k c).length := by
    unfold prs
    rw [List.length_map]
    exact cls_pos hk hn
  have hm := lstPr_mem hp
  have hm2 := hm
  unfold prs at hm2
  obtain ⟨d0, hd0, e0⟩ := List.mem_map.mp hm2
  have el : lowday os k c = d0 := by
    unfold lowday prs
    rw [← e0]
    exact Int.toNat_natCast d0
  obtain ⟨h1, h2⟩ := (mem_cls hk hc).mp hd0
  refine ⟨by rw [el]; exact h1, by rw [el]; exact h2, ?_, fun d hd hdk => ?_⟩
  · rw [el]
    exact e0.symm
  · have hle : plt (os.getD d 0, ((d : Nat) : Int)) (lstPr (prs os k c)) = false := lstPr_le _ (List.mem_map.mpr ⟨d, (mem_cls hk hc).mpr ⟨hd, hdk⟩, rfl⟩ : _ ∈ prs os k c)
    have e1 : lstPr (prs os k c) = (os.getD d0 0, ((d0 : Nat) : Int)) := e0.symm
    rw [e1] at hle
    unfold plt at hle
    simp only [decide_eq_false_iff_not] at hle
    rw [el]
    omega
def lowdays (os : List Int) (k : Nat) : List Int := srt ((List.range k).map fun c => ((lowday os k c : Nat) : Int))
theorem lowest_days_ok {os : List Int} {k : Int} (o1 : os.length ≤ 1000) (k1 : 1 ≤ k) (k8 : k ≤ 8) (ko : k ≤ os.length) : GoP p_lowest_days [dIs os, .int k] fun z => z = .own ((lowdays os k.toNat).map PyData.int) := by
  refine goP rfl ?_
  unfold m_lowest_days
  walk_at "pv"
  refine ⟨by omega, ?_⟩
  refine for_inv (fun i ρ => ∃ x y z, ρ = [some (.sh (dIs os)), some (.sh (.int k)), some (.own (((List.range i).map fun c => ((lowday os k.toNat c : Nat) : Int)).map PyData.int)), x, y, z, none]) ⟨none, none, none, rfl⟩ ?_ ?_
  · rintro i d ρ hd ⟨x, y, z, rfl⟩
    obtain ⟨rfl, hi⟩ := rg0_get hd
    obtain ⟨r1, r2⟩ := rgC_up (a := (i : Int)) (n := os.length) (k := k) (by omega) (by omega) (by omega) (by omega) k1 k8
    obtain ⟨l1, l2, l3, l4⟩ := lowday_is (os := os) (k := k.toNat) (c := i) (by omega) hi (by omega)
    have ek : k = (k.toNat : Int) := by omega
    refine gn ?_
    walk_at "pv"
    rw [List.length_map]
    refine ⟨r1, ?_⟩
    have eD : rgDC (i : Int) k (rgN (i : Int) os.length k) = (cls os.length k.toNat i).map fun d => PyData.int ((d : Nat) : Int) := by
      unfold rgDC cls
      rw [r2, List.map_map, Int.toNat_natCast, Int.toNat_natCast]
      refine List.map_congr_left fun m _ => ?_
      show PyData.int ((i : Int) + (m : Int) * k) = PyData.int ((i + m * k.toNat : Nat) : Int)
      congr 1
      conv => lhs; rw [ek]
      rw [← Int.natCast_mul, ← Int.natCast_add]
    rw [eD]
    have hcl : ((cls os.length k.toNat i).length : Int) ≤ 100000 := by
      unfold cls
      rw [List.length_map, List.length_range]
      have := step_count os.length i (show 1 ≤ k.toNat by omega)
      omega
    refine ⟨_, _, comp_enc (fun d => PyData.int ((d : Nat) : Int)) (fun d => Pv.prD (os.getD d 0, ((d : Nat) : Int))) (by omega) fun n hn => ?_, ?_⟩
    · obtain ⟨n1, _⟩ := (mem_cls (by omega) hi).mp hn
      refine gn ?_
      walk_at "pv"
      refine fz_ixI (by omega) (show os[((n : Nat) : Int).toNat]? = some (os.getD n 0) by rw [Int.toNat_natCast]; exact getD_some n1) ?_
      walk_at "pv"
      exact ⟨_, rfl, rfl⟩
    · rw [show (cls os.length k.toNat i).map (fun d => Pv.prD (os.getD d 0, ((d : Nat) : Int))) = (prs os k.toNat i).map Pv.prD by unfold prs; rw [List.map_map]; rfl]
      walk_at "pv"
      refine fz_minP (by unfold prs; rw [List.length_map]; exact cls_pos (by omega) (by omega)) ?_
      rw [l3]
      walk_at "pv"
      refine ⟨Nat.lt_of_le_of_lt (by rw [List.length_map, List.length_map, List.length_range]; omega) (show 8 < sizeLine by decide), ?_⟩
      walk_at "pv"
      rw [snocD, show ((List.range i).map fun c => ((lowday os k.toNat c : Nat) : Int)) ++ [((lowday os k.toNat i : Nat) : Int)] = (List.range (i + 1)).map fun c => ((lowday os k.toNat c : Nat) : Int) by rw [List.range_succ, List.map_append]; rfl]
      exact ⟨_, _, _, rfl⟩
  · rintro ρ ⟨x, y, z, rfl⟩
    walk_at "pv"
    rw [rg0_len]
    rfl
theorem neg_len (os : List Int) : (neg os).length = os.length := by
  unfold neg
  rw [List.length_map]
theorem neg_getD (os : List Int) (i : Nat) : (neg os).getD i 0 = -(os.getD i 0) := by
  unfold neg
  rw [List.getD_eq_getElem?_getD, List.getD_eq_getElem?_getD, List.getElem?_map]
  cases os[i]? with
  | none => rfl
  | some x => rfl
theorem highest_days_ok {os : List Int} {k : Int} (o1 : os.length ≤ 1000) (k1 : 1 ≤ k) (k8 : k ≤ 8) (ko : k ≤ os.length) : GoP p_highest_days [dIs os, .int k] fun z => z = .own ((lowdays (neg os) k.toNat).map PyData.int) := by
  refine goP rfl ?_
  unfold m_highest_days
  walk_at "pv"
  refine ⟨_, _, comp_ints PyData.int (fun x => -x) (by omega) fun n hn => ?_, ?_⟩
  · refine gn ?_
    walk_at "pv"
    exact ⟨_, rfl, rfl⟩
  · walk_at "pv"
    refine (lowest_days_ok (os := neg os) (by rw [neg_len]; omega) k1 k8 (by rw [neg_len]; exact ko)).mono fun z hz => ?_
    subst hz
    walk_at "pv"
    rfl
/-! ### sums over classes -/
theorem lowdays_in {os : List Int} {k : Nat} (hk : 1 ≤ k) (ko : k ≤ os.length) : ∀ d ∈ lowdays os k, 0 ≤ d ∧ d < os.length := fun d hd => by
  have := (srt_perm _).mem_iff.mp hd
  obtain ⟨c, hc, rfl⟩ := List.mem_map.mp this
  have hc := List.mem_range.mp hc
  have := (lowday_is (os := os) hk hc (by omega)).1
  omega
theorem lowdays_len (os : List Int) (k : Nat) : (lowdays os k).length = k := by
  unfold lowdays
  rw [(srt_perm _).length_eq, List.length_map, List.length_range]
theorem lowdays_sum (f : Int → Int) (os : List Int) (k : Nat) : ((lowdays os k).map f).sum = ((List.range k).map fun c => f ((lowday os k c : Nat) : Int)).sum := by
  unfold lowdays
  rw [perm_sum ((srt_perm _).map f), List.map_map]
  rfl
/-- in a class the least offset is that of its lowest day -/
theorem low_mn {os : List Int} {k c : Nat} (hk : 1 ≤ k) (hc : c < k) (hn : c < os.length) : os.getD (lowday os k c) 0 = mn (stepL os c k) := by
  obtain ⟨l1, l2, _, l4⟩ := lowday_is (os := os) hk hc hn
  refine mn_uniq ?_ fun y hy => ?_
  · refine (step_mem hk).mpr ⟨lowday os k c / k, ?_⟩
    have e := Nat.div_add_mod (lowday os k c) k
    rw [l2] at e
    rw [show c + k * (lowday os k c / k) = lowday os k c by omega]
    exact getD_some l1
  · obtain ⟨j, hj⟩ := (step_mem hk).mp hy
    have h1 := (List.getElem?_eq_some_iff.mp hj).1
    rw [getD_some h1] at hj
    cases hj
    have := l4 (c + k * j) h1 (by rw [Nat.add_mul_mod_self_left, Nat.mod_eq_of_lt hc])
    omega
theorem mx_neg (os : List Int) (c k : Nat) : mn (stepL (neg os) c k) = -(mx (stepL os c k)) := by
  unfold mx neg
  rw [step_map, Int.neg_neg]
/-- the least and the greatest total of days of all classes, by the ranges -/
theorem low_total {os : List Int} {k : Nat} {t : Int} (hk : 1 ≤ k) (ko : k ≤ os.length) : ((lowdays os k).map fun d => os.getD d.toNat 0).sum = -(los (rngs os k t)) := by
  rw [lowdays_sum]
  unfold los rngs
  rw [List.map_map]
  have : ∀ j, j ≤ k → ((List.range j).map fun c => os.getD (((lowday os k c : Nat) : Int).toNat) 0).sum = -(((List.range j).map ((fun x : Int × Int => x.1) ∘ fun c => (-mn (stepL os c k), t - mx (stepL os c k)))).sum) := by
    intro j
    induction j with
    | zero => intro _; rfl
    | succ j ih =>
      intro hj
      rw [List.range_succ, List.map_append, List.map_append, List.sum_append_int, List.sum_append_int, ih (by omega)]
      simp only [List.map_cons, List.map_nil, List.sum_cons, List.sum_nil, Function.comp, Int.toNat_natCast]
      rw [low_mn hk (by omega) (by omega)]
      omega
  exact this k (Nat.le_refl k)
theorem high_total {os : List Int} {k : Nat} {t : Int} (hk : 1 ≤ k) (ko : k ≤ os.length) : ((lowdays (neg os) k).map fun d => os.getD d.toNat 0).sum = k * t - his (rngs os k t) := by
  rw [lowdays_sum]
  unfold his rngs
  rw [List.map_map]
  have : ∀ j : Nat, j ≤ k → ((List.range j).map fun c => os.getD (((lowday (neg os) k c : Nat) : Int).toNat) 0).sum = j * t - (((List.range j).map ((fun x : Int × Int => x.2) ∘ fun c => (-mn (stepL os c k), t - mx (stepL os c k)))).sum) := by
    intro j
    induction j with
    | zero => intro _; simp
    | succ j ih =>
      intro hj
      rw [List.range_succ, List.map_append, List.map_append, List.sum_append_int, List.sum_append_int, ih (by omega)]
      simp only [List.map_cons, List.map_nil, List.sum_cons, List.sum_nil, Function.comp, Int.toNat_natCast]
      have h1 := low_mn (os := neg os) hk (show j < k by omega) (by rw [neg_len]; omega)
      rw [neg_getD, mx_neg] at h1
      have e : ((j + 1 : Nat) : Int) * t = j * t + t := by rw [Int.natCast_add, Int.add_mul]; simp
      rw [e]
      omega
  exact this k (Nat.le_refl k)
/-- whether there are starts within the ranges that add up to the total -/
def Fits (ps : List (Int × Int)) (tot : Int) : Prop := Ord2 ps ∧ los ps ≤ tot ∧ tot ≤ his ps
theorem near_ord {os : List Int} {k : Nat} {t : Int} (hk : 1 ≤ k) (ko : k ≤ os.length) : (∀ i j, ¬ Apart os k t i j) ∧ 0 ≤ t ↔ Ord2 (rngs os k t) ∧ 0 ≤ t := by
  refine and_congr_left fun t0 => ⟨fun h q hq => ?_, fun h i j ha => ?_⟩
  · obtain ⟨c, hc, rfl⟩ := List.mem_map.mp hq
    have hc := List.mem_range.mp hc
    have sp := step_pos (os := os) hk (show c < os.length by omega)
    obtain ⟨a, ha⟩ := (step_mem hk).mp (mn_mem sp)
    obtain ⟨b, hb⟩ := (step_mem hk).mp (mx_mem sp)
    have ha1 := (List.getElem?_eq_some_iff.mp ha).1
    have hb1 := (List.getElem?_eq_some_iff.mp hb).1
    rw [getD_some ha1] at ha
    rw [getD_some hb1] at hb
    have ea := Option.some.inj ha
    have eb := Option.some.inj hb
    show -mn _ ≤ t - mx _
    have tie : ∀ x y : Nat, x < y → (c + k * y - (c + k * x)) % k = 0 := fun x y h => by
      have e : k * y = k * x + k * (y - x) := by rw [← Nat.mul_add]; congr 1; omega
      rw [show c + k * y - (c + k * x) = k * (y - x) by omega]
      exact Nat.mul_mod_right _ _
    have lt : ∀ x y : Nat, x < y → c + k * x < c + k * y := fun x y h => by
      have := Nat.mul_lt_mul_of_pos_left h (show 0 < k by omega)
      omega
    rcases Nat.lt_trichotomy a b with z | z | z
    · have := h (c + k * a) (c + k * b)
      have n : ¬ t < ab (os.getD (c + k * b) 0 - os.getD (c + k * a) 0) := fun y => this ⟨lt a b z, hb1, tie a b z, y⟩
      unfold ab at n
      split at n <;> omega
    · subst z
      rw [ea] at eb
      omega
    · have := h (c + k * b) (c + k * a)
      have n : ¬ t < ab (os.getD (c + k * a) 0 - os.getD (c + k * b) 0) := fun y => this ⟨lt b a z, ha1, tie b a z, y⟩
      unfold ab at n
      split at n <;> omega
  · obtain ⟨h1, h2, h3, h4⟩ := ha
    have hc : i % k < k := Nat.mod_lt _ (by omega)
    have hq := h _ (List.mem_map.mpr ⟨i % k, List.mem_range.mpr hc, rfl⟩ : _ ∈ rngs os k t)
    have em : j % k = i % k := by
      obtain ⟨w, hw⟩ := Nat.dvd_of_mod_eq_zero h3
      rw [show j = i + k * w by omega, Nat.add_mul_mod_self_left]
    have hin : ∀ d, d < os.length → d % k = i % k → os.getD d 0 ∈ stepL os (i % k) k := fun d hd e => by
      refine (step_mem hk).mpr ⟨d / k, ?_⟩
      have e1 := Nat.div_add_mod d k
      rw [show i % k + k * (d / k) = d by omega]
      exact getD_some hd
    have m1 := mn_le (hin i (by omega) rfl)
    have m2 := mn_le (hin j h2 em)
    have m3 := le_mx (hin i (by omega) rfl)
    have m4 := le_mx (hin j h2 em)
    have hq : -mn (stepL os (i % k) k) ≤ t - mx (stepL os (i % k) k) := hq
    unfold ab at h4
    split at h4 <;> omega
end Lib

set_option Elab.async false
set_option linter.all false
set_option maxRecDepth 100000
set_option maxHeartbeats 4000000
namespace Lib
open PySem PySem.Spec PyProof.Rows L2 Ws Pv

/-! ### whether there is a way, and why not -/
def osn (ss : List Int) (k : Int) : List Int := offL ss k.toNat (ss.length + k.toNat - 1)
def psn (ss : List Int) (k t : Int) : List (Int × Int) := rngs (osn ss k) k.toNat t
/-- valid arguments -/
structure Ok (ss : List Int) (k t : Int) : Prop where
  s1 : 1 ≤ ss.length
  k1 : 1 ≤ k
  k8 : k ≤ 8
  n : k + ss.length ≤ 68
  t0 : 0 ≤ t
  t1 : t ≤ 999999999999999999999999999999
theorem Ok.len {ss : List Int} {k t : Int} (h : Ok ss k t) : (osn ss k).length = ss.length + k.toNat - 1 := offL_len _ _ _
theorem Ok.kn {ss : List Int} {k t : Int} (h : Ok ss k t) : ((k.toNat : Nat) : Int) = k ∧ 1 ≤ k.toNat ∧ k.toNat ≤ 8 ∧ k.toNat ≤ (osn ss k).length ∧ (osn ss k).length ≤ 67 := by
  have := h.len
  have := h.s1
  have := h.k1
  have := h.k8
  have := h.n
  omega
theorem Ok.ordN {ss : List Int} {k t : Int} (h : Ok ss k t) : (∀ i j, ¬ Apart (osn ss k) k.toNat t i j) ↔ Ord2 (psn ss k t) := by
  obtain ⟨a, b, c, d, e⟩ := h.kn
  have := near_ord (os := osn ss k) (t := t) b d
  exact ⟨fun x => (this.mp ⟨x, h.t0⟩).1, fun x => (this.mpr ⟨x, h.t0⟩).1⟩
theorem Ok.lowT {ss : List Int} {k t : Int} (h : Ok ss k t) : ((lowdays (osn ss k) k.toNat).map fun d => (osn ss k).getD d.toNat 0).sum = -(los (psn ss k t)) := low_total h.kn.2.1 h.kn.2.2.2.1
theorem Ok.highT {ss : List Int} {k t : Int} (h : Ok ss k t) : ((lowdays (neg (osn ss k)) k.toNat).map fun d => (osn ss k).getD d.toNat 0).sum = k * t - his (psn ss k t) := by
  have := high_total (os := osn ss k) (t := t) h.kn.2.1 h.kn.2.2.2.1
  rw [h.kn.1] at this
  exact this
theorem Ok.offs {ss : List Int} {k t : Int} (h : Ok ss k t) : GoP p_offsets_of [dIs ss, .int k] fun z => z = .own ((osn ss k).map PyData.int) := offsets_of_ok h.s1 (by have := h.n; have := h.k1; omega) h.k1 h.k8
theorem Ok.starts {ss : List Int} {k t : Int} (h : Ok ss k t) : GoP p_start_ranges [dIs (osn ss k), .int k, .int t] fun z => z = .own ((psn ss k t).map Pv.prD) := by
  have := h.kn
  exact start_ranges_ok (by omega) h.k1 h.k8 (by omega)
theorem psn_len (ss : List Int) (k t : Int) : (psn ss k t).length = k.toNat := rngs_len _ _ _
inductive FC (ss : List Int) (k t : Int) : Rz → Prop
  | none : Fits (psn ss k t) (ss.getD 0 0) → FC ss k t (.sh .none)
  | apart {i j : Nat} : FirstA (osn ss k) k.toNat t i j → FC ss k t (.sh (.tuple [.str "apart", .list [.int (i : Int), .int (j : Int)]]))
  | low : (∀ i j, ¬ Apart (osn ss k) k.toNat t i j) → ss.getD 0 0 + ((lowdays (osn ss k) k.toNat).map fun d => (osn ss k).getD d.toNat 0).sum < 0 → FC ss k t (.sh (.tuple [.str "low", dIs (lowdays (osn ss k) k.toNat)]))
  | high : (∀ i j, ¬ Apart (osn ss k) k.toNat t i j) → ¬ ss.getD 0 0 + ((lowdays (osn ss k) k.toNat).map fun d => (osn ss k).getD d.toNat 0).sum < 0 →
      k * t < ss.getD 0 0 + ((lowdays (neg (osn ss k)) k.toNat).map fun d => (osn ss k).getD d.toNat 0).sum → FC ss k t (.sh (.tuple [.str "high", dIs (lowdays (neg (osn ss k)) k.toNat)]))
theorem find_conflict_ok {ss : List Int} {k t : Int} (h : Ok ss k t) : GoP p_find_conflict [dIs ss, .int k, .int t] (FC ss k t) := by
  obtain ⟨e1, e2, e3, e4, e5⟩ := h.kn
  have t0 := h.t0
  have t1 := h.t1
  have k1 := h.k1
  have k8 := h.k8
  have s1 := h.s1
  refine goP rfl ?_
  unfold m_find_conflict
  walk_at "pv"
  refine h.offs.mono fun z hz => ?_
  subst hz
  walk_at "pv"
  refine (first_apart_ok (by omega) k1 k8).mono fun z hz => ?_
  rcases hz with ⟨rfl, na⟩ | ⟨i, j, rfl, fa⟩
  · walk_at "pv"
    refine (lowest_days_ok (by omega) k1 k8 (by omega)).mono fun z hz => ?_
    subst hz
    walk_at "pv"
    refine (total_at_ok s1 (fun d hd => lowdays_in e2 e4 d hd) (by rw [lowdays_len]; omega)).mono fun z hz => ?_
    subst hz
    walk_at "pv"
    refine iteD (fun hl => ?_) (fun hl => ?_)
    · walk_at "pv"
      exact .low na hl
    · walk_at "pv"
      refine (highest_days_ok (by omega) k1 k8 (by omega)).mono fun z hz => ?_
      subst hz
      walk_at "pv"
      have hin : ∀ d ∈ lowdays (neg (osn ss k)) k.toNat, 0 ≤ d ∧ d < ((osn ss k).length : Int) := fun d hd => by
        have := lowdays_in (os := neg (osn ss k)) (k := k.toNat) e2 (by rw [neg_len]; exact e4) d hd
        rw [neg_len] at this
        exact this
      refine (total_at_ok s1 hin (by rw [lowdays_len]; omega)).mono fun z hz => ?_
      subst hz
      walk_at "pv"
      refine fz_mul (mulOk (n := 5) (m := 120) (by omega) (by omega) (by decide) (by omega) (Int.lt_of_le_of_lt t1 (by decide +kernel)) (by decide) (by decide)) ?_
      walk_at "pv"
      refine iteD (fun hh => ?_) (fun hh => ?_)
      · walk_at "pv"
        exact .high na hl hh
      · walk_at "pv"
        rw [h.lowT] at hl
        rw [h.highT] at hh
        exact .none ⟨h.ordN.mp na, by omega, by omega⟩
  · walk_at "pv"
    exact .apart fa
theorem FC.fits {ss : List Int} {k t : Int} {z : Rz} (o : Ok ss k t) (h : FC ss k t z) (f : Fits (psn ss k t) (ss.getD 0 0)) : z = .sh .none := by
  obtain ⟨fo, f1, f2⟩ := f
  have na := o.ordN.mpr fo
  cases h with
  | none _ => rfl
  | apart a => exact absurd a.at' (na _ _)
  | low _ b =>
    rw [o.lowT] at b
    omega
  | high _ _ b =>
    rw [o.highT] at b
    omega
theorem FC.not {ss : List Int} {k t : Int} {z : Rz} (h : FC ss k t z) (f : ¬ Fits (psn ss k t) (ss.getD 0 0)) : ∃ w ds, z = .sh (.tuple [.str w, .list ds]) := by
  cases h with
  | none g => exact absurd g f
  | apart _ => exact ⟨_, _, rfl⟩
  | low _ _ => exact ⟨_, _, rfl⟩
  | high _ _ _ => exact ⟨_, _, rfl⟩
theorem need_way_ok {ss : List Int} {k t : Int} (h : Ok ss k t) (f : Fits (psn ss k t) (ss.getD 0 0)) : GoP p_need_way [dIs ss, .int k, .int t] fun z => z = .sh .none := by
  refine goP rfl ?_
  unfold m_need_way
  walk_at "pv"
  refine (find_conflict_ok h).mono fun z hz => ?_
  rw [hz.fits h f]
  walk_at "pv"
  rfl
/-! ### the law's own helpers -/
theorem gaps_ok {ss : List Int} {k : Int} (s1 : 1 ≤ ss.length) (s2 : ss.length ≤ 1000) (k1 : 1 ≤ k) (k8 : k ≤ 8) : GoP p__law_gaps [dIs ss, .int k] fun z => z = .own ((osn ss k).map PyData.int) := by
  unfold osn
  refine goP rfl ?_
  unfold m__law_gaps
  walk_at "pv"
  refine fz_rep ⟨by omega, by omega, Nat.le_trans (by show 1 * k.toNat ≤ 8; omega) (by decide)⟩ ?_
  rw [flat_rep, rep_ints, ← offL_zero ss]
  walk_at "pv"
  refine ⟨by rw [List.length_map]; omega, ?_⟩
  refine for_inv (fun i ρ => ∃ x y, ρ = [some (.sh (dIs ss)), some (.sh (.int k)), some (.own ((offL ss k.toNat (k.toNat + i)).map PyData.int)), x, y]) ⟨none, none, rfl⟩ ?_ ?_
  · rintro i d ρ hd ⟨x, y, rfl⟩
    obtain ⟨rfl, hi⟩ := rg0_get hd
    rw [List.length_map] at hi
    refine gn ?_
    walk_at "pv"
    refine fz_ixI (by omega) (show ss[((i : Int) + 1).toNat]? = some (ss.getD (i + 1) 0) by rw [show ((i : Int) + 1).toNat = i + 1 by omega]; exact getD_some (by omega)) ?_
    walk_at "pv"
    refine fz_ixI (by omega) (show ss[((i : Nat) : Int).toNat]? = some (ss.getD i 0) by rw [Int.toNat_natCast]; exact getD_some (by omega)) ?_
    walk_at "pv"
    refine fz_ix (d := .int (off ss k.toNat i)) (atI_back (j := i) (by rw [List.length_map, offL_len]; omega) (by rw [List.length_map, offL_len]; omega) (by rw [List.getElem?_map, offL_get (by omega)]; rfl)) ?_
    walk_at "pv"
    refine ⟨Nat.lt_of_lt_of_le (by rw [List.length_map, offL_len]; omega) (show 2000 ≤ sizeLine by decide), ?_⟩
    walk_at "pv"
    rw [snocD, show off ss k.toNat i + (ss.getD (i + 1) 0 - ss.getD i 0) = off ss k.toNat i + ss.getD (i + 1) 0 - ss.getD i 0 by omega, ← off_hi (by omega), ← offL_succ, Nat.add_assoc]
    exact ⟨_, _, rfl⟩
  · rintro ρ ⟨x, y, rfl⟩
    walk_at "pv"
    rw [rg0_len, List.length_map, show k.toNat + ((ss.length : Int) - 1).toNat = ss.length + k.toNat - 1 by omega]
theorem rgDC_cls {n : Nat} {i : Nat} {k : Int} (k1 : 1 ≤ k) (k8 : k ≤ 8) (hn : n ≤ 1000) (hi : i ≤ 2000) : RgC (i : Int) n k (rgN (i : Int) n k) ∧ rgDC (i : Int) k (rgN (i : Int) n k) = (cls n k.toNat i).map fun d => PyData.int ((d : Nat) : Int) := by
  obtain ⟨r1, r2⟩ := rgC_up (a := (i : Int)) (n := n) (k := k) (by omega) (by omega) (by omega) (by omega) k1 k8
  refine ⟨r1, ?_⟩
  have ek : k = (k.toNat : Int) := by omega
  unfold rgDC cls
  rw [r2, List.map_map, Int.toNat_natCast, Int.toNat_natCast]
  refine List.map_congr_left fun m _ => ?_
  show PyData.int ((i : Int) + (m : Int) * k) = PyData.int ((i + m * k.toNat : Nat) : Int)
  congr 1
  conv => lhs; rw [ek]
  rw [← Int.natCast_mul, ← Int.natCast_add]
theorem cls_len (n k c : Nat) (hk : 1 ≤ k) : (cls n k c).length ≤ n := by
  unfold cls
  rw [List.length_map, List.length_range]
  exact step_count n c hk
theorem cls_vals (os : List Int) (k c : Nat) (hk : 1 ≤ k) : (cls os.length k c).map (fun d => os.getD d 0) = stepL os c k := by
  rw [step_eq os c k hk 0]
  unfold cls
  rw [List.map_map]
  refine List.map_congr_left fun m _ => ?_
  show os.getD (c + m * k) 0 = os.getD (c + k * m) 0
  rw [Nat.mul_comm]
theorem box_ok {ss : List Int} {k t : Int} (h : Ok ss k t) : GoP p__law_box [dIs ss, .int k, .int t] fun z => z = .sh (.tuple [dIs ((psn ss k t).map (·.1)), dIs ((psn ss k t).map (·.2))]) := by
  obtain ⟨e1, e2, e3, e4, e5⟩ := h.kn
  have k1 := h.k1
  have k8 := h.k8
  refine goP rfl ?_
  unfold m__law_box
  walk_at "pv"
  refine (gaps_ok h.s1 (by have := h.n; omega) k1 k8).mono fun z hz => ?_
  subst hz
  walk_at "pv"
  refine ⟨by omega, ?_⟩
  refine for_inv (fun i ρ => ∃ x y, ρ = [some (.sh (dIs ss)), some (.sh (.int k)), some (.sh (.int t)), some (.own ((osn ss k).map PyData.int)), some (.own ((((psn ss k t).take i).map (·.1)).map PyData.int)), some (.own ((((psn ss k t).take i).map (·.2)).map PyData.int)), x, y, none]) ⟨none, none, rfl⟩ ?_ ?_
  · rintro i d ρ hd ⟨x, y, rfl⟩
    obtain ⟨rfl, hi⟩ := rg0_get hd
    obtain ⟨r1, r2⟩ := rgDC_cls (n := (osn ss k).length) (i := i) k1 k8 (by omega) (by omega)
    have cl := cls_len (osn ss k).length k.toNat i e2
    have sp := step_pos (os := osn ss k) e2 (show i < (osn ss k).length by omega)
    have hp := rngs_at (os := osn ss k) (t := t) hi
    refine gn ?_
    walk_at "pv"
    rw [List.length_map]
    refine ⟨r1, ?_⟩
    rw [r2]
    refine ⟨_, _, comp_ints (fun d => PyData.int ((d : Nat) : Int)) (fun d => (osn ss k).getD d 0) (by omega) fun n hn => ?_, ?_⟩
    · obtain ⟨n1, _⟩ := (mem_cls e2 hi).mp hn
      refine gn ?_
      walk_at "pv"
      refine fz_ixI (by omega) (show (osn ss k)[((n : Nat) : Int).toNat]? = some ((osn ss k).getD n 0) by rw [Int.toNat_natCast]; exact getD_some n1) ?_
      exact ⟨_, rfl, rfl⟩
    · rw [cls_vals _ _ _ e2]
      walk_at "pv"
      refine fz_minL sp ?_
      walk_at "pv"
      refine ⟨Nat.lt_of_le_of_lt (by rw [List.length_map, List.length_map, List.length_take]; omega) (show 8 < sizeLine by decide), ?_⟩
      walk_at "pv"
      refine fz_maxL sp ?_
      walk_at "pv"
      refine ⟨Nat.lt_of_le_of_lt (by rw [List.length_map, List.length_map, List.length_take]; omega) (show 8 < sizeLine by decide), ?_⟩
      walk_at "pv"
      rw [take_next (show (psn ss k t)[i]? = some _ from hp)]
      simp only [List.map_append, List.map_cons, List.map_nil, Int.zero_sub]
      exact ⟨_, _, rfl⟩
  · rintro ρ ⟨x, y, rfl⟩
    walk_at "pv"
    rw [rg0_len, List.take_of_length_le (by rw [psn_len]; omega)]
/-- the spots whose least number is above the greatest one -/
theorem fits_ok {ps : List (Int × Int)} {tot : Int} (l : ps.length ≤ 1000) : GoP p__law_fits [dIs (ps.map (·.1)), dIs (ps.map (·.2)), .int tot] fun z => ∃ b, z = .sh (.bool b) ∧ (b = true ↔ Fits ps tot) := by
  refine goP rfl ?_
  unfold m__law_fits
  walk_at "pv"
  refine comp_inv (ds := enumD 0 ((ps.map (·.1)).map PyData.int)) (fun i acc ρ => ρ = [some (.sh (dIs (ps.map (·.1)))), some (.sh (dIs (ps.map (·.2)))), some (.sh (.int tot)), none, none, none] ∧ ∃ L : List Int, acc = L.map PyData.int ∧ (L = [] ↔ ∀ q ∈ ps.take i, q.1 ≤ q.2)) ⟨rfl, [], rfl, by simp⟩ (by rw [enumD_len, List.length_map, List.length_map]; omega) ?_ ?_
  · rintro i d acc ρ hd hl ⟨rfl, L, rfl, ha⟩
    have hi : i < ps.length := by
      have := (List.getElem?_eq_some_iff.mp hd).1
      rw [enumD_len, List.length_map, List.length_map] at this
      exact this
    have h1 : ((ps.map (·.1)).map PyData.int)[i]? = some (.int ps[i].1) := by rw [List.getElem?_map, List.getElem?_map, List.getElem?_eq_getElem hi]; rfl
    rw [enumD_get h1, Nat.zero_add] at hd
    cases hd
    have hp := List.getElem?_eq_getElem hi
    refine gt3 (by rfl) ?_
    walk_at "pv"
    refine fz_ixI (by omega) (show (ps.map (·.2))[((i : Nat) : Int).toNat]? = some ps[i].2 by rw [Int.toNat_natCast, List.getElem?_map, hp]; rfl) ?_
    walk_at "pv"
    refine iteD (fun h => ?_) (fun h => ?_)
    · walk_at "pv"
      refine ⟨by first | rfl | trivial, L ++ [((i : Nat) : Int)], snocD _ _, ?_⟩
      rw [take_next hp]
      constructor
      · intro z
        simp at z
      · intro z
        have := z ps[i] (List.mem_append_right _ (List.mem_singleton_self _))
        omega
    · walk_at "pv"
      refine ⟨by first | rfl | trivial, L, rfl, ?_⟩
      rw [take_next hp, ha]
      constructor
      · intro z q hq
        rcases List.mem_append.mp hq with y | y
        · exact z q y
        · rw [List.mem_singleton.mp y]
          omega
      · exact fun z q hq => z q (List.mem_append_left _ hq)
  · rintro acc ρ ⟨rfl, L, rfl, ha⟩
    rw [enumD_len, List.length_map, List.length_map, List.take_length] at ha
    walk_at "pv"
    refine fz_eqL (ms := []) ?_
    walk_at "pv"
    refine iteD (fun h => ?_) (fun h => ?_)
    · walk_at "pv"
      refine iteD (fun h2 => ?_) (fun h2 => ?_)
      · walk_at "pv"
        refine ⟨_, rfl, ?_⟩
        rw [decide_eq_true_iff]
        exact ⟨fun h3 => ⟨ha.mp h, h2, h3⟩, fun h3 => h3.2.2⟩
      · walk_at "pv"
        refine ⟨_, rfl, ?_⟩
        exact ⟨fun h3 => absurd h3 Bool.false_ne_true, fun h3 => absurd h3.2.1 h2⟩
    · walk_at "pv"
      refine ⟨_, rfl, ?_⟩
      exact ⟨fun h3 => absurd h3 Bool.false_ne_true, fun h3 => absurd (ha.mpr h3.1) h⟩
end Lib

set_option Elab.async false
set_option linter.all false
set_option maxRecDepth 100000
set_option maxHeartbeats 4000000
namespace Lib
open PySem PySem.Spec PyProof.Rows L2 Ws Pv

/-! ### what is drawn -/
theorem sums_ok {ns : List Int} {k : Int} (k1 : 1 ≤ k) (kn : k ≤ ns.length) (n1 : ns.length ≤ 1000) : GoP p__law_sums [dIs ns, .int k] fun z => z = .own ((wsums ns k.toNat).map PyData.int) := by
  refine goP rfl ?_
  unfold m__law_sums
  walk_at "pv"
  rw [List.length_map]
  refine ⟨by omega, ?_⟩
  refine for_inv (fun i ρ => ∃ x y z, ρ = [some (.sh (dIs ns)), some (.sh (.int k)), some (.own (((wsums ns k.toNat).take i).map PyData.int)), x, y, z]) ⟨none, none, none, rfl⟩ ?_ ?_
  · rintro i d ρ hd ⟨x, y, z, rfl⟩
    obtain ⟨rfl, hi⟩ := rg0_get hd
    refine gn ?_
    walk_at "pv"
    refine ⟨by omega, ?_⟩
    refine for_inv (fun t ρ => ∃ z, ρ = [some (.sh (dIs ns)), some (.sh (.int k)), some (.own (((wsums ns k.toNat).take i).map PyData.int)), some (.sh (.int (i : Int))), some (.sh (.int ((ns.drop i).take t).sum)), z]) ⟨_, rfl⟩ ?_ ?_
    · rintro t d ρ hd ⟨z, rfl⟩
      obtain ⟨rfl, ht⟩ := rg0_get hd
      refine gn ?_
      walk_at "pv"
      have hx : ns[i + t]? = some (ns.getD (i + t) 0) := getD_some (by omega)
      refine fz_ixI (by omega) (show ns[((i : Int) + (t : Int)).toNat]? = some (ns.getD (i + t) 0) by rw [show ((i : Int) + (t : Int)).toNat = i + t by omega]; exact hx) ?_
      walk_at "pv"
      rw [win_next hx]
      exact ⟨_, rfl⟩
    · rintro ρ ⟨z, rfl⟩
      rw [rg0_len]
      walk_at "pv"
      refine ⟨Nat.lt_of_le_of_lt (by rw [List.length_map, List.length_take, wsums_len]; omega) (show 2000 < sizeLine by decide), ?_⟩
      walk_at "pv"
      rw [snocD, ← take_next (wsums_get (ns := ns) (k := k.toNat) (j := i) (by omega))]
      exact ⟨_, _, _, rfl⟩
  · rintro ρ ⟨x, y, z, rfl⟩
    walk_at "pv"
    rw [rg0_len, List.take_of_length_le (by rw [wsums_len]; omega)]
theorem size_ok {js : List D} {m n : Int} (h : JarD n js) (hn : n ≤ 900000000) (m8 : 8 ≤ m) (m1 : m ≤ 1000) : GoJ p__law_size js [.int m] fun z js' => ∃ k c : Int, z = .sh (.tuple [.int k, .int c]) ∧ 1 ≤ k ∧ k ≤ 8 ∧ k ≤ c ∧ c ≤ m ∧ JarD (n + 2) js' := by
  refine goJ rfl ?_
  unfold m__law_size
  walk_at "pv"
  refine (dip_ok h (by omega) (by decide) (by decide +kernel)).mono fun z js1 hz => ?_
  obtain ⟨d, rfl, d0, d1, j1⟩ := hz
  walk_at "pv"
  refine (dip_ok j1 (by omega) (by omega) (Int.lt_of_le_of_lt (show m - (1 + d) + 1 ≤ 1000 by omega) (by decide +kernel))).mono fun z js2 hz => ?_
  obtain ⟨e, rfl, g0, g1, j2⟩ := hz
  walk_at "pv"
  exact ⟨_, _, rfl, by omega, by omega, by omega, by omega, j2.mono (by omega)⟩
theorem top_ok {js : List D} {n : Int} (h : JarD n js) (hn : n ≤ 900000000) : GoJ p__law_top js [] fun z js' => ∃ t : Int, z = .sh (.int t) ∧ 0 ≤ t ∧ t < 10 ^ 30 ∧ JarD (n + 2) js' := by
  refine goJ rfl ?_
  unfold m__law_top
  walk_at "pv"
  refine (dip_ok h (by omega) (by decide) (by decide +kernel)).mono fun z js1 hz => ?_
  obtain ⟨d, rfl, d0, d1, j1⟩ := hz
  walk_at "pv"
  refine iteD (fun hd => ?_) (fun hd => ?_)
  · walk_at "pv"
    refine (dip_ok j1 (by omega) (by decide +kernel) (by decide +kernel)).mono fun z js2 hz => ?_
    obtain ⟨e, rfl, g0, g1, j2⟩ := hz
    walk_at "pv"
    have g1 : e < 10 ^ 30 := g1
    exact ⟨_, rfl, show (0 : Int) ≤ 10 ^ 30 - 1 - e by omega, show (10 : Int) ^ 30 - 1 - e < 10 ^ 30 by omega, j2.mono (by omega)⟩
  · walk_at "pv"
    have d01 : d = 0 ∨ d = 1 := by omega
    rcases d01 with rfl | rfl
    · refine fz_ix (d := .int 4) rfl ?_
      walk_at "pv"
      refine (dip_ok j1 (by omega) (by decide) (by decide +kernel)).mono fun z js2 hz => ?_
      obtain ⟨e, rfl, g0, g1, j2⟩ := hz
      walk_at "pv"
      exact ⟨_, rfl, g0, by omega, j2.mono (by omega)⟩
    · refine fz_ix (d := .int 30) rfl ?_
      walk_at "pv"
      refine (dip_ok j1 (by omega) (by decide) (by decide +kernel)).mono fun z js2 hz => ?_
      obtain ⟨e, rfl, g0, g1, j2⟩ := hz
      walk_at "pv"
      exact ⟨_, rfl, g0, by omega, j2.mono (by omega)⟩
theorem high_ok {js : List D} {q n : Int} (h : JarD n js) (hn : n ≤ 900000000) (q1 : 1 ≤ q) (q2 : q ≤ 1000) : GoJ p__law_high js [.int q] fun z js' => ∃ t : Int, z = .sh (.int t) ∧ 0 ≤ t ∧ t < 10 ^ 30 ∧ (t ≤ 10 ^ 6 ∨ t * q < 10 ^ 30) ∧ JarD (n + 2) js' := by
  refine goJ rfl ?_
  unfold m__law_high
  walk_at "pv"
  refine (top_ok h hn).mono fun z js1 hz => ?_
  obtain ⟨t, rfl, t0, t1, j1⟩ := hz
  walk_at "pv"
  refine iteD (fun hd => ?_) (fun hd => ?_)
  · walk_at "pv"
    refine fz_div (divOk (n := 10) (by omega) (by omega) (by decide) (by decide)) ?_
    walk_at "pv"
    have h1 : t / q * q ≤ t := Int.ediv_mul_le t (by omega)
    have h2 : 0 ≤ t / q := Int.ediv_nonneg t0 (by omega)
    have h3 : t / q ≤ t := Int.ediv_le_self q t0
    exact ⟨_, rfl, h2, by omega, .inr (by omega), j1⟩
  · walk_at "pv"
    have hd : ¬ (10 : Int) ^ 6 < t := hd
    exact ⟨_, rfl, t0, t1, .inl (by omega), j1⟩
theorem days_ok {js : List D} {m t n : Int} (h : JarD n js) (hn : n ≤ 900000000) (m0 : 0 ≤ m) (m1 : m ≤ 1000) (t0 : 0 ≤ t) (t1 : t < 2 ^ 200) : GoJ p__law_days js [.int m, .int t] fun z js' => ∃ ms : List Int, z = .own (ms.map PyData.int) ∧ ms.length = m.toNat ∧ Btw 0 t ms ∧ JarD (n + 2 * m + 1) js' := by
  have t2 : t + 1 < 2 ^ 8000 := Int.lt_trans (show t + 1 < 2 ^ 200 + 1 by omega) (by decide +kernel)
  refine goJ rfl ?_
  unfold m__law_days
  walk_at "pv"
  refine (dip_ok h (by omega) (by decide) (by decide +kernel)).mono fun z js1 hz => ?_
  obtain ⟨d, rfl, d0, d1, j1⟩ := hz
  walk_at "pv"
  refine ⟨by omega, ?_⟩
  refine comp_inv (ds := rgD 0 m) (fun i acc ρ => ∃ js2, ρ = [some (.own js2), some (.sh (.int m)), some (.sh (.int t)), some (.sh (.int d)), none, none, none] ∧ JarD (n + 1 + i) js2 ∧ ∃ L : List Int, acc = L.map PyData.int ∧ L.length = i ∧ Btw 0 t L) ⟨js1, rfl, j1.mono (by omega), [], rfl, rfl, Btw.nil⟩ (by rw [rg0_len]; omega) ?_ ?_
  · rintro i e acc ρ he hl ⟨js2, rfl, j2, L, rfl, hL, hb⟩
    obtain ⟨rfl, hi⟩ := rg0_get he
    refine gn ?_
    refine ⟨true, _, rfl, ?_⟩
    simp only [if_true]
    walk_at "pv"
    refine (dip_ok j2 (by omega) (by omega) t2).mono fun z js3 hz => ?_
    obtain ⟨x, rfl, x0, x1, j3⟩ := hz
    walk_at "pv"
    refine ⟨js3, by first | rfl | trivial, j3.mono (by omega), L ++ [x], snocD _ _, by rw [List.length_append, hL]; rfl, hb.snoc x0 (by omega)⟩
  · rintro acc ρ ⟨js2, rfl, j2, L, rfl, hL, hb⟩
    rw [rg0_len] at j2 hL
    walk_at "pv"
    refine iteD (fun hd => ?_) (fun hd => ?_)
    · walk_at "pv"
      refine comp_inv (ds := L.map PyData.int) (fun i acc ρ => ∃ js2, ρ = [some (.own js2), some (.sh (.int m)), some (.sh (.int t)), some (.sh (.int d)), some (.sh (dIs L)), none, none] ∧ JarD (n + 1 + m + i) js2 ∧ ∃ L2 : List Int, acc = L2.map PyData.int ∧ L2.length = i ∧ Btw 0 t L2) ⟨js2, rfl, j2.mono (by omega), [], rfl, rfl, Btw.nil⟩ (by rw [List.length_map]; omega) ?_ ?_
      · rintro i e acc ρ he hl ⟨js3, rfl, j3, L2, rfl, hL2, hb2⟩
        rw [List.getElem?_map] at he
        obtain ⟨y, hy, rfl⟩ := map_some he
        have hi := (List.getElem?_eq_some_iff.mp hy).1
        obtain ⟨y0, y1⟩ := hb y (List.mem_of_getElem? hy)
        refine gn ?_
        refine ⟨true, _, rfl, ?_⟩
        simp only [if_true]
        walk_at "pv"
        refine (dip_ok j3 (by omega) (by decide) (by decide +kernel)).mono fun z js4 hz => ?_
        obtain ⟨x, rfl, x0, x1, j4⟩ := hz
        walk_at "pv"
        have pick : ∃ v : Int, 0 ≤ v ∧ v ≤ t ∧ atI [PyData.int 0, PyData.int t, PyData.int y] x = some (.int v) := by
          have x3 : x = 0 ∨ x = 1 ∨ x = 2 := by omega
          rcases x3 with rfl | rfl | rfl
          · exact ⟨0, by omega, t0, rfl⟩
          · exact ⟨t, t0, by omega, rfl⟩
          · exact ⟨y, y0, y1, rfl⟩
        obtain ⟨v, v0, v1, hv⟩ := pick
        refine fz_ix hv ?_
        walk_at "pv"
        exact ⟨js4, rfl, j4.mono (by omega), L2 ++ [v], snocD _ _, by rw [List.length_append, hL2]; rfl, hb2.snoc v0 v1⟩
      · rintro acc ρ ⟨js3, rfl, j3, L2, rfl, hL2, hb2⟩
        rw [List.length_map] at j3 hL2
        walk_at "pv"
        exact ⟨L2, rfl, by omega, hb2, j3.mono (by omega)⟩
    · walk_at "pv"
      exact ⟨L, rfl, by omega, hb, j2.mono (by omega)⟩
end Lib

set_option Elab.async false
set_option linter.all false
set_option maxRecDepth 100000
set_option maxHeartbeats 4000000
namespace Lib
open PySem PySem.Spec PyProof.Rows L2 Ws Pv

/-! ### a way is there just where there are starts -/
theorem wf_ok {ss st : List Int} {k t : Int} (o : Ok ss k t) (hr : InR (psn ss k t) st) (hs : st.sum = ss.getD 0 0) : Way (wf st (osn ss k)) ss k t := by
  have k1 := o.k1
  have s1 := o.s1
  have k8 := o.k8
  have nn := o.n
  have e0 : osn ss k = offL ss k.toNat (ss.length + k.toNat - 1) := rfl
  have e1 : psn ss k t = rngs (offL ss k.toNat (ss.length + k.toNat - 1)) k.toNat t := rfl
  rw [e1] at hr
  rw [e0]
  generalize en : ss.length + k.toNat - 1 = n at *
  have lo := offL_len ss k.toNat n
  have kn : k.toNat ≤ n := by omega
  have ls : st.length = k.toNat := by rw [hr.len, rngs_len]
  have ln : (wf st (offL ss k.toNat n)).length = n := by rw [wf_len, lo]
  generalize hy : wf st (offL ss k.toNat n) = y at *
  have at_ : ∀ d, d < n → y.getD d 0 = st.getD (d % k.toNat) 0 + off ss k.toNat d := fun d hd => by
    rw [← hy, wf_at (by rw [lo]; exact hd), ls, List.getD_eq_getElem?_getD (l := offL ss k.toNat n), offL_get hd]
    rfl
  have inn : Btw 0 t y := by
    intro z hz
    obtain ⟨d, hd, e⟩ := List.getElem_of_mem hz
    have hd2 : d < n := by omega
    have e2 : y.getD d 0 = z := by
      rw [List.getD_eq_getElem?_getD, List.getElem?_eq_getElem hd, e]
      rfl
    rw [at_ d hd2] at e2
    have hm : d % k.toNat < k.toNat := Nat.mod_lt _ (by omega)
    have g := hr.get (d % k.toNat) _ (st.getD (d % k.toNat) 0) (rngs_at hm) (by rw [List.getD_eq_getElem?_getD, List.getElem?_eq_getElem (by omega)]; rfl)
    have mem : off ss k.toNat d ∈ stepL (offL ss k.toNat n) (d % k.toNat) k.toNat := (step_mem (by omega)).mpr ⟨d / k.toNat, by rw [Nat.mod_add_div]; exact offL_get hd2⟩
    have a := mn_le mem
    have b := le_mx mem
    have c1 : -(mn (stepL (offL ss k.toNat n) (d % k.toNat) k.toNat)) ≤ st.getD (d % k.toNat) 0 := g.1
    have c2 : st.getD (d % k.toNat) 0 ≤ t - mx (stepL (offL ss k.toNat n) (d % k.toNat) k.toNat) := g.2
    omega
  have w0 : win y 0 k.toNat = ss.getD 0 0 := by
    rw [← win_range (by omega), ← hs]
    have e : (List.range k.toNat).map (fun i => y.getD i 0) = st := by
      conv => rhs; rw [← Ws.range_getD st]
      rw [ls]
      refine List.map_congr_left fun i hi => ?_
      have := List.mem_range.mp hi
      rw [at_ i (by omega), Nat.mod_eq_of_lt this, off_lo this]
      omega
    rw [e]
  have wj : ∀ j, j < ss.length → win y j k.toNat = ss.getD j 0 := by
    intro j
    induction j with
    | zero => intro _; exact w0
    | succ j ih =>
      intro hj
      have a := win_step (x := y) (t := j) (k := k.toNat) (by omega)
      have b := ih (by omega)
      have c : off ss k.toNat (j + k.toNat) = off ss k.toNat j + ss.getD (j + 1) 0 - ss.getD j 0 := by
        rw [Nat.add_comm]
        exact off_hi (by omega)
      rw [at_ (j + k.toNat) (by omega), at_ j (by omega), c, Nat.add_mod_right] at a
      omega
  refine ⟨⟨by omega, by omega, ?_⟩, inn, k1, o.k8, by omega, o.t1⟩
  refine List.ext_getElem? fun i => ?_
  by_cases hi : i < ss.length
  · have h := wj i hi
    rw [wsums_get (by omega), List.getElem?_eq_getElem hi]
    unfold win at h
    rw [h, List.getD_eq_getElem?_getD, List.getElem?_eq_getElem hi]
    rfl
  · rw [List.getElem?_eq_none (by rw [wsums_len]; omega), List.getElem?_eq_none (by omega)]
theorem lw_eq (ss : List Int) (k t : Int) : lw ss k t = wf (tak (psn ss k t) (his (psn ss k t) - ss.getD 0 0)) (osn ss k) := rfl
theorem fits_way {ss : List Int} {k t : Int} (o : Ok ss k t) (f : Fits (psn ss k t) (ss.getD 0 0)) : Way (lw ss k t) ss k t := by
  obtain ⟨f0, f1, f2⟩ := f
  obtain ⟨a, b⟩ := tak_ok (psn ss k t) (his (psn ss k t) - ss.getD 0 0) f0 (by omega) (by omega)
  rw [lw_eq]
  exact wf_ok o a (by rw [b]; omega)
theorem way_fits {x ss : List Int} {k t : Int} (w : Way x ss k t) : Fits (psn ss k t) (ss.getD 0 0) := by
  obtain ⟨a, b⟩ := way_inr w
  rw [← (way_n w).1] at a
  have a' : InR (psn ss k t) _ := a
  have := a'.sums
  exact ⟨a'.ord, by omega, by omega⟩
theorem way_ok {x ss : List Int} {k t : Int} (w : Way x ss k t) (t0 : 0 ≤ t) : Ok ss k t := by
  obtain ⟨a, b⟩ := way_n w
  have := w.n67
  have := w.k1
  exact ⟨b, w.k1, w.k8, by omega, t0, w.t1⟩
/-! ### sums of days that are all lowered alike -/
def low (ss : List Int) (c : Int) : List Int := ss.map fun x => x - c
theorem low_len (ss : List Int) (c : Int) : (low ss c).length = ss.length := by
  unfold low
  rw [List.length_map]
theorem low_getD {ss : List Int} {c : Int} {i : Nat} (h : i < ss.length) : (low ss c).getD i 0 = ss.getD i 0 - c := by
  unfold low
  rw [List.getD_eq_getElem?_getD, List.getD_eq_getElem?_getD, List.getElem?_map, List.getElem?_eq_getElem h]
  rfl
theorem off_low {ss : List Int} {c : Int} {k : Nat} (hk : 1 ≤ k) : ∀ i, i < ss.length + k - 1 → off (low ss c) k i = off ss k i := by
  intro i
  induction i using Nat.strongRecOn with
  | _ i ih =>
    intro hi
    by_cases h : i < k
    · rw [off_lo h, off_lo h]
    · have e : i = k + (i - k) := by omega
      rw [e, off_hi hk, off_hi hk, ih (i - k) (by omega) (by omega), low_getD (by omega), low_getD (by omega)]
      omega
theorem osn_low {ss : List Int} {k c : Int} (k1 : 1 ≤ k) : osn (low ss c) k = osn ss k := by
  unfold osn offL
  rw [low_len]
  refine List.map_congr_left fun i hi => off_low (by omega) i ?_
  have := List.mem_range.mp hi
  omega
end Lib

set_option Elab.async false
set_option linter.all false
set_option maxRecDepth 100000
set_option maxHeartbeats 4000000
namespace Lib
open PySem PySem.Spec PyProof.Rows L2 Ws Pv

/-! ### levels: the greatest tie, the forced totals -/
def wid (os : List Int) (k : Nat) : Int := mx ((List.range k).map fun c => mx (stepL os c k) - mn (stepL os c k))
theorem widest_tie_ok {os : List Int} {k : Int} (o1 : os.length ≤ 1000) (k1 : 1 ≤ k) (k8 : k ≤ 8) (ko : k ≤ os.length) : GoP p_widest_tie [dIs os, .int k] fun z => z = .sh (.int (wid os k.toNat)) := by
  refine goP rfl ?_
  unfold m_widest_tie
  walk_at "pv"
  refine ⟨by omega, ?_⟩
  rw [rgD0]
  refine ⟨_, _, comp_enc (bs := List.range k.toNat) (fun i => .int ((i : Nat) : Int)) (fun i => dIs (stepL os i k.toNat)) (by rw [List.length_range]; omega) fun n hn => ?_, ?_⟩
  · have hn := List.mem_range.mp hn
    refine gn ?_
    walk_at "pv"
    refine stp (ns := os) (i := (n : Int)) (j := k) ⟨by omega, by omega, k1⟩ ?_
    walk_at "pv"
    rw [Int.toNat_natCast]
    exact ⟨_, rfl, rfl⟩
  · walk_at "pv"
    refine ⟨_, _, comp_ints (bs := List.range k.toNat) (fun i => dIs (stepL os i k.toNat)) (fun i => mx (stepL os i k.toNat) - mn (stepL os i k.toNat)) (by rw [List.length_range]; omega) fun n hn => ?_, ?_⟩
    · have hn := List.mem_range.mp hn
      have sp : 0 < (stepL os n k.toNat).length := step_pos (by omega) (by omega)
      refine gn ?_
      walk_at "pv"
      refine fz_maxL sp ?_
      walk_at "pv"
      refine fz_minL sp ?_
      walk_at "pv"
      exact ⟨_, rfl, rfl⟩
    · walk_at "pv"
      refine fz_maxL (by rw [List.length_map, List.length_range]; omega) ?_
      walk_at "pv"
      rfl
theorem least_high_ok {ss : List Int} {k t : Int} (o : Ok ss k t) : GoP p_least_high [dIs ss, dIs (osn ss k), .int k] fun z => z = .sh (.int (-(-(ss.getD 0 0 + (k * t - his (psn ss k t))) / k))) := by
  obtain ⟨e1, e2, e3, e4, e5⟩ := o.kn
  have s1 := o.s1
  have k1 := o.k1
  have k8 := o.k8
  refine goP rfl ?_
  unfold m_least_high
  walk_at "pv"
  refine (highest_days_ok (by omega) k1 k8 (by omega)).mono fun z hz => ?_
  subst hz
  walk_at "pv"
  have hin : ∀ d ∈ lowdays (neg (osn ss k)) k.toNat, 0 ≤ d ∧ d < ((osn ss k).length : Int) := fun d hd => by
    have := lowdays_in (os := neg (osn ss k)) (k := k.toNat) e2 (by rw [neg_len]; exact e4) d hd
    rw [neg_len] at this
    exact this
  refine (total_at_ok s1 hin (by rw [lowdays_len]; omega)).mono fun z hz => ?_
  subst hz
  rw [o.highT]
  walk_at "pv"
  refine fz_div (divOk (n := 4) (by omega) (by omega) (by decide) (by decide)) ?_
  walk_at "pv"
  rfl
theorem greatest_low_ok {ss : List Int} {k t : Int} (o : Ok ss k t) : GoP p_greatest_low [dIs ss, dIs (osn ss k), .int k] fun z => z = .sh (.int ((ss.getD 0 0 - los (psn ss k t)) / k)) := by
  obtain ⟨e1, e2, e3, e4, e5⟩ := o.kn
  have s1 := o.s1
  have k1 := o.k1
  have k8 := o.k8
  refine goP rfl ?_
  unfold m_greatest_low
  walk_at "pv"
  refine (lowest_days_ok (by omega) k1 k8 (by omega)).mono fun z hz => ?_
  subst hz
  walk_at "pv"
  refine (total_at_ok s1 (fun d hd => lowdays_in e2 e4 d hd) (by rw [lowdays_len]; omega)).mono fun z hz => ?_
  subst hz
  rw [o.lowT]
  walk_at "pv"
  refine fz_div (divOk (n := 4) (by omega) (by omega) (by decide) (by decide)) ?_
  walk_at "pv"
  rw [← Int.sub_eq_add_neg]
def lh (ss : List Int) (k t : Int) : Int := -(-(ss.getD 0 0 + (k * t - his (psn ss k t))) / k)
def gl (ss : List Int) (k t : Int) : Int := (ss.getD 0 0 - los (psn ss k t)) / k
def pk (ss : List Int) (k t : Int) : Int := max (wid (osn ss k) k.toNat) (lh ss k t)
def fl (ss : List Int) (k t : Int) : Int := min (t - wid (osn ss k) k.toNat) (gl ss k t)
theorem peak_of_ok {ss : List Int} {k t : Int} (o : Ok ss k t) : GoP p_peak_of [dIs ss, .int k] fun z => z = .sh (.int (pk ss k t)) := by
  obtain ⟨e1, e2, e3, e4, e5⟩ := o.kn
  refine goP rfl ?_
  unfold m_peak_of
  walk_at "pv"
  refine o.offs.mono fun z hz => ?_
  subst hz
  walk_at "pv"
  refine (widest_tie_ok (by omega) o.k1 o.k8 (by omega)).mono fun z hz => ?_
  subst hz
  walk_at "pv"
  refine (least_high_ok o).mono fun z hz => ?_
  subst hz
  walk_at "pv"
  rfl
theorem floor_of_ok {ss : List Int} {k t : Int} (o : Ok ss k t) : GoP p_floor_of [dIs ss, .int k, .int t] fun z => z = .sh (.int (fl ss k t)) := by
  obtain ⟨e1, e2, e3, e4, e5⟩ := o.kn
  refine goP rfl ?_
  unfold m_floor_of
  walk_at "pv"
  refine o.offs.mono fun z hz => ?_
  subst hz
  walk_at "pv"
  refine (widest_tie_ok (by omega) o.k1 o.k8 (by omega)).mono fun z hz => ?_
  subst hz
  walk_at "pv"
  refine (greatest_low_ok o).mono fun z hz => ?_
  subst hz
  walk_at "pv"
  rfl
theorem least_peak_ok {ss : List Int} {k t : Int} (o : Ok ss k t) (f : Fits (psn ss k t) (ss.getD 0 0)) : GoP p_least_peak [dIs ss, .int k, .int t] fun z => z = .sh (.int (pk ss k t)) := by
  obtain ⟨e1, e2, e3, e4, e5⟩ := o.kn
  refine goP rfl ?_
  unfold m_least_peak
  walk_at "pv"
  refine (check_told_ok o.s1 o.k1 o.k8 o.n o.t0 o.t1).mono fun z hz => ?_
  subst hz
  walk_at "pv"
  refine (need_way_ok o f).mono fun z hz => ?_
  subst hz
  walk_at "pv"
  refine (peak_of_ok o).mono fun z hz => ?_
  subst hz
  walk_at "pv"
  rfl
theorem greatest_floor_ok {ss : List Int} {k t : Int} (o : Ok ss k t) (f : Fits (psn ss k t) (ss.getD 0 0)) : GoP p_greatest_floor [dIs ss, .int k, .int t] fun z => z = .sh (.int (fl ss k t)) := by
  obtain ⟨e1, e2, e3, e4, e5⟩ := o.kn
  refine goP rfl ?_
  unfold m_greatest_floor
  walk_at "pv"
  refine (check_told_ok o.s1 o.k1 o.k8 o.n o.t0 o.t1).mono fun z hz => ?_
  subst hz
  walk_at "pv"
  refine (need_way_ok o f).mono fun z hz => ?_
  subst hz
  walk_at "pv"
  refine (floor_of_ok o).mono fun z hz => ?_
  subst hz
  walk_at "pv"
  rfl
/-! ### ways between two numbers -/
theorem low_ok {ss : List Int} {k t c u : Int} (o : Ok ss k t) (u0 : 0 ≤ u) (u1 : u ≤ t) : Ok (low ss c) k u := by
  have := o.s1
  have := o.n
  have := o.t1
  exact ⟨by rw [low_len]; exact o.s1, o.k1, o.k8, by rw [low_len]; exact o.n, u0, by omega⟩
/-- the way between two numbers -/
def wb (ss : List Int) (k lo hi : Int) : List Int := (lw (low ss (k * lo)) k (hi - lo)).map fun x => x + lo
def Betw (ss : List Int) (k lo hi : Int) : Prop := lo ≤ hi ∧ Fits (rngs (osn ss k) k.toNat (hi - lo)) (ss.getD 0 0 - k * lo)
theorem psn_low {ss : List Int} {k t c : Int} (k1 : 1 ≤ k) : psn (low ss c) k t = rngs (osn ss k) k.toNat t := by
  unfold psn
  rw [osn_low k1]
theorem way_within_ok {ss : List Int} {k t a b : Int} (o : Ok ss k t) : GoP p_way_within [dIs ss, .int k, .int t, .int a, .int b] fun z =>
    (¬ Betw ss k (max a 0) (min b t) ∧ z = .sh .none) ∨ (Betw ss k (max a 0) (min b t) ∧ z = .own ((wb ss k (max a 0) (min b t)).map PyData.int)) := by
  obtain ⟨e1, e2, e3, e4, e5⟩ := o.kn
  have s1 := o.s1
  have k1 := o.k1
  have k8 := o.k8
  have nn := o.n
  have t1 := o.t1
  refine goP rfl ?_
  unfold m_way_within
  walk_at "pv"
  refine (check_told_ok o.s1 o.k1 o.k8 o.n o.t0 o.t1).mono fun z hz => ?_
  subst hz
  walk_at "pv"
  generalize hlo : max a 0 = lo
  generalize hhi : min b t = hi
  refine iteD (fun hl => ?_) (fun hl => ?_)
  · walk_at "pv"
    exact .inl ⟨fun h => by have := h.1; omega, rfl⟩
  · walk_at "pv"
    have o2 : Ok (low ss (k * lo)) k (hi - lo) := low_ok o (by omega) (by omega)
    have hm : CMulW k lo := mulOk (n := 5) (m := 120) (by omega) (by omega) (by decide) (by omega) (Int.lt_of_le_of_lt (show lo ≤ 999999999999999999999999999999 by omega) (by decide +kernel)) (by decide) (by decide)
    refine ⟨_, _, comp_ints PyData.int (fun x => x - k * lo) (by omega) fun n hn => ?_, ?_⟩
    · refine gn ?_
      walk_at "pv"
      refine fz_mul hm ?_
      walk_at "pv"
      exact ⟨_, rfl, rfl⟩
    · walk_at "pv"
      have eb : Betw ss k lo hi ↔ Fits (psn (low ss (k * lo)) k (hi - lo)) ((low ss (k * lo)).getD 0 0) := by
        unfold Betw
        rw [psn_low k1, low_getD (by omega)]
        exact ⟨fun h => h.2, fun h => ⟨by omega, h⟩⟩
      refine (find_conflict_ok o2).mono fun z hz => ?_
      by_cases f : Betw ss k lo hi
      · rw [hz.fits o2 (eb.mp f)]
        walk_at "pv"
        refine (first_way_ok o2.s1 o2.k1 o2.k8 o2.n).mono fun z hz => ?_
        subst hz
        walk_at "pv"
        refine ⟨_, _, comp_ints PyData.int (fun x => x + lo) (by have := (way_n (fits_way o2 (eb.mp f))).1; have := low_len ss (k * lo); omega) fun n hn => ?_, ?_⟩
        · refine gn ?_
          walk_at "pv"
          exact ⟨_, rfl, rfl⟩
        · walk_at "pv"
          exact .inr ⟨f, rfl⟩
      · obtain ⟨w, ds, rfl⟩ := hz.not (fun h => f (eb.mpr h))
        walk_at "pv"
        exact .inl ⟨f, rfl⟩
end Lib

set_option Elab.async false
set_option linter.all false
set_option maxRecDepth 100000
set_option maxHeartbeats 4000000
namespace Lib
open PySem PySem.Spec PyProof.Rows L2 Ws Pv
/-! ### the levels are ends of ways -/
theorem wid_ord {os : List Int} {k : Nat} {u : Int} (k1 : 1 ≤ k) : Ord2 (rngs os k u) ↔ wid os k ≤ u := by
  unfold wid Ord2
  constructor
  · intro h
    have m := mx_mem (l := (List.range k).map fun c => mx (stepL os c k) - mn (stepL os c k)) (by rw [List.length_map, List.length_range]; omega)
    obtain ⟨c, hc, e⟩ := List.mem_map.mp m
    have g := h _ (List.mem_of_getElem? (rngs_at (os := os) (t := u) (List.mem_range.mp hc)))
    have g2 : -(mn (stepL os c k)) ≤ u - mx (stepL os c k) := g
    rw [← e]
    omega
  · intro h q hq
    unfold rngs at hq
    obtain ⟨c, hc, rfl⟩ := List.mem_map.mp hq
    have := le_mx (List.mem_map.mpr ⟨c, hc, rfl⟩ : mx (stepL os c k) - mn (stepL os c k) ∈ (List.range k).map fun c => mx (stepL os c k) - mn (stepL os c k))
    show -(mn (stepL os c k)) ≤ u - mx (stepL os c k)
    omega
theorem wid_pos {os : List Int} {k : Nat} (k1 : 1 ≤ k) (ko : k ≤ os.length) : 0 ≤ wid os k := by
  have sp := step_pos (os := os) k1 (show 0 < os.length by omega)
  obtain ⟨y, hy⟩ := List.exists_mem_of_length_pos sp
  have m1 := mn_le hy
  have m2 := le_mx hy
  have := le_mx (List.mem_map.mpr ⟨0, List.mem_range.mpr (by omega), rfl⟩ : mx (stepL os 0 k) - mn (stepL os 0 k) ∈ (List.range k).map fun c => mx (stepL os c k) - mn (stepL os c k))
  unfold wid
  omega
theorem los_any {os : List Int} {k : Nat} (t u : Int) (k1 : 1 ≤ k) (ko : k ≤ os.length) : los (rngs os k u) = los (rngs os k t) := by
  have a := low_total (os := os) (t := t) k1 ko
  have b := low_total (os := os) (t := u) k1 ko
  omega
theorem his_any {os : List Int} {k : Nat} (t u : Int) (k1 : 1 ≤ k) (ko : k ≤ os.length) : his (rngs os k u) = his (rngs os k t) + k * u - k * t := by
  have a := high_total (os := os) (t := t) k1 ko
  have b := high_total (os := os) (t := u) k1 ko
  omega
theorem peak_ok {ss : List Int} {k t : Int} (o : Ok ss k t) (f : Fits (psn ss k t) (ss.getD 0 0)) : 0 ≤ pk ss k t ∧ pk ss k t ≤ t ∧ Betw ss k 0 (pk ss k t) := by
  obtain ⟨e1, e2, e3, e4, e5⟩ := o.kn
  have k1 := o.k1
  obtain ⟨f0, f1, f2⟩ := f
  have wt := (wid_ord e2).mp f0
  have w0 := wid_pos e2 e4
  have l1 : lh ss k t ≤ t := by
    unfold lh
    have : -t ≤ -(ss.getD 0 0 + (k * t - his (psn ss k t))) / k := by
      rw [Int.le_ediv_iff_mul_le (by omega), Int.neg_mul, Int.mul_comm t k]
      omega
    omega
  have l2 : ss.getD 0 0 + (k * t - his (psn ss k t)) ≤ k * lh ss k t := by
    unfold lh
    have := Int.ediv_mul_le (-(ss.getD 0 0 + (k * t - his (psn ss k t)))) (show k ≠ 0 by omega)
    have c := Int.mul_comm k (-(ss.getD 0 0 + (k * t - his (psn ss k t))) / k)
    rw [Int.mul_neg]
    omega
  have p1 : wid (osn ss k) k.toNat ≤ pk ss k t := by unfold pk; omega
  have p2 : lh ss k t ≤ pk ss k t := by unfold pk; omega
  have p3 : pk ss k t ≤ t := by unfold pk; omega
  have p4 : k * lh ss k t ≤ k * pk ss k t := Int.mul_le_mul_of_nonneg_left p2 (by omega)
  have e6 := his_any (os := osn ss k) t (pk ss k t) e2 e4
  have e7 := los_any (os := osn ss k) t (pk ss k t) e2 e4
  rw [e1] at e6
  have e8 : los (psn ss k t) = los (rngs (osn ss k) k.toNat t) := rfl
  have e9 : his (psn ss k t) = his (rngs (osn ss k) k.toNat t) := rfl
  refine ⟨by omega, p3, by omega, ?_⟩
  rw [Int.sub_zero, Int.mul_zero, Int.sub_zero]
  exact ⟨(wid_ord e2).mpr p1, by omega, by omega⟩
theorem floor_ok {ss : List Int} {k t : Int} (o : Ok ss k t) (f : Fits (psn ss k t) (ss.getD 0 0)) : 0 ≤ fl ss k t ∧ fl ss k t ≤ t ∧ Betw ss k (fl ss k t) t := by
  obtain ⟨e1, e2, e3, e4, e5⟩ := o.kn
  have k1 := o.k1
  obtain ⟨f0, f1, f2⟩ := f
  have wt := (wid_ord e2).mp f0
  have w0 := wid_pos e2 e4
  have g0 : 0 ≤ gl ss k t := Int.ediv_nonneg (by omega) (by omega)
  have g1 : k * gl ss k t ≤ ss.getD 0 0 - los (psn ss k t) := by
    unfold gl
    have := Int.ediv_mul_le (ss.getD 0 0 - los (psn ss k t)) (show k ≠ 0 by omega)
    rw [Int.mul_comm]
    exact this
  have p1 : fl ss k t ≤ t - wid (osn ss k) k.toNat := by unfold fl; omega
  have p2 : fl ss k t ≤ gl ss k t := by unfold fl; omega
  have p3 : 0 ≤ fl ss k t := by unfold fl; omega
  have p4 : k * fl ss k t ≤ k * gl ss k t := Int.mul_le_mul_of_nonneg_left p2 (by omega)
  have e6 := his_any (os := osn ss k) t (t - fl ss k t) e2 e4
  have e7 := los_any (os := osn ss k) t (t - fl ss k t) e2 e4
  rw [e1, Int.mul_sub] at e6
  have e8 : los (psn ss k t) = los (rngs (osn ss k) k.toNat t) := rfl
  have e9 : his (psn ss k t) = his (rngs (osn ss k) k.toNat t) := rfl
  exact ⟨p3, by omega, by omega, (wid_ord e2).mpr (by omega), by omega, by omega⟩
end Lib

set_option Elab.async false
set_option linter.all false
set_option maxRecDepth 100000
set_option maxHeartbeats 4000000
namespace Lib
open PySem PySem.Spec PyProof.Rows L2 Ws Pv
noncomputable section
-- 0:numbers 1:length
def m_check_numbers : Pv.SM :=
  (seqS (ifS (notT (tstM (callM p_is_row (consM (varM 0) (consM (cM (.int 67)) nilM)))))
    neverS
    skipS)
    (ifS (notT (tstM (callM p_is_within (consM (varM 1) (consM (cM (.int 1)) (consM (opM fMin2 (consM (cM (.int 8)) (consM (opM fLen (consM (varM 0) nilM)) nilM))) nilM))))))
    neverS
    skipS))
def p_check_numbers : List Pv.D → Option Pv.Rz := Pv.fnP 2 2 m_check_numbers
-- 0:numbers 1:length 2:day
def m_row_sums : Pv.SM :=
  (retS [] (compM (rng1 (opM fAdd (arg2 (opM fSub (arg2 (opM fLen (consM (varM 0) nilM)) (varM 1))) (cM (.int 1))))) (gN 2) yesT (opM fSum (consM (slM (varM 0) (partM (varM 2)) (partM (opM fAdd (arg2 (varM 2) (varM 1))))) nilM)) [2]))
def p_row_sums : List Pv.D → Option Pv.Rz := Pv.fnP 3 2 m_row_sums
-- 0:numbers 1:length
def m_sums_of : Pv.SM :=
  (seqS (exprS (callM p_check_numbers (consM (varM 0) (consM (varM 1) nilM))))
    (retS [] (callM p_row_sums (consM (varM 0) (consM (varM 1) nilM)))))
def p_sums_of : List Pv.D → Option Pv.Rz := Pv.fnP 2 2 m_sums_of
-- 0:ranges 1:low 2:high
def m_rooms_of : Pv.SM :=
  (retS [] (compM (walkM (varM 0)) (gT (gsCons (gN 1) (gsCons (gN 2) gsNil))) yesT (opM fSub (arg2 (varM 2) (varM 1))) [1, 2]))
def p_rooms_of : List Pv.D → Option Pv.Rz := Pv.fnP 3 1 m_rooms_of
-- 0:ranges 1:total 2:low 3:_
def m_spare_of : Pv.SM :=
  (retS [] (opM fSub (arg2 (varM 1) (opM fSum (consM (compM (walkM (varM 0)) (gT (gsCons (gN 2) (gsCons (gN 3) gsNil))) yesT (varM 2) [2, 3]) nilM)))))
def p_spare_of : List Pv.D → Option Pv.Rz := Pv.fnP 4 2 m_spare_of
-- 0:rooms 1:spare 2:total 3:weight 4:room 5:put
def m_spare_weight : Pv.SM :=
  (seqS (setS 2 (cM (.int 0)))
    (seqS (forS (walkM (varM 0)) (gT (gsCons (gN 3) (gsCons (gN 4) gsNil)))
    (seqS (setS 5 (opM fMin2 (consM (varM 4) (consM (varM 1) nilM))))
    (seqS (augS 2 (fun a b => a + b) (opM fMul (arg2 (varM 3) (varM 5))))
    (augS 1 (fun a b => a - b) (varM 5)))))
    (retS [] (varM 2))))
def p_spare_weight : List Pv.D → Option Pv.Rz := Pv.fnP 6 2 m_spare_weight
-- 0:sums 1:length 2:most 3:less 4:more 5:offsets 6:ranges 7:weights 8:least 9:sign 10:days 11:day 12:start 13:rooms 14:spare
def m_range_between : Pv.SM :=
  (seqS (setS 5 (callM p_offsets_of (consM (varM 0) (consM (varM 1) nilM))))
    (seqS (setS 6 (callM p_start_ranges (consM (varM 5) (consM (varM 1) (consM (varM 2) nilM)))))
    (seqS (setS 7 (opM fRep (arg2 (lstM (consM (cM (.int 0)) nilM)) (varM 1))))
    (seqS (setS 8 (cM (.int 0)))
    (seqS (forS (walkTM (tupM (consM (tupM (consM (opM fNeg (arg1 (cM (.int 1)))) (consM (varM 3) nilM))) (consM (tupM (consM (cM (.int 1)) (consM (varM 4) nilM))) nilM)))) (gT (gsCons (gN 9) (gsCons (gN 10) gsNil)))
    (forS (walkM (varM 10)) (gN 11)
    (seqS (setS 12 (opM fMod (arg2 (varM 11) (varM 1))))
    (seqS (augSubS 7 (varM 12) (fun a b => a + b) (varM 9))
    (augS 8 (fun a b => a + b) (opM fMul (arg2 (varM 9) (opM fAdd (arg2 (opM fIx (arg2 (opM fIx (arg2 (varM 6) (varM 12))) (cM (.int 0)))) (opM fIx (arg2 (varM 5) (varM 11))))))))))))
    (seqS (setS 13 (opM fZipL (consM (varM 7) (consM (callM p_rooms_of (consM (varM 6) nilM)) nilM))))
    (seqS (setS 14 (callM p_spare_of (consM (varM 6) (consM (opM fIx (arg2 (varM 0) (cM (.int 0)))) nilM))))
    (retS [] (tupM (consM (opM fAdd (arg2 (varM 8) (callM p_spare_weight (consM (opM fSortP (consM (varM 13) nilM)) (consM (varM 14) nilM))))) (consM (opM fAdd (arg2 (varM 8) (callM p_spare_weight (consM (opM fSortR (consM (varM 13) nilM)) (consM (varM 14) nilM))))) nilM)))))))))))
def p_range_between : List Pv.D → Option Pv.Rz := Pv.fnP 15 5 m_range_between
-- 0:sums 1:length 2:most 3:day
def m_ranges_of : Pv.SM :=
  (retS [] (compM (rng1 (opM fSub (arg2 (opM fAdd (arg2 (opM fLen (consM (varM 0) nilM)) (varM 1))) (cM (.int 1))))) (gN 3) yesT (callM p_range_between (consM (varM 0) (consM (varM 1) (consM (varM 2) (consM (lstM nilM) (consM (lstM (consM (varM 3) nilM)) nilM)))))) [3]))
def p_ranges_of : List Pv.D → Option Pv.Rz := Pv.fnP 4 3 m_ranges_of
-- 0:sums 1:length 2:most
def m_all_ranges : Pv.SM :=
  (seqS (exprS (callM p_check_told (consM (varM 0) (consM (varM 1) (consM (varM 2) nilM)))))
    (seqS (exprS (callM p_need_way (consM (varM 0) (consM (varM 1) (consM (varM 2) nilM)))))
    (retS [] (callM p_ranges_of (consM (varM 0) (consM (varM 1) (consM (varM 2) nilM)))))))
def p_all_ranges : List Pv.D → Option Pv.Rz := Pv.fnP 3 3 m_all_ranges
-- 0:sums 1:length 2:most 3:ranges 4:day 5:low 6:high
def m_certain_of : Pv.SM :=
  (seqS (setS 3 (callM p_ranges_of (consM (varM 0) (consM (varM 1) (consM (varM 2) nilM)))))
    (retS [] (compM (enumM (consM (varM 3) nilM)) (gT (gsCons (gN 4) (gsCons (gT (gsCons (gN 5) (gsCons (gN 6) gsNil))) gsNil))) (tstM (opM fEq (arg2 (varM 5) (varM 6)))) (tupM (consM (varM 4) (consM (varM 5) nilM))) [4, 5, 6])))
def p_certain_of : List Pv.D → Option Pv.Rz := Pv.fnP 7 3 m_certain_of
-- 0:sums 1:length 2:most
def m_certain_days : Pv.SM :=
  (seqS (exprS (callM p_check_told (consM (varM 0) (consM (varM 1) (consM (varM 2) nilM)))))
    (seqS (exprS (callM p_need_way (consM (varM 0) (consM (varM 1) (consM (varM 2) nilM)))))
    (retS [] (callM p_certain_of (consM (varM 0) (consM (varM 1) (consM (varM 2) nilM)))))))
def p_certain_days : List Pv.D → Option Pv.Rz := Pv.fnP 3 3 m_certain_days
-- 0:sums 1:length 2:most 3:low 4:high
def m_range_ahead : Pv.SM :=
  (seqS (asgS (callM p_range_between (consM (varM 0) (consM (varM 1) (consM (varM 2) (consM (lstM (consM (opM fSub (arg2 (opM fLen (consM (varM 0) nilM)) (cM (.int 1)))) nilM)) (consM (lstM nilM) nilM)))))) (gT (gsCons (gN 3) (gsCons (gN 4) gsNil))))
    (retS [] (tupM (consM (opM fAdd (arg2 (opM fIx (arg2 (varM 0) (opM fNeg (arg1 (cM (.int 1)))))) (varM 3))) (consM (opM fAdd (arg2 (opM fAdd (arg2 (opM fIx (arg2 (varM 0) (opM fNeg (arg1 (cM (.int 1)))))) (varM 4))) (varM 2))) nilM)))))
def p_range_ahead : List Pv.D → Option Pv.Rz := Pv.fnP 5 3 m_range_ahead
-- 0:sums 1:length 2:most
def m_next_range : Pv.SM :=
  (seqS (exprS (callM p_check_told (consM (varM 0) (consM (varM 1) (consM (varM 2) nilM)))))
    (seqS (exprS (callM p_need_way (consM (varM 0) (consM (varM 1) (consM (varM 2) nilM)))))
    (retS [] (callM p_range_ahead (consM (varM 0) (consM (varM 1) (consM (varM 2) nilM)))))))
def p_next_range : List Pv.D → Option Pv.Rz := Pv.fnP 3 3 m_next_range
-- 0:day 1:count
def m_check_day : Pv.SM :=
  (ifS (notT (tstM (callM p_is_within (consM (varM 0) (consM (cM (.int 0)) (consM (opM fSub (arg2 (varM 1) (cM (.int 1)))) nilM))))))
    neverS
    skipS)
def p_check_day : List Pv.D → Option Pv.Rz := Pv.fnP 2 2 m_check_day
-- 0:sums 1:length 2:most 3:day
def m_day_range : Pv.SM :=
  (seqS (exprS (callM p_check_told (consM (varM 0) (consM (varM 1) (consM (varM 2) nilM)))))
    (seqS (exprS (callM p_check_day (consM (varM 3) (consM (opM fSub (arg2 (opM fAdd (arg2 (opM fLen (consM (varM 0) nilM)) (varM 1))) (cM (.int 1)))) nilM))))
    (seqS (exprS (callM p_need_way (consM (varM 0) (consM (varM 1) (consM (varM 2) nilM)))))
    (retS [] (callM p_range_between (consM (varM 0) (consM (varM 1) (consM (varM 2) (consM (lstM nilM) (consM (lstM (consM (varM 3) nilM)) nilM))))))))))
def p_day_range : List Pv.D → Option Pv.Rz := Pv.fnP 4 4 m_day_range
-- 0:sums 1:length 2:most 3:first 4:second
def m_difference_range : Pv.SM :=
  (seqS (exprS (callM p_check_told (consM (varM 0) (consM (varM 1) (consM (varM 2) nilM)))))
    (seqS (exprS (callM p_check_day (consM (varM 3) (consM (opM fSub (arg2 (opM fAdd (arg2 (opM fLen (consM (varM 0) nilM)) (varM 1))) (cM (.int 1)))) nilM))))
    (seqS (exprS (callM p_check_day (consM (varM 4) (consM (opM fSub (arg2 (opM fAdd (arg2 (opM fLen (consM (varM 0) nilM)) (varM 1))) (cM (.int 1)))) nilM))))
    (seqS (exprS (callM p_need_way (consM (varM 0) (consM (varM 1) (consM (varM 2) nilM)))))
    (retS [] (callM p_range_between (consM (varM 0) (consM (varM 1) (consM (varM 2) (consM (lstM (consM (varM 3) nilM)) (consM (lstM (consM (varM 4) nilM)) nilM)))))))))))
def p_difference_range : List Pv.D → Option Pv.Rz := Pv.fnP 5 5 m_difference_range
-- 0:first 1:beyond 2:count
def m_check_row : Pv.SM :=
  (seqS (ifS (notT (tstM (callM p_is_within (consM (varM 0) (consM (cM (.int 0)) (consM (varM 2) nilM))))))
    neverS
    skipS)
    (ifS (notT (tstM (callM p_is_within (consM (varM 1) (consM (varM 0) (consM (varM 2) nilM))))))
    neverS
    skipS))
def p_check_row : List Pv.D → Option Pv.Rz := Pv.fnP 3 3 m_check_row
-- 0:sums 1:length 2:most 3:first 4:beyond
def m_row_range : Pv.SM :=
  (seqS (exprS (callM p_check_told (consM (varM 0) (consM (varM 1) (consM (varM 2) nilM)))))
    (seqS (exprS (callM p_check_row (consM (varM 3) (consM (varM 4) (consM (opM fSub (arg2 (opM fAdd (arg2 (opM fLen (consM (varM 0) nilM)) (varM 1))) (cM (.int 1)))) nilM)))))
    (seqS (exprS (callM p_need_way (consM (varM 0) (consM (varM 1) (consM (varM 2) nilM)))))
    (retS [] (callM p_range_between (consM (varM 0) (consM (varM 1) (consM (varM 2) (consM (lstM nilM) (consM (lrg2 (varM 3) (varM 4)) nilM))))))))))
def p_row_range : List Pv.D → Option Pv.Rz := Pv.fnP 5 5 m_row_range
-- 0:thing 1:count 2:low 3:high 4:item
def m_is_row_within : Pv.SM :=
  (seqS (ifS (orT (tstM (opM (fNotTy "list") (arg1 (varM 0)))) (tstM (opM fNe (arg2 (opM fLen (consM (varM 0) nilM)) (varM 1)))))
    (retS [] (cM (.bool false)))
    skipS)
    (retS [] (opM (fB1 fun bs => bs.all id) (consM (compM (walkM (varM 0)) (gN 4) yesT (callM p_is_within (consM (varM 4) (consM (varM 2) (consM (varM 3) nilM)))) [4]) nilM))))
def p_is_row_within : List Pv.D → Option Pv.Rz := Pv.fnP 5 4 m_is_row_within
-- 0:days 1:count
def m_check_different : Pv.SM :=
  (seqS (ifS (orT (tstM (opM (fNotTy "list") (arg1 (varM 0)))) (notT (tstM (callM p_is_row_within (consM (varM 0) (consM (opM fLen (consM (varM 0) nilM)) (consM (cM (.int 0)) (consM (opM fSub (arg2 (varM 1) (cM (.int 1)))) nilM))))))))
    neverS
    skipS)
    (ifS (tstM (opM fNe (arg2 (opM fLenSet (arg1 (varM 0))) (opM fLen (consM (varM 0) nilM)))))
    neverS
    skipS))
def p_check_different : List Pv.D → Option Pv.Rz := Pv.fnP 2 2 m_check_different
-- 0:sums 1:length 2:most 3:days
def m_total_range : Pv.SM :=
  (seqS (exprS (callM p_check_told (consM (varM 0) (consM (varM 1) (consM (varM 2) nilM)))))
    (seqS (exprS (callM p_check_different (consM (varM 3) (consM (opM fSub (arg2 (opM fAdd (arg2 (opM fLen (consM (varM 0) nilM)) (varM 1))) (cM (.int 1)))) nilM))))
    (seqS (exprS (callM p_need_way (consM (varM 0) (consM (varM 1) (consM (varM 2) nilM)))))
    (retS [] (callM p_range_between (consM (varM 0) (consM (varM 1) (consM (varM 2) (consM (lstM nilM) (consM (varM 3) nilM))))))))))
def p_total_range : List Pv.D → Option Pv.Rz := Pv.fnP 4 4 m_total_range
-- 0:sums 1:length
def m_days_of : Pv.SM :=
  (seqS (exprS (callM p_check_sums (consM (varM 0) (consM (varM 1) nilM))))
    (retS [] (opM fSub (arg2 (opM fAdd (arg2 (opM fLen (consM (varM 0) nilM)) (varM 1))) (cM (.int 1))))))
def p_days_of : List Pv.D → Option Pv.Rz := Pv.fnP 2 2 m_days_of
-- 0:thing 1:length 2:count 3:day
def m_is_choice : Pv.SM :=
  (seqS (ifS (notT (tstM (callM p_is_row_within (consM (varM 0) (consM (varM 1) (consM (cM (.int 0)) (consM (opM fSub (arg2 (varM 2) (cM (.int 1)))) nilM)))))))
    (retS [] (cM (.bool false)))
    skipS)
    (retS [] (opM fEq (arg2 (opM fSorted (consM (compM (walkM (varM 0)) (gN 3) yesT (opM fMod (arg2 (varM 3) (varM 1))) [3]) nilM)) (lrg1 (varM 1))))))
def p_is_choice : List Pv.D → Option Pv.Rz := Pv.fnP 4 3 m_is_choice
-- 0:days 1:length 2:count
def m_check_choice : Pv.SM :=
  (ifS (notT (tstM (callM p_is_choice (consM (varM 0) (consM (varM 1) (consM (varM 2) nilM))))))
    neverS
    skipS)
def p_check_choice : List Pv.D → Option Pv.Rz := Pv.fnP 3 3 m_check_choice
-- 0:sums 1:length 2:days
def m_forced_total : Pv.SM :=
  (seqS (exprS (callM p_check_choice (consM (varM 2) (consM (varM 1) (consM (callM p_days_of (consM (varM 0) (consM (varM 1) nilM))) nilM)))))
    (retS [] (callM p_total_at (consM (varM 0) (consM (callM p_offsets_of (consM (varM 0) (consM (varM 1) nilM))) (consM (varM 2) nilM))))))
def p_forced_total : List Pv.D → Option Pv.Rz := Pv.fnP 3 3 m_forced_total
-- 0:first 1:second 2:length
def m_are_tied : Pv.SM :=
  (retS [] (opM fEq (arg2 (opM fMod (arg2 (opM fSub (arg2 (varM 1) (varM 0))) (varM 2))) (cM (.int 0)))))
def p_are_tied : List Pv.D → Option Pv.Rz := Pv.fnP 3 3 m_are_tied
-- 0:sums 1:length 2:first 3:second 4:count 5:offsets
def m_tie_between : Pv.SM :=
  (seqS (setS 4 (callM p_days_of (consM (varM 0) (consM (varM 1) nilM))))
    (seqS (exprS (callM p_check_day (consM (varM 2) (consM (varM 4) nilM))))
    (seqS (exprS (callM p_check_day (consM (varM 3) (consM (varM 4) nilM))))
    (seqS (ifS (notT (tstM (callM p_are_tied (consM (varM 2) (consM (varM 3) (consM (varM 1) nilM))))))
    (retS [] (cM .none))
    skipS)
    (seqS (setS 5 (callM p_offsets_of (consM (varM 0) (consM (varM 1) nilM))))
    (retS [] (opM fSub (arg2 (opM fIx (arg2 (varM 5) (varM 3))) (opM fIx (arg2 (varM 5) (varM 2)))))))))))
def p_tie_between : List Pv.D → Option Pv.Rz := Pv.fnP 6 4 m_tie_between
-- 0:sums 1:length 2:day 3:count
def m_tied_days : Pv.SM :=
  (seqS (setS 3 (callM p_days_of (consM (varM 0) (consM (varM 1) nilM))))
    (seqS (exprS (callM p_check_day (consM (varM 2) (consM (varM 3) nilM))))
    (retS [] (lrg3 (opM fMod (arg2 (varM 2) (varM 1))) (varM 3) (varM 1)))))
def p_tied_days : List Pv.D → Option Pv.Rz := Pv.fnP 4 3 m_tied_days
-- 0:sums 1:length 2:most 3:thing
def m_is_way : Pv.SM :=
  (seqS (exprS (callM p_check_told (consM (varM 0) (consM (varM 1) (consM (varM 2) nilM)))))
    (retS [] (andE (callM p_is_row_within (consM (varM 3) (consM (opM fSub (arg2 (opM fAdd (arg2 (opM fLen (consM (varM 0) nilM)) (varM 1))) (cM (.int 1)))) (consM (cM (.int 0)) (consM (varM 2) nilM))))) (opM fEq (arg2 (callM p_row_sums (consM (varM 3) (consM (varM 1) nilM))) (varM 0))))))
def p_is_way : List Pv.D → Option Pv.Rz := Pv.fnP 4 4 m_is_way
-- 0:sums 1:length 2:most
def m_least_way : Pv.SM :=
  (seqS (exprS (callM p_check_told (consM (varM 0) (consM (varM 1) (consM (varM 2) nilM)))))
    (seqS (exprS (callM p_need_way (consM (varM 0) (consM (varM 1) (consM (varM 2) nilM)))))
    (retS [] (callM p_first_way (consM (varM 0) (consM (varM 1) (consM (varM 2) nilM)))))))
def p_least_way : List Pv.D → Option Pv.Rz := Pv.fnP 3 3 m_least_way
-- 0:sums 1:length 2:most 3:offsets 4:ranges 5:starts 6:low 7:high 8:start
def m_greatest_way : Pv.SM :=
  (seqS (exprS (callM p_check_told (consM (varM 0) (consM (varM 1) (consM (varM 2) nilM)))))
    (seqS (exprS (callM p_need_way (consM (varM 0) (consM (varM 1) (consM (varM 2) nilM)))))
    (seqS (setS 3 (callM p_offsets_of (consM (varM 0) (consM (varM 1) nilM))))
    (seqS (setS 4 (compM (walkM (callM p_start_ranges (consM (varM 3) (consM (varM 1) (consM (varM 2) nilM))))) (gT (gsCons (gN 6) (gsCons (gN 7) gsNil))) yesT (tupM (consM (opM fNeg (arg1 (varM 7))) (consM (opM fNeg (arg1 (varM 6))) nilM))) [6, 7]))
    (seqS (setS 5 (compM (walkM (callM p_least_starts (consM (varM 4) (consM (opM fNeg (arg1 (opM fIx (arg2 (varM 0) (cM (.int 0)))))) nilM)))) (gN 8) yesT (opM fNeg (arg1 (varM 8))) [8]))
    (retS [] (callM p_way_from (consM (varM 5) (consM (varM 3) nilM)))))))))
def p_greatest_way : List Pv.D → Option Pv.Rz := Pv.fnP 9 3 m_greatest_way
-- 0:sums 1:length 2:most
def m_conflict_of : Pv.SM :=
  (seqS (exprS (callM p_check_told (consM (varM 0) (consM (varM 1) (consM (varM 2) nilM)))))
    (retS [] (callM p_find_conflict (consM (varM 0) (consM (varM 1) (consM (varM 2) nilM))))))
def p_conflict_of : List Pv.D → Option Pv.Rz := Pv.fnP 3 3 m_conflict_of
-- 0:rooms 1:total 2:terms 3:room 4:others 5:sign 6:left
def m_count_fillings : Pv.SM :=
  (seqS (setS 2 (lstM (consM (tupM (consM (cM (.int 1)) (consM (varM 1) nilM))) nilM)))
    (seqS (forS (walkM (varM 0)) (gN 3)
    (setS 2 (opM fCat (arg2 (varM 2) (compM (walkM (varM 2)) (gT (gsCons (gN 5) (gsCons (gN 6) gsNil))) yesT (tupM (consM (opM fNeg (arg1 (varM 5))) (consM (opM fSub (arg2 (opM fSub (arg2 (varM 6) (varM 3))) (cM (.int 1)))) nilM))) [5, 6])))))
    (seqS (setS 4 (opM fSub (arg2 (opM fLen (consM (varM 0) nilM)) (cM (.int 1)))))
    (retS [] (opM fSum (consM (compM (walkM (varM 2)) (gT (gsCons (gN 5) (gsCons (gN 6) gsNil))) (tstM (opM fGe (arg2 (varM 6) (cM (.int 0))))) (opM fMul (arg2 (varM 5) (opM fComb (consM (opM fAdd (arg2 (varM 6) (varM 4))) (consM (varM 4) nilM))))) [5, 6]) nilM))))))
def p_count_fillings : List Pv.D → Option Pv.Rz := Pv.fnP 7 2 m_count_fillings
-- 0:sums 1:length 2:most 3:ranges
def m_count_of : Pv.SM :=
  (seqS (setS 3 (callM p_start_ranges (consM (callM p_offsets_of (consM (varM 0) (consM (varM 1) nilM))) (consM (varM 1) (consM (varM 2) nilM)))))
    (retS [] (callM p_count_fillings (consM (callM p_rooms_of (consM (varM 3) nilM)) (consM (callM p_spare_of (consM (varM 3) (consM (opM fIx (arg2 (varM 0) (cM (.int 0)))) nilM))) nilM)))))
def p_count_of : List Pv.D → Option Pv.Rz := Pv.fnP 4 3 m_count_of
-- 0:sums 1:length 2:most
def m_count_ways : Pv.SM :=
  (seqS (exprS (callM p_check_told (consM (varM 0) (consM (varM 1) (consM (varM 2) nilM)))))
    (seqS (ifS (tstM (opM fNotN (arg2 (callM p_find_conflict (consM (varM 0) (consM (varM 1) (consM (varM 2) nilM)))) (cM .none))))
    (retS [] (cM (.int 0)))
    skipS)
    (retS [] (callM p_count_of (consM (varM 0) (consM (varM 1) (consM (varM 2) nilM)))))))
def p_count_ways : List Pv.D → Option Pv.Rz := Pv.fnP 3 3 m_count_ways
-- 0:rooms 1:total 2:number
def m_count_ahead : Pv.SM :=
  (retS [] (callM p_count_fillings (consM (opM fCat (arg2 (lstM (consM (opM fSub (arg2 (varM 2) (cM (.int 1)))) nilM)) (slM (varM 0) (partM (cM (.int 1))) noM))) (consM (varM 1) nilM))))
def p_count_ahead : List Pv.D → Option Pv.Rz := Pv.fnP 3 3 m_count_ahead
-- 0:rooms 1:total 2:index 3:low 4:high 5:middle
def m_greatest_start : Pv.SM :=
  (seqS (setS 3 (cM (.int 0)))
    (seqS (setS 4 (opM fIx (arg2 (varM 0) (cM (.int 0)))))
    (seqS (whileS (tstM (opM fLt (arg2 (varM 3) (varM 4))))
    (seqS (setS 5 (opM fDiv (arg2 (opM fAdd (arg2 (opM fAdd (arg2 (varM 3) (varM 4))) (cM (.int 1)))) (cM (.int 2)))))
    (ifS (tstM (opM fLe (arg2 (callM p_count_ahead (consM (varM 0) (consM (varM 1) (consM (varM 5) nilM)))) (varM 2))))
    (setS 3 (varM 5))
    (setS 4 (opM fSub (arg2 (varM 5) (cM (.int 1))))))))
    (retS [] (varM 3)))))
def p_greatest_start : List Pv.D → Option Pv.Rz := Pv.fnP 6 3 m_greatest_start
-- 0:rooms 1:total 2:index 3:filling 4:at 5:number
def m_nth_filling : Pv.SM :=
  (seqS (setS 3 (lstM nilM))
    (seqS (forS (rng1 (opM fLen (consM (varM 0) nilM))) (gN 4)
    (seqS (setS 5 (callM p_greatest_start (consM (slM (varM 0) (partM (varM 4)) noM) (consM (varM 1) (consM (varM 2) nilM)))))
    (seqS (augS 2 (fun a b => a - b) (callM p_count_ahead (consM (slM (varM 0) (partM (varM 4)) noM) (consM (varM 1) (consM (varM 5) nilM)))))
    (seqS (augS 1 (fun a b => a - b) (varM 5))
    (exprS (appE 3 (varM 5)))))))
    (retS [] (varM 3))))
def p_nth_filling : List Pv.D → Option Pv.Rz := Pv.fnP 6 3 m_nth_filling
-- 0:rooms 1:total 2:filling 3:index 4:at 5:number
def m_filling_index : Pv.SM :=
  (seqS (setS 3 (cM (.int 0)))
    (seqS (forS (enumM (consM (varM 2) nilM)) (gT (gsCons (gN 4) (gsCons (gN 5) gsNil)))
    (seqS (augS 3 (fun a b => a + b) (callM p_count_ahead (consM (slM (varM 0) (partM (varM 4)) noM) (consM (varM 1) (consM (varM 5) nilM)))))
    (augS 1 (fun a b => a - b) (varM 5))))
    (retS [] (varM 3))))
def p_filling_index : List Pv.D → Option Pv.Rz := Pv.fnP 6 3 m_filling_index
-- 0:index
def m_check_index : Pv.SM :=
  (ifS (orT (notT (tstM (callM p_is_integer (consM (varM 0) nilM)))) (tstM (opM fLt (arg2 (varM 0) (cM (.int 0))))))
    neverS
    skipS)
def p_check_index : List Pv.D → Option Pv.Rz := Pv.fnP 1 1 m_check_index
-- 0:number
def m_check_number : Pv.SM :=
  (ifS (notT (tstM (callM p_is_integer (consM (varM 0) nilM))))
    neverS
    skipS)
def p_check_number : List Pv.D → Option Pv.Rz := Pv.fnP 1 1 m_check_number
-- 0:sums 1:length 2:most 3:day 4:number 5:offsets 6:ranges 7:first 8:low 9:high
def m_count_with : Pv.SM :=
  (seqS (exprS (callM p_check_told (consM (varM 0) (consM (varM 1) (consM (varM 2) nilM)))))
    (seqS (exprS (callM p_check_day (consM (varM 3) (consM (opM fSub (arg2 (opM fAdd (arg2 (opM fLen (consM (varM 0) nilM)) (varM 1))) (cM (.int 1)))) nilM))))
    (seqS (exprS (callM p_check_number (consM (varM 4) nilM)))
    (seqS (ifS (tstM (opM fNotN (arg2 (callM p_find_conflict (consM (varM 0) (consM (varM 1) (consM (varM 2) nilM)))) (cM .none))))
    (retS [] (cM (.int 0)))
    skipS)
    (seqS (setS 5 (callM p_offsets_of (consM (varM 0) (consM (varM 1) nilM))))
    (seqS (setS 6 (callM p_start_ranges (consM (varM 5) (consM (varM 1) (consM (varM 2) nilM)))))
    (seqS (setS 7 (opM fSub (arg2 (varM 4) (opM fIx (arg2 (varM 5) (varM 3))))))
    (seqS (asgS (opM fIx (arg2 (varM 6) (opM fMod (arg2 (varM 3) (varM 1))))) (gT (gsCons (gN 8) (gsCons (gN 9) gsNil))))
    (seqS (ifS (notT (tstM (callM p_is_within (consM (varM 7) (consM (varM 8) (consM (varM 9) nilM))))))
    (retS [] (cM (.int 0)))
    skipS)
    (seqS (subS 6 (opM fMod (arg2 (varM 3) (varM 1))) (tupM (consM (varM 7) (consM (varM 7) nilM))))
    (retS [] (callM p_count_fillings (consM (callM p_rooms_of (consM (varM 6) nilM)) (consM (callM p_spare_of (consM (varM 6) (consM (opM fIx (arg2 (varM 0) (cM (.int 0)))) nilM))) nilM))))))))))))))
def p_count_with : List Pv.D → Option Pv.Rz := Pv.fnP 10 5 m_count_with
-- 0:sums 1:length 2:most 3:index 4:offsets 5:ranges 6:filling 7:more 8:low 9:_
def m_nth_way : Pv.SM :=
  (seqS (exprS (callM p_check_told (consM (varM 0) (consM (varM 1) (consM (varM 2) nilM)))))
    (seqS (exprS (callM p_check_index (consM (varM 3) nilM)))
    (seqS (exprS (callM p_need_way (consM (varM 0) (consM (varM 1) (consM (varM 2) nilM)))))
    (seqS (ifS (tstM (opM fGe (arg2 (varM 3) (callM p_count_of (consM (varM 0) (consM (varM 1) (consM (varM 2) nilM)))))))
    neverS
    skipS)
    (seqS (setS 4 (callM p_offsets_of (consM (varM 0) (consM (varM 1) nilM))))
    (seqS (setS 5 (callM p_start_ranges (consM (varM 4) (consM (varM 1) (consM (varM 2) nilM)))))
    (seqS (setS 6 (callM p_nth_filling (consM (callM p_rooms_of (consM (varM 5) nilM)) (consM (callM p_spare_of (consM (varM 5) (consM (opM fIx (arg2 (varM 0) (cM (.int 0)))) nilM))) (consM (varM 3) nilM)))))
    (retS [] (callM p_way_from (consM (compM (zipM (consM (varM 5) (consM (varM 6) nilM))) (gT (gsCons (gT (gsCons (gN 8) (gsCons (gN 9) gsNil))) (gsCons (gN 7) gsNil))) yesT (opM fAdd (arg2 (varM 8) (varM 7))) [7, 8, 9]) (consM (varM 4) nilM)))))))))))
def p_nth_way : List Pv.D → Option Pv.Rz := Pv.fnP 10 4 m_nth_way
-- 0:sums 1:length 2:most 3:way 4:ranges 5:filling 6:number 7:low 8:_
def m_way_index : Pv.SM :=
  (seqS (exprS (callM p_check_told (consM (varM 0) (consM (varM 1) (consM (varM 2) nilM)))))
    (seqS (exprS (callM p_need_way (consM (varM 0) (consM (varM 1) (consM (varM 2) nilM)))))
    (seqS (ifS (notT (tstM (callM p_is_way (consM (varM 0) (consM (varM 1) (consM (varM 2) (consM (varM 3) nilM)))))))
    neverS
    skipS)
    (seqS (setS 4 (callM p_start_ranges (consM (callM p_offsets_of (consM (varM 0) (consM (varM 1) nilM))) (consM (varM 1) (consM (varM 2) nilM)))))
    (seqS (setS 5 (compM (zipM (consM (varM 3) (consM (varM 4) nilM))) (gT (gsCons (gN 6) (gsCons (gT (gsCons (gN 7) (gsCons (gN 8) gsNil))) gsNil))) yesT (opM fSub (arg2 (varM 6) (varM 7))) [6, 7, 8]))
    (retS [] (callM p_filling_index (consM (callM p_rooms_of (consM (varM 4) nilM)) (consM (callM p_spare_of (consM (varM 4) (consM (opM fIx (arg2 (varM 0) (cM (.int 0)))) nilM))) (consM (varM 5) nilM))))))))))
def p_way_index : List Pv.D → Option Pv.Rz := Pv.fnP 9 4 m_way_index
-- 0:sums 1:length 2:most 3:offsets 4:between
def m_least_spread : Pv.SM :=
  (seqS (exprS (callM p_check_told (consM (varM 0) (consM (varM 1) (consM (varM 2) nilM)))))
    (seqS (exprS (callM p_need_way (consM (varM 0) (consM (varM 1) (consM (varM 2) nilM)))))
    (seqS (setS 3 (callM p_offsets_of (consM (varM 0) (consM (varM 1) nilM))))
    (seqS (setS 4 (opM fSub (arg2 (callM p_least_high (consM (varM 0) (consM (varM 3) (consM (varM 1) nilM)))) (callM p_greatest_low (consM (varM 0) (consM (varM 3) (consM (varM 1) nilM)))))))
    (retS [] (opM fMax2 (consM (callM p_widest_tie (consM (varM 3) (consM (varM 1) nilM))) (consM (varM 4) nilM))))))))
def p_least_spread : List Pv.D → Option Pv.Rz := Pv.fnP 5 3 m_least_spread
-- 0:jar 1:size 2:top
def m__law_small : Pv.SM :=
  (seqS (setS 1 (opM fAdd (arg2 (cM (.int 1)) (callJM p__law_dip (consM (varM 0) (consM (cM (.int 4)) nilM))))))
    (seqS (setS 2 (callJM p__law_dip (consM (varM 0) (consM (opM fIx (arg2 (lstM (consM (cM (.int 9)) (consM (cM (.int 7)) (consM (cM (.int 5)) (consM (cM (.int 4)) nilM))))) (opM fSub (arg2 (varM 1) (cM (.int 1)))))) nilM))))
    (retS [0] (tupM (consM (varM 1) (consM (varM 2) (consM (opM fAdd (arg2 (varM 1) (callJM p__law_dip (consM (varM 0) (consM (cM (.int 7)) nilM))))) nilM)))))))
def p__law_small : List Pv.D → List Pv.D → Option (Pv.Rz × List Pv.D) := Pv.fnJ 3 1 m__law_small
-- 0:sums_here 1:size 2:top 3:found 4:day_here 5:longer 6:one 7:part 8:begin 9:left
def m__law_all : Pv.SM :=
  (seqS (setS 3 (lstM (consM (lstM nilM) nilM)))
    (seqS (forS (rng1 (opM fSub (arg2 (opM fAdd (arg2 (opM fLen (consM (varM 0) nilM)) (varM 1))) (cM (.int 1))))) (gN 4)
    (seqS (setS 5 (lstM nilM))
    (seqS (forS (walkM (varM 3)) (gN 6)
    (ifS (tstM (opM fLt (arg2 (varM 4) (opM fSub (arg2 (varM 1) (cM (.int 1)))))))
    (forS (rng1 (opM fAdd (arg2 (varM 2) (cM (.int 1))))) (gN 7)
    (exprS (appE 5 (opM fCat (arg2 (varM 6) (lstM (consM (varM 7) nilM)))))))
    (seqS (setS 8 (opM fAdd (arg2 (opM fSub (arg2 (varM 4) (varM 1))) (cM (.int 1)))))
    (seqS (setS 9 (opM fSub (arg2 (opM fIx (arg2 (varM 0) (varM 8))) (opM fSum (consM (slM (varM 6) (partM (varM 8)) noM) nilM)))))
    (ifS (tstM (chM (fun i j => decide (i ≤ j)) (fun i j => decide (i ≤ j)) (cM (.int 0)) (varM 9) (varM 2)))
    (exprS (appE 5 (opM fCat (arg2 (varM 6) (lstM (consM (varM 9) nilM))))))
    skipS)))))
    (setS 3 (varM 5)))))
    (retS [] (varM 3))))
def p__law_all : List Pv.D → Option Pv.Rz := Pv.fnP 10 3 m__law_all
-- 0:offsets 1:length 2:most 3:thing 4:first 5:second
def m_are_apart : Pv.SM :=
  (seqS (ifS (notT (tstM (callM p_is_row_within (consM (varM 3) (consM (cM (.int 2)) (consM (cM (.int 0)) (consM (opM fSub (arg2 (opM fLen (consM (varM 0) nilM)) (cM (.int 1)))) nilM)))))))
    (retS [] (cM (.bool false)))
    skipS)
    (seqS (asgS (varM 3) (gL (gsCons (gN 4) (gsCons (gN 5) gsNil))))
    (retS [] (andE (callM p_are_tied (consM (varM 4) (consM (varM 5) (consM (varM 1) nilM)))) (opM fGt (arg2 (opM fAbs (consM (opM fSub (arg2 (opM fIx (arg2 (varM 0) (varM 5))) (opM fIx (arg2 (varM 0) (varM 4))))) nilM)) (varM 2)))))))
def p_are_apart : List Pv.D → Option Pv.Rz := Pv.fnP 6 4 m_are_apart
-- 0:sums 1:length 2:most 3:thing 4:word 5:days 6:offsets
def m_shows_conflict : Pv.SM :=
  (seqS (exprS (callM p_check_told (consM (varM 0) (consM (varM 1) (consM (varM 2) nilM)))))
    (seqS (ifS (orT (tstM (opM (fNotTy "tuple") (arg1 (varM 3)))) (tstM (opM fNe (arg2 (opM fLen (consM (varM 3) nilM)) (cM (.int 2))))))
    (retS [] (cM (.bool false)))
    skipS)
    (seqS (asgS (varM 3) (gT (gsCons (gN 4) (gsCons (gN 5) gsNil))))
    (seqS (setS 6 (callM p_offsets_of (consM (varM 0) (consM (varM 1) nilM))))
    (seqS (ifS (tstM (opM fEqS (arg2 (varM 4) (cM (.str "apart")))))
    (retS [] (callM p_are_apart (consM (varM 6) (consM (varM 1) (consM (varM 2) (consM (varM 5) nilM))))))
    skipS)
    (seqS (ifS (tstM (opM fEqS (arg2 (varM 4) (cM (.str "low")))))
    (retS [] (andE (callM p_is_choice (consM (varM 5) (consM (varM 1) (consM (opM fLen (consM (varM 6) nilM)) nilM)))) (opM fLt (arg2 (callM p_total_at (consM (varM 0) (consM (varM 6) (consM (varM 5) nilM)))) (cM (.int 0))))))
    skipS)
    (seqS (ifS (tstM (opM fEqS (arg2 (varM 4) (cM (.str "high")))))
    (retS [] (andE (callM p_is_choice (consM (varM 5) (consM (varM 1) (consM (opM fLen (consM (varM 6) nilM)) nilM)))) (opM fGt (arg2 (callM p_total_at (consM (varM 0) (consM (varM 6) (consM (varM 5) nilM)))) (opM fMul (arg2 (varM 1) (varM 2)))))))
    skipS)
    (retS [] (cM (.bool false))))))))))
def p_shows_conflict : List Pv.D → Option Pv.Rz := Pv.fnP 7 4 m_shows_conflict
-- 0:sums 1:length 2:most 3:offsets 4:pair
def m_peak_paper : Pv.SM :=
  (seqS (exprS (callM p_check_told (consM (varM 0) (consM (varM 1) (consM (varM 2) nilM)))))
    (seqS (exprS (callM p_need_way (consM (varM 0) (consM (varM 1) (consM (varM 2) nilM)))))
    (seqS (setS 3 (callM p_offsets_of (consM (varM 0) (consM (varM 1) nilM))))
    (seqS (setS 4 (callM p_first_apart (consM (varM 3) (consM (varM 1) (consM (opM fSub (arg2 (callM p_peak_of (consM (varM 0) (consM (varM 1) nilM))) (cM (.int 1)))) nilM)))))
    (seqS (ifS (tstM (opM fNotN (arg2 (varM 4) (cM .none))))
    (retS [] (tupM (consM (cM (.str "apart")) (consM (varM 4) nilM))))
    skipS)
    (retS [] (tupM (consM (cM (.str "high")) (consM (callM p_highest_days (consM (varM 3) (consM (varM 1) nilM))) nilM)))))))))
def p_peak_paper : List Pv.D → Option Pv.Rz := Pv.fnP 5 3 m_peak_paper
-- 0:jar 1:sums_here 2:top 3:size 4:found 5:spot 6:one 7:more
def m__law_bent : Pv.SM :=
  (seqS (setS 4 (opM fList (consM (varM 1) nilM)))
    (seqS (ifS (tstM (opM fEq (arg2 (callJM p__law_dip (consM (varM 0) (consM (cM (.int 3)) nilM))) (cM (.int 0)))))
    (seqS (setS 5 (callJM p__law_dip (consM (varM 0) (consM (opM fLen (consM (varM 4) nilM)) nilM))))
    (seqS (setS 6 (opM fIx (arg2 (varM 4) (varM 5))))
    (seqS (setS 7 (lstM (consM (opM fAdd (arg2 (varM 6) (cM (.int 1)))) (consM (opM fSub (arg2 (varM 6) (cM (.int 1)))) (consM (opM fAdd (arg2 (opM fAdd (arg2 (varM 6) (varM 2))) (cM (.int 1)))) (consM (opM fSub (arg2 (opM fMul (arg2 (varM 3) (varM 2))) (varM 6))) nilM))))))
    (subS 4 (varM 5) (opM fIx (arg2 (varM 7) (callJM p__law_dip (consM (varM 0) (consM (cM (.int 4)) nilM)))))))))
    skipS)
    (retS [0] (varM 4))))
def p__law_bent : List Pv.D → List Pv.D → Option (Pv.Rz × List Pv.D) := Pv.fnJ 8 4 m__law_bent
end
end Lib

set_option Elab.async false
set_option linter.all false
set_option maxRecDepth 100000
set_option maxHeartbeats 4000000
namespace K14
open PySem PySem.Spec PyProof.Rows L2 Ws Pv
noncomputable section
-- 0:gaps 1:size 2:sign 3:found 4:rest 5:best 6:one
def m__law_ends : Pv.SM :=
  (seqS (setS 3 (lstM nilM))
    (seqS (forS (rng1 (varM 1)) (gN 4)
    (seqS (setS 5 (varM 4))
    (seqS (forS (rng3 (varM 4) (opM fLen (consM (varM 0) nilM)) (varM 1)) (gN 6)
    (ifS (tstM (opM fGt (arg2 (opM fMul (arg2 (varM 2) (opM fIx (arg2 (varM 0) (varM 6))))) (opM fMul (arg2 (varM 2) (opM fIx (arg2 (varM 0) (varM 5))))))))
    (setS 5 (varM 6))
    skipS))
    (exprS (appE 3 (varM 5))))))
    (retS [] (opM fSorted (consM (varM 3) nilM)))))
def p__law_ends : List Pv.D → Option Pv.Rz := Pv.fnP 7 3 m__law_ends
-- 0:sums_here 1:size 2:top 3:gaps 4:wide 5:pair_here 6:one 7:two 8:high_days 9:low_days 10:high 11:low 12:peak 13:paper
def m__law_due : Pv.SM :=
  (seqS (parS [3, 4, 5] (consM (callM Lib.p__law_gaps (consM (varM 0) (consM (varM 1) nilM))) (consM (cM (.int 0)) (consM (cM .none) nilM))))
    (seqS (forS (rng1 (opM fLen (consM (varM 3) nilM))) (gN 6)
    (forS (rng3 (opM fAdd (arg2 (varM 6) (varM 1))) (opM fLen (consM (varM 3) nilM)) (varM 1)) (gN 7)
    (setS 4 (opM fMax2 (consM (varM 4) (consM (opM fAbs (consM (opM fSub (arg2 (opM fIx (arg2 (varM 3) (varM 7))) (opM fIx (arg2 (varM 3) (varM 6))))) nilM)) nilM))))))
    (seqS (parS [8, 9] (consM (callM p__law_ends (consM (varM 3) (consM (varM 1) (consM (cM (.int 1)) nilM)))) (consM (callM p__law_ends (consM (varM 3) (consM (varM 1) (consM (opM fNeg (arg1 (cM (.int 1)))) nilM)))) nilM)))
    (seqS (setS 10 (opM fDiv (arg2 (opM fSub (arg2 (opM fAdd (arg2 (opM fAdd (arg2 (opM fIx (arg2 (varM 0) (cM (.int 0)))) (opM fSum (consM (compM (walkM (varM 8)) (gN 6) yesT (opM fIx (arg2 (varM 3) (varM 6))) [6]) nilM)))) (varM 1))) (cM (.int 1)))) (varM 1))))
    (seqS (setS 11 (opM fDiv (arg2 (opM fAdd (arg2 (opM fIx (arg2 (varM 0) (cM (.int 0)))) (opM fSum (consM (compM (walkM (varM 9)) (gN 6) yesT (opM fIx (arg2 (varM 3) (varM 6))) [6]) nilM)))) (varM 1))))
    (seqS (setS 12 (opM fMax2 (consM (varM 4) (consM (varM 10) nilM))))
    (seqS (forS (rng1 (opM fLen (consM (varM 3) nilM))) (gN 6)
    (forS (rng3 (opM fAdd (arg2 (varM 6) (varM 1))) (opM fLen (consM (varM 3) nilM)) (varM 1)) (gN 7)
    (ifS (andT (tstM (opM fIsN (arg2 (varM 5) (cM .none)))) (tstM (opM fEq (arg2 (opM fAbs (consM (opM fSub (arg2 (opM fIx (arg2 (varM 3) (varM 7))) (opM fIx (arg2 (varM 3) (varM 6))))) nilM)) (varM 12)))))
    (setS 5 (lstM (consM (varM 6) (consM (varM 7) nilM))))
    skipS)))
    (seqS (setS 13 (ifE (tstM (opM fIsN (arg2 (varM 5) (cM .none)))) (tupM (consM (cM (.str "high")) (consM (varM 8) nilM))) (tupM (consM (cM (.str "apart")) (consM (varM 5) nilM)))))
    (retS [] (lstM (consM (varM 12) (consM (opM fMin2 (consM (opM fSub (arg2 (varM 2) (varM 4))) (consM (varM 11) nilM))) (consM (opM fMax2 (consM (varM 4) (consM (opM fSub (arg2 (varM 10) (varM 11))) nilM))) (consM (varM 13) nilM))))))))))))))
def p__law_due : List Pv.D → Option Pv.Rz := Pv.fnP 14 3 m__law_due
-- 0:sums 1:length 2:most 3:offsets 4:pair
def m_peak_paper : Pv.SM :=
  (seqS (exprS (callM Lib.p_check_told (consM (varM 0) (consM (varM 1) (consM (varM 2) nilM)))))
    (seqS (exprS (callM Lib.p_need_way (consM (varM 0) (consM (varM 1) (consM (varM 2) nilM)))))
    (seqS (setS 3 (callM Lib.p_offsets_of (consM (varM 0) (consM (varM 1) nilM))))
    (seqS (setS 4 (callM Lib.p_first_apart (consM (varM 3) (consM (varM 1) (consM (opM fSub (arg2 (callM Lib.p_peak_of (consM (varM 0) (consM (varM 1) nilM))) (cM (.int 1)))) nilM)))))
    (seqS (ifS (tstM (opM fNotN (arg2 (varM 4) (cM .none))))
    (retF (consM (cM (.str "apart")) (consM (varM 4) nilM)))
    skipS)
    (retF (consM (cM (.str "high")) (consM (callM Lib.p_highest_days (consM (varM 3) (consM (varM 1) nilM))) nilM))))))))
def p_peak_paper : List Pv.D → Option Pv.Rz := Pv.fnP 5 3 m_peak_paper
-- 0:sums_here 1:size 2:top 3:before 4:due 5:told 6:paper
def m__law_right : Pv.SM :=
  (seqS (parS [3, 4] (consM (opM fList (consM (varM 0) nilM)) (consM (callM p__law_due (consM (varM 0) (consM (varM 1) (consM (varM 2) nilM)))) nilM)))
    (seqS (setS 5 (lstM (consM (callM Lib.p_least_peak (consM (varM 0) (consM (varM 1) (consM (varM 2) nilM)))) (consM (callM Lib.p_greatest_floor (consM (varM 0) (consM (varM 1) (consM (varM 2) nilM)))) (consM (callM Lib.p_least_spread (consM (varM 0) (consM (varM 1) (consM (varM 2) nilM)))) nilM)))))
    (frzS 5 (frzS 4 (frzS 3 (meltS 6 (callKM p_peak_paper [2, 1, 0] (consM (varM 2) (consM (varM 1) (consM (varM 0) nilM))))
    (orT (tstM (opM fNeS (arg2 (opM fRepr (consM (opM fCat (arg2 (varM 5) (lstM (consM (varM 6) nilM)))) nilM)) (opM fRepr (consM (varM 4) nilM))))) (tstM (opM fNe (arg2 (varM 0) (varM 3)))))
    (retS [] (cM (.bool false)))
    (retS [] (opM fEq (arg2 (callM p_peak_paper (consM (varM 0) (consM (varM 1) (consM (varM 2) nilM)))) (opM fIx (arg2 (varM 4) (cM (.int 3)))))))))))))
def p__law_right : List Pv.D → Option Pv.Rz := Pv.fnP 7 3 m__law_right
-- 0:script 1:k 2:jar 3:turn 4:size 5:many 6:top 7:told
def m_law : Pv.SM :=
  (seqS (forS (rng1 (opM fMax2 (consM (cM (.int 1)) (consM (opM fMin2 (consM (cM (.int 5)) (consM (opM fLen (consM (varM 0) nilM)) nilM))) nilM)))) (gN 1)
    (seqS (setS 2 (callM Lib.p__law_jar (consM (varM 0) (consM (varM 1) nilM))))
    (forS (rng1 (cM (.int 3))) (gN 3)
    (seqS (asgS (callJM Lib.p__law_size (consM (varM 2) (consM (cM (.int 24)) nilM))) (gT (gsCons (gN 4) (gsCons (gN 5) gsNil))))
    (seqS (setS 6 (callJM Lib.p__law_high (consM (varM 2) (consM (cM (.int 10)) nilM))))
    (ifS (notT (tstM (callM p__law_right (consM (callM Lib.p__law_sums (consM (callJM Lib.p__law_days (consM (varM 2) (consM (varM 5) (consM (varM 6) nilM)))) (consM (varM 4) nilM))) (consM (varM 4) (consM (varM 6) nilM))))))
    (retS [] (cM (.bool false)))
    skipS))))))
    (seqS (setS 2 (callM Lib.p__law_jar (consM (varM 0) (consM (cM (.int 0)) nilM))))
    (seqS (forS (walkTM (tupM (consM (cM (.int 8)) (consM (cM (.int 1)) (consM (opM fAdd (arg2 (cM (.int 1)) (callJM Lib.p__law_dip (consM (varM 2) (consM (cM (.int 8)) nilM))))) nilM))))) (gN 4)
    (ifS (notT (tstM (callM p__law_right (consM (callM Lib.p__law_sums (consM (callJM Lib.p__law_days (consM (varM 2) (consM (cM (.int 67)) (consM (opM fPow (arg2 (cM (.int 10)) (cM (.int 28)))) nilM)))) (consM (varM 4) nilM))) (consM (varM 4) (consM (opM fPow (arg2 (cM (.int 10)) (cM (.int 28)))) nilM))))))
    (retS [] (cM (.bool false)))
    skipS))
    (seqS (forS (rng1 (cM (.int 3))) (gN 3)
    (seqS (parS [4, 6] (consM (opM fAdd (arg2 (cM (.int 1)) (callJM Lib.p__law_dip (consM (varM 2) (consM (cM (.int 8)) nilM))))) (consM (callJM Lib.p__law_high (consM (varM 2) (consM (cM (.int 10)) nilM))) nilM)))
    (ifS (notT (tstM (callM p__law_right (consM (callM Lib.p__law_sums (consM (callJM Lib.p__law_days (consM (varM 2) (consM (opM fAdd (arg2 (cM (.int 25)) (callJM Lib.p__law_dip (consM (varM 2) (consM (cM (.int 43)) nilM))))) (consM (varM 6) nilM)))) (consM (varM 4) nilM))) (consM (varM 4) (consM (varM 6) nilM))))))
    (retS [] (cM (.bool false)))
    skipS)))
    (seqS (setS 7 (lstM (consM (callM p_peak_paper (consM (lstM (consM (cM (.int 6)) (consM (cM (.int 7)) (consM (cM (.int 5)) nilM)))) (consM (cM (.int 3)) (consM (cM (.int 9)) nilM)))) (consM (callM p_peak_paper (consM (lstM (consM (cM (.int 0)) (consM (cM (.int 0)) nilM))) (consM (cM (.int 2)) (consM (cM (.int 5)) nilM)))) (consM (callM p_peak_paper (consM (lstM (consM (cM (.int 0)) nilM)) (consM (cM (.int 2)) (consM (cM (.int 5)) nilM)))) (consM (callM p_peak_paper (consM (lstM (consM (cM (.int 5)) (consM (cM (.int 5)) (consM (cM (.int 0)) nilM)))) (consM (cM (.int 2)) (consM (cM (.int 5)) nilM)))) nilM))))))
    (retS [] (opM fEq (arg2 (varM 7) (lstM (consM (tupM (consM (cM (.str "high")) (consM (lstM (consM (cM (.int 1)) (consM (cM (.int 2)) (consM (cM (.int 3)) nilM)))) nilM))) (consM (tupM (consM (cM (.str "apart")) (consM (lstM (consM (cM (.int 0)) (consM (cM (.int 2)) nilM))) nilM))) (consM (tupM (consM (cM (.str "high")) (consM (lstM (consM (cM (.int 0)) (consM (cM (.int 1)) nilM))) nilM))) (consM (tupM (consM (cM (.str "apart")) (consM (lstM (consM (cM (.int 1)) (consM (cM (.int 3)) nilM))) nilM))) nilM)))))))))))))
def p_law : List Pv.D → Option Pv.Rz := Pv.fnP 8 1 m_law
end
end K14

set_option Elab.async false
set_option linter.all false
set_option maxRecDepth 100000
set_option maxHeartbeats 4000000
namespace K14
open PySem PySem.Spec PyProof.Rows L2 Ws Pv
theorem sc__law_jar : FnScope ["script", "k", "cell_here"] ["script", "k"] (defScope s__law_jar) := ⟨rfl, rfl, rfl, by decide +kernel, rfl, by decide +kernel, by decide +kernel⟩
theorem sc__law_dip : FnScope ["jar", "many", "digit", "mixed"] ["jar", "many"] (defScope s__law_dip) := ⟨rfl, rfl, rfl, by decide +kernel, rfl, by decide +kernel, by decide +kernel⟩
theorem sc__law_size : FnScope ["jar", "most_days", "size"] ["jar", "most_days"] (defScope s__law_size) := ⟨rfl, rfl, rfl, by decide +kernel, rfl, by decide +kernel, by decide +kernel⟩
theorem sc__law_top : FnScope ["jar", "way_here"] ["jar"] (defScope s__law_top) := ⟨rfl, rfl, rfl, by decide +kernel, rfl, by decide +kernel, by decide +kernel⟩
theorem sc__law_high : FnScope ["jar", "parts", "top"] ["jar", "parts"] (defScope s__law_high) := ⟨rfl, rfl, rfl, by decide +kernel, rfl, by decide +kernel, by decide +kernel⟩
theorem sc__law_gaps : FnScope ["sums_here", "size", "found", "place_here", "step"] ["sums_here", "size"] (defScope s__law_gaps) := ⟨rfl, rfl, rfl, by decide +kernel, rfl, by decide +kernel, by decide +kernel⟩
theorem sc__law_ends : FnScope ["gaps", "size", "sign", "found", "rest", "best", "one"] ["gaps", "size", "sign"] (defScope s__law_ends) := ⟨rfl, rfl, rfl, by decide +kernel, rfl, by decide +kernel, by decide +kernel⟩
theorem sc__law_due : FnScope ["sums_here", "size", "top", "gaps", "wide", "pair_here", "one", "two", "high_days", "low_days", "high", "low", "peak", "paper"] ["sums_here", "size", "top"] (defScope s__law_due) := ⟨rfl, rfl, rfl, by decide +kernel, rfl, by decide +kernel, by decide +kernel⟩
theorem sc_is_integer : FnScope ["thing"] ["thing"] (defScope s_is_integer) := ⟨rfl, rfl, rfl, by decide +kernel, rfl, by decide +kernel, by decide +kernel⟩
theorem sc_is_row : FnScope ["thing", "many", "item"] ["thing", "many"] (defScope s_is_row) := ⟨rfl, rfl, rfl, by decide +kernel, rfl, by decide +kernel, by decide +kernel⟩
theorem sc_check_row_of_sums : FnScope ["sums"] ["sums"] (defScope s_check_row_of_sums) := ⟨rfl, rfl, rfl, by decide +kernel, rfl, by decide +kernel, by decide +kernel⟩
theorem sc_is_within : FnScope ["thing", "low", "high"] ["thing", "low", "high"] (defScope s_is_within) := ⟨rfl, rfl, rfl, by decide +kernel, rfl, by decide +kernel, by decide +kernel⟩
theorem sc_check_sums : FnScope ["sums", "length"] ["sums", "length"] (defScope s_check_sums) := ⟨rfl, rfl, rfl, by decide +kernel, rfl, by decide +kernel, by decide +kernel⟩
theorem sc_check_most : FnScope ["most"] ["most"] (defScope s_check_most) := ⟨rfl, rfl, rfl, by decide +kernel, rfl, by decide +kernel, by decide +kernel⟩
theorem sc_check_told : FnScope ["sums", "length", "most"] ["sums", "length", "most"] (defScope s_check_told) := ⟨rfl, rfl, rfl, by decide +kernel, rfl, by decide +kernel, by decide +kernel⟩
theorem sc_offsets_of : FnScope ["sums", "length", "offsets", "at"] ["sums", "length"] (defScope s_offsets_of) := ⟨rfl, rfl, rfl, by decide +kernel, rfl, by decide +kernel, by decide +kernel⟩
theorem sc_first_apart : FnScope ["offsets", "length", "most", "first", "second"] ["offsets", "length", "most"] (defScope s_first_apart) := ⟨rfl, rfl, rfl, by decide +kernel, rfl, by decide +kernel, by decide +kernel⟩
theorem sc_lowest_days : FnScope ["offsets", "length", "days", "start", "_", "lowest", "day"] ["offsets", "length"] (defScope s_lowest_days) := ⟨rfl, rfl, rfl, by decide +kernel, rfl, by decide +kernel, by decide +kernel⟩
theorem sc_total_at : FnScope ["sums", "offsets", "days", "day"] ["sums", "offsets", "days"] (defScope s_total_at) := ⟨rfl, rfl, rfl, by decide +kernel, rfl, by decide +kernel, by decide +kernel⟩
theorem sc_highest_days : FnScope ["offsets", "length", "offset"] ["offsets", "length"] (defScope s_highest_days) := ⟨rfl, rfl, rfl, by decide +kernel, rfl, by decide +kernel, by decide +kernel⟩
theorem sc_find_conflict : FnScope ["sums", "length", "most", "offsets", "pair", "lowest", "highest"] ["sums", "length", "most"] (defScope s_find_conflict) := ⟨rfl, rfl, rfl, by decide +kernel, rfl, by decide +kernel, by decide +kernel⟩
theorem sc_need_way : FnScope ["sums", "length", "most", "conflict", "word", "days"] ["sums", "length", "most"] (defScope s_need_way) := ⟨rfl, rfl, rfl, by decide +kernel, rfl, by decide +kernel, by decide +kernel⟩
theorem sc_least_high : FnScope ["sums", "offsets", "length"] ["sums", "offsets", "length"] (defScope s_least_high) := ⟨rfl, rfl, rfl, by decide +kernel, rfl, by decide +kernel, by decide +kernel⟩
theorem sc_greatest_low : FnScope ["sums", "offsets", "length"] ["sums", "offsets", "length"] (defScope s_greatest_low) := ⟨rfl, rfl, rfl, by decide +kernel, rfl, by decide +kernel, by decide +kernel⟩
theorem sc_widest_tie : FnScope ["offsets", "length", "rows", "start", "row"] ["offsets", "length"] (defScope s_widest_tie) := ⟨rfl, rfl, rfl, by decide +kernel, rfl, by decide +kernel, by decide +kernel⟩
theorem sc_least_spread : FnScope ["sums", "length", "most", "offsets", "between"] ["sums", "length", "most"] (defScope s_least_spread) := ⟨rfl, rfl, rfl, by decide +kernel, rfl, by decide +kernel, by decide +kernel⟩
theorem sc_floor_of : FnScope ["sums", "length", "most", "offsets"] ["sums", "length", "most"] (defScope s_floor_of) := ⟨rfl, rfl, rfl, by decide +kernel, rfl, by decide +kernel, by decide +kernel⟩
theorem sc_greatest_floor : FnScope ["sums", "length", "most"] ["sums", "length", "most"] (defScope s_greatest_floor) := ⟨rfl, rfl, rfl, by decide +kernel, rfl, by decide +kernel, by decide +kernel⟩
theorem sc_peak_of : FnScope ["sums", "length", "offsets"] ["sums", "length"] (defScope s_peak_of) := ⟨rfl, rfl, rfl, by decide +kernel, rfl, by decide +kernel, by decide +kernel⟩
theorem sc_least_peak : FnScope ["sums", "length", "most"] ["sums", "length", "most"] (defScope s_least_peak) := ⟨rfl, rfl, rfl, by decide +kernel, rfl, by decide +kernel, by decide +kernel⟩
theorem sc_peak_paper : FnScope ["sums", "length", "most", "offsets", "pair"] ["sums", "length", "most"] (defScope s_peak_paper) := ⟨rfl, rfl, rfl, by decide +kernel, rfl, by decide +kernel, by decide +kernel⟩
theorem sc__law_right : FnScope ["sums_here", "size", "top", "before", "due", "told", "paper"] ["sums_here", "size", "top"] (defScope s__law_right) := ⟨rfl, rfl, rfl, by decide +kernel, rfl, by decide +kernel, by decide +kernel⟩
theorem sc__law_sums : FnScope ["numbers_here", "size", "found", "place_here", "total", "spot"] ["numbers_here", "size"] (defScope s__law_sums) := ⟨rfl, rfl, rfl, by decide +kernel, rfl, by decide +kernel, by decide +kernel⟩
theorem sc__law_days : FnScope ["jar", "many", "top", "way_here", "found", "turn", "one"] ["jar", "many", "top"] (defScope s__law_days) := ⟨rfl, rfl, rfl, by decide +kernel, rfl, by decide +kernel, by decide +kernel⟩
theorem sc_law : FnScope ["script", "k", "jar", "turn", "size", "many", "top", "told"] ["script"] (defScope s_law) := ⟨rfl, rfl, rfl, by decide +kernel, rfl, by decide +kernel, by decide +kernel⟩
/-- what the top has written -/
structure Top (K : PySem.W.Frag) (mg : Str → Option Value) where
  f__law_jar : Addr
  fd__law_jar : FuncData
  F__law_jar : L2.Fun K "_law_jar" "_law_jar" s__law_jar f__law_jar fd__law_jar
  b__law_jar : Binds K fd__law_jar ["script", "k"] []
  g__law_jar : mg "_law_jar" = some (.ref f__law_jar)
  f__law_dip : Addr
  fd__law_dip : FuncData
  F__law_dip : L2.Fun K "_law_dip" "_law_dip" s__law_dip f__law_dip fd__law_dip
  b__law_dip : Binds K fd__law_dip ["jar", "many"] []
  g__law_dip : mg "_law_dip" = some (.ref f__law_dip)
  f__law_size : Addr
  fd__law_size : FuncData
  F__law_size : L2.Fun K "_law_size" "_law_size" s__law_size f__law_size fd__law_size
  b__law_size : Binds K fd__law_size ["jar", "most_days"] []
  g__law_size : mg "_law_size" = some (.ref f__law_size)
  f__law_top : Addr
  fd__law_top : FuncData
  F__law_top : L2.Fun K "_law_top" "_law_top" s__law_top f__law_top fd__law_top
  b__law_top : Binds K fd__law_top ["jar"] []
  g__law_top : mg "_law_top" = some (.ref f__law_top)
  f__law_high : Addr
  fd__law_high : FuncData
  F__law_high : L2.Fun K "_law_high" "_law_high" s__law_high f__law_high fd__law_high
  b__law_high : Binds K fd__law_high ["jar", "parts"] []
  g__law_high : mg "_law_high" = some (.ref f__law_high)
  f__law_gaps : Addr
  fd__law_gaps : FuncData
  F__law_gaps : L2.Fun K "_law_gaps" "_law_gaps" s__law_gaps f__law_gaps fd__law_gaps
  b__law_gaps : Binds K fd__law_gaps ["sums_here", "size"] []
  g__law_gaps : mg "_law_gaps" = some (.ref f__law_gaps)
  f__law_ends : Addr
  fd__law_ends : FuncData
  F__law_ends : L2.Fun K "_law_ends" "_law_ends" s__law_ends f__law_ends fd__law_ends
  b__law_ends : Binds K fd__law_ends ["gaps", "size", "sign"] []
  g__law_ends : mg "_law_ends" = some (.ref f__law_ends)
  f__law_due : Addr
  fd__law_due : FuncData
  F__law_due : L2.Fun K "_law_due" "_law_due" s__law_due f__law_due fd__law_due
  b__law_due : Binds K fd__law_due ["sums_here", "size", "top"] []
  g__law_due : mg "_law_due" = some (.ref f__law_due)
  f_is_integer : Addr
  fd_is_integer : FuncData
  F_is_integer : L2.Fun K "is_integer" "is_integer" s_is_integer f_is_integer fd_is_integer
  b_is_integer : Binds K fd_is_integer ["thing"] []
  g_is_integer : mg "is_integer" = some (.ref f_is_integer)
  f_is_row : Addr
  fd_is_row : FuncData
  F_is_row : L2.Fun K "is_row" "is_row" s_is_row f_is_row fd_is_row
  b_is_row : Binds K fd_is_row ["thing", "many"] []
  g_is_row : mg "is_row" = some (.ref f_is_row)
  f_check_row_of_sums : Addr
  fd_check_row_of_sums : FuncData
  F_check_row_of_sums : L2.Fun K "check_row_of_sums" "check_row_of_sums" s_check_row_of_sums f_check_row_of_sums fd_check_row_of_sums
  b_check_row_of_sums : Binds K fd_check_row_of_sums ["sums"] []
  g_check_row_of_sums : mg "check_row_of_sums" = some (.ref f_check_row_of_sums)
  f_is_within : Addr
  fd_is_within : FuncData
  F_is_within : L2.Fun K "is_within" "is_within" s_is_within f_is_within fd_is_within
  b_is_within : Binds K fd_is_within ["thing", "low", "high"] []
  g_is_within : mg "is_within" = some (.ref f_is_within)
  f_check_sums : Addr
  fd_check_sums : FuncData
  F_check_sums : L2.Fun K "check_sums" "check_sums" s_check_sums f_check_sums fd_check_sums
  b_check_sums : Binds K fd_check_sums ["sums", "length"] []
  g_check_sums : mg "check_sums" = some (.ref f_check_sums)
  f_check_most : Addr
  fd_check_most : FuncData
  F_check_most : L2.Fun K "check_most" "check_most" s_check_most f_check_most fd_check_most
  b_check_most : Binds K fd_check_most ["most"] []
  g_check_most : mg "check_most" = some (.ref f_check_most)
  f_check_told : Addr
  fd_check_told : FuncData
  F_check_told : L2.Fun K "check_told" "check_told" s_check_told f_check_told fd_check_told
  b_check_told : Binds K fd_check_told ["sums", "length", "most"] []
  g_check_told : mg "check_told" = some (.ref f_check_told)
  f_offsets_of : Addr
  fd_offsets_of : FuncData
  F_offsets_of : L2.Fun K "offsets_of" "offsets_of" s_offsets_of f_offsets_of fd_offsets_of
  b_offsets_of : Binds K fd_offsets_of ["sums", "length"] []
  g_offsets_of : mg "offsets_of" = some (.ref f_offsets_of)
  f_first_apart : Addr
  fd_first_apart : FuncData
  F_first_apart : L2.Fun K "first_apart" "first_apart" s_first_apart f_first_apart fd_first_apart
  b_first_apart : Binds K fd_first_apart ["offsets", "length", "most"] []
  g_first_apart : mg "first_apart" = some (.ref f_first_apart)
  f_lowest_days : Addr
  fd_lowest_days : FuncData
  F_lowest_days : L2.Fun K "lowest_days" "lowest_days" s_lowest_days f_lowest_days fd_lowest_days
  b_lowest_days : Binds K fd_lowest_days ["offsets", "length"] []
  g_lowest_days : mg "lowest_days" = some (.ref f_lowest_days)
  f_total_at : Addr
  fd_total_at : FuncData
  F_total_at : L2.Fun K "total_at" "total_at" s_total_at f_total_at fd_total_at
  b_total_at : Binds K fd_total_at ["sums", "offsets", "days"] []
  g_total_at : mg "total_at" = some (.ref f_total_at)
  f_highest_days : Addr
  fd_highest_days : FuncData
  F_highest_days : L2.Fun K "highest_days" "highest_days" s_highest_days f_highest_days fd_highest_days
  b_highest_days : Binds K fd_highest_days ["offsets", "length"] []
  g_highest_days : mg "highest_days" = some (.ref f_highest_days)
  f_find_conflict : Addr
  fd_find_conflict : FuncData
  F_find_conflict : L2.Fun K "find_conflict" "find_conflict" s_find_conflict f_find_conflict fd_find_conflict
  b_find_conflict : Binds K fd_find_conflict ["sums", "length", "most"] []
  g_find_conflict : mg "find_conflict" = some (.ref f_find_conflict)
  f_need_way : Addr
  fd_need_way : FuncData
  F_need_way : L2.Fun K "need_way" "need_way" s_need_way f_need_way fd_need_way
  b_need_way : Binds K fd_need_way ["sums", "length", "most"] []
  g_need_way : mg "need_way" = some (.ref f_need_way)
  f_least_high : Addr
  fd_least_high : FuncData
  F_least_high : L2.Fun K "least_high" "least_high" s_least_high f_least_high fd_least_high
  b_least_high : Binds K fd_least_high ["sums", "offsets", "length"] []
  g_least_high : mg "least_high" = some (.ref f_least_high)
  f_greatest_low : Addr
  fd_greatest_low : FuncData
  F_greatest_low : L2.Fun K "greatest_low" "greatest_low" s_greatest_low f_greatest_low fd_greatest_low
  b_greatest_low : Binds K fd_greatest_low ["sums", "offsets", "length"] []
  g_greatest_low : mg "greatest_low" = some (.ref f_greatest_low)
  f_widest_tie : Addr
  fd_widest_tie : FuncData
  F_widest_tie : L2.Fun K "widest_tie" "widest_tie" s_widest_tie f_widest_tie fd_widest_tie
  b_widest_tie : Binds K fd_widest_tie ["offsets", "length"] []
  g_widest_tie : mg "widest_tie" = some (.ref f_widest_tie)
  f_least_spread : Addr
  fd_least_spread : FuncData
  F_least_spread : L2.Fun K "least_spread" "least_spread" s_least_spread f_least_spread fd_least_spread
  b_least_spread : Binds K fd_least_spread ["sums", "length", "most"] []
  g_least_spread : mg "least_spread" = some (.ref f_least_spread)
  f_floor_of : Addr
  fd_floor_of : FuncData
  F_floor_of : L2.Fun K "floor_of" "floor_of" s_floor_of f_floor_of fd_floor_of
  b_floor_of : Binds K fd_floor_of ["sums", "length", "most"] []
  g_floor_of : mg "floor_of" = some (.ref f_floor_of)
  f_greatest_floor : Addr
  fd_greatest_floor : FuncData
  F_greatest_floor : L2.Fun K "greatest_floor" "greatest_floor" s_greatest_floor f_greatest_floor fd_greatest_floor
  b_greatest_floor : Binds K fd_greatest_floor ["sums", "length", "most"] []
  g_greatest_floor : mg "greatest_floor" = some (.ref f_greatest_floor)
  f_peak_of : Addr
  fd_peak_of : FuncData
  F_peak_of : L2.Fun K "peak_of" "peak_of" s_peak_of f_peak_of fd_peak_of
  b_peak_of : Binds K fd_peak_of ["sums", "length"] []
  g_peak_of : mg "peak_of" = some (.ref f_peak_of)
  f_least_peak : Addr
  fd_least_peak : FuncData
  F_least_peak : L2.Fun K "least_peak" "least_peak" s_least_peak f_least_peak fd_least_peak
  b_least_peak : Binds K fd_least_peak ["sums", "length", "most"] []
  g_least_peak : mg "least_peak" = some (.ref f_least_peak)
  f_peak_paper : Addr
  fd_peak_paper : FuncData
  F_peak_paper : L2.Fun K "peak_paper" "peak_paper" s_peak_paper f_peak_paper fd_peak_paper
  b_peak_paper : Binds K fd_peak_paper ["sums", "length", "most"] []
  g_peak_paper : mg "peak_paper" = some (.ref f_peak_paper)
  f__law_right : Addr
  fd__law_right : FuncData
  F__law_right : L2.Fun K "_law_right" "_law_right" s__law_right f__law_right fd__law_right
  b__law_right : Binds K fd__law_right ["sums_here", "size", "top"] []
  g__law_right : mg "_law_right" = some (.ref f__law_right)
  f__law_sums : Addr
  fd__law_sums : FuncData
  F__law_sums : L2.Fun K "_law_sums" "_law_sums" s__law_sums f__law_sums fd__law_sums
  b__law_sums : Binds K fd__law_sums ["numbers_here", "size"] []
  g__law_sums : mg "_law_sums" = some (.ref f__law_sums)
  f__law_days : Addr
  fd__law_days : FuncData
  F__law_days : L2.Fun K "_law_days" "_law_days" s__law_days f__law_days fd__law_days
  b__law_days : Binds K fd__law_days ["jar", "many", "top"] []
  g__law_days : mg "_law_days" = some (.ref f__law_days)
  f_law : Addr
  fd_law : FuncData
  F_law : L2.Fun K "law" "law" s_law f_law fd_law
  b_law : Binds K fd_law ["script"] []
  g_law : mg "law" = some (.ref f_law)
  z_abs : mg "abs" = none
  z_all : mg "all" = none
  z_bool : mg "bool" = none
  z_int : mg "int" = none
  z_isinstance : mg "isinstance" = none
  z_len : mg "len" = none
  z_list : mg "list" = none
  z_max : mg "max" = none
  z_min : mg "min" = none
  z_range : mg "range" = none
  z_repr : mg "repr" = none
  z_sorted : mg "sorted" = none
  z_sum : mg "sum" = none
  z_type : mg "type" = none
  c_GREATEST_COUNT : ∃ u, mg "GREATEST_COUNT" = some (.int 67 u)
  c_GREATEST_LENGTH : ∃ u, mg "GREATEST_LENGTH" = some (.int 8 u)
  c_GREATEST_MOST : ∃ u, mg "GREATEST_MOST" = some (.int 999999999999999999999999999999 u)
section
variable {P : Program} {w : World} {K : PySem.W.Frag} {mg : Str → Option Value} {base : Heap}
theorem kb_peak_paper_most_length_sums {fd : FuncData} {f : Addr} (F : L2.Fun K "peak_paper" "peak_paper" s_peak_paper f fd) : KBinds K fd ["sums", "length", "most"] ["most", "length", "sums"] (gP [2, 1, 0]) (gP [2, 1, 0]) := by
  obtain ⟨oc, od, kV, doc, pm, an, cdv, ct, osl, rfl, lk, hcd⟩ := F.ex
  refine ⟨fun s us ws _ h => ?_, gP_rel⟩
  obtain ⟨rfl, hl⟩ := gP_inv h
  match ws, hl with
  | [a0, a1, a2], _ => exact .of_eq rfl
theorem ok__law_jar {f : Addr} {fd : FuncData} (T : Top K mg) (F : L2.Fun K "_law_jar" "_law_jar" s__law_jar f fd)  :
    FnG P w K mg base CX0 1 f fd ["script", "k"] (spP K Lib.p__law_jar) := by
  refine okPn (m := Lib.m__law_jar) (k := 0) F sc__law_jar rfl rfl rfl fun cdv A out s H E hr gu => ?_
  refine ⟨_, (pss_cons (ps_set (i := 2) sc__law_jar.nd rfl (.inl rfl) (pe_ifExp (pt_cmpR op_lt (pv 1) (pe_callB (lenA (K := K)) (by rfl) T.z_len (by decide +kernel) (pa_cons (pv 0) pa_nil)) (nomark _)) (pe_callB call_abs (by rfl) T.z_abs (by decide +kernel) (pa_cons (pe_ix (ixA (K := K)) (pv 0) (pv 1) (fun _ _ => rfl)) pa_nil)) pe_int))
      (pss_one (ps_ret (pe_lst (pa_cons (pe_callB (call_max2 rfl) (by rfl) T.z_max (by decide +kernel) (pa_cons pe_int (pa_cons (pe_op op_sub (pv 2) (pe_op Ws.op_powG pe_int pe_int)) pa_nil))) (pa_cons (pe_op op_add (pe_op op_mulW (pe_op op_mod (pe_callTy call_int1 (by rfl) T.z_int (by decide +kernel) (pa_cons (pv 2) pa_nil)) (pe_op op_add (pe_op Ws.op_powG pe_int pe_int) pe_int)) pe_int) (pe_op op_mulW pe_int (pv 1))) (pa_cons pe_int pa_nil))))))), ?_⟩
  exact (sv_seq (sv_set (ev_if (tv_tst (ev_op o_lt ev_var (ev_cb o_len (av_cons ev_var av_nil)))) (ev_cb o_abs (av_cons (ev_op o_ix ev_var ev_var) av_nil)) ev_int))
      (sv_ret (ev_lst (av_cons (ev_cb o_max2 (av_cons ev_int (av_cons (ev_op o_sub ev_var (ev_op o_pow ev_int ev_int)) av_nil))) (av_cons (ev_op o_add (ev_op o_mul (ev_op o_mod (ev_cb o_int (av_cons ev_var av_nil)) (ev_op o_add (ev_op o_pow ev_int ev_int) ev_int)) ev_int) (ev_op o_mul ev_int ev_var)) (av_cons ev_int av_nil))))))
theorem ok__law_dip {f : Addr} {fd : FuncData} (T : Top K mg) (F : L2.Fun K "_law_dip" "_law_dip" s__law_dip f fd)  :
    FnG P w K mg base CX0 1 f fd ["jar", "many"] (spJ K Lib.p__law_dip) := by
  refine okJn (m := Lib.m__law_dip) (k := 0) F sc__law_dip rfl rfl rfl fun cdv A out s H E hr gu => ?_
  refine ⟨_, (pss_cons (ps_if (pt_cmpR op_gt (pe_ix (ixA (K := K)) (pv 0) pe_int (fun _ _ => rfl)) pe_int (nomark _))
      (pss_cons (ps_set (i := 2) sc__law_dip.nd rfl (.inl rfl) (pe_op op_mod (pe_callTy call_int1 (by rfl) T.z_int (by decide +kernel) (pa_cons (pe_ix (ixA (K := K)) (pv 0) pe_int (fun _ _ => rfl)) pa_nil)) (pv 1)))
      (pss_cons (ps_asg (pe_op op_fdivW (pe_ix (ixA (K := K)) (pv 0) pe_int (fun _ _ => rfl)) (pv 1)) (pg_sub (pv 0) pe_int set_list))
      (pss_one (ps_ret (pv 2)))))
      pss_nil)
      (pss_cons (ps_asg (pe_op op_add (pe_ix (ixA (K := K)) (pv 0) pe_int (fun _ _ => rfl)) pe_int) (pg_sub (pv 0) pe_int set_list))
      (pss_cons (ps_set (i := 3) sc__law_dip.nd rfl (.inl rfl) (pe_op op_mod (pe_callTy call_int1 (by rfl) T.z_int (by decide +kernel) (pa_cons (pe_op Ws.op_powG (pe_op op_add (pe_ix (ixA (K := K)) (pv 0) pe_int (fun _ _ => rfl)) (pe_op op_mulW pe_int (pe_ix (ixA (K := K)) (pv 0) pe_int (fun _ _ => rfl)))) pe_int) pa_nil)) (pe_op op_add (pe_op Ws.op_powG pe_int pe_int) pe_int)))
      (pss_cons (ps_set (i := 3) sc__law_dip.nd rfl (.inl rfl) (pe_op op_mod (pe_callTy call_int1 (by rfl) T.z_int (by decide +kernel) (pa_cons (pe_op Ws.op_powG (pe_op op_add (pv 3) (pe_op op_mulW pe_int (pe_ix (ixA (K := K)) (pv 0) pe_int (fun _ _ => rfl)))) pe_int) pa_nil)) (pe_op op_add (pe_op Ws.op_powG pe_int pe_int) pe_int)))
      (pss_one (ps_ret (pe_op op_mod (pe_callTy call_int1 (by rfl) T.z_int (by decide +kernel) (pa_cons (pe_op op_fdivW (pv 3) pe_int) pa_nil)) (pv 1)))))))), ?_⟩
  exact (sv_seq (sv_if (tv_tst (ev_op o_gt (ev_op o_ix ev_var ev_int) ev_int))
      (sv_seq (sv_set (ev_op o_mod (ev_cb o_int (av_cons (ev_op o_ix ev_var ev_int) av_nil)) ev_var))
      (sv_seq (sv_sub (ev_op o_div (ev_op o_ix ev_var ev_int) ev_var) ev_int)
      (sv_ret ev_var)))
      sv_nil)
      (sv_seq (sv_sub (ev_op o_add (ev_op o_ix ev_var ev_int) ev_int) ev_int)
      (sv_seq (sv_set (ev_op o_mod (ev_cb o_int (av_cons (ev_op o_pow (ev_op o_add (ev_op o_ix ev_var ev_int) (ev_op o_mul ev_int (ev_op o_ix ev_var ev_int))) ev_int) av_nil)) (ev_op o_add (ev_op o_pow ev_int ev_int) ev_int)))
      (sv_seq (sv_set (ev_op o_mod (ev_cb o_int (av_cons (ev_op o_pow (ev_op o_add ev_var (ev_op o_mul ev_int (ev_op o_ix ev_var ev_int))) ev_int) av_nil)) (ev_op o_add (ev_op o_pow ev_int ev_int) ev_int)))
      (sv_ret (ev_op o_mod (ev_cb o_int (av_cons (ev_op o_div ev_var ev_int) av_nil)) ev_var))))))
theorem ok__law_size {f : Addr} {fd : FuncData} (T : Top K mg) (F : L2.Fun K "_law_size" "_law_size" s__law_size f fd) (G__law_dip : DefG P w K mg base CX0 1 "_law_dip" T.f__law_dip T.fd__law_dip ["jar", "many"] (spJ K Lib.p__law_dip)) :
    FnG P w K mg base CX0 2 f fd ["jar", "most_days"] (spJ K Lib.p__law_size) := by
  refine okJn (m := Lib.m__law_size) (k := 1) F sc__law_size rfl rfl rfl fun cdv A out s H E hr gu => ?_
  refine ⟨_, (pss_cons (ps_set (i := 2) sc__law_size.nd rfl (.inl rfl) (pe_op op_add pe_int (Ws.pg G__law_dip hr gu (pa_cons (pv 0) (pa_cons pe_int pa_nil)))))
      (pss_one (ps_ret (pe_tup (pa_cons (pv 2) (pa_cons (pe_op op_add (pv 2) (Ws.pg G__law_dip hr gu (pa_cons (pv 0) (pa_cons (pe_op op_add (pe_op op_sub (pv 1) (pv 2)) pe_int) pa_nil)))) pa_nil)))))), ?_⟩
  exact (sv_seq (sv_set (ev_op o_add ev_int (ev_callJ (av_cons ev_var (av_cons ev_int av_nil)))))
      (sv_ret (ev_tup (av_cons ev_var (av_cons (ev_op o_add ev_var (ev_callJ (av_cons ev_var (av_cons (ev_op o_add (ev_op o_sub ev_var ev_var) ev_int) av_nil)))) av_nil)))))
theorem ok__law_top {f : Addr} {fd : FuncData} (T : Top K mg) (F : L2.Fun K "_law_top" "_law_top" s__law_top f fd) (G__law_dip : DefG P w K mg base CX0 1 "_law_dip" T.f__law_dip T.fd__law_dip ["jar", "many"] (spJ K Lib.p__law_dip)) :
    FnG P w K mg base CX0 2 f fd ["jar"] (spJ K Lib.p__law_top) := by
  refine okJn (m := Lib.m__law_top) (k := 1) F sc__law_top rfl rfl rfl fun cdv A out s H E hr gu => ?_
  refine ⟨_, (pss_cons (ps_set (i := 1) sc__law_top.nd rfl (.inl rfl) (Ws.pg G__law_dip hr gu (pa_cons (pv 0) (pa_cons pe_int pa_nil))))
      (pss_cons (ps_if (pt_cmpR (eqL (K := K) hr.units) (pv 1) pe_int (nomark _))
      (pss_one (ps_ret (pe_op op_sub (pe_op op_sub (pe_op Ws.op_powG pe_int pe_int) pe_int) (Ws.pg G__law_dip hr gu (pa_cons (pv 0) (pa_cons (pe_op Ws.op_powG pe_int pe_int) pa_nil))))))
      pss_nil)
      (pss_one (ps_ret (Ws.pg G__law_dip hr gu (pa_cons (pv 0) (pa_cons (pe_ix (ixA (K := K)) (pe_lst (pa_cons pe_int (pa_cons pe_int pa_nil))) (pv 1) (fun _ _ => rfl)) pa_nil))))))), ?_⟩
  exact (sv_seq (sv_set (ev_callJ (av_cons ev_var (av_cons ev_int av_nil))))
      (sv_seq (sv_if (tv_tst (ev_op o_eq ev_var ev_int))
      (sv_ret (ev_op o_sub (ev_op o_sub (ev_op o_pow ev_int ev_int) ev_int) (ev_callJ (av_cons ev_var (av_cons (ev_op o_pow ev_int ev_int) av_nil)))))
      sv_nil)
      (sv_ret (ev_callJ (av_cons ev_var (av_cons (ev_op o_ix (ev_lst (av_cons ev_int (av_cons ev_int av_nil))) ev_var) av_nil))))))
theorem ok__law_high {f : Addr} {fd : FuncData} (T : Top K mg) (F : L2.Fun K "_law_high" "_law_high" s__law_high f fd) (G__law_top : DefG P w K mg base CX0 2 "_law_top" T.f__law_top T.fd__law_top ["jar"] (spJ K Lib.p__law_top)) :
    FnG P w K mg base CX0 3 f fd ["jar", "parts"] (spJ K Lib.p__law_high) := by
  refine okJn (m := Lib.m__law_high) (k := 2) F sc__law_high rfl rfl rfl fun cdv A out s H E hr gu => ?_
  refine ⟨_, (pss_cons (ps_set (i := 2) sc__law_high.nd rfl (.inl rfl) (Ws.pg G__law_top hr gu (pa_cons (pv 0) pa_nil)))
      (pss_one (ps_ret (pe_ifExp (pt_cmpR op_gt (pv 2) (pe_op Ws.op_powG pe_int pe_int) (nomark _)) (pe_op op_fdivW (pv 2) (pv 1)) (pv 2))))), ?_⟩
  exact (sv_seq (sv_set (ev_callJ (av_cons ev_var av_nil)))
      (sv_ret (ev_if (tv_tst (ev_op o_gt ev_var (ev_op o_pow ev_int ev_int))) (ev_op o_div ev_var ev_var) ev_var)))
theorem ok__law_gaps {f : Addr} {fd : FuncData} (T : Top K mg) (F : L2.Fun K "_law_gaps" "_law_gaps" s__law_gaps f fd)  :
    FnG P w K mg base CX0 1 f fd ["sums_here", "size"] (spP K Lib.p__law_gaps) := by
  refine okPn (m := Lib.m__law_gaps) (k := 0) F sc__law_gaps rfl rfl rfl fun cdv A out s H E hr gu => ?_
  refine ⟨_, (pss_cons (ps_set (i := 2) sc__law_gaps.nd rfl (.inl rfl) (pe_op op_rep (pe_lst (pa_cons pe_int pa_nil)) (pv 1)))
      (pss_cons (ps_for PassesOwn.never rfl (pi_range1 (by rfl) T.z_range (pa_cons (pe_op op_sub (pe_callB (lenA (K := K)) (by rfl) T.z_len (by decide +kernel) (pa_cons (pv 0) pa_nil)) pe_int) pa_nil)) (pg_name (i := 3) sc__law_gaps.nd rfl (.inl rfl))
      (pss_cons (ps_set (i := 4) sc__law_gaps.nd rfl (.inl rfl) (pe_op op_sub (pe_ix (ixA (K := K)) (pv 0) (pe_op op_add (pv 3) pe_int) (fun _ _ => rfl)) (pe_ix (ixA (K := K)) (pv 0) (pv 3) (fun _ _ => rfl))))
      (pss_one (ps_expr (bmK (K := K) (pe_bm PySem.F.plainAttrs_list PySem.F.slot_list_append PySem.F.type_list_append mt_append (pv 2) (pa_cons (pe_op op_add (pe_ix (ixA (K := K)) (pv 2) (pe_un un_neg (pv 1)) (fun _ _ => rfl)) (pv 4)) pa_nil)))))))
      (pss_one (ps_ret (pv 2))))), ?_⟩
  exact (sv_seq (sv_set (ev_op o_rep (ev_lst (av_cons ev_int av_nil)) ev_var))
      (sv_seq (sv_for (iv_rng1 (ev_op o_sub (ev_cb o_len (av_cons ev_var av_nil)) ev_int)) gv_name
      (sv_seq (sv_set (ev_op o_sub (ev_op o_ix ev_var (ev_op o_add ev_var ev_int)) (ev_op o_ix ev_var ev_var)))
      (sv_expr (ev_app (ev_op o_add (ev_op o_ix ev_var (ev_un o_neg ev_var)) ev_var)))))
      (sv_ret ev_var)))
theorem ok__law_ends {f : Addr} {fd : FuncData} (T : Top K mg) (F : L2.Fun K "_law_ends" "_law_ends" s__law_ends f fd)  :
    FnG P w K mg base CX0 1 f fd ["gaps", "size", "sign"] (spP K p__law_ends) := by
  refine okPn (m := m__law_ends) (k := 0) F sc__law_ends rfl rfl rfl fun cdv A out s H E hr gu => ?_
  refine ⟨_, (pss_cons (ps_set (i := 3) sc__law_ends.nd rfl (.inl rfl) (pe_lst pa_nil))
      (pss_cons (ps_for PassesOwn.never rfl (pi_range1 (by rfl) T.z_range (pa_cons (pv 1) pa_nil)) (pg_name (i := 4) sc__law_ends.nd rfl (.inl rfl))
      (pss_cons (ps_set (i := 5) sc__law_ends.nd rfl (.inl rfl) (pv 4))
      (pss_cons (ps_for PassesOwn.never rfl (pi_range3 (by rfl) T.z_range (pa_cons (pv 4) (pa_cons (pe_callB (lenA (K := K)) (by rfl) T.z_len (by decide +kernel) (pa_cons (pv 0) pa_nil)) (pa_cons (pv 1) pa_nil)))) (pg_name (i := 6) sc__law_ends.nd rfl (.inl rfl))
      (pss_one (ps_if (pt_cmpR op_gt (pe_op op_mulW (pv 2) (pe_ix (ixA (K := K)) (pv 0) (pv 6) (fun _ _ => rfl))) (pe_op op_mulW (pv 2) (pe_ix (ixA (K := K)) (pv 0) (pv 5) (fun _ _ => rfl))) (nomark _))
      (pss_one (ps_set (i := 5) sc__law_ends.nd rfl (.inl rfl) (pv 6)))
      pss_nil)))
      (pss_one (ps_expr (bmK (K := K) (pe_bm PySem.F.plainAttrs_list PySem.F.slot_list_append PySem.F.type_list_append mt_append (pv 3) (pa_cons (pv 5) pa_nil))))))))
      (pss_one (ps_ret (pe_callB (sortL (K := K)) (by rfl) T.z_sorted (by decide +kernel) (pa_cons (pv 3) pa_nil)))))), ?_⟩
  exact (sv_seq (sv_set (ev_lst av_nil))
      (sv_seq (sv_for (iv_rng1 ev_var) gv_name
      (sv_seq (sv_set ev_var)
      (sv_seq (sv_for (iv_rng3 ev_var (ev_cb o_len (av_cons ev_var av_nil)) ev_var) gv_name
      (sv_if (tv_tst (ev_op o_gt (ev_op o_mul ev_var (ev_op o_ix ev_var ev_var)) (ev_op o_mul ev_var (ev_op o_ix ev_var ev_var))))
      (sv_set ev_var)
      sv_nil))
      (sv_expr (ev_app ev_var)))))
      (sv_ret (ev_cb o_sorted (av_cons ev_var av_nil)))))
theorem ok__law_due {f : Addr} {fd : FuncData} (T : Top K mg) (F : L2.Fun K "_law_due" "_law_due" s__law_due f fd) (G__law_gaps : DefG P w K mg base CX0 1 "_law_gaps" T.f__law_gaps T.fd__law_gaps ["sums_here", "size"] (spP K Lib.p__law_gaps)) (G__law_ends : DefG P w K mg base CX0 1 "_law_ends" T.f__law_ends T.fd__law_ends ["gaps", "size", "sign"] (spP K p__law_ends)) :
    FnG P w K mg base CX0 2 f fd ["sums_here", "size", "top"] (spP K p__law_due) := by
  refine okPn (m := m__law_due) (k := 1) F sc__law_due rfl rfl rfl fun cdv A out s H E hr gu => ?_
  refine ⟨_, (pss_cons (ps_asg (pe_tup (pa_cons (Ws.pg G__law_gaps hr gu (pa_cons (pv 0) (pa_cons (pv 1) pa_nil))) (pa_cons pe_int (pa_cons pe_non pa_nil)))) (pgT (K := K) (n := 3) (by rfl) (pgs_cons (pg_name (i := 3) sc__law_due.nd rfl (.inr rfl)) (pgs_cons (pg_name (i := 4) sc__law_due.nd rfl (.inl rfl)) (pgs_cons (pg_name (i := 5) sc__law_due.nd rfl (.inl rfl)) pgs_nil)))))
      (pss_cons (ps_for PassesOwn.never rfl (pi_range1 (by rfl) T.z_range (pa_cons (pe_callB (lenA (K := K)) (by rfl) T.z_len (by decide +kernel) (pa_cons (pv 3) pa_nil)) pa_nil)) (pg_name (i := 6) sc__law_due.nd rfl (.inl rfl))
      (pss_one (ps_for PassesOwn.never rfl (pi_range3 (by rfl) T.z_range (pa_cons (pe_op op_add (pv 6) (pv 1)) (pa_cons (pe_callB (lenA (K := K)) (by rfl) T.z_len (by decide +kernel) (pa_cons (pv 3) pa_nil)) (pa_cons (pv 1) pa_nil)))) (pg_name (i := 7) sc__law_due.nd rfl (.inl rfl))
      (pss_one (ps_set (i := 4) sc__law_due.nd rfl (.inl rfl) (pe_callB (call_max2 rfl) (by rfl) T.z_max (by decide +kernel) (pa_cons (pv 4) (pa_cons (pe_callB call_abs (by rfl) T.z_abs (by decide +kernel) (pa_cons (pe_op op_sub (pe_ix (ixA (K := K)) (pv 3) (pv 7) (fun _ _ => rfl)) (pe_ix (ixA (K := K)) (pv 3) (pv 6) (fun _ _ => rfl))) pa_nil)) pa_nil))))))))
      (pss_cons (ps_par (i := 8) (j := 9) (by rfl) sc__law_due.nd rfl rfl (by decide) rfl rfl (pa_cons (Ws.pg G__law_ends hr gu (pa_cons (pv 3) (pa_cons (pv 1) (pa_cons pe_int pa_nil)))) (pa_cons (Ws.pg G__law_ends hr gu (pa_cons (pv 3) (pa_cons (pv 1) (pa_cons (pe_un un_neg pe_int) pa_nil)))) pa_nil)) (by rfl))
      (pss_cons (ps_set (i := 10) sc__law_due.nd rfl (.inl rfl) (pe_op op_fdivW (pe_op op_sub (pe_op op_add (pe_op op_add (pe_ix (ixA (K := K)) (pv 0) pe_int (fun _ _ => rfl)) (pe_callB (sumL (K := K) rfl) (by rfl) T.z_sum (by decide +kernel) (pa_cons (pe_lc (own := [("one", 6)]) (g := gName 6) (tt := tYes) (by rfl) sc__law_due.nd (piL (K := K) (pv 8)) (blkOk_by (N := ["sums_here", "size", "top", "gaps", "wide", "pair_here", "one", "two", "high_days", "low_days", "high", "low", "peak", "paper"]) (sc := defScope s__law_due) (by decide +kernel)) (fun _ _ _ _ _ => (pg_name (i := 6) sc__law_due.nd rfl (Or.inl rfl))) (fun _ _ _ _ _ => pts_nil) (fun _ _ _ _ _ => (pe_ix (ixA (K := K)) (pv 3) (pv 6) (fun _ _ => rfl)))) pa_nil))) (pv 1)) pe_int) (pv 1)))
      (pss_cons (ps_set (i := 11) sc__law_due.nd rfl (.inl rfl) (pe_op op_fdivW (pe_op op_add (pe_ix (ixA (K := K)) (pv 0) pe_int (fun _ _ => rfl)) (pe_callB (sumL (K := K) rfl) (by rfl) T.z_sum (by decide +kernel) (pa_cons (pe_lc (own := [("one", 6)]) (g := gName 6) (tt := tYes) (by rfl) sc__law_due.nd (piL (K := K) (pv 9)) (blkOk_by (N := ["sums_here", "size", "top", "gaps", "wide", "pair_here", "one", "two", "high_days", "low_days", "high", "low", "peak", "paper"]) (sc := defScope s__law_due) (by decide +kernel)) (fun _ _ _ _ _ => (pg_name (i := 6) sc__law_due.nd rfl (Or.inl rfl))) (fun _ _ _ _ _ => pts_nil) (fun _ _ _ _ _ => (pe_ix (ixA (K := K)) (pv 3) (pv 6) (fun _ _ => rfl)))) pa_nil))) (pv 1)))
      (pss_cons (ps_set (i := 12) sc__law_due.nd rfl (.inl rfl) (pe_callB (call_max2 rfl) (by rfl) T.z_max (by decide +kernel) (pa_cons (pv 4) (pa_cons (pv 10) pa_nil))))
      (pss_cons (ps_for PassesOwn.never rfl (pi_range1 (by rfl) T.z_range (pa_cons (pe_callB (lenA (K := K)) (by rfl) T.z_len (by decide +kernel) (pa_cons (pv 3) pa_nil)) pa_nil)) (pg_name (i := 6) sc__law_due.nd rfl (.inl rfl))
      (pss_one (ps_for PassesOwn.never rfl (pi_range3 (by rfl) T.z_range (pa_cons (pe_op op_add (pv 6) (pv 1)) (pa_cons (pe_callB (lenA (K := K)) (by rfl) T.z_len (by decide +kernel) (pa_cons (pv 3) pa_nil)) (pa_cons (pv 1) pa_nil)))) (pg_name (i := 7) sc__law_due.nd rfl (.inl rfl))
      (pss_one (ps_if (PW.pt (pw_and (pt_cmpR op_isN (pv 5) pe_non (nomark _)) (pw_and1 (pt_cmpR (eqL (K := K) hr.units) (pe_callB call_abs (by rfl) T.z_abs (by decide +kernel) (pa_cons (pe_op op_sub (pe_ix (ixA (K := K)) (pv 3) (pv 7) (fun _ _ => rfl)) (pe_ix (ixA (K := K)) (pv 3) (pv 6) (fun _ _ => rfl))) pa_nil)) (pv 12) (nomark _)))))
      (pss_one (ps_set (i := 5) sc__law_due.nd rfl (.inl rfl) (pe_lst (pa_cons (pv 6) (pa_cons (pv 7) pa_nil)))))
      pss_nil)))))
      (pss_cons (ps_set (i := 13) sc__law_due.nd rfl (.inl rfl) (pe_ifExp (pt_cmpR op_isN (pv 5) pe_non (nomark _)) (pe_tup (pa_cons pe_str (pa_cons (pv 8) pa_nil))) (pe_tup (pa_cons pe_str (pa_cons (pv 5) pa_nil)))))
      (pss_one (ps_ret (pe_lst (pa_cons (pv 12) (pa_cons (pe_callB (call_min2 rfl) (by rfl) T.z_min (by decide +kernel) (pa_cons (pe_op op_sub (pv 2) (pv 4)) (pa_cons (pv 11) pa_nil))) (pa_cons (pe_callB (call_max2 rfl) (by rfl) T.z_max (by decide +kernel) (pa_cons (pv 4) (pa_cons (pe_op op_sub (pv 10) (pv 11)) pa_nil))) (pa_cons (pv 13) pa_nil))))))))))))))), ?_⟩
  exact (sv_seq (sv_parT (is := [3, 4, 5]) (av_cons (ev_call (av_cons ev_var (av_cons ev_var av_nil))) (av_cons ev_int (av_cons ev_non av_nil))))
      (sv_seq (sv_for (iv_rng1 (ev_cb o_len (av_cons ev_var av_nil))) gv_name
      (sv_for (iv_rng3 (ev_op o_add ev_var ev_var) (ev_cb o_len (av_cons ev_var av_nil)) ev_var) gv_name
      (sv_set (ev_cb o_max2 (av_cons ev_var (av_cons (ev_cb o_abs (av_cons (ev_op o_sub (ev_op o_ix ev_var ev_var) (ev_op o_ix ev_var ev_var)) av_nil)) av_nil))))))
      (sv_seq (sv_par2 (av_cons (ev_call (av_cons ev_var (av_cons ev_var (av_cons ev_int av_nil)))) (av_cons (ev_call (av_cons ev_var (av_cons ev_var (av_cons (ev_un o_neg ev_int) av_nil)))) av_nil)))
      (sv_seq (sv_set (ev_op o_div (ev_op o_sub (ev_op o_add (ev_op o_add (ev_op o_ix ev_var ev_int) (ev_cb o_sum (av_cons (ev_comp (vs := [6]) (iv_list ev_var) gv_name tv_yes (ev_op o_ix ev_var ev_var)) av_nil))) ev_var) ev_int) ev_var))
      (sv_seq (sv_set (ev_op o_div (ev_op o_add (ev_op o_ix ev_var ev_int) (ev_cb o_sum (av_cons (ev_comp (vs := [6]) (iv_list ev_var) gv_name tv_yes (ev_op o_ix ev_var ev_var)) av_nil))) ev_var))
      (sv_seq (sv_set (ev_cb o_max2 (av_cons ev_var (av_cons ev_var av_nil))))
      (sv_seq (sv_for (iv_rng1 (ev_cb o_len (av_cons ev_var av_nil))) gv_name
      (sv_for (iv_rng3 (ev_op o_add ev_var ev_var) (ev_cb o_len (av_cons ev_var av_nil)) ev_var) gv_name
      (sv_if (tv_and (tv_tst (ev_op o_isN ev_var ev_non)) (tv_tst (ev_op o_eq (ev_cb o_abs (av_cons (ev_op o_sub (ev_op o_ix ev_var ev_var) (ev_op o_ix ev_var ev_var)) av_nil)) ev_var)))
      (sv_set (ev_lst (av_cons ev_var (av_cons ev_var av_nil))))
      sv_nil)))
      (sv_seq (sv_set (ev_if (tv_tst (ev_op o_isN ev_var ev_non)) (ev_tup (av_cons ev_str (av_cons ev_var av_nil))) (ev_tup (av_cons ev_str (av_cons ev_var av_nil)))))
      (sv_ret (ev_lst (av_cons ev_var (av_cons (ev_cb o_min2 (av_cons (ev_op o_sub ev_var ev_var) (av_cons ev_var av_nil))) (av_cons (ev_cb o_max2 (av_cons ev_var (av_cons (ev_op o_sub ev_var ev_var) av_nil))) (av_cons ev_var av_nil))))))))))))))
theorem ok_is_integer {f : Addr} {fd : FuncData} (T : Top K mg) (F : L2.Fun K "is_integer" "is_integer" s_is_integer f fd)  :
    FnG P w K mg base CX0 1 f fd ["thing"] (spP K Lib.p_is_integer) := by
  refine okPn (m := Lib.m_is_integer) (k := 0) F sc_is_integer rfl rfl rfl fun cdv A out s H E hr gu => ?_
  refine ⟨_, (pss_one (ps_ret (pe_and (pe_callB (isiL (K := K)) (by rfl) T.z_isinstance (by decide +kernel) (pa_cons (pv 0) (pa_cons (pe_bltn (v := .ty "int") (by rfl) T.z_int (by decide +kernel) rfl) pa_nil))) (pe_one (pe_not (pe_callB (isiL (K := K)) (by rfl) T.z_isinstance (by decide +kernel) (pa_cons (pv 0) (pa_cons (pe_bltn (v := .ty "bool") (by rfl) T.z_bool (by decide +kernel) rfl) pa_nil)))))))), ?_⟩
  exact (sv_ret (ev_and (ev_ins ins_int ev_var) (ev_not (ev_ins ins_bool ev_var))))
theorem ok_is_row {f : Addr} {fd : FuncData} (T : Top K mg) (F : L2.Fun K "is_row" "is_row" s_is_row f fd) (G_is_integer : DefG P w K mg base CX0 1 "is_integer" T.f_is_integer T.fd_is_integer ["thing"] (spP K Lib.p_is_integer)) :
    FnG P w K mg base CX0 2 f fd ["thing", "many"] (spP K Lib.p_is_row) := by
  refine okPn (m := Lib.m_is_row) (k := 1) F sc_is_row rfl rfl rfl fun cdv A out s H E hr gu => ?_
  refine ⟨_, (pss_cons (ps_if (PW.pt (pw_or (pt_cmpR op_isNotTy (pe_callTy (typL (K := K)) (by rfl) T.z_type (by decide +kernel) (pa_cons (pv 0) pa_nil)) (pe_bltn (v := .ty "list") (by rfl) T.z_list (by decide +kernel) rfl) (nomark _)) (pw_or1 (pt_not (pt_chain op_le op_le pe_int (pe_callB (lenA (K := K)) (by rfl) T.z_len (by decide +kernel) (pa_cons (pv 0) pa_nil)) (pv 1))))))
      (pss_one (ps_ret pe_bl))
      pss_nil)
      (pss_one (ps_ret (pe_callB (allL (K := K) rfl) (by rfl) T.z_all (by decide +kernel) (pa_cons (pe_lc (own := [("item", 2)]) (g := gName 2) (tt := tYes) (by rfl) sc_is_row.nd (piL (K := K) (pv 0)) (blkOk_by (N := ["thing", "many", "item"]) (sc := defScope s_is_row) (by decide +kernel)) (fun _ _ _ _ _ => (pg_name (i := 2) sc_is_row.nd rfl (Or.inl rfl))) (fun _ _ _ _ _ => pts_nil) (fun _ _ _ _ _ => (Ws.pg G_is_integer hr gu (pa_cons (pv 2) pa_nil)))) pa_nil))))), ?_⟩
  exact (sv_seq (sv_if (tv_or (tv_tst (ev_notTy ev_var)) (tv_not (tv_tst (ev_ch (p := fun i j => decide (i ≤ j)) (p' := fun i j => decide (i ≤ j)) ev_int (ev_cb o_len (av_cons ev_var av_nil)) ev_var))))
      (sv_ret ev_bl)
      sv_nil)
      (sv_ret (ev_cb o_all (av_cons (ev_comp (vs := [2]) (iv_list ev_var) gv_name tv_yes (ev_call (av_cons ev_var av_nil))) av_nil))))
theorem ok_check_row_of_sums {f : Addr} {fd : FuncData} (T : Top K mg) (F : L2.Fun K "check_row_of_sums" "check_row_of_sums" s_check_row_of_sums f fd) (G_is_row : DefG P w K mg base CX0 2 "is_row" T.f_is_row T.fd_is_row ["thing", "many"] (spP K Lib.p_is_row)) :
    FnG P w K mg base CX0 3 f fd ["sums"] (spP K Lib.p_check_row_of_sums) := by
  refine okPn (m := Lib.m_check_row_of_sums) (k := 2) F sc_check_row_of_sums rfl rfl rfl fun cdv A out s H E hr gu => ?_
  refine ⟨_, (pss_one (ps_if (pt_not (pt_val (Ws.pg G_is_row hr gu (pa_cons (pv 0) (pa_cons (pe_glob (v := .int 67) rfl T.c_GREATEST_COUNT.choose_spec ⟨_, rfl⟩) pa_nil)))))
      (pss_one ps_never)
      pss_nil)), ?_⟩
  exact (sv_if (tv_not (tv_B (ev_call (av_cons ev_var (av_cons ev_int av_nil)))))
      sv_never
      sv_nil)
theorem ok_is_within {f : Addr} {fd : FuncData} (T : Top K mg) (F : L2.Fun K "is_within" "is_within" s_is_within f fd) (G_is_integer : DefG P w K mg base CX0 1 "is_integer" T.f_is_integer T.fd_is_integer ["thing"] (spP K Lib.p_is_integer)) :
    FnG P w K mg base CX0 2 f fd ["thing", "low", "high"] (spP K Lib.p_is_within) := by
  refine okPn (m := Lib.m_is_within) (k := 1) F sc_is_within rfl rfl rfl fun cdv A out s H E hr gu => ?_
  refine ⟨_, (pss_one (ps_ret (pe_and (Ws.pg G_is_integer hr gu (pa_cons (pv 0) pa_nil)) (pe_one (pe_chain op_le op_le (pv 1) (pv 0) (pv 2)))))), ?_⟩
  exact (sv_ret (ev_and (ev_call (av_cons ev_var av_nil)) (ev_ch (p := fun i j => decide (i ≤ j)) (p' := fun i j => decide (i ≤ j)) ev_var ev_var ev_var)))
theorem ok_check_sums {f : Addr} {fd : FuncData} (T : Top K mg) (F : L2.Fun K "check_sums" "check_sums" s_check_sums f fd) (G_check_row_of_sums : DefG P w K mg base CX0 3 "check_row_of_sums" T.f_check_row_of_sums T.fd_check_row_of_sums ["sums"] (spP K Lib.p_check_row_of_sums)) (G_is_within : DefG P w K mg base CX0 2 "is_within" T.f_is_within T.fd_is_within ["thing", "low", "high"] (spP K Lib.p_is_within)) :
    FnG P w K mg base CX0 4 f fd ["sums", "length"] (spP K Lib.p_check_sums) := by
  refine okPn (m := Lib.m_check_sums) (k := 3) F sc_check_sums rfl rfl rfl fun cdv A out s H E hr gu => ?_
  refine ⟨_, (pss_cons (ps_expr (Ws.pg G_check_row_of_sums hr gu (pa_cons (pv 0) pa_nil)))
      (pss_one (ps_if (pt_not (pt_val (Ws.pg G_is_within hr gu (pa_cons (pv 1) (pa_cons pe_int (pa_cons (pe_callB (call_min2 rfl) (by rfl) T.z_min (by decide +kernel) (pa_cons (pe_glob (v := .int 8) rfl T.c_GREATEST_LENGTH.choose_spec ⟨_, rfl⟩) (pa_cons (pe_op op_sub (pe_op op_add (pe_glob (v := .int 67) rfl T.c_GREATEST_COUNT.choose_spec ⟨_, rfl⟩) pe_int) (pe_callB (lenA (K := K)) (by rfl) T.z_len (by decide +kernel) (pa_cons (pv 0) pa_nil))) pa_nil))) pa_nil))))))
      (pss_one ps_never)
      pss_nil))), ?_⟩
  exact (sv_seq (sv_expr (ev_call (av_cons ev_var av_nil)))
      (sv_if (tv_not (tv_B (ev_call (av_cons ev_var (av_cons ev_int (av_cons (ev_cb o_min2 (av_cons ev_int (av_cons (ev_op o_sub (ev_op o_add ev_int ev_int) (ev_cb o_len (av_cons ev_var av_nil))) av_nil))) av_nil))))))
      sv_never
      sv_nil))
theorem ok_check_most {f : Addr} {fd : FuncData} (T : Top K mg) (F : L2.Fun K "check_most" "check_most" s_check_most f fd) (G_is_within : DefG P w K mg base CX0 2 "is_within" T.f_is_within T.fd_is_within ["thing", "low", "high"] (spP K Lib.p_is_within)) :
    FnG P w K mg base CX0 3 f fd ["most"] (spP K Lib.p_check_most) := by
  refine okPn (m := Lib.m_check_most) (k := 2) F sc_check_most rfl rfl rfl fun cdv A out s H E hr gu => ?_
  refine ⟨_, (pss_one (ps_if (pt_not (pt_val (Ws.pg G_is_within hr gu (pa_cons (pv 0) (pa_cons pe_int (pa_cons (pe_glob (v := .int 999999999999999999999999999999) rfl T.c_GREATEST_MOST.choose_spec ⟨_, rfl⟩) pa_nil))))))
      (pss_one ps_never)
      pss_nil)), ?_⟩
  exact (sv_if (tv_not (tv_B (ev_call (av_cons ev_var (av_cons ev_int (av_cons ev_int av_nil))))))
      sv_never
      sv_nil)
theorem ok_check_told {f : Addr} {fd : FuncData} (T : Top K mg) (F : L2.Fun K "check_told" "check_told" s_check_told f fd) (G_check_sums : DefG P w K mg base CX0 4 "check_sums" T.f_check_sums T.fd_check_sums ["sums", "length"] (spP K Lib.p_check_sums)) (G_check_most : DefG P w K mg base CX0 3 "check_most" T.f_check_most T.fd_check_most ["most"] (spP K Lib.p_check_most)) :
    FnG P w K mg base CX0 5 f fd ["sums", "length", "most"] (spP K Lib.p_check_told) := by
  refine okPn (m := Lib.m_check_told) (k := 4) F sc_check_told rfl rfl rfl fun cdv A out s H E hr gu => ?_
  refine ⟨_, (pss_cons (ps_expr (Ws.pg G_check_sums hr gu (pa_cons (pv 0) (pa_cons (pv 1) pa_nil))))
      (pss_one (ps_expr (Ws.pg G_check_most hr gu (pa_cons (pv 2) pa_nil))))), ?_⟩
  exact (sv_seq (sv_expr (ev_call (av_cons ev_var (av_cons ev_var av_nil))))
      (sv_expr (ev_call (av_cons ev_var av_nil))))
theorem ok_offsets_of {f : Addr} {fd : FuncData} (T : Top K mg) (F : L2.Fun K "offsets_of" "offsets_of" s_offsets_of f fd)  :
    FnG P w K mg base CX0 1 f fd ["sums", "length"] (spP K Lib.p_offsets_of) := by
  refine okPn (m := Lib.m_offsets_of) (k := 0) F sc_offsets_of rfl rfl rfl fun cdv A out s H E hr gu => ?_
  refine ⟨_, (pss_cons (ps_set (i := 2) sc_offsets_of.nd rfl (.inl rfl) (pe_op op_rep (pe_lst (pa_cons pe_int pa_nil)) (pv 1)))
      (pss_cons (ps_for PassesOwn.never rfl (pi_range1 (by rfl) T.z_range (pa_cons (pe_op op_sub (pe_callB (lenA (K := K)) (by rfl) T.z_len (by decide +kernel) (pa_cons (pv 0) pa_nil)) pe_int) pa_nil)) (pg_name (i := 3) sc_offsets_of.nd rfl (.inl rfl))
      (pss_one (ps_expr (bmK (K := K) (pe_bm PySem.F.plainAttrs_list PySem.F.slot_list_append PySem.F.type_list_append mt_append (pv 2) (pa_cons (pe_op op_sub (pe_op op_add (pe_ix (ixA (K := K)) (pv 2) (pv 3) (fun _ _ => rfl)) (pe_ix (ixA (K := K)) (pv 0) (pe_op op_add (pv 3) pe_int) (fun _ _ => rfl))) (pe_ix (ixA (K := K)) (pv 0) (pv 3) (fun _ _ => rfl))) pa_nil))))))
      (pss_one (ps_ret (pv 2))))), ?_⟩
  exact (sv_seq (sv_set (ev_op o_rep (ev_lst (av_cons ev_int av_nil)) ev_var))
      (sv_seq (sv_for (iv_rng1 (ev_op o_sub (ev_cb o_len (av_cons ev_var av_nil)) ev_int)) gv_name
      (sv_expr (ev_app (ev_op o_sub (ev_op o_add (ev_op o_ix ev_var ev_var) (ev_op o_ix ev_var (ev_op o_add ev_var ev_int))) (ev_op o_ix ev_var ev_var)))))
      (sv_ret ev_var)))
theorem ok_first_apart {f : Addr} {fd : FuncData} (T : Top K mg) (F : L2.Fun K "first_apart" "first_apart" s_first_apart f fd)  :
    FnG P w K mg base CX0 1 f fd ["offsets", "length", "most"] (spP K Lib.p_first_apart) := by
  refine okPn (m := Lib.m_first_apart) (k := 0) F sc_first_apart rfl rfl rfl fun cdv A out s H E hr gu => ?_
  refine ⟨_, (pss_cons (ps_for PassesOwn.never rfl (pi_range1 (by rfl) T.z_range (pa_cons (pe_callB (lenA (K := K)) (by rfl) T.z_len (by decide +kernel) (pa_cons (pv 0) pa_nil)) pa_nil)) (pg_name (i := 3) sc_first_apart.nd rfl (.inl rfl))
      (pss_one (ps_for PassesOwn.never rfl (pi_range3 (by rfl) T.z_range (pa_cons (pe_op op_add (pv 3) (pv 1)) (pa_cons (pe_callB (lenA (K := K)) (by rfl) T.z_len (by decide +kernel) (pa_cons (pv 0) pa_nil)) (pa_cons (pv 1) pa_nil)))) (pg_name (i := 4) sc_first_apart.nd rfl (.inl rfl))
      (pss_one (ps_if (pt_cmpR op_gt (pe_callB call_abs (by rfl) T.z_abs (by decide +kernel) (pa_cons (pe_op op_sub (pe_ix (ixA (K := K)) (pv 0) (pv 4) (fun _ _ => rfl)) (pe_ix (ixA (K := K)) (pv 0) (pv 3) (fun _ _ => rfl))) pa_nil)) (pv 2) (nomark _))
      (pss_one (ps_ret (pe_lst (pa_cons (pv 3) (pa_cons (pv 4) pa_nil)))))
      pss_nil)))))
      (pss_one (ps_ret pe_non))), ?_⟩
  exact (sv_seq (sv_for (iv_rng1 (ev_cb o_len (av_cons ev_var av_nil))) gv_name
      (sv_for (iv_rng3 (ev_op o_add ev_var ev_var) (ev_cb o_len (av_cons ev_var av_nil)) ev_var) gv_name
      (sv_if (tv_tst (ev_op o_gt (ev_cb o_abs (av_cons (ev_op o_sub (ev_op o_ix ev_var ev_var) (ev_op o_ix ev_var ev_var)) av_nil)) ev_var))
      (sv_ret (ev_lst (av_cons ev_var (av_cons ev_var av_nil))))
      sv_nil)))
      (sv_ret ev_non))
theorem ok_lowest_days {f : Addr} {fd : FuncData} (T : Top K mg) (F : L2.Fun K "lowest_days" "lowest_days" s_lowest_days f fd)  :
    FnG P w K mg base CX0 1 f fd ["offsets", "length"] (spP K Lib.p_lowest_days) := by
  refine okPn (m := Lib.m_lowest_days) (k := 0) F sc_lowest_days rfl rfl rfl fun cdv A out s H E hr gu => ?_
  refine ⟨_, (pss_cons (ps_set (i := 2) sc_lowest_days.nd rfl (.inl rfl) (pe_lst pa_nil))
      (pss_cons (ps_for PassesOwn.never rfl (pi_range1 (by rfl) T.z_range (pa_cons (pv 1) pa_nil)) (pg_name (i := 3) sc_lowest_days.nd rfl (.inl rfl))
      (pss_cons (ps_asg (pe_callB (minQ (K := K) rfl hr.units) (by rfl) T.z_min (by decide +kernel) (pa_cons (pe_lc (own := [("day", 6)]) (g := gName 6) (tt := tYes) (by rfl) sc_lowest_days.nd (pi_range3 (by rfl) T.z_range (pa_cons (pv 3) (pa_cons (pe_callB (lenA (K := K)) (by rfl) T.z_len (by decide +kernel) (pa_cons (pv 0) pa_nil)) (pa_cons (pv 1) pa_nil)))) (blkOk_by (N := ["offsets", "length", "days", "start", "_", "lowest", "day"]) (sc := defScope s_lowest_days) (by decide +kernel)) (fun _ _ _ _ _ => (pg_name (i := 6) sc_lowest_days.nd rfl (Or.inl rfl))) (fun _ _ _ _ _ => pts_nil) (fun _ _ _ _ _ => (pe_tup (pa_cons (pe_ix (ixA (K := K)) (pv 0) (pv 6) (fun _ _ => rfl)) (pa_cons (pv 6) pa_nil))))) pa_nil)) (pgT (K := K) (n := 2) (by rfl) (pgs_cons (pg_name (i := 4) sc_lowest_days.nd rfl (.inl rfl)) (pgs_cons (pg_name (i := 5) sc_lowest_days.nd rfl (.inl rfl)) pgs_nil))))
      (pss_one (ps_expr (bmK (K := K) (pe_bm PySem.F.plainAttrs_list PySem.F.slot_list_append PySem.F.type_list_append mt_append (pv 2) (pa_cons (pv 5) pa_nil)))))))
      (pss_one (ps_ret (pe_callB (sortL (K := K)) (by rfl) T.z_sorted (by decide +kernel) (pa_cons (pv 2) pa_nil)))))), ?_⟩
  exact (sv_seq (sv_set (ev_lst av_nil))
      (sv_seq (sv_for (iv_rng1 ev_var) gv_name
      (sv_seq (sv_asg (ev_cb o_minQ (av_cons (ev_comp (vs := [6]) (iv_rng3 ev_var (ev_cb o_len (av_cons ev_var av_nil)) ev_var) gv_name tv_yes (ev_tup (av_cons (ev_op o_ix ev_var ev_var) (av_cons ev_var av_nil)))) av_nil)) (gv_tup (gvs_cons gv_name (gvs_cons gv_name gvs_nil)) (gsCons_len (gsCons_len (fun _ _ _ h => gsNil_len h)))))
      (sv_expr (ev_app ev_var))))
      (sv_ret (ev_cb o_sorted (av_cons ev_var av_nil)))))
theorem ok_total_at {f : Addr} {fd : FuncData} (T : Top K mg) (F : L2.Fun K "total_at" "total_at" s_total_at f fd)  :
    FnG P w K mg base CX0 1 f fd ["sums", "offsets", "days"] (spP K Lib.p_total_at) := by
  refine okPn (m := Lib.m_total_at) (k := 0) F sc_total_at rfl rfl rfl fun cdv A out s H E hr gu => ?_
  refine ⟨_, (pss_one (ps_ret (pe_op op_add (pe_ix (ixA (K := K)) (pv 0) pe_int (fun _ _ => rfl)) (pe_callB (sumL (K := K) rfl) (by rfl) T.z_sum (by decide +kernel) (pa_cons (pe_lc (own := [("day", 3)]) (g := gName 3) (tt := tYes) (by rfl) sc_total_at.nd (piL (K := K) (pv 2)) (blkOk_by (N := ["sums", "offsets", "days", "day"]) (sc := defScope s_total_at) (by decide +kernel)) (fun _ _ _ _ _ => (pg_name (i := 3) sc_total_at.nd rfl (Or.inl rfl))) (fun _ _ _ _ _ => pts_nil) (fun _ _ _ _ _ => (pe_ix (ixA (K := K)) (pv 1) (pv 3) (fun _ _ => rfl)))) pa_nil))))), ?_⟩
  exact (sv_ret (ev_op o_add (ev_op o_ix ev_var ev_int) (ev_cb o_sum (av_cons (ev_comp (vs := [3]) (iv_list ev_var) gv_name tv_yes (ev_op o_ix ev_var ev_var)) av_nil))))
theorem ok_highest_days {f : Addr} {fd : FuncData} (T : Top K mg) (F : L2.Fun K "highest_days" "highest_days" s_highest_days f fd) (G_lowest_days : DefG P w K mg base CX0 1 "lowest_days" T.f_lowest_days T.fd_lowest_days ["offsets", "length"] (spP K Lib.p_lowest_days)) :
    FnG P w K mg base CX0 2 f fd ["offsets", "length"] (spP K Lib.p_highest_days) := by
  refine okPn (m := Lib.m_highest_days) (k := 1) F sc_highest_days rfl rfl rfl fun cdv A out s H E hr gu => ?_
  refine ⟨_, (pss_one (ps_ret (Ws.pg G_lowest_days hr gu (pa_cons (pe_lc (own := [("offset", 2)]) (g := gName 2) (tt := tYes) (by rfl) sc_highest_days.nd (piL (K := K) (pv 0)) (blkOk_by (N := ["offsets", "length", "offset"]) (sc := defScope s_highest_days) (by decide +kernel)) (fun _ _ _ _ _ => (pg_name (i := 2) sc_highest_days.nd rfl (Or.inl rfl))) (fun _ _ _ _ _ => pts_nil) (fun _ _ _ _ _ => (pe_un un_neg (pv 2)))) (pa_cons (pv 1) pa_nil))))), ?_⟩
  exact (sv_ret (ev_call (av_cons (ev_comp (vs := [2]) (iv_list ev_var) gv_name tv_yes (ev_un o_neg ev_var)) (av_cons ev_var av_nil))))
theorem ok_find_conflict {f : Addr} {fd : FuncData} (T : Top K mg) (F : L2.Fun K "find_conflict" "find_conflict" s_find_conflict f fd) (G_offsets_of : DefG P w K mg base CX0 1 "offsets_of" T.f_offsets_of T.fd_offsets_of ["sums", "length"] (spP K Lib.p_offsets_of)) (G_first_apart : DefG P w K mg base CX0 1 "first_apart" T.f_first_apart T.fd_first_apart ["offsets", "length", "most"] (spP K Lib.p_first_apart)) (G_lowest_days : DefG P w K mg base CX0 1 "lowest_days" T.f_lowest_days T.fd_lowest_days ["offsets", "length"] (spP K Lib.p_lowest_days)) (G_total_at : DefG P w K mg base CX0 1 "total_at" T.f_total_at T.fd_total_at ["sums", "offsets", "days"] (spP K Lib.p_total_at)) (G_highest_days : DefG P w K mg base CX0 2 "highest_days" T.f_highest_days T.fd_highest_days ["offsets", "length"] (spP K Lib.p_highest_days)) :
    FnG P w K mg base CX0 3 f fd ["sums", "length", "most"] (spP K Lib.p_find_conflict) := by
  refine okPn (m := Lib.m_find_conflict) (k := 2) F sc_find_conflict rfl rfl rfl fun cdv A out s H E hr gu => ?_
  refine ⟨_, (pss_cons (ps_set (i := 3) sc_find_conflict.nd rfl (.inl rfl) (Ws.pg G_offsets_of hr gu (pa_cons (pv 0) (pa_cons (pv 1) pa_nil))))
      (pss_cons (ps_set (i := 4) sc_find_conflict.nd rfl (.inl rfl) (Ws.pg G_first_apart hr gu (pa_cons (pv 3) (pa_cons (pv 1) (pa_cons (pv 2) pa_nil)))))
      (pss_cons (ps_if (pt_cmpR op_notN (pv 4) pe_non (nomark _))
      (pss_one (ps_ret (pe_tup (pa_cons pe_str (pa_cons (pv 4) pa_nil)))))
      pss_nil)
      (pss_cons (ps_set (i := 5) sc_find_conflict.nd rfl (.inl rfl) (Ws.pg G_lowest_days hr gu (pa_cons (pv 3) (pa_cons (pv 1) pa_nil))))
      (pss_cons (ps_if (pt_cmpR op_lt (Ws.pg G_total_at hr gu (pa_cons (pv 0) (pa_cons (pv 3) (pa_cons (pv 5) pa_nil)))) pe_int (nomark _))
      (pss_one (ps_ret (pe_tup (pa_cons pe_str (pa_cons (pv 5) pa_nil)))))
      pss_nil)
      (pss_cons (ps_set (i := 6) sc_find_conflict.nd rfl (.inl rfl) (Ws.pg G_highest_days hr gu (pa_cons (pv 3) (pa_cons (pv 1) pa_nil))))
      (pss_cons (ps_if (pt_cmpR op_gt (Ws.pg G_total_at hr gu (pa_cons (pv 0) (pa_cons (pv 3) (pa_cons (pv 6) pa_nil)))) (pe_op op_mulW (pv 1) (pv 2)) (nomark _))
      (pss_one (ps_ret (pe_tup (pa_cons pe_str (pa_cons (pv 6) pa_nil)))))
      pss_nil)
      (pss_one (ps_ret pe_non))))))))), ?_⟩
  exact (sv_seq (sv_set (ev_call (av_cons ev_var (av_cons ev_var av_nil))))
      (sv_seq (sv_set (ev_call (av_cons ev_var (av_cons ev_var (av_cons ev_var av_nil)))))
      (sv_seq (sv_if (tv_tst (ev_op o_notN ev_var ev_non))
      (sv_ret (ev_tup (av_cons ev_str (av_cons ev_var av_nil))))
      sv_nil)
      (sv_seq (sv_set (ev_call (av_cons ev_var (av_cons ev_var av_nil))))
      (sv_seq (sv_if (tv_tst (ev_op o_lt (ev_call (av_cons ev_var (av_cons ev_var (av_cons ev_var av_nil)))) ev_int))
      (sv_ret (ev_tup (av_cons ev_str (av_cons ev_var av_nil))))
      sv_nil)
      (sv_seq (sv_set (ev_call (av_cons ev_var (av_cons ev_var av_nil))))
      (sv_seq (sv_if (tv_tst (ev_op o_gt (ev_call (av_cons ev_var (av_cons ev_var (av_cons ev_var av_nil)))) (ev_op o_mul ev_var ev_var)))
      (sv_ret (ev_tup (av_cons ev_str (av_cons ev_var av_nil))))
      sv_nil)
      (sv_ret ev_non))))))))
theorem ok_need_way {f : Addr} {fd : FuncData} (T : Top K mg) (F : L2.Fun K "need_way" "need_way" s_need_way f fd) (G_find_conflict : DefG P w K mg base CX0 3 "find_conflict" T.f_find_conflict T.fd_find_conflict ["sums", "length", "most"] (spP K Lib.p_find_conflict)) :
    FnG P w K mg base CX0 4 f fd ["sums", "length", "most"] (spP K Lib.p_need_way) := by
  refine okPn (m := Lib.m_need_way) (k := 3) F sc_need_way rfl rfl rfl fun cdv A out s H E hr gu => ?_
  refine ⟨_, (pss_cons (ps_set (i := 3) sc_need_way.nd rfl (.inl rfl) (Ws.pg G_find_conflict hr gu (pa_cons (pv 0) (pa_cons (pv 1) (pa_cons (pv 2) pa_nil)))))
      (pss_one (ps_if (pt_cmpR op_notN (pv 3) pe_non (nomark _))
      (pss_cons (ps_asg (pv 3) (pgT (K := K) (n := 2) (by rfl) (pgs_cons (pg_name (i := 4) sc_need_way.nd rfl (.inl rfl)) (pgs_cons (pg_name (i := 5) sc_need_way.nd rfl (.inl rfl)) pgs_nil))))
      (pss_one ps_never))
      pss_nil))), ?_⟩
  exact (sv_seq (sv_set (ev_call (av_cons ev_var (av_cons ev_var (av_cons ev_var av_nil)))))
      (sv_if (tv_tst (ev_op o_notN ev_var ev_non))
      (sv_seq (sv_asg ev_var (gv_tup (gvs_cons gv_name (gvs_cons gv_name gvs_nil)) (gsCons_len (gsCons_len (fun _ _ _ h => gsNil_len h)))))
      sv_never)
      sv_nil))
theorem ok_least_high {f : Addr} {fd : FuncData} (T : Top K mg) (F : L2.Fun K "least_high" "least_high" s_least_high f fd) (G_total_at : DefG P w K mg base CX0 1 "total_at" T.f_total_at T.fd_total_at ["sums", "offsets", "days"] (spP K Lib.p_total_at)) (G_highest_days : DefG P w K mg base CX0 2 "highest_days" T.f_highest_days T.fd_highest_days ["offsets", "length"] (spP K Lib.p_highest_days)) :
    FnG P w K mg base CX0 3 f fd ["sums", "offsets", "length"] (spP K Lib.p_least_high) := by
  refine okPn (m := Lib.m_least_high) (k := 2) F sc_least_high rfl rfl rfl fun cdv A out s H E hr gu => ?_
  refine ⟨_, (pss_one (ps_ret (pe_un un_neg (pe_op op_fdivW (pe_un un_neg (Ws.pg G_total_at hr gu (pa_cons (pv 0) (pa_cons (pv 1) (pa_cons (Ws.pg G_highest_days hr gu (pa_cons (pv 1) (pa_cons (pv 2) pa_nil))) pa_nil))))) (pv 2))))), ?_⟩
  exact (sv_ret (ev_un o_neg (ev_op o_div (ev_un o_neg (ev_call (av_cons ev_var (av_cons ev_var (av_cons (ev_call (av_cons ev_var (av_cons ev_var av_nil))) av_nil))))) ev_var)))
theorem ok_greatest_low {f : Addr} {fd : FuncData} (T : Top K mg) (F : L2.Fun K "greatest_low" "greatest_low" s_greatest_low f fd) (G_total_at : DefG P w K mg base CX0 1 "total_at" T.f_total_at T.fd_total_at ["sums", "offsets", "days"] (spP K Lib.p_total_at)) (G_lowest_days : DefG P w K mg base CX0 1 "lowest_days" T.f_lowest_days T.fd_lowest_days ["offsets", "length"] (spP K Lib.p_lowest_days)) :
    FnG P w K mg base CX0 2 f fd ["sums", "offsets", "length"] (spP K Lib.p_greatest_low) := by
  refine okPn (m := Lib.m_greatest_low) (k := 1) F sc_greatest_low rfl rfl rfl fun cdv A out s H E hr gu => ?_
  refine ⟨_, (pss_one (ps_ret (pe_op op_fdivW (Ws.pg G_total_at hr gu (pa_cons (pv 0) (pa_cons (pv 1) (pa_cons (Ws.pg G_lowest_days hr gu (pa_cons (pv 1) (pa_cons (pv 2) pa_nil))) pa_nil)))) (pv 2)))), ?_⟩
  exact (sv_ret (ev_op o_div (ev_call (av_cons ev_var (av_cons ev_var (av_cons (ev_call (av_cons ev_var (av_cons ev_var av_nil))) av_nil)))) ev_var))
theorem ok_widest_tie {f : Addr} {fd : FuncData} (T : Top K mg) (F : L2.Fun K "widest_tie" "widest_tie" s_widest_tie f fd)  :
    FnG P w K mg base CX0 1 f fd ["offsets", "length"] (spP K Lib.p_widest_tie) := by
  refine okPn (m := Lib.m_widest_tie) (k := 0) F sc_widest_tie rfl rfl rfl fun cdv A out s H E hr gu => ?_
  refine ⟨_, (pss_cons (ps_setLc (i := 2) (own := [("start", 3)]) (g := gName 3) (tt := tYes) (by rfl) sc_widest_tie.nd rfl rfl (sw_true rfl rfl rfl (by decide +kernel)) (pi_range1 (by rfl) T.z_range (pa_cons (pv 1) pa_nil)) (blkOk_by (N := ["offsets", "length", "rows", "start", "row"]) (sc := defScope s_widest_tie) (by decide +kernel)) (fun _ _ _ _ _ => (pg_name (i := 3) sc_widest_tie.nd rfl (Or.inl rfl))) (fun _ _ _ _ _ => pts_nil) (fun _ _ _ _ _ => (pe_stepL (K := K) (pv 0) (pv 3) (pv 1))))
      (pss_one (ps_ret (pe_callB (maxL (K := K) rfl) (by rfl) T.z_max (by decide +kernel) (pa_cons (pe_lc (own := [("row", 4)]) (g := gName 4) (tt := tYes) (by rfl) sc_widest_tie.nd (piL (K := K) (pv 2)) (blkOk_by (N := ["offsets", "length", "rows", "start", "row"]) (sc := defScope s_widest_tie) (by decide +kernel)) (fun _ _ _ _ _ => (pg_name (i := 4) sc_widest_tie.nd rfl (Or.inl rfl))) (fun _ _ _ _ _ => pts_nil) (fun _ _ _ _ _ => (pe_op op_sub (pe_callB (maxL (K := K) rfl) (by rfl) T.z_max (by decide +kernel) (pa_cons (pv 4) pa_nil)) (pe_callB (minL (K := K) rfl) (by rfl) T.z_min (by decide +kernel) (pa_cons (pv 4) pa_nil))))) pa_nil))))), ?_⟩
  exact (sv_seq (sv_set (ev_comp (vs := [3]) (iv_rng1 ev_var) gv_name tv_yes (ev_step ev_var (ov_some ev_var) (ov_some ev_var))))
      (sv_ret (ev_cb o_maxL (av_cons (ev_comp (vs := [4]) (iv_list ev_var) gv_name tv_yes (ev_op o_sub (ev_cb o_maxL (av_cons ev_var av_nil)) (ev_cb o_minL (av_cons ev_var av_nil)))) av_nil))))
theorem ok_least_spread {f : Addr} {fd : FuncData} (T : Top K mg) (F : L2.Fun K "least_spread" "least_spread" s_least_spread f fd) (G_check_told : DefG P w K mg base CX0 5 "check_told" T.f_check_told T.fd_check_told ["sums", "length", "most"] (spP K Lib.p_check_told)) (G_need_way : DefG P w K mg base CX0 4 "need_way" T.f_need_way T.fd_need_way ["sums", "length", "most"] (spP K Lib.p_need_way)) (G_offsets_of : DefG P w K mg base CX0 1 "offsets_of" T.f_offsets_of T.fd_offsets_of ["sums", "length"] (spP K Lib.p_offsets_of)) (G_least_high : DefG P w K mg base CX0 3 "least_high" T.f_least_high T.fd_least_high ["sums", "offsets", "length"] (spP K Lib.p_least_high)) (G_greatest_low : DefG P w K mg base CX0 2 "greatest_low" T.f_greatest_low T.fd_greatest_low ["sums", "offsets", "length"] (spP K Lib.p_greatest_low)) (G_widest_tie : DefG P w K mg base CX0 1 "widest_tie" T.f_widest_tie T.fd_widest_tie ["offsets", "length"] (spP K Lib.p_widest_tie)) :
    FnG P w K mg base CX0 6 f fd ["sums", "length", "most"] (spP K Lib.p_least_spread) := by
  refine okPn (m := Lib.m_least_spread) (k := 5) F sc_least_spread rfl rfl rfl fun cdv A out s H E hr gu => ?_
  refine ⟨_, (pss_cons (ps_expr (Ws.pg G_check_told hr gu (pa_cons (pv 0) (pa_cons (pv 1) (pa_cons (pv 2) pa_nil)))))
      (pss_cons (ps_expr (Ws.pg G_need_way hr gu (pa_cons (pv 0) (pa_cons (pv 1) (pa_cons (pv 2) pa_nil)))))
      (pss_cons (ps_set (i := 3) sc_least_spread.nd rfl (.inl rfl) (Ws.pg G_offsets_of hr gu (pa_cons (pv 0) (pa_cons (pv 1) pa_nil))))
      (pss_cons (ps_set (i := 4) sc_least_spread.nd rfl (.inl rfl) (pe_op op_sub (Ws.pg G_least_high hr gu (pa_cons (pv 0) (pa_cons (pv 3) (pa_cons (pv 1) pa_nil)))) (Ws.pg G_greatest_low hr gu (pa_cons (pv 0) (pa_cons (pv 3) (pa_cons (pv 1) pa_nil))))))
      (pss_one (ps_ret (pe_callB (call_max2 rfl) (by rfl) T.z_max (by decide +kernel) (pa_cons (Ws.pg G_widest_tie hr gu (pa_cons (pv 3) (pa_cons (pv 1) pa_nil))) (pa_cons (pv 4) pa_nil))))))))), ?_⟩
  exact (sv_seq (sv_expr (ev_call (av_cons ev_var (av_cons ev_var (av_cons ev_var av_nil)))))
      (sv_seq (sv_expr (ev_call (av_cons ev_var (av_cons ev_var (av_cons ev_var av_nil)))))
      (sv_seq (sv_set (ev_call (av_cons ev_var (av_cons ev_var av_nil))))
      (sv_seq (sv_set (ev_op o_sub (ev_call (av_cons ev_var (av_cons ev_var (av_cons ev_var av_nil)))) (ev_call (av_cons ev_var (av_cons ev_var (av_cons ev_var av_nil))))))
      (sv_ret (ev_cb o_max2 (av_cons (ev_call (av_cons ev_var (av_cons ev_var av_nil))) (av_cons ev_var av_nil))))))))
theorem ok_floor_of {f : Addr} {fd : FuncData} (T : Top K mg) (F : L2.Fun K "floor_of" "floor_of" s_floor_of f fd) (G_offsets_of : DefG P w K mg base CX0 1 "offsets_of" T.f_offsets_of T.fd_offsets_of ["sums", "length"] (spP K Lib.p_offsets_of)) (G_greatest_low : DefG P w K mg base CX0 2 "greatest_low" T.f_greatest_low T.fd_greatest_low ["sums", "offsets", "length"] (spP K Lib.p_greatest_low)) (G_widest_tie : DefG P w K mg base CX0 1 "widest_tie" T.f_widest_tie T.fd_widest_tie ["offsets", "length"] (spP K Lib.p_widest_tie)) :
    FnG P w K mg base CX0 3 f fd ["sums", "length", "most"] (spP K Lib.p_floor_of) := by
  refine okPn (m := Lib.m_floor_of) (k := 2) F sc_floor_of rfl rfl rfl fun cdv A out s H E hr gu => ?_
  refine ⟨_, (pss_cons (ps_set (i := 3) sc_floor_of.nd rfl (.inl rfl) (Ws.pg G_offsets_of hr gu (pa_cons (pv 0) (pa_cons (pv 1) pa_nil))))
      (pss_one (ps_ret (pe_callB (call_min2 rfl) (by rfl) T.z_min (by decide +kernel) (pa_cons (pe_op op_sub (pv 2) (Ws.pg G_widest_tie hr gu (pa_cons (pv 3) (pa_cons (pv 1) pa_nil)))) (pa_cons (Ws.pg G_greatest_low hr gu (pa_cons (pv 0) (pa_cons (pv 3) (pa_cons (pv 1) pa_nil)))) pa_nil)))))), ?_⟩
  exact (sv_seq (sv_set (ev_call (av_cons ev_var (av_cons ev_var av_nil))))
      (sv_ret (ev_cb o_min2 (av_cons (ev_op o_sub ev_var (ev_call (av_cons ev_var (av_cons ev_var av_nil)))) (av_cons (ev_call (av_cons ev_var (av_cons ev_var (av_cons ev_var av_nil)))) av_nil)))))
theorem ok_greatest_floor {f : Addr} {fd : FuncData} (T : Top K mg) (F : L2.Fun K "greatest_floor" "greatest_floor" s_greatest_floor f fd) (G_check_told : DefG P w K mg base CX0 5 "check_told" T.f_check_told T.fd_check_told ["sums", "length", "most"] (spP K Lib.p_check_told)) (G_need_way : DefG P w K mg base CX0 4 "need_way" T.f_need_way T.fd_need_way ["sums", "length", "most"] (spP K Lib.p_need_way)) (G_floor_of : DefG P w K mg base CX0 3 "floor_of" T.f_floor_of T.fd_floor_of ["sums", "length", "most"] (spP K Lib.p_floor_of)) :
    FnG P w K mg base CX0 6 f fd ["sums", "length", "most"] (spP K Lib.p_greatest_floor) := by
  refine okPn (m := Lib.m_greatest_floor) (k := 5) F sc_greatest_floor rfl rfl rfl fun cdv A out s H E hr gu => ?_
  refine ⟨_, (pss_cons (ps_expr (Ws.pg G_check_told hr gu (pa_cons (pv 0) (pa_cons (pv 1) (pa_cons (pv 2) pa_nil)))))
      (pss_cons (ps_expr (Ws.pg G_need_way hr gu (pa_cons (pv 0) (pa_cons (pv 1) (pa_cons (pv 2) pa_nil)))))
      (pss_one (ps_ret (Ws.pg G_floor_of hr gu (pa_cons (pv 0) (pa_cons (pv 1) (pa_cons (pv 2) pa_nil)))))))), ?_⟩
  exact (sv_seq (sv_expr (ev_call (av_cons ev_var (av_cons ev_var (av_cons ev_var av_nil)))))
      (sv_seq (sv_expr (ev_call (av_cons ev_var (av_cons ev_var (av_cons ev_var av_nil)))))
      (sv_ret (ev_call (av_cons ev_var (av_cons ev_var (av_cons ev_var av_nil)))))))
theorem ok_peak_of {f : Addr} {fd : FuncData} (T : Top K mg) (F : L2.Fun K "peak_of" "peak_of" s_peak_of f fd) (G_offsets_of : DefG P w K mg base CX0 1 "offsets_of" T.f_offsets_of T.fd_offsets_of ["sums", "length"] (spP K Lib.p_offsets_of)) (G_least_high : DefG P w K mg base CX0 3 "least_high" T.f_least_high T.fd_least_high ["sums", "offsets", "length"] (spP K Lib.p_least_high)) (G_widest_tie : DefG P w K mg base CX0 1 "widest_tie" T.f_widest_tie T.fd_widest_tie ["offsets", "length"] (spP K Lib.p_widest_tie)) :
    FnG P w K mg base CX0 4 f fd ["sums", "length"] (spP K Lib.p_peak_of) := by
  refine okPn (m := Lib.m_peak_of) (k := 3) F sc_peak_of rfl rfl rfl fun cdv A out s H E hr gu => ?_
  refine ⟨_, (pss_cons (ps_set (i := 2) sc_peak_of.nd rfl (.inl rfl) (Ws.pg G_offsets_of hr gu (pa_cons (pv 0) (pa_cons (pv 1) pa_nil))))
      (pss_one (ps_ret (pe_callB (call_max2 rfl) (by rfl) T.z_max (by decide +kernel) (pa_cons (Ws.pg G_widest_tie hr gu (pa_cons (pv 2) (pa_cons (pv 1) pa_nil))) (pa_cons (Ws.pg G_least_high hr gu (pa_cons (pv 0) (pa_cons (pv 2) (pa_cons (pv 1) pa_nil)))) pa_nil)))))), ?_⟩
  exact (sv_seq (sv_set (ev_call (av_cons ev_var (av_cons ev_var av_nil))))
      (sv_ret (ev_cb o_max2 (av_cons (ev_call (av_cons ev_var (av_cons ev_var av_nil))) (av_cons (ev_call (av_cons ev_var (av_cons ev_var (av_cons ev_var av_nil)))) av_nil)))))
theorem ok_least_peak {f : Addr} {fd : FuncData} (T : Top K mg) (F : L2.Fun K "least_peak" "least_peak" s_least_peak f fd) (G_check_told : DefG P w K mg base CX0 5 "check_told" T.f_check_told T.fd_check_told ["sums", "length", "most"] (spP K Lib.p_check_told)) (G_need_way : DefG P w K mg base CX0 4 "need_way" T.f_need_way T.fd_need_way ["sums", "length", "most"] (spP K Lib.p_need_way)) (G_peak_of : DefG P w K mg base CX0 4 "peak_of" T.f_peak_of T.fd_peak_of ["sums", "length"] (spP K Lib.p_peak_of)) :
    FnG P w K mg base CX0 6 f fd ["sums", "length", "most"] (spP K Lib.p_least_peak) := by
  refine okPn (m := Lib.m_least_peak) (k := 5) F sc_least_peak rfl rfl rfl fun cdv A out s H E hr gu => ?_
  refine ⟨_, (pss_cons (ps_expr (Ws.pg G_check_told hr gu (pa_cons (pv 0) (pa_cons (pv 1) (pa_cons (pv 2) pa_nil)))))
      (pss_cons (ps_expr (Ws.pg G_need_way hr gu (pa_cons (pv 0) (pa_cons (pv 1) (pa_cons (pv 2) pa_nil)))))
      (pss_one (ps_ret (Ws.pg G_peak_of hr gu (pa_cons (pv 0) (pa_cons (pv 1) pa_nil))))))), ?_⟩
  exact (sv_seq (sv_expr (ev_call (av_cons ev_var (av_cons ev_var (av_cons ev_var av_nil)))))
      (sv_seq (sv_expr (ev_call (av_cons ev_var (av_cons ev_var (av_cons ev_var av_nil)))))
      (sv_ret (ev_call (av_cons ev_var (av_cons ev_var av_nil))))))
theorem ok_peak_paper {f : Addr} {fd : FuncData} (T : Top K mg) (F : L2.Fun K "peak_paper" "peak_paper" s_peak_paper f fd) (G_check_told : DefG P w K mg base CX0 5 "check_told" T.f_check_told T.fd_check_told ["sums", "length", "most"] (spP K Lib.p_check_told)) (G_need_way : DefG P w K mg base CX0 4 "need_way" T.f_need_way T.fd_need_way ["sums", "length", "most"] (spP K Lib.p_need_way)) (G_offsets_of : DefG P w K mg base CX0 1 "offsets_of" T.f_offsets_of T.fd_offsets_of ["sums", "length"] (spP K Lib.p_offsets_of)) (G_first_apart : DefG P w K mg base CX0 1 "first_apart" T.f_first_apart T.fd_first_apart ["offsets", "length", "most"] (spP K Lib.p_first_apart)) (G_peak_of : DefG P w K mg base CX0 4 "peak_of" T.f_peak_of T.fd_peak_of ["sums", "length"] (spP K Lib.p_peak_of)) (G_highest_days : DefG P w K mg base CX0 2 "highest_days" T.f_highest_days T.fd_highest_days ["offsets", "length"] (spP K Lib.p_highest_days)) :
    FnG P w K mg base CX0 6 f fd ["sums", "length", "most"] (spX K FrT p_peak_paper) := by
  refine okX frT_non (m := m_peak_paper) (k := 5) F sc_peak_paper rfl rfl rfl fun cdv A out s H E hr gu => ?_
  refine ⟨_, (pss_cons (ps_expr (Ws.pg G_check_told hr gu (pa_cons (pv 0) (pa_cons (pv 1) (pa_cons (pv 2) pa_nil)))))
      (pss_cons (ps_expr (Ws.pg G_need_way hr gu (pa_cons (pv 0) (pa_cons (pv 1) (pa_cons (pv 2) pa_nil)))))
      (pss_cons (ps_set (i := 3) sc_peak_paper.nd rfl (.inl rfl) (Ws.pg G_offsets_of hr gu (pa_cons (pv 0) (pa_cons (pv 1) pa_nil))))
      (pss_cons (ps_set (i := 4) sc_peak_paper.nd rfl (.inl rfl) (Ws.pg G_first_apart hr gu (pa_cons (pv 3) (pa_cons (pv 1) (pa_cons (pe_op op_sub (Ws.pg G_peak_of hr gu (pa_cons (pv 0) (pa_cons (pv 1) pa_nil))) pe_int) pa_nil)))))
      (pss_cons (ps_if (pt_cmpR op_notN (pv 4) pe_non (nomark _))
      (pss_one (ps_ret (pe_tup (pa_cons pe_str (pa_cons (pv 4) pa_nil)))))
      pss_nil)
      (pss_one (ps_ret (pe_tup (pa_cons pe_str (pa_cons (Ws.pg G_highest_days hr gu (pa_cons (pv 3) (pa_cons (pv 1) pa_nil))) pa_nil)))))))))), ?_⟩
  exact (svx_seq (svx_of (sv_expr (ev_call (av_cons ev_var (av_cons ev_var (av_cons ev_var av_nil))))) noRt_expr)
      (svx_seq (svx_of (sv_expr (ev_call (av_cons ev_var (av_cons ev_var (av_cons ev_var av_nil))))) noRt_expr)
      (svx_seq (svx_of (sv_set (ev_call (av_cons ev_var (av_cons ev_var av_nil)))) noRt_set)
      (svx_seq (svx_of (sv_set (ev_call (av_cons ev_var (av_cons ev_var (av_cons (ev_op o_sub (ev_call (av_cons ev_var (av_cons ev_var av_nil))) ev_int) av_nil))))) noRt_set)
      (svx_seq (svx_if (tv_tst (ev_op o_notN ev_var ev_non))
      (svx_ret (av_cons ev_str (av_cons ev_var av_nil)))
      (svx_of sv_nil noRt_skip))
      (svx_ret (av_cons ev_str (av_cons (ev_call (av_cons ev_var (av_cons ev_var av_nil))) av_nil))))))))
theorem ok__law_right {f : Addr} {fd : FuncData} (T : Top K mg) (F : L2.Fun K "_law_right" "_law_right" s__law_right f fd) (G__law_due : DefG P w K mg base CX0 2 "_law_due" T.f__law_due T.fd__law_due ["sums_here", "size", "top"] (spP K p__law_due)) (G_least_spread : DefG P w K mg base CX0 6 "least_spread" T.f_least_spread T.fd_least_spread ["sums", "length", "most"] (spP K Lib.p_least_spread)) (G_greatest_floor : DefG P w K mg base CX0 6 "greatest_floor" T.f_greatest_floor T.fd_greatest_floor ["sums", "length", "most"] (spP K Lib.p_greatest_floor)) (G_least_peak : DefG P w K mg base CX0 6 "least_peak" T.f_least_peak T.fd_least_peak ["sums", "length", "most"] (spP K Lib.p_least_peak)) (G_peak_paper : DefG P w K mg base CX0 6 "peak_paper" T.f_peak_paper T.fd_peak_paper ["sums", "length", "most"] (spX K FrT p_peak_paper)) :
    FnG P w K mg base CX0 7 f fd ["sums_here", "size", "top"] (spP K p__law_right) := by
  have kb_peak_paper_most_length_sums := kb_peak_paper_most_length_sums T.F_peak_paper
  refine okPn (m := m__law_right) (k := 6) F sc__law_right rfl rfl rfl fun cdv A out s H E hr gu => ?_
  refine ⟨_, (pss_cons (ps_par (i := 3) (j := 4) (by rfl) sc__law_right.nd rfl rfl (by decide) rfl rfl (pa_cons (pe_callTy (listA (K := K)) (by rfl) T.z_list (by decide +kernel) (pa_cons (pv 0) pa_nil)) (pa_cons (Ws.pg G__law_due hr gu (pa_cons (pv 0) (pa_cons (pv 1) (pa_cons (pv 2) pa_nil)))) pa_nil)) (by rfl))
      (pss_cons (ps_set (i := 5) sc__law_right.nd rfl (.inl rfl) (pe_lst (pa_cons (Ws.pg G_least_peak hr gu (pa_cons (pv 0) (pa_cons (pv 1) (pa_cons (pv 2) pa_nil)))) (pa_cons (Ws.pg G_greatest_floor hr gu (pa_cons (pv 0) (pa_cons (pv 1) (pa_cons (pv 2) pa_nil)))) (pa_cons (Ws.pg G_least_spread hr gu (pa_cons (pv 0) (pa_cons (pv 1) (pa_cons (pv 2) pa_nil)))) pa_nil)))))
      (pss_cons (ps_set (i := 6) sc__law_right.nd rfl (.inl rfl) (pgkw G_peak_paper hr gu kb_peak_paper_most_length_sums (pk_cons (pv 2) (pk_cons (pv 1) (pk_cons (pv 0) pk_nil)))))
      (pss_cons (ps_if (PW.pt (pw_or (pt_cmpR op_ne (pe_callB (reprL (K := K) gu hr.units) (by rfl) T.z_repr (by decide +kernel) (pa_cons (pe_op op_cat (pv 5) (pe_lst (pa_cons (pv 6) pa_nil))) pa_nil)) (pe_callB (reprL (K := K) gu hr.units) (by rfl) T.z_repr (by decide +kernel) (pa_cons (pv 4) pa_nil)) (nomark _)) (pw_or1 (pt_cmpR (neL (K := K) hr.units) (pv 0) (pv 3) (nomark _)))))
      (pss_one (ps_ret pe_bl)) pss_nil)
      (pss_cons (ps_expr (bmK (K := K) (pe_bm PySem.F.plainAttrs_list PySem.F.slot_list_append PySem.F.type_list_append mt_append (pe_ix (ixA (K := K)) (pv 6) pe_int (fun _ _ => rfl)) (pa_cons pe_non pa_nil))))
      (pss_one (ps_ret (pe_cmpR (eqL (K := K) hr.units) (Ws.pg G_peak_paper hr gu (pa_cons (pv 0) (pa_cons (pv 1) (pa_cons (pv 2) pa_nil)))) (pe_ix (ixA (K := K)) (pv 4) pe_int (fun _ _ => rfl)) (nomark _))))))))), ?_⟩
  exact (sv_seq (sv_par2 (av_cons (ev_cb o_list (av_cons ev_var av_nil)) (av_cons (ev_call (av_cons ev_var (av_cons ev_var (av_cons ev_var av_nil)))) av_nil)))
      (sv_seq (sv_set (ev_lst (av_cons (ev_call (av_cons ev_var (av_cons ev_var (av_cons ev_var av_nil)))) (av_cons (ev_call (av_cons ev_var (av_cons ev_var (av_cons ev_var av_nil)))) (av_cons (ev_call (av_cons ev_var (av_cons ev_var (av_cons ev_var av_nil)))) av_nil)))))
      (sv_frz (sv_frz (sv_frz (sv_melt (i := 6) (evsx_callK (is := [2, 1, 0]) (avs_var (avs_var (avs_var avs_nil))))
      (tv_or (tv_tst (ev_op o_neS (ev_cb o_repr (av_cons (ev_op o_cat ev_var (ev_lst (av_cons ev_var av_nil))) av_nil)) (ev_cb o_repr (av_cons ev_var av_nil)))) (tv_tst (ev_op o_ne ev_var ev_var)))
      (sv_ret ev_bl)
      (sv_ret (ev_op o_eq (ev_callX (av_cons ev_var (av_cons ev_var (av_cons ev_var av_nil)))) (ev_op o_ix ev_var ev_int)))))))))
theorem ok__law_sums {f : Addr} {fd : FuncData} (T : Top K mg) (F : L2.Fun K "_law_sums" "_law_sums" s__law_sums f fd)  :
    FnG P w K mg base CX0 1 f fd ["numbers_here", "size"] (spP K Lib.p__law_sums) := by
  refine okPn (m := Lib.m__law_sums) (k := 0) F sc__law_sums rfl rfl rfl fun cdv A out s H E hr gu => ?_
  refine ⟨_, (pss_cons (ps_set (i := 2) sc__law_sums.nd rfl (.inl rfl) (pe_lst pa_nil))
      (pss_cons (ps_for PassesOwn.never rfl (pi_range1 (by rfl) T.z_range (pa_cons (pe_op op_add (pe_op op_sub (pe_callB (lenA (K := K)) (by rfl) T.z_len (by decide +kernel) (pa_cons (pv 0) pa_nil)) (pv 1)) pe_int) pa_nil)) (pg_name (i := 3) sc__law_sums.nd rfl (.inl rfl))
      (pss_cons (ps_set (i := 4) sc__law_sums.nd rfl (.inl rfl) pe_int)
      (pss_cons (ps_for PassesOwn.never rfl (pi_range1 (by rfl) T.z_range (pa_cons (pv 1) pa_nil)) (pg_name (i := 5) sc__law_sums.nd rfl (.inl rfl))
      (pss_one (ps_set (i := 4) sc__law_sums.nd rfl (.inl rfl) (pe_op op_add (pv 4) (pe_ix (ixA (K := K)) (pv 0) (pe_op op_add (pv 3) (pv 5)) (fun _ _ => rfl))))))
      (pss_one (ps_expr (bmK (K := K) (pe_bm PySem.F.plainAttrs_list PySem.F.slot_list_append PySem.F.type_list_append mt_append (pv 2) (pa_cons (pv 4) pa_nil))))))))
      (pss_one (ps_ret (pv 2))))), ?_⟩
  exact (sv_seq (sv_set (ev_lst av_nil))
      (sv_seq (sv_for (iv_rng1 (ev_op o_add (ev_op o_sub (ev_cb o_len (av_cons ev_var av_nil)) ev_var) ev_int)) gv_name
      (sv_seq (sv_set ev_int)
      (sv_seq (sv_for (iv_rng1 ev_var) gv_name
      (sv_set (ev_op o_add ev_var (ev_op o_ix ev_var (ev_op o_add ev_var ev_var)))))
      (sv_expr (ev_app ev_var)))))
      (sv_ret ev_var)))
theorem ok__law_days {f : Addr} {fd : FuncData} (T : Top K mg) (F : L2.Fun K "_law_days" "_law_days" s__law_days f fd) (G__law_dip : DefG P w K mg base CX0 1 "_law_dip" T.f__law_dip T.fd__law_dip ["jar", "many"] (spJ K Lib.p__law_dip)) :
    FnG P w K mg base CX0 2 f fd ["jar", "many", "top"] (spJ K Lib.p__law_days) := by
  refine okJn (m := Lib.m__law_days) (k := 1) F sc__law_days rfl rfl rfl fun cdv A out s H E hr gu => ?_
  refine ⟨_, (pss_cons (ps_set (i := 3) sc__law_days.nd rfl (.inl rfl) (Ws.pg G__law_dip hr gu (pa_cons (pv 0) (pa_cons pe_int pa_nil))))
      (pss_cons (ps_setLc (i := 4) (own := [("turn", 5)]) (g := gName 5) (tt := tYes) (by rfl) sc__law_days.nd rfl rfl (sw_true rfl rfl rfl (by decide +kernel)) (pi_range1 (by rfl) T.z_range (pa_cons (pv 1) pa_nil)) (blkOk_by (N := ["jar", "many", "top", "way_here", "found", "turn", "one"]) (sc := defScope s__law_days) (by decide +kernel)) (fun _ _ _ _ _ => (pg_name (i := 5) sc__law_days.nd rfl (Or.inl rfl))) (fun _ _ _ _ _ => pts_nil) (fun _ _ _ _ _ => (Ws.pg G__law_dip hr gu (pa_cons (pv 0) (pa_cons (pe_op op_add (pv 2) pe_int) pa_nil)))))
      (pss_cons (ps_if (pt_cmpR (eqL (K := K) hr.units) (pv 3) pe_int (nomark _))
      (pss_one (ps_setLc (i := 4) (own := [("one", 6)]) (g := gName 6) (tt := tYes) (by rfl) sc__law_days.nd rfl rfl (sw_true rfl rfl rfl (by decide +kernel)) (piL (K := K) (pv 4)) (blkOk_by (N := ["jar", "many", "top", "way_here", "found", "turn", "one"]) (sc := defScope s__law_days) (by decide +kernel)) (fun _ _ _ _ _ => (pg_name (i := 6) sc__law_days.nd rfl (Or.inl rfl))) (fun _ _ _ _ _ => pts_nil) (fun _ _ _ _ _ => (pe_ix (ixA (K := K)) (pe_lst (pa_cons pe_int (pa_cons (pv 2) (pa_cons (pv 6) pa_nil)))) (Ws.pg G__law_dip hr gu (pa_cons (pv 0) (pa_cons pe_int pa_nil))) (fun _ _ => rfl)))))
      pss_nil)
      (pss_one (ps_ret (pv 4)))))), ?_⟩
  exact (sv_seq (sv_set (ev_callJ (av_cons ev_var (av_cons ev_int av_nil))))
      (sv_seq (sv_set (ev_comp (vs := [5]) (iv_rng1 ev_var) gv_name tv_yes (ev_callJ (av_cons ev_var (av_cons (ev_op o_add ev_var ev_int) av_nil)))))
      (sv_seq (sv_if (tv_tst (ev_op o_eq ev_var ev_int))
      (sv_set (ev_comp (vs := [6]) (iv_list ev_var) gv_name tv_yes (ev_op o_ix (ev_lst (av_cons ev_int (av_cons ev_var (av_cons ev_var av_nil)))) (ev_callJ (av_cons ev_var (av_cons ev_int av_nil))))))
      sv_nil)
      (sv_ret ev_var))))
theorem ok_law {f : Addr} {fd : FuncData} (T : Top K mg) (F : L2.Fun K "law" "law" s_law f fd) (G__law_jar : DefG P w K mg base CX0 1 "_law_jar" T.f__law_jar T.fd__law_jar ["script", "k"] (spP K Lib.p__law_jar)) (G__law_size : DefG P w K mg base CX0 2 "_law_size" T.f__law_size T.fd__law_size ["jar", "most_days"] (spJ K Lib.p__law_size)) (G__law_high : DefG P w K mg base CX0 3 "_law_high" T.f__law_high T.fd__law_high ["jar", "parts"] (spJ K Lib.p__law_high)) (G__law_right : DefG P w K mg base CX0 7 "_law_right" T.f__law_right T.fd__law_right ["sums_here", "size", "top"] (spP K p__law_right)) (G__law_sums : DefG P w K mg base CX0 1 "_law_sums" T.f__law_sums T.fd__law_sums ["numbers_here", "size"] (spP K Lib.p__law_sums)) (G__law_days : DefG P w K mg base CX0 2 "_law_days" T.f__law_days T.fd__law_days ["jar", "many", "top"] (spJ K Lib.p__law_days)) (G__law_dip : DefG P w K mg base CX0 1 "_law_dip" T.f__law_dip T.fd__law_dip ["jar", "many"] (spJ K Lib.p__law_dip)) (G_peak_paper : DefG P w K mg base CX0 6 "peak_paper" T.f_peak_paper T.fd_peak_paper ["sums", "length", "most"] (spX K FrT p_peak_paper)) :
    FnG P w K mg base CX0 8 f fd ["script"] (spP K p_law) := by
  refine okPn (m := m_law) (k := 7) F sc_law rfl rfl rfl fun cdv A out s H E hr gu => ?_
  refine ⟨_, (pss_cons (ps_for PassesOwn.never rfl (pi_range1 (by rfl) T.z_range (pa_cons (pe_callB (call_max2 rfl) (by rfl) T.z_max (by decide +kernel) (pa_cons pe_int (pa_cons (pe_callB (call_min2 rfl) (by rfl) T.z_min (by decide +kernel) (pa_cons pe_int (pa_cons (pe_callB (lenA (K := K)) (by rfl) T.z_len (by decide +kernel) (pa_cons (pv 0) pa_nil)) pa_nil))) pa_nil))) pa_nil)) (pg_name (i := 1) sc_law.nd rfl (.inl rfl))
      (pss_cons (ps_set (i := 2) sc_law.nd rfl (.inl rfl) (Ws.pg G__law_jar hr gu (pa_cons (pv 0) (pa_cons (pv 1) pa_nil))))
      (pss_one (ps_for PassesOwn.never rfl (pi_range1 (by rfl) T.z_range (pa_cons pe_int pa_nil)) (pg_name (i := 3) sc_law.nd rfl (.inl rfl))
      (pss_cons (ps_asg (Ws.pg G__law_size hr gu (pa_cons (pv 2) (pa_cons pe_int pa_nil))) (pgT (K := K) (n := 2) (by rfl) (pgs_cons (pg_name (i := 4) sc_law.nd rfl (.inl rfl)) (pgs_cons (pg_name (i := 5) sc_law.nd rfl (.inl rfl)) pgs_nil))))
      (pss_cons (ps_set (i := 6) sc_law.nd rfl (.inl rfl) (Ws.pg G__law_high hr gu (pa_cons (pv 2) (pa_cons pe_int pa_nil))))
      (pss_one (ps_if (pt_not (pt_val (Ws.pg G__law_right hr gu (pa_cons (Ws.pg G__law_sums hr gu (pa_cons (Ws.pg G__law_days hr gu (pa_cons (pv 2) (pa_cons (pv 5) (pa_cons (pv 6) pa_nil)))) (pa_cons (pv 4) pa_nil))) (pa_cons (pv 4) (pa_cons (pv 6) pa_nil))))))
      (pss_one (ps_ret pe_bl))
      pss_nil))))))))
      (pss_cons (ps_set (i := 2) sc_law.nd rfl (.inl rfl) (Ws.pg G__law_jar hr gu (pa_cons (pv 0) (pa_cons pe_int pa_nil))))
      (pss_cons (ps_for PassesOwn.never rfl (piT (K := K) (pe_tup (pa_cons pe_int (pa_cons pe_int (pa_cons (pe_op op_add pe_int (Ws.pg G__law_dip hr gu (pa_cons (pv 2) (pa_cons pe_int pa_nil)))) pa_nil))))) (pg_name (i := 4) sc_law.nd rfl (.inl rfl))
      (pss_one (ps_if (pt_not (pt_val (Ws.pg G__law_right hr gu (pa_cons (Ws.pg G__law_sums hr gu (pa_cons (Ws.pg G__law_days hr gu (pa_cons (pv 2) (pa_cons pe_int (pa_cons (pe_op Ws.op_powG pe_int pe_int) pa_nil)))) (pa_cons (pv 4) pa_nil))) (pa_cons (pv 4) (pa_cons (pe_op Ws.op_powG pe_int pe_int) pa_nil))))))
      (pss_one (ps_ret pe_bl))
      pss_nil)))
      (pss_cons (ps_for PassesOwn.never rfl (pi_range1 (by rfl) T.z_range (pa_cons pe_int pa_nil)) (pg_name (i := 3) sc_law.nd rfl (.inl rfl))
      (pss_cons (ps_par (i := 4) (j := 6) (by rfl) sc_law.nd rfl rfl (by decide) rfl rfl (pa_cons (pe_op op_add pe_int (Ws.pg G__law_dip hr gu (pa_cons (pv 2) (pa_cons pe_int pa_nil)))) (pa_cons (Ws.pg G__law_high hr gu (pa_cons (pv 2) (pa_cons pe_int pa_nil))) pa_nil)) (by rfl))
      (pss_one (ps_if (pt_not (pt_val (Ws.pg G__law_right hr gu (pa_cons (Ws.pg G__law_sums hr gu (pa_cons (Ws.pg G__law_days hr gu (pa_cons (pv 2) (pa_cons (pe_op op_add pe_int (Ws.pg G__law_dip hr gu (pa_cons (pv 2) (pa_cons pe_int pa_nil)))) (pa_cons (pv 6) pa_nil)))) (pa_cons (pv 4) pa_nil))) (pa_cons (pv 4) (pa_cons (pv 6) pa_nil))))))
      (pss_one (ps_ret pe_bl))
      pss_nil))))
      (pss_cons (ps_set (i := 7) sc_law.nd rfl (.inl rfl) (pe_lst (pa_cons (Ws.pg G_peak_paper hr gu (pa_cons (pe_lst (pa_cons pe_int (pa_cons pe_int (pa_cons pe_int pa_nil)))) (pa_cons pe_int (pa_cons pe_int pa_nil)))) (pa_cons (Ws.pg G_peak_paper hr gu (pa_cons (pe_lst (pa_cons pe_int (pa_cons pe_int pa_nil))) (pa_cons pe_int (pa_cons pe_int pa_nil)))) (pa_cons (Ws.pg G_peak_paper hr gu (pa_cons (pe_lst (pa_cons pe_int pa_nil)) (pa_cons pe_int (pa_cons pe_int pa_nil)))) (pa_cons (Ws.pg G_peak_paper hr gu (pa_cons (pe_lst (pa_cons pe_int (pa_cons pe_int (pa_cons pe_int pa_nil)))) (pa_cons pe_int (pa_cons pe_int pa_nil)))) pa_nil))))))
      (pss_one (ps_ret (pe_cmpR (eqL (K := K) hr.units) (pv 7) (pe_lst (pa_cons (pe_tup (pa_cons pe_str (pa_cons (pe_lst (pa_cons pe_int (pa_cons pe_int (pa_cons pe_int pa_nil)))) pa_nil))) (pa_cons (pe_tup (pa_cons pe_str (pa_cons (pe_lst (pa_cons pe_int (pa_cons pe_int pa_nil))) pa_nil))) (pa_cons (pe_tup (pa_cons pe_str (pa_cons (pe_lst (pa_cons pe_int (pa_cons pe_int pa_nil))) pa_nil))) (pa_cons (pe_tup (pa_cons pe_str (pa_cons (pe_lst (pa_cons pe_int (pa_cons pe_int pa_nil))) pa_nil))) pa_nil))))) (nomark _))))))))), ?_⟩
  exact (sv_seq (sv_for (iv_rng1 (ev_cb o_max2 (av_cons ev_int (av_cons (ev_cb o_min2 (av_cons ev_int (av_cons (ev_cb o_len (av_cons ev_var av_nil)) av_nil))) av_nil)))) gv_name
      (sv_seq (sv_set (ev_call (av_cons ev_var (av_cons ev_var av_nil))))
      (sv_for (iv_rng1 ev_int) gv_name
      (sv_seq (sv_asg (ev_callJ (av_cons ev_var (av_cons ev_int av_nil))) (gv_tup (gvs_cons gv_name (gvs_cons gv_name gvs_nil)) (gsCons_len (gsCons_len (fun _ _ _ h => gsNil_len h)))))
      (sv_seq (sv_set (ev_callJ (av_cons ev_var (av_cons ev_int av_nil))))
      (sv_if (tv_not (tv_B (ev_call (av_cons (ev_call (av_cons (ev_callJ (av_cons ev_var (av_cons ev_var (av_cons ev_var av_nil)))) (av_cons ev_var av_nil))) (av_cons ev_var (av_cons ev_var av_nil))))))
      (sv_ret ev_bl)
      sv_nil))))))
      (sv_seq (sv_set (ev_call (av_cons ev_var (av_cons ev_int av_nil))))
      (sv_seq (sv_for (iv_tup (ev_tup (av_cons ev_int (av_cons ev_int (av_cons (ev_op o_add ev_int (ev_callJ (av_cons ev_var (av_cons ev_int av_nil)))) av_nil))))) gv_name
      (sv_if (tv_not (tv_B (ev_call (av_cons (ev_call (av_cons (ev_callJ (av_cons ev_var (av_cons ev_int (av_cons (ev_op o_pow ev_int ev_int) av_nil)))) (av_cons ev_var av_nil))) (av_cons ev_var (av_cons (ev_op o_pow ev_int ev_int) av_nil))))))
      (sv_ret ev_bl)
      sv_nil))
      (sv_seq (sv_for (iv_rng1 ev_int) gv_name
      (sv_seq (sv_par2 (av_cons (ev_op o_add ev_int (ev_callJ (av_cons ev_var (av_cons ev_int av_nil)))) (av_cons (ev_callJ (av_cons ev_var (av_cons ev_int av_nil))) av_nil)))
      (sv_if (tv_not (tv_B (ev_call (av_cons (ev_call (av_cons (ev_callJ (av_cons ev_var (av_cons (ev_op o_add ev_int (ev_callJ (av_cons ev_var (av_cons ev_int av_nil)))) (av_cons ev_var av_nil)))) (av_cons ev_var av_nil))) (av_cons ev_var (av_cons ev_var av_nil))))))
      (sv_ret ev_bl)
      sv_nil)))
      (sv_seq (sv_set (ev_lst (av_cons (ev_callX (av_cons (ev_lst (av_cons ev_int (av_cons ev_int (av_cons ev_int av_nil)))) (av_cons ev_int (av_cons ev_int av_nil)))) (av_cons (ev_callX (av_cons (ev_lst (av_cons ev_int (av_cons ev_int av_nil))) (av_cons ev_int (av_cons ev_int av_nil)))) (av_cons (ev_callX (av_cons (ev_lst (av_cons ev_int av_nil)) (av_cons ev_int (av_cons ev_int av_nil)))) (av_cons (ev_callX (av_cons (ev_lst (av_cons ev_int (av_cons ev_int (av_cons ev_int av_nil)))) (av_cons ev_int (av_cons ev_int av_nil)))) av_nil))))))
      (sv_ret (ev_op o_eq ev_var (ev_lst (av_cons (ev_tup (av_cons ev_str (av_cons (ev_lst (av_cons ev_int (av_cons ev_int (av_cons ev_int av_nil)))) av_nil))) (av_cons (ev_tup (av_cons ev_str (av_cons (ev_lst (av_cons ev_int (av_cons ev_int av_nil))) av_nil))) (av_cons (ev_tup (av_cons ev_str (av_cons (ev_lst (av_cons ev_int (av_cons ev_int av_nil))) av_nil))) (av_cons (ev_tup (av_cons ev_str (av_cons (ev_lst (av_cons ev_int (av_cons ev_int av_nil))) av_nil))) av_nil))))))))))))
/-- the law's def is the function -/
theorem ok_all {f : Addr} {fd : FuncData} (T : Top K mg) (F : L2.Fun K "law" "law" s_law f fd) : FnG P w K mg base CX0 8 f fd ["script"] (spP K p_law) := by
  have G__law_jar : DefG P w K mg base CX0 1 "_law_jar" T.f__law_jar T.fd__law_jar ["script", "k"] (spP K Lib.p__law_jar) := ⟨ok__law_jar T T.F__law_jar, T.g__law_jar, T.F__law_jar.kp, T.b__law_jar⟩
  have G__law_dip : DefG P w K mg base CX0 1 "_law_dip" T.f__law_dip T.fd__law_dip ["jar", "many"] (spJ K Lib.p__law_dip) := ⟨ok__law_dip T T.F__law_dip, T.g__law_dip, T.F__law_dip.kp, T.b__law_dip⟩
  have G__law_size : DefG P w K mg base CX0 2 "_law_size" T.f__law_size T.fd__law_size ["jar", "most_days"] (spJ K Lib.p__law_size) := ⟨ok__law_size T T.F__law_size G__law_dip, T.g__law_size, T.F__law_size.kp, T.b__law_size⟩
  have G__law_top : DefG P w K mg base CX0 2 "_law_top" T.f__law_top T.fd__law_top ["jar"] (spJ K Lib.p__law_top) := ⟨ok__law_top T T.F__law_top G__law_dip, T.g__law_top, T.F__law_top.kp, T.b__law_top⟩
  have G__law_high : DefG P w K mg base CX0 3 "_law_high" T.f__law_high T.fd__law_high ["jar", "parts"] (spJ K Lib.p__law_high) := ⟨ok__law_high T T.F__law_high G__law_top, T.g__law_high, T.F__law_high.kp, T.b__law_high⟩
  have G__law_gaps : DefG P w K mg base CX0 1 "_law_gaps" T.f__law_gaps T.fd__law_gaps ["sums_here", "size"] (spP K Lib.p__law_gaps) := ⟨ok__law_gaps T T.F__law_gaps, T.g__law_gaps, T.F__law_gaps.kp, T.b__law_gaps⟩
  have G__law_ends : DefG P w K mg base CX0 1 "_law_ends" T.f__law_ends T.fd__law_ends ["gaps", "size", "sign"] (spP K p__law_ends) := ⟨ok__law_ends T T.F__law_ends, T.g__law_ends, T.F__law_ends.kp, T.b__law_ends⟩
  have G__law_due : DefG P w K mg base CX0 2 "_law_due" T.f__law_due T.fd__law_due ["sums_here", "size", "top"] (spP K p__law_due) := ⟨ok__law_due T T.F__law_due G__law_gaps G__law_ends, T.g__law_due, T.F__law_due.kp, T.b__law_due⟩
  have G_is_integer : DefG P w K mg base CX0 1 "is_integer" T.f_is_integer T.fd_is_integer ["thing"] (spP K Lib.p_is_integer) := ⟨ok_is_integer T T.F_is_integer, T.g_is_integer, T.F_is_integer.kp, T.b_is_integer⟩
  have G_is_row : DefG P w K mg base CX0 2 "is_row" T.f_is_row T.fd_is_row ["thing", "many"] (spP K Lib.p_is_row) := ⟨ok_is_row T T.F_is_row G_is_integer, T.g_is_row, T.F_is_row.kp, T.b_is_row⟩
  have G_check_row_of_sums : DefG P w K mg base CX0 3 "check_row_of_sums" T.f_check_row_of_sums T.fd_check_row_of_sums ["sums"] (spP K Lib.p_check_row_of_sums) := ⟨ok_check_row_of_sums T T.F_check_row_of_sums G_is_row, T.g_check_row_of_sums, T.F_check_row_of_sums.kp, T.b_check_row_of_sums⟩
  have G_is_within : DefG P w K mg base CX0 2 "is_within" T.f_is_within T.fd_is_within ["thing", "low", "high"] (spP K Lib.p_is_within) := ⟨ok_is_within T T.F_is_within G_is_integer, T.g_is_within, T.F_is_within.kp, T.b_is_within⟩
  have G_check_sums : DefG P w K mg base CX0 4 "check_sums" T.f_check_sums T.fd_check_sums ["sums", "length"] (spP K Lib.p_check_sums) := ⟨ok_check_sums T T.F_check_sums G_check_row_of_sums G_is_within, T.g_check_sums, T.F_check_sums.kp, T.b_check_sums⟩
  have G_check_most : DefG P w K mg base CX0 3 "check_most" T.f_check_most T.fd_check_most ["most"] (spP K Lib.p_check_most) := ⟨ok_check_most T T.F_check_most G_is_within, T.g_check_most, T.F_check_most.kp, T.b_check_most⟩
  have G_check_told : DefG P w K mg base CX0 5 "check_told" T.f_check_told T.fd_check_told ["sums", "length", "most"] (spP K Lib.p_check_told) := ⟨ok_check_told T T.F_check_told G_check_sums G_check_most, T.g_check_told, T.F_check_told.kp, T.b_check_told⟩
  have G_offsets_of : DefG P w K mg base CX0 1 "offsets_of" T.f_offsets_of T.fd_offsets_of ["sums", "length"] (spP K Lib.p_offsets_of) := ⟨ok_offsets_of T T.F_offsets_of, T.g_offsets_of, T.F_offsets_of.kp, T.b_offsets_of⟩
  have G_first_apart : DefG P w K mg base CX0 1 "first_apart" T.f_first_apart T.fd_first_apart ["offsets", "length", "most"] (spP K Lib.p_first_apart) := ⟨ok_first_apart T T.F_first_apart, T.g_first_apart, T.F_first_apart.kp, T.b_first_apart⟩
  have G_lowest_days : DefG P w K mg base CX0 1 "lowest_days" T.f_lowest_days T.fd_lowest_days ["offsets", "length"] (spP K Lib.p_lowest_days) := ⟨ok_lowest_days T T.F_lowest_days, T.g_lowest_days, T.F_lowest_days.kp, T.b_lowest_days⟩
  have G_total_at : DefG P w K mg base CX0 1 "total_at" T.f_total_at T.fd_total_at ["sums", "offsets", "days"] (spP K Lib.p_total_at) := ⟨ok_total_at T T.F_total_at, T.g_total_at, T.F_total_at.kp, T.b_total_at⟩
  have G_highest_days : DefG P w K mg base CX0 2 "highest_days" T.f_highest_days T.fd_highest_days ["offsets", "length"] (spP K Lib.p_highest_days) := ⟨ok_highest_days T T.F_highest_days G_lowest_days, T.g_highest_days, T.F_highest_days.kp, T.b_highest_days⟩
  have G_find_conflict : DefG P w K mg base CX0 3 "find_conflict" T.f_find_conflict T.fd_find_conflict ["sums", "length", "most"] (spP K Lib.p_find_conflict) := ⟨ok_find_conflict T T.F_find_conflict G_offsets_of G_first_apart G_lowest_days G_total_at G_highest_days, T.g_find_conflict, T.F_find_conflict.kp, T.b_find_conflict⟩
  have G_need_way : DefG P w K mg base CX0 4 "need_way" T.f_need_way T.fd_need_way ["sums", "length", "most"] (spP K Lib.p_need_way) := ⟨ok_need_way T T.F_need_way G_find_conflict, T.g_need_way, T.F_need_way.kp, T.b_need_way⟩
  have G_least_high : DefG P w K mg base CX0 3 "least_high" T.f_least_high T.fd_least_high ["sums", "offsets", "length"] (spP K Lib.p_least_high) := ⟨ok_least_high T T.F_least_high G_total_at G_highest_days, T.g_least_high, T.F_least_high.kp, T.b_least_high⟩
  have G_greatest_low : DefG P w K mg base CX0 2 "greatest_low" T.f_greatest_low T.fd_greatest_low ["sums", "offsets", "length"] (spP K Lib.p_greatest_low) := ⟨ok_greatest_low T T.F_greatest_low G_total_at G_lowest_days, T.g_greatest_low, T.F_greatest_low.kp, T.b_greatest_low⟩
  have G_widest_tie : DefG P w K mg base CX0 1 "widest_tie" T.f_widest_tie T.fd_widest_tie ["offsets", "length"] (spP K Lib.p_widest_tie) := ⟨ok_widest_tie T T.F_widest_tie, T.g_widest_tie, T.F_widest_tie.kp, T.b_widest_tie⟩
  have G_least_spread : DefG P w K mg base CX0 6 "least_spread" T.f_least_spread T.fd_least_spread ["sums", "length", "most"] (spP K Lib.p_least_spread) := ⟨ok_least_spread T T.F_least_spread G_check_told G_need_way G_offsets_of G_least_high G_greatest_low G_widest_tie, T.g_least_spread, T.F_least_spread.kp, T.b_least_spread⟩
  have G_floor_of : DefG P w K mg base CX0 3 "floor_of" T.f_floor_of T.fd_floor_of ["sums", "length", "most"] (spP K Lib.p_floor_of) := ⟨ok_floor_of T T.F_floor_of G_offsets_of G_greatest_low G_widest_tie, T.g_floor_of, T.F_floor_of.kp, T.b_floor_of⟩
  have G_greatest_floor : DefG P w K mg base CX0 6 "greatest_floor" T.f_greatest_floor T.fd_greatest_floor ["sums", "length", "most"] (spP K Lib.p_greatest_floor) := ⟨ok_greatest_floor T T.F_greatest_floor G_check_told G_need_way G_floor_of, T.g_greatest_floor, T.F_greatest_floor.kp, T.b_greatest_floor⟩
  have G_peak_of : DefG P w K mg base CX0 4 "peak_of" T.f_peak_of T.fd_peak_of ["sums", "length"] (spP K Lib.p_peak_of) := ⟨ok_peak_of T T.F_peak_of G_offsets_of G_least_high G_widest_tie, T.g_peak_of, T.F_peak_of.kp, T.b_peak_of⟩
  have G_least_peak : DefG P w K mg base CX0 6 "least_peak" T.f_least_peak T.fd_least_peak ["sums", "length", "most"] (spP K Lib.p_least_peak) := ⟨ok_least_peak T T.F_least_peak G_check_told G_need_way G_peak_of, T.g_least_peak, T.F_least_peak.kp, T.b_least_peak⟩
  have G_peak_paper : DefG P w K mg base CX0 6 "peak_paper" T.f_peak_paper T.fd_peak_paper ["sums", "length", "most"] (spX K FrT p_peak_paper) := ⟨ok_peak_paper T T.F_peak_paper G_check_told G_need_way G_offsets_of G_first_apart G_peak_of G_highest_days, T.g_peak_paper, T.F_peak_paper.kp, T.b_peak_paper⟩
  have G__law_right : DefG P w K mg base CX0 7 "_law_right" T.f__law_right T.fd__law_right ["sums_here", "size", "top"] (spP K p__law_right) := ⟨ok__law_right T T.F__law_right G__law_due G_least_spread G_greatest_floor G_least_peak G_peak_paper, T.g__law_right, T.F__law_right.kp, T.b__law_right⟩
  have G__law_sums : DefG P w K mg base CX0 1 "_law_sums" T.f__law_sums T.fd__law_sums ["numbers_here", "size"] (spP K Lib.p__law_sums) := ⟨ok__law_sums T T.F__law_sums, T.g__law_sums, T.F__law_sums.kp, T.b__law_sums⟩
  have G__law_days : DefG P w K mg base CX0 2 "_law_days" T.f__law_days T.fd__law_days ["jar", "many", "top"] (spJ K Lib.p__law_days) := ⟨ok__law_days T T.F__law_days G__law_dip, T.g__law_days, T.F__law_days.kp, T.b__law_days⟩
  exact ok_law T F G__law_jar G__law_size G__law_high G__law_right G__law_sums G__law_days G__law_dip G_peak_paper
end
end K14

set_option linter.all false
namespace Lib
/-! ### rooms that are filled: weights and sizes -/
def sw : List (Int × Int) → Int → Int
  | [], _ => 0
  | q :: t, s => q.1 * min q.2 s + sw t (s - min q.2 s)
def FillR : List (Int × Int) → List Int → Prop
  | [], [] => True
  | q :: t, y :: u => 0 ≤ y ∧ y ≤ q.2 ∧ FillR t u
  | _, _ => False
def wsum : List (Int × Int) → List Int → Int
  | q :: t, y :: u => q.1 * y + wsum t u
  | _, _ => 0
theorem FillR.len : ∀ {ps : List (Int × Int)} {ys : List Int}, FillR ps ys → ys.length = ps.length
  | [], [], _ => rfl
  | _ :: _, [], h => h.elim
  | [], _ :: _, h => h.elim
  | _ :: t, _ :: u, h => by rw [List.length_cons, List.length_cons, FillR.len h.2.2]
theorem FillR.pos : ∀ {ps : List (Int × Int)} {ys : List Int}, FillR ps ys → 0 ≤ ys.sum ∧ ys.sum ≤ (ps.map (·.2)).sum
  | [], [], _ => ⟨Int.le_refl _, Int.le_refl _⟩
  | _ :: _, [], h => h.elim
  | [], _ :: _, h => h.elim
  | q :: t, y :: u, h => by
    have := FillR.pos h.2.2
    have a := h.1
    have b := h.2.1
    simp only [List.sum_cons, List.map_cons]
    omega
theorem fill_perm {ps ps' : List (Int × Int)} (p : ps.Perm ps') : ∀ ys, FillR ps ys → ∃ ys', FillR ps' ys' ∧ ys'.sum = ys.sum ∧ wsum ps' ys' = wsum ps ys := by
  induction p with
  | nil => exact fun ys h => ⟨ys, h, rfl, rfl⟩
  | cons x p ih =>
    intro ys h
    match ys, h with
    | y :: u, h =>
      obtain ⟨u', h1, h2, h3⟩ := ih u h.2.2
      exact ⟨y :: u', ⟨h.1, h.2.1, h1⟩, by simp only [List.sum_cons, h2], by simp only [wsum, h3]⟩
  | swap x y l =>
    intro ys h
    match ys, h with
    | a :: b :: u, h => exact ⟨b :: a :: u, ⟨h.2.2.1, h.2.2.2.1, h.1, h.2.1, h.2.2.2.2⟩, by simp only [List.sum_cons]; omega, by simp only [wsum]; omega⟩
    | [_], h => exact h.2.2.elim
  | trans p q ih1 ih2 =>
    intro ys h
    obtain ⟨y1, a1, a2, a3⟩ := ih1 ys h
    obtain ⟨y2, b1, b2, b3⟩ := ih2 y1 a1
    exact ⟨y2, b1, by omega, by omega⟩
theorem fill_less {w : Int} : ∀ (ps : List (Int × Int)) (ys : List Int) (d : Int), FillR ps ys → (∀ q ∈ ps, w ≤ q.1) → 0 ≤ d → d ≤ ys.sum → ∃ ys', FillR ps ys' ∧ ys'.sum = ys.sum - d ∧ wsum ps ys' ≤ wsum ps ys - w * d
  | [], [], d, h, _, d0, d1 => ⟨[], trivial, by simp at d1 ⊢; omega, by
    have : d = 0 := by simp at d1; omega
    simp [wsum, this]⟩
  | _ :: _, [], _, h, _, _, _ => h.elim
  | [], _ :: _, _, h, _, _, _ => h.elim
  | q :: t, y :: u, d, h, hw, d0, d1 => by
    have hq := hw q List.mem_cons_self
    have a := h.1
    have b := h.2.1
    simp only [List.sum_cons] at d1
    have up := FillR.pos h.2.2
    obtain ⟨u', h1, h2, h3⟩ := fill_less t u (d - min y d) h.2.2 (fun q hq => hw q (List.mem_cons_of_mem _ hq)) (by omega) (by omega)
    refine ⟨(y - min y d) :: u', ⟨by omega, by omega, h1⟩, by simp only [List.sum_cons]; omega, ?_⟩
    simp only [wsum]
    have e : w * min y d ≤ q.1 * min y d := Int.mul_le_mul_of_nonneg_right hq (by omega)
    have e1 : q.1 * (y - min y d) = q.1 * y - q.1 * min y d := Int.mul_sub ..
    have e2 : w * (d - min y d) = w * d - w * min y d := Int.mul_sub ..
    omega
theorem sw_le : ∀ (ps : List (Int × Int)), ps.Pairwise (fun a b => a.1 ≤ b.1) → ∀ (ys : List Int) (s : Int), FillR ps ys → ys.sum = s → sw ps s ≤ wsum ps ys
  | [], _, [], s, _, _ => Int.le_refl _
  | _ :: _, _, [], _, h, _ => h.elim
  | [], _, _ :: _, _, h, _ => h.elim
  | q :: t, p, y :: u, s, h, hs => by
    have a := h.1
    have b := h.2.1
    simp only [List.sum_cons] at hs
    have up := FillR.pos h.2.2
    obtain ⟨u', h1, h2, h3⟩ := fill_less (w := q.1) t u (min q.2 s - y) h.2.2 (fun r hr => (List.pairwise_cons.mp p).1 r hr) (by omega) (by omega)
    have ih := sw_le t (List.pairwise_cons.mp p).2 u' (s - min q.2 s) h1 (by omega)
    simp only [sw, wsum]
    have e : q.1 * (min q.2 s - y) = q.1 * min q.2 s - q.1 * y := Int.mul_sub ..
    omega
theorem sw_at : ∀ (ps : List (Int × Int)) (s : Int), (∀ q ∈ ps, 0 ≤ q.2) → 0 ≤ s → s ≤ (ps.map (·.2)).sum → ∃ ys, FillR ps ys ∧ ys.sum = s ∧ wsum ps ys = sw ps s
  | [], s, _, s0, s1 => ⟨[], trivial, by simp at s1 ⊢; omega, rfl⟩
  | q :: t, s, h, s0, s1 => by
    have hq := h q List.mem_cons_self
    simp only [List.map_cons, List.sum_cons] at s1
    obtain ⟨u, h1, h2, h3⟩ := sw_at t (s - min q.2 s) (fun q hq => h q (List.mem_cons_of_mem _ hq)) (by omega) (by
      have : 0 ≤ (t.map (·.2)).sum := by
        have := h
        clear s1
        have g : ∀ l : List (Int × Int), (∀ q ∈ l, 0 ≤ q.2) → 0 ≤ (l.map (·.2)).sum := by
          intro l
          induction l with
          | nil => intro _; exact Int.le_refl _
          | cons a l ih =>
            intro h
            have h1 := h a List.mem_cons_self
            have h2 := ih fun q hq => h q (List.mem_cons_of_mem _ hq)
            simp only [List.map_cons, List.sum_cons]
            omega
        exact g t fun q hq => h q (List.mem_cons_of_mem _ hq)
      omega)
    exact ⟨min q.2 s :: u, ⟨by omega, by omega, h1⟩, by simp only [List.sum_cons]; omega, by simp only [wsum, sw, h3]⟩
def ngw (q : Int × Int) : Int × Int := (-q.1, q.2)
theorem ngw_sw : ∀ (ps : List (Int × Int)) (s : Int), sw (ps.map ngw) s = -(sw ps s)
  | [], _ => rfl
  | q :: t, s => by
    simp only [List.map_cons, sw, ngw_sw t, ngw]
    have : -q.1 * min q.2 s = -(q.1 * min q.2 s) := Int.neg_mul ..
    omega
theorem ngw_fill : ∀ {ps : List (Int × Int)} {ys : List Int}, FillR ps ys → FillR (ps.map ngw) ys ∧ wsum (ps.map ngw) ys = -(wsum ps ys)
  | [], [], _ => ⟨trivial, rfl⟩
  | _ :: _, [], h => h.elim
  | [], _ :: _, h => h.elim
  | q :: t, y :: u, h => by
    obtain ⟨h1, h2⟩ := ngw_fill h.2.2
    refine ⟨⟨h.1, h.2.1, h1⟩, ?_⟩
    simp only [List.map_cons, wsum, h2, ngw]
    have : -q.1 * y = -(q.1 * y) := Int.neg_mul ..
    omega
theorem sw_ge (ps : List (Int × Int)) (p : ps.Pairwise (fun a b => b.1 ≤ a.1)) (ys : List Int) (s : Int) (h : FillR ps ys) (hs : ys.sum = s) : wsum ps ys ≤ sw ps s := by
  obtain ⟨h1, h2⟩ := ngw_fill h
  have := sw_le (ps.map ngw) (List.pairwise_map.mpr (p.imp fun {a b} e => by show -a.1 ≤ -b.1; omega)) ys s h1 hs
  rw [ngw_sw] at this
  omega
/-! ### weights by days -/
def dot : List Int → List Int → Int
  | w :: t, y :: u => w * y + dot t u
  | _, _ => 0
theorem dot_set : ∀ (W y : List Int) (c : Nat) (s : Int), c < W.length → y.length = W.length → dot (W.set c (W.getD c 0 + s)) y = dot W y + s * y.getD c 0
  | [], _, _, _, h, _ => by simp at h
  | w :: W, [], _, _, _, h => by simp at h
  | w :: W, y :: u, 0, s, _, _ => by
    simp only [List.set_cons_zero, dot, List.getD_cons_zero]
    have : (w + s) * y = w * y + s * y := Int.add_mul ..
    omega
  | w :: W, y :: u, c + 1, s, h, h2 => by
    simp only [List.set_cons_succ, dot, List.getD_cons_succ]
    rw [dot_set W u c s (by simpa using h) (by simpa using h2)]
    omega
def adw (k : Nat) (sg : Int) (ds : List Int) (W : List Int) : List Int := ds.foldl (fun W d => W.set (d.toNat % k) (W.getD (d.toNat % k) 0 + sg)) W
theorem adw_len (k : Nat) (sg : Int) : ∀ (ds W : List Int), (adw k sg ds W).length = W.length
  | [], _ => rfl
  | d :: ds, W => by
    unfold adw
    rw [List.foldl_cons]
    have := adw_len k sg ds (W.set (d.toNat % k) (W.getD (d.toNat % k) 0 + sg))
    unfold adw at this
    rw [this, List.length_set]
theorem adw_dot (k : Nat) (sg : Int) : ∀ (ds W y : List Int), 0 < k → W.length = k → y.length = k → dot (adw k sg ds W) y = dot W y + sg * (ds.map fun d => y.getD (d.toNat % k) 0).sum
  | [], W, y, _, _, _ => by simp [adw]
  | d :: ds, W, y, k0, hW, hy => by
    have ih := adw_dot k sg ds (W.set (d.toNat % k) (W.getD (d.toNat % k) 0 + sg)) y k0 (by rw [List.length_set]; exact hW) hy
    unfold adw at ih ⊢
    rw [List.foldl_cons, ih, dot_set W y _ _ (by rw [hW]; exact Nat.mod_lt _ k0) (by omega)]
    simp only [List.map_cons, List.sum_cons]
    rw [Int.mul_add]
    omega
theorem dot_zero : ∀ (k : Nat) (y : List Int), dot (List.replicate k 0) y = 0
  | 0, y => by cases y <;> rfl
  | k + 1, [] => rfl
  | k + 1, y :: u => by
    rw [List.replicate_succ, dot, dot_zero k u]
    omega
theorem wsum_zip : ∀ (W R y : List Int), R.length = W.length → wsum (List.zip W R) y = dot W y
  | [], R, y, h => by
    cases y <;> simp [dot, wsum]
  | w :: W, [], y, h => by simp at h
  | w :: W, r :: R, [], h => rfl
  | w :: W, r :: R, y :: u, h => by
    simp only [List.zip_cons_cons, wsum, dot]
    rw [wsum_zip W R u (by simpa using h)]
/-- a bound of the weights -/
theorem adw_abs (k : Nat) (sg : Int) (hs : sg.natAbs ≤ 1) : ∀ (ds W : List Int) (b : Nat), (∀ w ∈ W, w.natAbs ≤ b) → ∀ w ∈ adw k sg ds W, w.natAbs ≤ b + ds.length
  | [], W, b, h => h
  | d :: ds, W, b, h => by
    have ih := adw_abs k sg hs ds (W.set (d.toNat % k) (W.getD (d.toNat % k) 0 + sg)) (b + 1) (fun w hw => ?_)
    · intro w hw
      have := ih w hw
      rw [List.length_cons]
      omega
    · rcases List.mem_or_eq_of_mem_set hw with hw | rfl
      · have := h w hw
        omega
      · have : (W.getD (d.toNat % k) 0).natAbs ≤ b := by
          rw [List.getD_eq_getElem?_getD]
          cases e : W[d.toNat % k]? with
          | none => exact Nat.zero_le _
          | some v => exact h v (List.mem_of_getElem? e)
        omega
end Lib

set_option Elab.async false
set_option linter.all false
set_option maxRecDepth 100000
set_option maxHeartbeats 4000000
namespace Lib
open PySem PySem.Spec PyProof.Rows L2 Ws Pv

/-! ### ranges -/
def rms (ps : List (Int × Int)) : List Int := ps.map fun q => q.2 - q.1
theorem rooms_ok {ps : List (Int × Int)} (l : ps.length ≤ 1000) : GoP p_rooms_of [.list (ps.map Pv.prD)] fun z => z = .own ((rms ps).map PyData.int) := by
  refine goP rfl ?_
  unfold m_rooms_of
  walk_at "pv"
  refine ⟨_, _, comp_ints Pv.prD (fun q => q.2 - q.1) (by omega) fun n hn => ?_, ?_⟩
  · refine gt3 (by rfl) ?_
    walk_at "pv"
    exact ⟨_, rfl, rfl⟩
  walk_at "pv"
  rfl
theorem spare_ok {ps : List (Int × Int)} {s : Int} (l : ps.length ≤ 1000) : GoP p_spare_of [.list (ps.map Pv.prD), .int s] fun z => z = .sh (.int (s - los ps)) := by
  refine goP rfl ?_
  unfold m_spare_of
  walk_at "pv"
  refine ⟨_, _, comp_ints Pv.prD (fun q => q.1) (by omega) fun n hn => ?_, ?_⟩
  · refine gt3 (by rfl) ?_
    walk_at "pv"
    exact ⟨_, rfl, rfl⟩
  walk_at "pv"
  rfl
/-- what is left of the spare -/
def lef : List (Int × Int) → Int → Int
  | [], s => s
  | q :: t, s => lef t (s - min q.2 s)
theorem sw_app : ∀ (a b : List (Int × Int)) (s : Int), sw (a ++ b) s = sw a s + sw b (lef a s)
  | [], b, s => by simp [sw, lef]
  | q :: a, b, s => by
    simp only [List.cons_append, sw, lef, sw_app a b]
    omega
theorem lef_app : ∀ (a b : List (Int × Int)) (s : Int), lef (a ++ b) s = lef b (lef a s)
  | [], b, s => rfl
  | q :: a, b, s => by simp only [List.cons_append, lef, lef_app a b]
theorem lef_pos : ∀ (a : List (Int × Int)) (s : Int), 0 ≤ s → 0 ≤ lef a s
  | [], _, h => h
  | q :: a, s, h => lef_pos a _ (by omega)
def Small (ps : List (Int × Int)) : Prop := ∀ q ∈ ps, q.1.natAbs < 2 ^ 1000 ∧ 0 ≤ q.2 ∧ q.2.natAbs < 2 ^ 1000
theorem spare_weight_ok {ps : List (Int × Int)} {s : Int} (l : ps.length ≤ 1000) (hs : Small ps) (s0 : 0 ≤ s) : GoP p_spare_weight [.list (ps.map Pv.prD), .int s] fun z => z = .sh (.int (sw ps s)) := by
  refine goP rfl ?_
  unfold m_spare_weight
  walk_at "pv"
  refine for_inv (fun i ρ => ∃ x y z, ρ = [some (.sh (.list (ps.map Pv.prD))), some (.sh (.int (lef (ps.take i) s))), some (.sh (.int (sw (ps.take i) s))), x, y, z]) ⟨none, none, none, rfl⟩ ?_ ?_
  · rintro i d ρ hd ⟨x, y, z, rfl⟩
    rw [List.getElem?_map] at hd
    obtain ⟨p, hp, rfl⟩ := map_some hd
    obtain ⟨h1, h2, h3⟩ := hs p (List.mem_of_getElem? hp)
    have h4 := lef_pos (ps.take i) s s0
    refine gt3 (by rfl) ?_
    walk_at "pv"
    refine fz_mul (wide_mul (a := 1000) (b := 1000) h1 (by omega) (by decide) (by decide) (by decide)) ?_
    walk_at "pv"
    rw [take_next hp, sw_app, lef_app]
    simp only [sw, lef, Int.add_zero]
    exact ⟨_, _, _, rfl⟩
  · rintro ρ ⟨x, y, z, rfl⟩
    rw [List.length_map, List.take_length]
    walk_at "pv"
    rfl
/-! ### starts as fillings -/
def subL : List (Int × Int) → List Int → List Int
  | q :: t, s :: u => (s - q.1) :: subL t u
  | _, _ => []
def addL : List (Int × Int) → List Int → List Int
  | q :: t, s :: u => (q.1 + s) :: addL t u
  | _, _ => []
theorem inr_fill : ∀ (ps : List (Int × Int)) (z W : List Int), W.length = ps.length → InR ps z → FillR (List.zip W (rms ps)) (subL ps z) ∧ (subL ps z).sum = z.sum - los ps ∧ (subL ps z).length = ps.length
  | [], [], [], _, _ => ⟨trivial, by simp [subL, los], rfl⟩
  | [], _ :: _, _, _, h => h.elim
  | _ :: _, [], _, _, h => h.elim
  | [], [], _ :: _, h, _ => by simp at h
  | _ :: _, _ :: _, [], h, _ => by simp at h
  | q :: t, s :: u, w :: W, hl, h => by
    obtain ⟨h1, h2, h3⟩ := inr_fill t u W (by simpa using hl) h.2.2
    have a := h.1
    have b := h.2.1
    refine ⟨⟨by show 0 ≤ s - q.1; omega, by show s - q.1 ≤ q.2 - q.1; omega, h1⟩, ?_, ?_⟩
    · simp only [subL, List.sum_cons, los_cons]
      omega
    · simp only [subL, List.length_cons, h3]
theorem fill_inr : ∀ (ps : List (Int × Int)) (y W : List Int), W.length = ps.length → FillR (List.zip W (rms ps)) y → InR ps (addL ps y) ∧ (addL ps y).sum = y.sum + los ps ∧ y.length = ps.length
  | [], [], [], _, _ => ⟨trivial, by simp [addL, los], rfl⟩
  | [], _ :: _, [], _, h => h.elim
  | _ :: _, [], _ :: _, _, h => h.elim
  | [], _, _ :: _, h, _ => by simp at h
  | _ :: _, _, [], h, _ => by simp at h
  | q :: t, s :: u, w :: W, hl, h => by
    obtain ⟨h1, h2, h3⟩ := fill_inr t u W (by simpa using hl) h.2.2
    have a : 0 ≤ s := h.1
    have b : s ≤ q.2 - q.1 := h.2.1
    refine ⟨⟨by show q.1 ≤ q.1 + s; omega, by show q.1 + s ≤ q.2; omega, h1⟩, ?_, ?_⟩
    · simp only [addL, List.sum_cons, los_cons]
      omega
    · simp only [List.length_cons, h3]
theorem subL_get : ∀ (ps : List (Int × Int)) (z : List Int) (c : Nat), z.length = ps.length → c < ps.length → (subL ps z).getD c 0 = z.getD c 0 - (ps.map (·.1)).getD c 0
  | [], _, _, _, h => by simp at h
  | _ :: _, [], _, h, _ => by simp at h
  | q :: t, s :: u, 0, _, _ => rfl
  | q :: t, s :: u, c + 1, h, h2 => by
    simp only [subL, List.getD_cons_succ, List.map_cons]
    exact subL_get t u c (by simpa using h) (by simpa using h2)
theorem addL_get : ∀ (ps : List (Int × Int)) (z : List Int) (c : Nat), z.length = ps.length → c < ps.length → (addL ps z).getD c 0 = (ps.map (·.1)).getD c 0 + z.getD c 0
  | [], _, _, _, h => by simp at h
  | _ :: _, [], _, h, _ => by simp at h
  | q :: t, s :: u, 0, _, _ => rfl
  | q :: t, s :: u, c + 1, h, h2 => by
    simp only [addL, List.getD_cons_succ, List.map_cons]
    exact addL_get t u c (by simpa using h) (by simpa using h2)
/-! ### the range of a sum of days less that of others -/
def dsum (x ds : List Int) : Int := (ds.map fun d => x.getD d.toNat 0).sum
structure Rng (ss : List Int) (k t : Int) (f : List Int → Int) (lo hi : Int) : Prop where
  lo_le : ∀ x, Way x ss k t → lo ≤ f x
  le_hi : ∀ x, Way x ss k t → f x ≤ hi
  at_lo : ∃ x, Way x ss k t ∧ f x = lo
  at_hi : ∃ x, Way x ss k t ∧ f x = hi
theorem Rng.uniq {ss : List Int} {k t : Int} {f : List Int → Int} {lo hi lo' hi' : Int} (a : Rng ss k t f lo hi) (b : Rng ss k t f lo' hi') : lo = lo' ∧ hi = hi' := by
  obtain ⟨x1, w1, e1⟩ := a.at_lo
  obtain ⟨x2, w2, e2⟩ := a.at_hi
  obtain ⟨x3, w3, e3⟩ := b.at_lo
  obtain ⟨x4, w4, e4⟩ := b.at_hi
  have := a.lo_le x3 w3
  have := a.le_hi x4 w4
  have := b.lo_le x1 w1
  have := b.le_hi x2 w2
  omega
/-- days of a list, by the numbers of the first days -/
def stS (os : List Int) (k : Nat) (z ds : List Int) : Int := (ds.map fun d => z.getD (d.toNat % k) 0 + os.getD d.toNat 0).sum
theorem stS_add (os : List Int) (k : Nat) (lo z y : List Int) : ∀ ds : List Int, (∀ d ∈ ds, z.getD (d.toNat % k) 0 = lo.getD (d.toNat % k) 0 + y.getD (d.toNat % k) 0) → stS os k z ds = stS os k lo ds + (ds.map fun d => y.getD (d.toNat % k) 0).sum
  | [], _ => rfl
  | d :: ds, h => by
    have ih := stS_add os k lo z y ds fun d hd => h d (List.mem_cons_of_mem _ hd)
    have e := h d List.mem_cons_self
    unfold stS at ih ⊢
    simp only [List.map_cons, List.sum_cons, ih, e]
    omega
theorem dsum_way {x ss : List Int} {k t : Int} (w : Way x ss k t) {ds : List Int} (h : ∀ d ∈ ds, 0 ≤ d ∧ d < x.length) : dsum x ds = stS (osn ss k) k.toNat (x.take k.toNat) ds := by
  unfold dsum stS
  congr 1
  refine List.map_congr_left fun d hd => ?_
  obtain ⟨d0, d1⟩ := h d hd
  have hk := w.k1
  have e := off_has w.has d.toNat (by omega)
  have e2 : (osn ss k).getD d.toNat 0 = off ss k.toNat d.toNat := by
    unfold osn
    rw [List.getD_eq_getElem?_getD, offL_get (by have := (way_n w).1; omega)]
    rfl
  have e3 : (x.take k.toNat).getD (d.toNat % k.toNat) 0 = x.getD (d.toNat % k.toNat) 0 := by
    rw [List.getD_eq_getElem?_getD, List.getD_eq_getElem?_getD, List.getElem?_take_of_lt (Nat.mod_lt _ (by omega))]
  rw [e2, e3]
  omega
theorem dsum_wf {os z : List Int} {k : Nat} (hz : z.length = k) {ds : List Int} (h : ∀ d ∈ ds, 0 ≤ d ∧ d < os.length) : dsum (wf z os) ds = stS os k z ds := by
  unfold dsum stS
  congr 1
  refine List.map_congr_left fun d hd => ?_
  obtain ⟨d0, d1⟩ := h d hd
  rw [wf_at (by omega), hz]
/-- weights of the classes -/
def wts (k : Nat) (less more : List Int) : List Int := adw k 1 more (adw k (-1) less (List.replicate k 0))
theorem wts_len (k : Nat) (less more : List Int) : (wts k less more).length = k := by
  unfold wts
  rw [adw_len, adw_len, List.length_replicate]
theorem wts_dot {k : Nat} (k0 : 0 < k) (less more y : List Int) (hy : y.length = k) : dot (wts k less more) y = (more.map fun d => y.getD (d.toNat % k) 0).sum - (less.map fun d => y.getD (d.toNat % k) 0).sum := by
  unfold wts
  rw [adw_dot k 1 more _ y k0 (by rw [adw_len, List.length_replicate]) hy, adw_dot k (-1) less _ y k0 (List.length_replicate ..) hy, dot_zero]
  omega
def rwr (ss : List Int) (k t : Int) (less more : List Int) : List (Int × Int) := List.zip (wts k.toNat less more) (rms (psn ss k t))
def bas (ss : List Int) (k t : Int) (less more : List Int) : Int := stS (osn ss k) k.toNat ((psn ss k t).map (·.1)) more - stS (osn ss k) k.toNat ((psn ss k t).map (·.1)) less
def rlo (ss : List Int) (k t : Int) (less more : List Int) : Int := bas ss k t less more + sw (srtP (rwr ss k t less more)) (ss.getD 0 0 - los (psn ss k t))
def rhi (ss : List Int) (k t : Int) (less more : List Int) : Int := bas ss k t less more + sw (srtP (rwr ss k t less more)).reverse (ss.getD 0 0 - los (psn ss k t))
theorem rng_ok {ss : List Int} {k t : Int} (o : Ok ss k t) (f : Fits (psn ss k t) (ss.getD 0 0)) {less more : List Int} (hl : ∀ d ∈ less, 0 ≤ d ∧ d < (osn ss k).length) (hm : ∀ d ∈ more, 0 ≤ d ∧ d < (osn ss k).length) :
    Rng ss k t (fun x => dsum x more - dsum x less) (rlo ss k t less more) (rhi ss k t less more) := by
  obtain ⟨e1, e2, e3, e4, e5⟩ := o.kn
  have pl := psn_len ss k t
  have wl := wts_len k.toNat less more
  have wl' : (wts k.toNat less more).length = (psn ss k t).length := by rw [wl, pl]
  have rl : (rms (psn ss k t)).length = (wts k.toNat less more).length := by unfold rms; rw [List.length_map, wl']
  have val : ∀ z : List Int, z.length = k.toNat → stS (osn ss k) k.toNat z more - stS (osn ss k) k.toNat z less = bas ss k t less more + dot (wts k.toNat less more) (subL (psn ss k t) z) := by
    intro z hz
    have g : ∀ ds : List Int, ∀ d ∈ ds, z.getD (d.toNat % k.toNat) 0 = ((psn ss k t).map (·.1)).getD (d.toNat % k.toNat) 0 + (subL (psn ss k t) z).getD (d.toNat % k.toNat) 0 := fun ds d _ => by
      rw [subL_get _ _ _ (by omega) (by rw [pl]; exact Nat.mod_lt _ e2)]
      omega
    have sl : (subL (psn ss k t) z).length = k.toNat := by
      have : ∀ (ps : List (Int × Int)) (z : List Int), z.length = ps.length → (subL ps z).length = ps.length := by
        intro ps
        induction ps with
        | nil => intro z _; cases z <;> rfl
        | cons q r ih =>
          intro z h
          cases z with
          | nil => simp at h
          | cons a u => simp only [subL, List.length_cons]; rw [ih u (by simpa using h)]
      rw [this _ _ (by omega), pl]
    rw [stS_add _ _ _ z _ more (g more), stS_add _ _ _ z _ less (g less), wts_dot e2 less more _ sl]
    unfold bas
    omega
  have ways : ∀ x, Way x ss k t → ∃ y, FillR (rwr ss k t less more) y ∧ y.sum = ss.getD 0 0 - los (psn ss k t) ∧ dsum x more - dsum x less = bas ss k t less more + wsum (rwr ss k t less more) y := by
    intro x w
    have xl : x.length = (osn ss k).length := by
      rw [← (way_n w).1, o.len]
    obtain ⟨i1, i2⟩ := way_inr w
    have i1 : InR (psn ss k t) (x.take k.toNat) := by
      have : (offL ss k.toNat x.length) = osn ss k := by
        unfold osn
        rw [(way_n w).1]
      rw [this] at i1
      exact i1
    obtain ⟨h1, h2, h3⟩ := inr_fill _ _ (wts k.toNat less more) wl' i1
    refine ⟨_, h1, by rw [h2, i2], ?_⟩
    rw [dsum_way w (fun d hd => by rw [xl]; exact hm d hd), dsum_way w (fun d hd => by rw [xl]; exact hl d hd), val _ (by rw [List.length_take]; omega)]
    unfold rwr
    rw [wsum_zip _ _ _ rl]
  have back : ∀ y, FillR (rwr ss k t less more) y → y.sum = ss.getD 0 0 - los (psn ss k t) → ∃ x, Way x ss k t ∧ dsum x more - dsum x less = bas ss k t less more + wsum (rwr ss k t less more) y := by
    intro y h hs
    obtain ⟨h1, h2, h3⟩ := fill_inr _ _ _ wl' h
    have zl := InR.len h1
    refine ⟨wf (addL (psn ss k t) y) (osn ss k), wf_ok o h1 (by rw [h2]; omega), ?_⟩
    have zk : (addL (psn ss k t) y).length = k.toNat := by rw [zl, pl]
    rw [dsum_wf zk hm, dsum_wf zk hl, val _ zk]
    congr 1
    unfold rwr
    rw [wsum_zip _ _ _ rl]
    congr 1
    have : ∀ (ps : List (Int × Int)) (y : List Int), y.length = ps.length → subL ps (addL ps y) = y := by
      intro ps
      induction ps with
      | nil => intro y h; cases y with
        | nil => rfl
        | cons => simp at h
      | cons q r ih =>
        intro y h
        cases y with
        | nil => simp at h
        | cons a u =>
          simp only [subL, addL]
          rw [ih u (by simpa using h)]
          congr 1
          omega
    exact this _ _ h3
  have rp : ∀ q ∈ rwr ss k t less more, 0 ≤ q.2 := by
    intro q hq
    have := (List.of_mem_zip hq).2
    unfold rms at this
    obtain ⟨p, hp, e⟩ := List.mem_map.mp this
    have := f.1 p hp
    omega
  have rs : ((rwr ss k t less more).map (·.2)).sum = his (psn ss k t) - los (psn ss k t) := by
    have e : (rwr ss k t less more).map (·.2) = rms (psn ss k t) := by
      unfold rwr
      exact List.map_snd_zip (by omega)
    rw [e]
    have : ∀ ps : List (Int × Int), (rms ps).sum = his ps - los ps := by
      intro ps
      induction ps with
      | nil => rfl
      | cons q r ih =>
        unfold rms at ih ⊢
        rw [List.map_cons, List.sum_cons, ih, his_cons, los_cons]
        omega
    exact this _
  have f2 := f.2.1
  have f3 := f.2.2
  have pm := srtP_perm (rwr ss k t less more)
  have pm2 : (srtP (rwr ss k t less more)).reverse.Perm (rwr ss k t less more) := (List.reverse_perm _).trans pm
  have asc : (srtP (rwr ss k t less more)).Pairwise (fun a b => a.1 ≤ b.1) := (srtP_asc _).imp fun {a b} e => by
    unfold ple plt at e
    simp only [Bool.not_eq_true', decide_eq_false_iff_not] at e
    omega
  have dsc : (srtP (rwr ss k t less more)).reverse.Pairwise (fun a b => b.1 ≤ a.1) := List.pairwise_reverse.mpr asc
  have sm : ∀ l : List (Int × Int), l.Perm (rwr ss k t less more) → (∀ q ∈ l, 0 ≤ q.2) ∧ (l.map (·.2)).sum = his (psn ss k t) - los (psn ss k t) := fun l p => ⟨fun q hq => rp q (p.mem_iff.mp hq), by rw [← rs]; exact perm_sum (p.map _)⟩
  have atv : ∀ l : List (Int × Int), l.Perm (rwr ss k t less more) → ∃ x, Way x ss k t ∧ dsum x more - dsum x less = bas ss k t less more + sw l (ss.getD 0 0 - los (psn ss k t)) := by
    intro l p
    obtain ⟨s1, s2⟩ := sm l p
    obtain ⟨y, h1, h2, h3⟩ := sw_at l (ss.getD 0 0 - los (psn ss k t)) s1 (by omega) (by omega)
    obtain ⟨y', g1, g2, g3⟩ := fill_perm p y h1
    obtain ⟨x, w, hx⟩ := back y' g1 (by omega)
    exact ⟨x, w, by rw [hx, g3, h3]⟩
  refine ⟨fun x w => ?_, fun x w => ?_, atv _ pm, atv _ pm2⟩
  · obtain ⟨y, h1, h2, h3⟩ := ways x w
    obtain ⟨y', g1, g2, g3⟩ := fill_perm pm.symm y h1
    have := sw_le _ asc y' _ g1 (g2.trans h2)
    show rlo ss k t less more ≤ dsum x more - dsum x less
    unfold rlo
    omega
  · obtain ⟨y, h1, h2, h3⟩ := ways x w
    obtain ⟨y', g1, g2, g3⟩ := fill_perm pm2.symm y h1
    have := sw_ge _ dsc y' _ g1 (g2.trans h2)
    show dsum x more - dsum x less ≤ rhi ss k t less more
    unfold rhi
    omega
end Lib

set_option Elab.async false
set_option linter.all false
set_option maxRecDepth 100000
set_option maxHeartbeats 4000000
namespace Lib
open PySem PySem.Spec PyProof.Rows L2 Ws Pv

theorem zipD_pr : ∀ (W R : List Int), Pv.zipD (W.map PyData.int) (R.map PyData.int) = (List.zip W R).map Pv.prD
  | [], R => by cases R <;> rfl
  | w :: W, [] => rfl
  | w :: W, r :: R => by
    simp only [List.map_cons, Pv.zipD, List.zip_cons_cons, zipD_pr W R]
theorem adw_snoc (k : Nat) (sg : Int) (ds W : List Int) (d : Int) : adw k sg (ds ++ [d]) W = (adw k sg ds W).set (d.toNat % k) ((adw k sg ds W).getD (d.toNat % k) 0 + sg) := by
  unfold adw
  rw [List.foldl_append]
  rfl
theorem stS_snoc (os : List Int) (k : Nat) (z ds : List Int) (d : Int) : stS os k z (ds ++ [d]) = stS os k z ds + (z.getD (d.toNat % k) 0 + os.getD d.toNat 0) := by
  unfold stS
  rw [List.map_append, List.sum_append_int]
  simp
/-- numbers of days lie from 0 to the most -/
theorem lo_off {ss : List Int} {k t : Int} (o : Ok ss k t) (f : Fits (psn ss k t) (ss.getD 0 0)) {d : Int} (h : 0 ≤ d ∧ d < (osn ss k).length) :
    0 ≤ ((psn ss k t).map (·.1)).getD (d.toNat % k.toNat) 0 + (osn ss k).getD d.toNat 0 ∧ ((psn ss k t).map (·.1)).getD (d.toNat % k.toNat) 0 + (osn ss k).getD d.toNat 0 ≤ t := by
  obtain ⟨e1, e2, e3, e4, e5⟩ := o.kn
  have hc : d.toNat % k.toNat < k.toNat := Nat.mod_lt _ e2
  have hp : (psn ss k t)[d.toNat % k.toNat]? = some (-(mn (stepL (osn ss k) (d.toNat % k.toNat) k.toNat)), t - mx (stepL (osn ss k) (d.toNat % k.toNat) k.toNat)) := rngs_at hc
  have e : ((psn ss k t).map (·.1)).getD (d.toNat % k.toNat) 0 = -(mn (stepL (osn ss k) (d.toNat % k.toNat) k.toNat)) := by
    rw [List.getD_eq_getElem?_getD, List.getElem?_map, hp]
    rfl
  have g := f.1 _ (List.mem_of_getElem? hp)
  have hm : (osn ss k).getD d.toNat 0 ∈ stepL (osn ss k) (d.toNat % k.toNat) k.toNat := by
    rw [← cls_vals _ _ _ e2]
    exact List.mem_map.mpr ⟨d.toNat, (mem_cls e2 hc).mpr ⟨by omega, rfl⟩, rfl⟩
  have m1 := mn_le hm
  have m2 := le_mx hm
  have g2 : -(mn (stepL (osn ss k) (d.toNat % k.toNat) k.toNat)) ≤ t - mx (stepL (osn ss k) (d.toNat % k.toNat) k.toNat) := g
  rw [e]
  omega
theorem range_between_ok {ss : List Int} {k t : Int} (o : Ok ss k t) (f : Fits (psn ss k t) (ss.getD 0 0)) {less more : List Int} (hl : ∀ d ∈ less, 0 ≤ d ∧ d < (osn ss k).length) (hm : ∀ d ∈ more, 0 ≤ d ∧ d < (osn ss k).length) (ll : less.length ≤ 1000) (lm : more.length ≤ 1000) :
    GoP p_range_between [dIs ss, .int k, .int t, dIs less, dIs more] fun z => z = .sh (.tuple [.int (rlo ss k t less more), .int (rhi ss k t less more)]) := by
  obtain ⟨e1, e2, e3, e4, e5⟩ := o.kn
  have k1 := o.k1
  have k8 := o.k8
  have t0 := o.t0
  have t1 := o.t1
  have s1 := o.s1
  have c1 := o.offs
  have c2 := o.starts
  have pl := psn_len ss k t
  have c3 := rooms_ok (ps := psn ss k t) (by omega)
  have c4 := spare_ok (ps := psn ss k t) (s := ss.getD 0 0) (by omega)
  refine goP rfl ?_
  unfold m_range_between
  walk_at "pv"
  refine fz_rep ⟨by omega, by omega, Nat.le_trans (by show 1 * k.toNat ≤ 8; omega) (by decide)⟩ ?_
  rw [flat_rep, rep_ints]
  walk_at "pv"
  have hds : ∀ (i : Nat) (e : D), [PyData.tuple [.int (-1), dIs less], .tuple [.int 1, dIs more]][i]? = some e → ∃ (sg : Int) (ds : List Int), e = .tuple [.int sg, dIs ds] ∧ sg.natAbs ≤ 1 ∧ (∀ d ∈ ds, 0 ≤ d ∧ d < (osn ss k).length) ∧ ds.length ≤ 1000 ∧ ((i = 0 ∧ sg = -1 ∧ ds = less) ∨ (i = 1 ∧ sg = 1 ∧ ds = more)) := by
    intro i e he
    match i, he with
    | 0, he => cases he; exact ⟨_, _, rfl, by decide, hl, ll, .inl ⟨rfl, rfl, rfl⟩⟩
    | 1, he => cases he; exact ⟨_, _, rfl, by decide, hm, lm, .inr ⟨rfl, rfl, rfl⟩⟩
  refine for_inv (fun i ρ => ∃ a b c d W L, ρ = [some (.sh (dIs ss)), some (.sh (.int k)), some (.sh (.int t)), some (.sh (dIs less)), some (.sh (dIs more)), some (.sh (dIs (osn ss k))), some (.own ((psn ss k t).map Pv.prD)), some (.own ((W : List Int).map PyData.int)), some (.sh (.int L)), a, b, c, d, none, none] ∧
    ((i = 0 ∧ W = List.replicate k.toNat 0 ∧ L = 0) ∨ (i = 1 ∧ W = adw k.toNat (-1) less (List.replicate k.toNat 0) ∧ L = -(stS (osn ss k) k.toNat ((psn ss k t).map (·.1)) less)) ∨ (i = 2 ∧ W = wts k.toNat less more ∧ L = bas ss k t less more))) ⟨none, none, none, none, _, _, rfl, .inl ⟨rfl, rfl, rfl⟩⟩ ?_ ?_
  · rintro i e ρ he ⟨a, b, c, d, W, L, rfl, hWL⟩
    obtain ⟨sg, ds, rfl, hsg, hin, hlen, hcase⟩ := hds i e he
    have Wl : W.length = k.toNat := by
      rcases hWL with ⟨_, rfl, _⟩ | ⟨_, rfl, _⟩ | ⟨_, rfl, _⟩
      · exact List.length_replicate ..
      · rw [adw_len, List.length_replicate]
      · exact wts_len ..
    refine gt3 (by rfl) ?_
    walk_at "pv"
    refine for_inv (fun j ρ => ∃ c d, ρ = [some (.sh (dIs ss)), some (.sh (.int k)), some (.sh (.int t)), some (.sh (dIs less)), some (.sh (dIs more)), some (.sh (dIs (osn ss k))), some (.own ((psn ss k t).map Pv.prD)), some (.own ((adw k.toNat sg (ds.take j) W).map PyData.int)), some (.sh (.int (L + sg * stS (osn ss k) k.toNat ((psn ss k t).map (·.1)) (ds.take j)))), some (.sh (.int sg)), some (.sh (dIs ds)), c, d, none, none]) ⟨c, d, by simp [adw, stS]⟩ ?_ ?_
    · rintro j e ρ hj ⟨c, d, rfl⟩
      rw [List.getElem?_map] at hj
      obtain ⟨n, hn, rfl⟩ := map_some hj
      obtain ⟨n0, n1⟩ := hin n (List.mem_of_getElem? hn)
      have hc : (n % k).toNat = n.toNat % k.toNat := mod_nat n0 k1
      have hc0 : 0 ≤ n % k := Int.emod_nonneg _ (by omega)
      have hck : n.toNat % k.toNat < k.toNat := Nat.mod_lt _ e2
      have lo := lo_off o f ⟨n0, n1⟩
      refine gn ?_
      walk_at "pv"
      refine fz_mod (by omega) ?_
      walk_at "pv"
      have al : (adw k.toNat sg (ds.take j) W).length = k.toNat := by rw [adw_len, Wl]
      obtain ⟨q, hq⟩ : ∃ q, (psn ss k t)[n.toNat % k.toNat]? = some q := ⟨_, List.getElem?_eq_getElem (by omega)⟩
      have hqe : ((psn ss k t).map (·.1)).getD (n.toNat % k.toNat) 0 = q.1 := by
        rw [List.getD_eq_getElem?_getD, List.getElem?_map, hq]
        rfl
      refine ⟨_, atI_nat hc0 (by rw [List.getElem?_map, hc, getD_some (by omega)]; rfl), ?_⟩
      walk_at "pv"
      refine ixn (m := n.toNat % k.toNat) (by
        unfold ixN
        rw [if_pos hc0, if_pos (by rw [List.length_map, al]; exact Int.lt_of_lt_of_le (Int.emod_lt_of_pos _ (by omega)) (by omega)), hc]) ?_
      rw [← List.map_set]
      walk_at "pv"
      refine fz_ix (atI_nat hc0 (by rw [List.getElem?_map, hc, hq]; rfl)) ?_
      walk_at "pv"
      refine fz_ixI n0 (getD_some (l := osn ss k) (i := n.toNat) (by omega)) ?_
      walk_at "pv"
      rw [hqe] at lo
      refine fz_mul (wide_mul (a := 1000) (b := 1000) (by omega) (by omega) (by decide) (by decide) (by decide)) ?_
      walk_at "pv"
      have e9 : ∀ S x : Int, L + sg * (S + x) = L + sg * S + sg * x := fun S x => by
        rw [Int.mul_add]
        omega
      rw [take_next hn, adw_snoc, stS_snoc, hqe, e9]
      exact ⟨_, _, rfl⟩
    · rintro ρ ⟨c, d, rfl⟩
      walk_at "pv"
      rw [List.length_map, List.take_length]
      refine ⟨_, _, _, _, _, _, rfl, ?_⟩
      rcases hcase with ⟨rfl, rfl, rfl⟩ | ⟨rfl, rfl, rfl⟩
      · rcases hWL with ⟨_, rfl, rfl⟩ | ⟨h, _⟩ | ⟨h, _⟩
        · exact .inr (.inl ⟨rfl, rfl, by omega⟩)
        · cases h
        · cases h
      · rcases hWL with ⟨h, _⟩ | ⟨_, rfl, rfl⟩ | ⟨h, _⟩
        · cases h
        · exact .inr (.inr ⟨rfl, rfl, by unfold bas; omega⟩)
        · cases h
  · rintro ρ ⟨a, b, c, d, W, L, rfl, hWL⟩
    have hWL : W = wts k.toNat less more ∧ L = bas ss k t less more := by
      rcases hWL with ⟨h, _⟩ | ⟨h, _⟩ | ⟨_, h, h2⟩
      · cases h
      · cases h
      · exact ⟨h, h2⟩
    obtain ⟨rfl, rfl⟩ := hWL
    walk_at "pv"
    have wl := wts_len k.toNat less more
    refine fz_zipL (Nat.lt_of_le_of_lt (Nat.min_le_left _ _) (by rw [List.length_map, wl]; exact Nat.lt_of_le_of_lt e3 (by decide))) ?_
    rw [zipD_pr]
    walk_at "pv"
    refine fz_ixI (by decide) (getD_some (l := ss) (i := (0 : Int).toNat) (by show 0 < _; omega)) ?_
    walk_at "pv"
    have sm : ∀ l : List (Int × Int), l.Perm (rwr ss k t less more) → l.length ≤ 1000 ∧ Small l := by
      intro l p
      have rl : (rwr ss k t less more).length ≤ 1000 := by
        unfold rwr
        rw [List.length_zip, wl]
        omega
      refine ⟨by rw [p.length_eq]; exact rl, fun q hq => ?_⟩
      have hq := p.mem_iff.mp hq
      obtain ⟨h1, h2⟩ := List.of_mem_zip hq
      have a1 := adw_abs k.toNat (-1) (by decide) less (List.replicate k.toNat 0) 0 (fun w hw => by rw [(List.mem_replicate.mp hw).2]; decide)
      have a2 := adw_abs k.toNat 1 (by decide) more _ _ a1 q.1 h1
      obtain ⟨p', hp, e⟩ := List.mem_map.mp h2
      obtain ⟨c, hc, rfl⟩ := List.mem_map.mp (show p' ∈ (List.range k.toNat).map _ from hp)
      have hc := List.mem_range.mp hc
      have od := f.1 _ hp
      obtain ⟨y, hy⟩ := List.exists_mem_of_length_pos (step_pos (os := osn ss k) (i := c) e2 (by omega))
      have m1 := mn_le hy
      have m2 := le_mx hy
      have e : t - mx (stepL (osn ss k) c k.toNat) - -(mn (stepL (osn ss k) c k.toNat)) = q.2 := e
      have od : -(mn (stepL (osn ss k) c k.toNat)) ≤ t - mx (stepL (osn ss k) c k.toNat) := od
      refine ⟨by omega, by omega, ?_⟩
      omega
    have f2 := f.2.1
    obtain ⟨g1, g2⟩ := sm _ (srtP_perm _)
    obtain ⟨g3, g4⟩ := sm _ ((List.reverse_perm _).trans (srtP_perm _))
    have d1 := spare_weight_ok (s := ss.getD 0 0 - los (psn ss k t)) g1 g2 (by omega)
    have d2 := spare_weight_ok (s := ss.getD 0 0 - los (psn ss k t)) g3 g4 (by omega)
    refine fz_sortP ?_
    walk_at "pv"
    refine fz_sortR ?_
    walk_at "pv"
    rfl
end Lib

set_option Elab.async false
set_option linter.all false
set_option maxRecDepth 100000
set_option maxHeartbeats 4000000
namespace Lib
open PySem PySem.Spec PyProof.Rows L2 Ws Pv

/-! ### checks of days -/
theorem within_t {i lo hi : Int} (h : lo ≤ i ∧ i ≤ hi) : GoP p_is_within [.int i, .int lo, .int hi] fun z => z = .sh (.bool true) := is_within_ok.mono fun z hz => by
  rw [hz, decide_eq_true h.1, decide_eq_true h.2]
  rfl
theorem check_day_ok {d n : Int} (h : 0 ≤ d ∧ d < n) : GoP p_check_day [.int d, .int n] fun z => z = .sh .none := by
  have c1 := within_t (i := d) (lo := 0) (hi := n - 1) ⟨h.1, by omega⟩
  refine goP rfl ?_
  unfold m_check_day
  walk_at "pv"
  rfl
theorem check_row_ok {a b n : Int} (h : 0 ≤ a ∧ a ≤ b ∧ b ≤ n) : GoP p_check_row [.int a, .int b, .int n] fun z => z = .sh .none := by
  have c1 := within_t (i := a) (lo := 0) (hi := n) ⟨h.1, by omega⟩
  have c2 := within_t (i := b) (lo := a) (hi := n) ⟨h.2.1, h.2.2⟩
  refine goP rfl ?_
  unfold m_check_row
  walk_at "pv"
  rfl
def inn (lo hi : Int) (ns : List Int) : Bool := ns.all fun i => decide (lo ≤ i) && decide (i ≤ hi)
theorem all_bls (f : Int → Bool) (ns : List Int) : (ns.map f).all id = ns.all f := by
  rw [List.all_map]
  rfl
theorem is_row_within_ok {ns : List Int} {c lo hi : Int} (l : ns.length ≤ 1000) : GoP p_is_row_within [dIs ns, .int c, .int lo, .int hi] fun z => z = .sh (.bool (decide ((ns.length : Int) = c) && inn lo hi ns)) := by
  refine goP rfl ?_
  unfold m_is_row_within
  walk_at "pv"
  rw [List.length_map]
  by_cases h : (ns.length : Int) = c
  · rw [decide_eq_true h]
    walk_at "pv"
    refine ⟨_, _, comp_enc PyData.int (fun i => .bool (decide (lo ≤ i) && decide (i ≤ hi))) (by omega) fun n hn => ?_, ?_⟩
    · refine gn ?_
      walk_at "pv"
      refine cal is_within_ok ?_
      exact ⟨_, rfl, rfl⟩
    · rw [show (ns.map fun i => PyData.bool (decide (lo ≤ i) && decide (i ≤ hi))) = (ns.map fun i => decide (lo ≤ i) && decide (i ≤ hi)).map PyData.bool by rw [List.map_map]; rfl]
      walk_at "pv"
      rw [all_bls]
      rfl
  · rw [decide_eq_false h]
    walk_at "pv"
    rfl
theorem inn_iff {lo hi : Int} {ns : List Int} : inn lo hi ns = true ↔ ∀ i ∈ ns, lo ≤ i ∧ i ≤ hi := by
  unfold inn
  rw [List.all_eq_true]
  simp only [Bool.and_eq_true, decide_eq_true_eq]
theorem check_different_ok {ds : List Int} {n : Int} (l : ds.length ≤ 1000) (h : ∀ d ∈ ds, 0 ≤ d ∧ d < n) (nd : ds.Nodup) : GoP p_check_different [dIs ds, .int n] fun z => z = .sh .none := by
  have c1 : GoP p_is_row_within [dIs ds, .int ((ds.map PyData.int).length : Nat), .int 0, .int (n - 1)] fun z => z = .sh (.bool true) := (is_row_within_ok l).mono fun z hz => by
    rw [hz, decide_eq_true (by rw [List.length_map]), inn_iff.mpr fun i hi => ⟨(h i hi).1, by have := (h i hi).2; omega⟩]
    rfl
  refine goP rfl ?_
  unfold m_check_different
  walk_at "pv"
  rw [ddp_nodup nd]
  walk_at "pv"
  refine iteN (by rw [List.length_map]; simp) ?_
  walk_at "pv"
  rfl
/-! ### what is asked of ranges -/
section
variable {ss : List Int} {k t : Int}
theorem Ok.told (o : Ok ss k t) : GoP p_check_told [dIs ss, .int k, .int t] fun z => z = .sh .none := check_told_ok o.s1 o.k1 o.k8 o.n o.t0 o.t1
theorem Ok.nn (o : Ok ss k t) : (((ss.map PyData.int).length : Nat) : Int) + k - 1 = ((osn ss k).length : Nat) := by
  have := o.len
  have := o.s1
  have := o.kn.1
  rw [List.length_map]
  omega
def rD (ss : List Int) (k t : Int) (less more : List Int) : D := .tuple [.int (rlo ss k t less more), .int (rhi ss k t less more)]
theorem day_range_ok (o : Ok ss k t) (f : Fits (psn ss k t) (ss.getD 0 0)) {d : Int} (h : 0 ≤ d ∧ d < (osn ss k).length) : GoP p_day_range [dIs ss, .int k, .int t, .int d] fun z => z = .sh (rD ss k t [] [d]) := by
  have c1 := o.told
  have c2 := need_way_ok o f
  have c3 : GoP p_check_day [.int d, .int ((((ss.map PyData.int).length : Nat) : Int) + k - 1)] fun z => z = .sh .none := check_day_ok (by rw [o.nn]; exact h)
  have c4 := range_between_ok o f (less := []) (more := [d]) (fun _ h => by cases h) (fun e he => by rw [List.mem_singleton.mp he]; exact h) (by decide) (by simp)
  refine goP rfl ?_
  unfold m_day_range
  walk_at "pv"
  rfl
theorem difference_range_ok (o : Ok ss k t) (f : Fits (psn ss k t) (ss.getD 0 0)) {c d : Int} (g : 0 ≤ c ∧ c < (osn ss k).length) (h : 0 ≤ d ∧ d < (osn ss k).length) : GoP p_difference_range [dIs ss, .int k, .int t, .int c, .int d] fun z => z = .sh (rD ss k t [c] [d]) := by
  have c1 := o.told
  have c2 := need_way_ok o f
  have c3 : GoP p_check_day [.int d, .int ((((ss.map PyData.int).length : Nat) : Int) + k - 1)] fun z => z = .sh .none := check_day_ok (by rw [o.nn]; exact h)
  have c5 : GoP p_check_day [.int c, .int ((((ss.map PyData.int).length : Nat) : Int) + k - 1)] fun z => z = .sh .none := check_day_ok (by rw [o.nn]; exact g)
  have c4 := range_between_ok o f (less := [c]) (more := [d]) (fun e he => by rw [List.mem_singleton.mp he]; exact g) (fun e he => by rw [List.mem_singleton.mp he]; exact h) (by simp) (by simp)
  refine goP rfl ?_
  unfold m_difference_range
  walk_at "pv"
  rfl
def rgI (a b : Int) : List Int := (List.range (b - a).toNat).map fun i => a + ((i : Nat) : Int)
theorem rgD_ints (a b : Int) : rgD a b = (rgI a b).map PyData.int := by
  unfold rgD rgI
  rw [List.map_map]
  rfl
theorem rgI_mem {a b i : Int} : i ∈ rgI a b ↔ a ≤ i ∧ i < b := by
  unfold rgI
  rw [List.mem_map]
  constructor
  · rintro ⟨j, hj, rfl⟩
    have := List.mem_range.mp hj
    omega
  · rintro ⟨h1, h2⟩
    exact ⟨(i - a).toNat, List.mem_range.mpr (by omega), by omega⟩
theorem rgI_len (a b : Int) : (rgI a b).length = (b - a).toNat := by
  unfold rgI
  rw [List.length_map, List.length_range]
theorem row_range_ok (o : Ok ss k t) (f : Fits (psn ss k t) (ss.getD 0 0)) {a b : Int} (h : 0 ≤ a ∧ a ≤ b ∧ b ≤ (osn ss k).length) : GoP p_row_range [dIs ss, .int k, .int t, .int a, .int b] fun z => z = .sh (rD ss k t [] (rgI a b)) := by
  obtain ⟨e1, e2, e3, e4, e5⟩ := o.kn
  have c1 := o.told
  have c2 := need_way_ok o f
  have c3 : GoP p_check_row [.int a, .int b, .int ((((ss.map PyData.int).length : Nat) : Int) + k - 1)] fun z => z = .sh .none := check_row_ok (by rw [o.nn]; exact h)
  have c4 := range_between_ok o f (less := []) (more := rgI a b) (fun _ h => by cases h) (fun e he => by have := rgI_mem.mp he; omega) (by decide) (by rw [rgI_len]; omega)
  refine goP rfl ?_
  unfold m_row_range
  walk_at "pv"
  refine ⟨⟨by omega, by omega, by omega, by omega, by omega⟩, ?_⟩
  rw [rgD_ints]
  walk_at "pv"
  rfl
theorem total_range_ok (o : Ok ss k t) (f : Fits (psn ss k t) (ss.getD 0 0)) {ds : List Int} (l : ds.length ≤ 1000) (h : ∀ d ∈ ds, 0 ≤ d ∧ d < (osn ss k).length) (nd : ds.Nodup) : GoP p_total_range [dIs ss, .int k, .int t, dIs ds] fun z => z = .sh (rD ss k t [] ds) := by
  have c1 := o.told
  have c2 := need_way_ok o f
  have c3 : GoP p_check_different [dIs ds, .int ((((ss.map PyData.int).length : Nat) : Int) + k - 1)] fun z => z = .sh .none := check_different_ok l (by rw [o.nn]; exact h) nd
  have c4 := range_between_ok o f (less := []) (more := ds) (fun _ h => by cases h) h (by decide) l
  refine goP rfl ?_
  unfold m_total_range
  walk_at "pv"
  rfl
def rgs (ss : List Int) (k t : Int) : List (Int × Int) := (List.range (osn ss k).length).map fun i => (rlo ss k t [] [((i : Nat) : Int)], rhi ss k t [] [((i : Nat) : Int)])
theorem ranges_of_ok (o : Ok ss k t) (f : Fits (psn ss k t) (ss.getD 0 0)) : GoP p_ranges_of [dIs ss, .int k, .int t] fun z => z = .own ((rgs ss k t).map Pv.prD) := by
  obtain ⟨e1, e2, e3, e4, e5⟩ := o.kn
  refine goP rfl ?_
  unfold m_ranges_of
  walk_at "pv"
  rw [o.nn]
  refine ⟨by omega, ?_⟩
  rw [rgD0, Int.toNat_natCast]
  refine ⟨_, _, comp_enc (bs := List.range (osn ss k).length) (fun i => PyData.int ((i : Nat) : Int)) (fun i => Pv.prD (rlo ss k t [] [((i : Nat) : Int)], rhi ss k t [] [((i : Nat) : Int)])) (by rw [List.length_range]; omega) fun n hn => ?_, ?_⟩
  · have hn := List.mem_range.mp hn
    have c4 := range_between_ok o f (less := []) (more := [((n : Nat) : Int)]) (fun _ h => by cases h) (fun e he => by rw [List.mem_singleton.mp he]; omega) (by decide) (by simp)
    refine gn ?_
    walk_at "pv"
    exact ⟨_, rfl, rfl⟩
  · walk_at "pv"
    unfold rgs
    rw [List.map_map]
    rfl
theorem all_ranges_ok (o : Ok ss k t) (f : Fits (psn ss k t) (ss.getD 0 0)) : GoP p_all_ranges [dIs ss, .int k, .int t] fun z => z = .own ((rgs ss k t).map Pv.prD) := by
  have c1 := o.told
  have c2 := need_way_ok o f
  have c3 := ranges_of_ok o f
  refine goP rfl ?_
  unfold m_all_ranges
  walk_at "pv"
  rfl
end
end Lib

set_option Elab.async false
set_option linter.all false
set_option maxRecDepth 100000
set_option maxHeartbeats 4000000
namespace Lib
open PySem PySem.Spec PyProof.Rows L2 Ws Pv

/-! ### small draws, all ways -/
theorem small_ok {js : List D} {n : Int} (h : JarD n js) (hn : n ≤ 900000000) : GoJ p__law_small js [] fun z js' => ∃ k t m : Int, z = .sh (.tuple [.int k, .int t, .int m]) ∧ 1 ≤ k ∧ k ≤ 4 ∧ 0 ≤ t ∧ t ≤ 8 ∧ (t.toNat + 1) ^ (k.toNat - 1) ≤ 100 ∧ k ≤ m ∧ m ≤ k + 6 ∧ JarD (n + 3) js' := by
  refine goJ rfl ?_
  unfold m__law_small
  walk_at "pv"
  refine (dip_ok h (by omega) (by decide) (by decide +kernel)).mono fun z js1 hz => ?_
  obtain ⟨a, rfl, a0, a1, j1⟩ := hz
  walk_at "pv"
  have hb : ∃ b : Int, [PyData.int 9, .int 7, .int 5, .int 4][(1 + a - 1).toNat]? = some (.int b) ∧ 0 < b ∧ b ≤ 9 ∧ ∀ t : Int, 0 ≤ t → t < b → (t.toNat + 1) ^ ((1 + a).toNat - 1) ≤ 100 := by
    have : a = 0 ∨ a = 1 ∨ a = 2 ∨ a = 3 := by omega
    have up : ∀ (t b : Int) (e c : Nat), 0 ≤ t → t < b → b.toNat ^ e ≤ c → (t.toNat + 1) ^ e ≤ c := fun t b e c h0 h1 h2 => Nat.le_trans (Nat.pow_le_pow_left (by omega) _) h2
    rcases this with rfl | rfl | rfl | rfl
    · exact ⟨9, rfl, by decide, by decide, fun t h0 h1 => up t 9 _ _ h0 h1 (by decide)⟩
    · exact ⟨7, rfl, by decide, by decide, fun t h0 h1 => up t 7 _ _ h0 h1 (by decide)⟩
    · exact ⟨5, rfl, by decide, by decide, fun t h0 h1 => up t 5 _ _ h0 h1 (by decide)⟩
    · exact ⟨4, rfl, by decide, by decide, fun t h0 h1 => up t 4 _ _ h0 h1 (by decide)⟩
  obtain ⟨b, hb, b0, b9, bp⟩ := hb
  refine fz_ix (atI_nat (by omega) hb) ?_
  walk_at "pv"
  refine (dip_ok j1 (by omega) b0 (by have : (9 : Int) < 2 ^ 8000 := by decide +kernel
                                      omega)).mono fun z js2 hz => ?_
  obtain ⟨t, rfl, t0, t1, j2⟩ := hz
  walk_at "pv"
  refine (dip_ok j2 (by omega) (by decide) (by decide +kernel)).mono fun z js3 hz => ?_
  obtain ⟨c, rfl, c0, c1, j3⟩ := hz
  walk_at "pv"
  exact ⟨_, _, _, rfl, by omega, by omega, t0, by omega, bp t t0 t1, by omega, by omega, j3.mono (by omega)⟩
theorem snocL (ls : List (List Int)) (y : List Int) : ls.map dIs ++ [PyData.list (y.map PyData.int)] = (ls ++ [y]).map dIs := by
  rw [List.map_append]
  rfl
theorem cut_from {α : Type} (l : List α) (j : Int) (h0 : 0 ≤ j) (h : j ≤ l.length) : Pv.cutD l (some j) none = l.drop j.toNat := by
  unfold Pv.cutD HT.sIx
  simp only
  rw [if_neg (by omega), List.take_of_length_le (by rw [List.length_drop]; omega)]
  congr 1
  omega
theorem nextW_free {ss : List Int} {k top d : Nat} {one : List Int} (h : d + 1 < k) : nextW ss k top d one = (List.range (top + 1)).map fun (p : Nat) => one ++ [(p : Int)] := if_pos h
theorem nextW_tied {ss : List Int} {k top d : Nat} {one : List Int} (h : ¬ d + 1 < k) : nextW ss k top d one = if 0 ≤ ss.getD (d + 1 - k) 0 - (one.drop (d + 1 - k)).sum ∧ ss.getD (d + 1 - k) 0 - (one.drop (d + 1 - k)).sum ≤ top then
    [one ++ [ss.getD (d + 1 - k) 0 - (one.drop (d + 1 - k)).sum]] else [] := if_neg h
/-- all ways of the sums -/
def aw (ss : List Int) (k t : Int) : List (List Int) := allW ss k.toNat t.toNat (ss.length + k.toNat - 1)
theorem all_ok {ss : List Int} {k t : Int} (s1 : 1 ≤ ss.length) (s2 : ss.length ≤ 100) (k1 : 1 ≤ k) (k8 : k ≤ 8) (t0 : 0 ≤ t) (t1 : t ≤ 1000) (hb : (t.toNat + 1) ^ (k.toNat - 1) ≤ 1000) :
    GoP p__law_all [dIs ss, .int k, .int t] fun z => z = .sh (.list ((aw ss k t).map dIs)) := by
  have kk : ((k.toNat : Nat) : Int) = k := by omega
  have tt : ((t.toNat : Nat) : Int) = t := by omega
  refine goP rfl ?_
  unfold m__law_all
  walk_at "pv"
  rw [List.length_map]
  refine ⟨by omega, ?_⟩
  refine for_inv (fun i ρ => ∃ s a b c d e f, ((i = 0 ∧ s = Sl.own ((allW ss k.toNat t.toNat i).map dIs)) ∨ s = Sl.sh (.list ((allW ss k.toNat t.toNat i).map dIs))) ∧ ρ = [some (.sh (dIs ss)), some (.sh (.int k)), some (.sh (.int t)), some s, a, b, c, d, e, f]) ⟨_, _, _, _, _, _, _, .inl ⟨rfl, rfl⟩, rfl⟩ ?_ ?_
  · rintro i e ρ he ⟨s, a, b, c, d, f, g, hs, rfl⟩
    obtain ⟨rfl, hi⟩ := rg0_get he
    have small : ∀ j, (allW ss k.toNat t.toNat j).length ≤ 1000 := fun j => allW_small hb
    refine gn ?_
    have body : ∀ Q : Out → Prop, (∀ ρ c d f g, ρ = [some (Sl.sh (dIs ss)), some (.sh (.int k)), some (.sh (.int t)), some (.sh (.list ((allW ss k.toNat t.toNat i).map dIs))), some (.sh (.int ((i : Nat) : Int))), some (.own ((allW ss k.toNat t.toNat (i + 1)).map dIs)), c, d, f, g] → Q (.nx ρ)) →
        Go (forL (gN 6) (ifS (tstM (opM fLt (arg2 (varM 4) (opM fSub (arg2 (varM 1) (cM (.int 1)))))))
    (forS (rng1 (opM fAdd (arg2 (varM 2) (cM (.int 1))))) (gN 7)
    (exprS (appE 5 (opM fCat (arg2 (varM 6) (lstM (consM (varM 7) nilM)))))))
    (seqS (setS 8 (opM fAdd (arg2 (opM fSub (arg2 (varM 4) (varM 1))) (cM (.int 1)))))
    (seqS (setS 9 (opM fSub (arg2 (opM fIx (arg2 (varM 0) (varM 8))) (opM fSum (consM (slM (varM 6) (partM (varM 8)) noM) nilM)))))
    (ifS (tstM (chM (fun i j => decide (i ≤ j)) (fun i j => decide (i ≤ j)) (cM (.int 0)) (varM 9) (varM 2)))
    (exprS (appE 5 (opM fCat (arg2 (varM 6) (lstM (consM (varM 9) nilM))))))
    skipS)))) ((allW ss k.toNat t.toNat i).map dIs))
          [some (.sh (dIs ss)), some (.sh (.int k)), some (.sh (.int t)), some (.sh (.list ((allW ss k.toNat t.toNat i).map dIs))), some (.sh (.int ((i : Nat) : Int))), some (.own []), c, d, f, g] Q := by
      intro Q hQ
      refine for_inv (fun j ρ => ∃ c d f g, ρ = [some (Sl.sh (dIs ss)), some (.sh (.int k)), some (.sh (.int t)), some (.sh (.list ((allW ss k.toNat t.toNat i).map dIs))), some (.sh (.int ((i : Nat) : Int))), some (.own ((((allW ss k.toNat t.toNat i).take j).flatMap (nextW ss k.toNat t.toNat i)).map dIs)), c, d, f, g]) ⟨_, _, _, _, rfl⟩ ?_ ?_
      · rintro j e ρ hj ⟨c, d, f, g, rfl⟩
        rw [List.getElem?_map] at hj
        obtain ⟨one, hone, rfl⟩ := map_some hj
        have hjl := (List.getElem?_eq_some_iff.mp hone).1
        have pre := allW_pre (ss := ss) (top := t.toNat) (show 1 ≤ k.toNat by omega) i one (List.mem_of_getElem? hone)
        have ol := pre.len
        have acc : (((allW ss k.toNat t.toNat i).take (j + 1)).flatMap (nextW ss k.toNat t.toNat i)).length ≤ 1000 := by
          have : ((allW ss k.toNat t.toNat i).take (j + 1)).flatMap (nextW ss k.toNat t.toNat i) <+: allW ss k.toNat t.toNat (i + 1) := by
            show _ <+: (allW ss k.toNat t.toNat i).flatMap (nextW ss k.toNat t.toNat i)
            refine ⟨((allW ss k.toNat t.toNat i).drop (j + 1)).flatMap (nextW ss k.toNat t.toNat i), ?_⟩
            rw [← List.flatMap_append, List.take_append_drop]
          exact Nat.le_trans this.length_le (small _)
        rw [flat_take _ hone] at acc ⊢
        refine gn ?_
        walk_at "pv"
        refine iteD (fun hlt => ?_) (fun hge => ?_)
        · have hk : i + 1 < k.toNat := by omega
          rw [nextW_free hk] at acc ⊢
          rw [List.length_append, List.length_map, List.length_range] at acc
          walk_at "pv"
          refine ⟨by omega, ?_⟩
          refine for_inv (fun q ρ => ∃ d, ρ = [some (Sl.sh (dIs ss)), some (.sh (.int k)), some (.sh (.int t)), some (.sh (.list ((allW ss k.toNat t.toNat i).map dIs))), some (.sh (.int ((i : Nat) : Int))), some (.own (((((allW ss k.toNat t.toNat i).take j).flatMap (nextW ss k.toNat t.toNat i)) ++ ((List.range q).map fun (p : Nat) => one ++ [(p : Int)])).map dIs)), some (.sh (dIs one)), d, f, g]) ⟨d, by simp⟩ ?_ ?_
          · rintro q e ρ hq ⟨d, rfl⟩
            obtain ⟨rfl, hq⟩ := rg0_get hq
            refine gn ?_
            walk_at "pv"
            refine fz_cat (Nat.le_trans (by rw [List.length_map, ol]; show i + 1 ≤ 1000; omega) (by decide)) ?_
            walk_at "pv"
            refine ⟨Nat.lt_of_le_of_lt (by rw [List.length_map, List.length_append, List.length_map, List.length_range]; omega) (show 1000 < sizeLine by decide), ?_⟩
            walk_at "pv"
            rw [snocD, snocL, List.append_assoc, List.range_succ, List.map_append (l₁ := List.range q)]
            exact ⟨_, rfl⟩
          · rintro ρ ⟨d, rfl⟩
            rw [rg0_len]
            walk_at "pv"
            rw [show (t + 1).toNat = t.toNat + 1 by omega]
            exact ⟨_, _, _, _, rfl⟩
        · have hk : ¬ i + 1 < k.toNat := by omega
          rw [nextW_tied hk] at acc ⊢
          walk_at "pv"
          refine fz_ixI (by omega) (getD_some (l := ss) (i := ((i : Nat) - k + 1 : Int).toNat) (by omega)) ?_
          walk_at "pv"
          have hcut : Pv.cutD (one.map PyData.int) (some ((i : Nat) - k + 1)) none = (one.drop (i + 1 - k.toNat)).map PyData.int := by
            rw [cut_from _ _ (by omega) (by rw [List.length_map]; omega), List.map_drop]
            congr 1
            omega
          rw [hcut]
          walk_at "pv"
          rw [show ((i : Nat) - k + 1 : Int).toNat = i + 1 - k.toNat by omega]
          generalize hx : ss.getD (i + 1 - k.toNat) 0 - (one.drop (i + 1 - k.toNat)).sum = x at *
          by_cases hin : 0 ≤ x ∧ x ≤ t
          · rw [if_pos (show 0 ≤ x ∧ x ≤ ((t.toNat : Nat) : Int) from ⟨hin.1, by omega⟩)] at acc ⊢
            rw [decide_eq_true hin.1]
            walk_at "pv"
            rw [decide_eq_true hin.2]
            walk_at "pv"
            refine fz_cat (Nat.le_trans (by rw [List.length_map, ol]; show i + 1 ≤ 1000; omega) (by decide)) ?_
            walk_at "pv"
            refine ⟨Nat.lt_of_le_of_lt (by rw [List.length_map]; rw [List.length_append] at acc; omega) (show 1000 < sizeLine by decide), ?_⟩
            walk_at "pv"
            rw [snocD, snocL]
            exact ⟨_, _, _, _, rfl⟩
          · rw [if_neg (show ¬(0 ≤ x ∧ x ≤ ((t.toNat : Nat) : Int)) from fun h => hin ⟨h.1, by omega⟩), List.append_nil]
            by_cases h0 : 0 ≤ x
            · rw [decide_eq_true h0]
              walk_at "pv"
              rw [decide_eq_false (by omega)]
              walk_at "pv"
              exact ⟨_, _, _, _, rfl⟩
            · rw [decide_eq_false h0]
              walk_at "pv"
              exact ⟨_, _, _, _, rfl⟩
      · rintro ρ ⟨c, d, f, g, rfl⟩
        rw [List.length_map, List.take_length]
        exact hQ _ _ _ _ _ rfl
    rcases hs with ⟨_, rfl⟩ | rfl
    · walk_at "pv"
      refine body _ ?_
      rintro ρ c d f g rfl
      walk_at "pv"
      exact ⟨_, _, _, _, _, _, _, .inr rfl, rfl⟩
    · walk_at "pv"
      refine body _ ?_
      rintro ρ c d f g rfl
      walk_at "pv"
      exact ⟨_, _, _, _, _, _, _, .inr rfl, rfl⟩
  · rintro ρ ⟨s, a, b, c, d, f, g, hs, rfl⟩
    rw [rg0_len, show (((ss.length : Nat) : Int) + k - 1).toNat = ss.length + k.toNat - 1 by omega] at hs
    rcases hs with ⟨h, _⟩ | rfl
    · omega
    · walk_at "pv"
      rfl
end Lib

set_option Elab.async false
set_option linter.all false
set_option maxRecDepth 100000
set_option maxHeartbeats 4000000
namespace Lib
open PySem PySem.Spec PyProof.Rows L2 Ws Pv

theorem eqv_bool (a b : Bool) : PyData.eqv (.bool a) (.bool b) = decide (a = b) := by
  rw [PyData.eqv, Bool.eq_iff_iff]
  simp
theorem fz_neB {a b : Bool} {QZ : Rz → Prop} (q : QZ (.sh (.bool (!decide (a = b))))) : ∃ z, fNe [.bool a, .bool b] = some z ∧ QZ z := fz_ne rfl rfl (by rw [eqv_bool]; exact q)
theorem sum_add (c : Int) : ∀ l : List Int, (l.map fun x => x + c).sum = l.sum + l.length * c
  | [] => by simp
  | x :: l => by
    simp only [List.map_cons, List.sum_cons, List.length_cons]
    rw [sum_add c l, Int.natCast_add, Int.add_mul]
    omega
theorem wsums_add {y : List Int} {k : Nat} (c : Int) : wsums (y.map fun x => x + c) k = (wsums y k).map fun s => s + k * c := by
  unfold wsums
  rw [List.length_map, List.map_map]
  refine List.map_congr_left fun j hj => ?_
  have hj := List.mem_range.mp hj
  show (((y.map fun x => x + c).drop j).take k).sum = ((y.drop j).take k).sum + k * c
  rw [← List.map_drop, ← List.map_take, sum_add, List.length_take, List.length_drop, Nat.min_eq_left (by omega)]
theorem wb_ok {ss : List Int} {k t lo hi : Int} (o : Ok ss k t) (l0 : 0 ≤ lo) (h1 : hi ≤ t) (hb : Betw ss k lo hi) :
    (wb ss k lo hi).length = ss.length + k.toNat - 1 ∧ Btw lo hi (wb ss k lo hi) ∧ wsums (wb ss k lo hi) k.toNat = ss := by
  have o2 : Ok (low ss (k * lo)) k (hi - lo) := low_ok o (by have := hb.1; omega) (by omega)
  have w : Way (lw (low ss (k * lo)) k (hi - lo)) (low ss (k * lo)) k (hi - lo) := by
    refine fits_way o2 ?_
    rw [psn_low o.k1, low_getD (by have := o.s1; omega)]
    exact hb.2
  have wl := (way_n w).1
  have ll := low_len ss (k * lo)
  refine ⟨by unfold wb; rw [List.length_map]; omega, ?_, ?_⟩
  · intro x hx
    obtain ⟨y, hy, rfl⟩ := List.mem_map.mp hx
    have := w.inn y hy
    omega
  · unfold wb
    rw [wsums_add, w.has.2.2, o.kn.1]
    unfold low
    rw [List.map_map]
    conv => rhs; rw [← List.map_id ss]
    refine List.map_congr_left fun x _ => ?_
    show x - k * lo + k * lo = x
    omega
theorem cut_last {α : Type} (l : List α) (x : α) : Pv.cutD (l ++ [x]) none (some (-1)) = l := by
  unfold Pv.cutD HT.sIx
  rw [List.length_append]
  simp only [List.length_singleton, List.drop_zero, Nat.sub_zero]
  rw [if_pos (by decide), show ((-1 : Int) + ((l.length + 1 : Nat) : Int)).toNat = l.length by omega, List.take_left]
/-! ### when there is a way between two numbers -/
theorem ediv_le {a k x : Int} (k1 : 1 ≤ k) : k * x ≤ a ↔ x ≤ a / k := by
  rw [Int.le_ediv_iff_mul_le (by omega), Int.mul_comm]
theorem betw_iff {ss : List Int} {k t lo hi : Int} (o : Ok ss k t) : Betw ss k lo hi ↔ lo ≤ hi ∧ wid (osn ss k) k.toNat ≤ hi - lo ∧ lo ≤ gl ss k t ∧ lh ss k t ≤ hi := by
  obtain ⟨e1, e2, e3, e4, e5⟩ := o.kn
  unfold Betw Fits
  rw [wid_ord e2, los_any t (hi - lo) e2 e4, his_any t (hi - lo) e2 e4, e1]
  have a1 : lo ≤ gl ss k t ↔ k * lo ≤ ss.getD 0 0 - los (psn ss k t) := (ediv_le o.k1).symm
  have a2 : lh ss k t ≤ hi ↔ ss.getD 0 0 + (k * t - his (psn ss k t)) ≤ k * hi := by
    unfold lh
    have := ediv_le (a := -(ss.getD 0 0 + (k * t - his (psn ss k t)))) (x := -hi) o.k1
    rw [Int.mul_neg] at this
    constructor
    · intro h
      have := this.mpr (by omega)
      omega
    · intro h
      have := this.mp (by omega)
      omega
  rw [a1, a2]
  have e : k * (hi - lo) = k * hi - k * lo := Int.mul_sub ..
  unfold psn
  rw [e]
  constructor
  · rintro ⟨h1, h2, h3, h4⟩
    exact ⟨h1, h2, by omega, by omega⟩
  · rintro ⟨h1, h2, h3, h4⟩
    exact ⟨h1, h2, by omega, by omega⟩
theorem way_betw {x ss : List Int} {k t lo hi : Int} (w : Way x ss k t) (h : ∀ y ∈ x, lo ≤ y ∧ y ≤ hi) (l0 : 0 ≤ lo) (h1 : hi ≤ t) : Betw ss k lo hi := by
  have xl : 0 < x.length := by have := way_n w; have := w.k1; omega
  have y0 := h _ (List.getElem_mem xl)
  have hk := w.k1
  have w2 : Way (x.map fun y => y + -lo) (low ss (k * lo)) k (hi - lo) := by
    refine ⟨⟨w.has.1, by rw [List.length_map]; exact w.has.2.1, ?_⟩, ?_, w.k1, w.k8, by rw [List.length_map]; exact w.n67, by have := w.t1; omega⟩
    · rw [wsums_add, w.has.2.2]
      unfold low
      refine List.map_congr_left fun s _ => ?_
      rw [show ((k.toNat : Nat) : Int) = k by omega, Int.mul_neg]
      rfl
    · intro z hz
      obtain ⟨y, hy, rfl⟩ := List.mem_map.mp hz
      have := h y hy
      omega
  have f := way_fits w2
  rw [psn_low hk, low_getD (by have := way_n w; omega)] at f
  exact ⟨by omega, f⟩
theorem betw_way {ss : List Int} {k t lo hi : Int} (o : Ok ss k t) (b : Betw ss k lo hi) (l0 : 0 ≤ lo) (h1 : hi ≤ t) : Way (wb ss k lo hi) ss k t ∧ ∀ y ∈ wb ss k lo hi, lo ≤ y ∧ y ≤ hi := by
  obtain ⟨w1, w2, w3⟩ := wb_ok o l0 h1 b
  obtain ⟨e1, e2, e3, e4, e5⟩ := o.kn
  have := o.n
  have := o.s1
  refine ⟨⟨⟨e2, by omega, w3⟩, fun y hy => ?_, o.k1, o.k8, by omega, o.t1⟩, w2⟩
  have := w2 y hy
  omega
/-! ### the levels over all ways -/
section
variable {ss : List Int} {k t : Int}
def sprd (ss : List Int) (k t : Int) : Int := max (wid (osn ss k) k.toNat) (lh ss k t - gl ss k t)
theorem way_pos {x : List Int} (w : Way x ss k t) : 0 < x.length := by have := way_n w; have := w.k1; omega
theorem peak_le {x : List Int} (o : Ok ss k t) (w : Way x ss k t) : pk ss k t ≤ mx x := by
  have m := mx_mem (way_pos w)
  have b := way_betw w (lo := 0) (hi := mx x) (fun y hy => ⟨(w.inn y hy).1, le_mx hy⟩) (Int.le_refl 0) (w.inn _ m).2
  have := (betw_iff o).mp b
  unfold pk
  omega
theorem le_floor {x : List Int} (o : Ok ss k t) (w : Way x ss k t) : mn x ≤ fl ss k t := by
  have m := mn_mem (way_pos w)
  have b := way_betw w (lo := mn x) (hi := t) (fun y hy => ⟨mn_le hy, (w.inn y hy).2⟩) (w.inn _ m).1 (Int.le_refl t)
  have := (betw_iff o).mp b
  unfold fl
  omega
theorem spread_le {x : List Int} (o : Ok ss k t) (w : Way x ss k t) : sprd ss k t ≤ mx x - mn x := by
  have m := mn_mem (way_pos w)
  have m2 := mx_mem (way_pos w)
  have b := way_betw w (lo := mn x) (hi := mx x) (fun y hy => ⟨mn_le hy, le_mx hy⟩) (w.inn _ m).1 (w.inn _ m2).2
  have := (betw_iff o).mp b
  unfold sprd
  omega
theorem peak_at (o : Ok ss k t) (f : Fits (psn ss k t) (ss.getD 0 0)) : ∃ x, Way x ss k t ∧ mx x = pk ss k t := by
  obtain ⟨p0, p1, p2⟩ := peak_ok o f
  obtain ⟨w, h⟩ := betw_way o p2 (Int.le_refl 0) p1
  refine ⟨_, w, ?_⟩
  have := peak_le o w
  have := (h _ (mx_mem (way_pos w))).2
  omega
theorem floor_at (o : Ok ss k t) (f : Fits (psn ss k t) (ss.getD 0 0)) : ∃ x, Way x ss k t ∧ mn x = fl ss k t := by
  obtain ⟨p0, p1, p2⟩ := floor_ok o f
  obtain ⟨w, h⟩ := betw_way o p2 p0 (Int.le_refl t)
  refine ⟨_, w, ?_⟩
  have := le_floor o w
  have := (h _ (mn_mem (way_pos w))).1
  omega
theorem spread_at (o : Ok ss k t) (f : Fits (psn ss k t) (ss.getD 0 0)) : ∃ x, Way x ss k t ∧ mx x - mn x = sprd ss k t := by
  have w0 := fits_way o f
  have b := way_betw w0 (lo := 0) (hi := t) (fun y hy => ⟨(w0.inn y hy).1, (w0.inn y hy).2⟩) (Int.le_refl 0) (Int.le_refl t)
  obtain ⟨b1, b2, b3, b4⟩ := (betw_iff o).mp b
  obtain ⟨e1, e2, e3, e4, e5⟩ := o.kn
  have wp := wid_pos (os := osn ss k) e2 e4
  have hs : sprd ss k t = max (wid (osn ss k) k.toNat) (lh ss k t - gl ss k t) := rfl
  have c : Betw ss k (min (gl ss k t) (t - sprd ss k t)) (min (gl ss k t) (t - sprd ss k t) + sprd ss k t) := (betw_iff o).mpr ⟨by omega, by omega, by omega, by omega⟩
  obtain ⟨w, h⟩ := betw_way o c (by omega) (by omega)
  refine ⟨_, w, ?_⟩
  have := spread_le o w
  have := (h _ (mx_mem (way_pos w))).2
  have := (h _ (mn_mem (way_pos w))).1
  omega
theorem spread_pos (o : Ok ss k t) (f : Fits (psn ss k t) (ss.getD 0 0)) : 0 ≤ sprd ss k t ∧ sprd ss k t ≤ t := by
  have w0 := fits_way o f
  have b := way_betw w0 (lo := 0) (hi := t) (fun y hy => ⟨(w0.inn y hy).1, (w0.inn y hy).2⟩) (Int.le_refl 0) (Int.le_refl t)
  obtain ⟨b1, b2, b3, b4⟩ := (betw_iff o).mp b
  obtain ⟨e1, e2, e3, e4, e5⟩ := o.kn
  have wp := wid_pos (os := osn ss k) e2 e4
  have hs : sprd ss k t = max (wid (osn ss k) k.toNat) (lh ss k t - gl ss k t) := rfl
  omega
theorem least_spread_ok (o : Ok ss k t) (f : Fits (psn ss k t) (ss.getD 0 0)) : GoP p_least_spread [dIs ss, .int k, .int t] fun z => z = .sh (.int (sprd ss k t)) := by
  obtain ⟨e1, e2, e3, e4, e5⟩ := o.kn
  have c1 := o.told
  have c2 := need_way_ok o f
  have c3 := o.offs
  have c4 := least_high_ok o
  have c5 := greatest_low_ok o
  have c6 := widest_tie_ok (os := osn ss k) (by omega) o.k1 o.k8 (by omega)
  refine goP rfl ?_
  unfold m_least_spread
  walk_at "pv"
  rfl
/-- the ways of small sums, gone through -/
theorem aw_mem (o : Ok ss k t) {x : List Int} : x ∈ aw ss k t ↔ Way x ss k t := by
  obtain ⟨e1, e2, e3, e4, e5⟩ := o.kn
  have := o.n
  have := o.s1
  constructor
  · intro h
    exact all_way (n := ss.length + k.toNat - 1) h rfl o.s1 o.k1 o.k8 (by omega) o.t0 o.t1
  · intro w
    have := way_all w o.t0
    unfold aw
    rw [(way_n w).1]
    exact this
theorem fz_reprL {ns : List Int} {QZ : Rz → Prop} (h : Sml ns) (l : ns.length ≤ 1000) (q : QZ (.sh (.str (PyData.list (ns.map PyData.int)).shown))) : ∃ z, fRepr [.list (ns.map PyData.int)] = some z ∧ QZ z :=
  fz_repr ⟨shw_ints h l, hasDict_ints ns⟩ q
theorem fz_neSr {d : D} {QZ : Rz → Prop} (q : QZ (.sh (.bool false))) : ∃ z, fNeS [.str d.shown, .str d.shown] = some z ∧ QZ z := fz_neS (by rw [decide_eq_true rfl]; exact q)
end
/-! ### comparing lists of encoded things -/
structure EncD {β : Type} (enc : β → D) (n : Nat) : Prop where
  lay : ∀ b, (enc b).canLay0 = true
  dep : ∀ b, (enc b).depth ≤ n
  inj : ∀ a b, PyData.eqv (enc a) (enc b) = true ↔ a = b
theorem EncD.list {β : Type} {enc : β → D} {n : Nat} (h : EncD enc n) : EncD (fun bs : List β => .list (bs.map enc)) (n + 1) where
  lay := fun bs => by
    simp only [PyData.canLay0]
    induction bs with
    | nil => simp [PyData.canLayAll0]
    | cons b r ih => simp [PyData.canLayAll0, h.lay, ih]
  dep := fun bs => by
    show PyData.depthAll (bs.map enc) + 1 ≤ n + 1
    have : PyData.depthAll (bs.map enc) ≤ n := by
      induction bs with
      | nil => exact Nat.zero_le _
      | cons b r ih =>
        have := h.dep b
        rw [List.map_cons]
        simp only [PyData.depthAll]
        omega
    omega
  inj := fun as bs => by
    rw [PyData.eqv]
    induction as generalizing bs with
    | nil => cases bs <;> simp [PyData.eqvAll]
    | cons a r ih =>
      cases bs with
      | nil => simp [PyData.eqvAll]
      | cons b u => simp only [List.map_cons, PyData.eqvAll, Bool.and_eq_true, h.inj, ih, List.cons.injEq]
theorem encInt : EncD PyData.int 0 where
  lay := fun _ => rfl
  dep := fun _ => Nat.le_refl 0
  inj := fun a b => by
    rw [PyData.eqv]
    simp
theorem encIs : EncD dIs 1 := encInt.list
theorem encPr : EncD Pv.prD 1 where
  lay := fun _ => by simp [PyData.canLay0, PyData.canLayAll0]
  dep := fun _ => by simp [PyData.depth, PyData.depthAll]
  inj := fun a b => by
    show PyData.eqv (.tuple [.int a.1, .int a.2]) (.tuple [.int b.1, .int b.2]) = true ↔ _
    rw [PyData.eqv]
    simp [PyData.eqvAll, PyData.eqv, Prod.ext_iff]
theorem EncD.shaped {β : Type} {enc : β → D} {n : Nat} (h : EncD enc n) (hn : n ≤ 64 := by decide) (b : β) : SeqAt.shaped (enc b) = true := by
  unfold SeqAt.shaped
  rw [h.lay, decide_eq_true (Nat.le_trans (h.dep b) hn)]
  rfl
theorem EncD.eqv {β : Type} {enc : β → D} {n : Nat} (h : EncD enc n) (a b : β) [Decidable (a = b)] : PyData.eqv (enc a) (enc b) = decide (a = b) := by
  rw [Bool.eq_iff_iff, h.inj, decide_eq_true_iff]
theorem EncD.any {β : Type} {enc : β → D} {n : Nat} (h : EncD enc n) (bs : List β) (b : β) [Decidable (b ∈ bs)] : ((bs.map enc).any fun z => PyData.eqv z (enc b)) = decide (b ∈ bs) := by
  rw [Bool.eq_iff_iff, List.any_map, List.any_eq_true, decide_eq_true_iff]
  constructor
  · rintro ⟨x, hx, e⟩
    rw [← (h.inj x b).mp e]
    exact hx
  · intro hb
    exact ⟨b, hb, (h.inj b b).mpr rfl⟩
section
variable {β : Type} {enc : β → D} {n : Nat} {QZ : Rz → Prop}
theorem fz_eqE (h : EncD enc n) (hn : n ≤ 64) (a b : β) [Decidable (a = b)] (q : QZ (.sh (.bool (decide (a = b))))) : ∃ z, fEq [enc a, enc b] = some z ∧ QZ z := fz_eq (h.shaped hn a) (h.shaped hn b) (by rw [h.eqv]; exact q)
theorem fz_neE (h : EncD enc n) (hn : n ≤ 64) (a b : β) [Decidable (a = b)] (q : QZ (.sh (.bool (!decide (a = b))))) : ∃ z, fNe [enc a, enc b] = some z ∧ QZ z := fz_ne (h.shaped hn a) (h.shaped hn b) (by rw [h.eqv]; exact q)
theorem fz_inE (h : EncD enc n) (hn : n + 1 ≤ 64) (b : β) (bs : List β) [Decidable (b ∈ bs)] (q : QZ (.sh (.bool (decide (b ∈ bs))))) : ∃ z, fIn [enc b, .list (bs.map enc)] = some z ∧ QZ z := fz_in (h.shaped (by omega) b) (h.list.shaped hn bs) (by rw [h.any]; exact q)
theorem fz_notInE (h : EncD enc n) (hn : n + 1 ≤ 64) (b : β) (bs : List β) [Decidable (b ∈ bs)] (q : QZ (.sh (.bool (!decide (b ∈ bs))))) : ∃ z, fNotIn [enc b, .list (bs.map enc)] = some z ∧ QZ z := fz_notIn (h.shaped (by omega) b) (h.list.shaped hn bs) (by rw [h.any]; exact q)
end
/-! ### comprehensions with a test -/
theorem comp_filt {β : Type} {g : D → Rho → Option Rho} {t : TM} {m : EM} {vs : List Nat} {bs : List β} {ρ : Rho} (enc : β → D) (p : β → Bool) (f : β → D) (hz : bs.length < 16000000)
    (hs : ∀ b, b ∈ bs → ∃ ρ1, g (enc b) ρ = some ρ1 ∧ GoT t ρ1 fun c ρ2 => if c = true then p b = true ∧ GoE m ρ2 fun r ρ3 => ∃ ρ4, takeR r ρ3 = some (f b, ρ4) ∧ wipeE ρ4 vs = ρ else p b = false ∧ wipeE ρ2 vs = ρ) :
    compL g t m vs (bs.map enc) ρ [] = some ((bs.filter p).map f, ρ) := by
  obtain ⟨acc, ρ2, e, rfl, rfl⟩ := comp_inv (g := g) (t := t) (m := m) (vs := vs) (ds := bs.map enc) (ρ := ρ) (Q := fun acc ρ2 => acc = (bs.filter p).map f ∧ ρ2 = ρ) (fun i acc ρ2 => acc = ((bs.take i).filter p).map f ∧ ρ2 = ρ) ⟨by simp, rfl⟩ (by rw [List.length_map]; exact hz)
    (fun i d acc ρ2 hd hl q => by
      obtain ⟨rfl, rfl⟩ := q
      rw [List.getElem?_map] at hd
      obtain ⟨b, hb, rfl⟩ := map_some hd
      obtain ⟨ρ1, e1, c, ρ3, e2, q⟩ := hs b (List.mem_of_getElem? hb)
      refine ⟨ρ1, e1, c, ρ3, e2, ?_⟩
      cases c with
      | true =>
        simp only [if_true] at q ⊢
        obtain ⟨hp, r, ρ5, e3, ρ4, e4, e5⟩ := q
        refine ⟨r, ρ5, e3, _, ρ4, e4, ?_, e5⟩
        rw [take_next hb, List.filter_append, List.map_append]
        simp [hp]
      | false =>
        have q : p b = false ∧ wipeE ρ3 vs = ρ2 := q
        show _ ∧ _
        refine ⟨?_, q.2⟩
        rw [take_next hb, List.filter_append]
        simp [q.1])
    (fun acc ρ2 q => by
      obtain ⟨rfl, rfl⟩ := q
      rw [List.length_map, List.take_length]
      exact ⟨rfl, rfl⟩)
  exact e
end Lib

set_option Elab.async false
set_option linter.all false
set_option maxRecDepth 100000
set_option maxHeartbeats 4000000
namespace Lib
open PySem PySem.Spec PyProof.Rows L2 Ws Pv

/-! ### what can be printed -/
structure Shn (d : D) (c p : Nat) : Prop where
  s : d.showable = true
  h : d.hasDict = false
  c : cst d ≤ c
  p : d.depth ≤ p
theorem Shn.int {n : Int} (h : n.natAbs.log2 < 1000) : Shn (.int n) 1003 0 := ⟨by
    simp only [PyData.showable]
    exact decide_eq_true (Nat.lt_trans h (by decide)), rfl, by
    show n.natAbs.log2 + 3 ≤ _
    omega, Nat.le_refl 0⟩
theorem Shn.bool (b : Bool) : Shn (.bool b) 8 0 := ⟨rfl, rfl, Nat.le_refl 8, Nat.le_refl 0⟩
theorem Shn.non : Shn .none 1003 0 := ⟨rfl, rfl, by decide, Nat.le_refl 0⟩
theorem Shn.all {β : Type} {enc : β → D} {c p : Nat} : ∀ {bs : List β}, (∀ b ∈ bs, Shn (enc b) c p) → PyData.showableAll (bs.map enc) = true ∧ PyData.hasDictAll (bs.map enc) = false ∧ cstA (bs.map enc) ≤ bs.length * (c + 2) ∧ PyData.depthAll (bs.map enc) ≤ p
  | [], _ => ⟨by simp [PyData.showableAll], by simp [PyData.hasDictAll], by simp [cstA], by simp [PyData.depthAll]⟩
  | b :: r, h => by
    have hb := h b List.mem_cons_self
    obtain ⟨h1, h2, h3, h4⟩ := Shn.all fun x hx => h x (List.mem_cons_of_mem _ hx)
    have hp := hb.p
    have hc := hb.c
    refine ⟨by simp [PyData.showableAll, hb.s, h1], by simp [PyData.hasDictAll, hb.h, h2], ?_, ?_⟩
    · rw [List.map_cons, List.length_cons, Nat.add_mul, Nat.one_mul]
      show cst (enc b) + 2 + cstA (r.map enc) ≤ _
      omega
    · rw [List.map_cons]
      simp only [PyData.depthAll]
      omega
theorem Shn.list {β : Type} {enc : β → D} {c p : Nat} {bs : List β} (h : ∀ b ∈ bs, Shn (enc b) c p) : Shn (.list (bs.map enc)) (bs.length * (c + 2) + 4) (p + 1) := by
  obtain ⟨h1, h2, h3, h4⟩ := Shn.all h
  refine ⟨by simp only [PyData.showable]; exact h1, by simp only [PyData.hasDict]; exact h2, ?_, ?_⟩
  · show cstA (bs.map enc) + 4 ≤ _
    omega
  · show PyData.depthAll (bs.map enc) + 1 ≤ _
    omega
theorem Shn.tup2 {a b : D} {c p : Nat} (ha : Shn a c p) (hb : Shn b c p) : Shn (.tuple [a, b]) (2 * (c + 2) + 4) (p + 1) := by
  obtain ⟨h1, h2, h3, h4⟩ := Shn.all (enc := fun x : D => x) (bs := [a, b]) (c := c) (p := p) (fun x hx => by
    simp only [List.mem_cons, List.not_mem_nil, or_false] at hx
    rcases hx with rfl | rfl
    · exact ha
    · exact hb)
  refine ⟨by simp only [PyData.showable]; exact h1, by simp only [PyData.hasDict]; exact h2, ?_, ?_⟩
  · show cstA [a, b] + 4 ≤ _
    exact Nat.add_le_add_right h3 4
  · show PyData.depthAll [a, b] + 1 ≤ _
    exact Nat.add_le_add_right h4 1
theorem Shn.shw {d : D} {c p : Nat} (h : Shn d c p) (hc : c ≤ 10000000) (hp : p ≤ 60 := by decide) : Shw d ∧ d.hasDict = false := ⟨shw_of h.s h.h (Nat.le_trans h.c hc) (Nat.le_trans h.p hp), h.h⟩
theorem Shn.pr {a b : Int} (ha : a.natAbs.log2 < 1000) (hb : b.natAbs.log2 < 1000) : Shn (Pv.prD (a, b)) 2014 1 := (Shn.int ha).tup2 (Shn.int hb)
theorem log_bd {n : Int} (h0 : -(10 ^ 40) ≤ n) (h1 : n ≤ 10 ^ 40) : n.natAbs.log2 < 1000 := log_of (by decide) (Int.lt_of_lt_of_le (by decide +kernel) h0) (Int.lt_of_le_of_lt h1 (by decide +kernel))
section
variable {ss : List Int} {k t : Int}
theorem conflict_of_ok (o : Ok ss k t) : GoP p_conflict_of [dIs ss, .int k, .int t] (FC ss k t) := by
  have c1 := o.told
  refine goP rfl ?_
  unfold m_conflict_of
  walk_at "pv"
  refine (find_conflict_ok o).mono fun z hz => ?_
  have g : ∀ z, FC ss k t z → ∃ d, z = .sh d := fun z h => by
    cases h <;> exact ⟨_, rfl⟩
  obtain ⟨d, rfl⟩ := g z hz
  walk_at "pv"
  exact hz
theorem least_way_ok (o : Ok ss k t) (f : Fits (psn ss k t) (ss.getD 0 0)) : GoP p_least_way [dIs ss, .int k, .int t] fun z => z = .own ((lw ss k t).map PyData.int) := by
  have c1 := o.told
  have c2 := need_way_ok o f
  have c3 := first_way_ok (t := t) o.s1 o.k1 o.k8 o.n
  refine goP rfl ?_
  unfold m_least_way
  walk_at "pv"
  rfl
/-- none exactly where there is a way -/
theorem FC.iff {z : Rz} (o : Ok ss k t) (h : FC ss k t z) : (z = .sh .none ∧ Fits (psn ss k t) (ss.getD 0 0)) ∨ (∃ w ds, z = .sh (.tuple [.str w, .list ds]) ∧ ¬ Fits (psn ss k t) (ss.getD 0 0)) := by
  by_cases f : Fits (psn ss k t) (ss.getD 0 0)
  · exact .inl ⟨h.fits o f, f⟩
  · obtain ⟨w, ds, e⟩ := h.not f
    exact .inr ⟨w, ds, e, f⟩
/-! ### one more sum -/
theorem win_eq (x : List Int) (j k : Nat) : (wsums x k).getD j 0 = if j < x.length + 1 - k then win x j k else 0 := by
  unfold wsums
  rw [List.getD_eq_getElem?_getD, List.getElem?_map]
  by_cases h : j < x.length + 1 - k
  · rw [if_pos h, List.getElem?_range h]
    rfl
  · rw [if_neg h, List.getElem?_eq_none_iff.mpr (by rw [List.length_range]; omega)]
    rfl
theorem wsums_snoc {x : List Int} {k : Nat} (y : Int) (k1 : 1 ≤ k) (kx : k ≤ x.length) : wsums (x ++ [y]) k = wsums x k ++ [win (x ++ [y]) (x.length + 1 - k) k] := by
  have e : (x ++ [y]).length + 1 - k = (x.length + 1 - k) + 1 := by
    rw [List.length_append, List.length_singleton]
    omega
  unfold wsums
  rw [e, List.range_succ, List.map_append]
  congr 1
  refine List.map_congr_left fun j hj => ?_
  have hj := List.mem_range.mp hj
  exact win_snoc (by omega)
theorem way_snoc {x : List Int} {y v : Int} (w : Way x ss k t) (h : 0 ≤ y ∧ y ≤ t) (n : x.length + 1 ≤ 67) (hv : v = ss.getD (ss.length - 1) 0 - x.getD (ss.length - 1) 0 + y) : Way (x ++ [y]) (ss ++ [v]) k t := by
  have hk := w.k1
  have wn := way_n w
  have k1 := w.has.1
  have kx := w.has.2.1
  refine ⟨⟨k1, by rw [List.length_append]; omega, ?_⟩, fun z hz => ?_, w.k1, w.k8, by rw [List.length_append]; exact n, w.t1⟩
  · rw [wsums_snoc y k1 kx, w.has.2.2]
    congr 2
    have a := win_step (x := x ++ [y]) (t := x.length - k.toNat) (k := k.toNat) (by rw [List.length_append, List.length_singleton]; omega)
    have b := win_snoc (x := x) (y := y) (j := x.length - k.toNat) (k := k.toNat) (by omega)
    have c := w.has.at (j := ss.length - 1) (by omega)
    have e1 : ss.length - 1 = x.length - k.toNat := by omega
    have e2 : x.length + 1 - k.toNat = x.length - k.toNat + 1 := by omega
    have e3 : x.length - k.toNat + k.toNat = x.length := by omega
    have e4 : (x ++ [y]).getD x.length 0 = y := by
      rw [List.getD_eq_getElem?_getD, List.getElem?_append_right (Nat.le_refl _), Nat.sub_self]
      rfl
    have e5 : (x ++ [y]).getD (x.length - k.toNat) 0 = x.getD (x.length - k.toNat) 0 := by
      rw [List.getD_eq_getElem?_getD, List.getD_eq_getElem?_getD, List.getElem?_append_left (by omega)]
    rw [e2]
    rw [e3, e4, e5, b] at a
    rw [hv, e1]
    rw [e1] at c
    omega
  · rcases List.mem_append.mp hz with hz | hz
    · exact w.inn z hz
    · rw [List.mem_singleton.mp hz]
      exact h
theorem way_unsnoc {x : List Int} {v : Int} (s1 : 1 ≤ ss.length) (w : Way x (ss ++ [v]) k t) : ∃ x' y, x = x' ++ [y] ∧ Way x' ss k t ∧ 0 ≤ y ∧ y ≤ t ∧ v = ss.getD (ss.length - 1) 0 - x'.getD (ss.length - 1) 0 + y := by
  have hk := w.k1
  have wn := way_n w
  rw [List.length_append, List.length_singleton] at wn
  have xl : 0 < x.length := by omega
  have ne : x ≠ [] := fun e => by rw [e] at xl; simp at xl
  have e := (List.dropLast_concat_getLast ne).symm
  generalize x.dropLast = x' at e
  generalize x.getLast ne = y at e
  subst e
  have k1 := w.has.1
  rw [List.length_append, List.length_singleton] at wn
  have hs := w.has.2.2
  rw [wsums_snoc y k1 (by omega)] at hs
  have h1 := List.append_inj hs (by rw [wsums_len]; omega)
  have w' : Way x' ss k t := ⟨⟨k1, by omega, h1.1⟩, fun z hz => w.inn z (List.mem_append_left _ hz), w.k1, w.k8, by have := w.n67; rw [List.length_append, List.length_singleton] at this; omega, w.t1⟩
  have hy := w.inn y (List.mem_append_right _ (List.mem_singleton.mpr rfl))
  refine ⟨x', y, rfl, w', hy.1, hy.2, ?_⟩
  have n67 := w.n67
  rw [List.length_append, List.length_singleton] at n67
  have w2 := way_snoc (v := ss.getD (ss.length - 1) 0 - x'.getD (ss.length - 1) 0 + y) w' hy (by omega) rfl
  have h2 := w2.has.2.2
  rw [wsums_snoc y k1 (by omega), h1.1] at h2
  have h3 := (List.append_inj h2 rfl).2
  have h4 := h1.2
  rw [h3] at h4
  exact (List.cons.inj h4).1.symm
def nlo (ss : List Int) (k t : Int) : Int := ss.getD (ss.length - 1) 0 + rlo ss k t [((ss.length : Nat) : Int) - 1] []
def nhi (ss : List Int) (k t : Int) : Int := ss.getD (ss.length - 1) 0 + rhi ss k t [((ss.length : Nat) : Int) - 1] [] + t
theorem Ok.snoc (o : Ok ss k t) (n : k + ss.length ≤ 67) (v : Int) : Ok (ss ++ [v]) k t := ⟨by rw [List.length_append, List.length_singleton]; omega, o.k1, o.k8, by rw [List.length_append, List.length_singleton]; omega, o.t0, o.t1⟩
theorem next_rng (o : Ok ss k t) (f : Fits (psn ss k t) (ss.getD 0 0)) : Rng ss k t (fun x => -(x.getD (ss.length - 1) 0)) (rlo ss k t [((ss.length : Nat) : Int) - 1] []) (rhi ss k t [((ss.length : Nat) : Int) - 1] []) := by
  have s1 := o.s1
  have k1 := o.k1
  have ol := o.len
  have r := rng_ok o f (less := [((ss.length : Nat) : Int) - 1]) (more := []) (fun d hd => by rw [List.mem_singleton.mp hd]; omega) (fun d hd => by cases hd)
  have e : (fun x : List Int => dsum x [] - dsum x [((ss.length : Nat) : Int) - 1]) = fun x => -(x.getD (ss.length - 1) 0) := by
    funext x
    unfold dsum
    simp only [List.map_nil, List.map_cons, List.sum_nil, List.sum_cons]
    rw [show (((ss.length : Nat) : Int) - 1).toNat = ss.length - 1 by omega]
    omega
  rw [e] at r
  exact r
theorem next_iff (o : Ok ss k t) (f : Fits (psn ss k t) (ss.getD 0 0)) (n : k + ss.length ≤ 67) (v : Int) : Fits (psn (ss ++ [v]) k t) ((ss ++ [v]).getD 0 0) ↔ nlo ss k t ≤ v ∧ v ≤ nhi ss k t := by
  have r := next_rng o f
  have ov := o.snoc n v
  unfold nlo nhi
  constructor
  · intro g
    obtain ⟨x, y, _, w, y0, y1, rfl⟩ := way_unsnoc o.s1 (fits_way ov g)
    have a : _ ≤ -(x.getD (ss.length - 1) 0) := r.lo_le x w
    have b : -(x.getD (ss.length - 1) 0) ≤ _ := r.le_hi x w
    omega
  · rintro ⟨g1, g2⟩
    obtain ⟨x1, w1, a1⟩ := r.at_lo
    obtain ⟨x2, w2, a2⟩ := r.at_hi
    have a1 : -(x1.getD (ss.length - 1) 0) = _ := a1
    have a2 : -(x2.getD (ss.length - 1) 0) = _ := a2
    have k1 := o.k1
    have n1 := way_n w1
    have n2 := way_n w2
    have b1 := w1.bd (ss.length - 1) (by omega)
    have b2 := w2.bd (ss.length - 1) (by omega)
    by_cases h : rhi ss k t [((ss.length : Nat) : Int) - 1] [] ≤ v - ss.getD (ss.length - 1) 0
    · exact way_fits (way_snoc (y := v - ss.getD (ss.length - 1) 0 - rhi ss k t [((ss.length : Nat) : Int) - 1] []) w2 (by omega) (by omega) (by omega))
    · exact way_fits (way_snoc (y := v - ss.getD (ss.length - 1) 0 - rlo ss k t [((ss.length : Nat) : Int) - 1] []) w1 (by omega) (by omega) (by omega))
theorem next_le (o : Ok ss k t) (f : Fits (psn ss k t) (ss.getD 0 0)) : nlo ss k t ≤ nhi ss k t := by
  have r := next_rng o f
  obtain ⟨x1, w1, a1⟩ := r.at_lo
  have b : -(x1.getD (ss.length - 1) 0) ≤ _ := r.le_hi x1 w1
  have a1 : -(x1.getD (ss.length - 1) 0) = _ := a1
  have := o.t0
  unfold nlo nhi
  omega
/-- a sum of a way lies from 0 to so many times the most -/
theorem win_bd {x : List Int} {t : Int} (h : Btw 0 t x) : ∀ (k j : Nat), j + k ≤ x.length → 0 ≤ win x j k ∧ win x j k ≤ k * t
  | 0, j, _ => by
    rw [win_zero]
    omega
  | k + 1, j, hj => by
    have ih := win_bd h k j (by omega)
    rw [win_more (by omega)]
    have m := h (x.getD (j + k) 0) (by
      rw [List.getD_eq_getElem?_getD, List.getElem?_eq_getElem (by omega)]
      exact List.getElem_mem (by omega))
    have e : ((k + 1 : Nat) : Int) * t = k * t + t := by
      rw [Int.natCast_add, Int.add_mul]
      omega
    omega
theorem way_sum {x : List Int} (w : Way x ss k t) {j : Nat} (hj : j < ss.length) : 0 ≤ ss.getD j 0 ∧ ss.getD j 0 ≤ k * t := by
  have hk := w.k1
  have wn := way_n w
  have := win_bd w.inn k.toNat j (by omega)
  rw [w.has.at hj]
  rw [show ((k.toNat : Nat) : Int) = k by omega] at this
  exact this
theorem next_bd (o : Ok ss k t) (f : Fits (psn ss k t) (ss.getD 0 0)) (n : k + ss.length ≤ 67) {v : Int} (h : nlo ss k t ≤ v ∧ v ≤ nhi ss k t) : 0 ≤ v ∧ v ≤ k * t := by
  have w := fits_way (o.snoc n v) ((next_iff o f n v).mpr h)
  have g := way_sum w (j := ss.length) (by rw [List.length_append, List.length_singleton]; omega)
  have e : (ss ++ [v]).getD ss.length 0 = v := by
    rw [List.getD_eq_getElem?_getD, List.getElem?_append_right (Nat.le_refl _), Nat.sub_self]
    rfl
  rw [e] at g
  exact g
theorem next_ends (o : Ok ss k t) (f : Fits (psn ss k t) (ss.getD 0 0)) (n : k + ss.length ≤ 67) {a b : Int} (fa : Fits (psn (ss ++ [a]) k t) ((ss ++ [a]).getD 0 0)) (fb : Fits (psn (ss ++ [b]) k t) ((ss ++ [b]).getD 0 0))
    (na : ¬ Fits (psn (ss ++ [a - 1]) k t) ((ss ++ [a - 1]).getD 0 0)) (nb : ¬ Fits (psn (ss ++ [b + 1]) k t) ((ss ++ [b + 1]).getD 0 0)) : nlo ss k t = a ∧ nhi ss k t = b := by
  rw [next_iff o f n] at fa fb na nb
  omega
theorem range_ahead_ok (o : Ok ss k t) (f : Fits (psn ss k t) (ss.getD 0 0)) : GoP p_range_ahead [dIs ss, .int k, .int t] fun z => z = .sh (Pv.prD (nlo ss k t, nhi ss k t)) := by
  have s1 := o.s1
  have k1 := o.k1
  have ol := o.len
  have c1 := range_between_ok o f (less := [(((ss.map PyData.int).length : Nat) : Int) - 1]) (more := []) (fun d hd => by rw [List.mem_singleton.mp hd, List.length_map]; omega) (fun d hd => by cases hd) (by simp) (by decide)
  have hx : [PyData.int 0] = [PyData.int 0] := rfl
  refine goP rfl ?_
  unfold m_range_ahead
  walk_at "pv"
  have g : atI (ss.map PyData.int) (-1) = some (PyData.int (ss.getD (ss.length - 1) 0)) := atI_back (j := ss.length - 1) (by rw [List.length_map]; omega) (by rw [List.length_map]; omega) (by rw [List.getElem?_map, getD_some (by omega)]; rfl)
  refine fz_ix g ?_
  walk_at "pv"
  refine fz_ix g ?_
  walk_at "pv"
  unfold nlo nhi
  rw [List.length_map]
theorem next_range_ok (o : Ok ss k t) (f : Fits (psn ss k t) (ss.getD 0 0)) : GoP p_next_range [dIs ss, .int k, .int t] fun z => z = .sh (Pv.prD (nlo ss k t, nhi ss k t)) := by
  have c1 := o.told
  have c2 := need_way_ok o f
  have c3 := range_ahead_ok o f
  refine goP rfl ?_
  unfold m_next_range
  walk_at "pv"
  rfl
end
/-! ### stretches of ints -/
theorem asc_eq {as bs : List Int} (h : as.Pairwise (· < ·)) (g : bs.Pairwise (· < ·)) (m : ∀ x, x ∈ as ↔ x ∈ bs) : as = bs := by
  have na : as.Nodup := h.imp fun {a b} e => by omega
  have nb : bs.Nodup := g.imp fun {a b} e => by omega
  exact List.Perm.eq_of_pairwise (le := fun a b : Int => a < b) (fun a b _ _ x y => by omega) h g ((List.perm_ext_iff_of_nodup na nb).mpr m)
theorem rgI_asc (a b : Int) : (rgI a b).Pairwise (· < ·) := by
  unfold rgI
  rw [List.pairwise_map]
  exact List.pairwise_lt_range.imp fun {a b} h => by omega
theorem rgI_ends {a b : Int} (h : a ≤ b) : 0 < (rgI a (b + 1)).length ∧ mn (rgI a (b + 1)) = a ∧ mx (rgI a (b + 1)) = b :=
  ⟨by rw [rgI_len]; omega, (mn_uniq (rgI_mem.mpr ⟨by omega, by omega⟩) fun y hy => (rgI_mem.mp hy).1).symm, (mx_uniq (rgI_mem.mpr ⟨by omega, by omega⟩) fun y hy => by have := (rgI_mem.mp hy).2; omega).symm⟩
theorem rgI_filter {a b c d : Int} (h1 : a ≤ c) (h2 : d < b) (p : Int → Bool) (hp : ∀ x, a ≤ x → x < b → (p x = true ↔ c ≤ x ∧ x ≤ d)) : (rgI a b).filter p = rgI c (d + 1) := by
  refine asc_eq ((rgI_asc a b).filter _) (rgI_asc _ _) fun x => ?_
  rw [List.mem_filter, rgI_mem, rgI_mem]
  constructor
  · rintro ⟨⟨g1, g2⟩, g3⟩
    have := (hp x g1 g2).mp g3
    omega
  · rintro ⟨g1, g2⟩
    exact ⟨⟨by omega, by omega⟩, (hp x (by omega) (by omega)).mpr ⟨g1, by omega⟩⟩
theorem fz_cat1 {as : List Int} {v : Int} {QZ : Rz → Prop} (h : as.length < 1000) (q : QZ (.own ((as ++ [v]).map PyData.int))) : ∃ z, fCat [.list (as.map PyData.int), .list [.int v]] = some z ∧ QZ z := fz_cat (Nat.le_trans (by rw [List.length_map]; show as.length + 1 ≤ 1000; omega) (by decide)) (by rw [snocD]; exact q)
end Lib

set_option Elab.async false
set_option linter.all false
set_option maxRecDepth 100000
set_option maxHeartbeats 4000000
namespace Lib
open PySem PySem.Spec PyProof.Rows L2 Ws Pv

/-! ### sorting that computes -/
def insP (q : Int × Int) : List (Int × Int) → List (Int × Int)
  | [] => [q]
  | p :: r => if ple q p = true then q :: p :: r else p :: insP q r
def isrP : List (Int × Int) → List (Int × Int)
  | [] => []
  | q :: r => insP q (isrP r)
theorem insP_perm (q : Int × Int) : ∀ r, (insP q r).Perm (q :: r)
  | [] => List.Perm.refl _
  | p :: r => by
    unfold insP
    split
    · exact List.Perm.refl _
    · exact ((insP_perm q r).cons p).trans (List.Perm.swap q p r)
theorem insP_asc (q : Int × Int) : ∀ r, r.Pairwise (fun a b => ple a b = true) → (insP q r).Pairwise fun a b => ple a b = true
  | [], _ => List.pairwise_singleton ..
  | p :: r, h => by
    unfold insP
    have h1 := List.pairwise_cons.mp h
    split
    · rename_i e
      refine List.pairwise_cons.mpr ⟨fun x hx => ?_, h⟩
      rcases List.mem_cons.mp hx with rfl | hx
      · exact e
      · exact ple_tr _ _ _ e (h1.1 x hx)
    · rename_i e
      refine List.pairwise_cons.mpr ⟨fun x hx => ?_, insP_asc q r h1.2⟩
      rcases List.mem_cons.mp ((insP_perm q r).mem_iff.mp hx) with rfl | hx
      · have := ple_tot x p
        simp only [Bool.or_eq_true] at this
        rcases this with t | t
        · exact absurd t e
        · exact t
      · exact h1.1 x hx
theorem isrP_perm : ∀ r, (isrP r).Perm r
  | [] => List.Perm.refl _
  | q :: r => (insP_perm q _).trans ((isrP_perm r).cons q)
theorem isrP_asc : ∀ r, (isrP r).Pairwise fun a b => ple a b = true
  | [] => List.Pairwise.nil
  | q :: r => insP_asc q _ (isrP_asc r)
theorem srtP_isr (r : List (Int × Int)) : srtP r = isrP r := (srtP_uniq (isrP_perm r) (isrP_asc r)).symm
def rlo' (ss : List Int) (k t : Int) (less more : List Int) : Int := bas ss k t less more + sw (isrP (rwr ss k t less more)) (ss.getD 0 0 - los (psn ss k t))
def rhi' (ss : List Int) (k t : Int) (less more : List Int) : Int := bas ss k t less more + sw (isrP (rwr ss k t less more)).reverse (ss.getD 0 0 - los (psn ss k t))
theorem rlo_is (ss : List Int) (k t : Int) (less more : List Int) : rlo ss k t less more = rlo' ss k t less more := by
  unfold rlo rlo'
  rw [srtP_isr]
theorem rhi_is (ss : List Int) (k t : Int) (less more : List Int) : rhi ss k t less more = rhi' ss k t less more := by
  unfold rhi rhi'
  rw [srtP_isr]
section
variable {ss : List Int} {k t : Int}
/-! ### ends over all ways -/
theorem ends_eq (o : Ok ss k t) {g : List Int → Int} {lo hi : Int} (r : Rng ss k t g lo hi) : 0 < ((aw ss k t).map g).length ∧ mn ((aw ss k t).map g) = lo ∧ mx ((aw ss k t).map g) = hi := by
  obtain ⟨x1, w1, e1⟩ := r.at_lo
  obtain ⟨x2, w2, e2⟩ := r.at_hi
  have m1 : lo ∈ (aw ss k t).map g := List.mem_map.mpr ⟨x1, (aw_mem o).mpr w1, e1⟩
  have m2 : hi ∈ (aw ss k t).map g := List.mem_map.mpr ⟨x2, (aw_mem o).mpr w2, e2⟩
  refine ⟨List.length_pos_of_mem m1, (mn_uniq m1 fun y hy => ?_).symm, (mx_uniq m2 fun y hy => ?_).symm⟩
  · obtain ⟨x, hx, rfl⟩ := List.mem_map.mp hy
    exact r.lo_le x ((aw_mem o).mp hx)
  · obtain ⟨x, hx, rfl⟩ := List.mem_map.mp hy
    exact r.le_hi x ((aw_mem o).mp hx)
theorem Rng.congr {f g : List Int → Int} {lo hi : Int} (r : Rng ss k t f lo hi) (h : ∀ x, Way x ss k t → g x = f x) : Rng ss k t g lo hi where
  lo_le := fun x w => by rw [h x w]; exact r.lo_le x w
  le_hi := fun x w => by rw [h x w]; exact r.le_hi x w
  at_lo := let ⟨x, w, e⟩ := r.at_lo; ⟨x, w, by rw [h x w]; exact e⟩
  at_hi := let ⟨x, w, e⟩ := r.at_hi; ⟨x, w, by rw [h x w]; exact e⟩
theorem Rng.le {f : List Int → Int} {lo hi : Int} (r : Rng ss k t f lo hi) : lo ≤ hi := by
  obtain ⟨x, w, e⟩ := r.at_lo
  have := r.le_hi x w
  omega
/-! ### the greatest way, certain days -/
theorem greatest_way_ok (o : Ok ss k t) (f : Fits (psn ss k t) (ss.getD 0 0)) : GoP p_greatest_way [dIs ss, .int k, .int t] fun z => z = .own ((gw ss k t).map PyData.int) := by
  obtain ⟨e1, e2, e3, e4, e5⟩ := o.kn
  have s1 := o.s1
  have c1 := o.told
  have c2 := need_way_ok o f
  have c3 := o.offs
  have c4 := o.starts
  have pl := psn_len ss k t
  have hx : ss[(0 : Int).toNat]? = some (ss.getD 0 0) := getD_some (by show 0 < _; omega)
  have c5 := least_starts_ok (ps := (psn ss k t).map flip2) (tot := -(ss.getD 0 0)) (by rw [List.length_map]; omega)
  have c6 := way_from_ok (st := (tak ((psn ss k t).map flip2) ((((psn ss k t).map flip2).map (·.2)).sum - -(ss.getD 0 0))).map fun x => -x) (os := osn ss k) (by rw [List.length_map, tak_len, List.length_map, pl]; omega) (by omega)
  refine goP rfl ?_
  unfold m_greatest_way
  walk_at "pv"
  refine ⟨_, _, comp_enc Pv.prD (fun q => Pv.prD (flip2 q)) (by omega) fun q hq => ?_, ?_⟩
  · refine gt3 (by rfl) ?_
    walk_at "pv"
    exact ⟨_, rfl, rfl⟩
  rw [show ((psn ss k t).map fun q => Pv.prD (flip2 q)) = ((psn ss k t).map flip2).map Pv.prD by rw [List.map_map]; rfl]
  walk_at "pv"
  refine ⟨_, _, comp_ints PyData.int (fun x => -x) (by rw [tak_len, List.length_map]; omega) fun q hq => ?_, ?_⟩
  · refine gn ?_
    walk_at "pv"
    exact ⟨_, rfl, rfl⟩
  walk_at "pv"
  rfl
theorem enumD_map {β : Type} (enc : β → D) : ∀ (bs : List β) (i : Nat), Pv.enumD i (bs.map enc) = (bs.zipIdx i).map fun q => PyData.tuple [.int ((q.2 : Nat) : Int), enc q.1]
  | [], _ => rfl
  | b :: r, i => by
    simp only [List.map_cons, Pv.enumD, List.zipIdx_cons, enumD_map enc r (i + 1)]
/-- days with one number -/
def crt (rs : List (Int × Int)) : List (Int × Int) := ((rs.zipIdx 0).filter fun q => decide (q.1.1 = q.1.2)).map fun q => (((q.2 : Nat) : Int), q.1.1)
theorem crt_enc (rs : List (Int × Int)) : (((rs.zipIdx 0).filter fun q => decide (q.1.1 = q.1.2)).map fun q => PyData.tuple [.int ((q.2 : Nat) : Int), .int q.1.1]) = (crt rs).map Pv.prD := by
  unfold crt
  rw [List.map_map]
  rfl
theorem rgs_len (ss : List Int) (k t : Int) : (rgs ss k t).length = (osn ss k).length := by
  unfold rgs
  rw [List.length_map, List.length_range]
theorem certain_of_ok (o : Ok ss k t) (f : Fits (psn ss k t) (ss.getD 0 0)) : GoP p_certain_of [dIs ss, .int k, .int t] fun z => z = .own ((crt (rgs ss k t)).map Pv.prD) := by
  obtain ⟨e1, e2, e3, e4, e5⟩ := o.kn
  have c1 := ranges_of_ok o f
  have rl := rgs_len ss k t
  refine goP rfl ?_
  unfold m_certain_of
  walk_at "pv"
  rw [enumD_map]
  refine ⟨_, _, comp_filt _ (fun q => decide (q.1.1 = q.1.2)) (fun q => PyData.tuple [.int ((q.2 : Nat) : Int), .int q.1.1]) (by rw [List.length_zipIdx]; omega) fun q hq => ?_, ?_⟩
  · refine gt3 (by rfl) ?_
    walk_at "pv"
    by_cases h : q.1.1 = q.1.2
    · rw [decide_eq_true h]
      refine ⟨rfl, ?_⟩
      walk_at "pv"
      exact ⟨_, rfl, rfl⟩
    · rw [decide_eq_false h]
      exact ⟨by first | rfl | trivial, by first | rfl | trivial⟩
  rw [crt_enc]
  walk_at "pv"
  rfl
theorem certain_days_ok (o : Ok ss k t) (f : Fits (psn ss k t) (ss.getD 0 0)) : GoP p_certain_days [dIs ss, .int k, .int t] fun z => z = .own ((crt (rgs ss k t)).map Pv.prD) := by
  have c1 := o.told
  have c2 := need_way_ok o f
  have c3 := certain_of_ok o f
  refine goP rfl ?_
  unfold m_certain_days
  walk_at "pv"
  rfl
end
end Lib

set_option Elab.async false
set_option linter.all false
set_option maxRecDepth 100000
set_option maxHeartbeats 4000000
namespace Lib
open PySem PySem.Spec PyProof.Rows L2 Ws Pv

/-! ### ties and choices -/
section
variable {ss : List Int} {k t : Int}
theorem days_of_ok (o : Ok ss k t) : GoP p_days_of [dIs ss, .int k] fun z => z = .sh (.int ((osn ss k).length : Nat)) := by
  have c1 := check_sums_ok o.s1 o.k1 o.k8 o.n
  refine goP rfl ?_
  unfold m_days_of
  walk_at "pv"
  rw [o.nn]
theorem tied_days_ok (o : Ok ss k t) {d : Int} (h : 0 ≤ d ∧ d < (osn ss k).length) : GoP p_tied_days [dIs ss, .int k, .int d] fun z => z = .own ((cls (osn ss k).length k.toNat (d.toNat % k.toNat)).map fun i => PyData.int ((i : Nat) : Int)) := by
  have c1 := days_of_ok o
  have c2 := check_day_ok h
  refine goP rfl ?_
  unfold m_tied_days
  walk_at "pv"
  refine fz_mod (by have := o.k1; omega) ?_
  walk_at "pv"
  obtain ⟨r1, r2⟩ := rgDC_cls (n := (osn ss k).length) (i := d.toNat % k.toNat) o.k1 o.k8 (by have := o.len; have := o.n; have := o.k1; omega) (by have := Nat.mod_lt d.toNat (show 0 < k.toNat by have := o.k1; omega); have := o.k8; omega)
  rw [show d % k = ((d.toNat % k.toNat : Nat) : Int) by rw [Int.natCast_emod, Int.toNat_of_nonneg h.1, Int.toNat_of_nonneg (by have := o.k1; omega)]]
  refine ⟨⟨r1, by
    have : rgN ((d.toNat % k.toNat : Nat) : Int) ((osn ss k).length : Nat) k ≤ (osn ss k).length := by
      have e := congrArg List.length r2
      rw [rgDC_len, List.length_map] at e
      rw [e]
      exact cls_len _ _ _ (by have := o.k1; omega)
    have := o.len; have := o.n; have := o.k1; omega⟩, ?_⟩
  rw [r2]
  walk_at "pv"
  rfl
theorem are_tied_ok (o : Ok ss k t) {c d : Int} : GoP p_are_tied [.int c, .int d, .int k] fun z => z = .sh (.bool (decide ((d - c) % k = 0))) := by
  refine goP rfl ?_
  unfold m_are_tied
  walk_at "pv"
  refine fz_mod (by have := o.k1; omega) ?_
  walk_at "pv"
  rfl
theorem tie_between_ok (o : Ok ss k t) {c d : Int} (hc : 0 ≤ c ∧ c < (osn ss k).length) (hd : 0 ≤ d ∧ d < (osn ss k).length) (hk : (d - c) % k = 0) :
    GoP p_tie_between [dIs ss, .int k, .int c, .int d] fun z => z = .sh (.int ((osn ss k).getD d.toNat 0 - (osn ss k).getD c.toNat 0)) := by
  have c1 := days_of_ok o
  have c2 := check_day_ok hc
  have c3 := check_day_ok hd
  have c4 : GoP p_are_tied [.int c, .int d, .int k] fun z => z = .sh (.bool true) := (are_tied_ok o).mono fun z hz => by rw [hz, decide_eq_true hk]
  have c5 := offsets_of_ok o.s1 (show ss.length ≤ 1000 by have := o.n; have := o.k1; omega) o.k1 o.k8
  refine goP rfl ?_
  unfold m_tie_between
  walk_at "pv"
  refine fz_ixI hd.1 (getD_some (show d.toNat < (osn ss k).length by omega)) ?_
  walk_at "pv"
  refine fz_ixI hc.1 (getD_some (show c.toNat < (osn ss k).length by omega)) ?_
  walk_at "pv"
  rfl
/-- so many days, one of each class -/
def Chs (n k : Nat) (ds : List Int) : Prop := ds.length = k ∧ (∀ d ∈ ds, 0 ≤ d ∧ d < n) ∧ srt (ds.map fun d => d % (k : Int)) = (List.range k).map fun i => ((i : Nat) : Int)
theorem is_choice_ok (o : Ok ss k t) {ds : List Int} (h : Chs (osn ss k).length k.toNat ds) : GoP p_is_choice [dIs ds, .int k, .int ((osn ss k).length : Nat)] fun z => z = .sh (.bool true) := by
  have c1 : GoP p_is_row_within [dIs ds, .int k, .int 0, .int ((((osn ss k).length : Nat) : Int) - 1)] fun z => z = .sh (.bool true) := (is_row_within_ok (by have := o.k8; have := h.1; omega)).mono fun z hz => by
    rw [hz, decide_eq_true (by have := o.k1; have := h.1; omega), inn_iff.mpr fun i hi => ⟨(h.2.1 i hi).1, by have := (h.2.1 i hi).2; omega⟩]
    rfl
  refine goP rfl ?_
  unfold m_is_choice
  walk_at "pv"
  refine ⟨_, _, comp_ints PyData.int (fun d => d % k) (by have := o.k8; have := h.1; omega) fun n hn => ?_, ?_⟩
  · refine gn ?_
    walk_at "pv"
    refine fz_mod (by have := o.k1; omega) ?_
    walk_at "pv"
    exact ⟨_, rfl, rfl⟩
  · walk_at "pv"
    refine ⟨by have := o.k1; have := o.k8; unfold RgOk; omega, ?_⟩
    walk_at "pv"
    rw [show rgD 0 k = (srt (ds.map fun d => d % k)).map PyData.int by
      rw [show srt (ds.map fun d => d % k) = (List.range k.toNat).map fun i => ((i : Nat) : Int) by
        have := h.2.2
        rw [Int.toNat_of_nonneg (by have := o.k1; omega)] at this
        exact this]
      rw [rgD0, List.map_map]
      rfl]
    refine fz_eqE encIs (by decide) (srt (ds.map fun d => d % k)) (srt (ds.map fun d => d % k)) ?_
    rw [decide_eq_true rfl]
    walk_at "pv"
    rfl
theorem forced_total_ok (o : Ok ss k t) {ds : List Int} (h : Chs (osn ss k).length k.toNat ds) : GoP p_forced_total [dIs ss, .int k, dIs ds] fun z => z = .sh (.int (ss.getD 0 0 + (ds.map fun d => (osn ss k).getD d.toNat 0).sum)) := by
  have c1 := days_of_ok o
  have c2 := is_choice_ok o h
  have c5 := offsets_of_ok o.s1 (show ss.length ≤ 1000 by have := o.n; have := o.k1; omega) o.k1 o.k8
  have c6 : GoP p_check_choice [dIs ds, .int k, .int ((osn ss k).length : Nat)] fun z => z = .sh .none := by
    refine goP rfl ?_
    unfold m_check_choice
    walk_at "pv"
    rfl
  refine goP rfl ?_
  unfold m_forced_total
  walk_at "pv"
  refine (total_at_ok (os := osn ss k) o.s1 h.2.1 (by have := o.k8; have := h.1; omega)).mono fun z hz => ?_
  subst hz
  walk_at "pv"
  rfl
theorem cut_in {α : Type} (l : List α) (i j : Int) (h0 : 0 ≤ i) (h1 : i ≤ j) (h : j ≤ l.length) : Pv.cutD l (some i) (some j) = (l.drop i.toNat).take (j.toNat - i.toNat) := by
  unfold Pv.cutD HT.sIx
  simp only
  rw [if_neg (by omega), if_neg (by omega), show min i.toNat l.length = i.toNat by omega, show min j.toNat l.length = j.toNat by omega]
theorem row_sums_ok {ns : List Int} {k : Int} (k1 : 1 ≤ k) (kn : k ≤ ns.length) (n1 : ns.length ≤ 1000) : GoP p_row_sums [dIs ns, .int k] fun z => z = .own ((wsums ns k.toNat).map PyData.int) := by
  refine goP rfl ?_
  unfold m_row_sums
  walk_at "pv"
  rw [List.length_map]
  refine ⟨by omega, ?_⟩
  rw [rgD0]
  refine ⟨_, _, comp_ints (fun i : Nat => PyData.int ((i : Nat) : Int)) (fun i => ((ns.drop i).take k.toNat).sum) (by rw [List.length_range]; omega) fun i hi => ?_, ?_⟩
  · have hi := List.mem_range.mp hi
    refine gn ?_
    walk_at "pv"
    rw [cut_in _ _ _ (by omega) (by omega) (by rw [List.length_map]; omega), ← List.map_drop, ← List.map_take]
    refine fz_sum ?_
    rw [show ((i : Int) + k).toNat - ((i : Nat) : Int).toNat = k.toNat by omega, Int.toNat_natCast]
    exact ⟨_, rfl, rfl⟩
  · walk_at "pv"
    unfold wsums
    rw [show ((ns.length : Int) - k + 1).toNat = ns.length + 1 - k.toNat by omega]
theorem is_way_ok (o : Ok ss k t) {ns : List Int} (l : ns.length ≤ 1000) : GoP p_is_way [dIs ss, .int k, .int t, dIs ns] fun z => ∃ b, z = .sh (.bool b) ∧ (b = true ↔ Way ns ss k t) := by
  have c1 := o.told
  refine goP rfl ?_
  unfold m_is_way
  walk_at "pv"
  have c2 := is_row_within_ok (ns := ns) (c := ((ss.map PyData.int).length : Nat) + k - 1) (lo := 0) (hi := t) l
  refine c2.mono fun z hz => ?_
  subst hz
  by_cases h : (ns.length : Int) = ((ss.map PyData.int).length : Nat) + k - 1
  · rw [decide_eq_true h]
    cases h2 : inn 0 t ns with
    | true =>
      have c3 := row_sums_ok (ns := ns) o.k1 (by have := o.s1; rw [List.length_map] at h; omega) l
      walk_at "pv"
      refine ⟨_, rfl, ?_⟩
      rw [decide_eq_true_eq]
      have hb := inn_iff.mp h2
      refine ⟨fun e => ⟨⟨by have := o.k1; omega, by have := o.s1; rw [List.length_map] at h; omega, e⟩, ?_, o.k1, o.k8, by have := o.n; rw [List.length_map] at h; omega, o.t1⟩, fun w => w.has.2.2⟩
      exact hb
    | false =>
      walk_at "pv"
      refine ⟨_, rfl, ?_⟩
      refine ⟨fun e => (by cases e), fun w => ?_⟩
      rw [inn_iff.mpr w.inn] at h2
      cases h2
  · rw [decide_eq_false h]
    walk_at "pv"
    refine ⟨_, rfl, ?_⟩
    refine ⟨fun e => (by cases e), fun w => (h ?_).elim⟩
    have := w.has.len
    have := w.has.2.1
    have := o.s1
    have := o.k1
    rw [List.length_map]
    omega
end
end Lib

set_option Elab.async false
set_option linter.all false
set_option maxRecDepth 100000
set_option maxHeartbeats 4000000
namespace Lib
open PySem PySem.Spec PyProof.Rows L2 Ws Pv

/-! ### sums of numbers; ranges as facts about ways -/
theorem check_numbers_ok {ns : List Int} {k : Int} (k1 : 1 ≤ k) (k8 : k ≤ 8) (kn : k ≤ ns.length) (n1 : ns.length ≤ 67) : GoP p_check_numbers [dIs ns, .int k] fun z => z = .sh .none := by
  have c1 : GoP p_is_row [dIs ns, .int 67] fun z => z = .sh (.bool true) := is_row_ok (by omega) (by omega) (by decide)
  refine goP rfl ?_
  unfold m_check_numbers
  walk_at "pv"
  refine is_within_ok.mono fun z hz => ?_
  subst hz
  walk_at "pv"
  refine iteN (by rw [decide_eq_true k1, decide_eq_true (by rw [List.length_map]; omega)]; exact Bool.false_ne_true) ?_
  walk_at "pv"
  rfl
theorem sums_of_ok {ns : List Int} {k : Int} (k1 : 1 ≤ k) (k8 : k ≤ 8) (kn : k ≤ ns.length) (n1 : ns.length ≤ 67) : GoP p_sums_of [dIs ns, .int k] fun z => z = .own ((wsums ns k.toNat).map PyData.int) := by
  have c1 := check_numbers_ok k1 k8 kn n1
  have c2 := row_sums_ok k1 kn (show ns.length ≤ 1000 by omega)
  refine goP rfl ?_
  unfold m_sums_of
  walk_at "pv"
  rfl
section
variable {ss : List Int} {k t : Int}
/-- the range of a total of days -/
theorem tot_rng (o : Ok ss k t) (f : Fits (psn ss k t) (ss.getD 0 0)) {ds : List Int} (h : ∀ d ∈ ds, 0 ≤ d ∧ d < (osn ss k).length) : Rng ss k t (fun x => dsum x ds) (rlo ss k t [] ds) (rhi ss k t [] ds) :=
  (rng_ok o f (less := []) (more := ds) (fun d hd => by cases hd) h).congr fun x _ => by
    show _ = dsum x ds - dsum x []
    simp [dsum]
theorem day_rng (o : Ok ss k t) (f : Fits (psn ss k t) (ss.getD 0 0)) {g : Nat} (h : g < (osn ss k).length) : Rng ss k t (fun x => x.getD g 0) (rlo ss k t [] [((g : Nat) : Int)]) (rhi ss k t [] [((g : Nat) : Int)]) :=
  (tot_rng o f (ds := [((g : Nat) : Int)]) (fun d hd => by rw [List.mem_singleton.mp hd]; omega)).congr fun x _ => by simp [dsum]
theorem gap_rng (o : Ok ss k t) (f : Fits (psn ss k t) (ss.getD 0 0)) {c d : Int} (hc : 0 ≤ c ∧ c < (osn ss k).length) (hd : 0 ≤ d ∧ d < (osn ss k).length) : Rng ss k t (fun x => x.getD d.toNat 0 - x.getD c.toNat 0) (rlo ss k t [c] [d]) (rhi ss k t [c] [d]) :=
  (rng_ok o f (less := [c]) (more := [d]) (fun x hx => by rw [List.mem_singleton.mp hx]; exact hc) (fun x hx => by rw [List.mem_singleton.mp hx]; exact hd)).congr fun x _ => by simp [dsum]
theorem Rng.const {f : List Int → Int} {lo hi c : Int} (r : Rng ss k t f lo hi) (h : ∀ x, Way x ss k t → f x = c) : lo = c ∧ hi = c := by
  obtain ⟨x, w, e⟩ := r.at_lo
  obtain ⟨y, v, g⟩ := r.at_hi
  exact ⟨by rw [← e, h x w], by rw [← g, h y v]⟩
theorem dsum_app (x a b : List Int) : dsum x (a ++ b) = dsum x a + dsum x b := by
  unfold dsum
  rw [List.map_append, List.sum_append]
theorem dsum_perm {x a b : List Int} (h : a.Perm b) : dsum x a = dsum x b := perm_sum (h.map _)
theorem rgI_split {a b c : Int} (h : a ≤ b) (g : b ≤ c) : rgI a c = rgI a b ++ rgI b c := by
  unfold rgI
  rw [show (c - a).toNat = (b - a).toNat + (c - b).toNat by omega, List.range_add, List.map_append, List.map_map]
  congr 1
  refine List.map_congr_left fun i _ => ?_
  show a + (((b - a).toNat + i : Nat) : Int) = b + (i : Int)
  omega
/-- a row of days -/
theorem dsum_row {x : List Int} {a : Nat} : ∀ n : Nat, a + n ≤ x.length → dsum x (rgI a (a + n : Nat)) = win x a n
  | 0, _ => by
    unfold rgI
    rw [show ((a + 0 : Nat) : Int) - (a : Int) = 0 by omega, win_zero]
    rfl
  | n + 1, h => by
    rw [rgI_split (b := ((a + n : Nat) : Int)) (by omega) (by omega), dsum_app, dsum_row n (by omega), win_more (by omega)]
    congr 1
    unfold rgI
    rw [show (((a + (n + 1) : Nat) : Int) - ((a + n : Nat) : Int)).toNat = 1 by omega]
    show (x.getD (((a + n : Nat) : Int) + 0).toNat 0) + 0 = _
    rw [Int.add_zero, Int.add_zero, Int.toNat_natCast]
theorem rgI_in {a b : Int} {n : Nat} (h0 : 0 ≤ a) (h : b ≤ n) : ∀ d ∈ rgI a b, 0 ≤ d ∧ d < n := fun d hd => by
  have := rgI_mem.mp hd
  omega
theorem rgI_nodup (a b : Int) : (rgI a b).Nodup := (rgI_asc a b).imp fun h => by omega
end
end Lib

set_option Elab.async false
set_option linter.all false
set_option maxRecDepth 100000
set_option maxHeartbeats 4000000
namespace Lib
open PySem PySem.Spec PyProof.Rows L2 Ws Pv

/-! ### where there is no way; papers -/
section
variable {ss : List Int} {k t : Int}
theorem no_count (o : Ok ss k t) (f : ¬ Fits (psn ss k t) (ss.getD 0 0)) : GoP p_count_ways [dIs ss, .int k, .int t] fun z => z = .sh (.int 0) := by
  have c1 := o.told
  refine goP rfl ?_
  unfold m_count_ways
  walk_at "pv"
  refine (find_conflict_ok o).mono fun z hz => ?_
  obtain ⟨w, ds, rfl⟩ := hz.not f
  walk_at "pv"
  rfl
theorem yes_conflict (o : Ok ss k t) (f : ¬ Fits (psn ss k t) (ss.getD 0 0)) : GoP p_conflict_of [dIs ss, .int k, .int t] fun z => ∃ w ds, z = .sh (.tuple [.str w, .list ds]) := (conflict_of_ok o).mono fun z hz => hz.not f
theorem no_conflict (o : Ok ss k t) (f : Fits (psn ss k t) (ss.getD 0 0)) : GoP p_conflict_of [dIs ss, .int k, .int t] fun z => z = .sh .none := (conflict_of_ok o).mono fun z hz => hz.fits o f
/-- with any most: what does not depend on it -/
theorem Ok.most (o : Ok ss k t) {u : Int} (u0 : 0 ≤ u) (u1 : u ≤ t) : Ok ss k u := ⟨o.s1, o.k1, o.k8, o.n, u0, Int.le_trans u1 o.t1⟩
theorem lh_any (o : Ok ss k t) (u : Int) : lh ss k u = lh ss k t := by
  have kn := o.kn
  have h := his_any (os := osn ss k) (k := k.toNat) t u kn.2.1 kn.2.2.2.1
  rw [kn.1] at h
  have h : his (psn ss k u) = his (psn ss k t) + k * u - k * t := h
  unfold lh
  rw [h, show k * u - (his (psn ss k t) + k * u - k * t) = k * t - his (psn ss k t) by omega]
theorem gl_any (o : Ok ss k t) (u : Int) : gl ss k u = gl ss k t := by
  have kn := o.kn
  have h := los_any (os := osn ss k) (k := k.toNat) t u kn.2.1 kn.2.2.2.1
  have h : los (psn ss k u) = los (psn ss k t) := h
  unfold gl
  rw [h]
theorem pk_any (o : Ok ss k t) (u : Int) : pk ss k u = pk ss k t := by
  unfold pk
  rw [lh_any o u]
theorem pk_fits (o : Ok ss k t) (f : Fits (psn ss k t) (ss.getD 0 0)) : Fits (psn ss k (pk ss k t)) (ss.getD 0 0) := by
  have h := (peak_ok o f).2.2.2
  rw [Int.mul_zero, Int.sub_zero, Int.sub_zero] at h
  exact h
/-- no less most is enough -/
theorem pk_least (o : Ok ss k t) {u : Int} (u0 : 0 ≤ u) (u1 : u ≤ t) (f : Fits (psn ss k u) (ss.getD 0 0)) : pk ss k t ≤ u := by
  have h := (peak_ok (o.most u0 u1) f).2.1
  rw [pk_any o u] at h
  exact h
theorem lowdays_mod {os : List Int} {k : Nat} (hk : 1 ≤ k) (ko : k ≤ os.length) : srt ((lowdays os k).map fun d => d % (k : Int)) = (List.range k).map fun i => ((i : Nat) : Int) := by
  refine (srt_uniq ?_ (List.pairwise_map.mpr (List.pairwise_lt_range.imp fun h => by omega))).symm
  have p := (srt_perm ((List.range k).map fun c => ((lowday os k c : Nat) : Int))).map fun d => d % (k : Int)
  refine List.Perm.trans ?_ p.symm
  rw [List.map_map]
  refine List.Perm.of_eq (List.map_congr_left fun c hc => ?_)
  have hc := List.mem_range.mp hc
  have h := (lowday_is (os := os) hk hc (by omega)).2.1
  show (c : Int) = ((lowday os k c : Nat) : Int) % (k : Int)
  rw [← Int.natCast_emod, h]
theorem low_chs (o : Ok ss k t) : Chs (osn ss k).length k.toNat (lowdays (osn ss k) k.toNat) := by
  have kn := o.kn
  exact ⟨lowdays_len _ _, lowdays_in kn.2.1 kn.2.2.2.1, lowdays_mod kn.2.1 kn.2.2.2.1⟩
theorem high_chs (o : Ok ss k t) : Chs (osn ss k).length k.toNat (lowdays (neg (osn ss k)) k.toNat) := by
  have kn := o.kn
  have h := lowdays_in (os := neg (osn ss k)) (k := k.toNat) kn.2.1 (by rw [neg_len]; exact kn.2.2.2.1)
  rw [neg_len] at h
  exact ⟨lowdays_len _ _, h, lowdays_mod kn.2.1 (by rw [neg_len]; exact kn.2.2.2.1)⟩
theorem offs_sz (o : Ok ss k t) : (osn ss k).length ≤ 1000 := by have := o.kn; omega
/-- a list of two tied days that differ by more -/
theorem shows_apart (o : Ok ss k t) {i j : Nat} (a : Apart (osn ss k) k.toNat t i j) : GoP p_shows_conflict [dIs ss, .int k, .int t, .tuple [.str "apart", .list [.int (i : Int), .int (j : Int)]]] fun z => z = .sh (.bool true) := by
  obtain ⟨a1, a2, a3, a4⟩ := a
  have kn := o.kn
  have c1 := o.told
  have c2 := o.offs
  have c3 : GoP p_is_row_within [dIs [(i : Int), (j : Int)], .int 2, .int 0, .int ((((osn ss k).length : Nat) : Int) - 1)] fun z => z = .sh (.bool true) := (is_row_within_ok (by simp)).mono fun z hz => by
    rw [hz, inn_iff.mpr (fun d hd => by
      rcases List.mem_cons.mp hd with rfl | hd
      · omega
      · rw [List.mem_singleton.mp hd]
        omega)]
    rfl
  have c4 : GoP p_are_tied [.int (i : Int), .int (j : Int), .int k] fun z => z = .sh (.bool true) := (are_tied_ok o).mono fun z hz => by
    rw [hz, decide_eq_true]
    have : ((j : Int) - (i : Int)) = ((j - i : Nat) : Int) := by omega
    rw [this, ← kn.1, ← Int.natCast_emod, a3]
    rfl
  have c5 : GoP p_are_apart [dIs (osn ss k), .int k, .int t, .list [.int (i : Int), .int (j : Int)]] fun z => z = .sh (.bool true) := by
    refine goP rfl ?_
    unfold m_are_apart
    walk_at "pv"
    rw [List.length_map]
    refine cal c3 ?_
    walk_at "pv"
    have v1 : ((osn ss k).map PyData.int)[((j : Nat) : Int).toNat]? = some (.int ((osn ss k).getD j 0)) := by rw [Int.toNat_natCast, List.getElem?_map, getD_some a2]; rfl
    have v2 : ((osn ss k).map PyData.int)[((i : Nat) : Int).toNat]? = some (.int ((osn ss k).getD i 0)) := by rw [Int.toNat_natCast, List.getElem?_map, getD_some (show i < (osn ss k).length by omega)]; rfl
    refine fz_ix (atI_nat (by omega) v1) ?_
    walk_at "pv"
    refine fz_ix (atI_nat (by omega) v2) ?_
    walk_at "pv"
    show Rz.sh (.bool (decide (t < ab ((osn ss k).getD j 0 - (osn ss k).getD i 0)))) = _
    rw [decide_eq_true a4]
  refine goP rfl ?_
  unfold m_shows_conflict
  walk_at "pv"
  rfl
theorem shows_high (o : Ok ss k t) (h : k * t < ss.getD 0 0 + ((lowdays (neg (osn ss k)) k.toNat).map fun d => (osn ss k).getD d.toNat 0).sum) : GoP p_shows_conflict [dIs ss, .int k, .int t, .tuple [.str "high", dIs (lowdays (neg (osn ss k)) k.toNat)]] fun z => z = .sh (.bool true) := by
  have kn := o.kn
  have k8 := o.k8
  have t0 := o.t0
  have c1 := o.told
  have c2 := o.offs
  have hc := high_chs o
  have c3 := is_choice_ok o hc
  have c4 : GoP p_total_at [dIs ss, dIs (osn ss k), dIs (lowdays (neg (osn ss k)) k.toNat)] fun z => z = .sh (.int (ss.getD 0 0 + ((lowdays (neg (osn ss k)) k.toNat).map fun d => (osn ss k).getD d.toNat 0).sum)) := total_at_ok o.s1 hc.2.1 (by rw [hc.1]; omega)
  refine goP rfl ?_
  unfold m_shows_conflict
  walk_at "pv"
  rw [List.length_map]
  refine cal c3 ?_
  walk_at "pv"
  refine fz_mul (mulOk (n := 5) (m := 120) (by omega) (by omega) (by decide) (by omega) (Int.lt_of_le_of_lt o.t1 (by decide +kernel)) (by decide) (by decide)) ?_
  walk_at "pv"
  rw [decide_eq_true h]
inductive PP (ss : List Int) (k t : Int) : Rz → Prop
  | apart {i j : Nat} : FirstA (osn ss k) k.toNat (pk ss k t - 1) i j → PP ss k t (.sh (.tuple [.str "apart", .list [.int (i : Int), .int (j : Int)]]))
  | high : (∀ i j, ¬ Apart (osn ss k) k.toNat (pk ss k t - 1) i j) → PP ss k t (.sh (.tuple [.str "high", dIs (lowdays (neg (osn ss k)) k.toNat)]))
theorem peak_paper_ok (o : Ok ss k t) (f : Fits (psn ss k t) (ss.getD 0 0)) : GoP p_peak_paper [dIs ss, .int k, .int t] (PP ss k t) := by
  have kn := o.kn
  have c1 := o.told
  have c2 := need_way_ok o f
  have c3 := o.offs
  have c4 := peak_of_ok o
  have c5 := highest_days_ok (os := osn ss k) (k := k) (by omega) o.k1 o.k8 (by omega)
  refine goP rfl ?_
  unfold m_peak_paper
  walk_at "pv"
  refine (first_apart_ok (by omega) o.k1 o.k8).mono fun z hz => ?_
  rcases hz with ⟨rfl, na⟩ | ⟨i, j, rfl, fa⟩
  · walk_at "pv"
    exact .high na
  · walk_at "pv"
    exact .apart fa
/-- the paper of the peak rules out a way with one less -/
theorem paper_shows (o : Ok ss k t) (f : Fits (psn ss k t) (ss.getD 0 0)) (p : 0 < pk ss k t) {d : D} (h : PP ss k t (.sh d)) : GoP p_shows_conflict [dIs ss, .int k, .int (pk ss k t - 1), d] fun z => z = .sh (.bool true) := by
  obtain ⟨p0, p1, _⟩ := peak_ok o f
  have ou := o.most (u := pk ss k t - 1) (by omega) (by omega)
  cases h with
  | apart a => exact shows_apart ou a.at'
  | high na =>
    refine shows_high ou ?_
    have fo := ou.ordN.mp na
    have w := (wid_ord o.kn.2.1).mp fo
    rw [ou.highT]
    have e : lh ss k (pk ss k t - 1) = pk ss k t := by
      rw [lh_any o]
      unfold pk at w p ⊢
      omega
    have kn := o.kn
    have g := (ediv_le (a := -(ss.getD 0 0 + (k * (pk ss k t - 1) - his (psn ss k (pk ss k t - 1))))) (k := k) (x := -(pk ss k t) + 1) o.k1).mp
    unfold lh at e
    have m : k * (-(pk ss k t) + 1) = -(k * (pk ss k t - 1)) := by rw [← Int.mul_neg]; congr 1; omega
    by_cases c : k * (pk ss k t - 1) < ss.getD 0 0 + (k * (pk ss k t - 1) - his (psn ss k (pk ss k t - 1)))
    · exact c
    · have := g (by omega)
      omega
end
end Lib

set_option Elab.async false
set_option linter.all false
set_option maxRecDepth 100000
set_option maxHeartbeats 4000000
namespace K14
open PySem PySem.Spec PyProof.Rows L2 Ws Pv Lib

/-! ### pairs of tied days, one after the other -/
def Bef (k i m i' j' : Nat) : Prop := i' < i ∨ (i' = i ∧ j' < i + k + m * k)
def Tie (os : List Int) (k i j : Nat) : Prop := i < j ∧ j < os.length ∧ (j - i) % k = 0
structure WI (os : List Int) (k i m : Nat) (W : Int) : Prop where
  p : 0 ≤ W
  le : ∀ i' j', Tie os k i' j' → Bef k i m i' j' → ab (os.getD j' 0 - os.getD i' 0) ≤ W
  at' : W = 0 ∨ ∃ i' j', Tie os k i' j' ∧ W = ab (os.getD j' 0 - os.getD i' 0)
theorem tie_far {os : List Int} {k i j : Nat} (k1 : 1 ≤ k) (h : Tie os k i j) : ∃ v, j = i + k + v * k := by
  obtain ⟨h1, h2, h3⟩ := h
  obtain ⟨w, hw⟩ := Nat.dvd_of_mod_eq_zero h3
  have w1 : 1 ≤ w := by
    rcases Nat.eq_zero_or_pos w with z | z
    · rw [z, Nat.mul_zero] at hw
      omega
    · exact z
  obtain ⟨v, rfl⟩ : ∃ v, w = v + 1 := ⟨w - 1, by omega⟩
  have e1 : k * (v + 1) = k * v + k := Nat.mul_succ k v
  have : k * v = v * k := Nat.mul_comm _ _
  exact ⟨v, by omega⟩
theorem tie_mk {os : List Int} {k i m : Nat} (k1 : 1 ≤ k) (h : i + k + m * k < os.length) : Tie os k i (i + k + m * k) := by
  refine ⟨by omega, h, ?_⟩
  rw [show i + k + m * k - i = k * (m + 1) by rw [Nat.mul_add, Nat.mul_comm k m]; omega]
  exact Nat.mul_mod_right _ _
theorem bef_step {os : List Int} {k i m i' j' : Nat} (k1 : 1 ≤ k) (t : Tie os k i' j') (h : Bef k i (m + 1) i' j') : Bef k i m i' j' ∨ (i' = i ∧ j' = i + k + m * k) := by
  rcases h with h | ⟨rfl, h⟩
  · exact .inl (.inl h)
  · obtain ⟨v, rfl⟩ := tie_far k1 t
    have a : v * k < (m + 1) * k := by omega
    have b : v < m + 1 := Nat.lt_of_mul_lt_mul_right a
    by_cases c : v < m
    · have : v * k < m * k := Nat.mul_lt_mul_of_pos_right c (by omega)
      exact .inl (.inr ⟨rfl, by omega⟩)
    · have : v = m := by omega
      subst this
      exact .inr ⟨rfl, rfl⟩
theorem bef_row {os : List Int} {k i m i' j' : Nat} (k1 : 1 ≤ k) (t : Tie os k i' j') (hm : m = (os.length - (i + k) + k - 1) / k) (h : Bef k (i + 1) 0 i' j') : Bef k i m i' j' := by
  obtain ⟨v, rfl⟩ := tie_far k1 t
  rcases h with h | ⟨rfl, h⟩
  · by_cases c : i' < i
    · exact .inl c
    · have : i' = i := by omega
      subst this
      have l := t.2.1
      have c2 : v < m := by
        rw [hm]
        have : k * v = v * k := Nat.mul_comm _ _
        exact cnt_ge k1 (by omega)
      have : v * k < m * k := Nat.mul_lt_mul_of_pos_right c2 (by omega)
      exact .inr ⟨rfl, by omega⟩
  · exfalso
    omega
theorem wi0 (os : List Int) {k : Nat} (k1 : 1 ≤ k) : WI os k 0 0 0 := ⟨Int.le_refl 0, fun i j t h => by
  obtain ⟨v, rfl⟩ := tie_far k1 t
  rcases h with h | ⟨rfl, h⟩ <;> omega, .inl rfl⟩
theorem wi_step {os : List Int} {k i m : Nat} {W : Int} (k1 : 1 ≤ k) (hj : i + k + m * k < os.length) (h : WI os k i m W) : WI os k i (m + 1) (max W (ab (os.getD (i + k + m * k) 0 - os.getD i 0))) := by
  refine ⟨Int.le_trans h.p (Int.le_max_left _ _), fun i' j' t b => ?_, ?_⟩
  · rcases bef_step k1 t b with b | ⟨rfl, rfl⟩
    · exact Int.le_trans (h.le i' j' t b) (Int.le_max_left _ _)
    · exact Int.le_max_right _ _
  · by_cases c : W ≤ ab (os.getD (i + k + m * k) 0 - os.getD i 0)
    · rw [Int.max_eq_right c]
      exact .inr ⟨i, _, tie_mk k1 hj, rfl⟩
    · rw [Int.max_eq_left (by omega)]
      exact h.at'
theorem wi_row {os : List Int} {k i m : Nat} {W : Int} (k1 : 1 ≤ k) (hm : m = (os.length - (i + k) + k - 1) / k) (h : WI os k i m W) : WI os k (i + 1) 0 W :=
  ⟨h.p, fun i' j' t b => h.le i' j' t (bef_row k1 t hm b), h.at'⟩
theorem wi_end {os : List Int} {k i : Nat} {W : Int} (k1 : 1 ≤ k) (ko : k ≤ os.length) (hi : os.length ≤ i) (h : WI os k i 0 W) : W = wid os k := by
  have a : wid os k ≤ W := (wid_ord k1).mp ((near_ord k1 ko).mp ⟨fun i' j' ⟨a1, a2, a3, a4⟩ => by
    have := h.le i' j' ⟨a1, a2, a3⟩ (.inl (by omega))
    omega, h.p⟩).1
  have b := wid_pos k1 ko
  rcases h.at' with e | ⟨i', j', t, e⟩
  · omega
  · by_cases c : wid os k ≤ W - 1
    · have p : 0 ≤ W - 1 := by omega
      have := ((near_ord k1 ko).mpr ⟨(wid_ord k1).mpr c, p⟩).1 i' j' ⟨t.1, t.2.1, t.2.2, by omega⟩
      exact this.elim
    · omega
theorem tie_wid {os : List Int} {k i j : Nat} (k1 : 1 ≤ k) (ko : k ≤ os.length) (t : Tie os k i j) : ab (os.getD j 0 - os.getD i 0) ≤ wid os k := by
  have := ((near_ord k1 ko).mpr ⟨(wid_ord k1).mpr (Int.le_refl _), wid_pos k1 ko⟩).1 i j
  by_cases c : wid os k < ab (os.getD j 0 - os.getD i 0)
  · exact (this ⟨t.1, t.2.1, t.2.2, c⟩).elim
  · omega
/-- the first pair that differs by so much -/
inductive PI (os : List Int) (k : Nat) (p : Int) (i m : Nat) : Option (Nat × Nat) → Prop
  | no : (∀ i' j', Tie os k i' j' → Bef k i m i' j' → ab (os.getD j' 0 - os.getD i' 0) ≠ p) → PI os k p i m none
  | yes {a b : Nat} : Tie os k a b → ab (os.getD b 0 - os.getD a 0) = p → (∀ i' j', Tie os k i' j' → ab (os.getD j' 0 - os.getD i' 0) = p → a < i' ∨ (a = i' ∧ b ≤ j')) → PI os k p i m (some (a, b))
def pD : Option (Nat × Nat) → Sl
  | none => .sh .none
  | some (a, b) => .own [.int (a : Int), .int (b : Int)]
theorem pi0 (os : List Int) {k : Nat} (k1 : 1 ≤ k) (p : Int) : PI os k p 0 0 none := .no fun i j t h => by
  obtain ⟨v, rfl⟩ := tie_far k1 t
  rcases h with h | ⟨rfl, h⟩ <;> omega
theorem pi_row {os : List Int} {k i m : Nat} {p : Int} {o : Option (Nat × Nat)} (k1 : 1 ≤ k) (hm : m = (os.length - (i + k) + k - 1) / k) (h : PI os k p i m o) : PI os k p (i + 1) 0 o := by
  cases h with
  | no h => exact .no fun i' j' t b => h i' j' t (bef_row k1 t hm b)
  | yes a b c => exact .yes a b c
theorem pi_new {os : List Int} {k i m : Nat} {p : Int} (k1 : 1 ≤ k) (hj : i + k + m * k < os.length) (h : PI os k p i m none) (e : ab (os.getD (i + k + m * k) 0 - os.getD i 0) = p) : PI os k p i (m + 1) (some (i, i + k + m * k)) := by
  cases h with
  | no h =>
    refine .yes (tie_mk k1 hj) e fun i' j' t e' => ?_
    by_cases c : Bef k i m i' j'
    · exact absurd e' (h i' j' t c)
    · unfold Bef at c
      omega
theorem pi_old {os : List Int} {k i m : Nat} {p : Int} (k1 : 1 ≤ k) (h : PI os k p i m none) (e : ab (os.getD (i + k + m * k) 0 - os.getD i 0) ≠ p) : PI os k p i (m + 1) none := by
  cases h with
  | no h =>
    refine .no fun i' j' t b => ?_
    rcases bef_step k1 t b with b | ⟨rfl, rfl⟩
    · exact h i' j' t b
    · exact e
theorem pi_keep {os : List Int} {k i m : Nat} {p : Int} {a : Nat × Nat} (h : PI os k p i m (some a)) : PI os k p i (m + 1) (some a) := by
  cases h with
  | yes a b c => exact .yes a b c
/-- what the law finds is what the program tells -/
def ppD (ss : List Int) (k : Int) : Option (Nat × Nat) → D
  | none => .tuple [.str "high", dIs (lowdays (neg (osn ss k)) k.toNat)]
  | some (a, b) => .tuple [.str "apart", .list [.int (a : Int), .int (b : Int)]]
section
variable {ss : List Int} {k t : Int}
theorem pp_eq (o : Ok ss k t) {i : Nat} {q : Option (Nat × Nat)} (hi : (osn ss k).length ≤ i) (h : PI (osn ss k) k.toNat (pk ss k t) i 0 q) {z : Rz} (hz : PP ss k t z) : z = .sh (ppD ss k q) := by
  obtain ⟨e1, e2, e3, e4, e5⟩ := o.kn
  have ap : ∀ i j, Apart (osn ss k) k.toNat (pk ss k t - 1) i j ↔ Tie (osn ss k) k.toNat i j ∧ ab ((osn ss k).getD j 0 - (osn ss k).getD i 0) = pk ss k t := fun i j => by
    constructor
    · rintro ⟨a, b, c, d⟩
      have w := tie_wid e2 e4 ⟨a, b, c⟩
      have : wid (osn ss k) k.toNat ≤ pk ss k t := by unfold pk; exact Int.le_max_left _ _
      exact ⟨⟨a, b, c⟩, by omega⟩
    · rintro ⟨⟨a, b, c⟩, d⟩
      exact ⟨a, b, c, by omega⟩
  cases hz with
  | apart fa =>
    rename_i a b
    obtain ⟨t1, t2⟩ := (ap _ _).mp fa.at'
    cases h with
    | no h => exact absurd t2 (h _ _ t1 (.inl (by have := t1.1; have := t1.2.1; omega)))
    | yes x y w =>
      rename_i c d
      have l1 := fa.least _ _ ((ap _ _).mpr ⟨x, y⟩)
      have l2 := w _ _ t1 t2
      have : a = c := by omega
      have : b = d := by omega
      subst a b
      rfl
  | high na =>
    cases h with
    | no h => rfl
    | yes x y w => exact absurd ((ap _ _).mpr ⟨x, y⟩) (na _ _)
theorem osn_nil (o : Ok ss k t) : ∀ i, i < k.toNat → (osn ss k).getD i 0 = 0 := fun i hi => by
  have kn := o.kn
  unfold osn
  rw [List.getD_eq_getElem?_getD, offs_get (by have := o.len; omega)]
  exact off_lo hi
theorem os_bd (o : Ok ss k t) (f : Fits (psn ss k t) (ss.getD 0 0)) (d : Nat) : -t ≤ (osn ss k).getD d 0 ∧ (osn ss k).getD d 0 ≤ t := by
  obtain ⟨e1, e2, e3, e4, e5⟩ := o.kn
  have t0 := o.t0
  by_cases c : d < k.toNat
  · rw [osn_nil o d c]
    omega
  · by_cases c2 : d < (osn ss k).length
    · have ml := Nat.mod_lt d (show 0 < k.toNat by omega)
      have na := o.ordN.mpr f.1 (d % k.toNat) d
      have z := osn_nil o _ ml
      have n2 : ¬ t < ab ((osn ss k).getD d 0 - (osn ss k).getD (d % k.toNat) 0) := fun h => na ⟨by omega, c2, Nat.sub_mod_eq_zero_of_mod_eq (Nat.mod_mod _ _).symm, h⟩
      rw [z] at n2
      unfold ab at n2
      split at n2 <;> omega
    · rw [List.getD_eq_getElem?_getD, List.getElem?_eq_none (by omega)]
      show -t ≤ 0 ∧ 0 ≤ t
      omega
theorem ceil_eq {x k : Int} (k1 : 1 ≤ k) (k8 : k ≤ 8) : (x + k - 1) / k = -(-x / k) := by
  have : k = 1 ∨ k = 2 ∨ k = 3 ∨ k = 4 ∨ k = 5 ∨ k = 6 ∨ k = 7 ∨ k = 8 := by omega
  rcases this with rfl | rfl | rfl | rfl | rfl | rfl | rfl | rfl <;> omega
end
end K14

set_option Elab.async false
set_option linter.all false
set_option maxRecDepth 100000
set_option maxHeartbeats 4000000
namespace K14
open PySem PySem.Spec PyProof.Rows L2 Ws Pv Lib

theorem mul_sg {s x : Int} (hs : s = 1 ∨ s = -1) (x0 : -(10 ^ 40) ≤ x) (x1 : x ≤ 10 ^ 40) : CMulW s x := by
  have h1 := log_bd x0 x1
  have h2 : s.natAbs.log2 = 0 := by rcases hs with rfl | rfl <;> decide
  unfold CMulW
  omega
theorem ends_ok {os vs : List Int} {k s : Int} (o1 : os.length ≤ 1000) (k1 : 1 ≤ k) (k8 : k ≤ 8) (ko : k ≤ os.length) (hl : vs.length = os.length) (hv : ∀ i, vs.getD i 0 = -(s * os.getD i 0)) (hs : s = 1 ∨ s = -1)
    (hb : ∀ i, -(10 ^ 40) ≤ os.getD i 0 ∧ os.getD i 0 ≤ 10 ^ 40) : GoP p__law_ends [dIs os, .int k, .int s] fun z => z = .own ((lowdays vs k.toNat).map PyData.int) := by
  have ek : k = (k.toNat : Int) := by omega
  refine goP rfl ?_
  unfold m__law_ends
  walk_at "pv"
  refine ⟨by omega, ?_⟩
  refine for_inv (fun i ρ => ∃ x y z, ρ = [some (.sh (dIs os)), some (.sh (.int k)), some (.sh (.int s)), some (.own (((List.range i).map fun c => ((lowday vs k.toNat c : Nat) : Int)).map PyData.int)), x, y, z]) ⟨none, none, none, rfl⟩ ?_ ?_
  · rintro i d ρ hd ⟨x, y, z, rfl⟩
    obtain ⟨rfl, hi⟩ := rg0_get hd
    obtain ⟨r1, r2⟩ := rgC_up (a := (i : Int)) (n := os.length) (k := k) (by omega) (by omega) (by omega) (by omega) k1 k8
    obtain ⟨l1, l2, l3, l4⟩ := lowday_is (os := vs) (k := k.toNat) (c := i) (by omega) hi (by omega)
    refine gn ?_
    walk_at "pv"
    rw [List.length_map]
    refine ⟨r1, ?_⟩
    refine for_inv (fun m ρ => ∃ (b : Nat) (z : Option Sl), b < os.length ∧ b % k.toNat = i ∧ b ≤ i + m * k.toNat ∧ (∀ m', m' < m → vs.getD b 0 < vs.getD (i + m' * k.toNat) 0 ∨ (vs.getD b 0 = vs.getD (i + m' * k.toNat) 0 ∧ b ≤ i + m' * k.toNat)) ∧ ρ = [some (.sh (dIs os)), some (.sh (.int k)), some (.sh (.int s)), some (.own (((List.range i).map fun c => ((lowday vs k.toNat c : Nat) : Int)).map PyData.int)), some (.sh (.int ((i : Nat) : Int))), some (.sh (.int (b : Int))), z]) ⟨i, z, by omega, Nat.mod_eq_of_lt hi, by omega, fun m' h => absurd h (Nat.not_lt_zero _), rfl⟩ ?_ ?_
    · rintro m d ρ hd ⟨b, z, b1, b2, b3, b4, rfl⟩
      obtain ⟨rfl, hm1⟩ := rgDC_get hd
      rw [r2] at hm1
      have hm2 := cnt_lt (by omega) hm1
      have ej : ((i : Int) + (m : Int) * k) = ((i + m * k.toNat : Nat) : Int) := by
        conv => lhs; rw [ek]
        rw [← Int.natCast_mul]
        omega
      have hj : i + m * k.toNat < os.length := by
        have : k.toNat * m = m * k.toNat := Nat.mul_comm _ _
        omega
      have mm : (i + m * k.toNat) % k.toNat = i := by
        rw [Nat.add_mul_mod_self_right]
        exact Nat.mod_eq_of_lt hi
      have e1 : (m + 1) * k.toNat = m * k.toNat + k.toNat := Nat.succ_mul _ _
      have va := hv (i + m * k.toNat)
      have vb := hv b
      rw [ej]
      refine gn ?_
      walk_at "pv"
      refine fz_ixI (by omega) (show os[((i + m * k.toNat : Nat) : Int).toNat]? = some (os.getD (i + m * k.toNat) 0) by rw [Int.toNat_natCast]; exact getD_some hj) ?_
      walk_at "pv"
      refine fz_mul (mul_sg hs (hb _).1 (hb _).2) ?_
      walk_at "pv"
      refine fz_ixI (by omega) (show os[((b : Nat) : Int).toNat]? = some (os.getD b 0) by rw [Int.toNat_natCast]; exact getD_some b1) ?_
      walk_at "pv"
      refine fz_mul (mul_sg hs (hb _).1 (hb _).2) ?_
      walk_at "pv"
      refine iteD (fun h => ?_) (fun h => ?_)
      · walk_at "pv"
        refine ⟨_, _, hj, mm, by omega, fun m' hm' => ?_, rfl⟩
        by_cases c : m' < m
        · have := b4 m' c
          omega
        · have : m' = m := by omega
          subst this
          exact .inr ⟨rfl, Nat.le_refl _⟩
      · walk_at "pv"
        refine ⟨_, _, b1, b2, by omega, fun m' hm' => ?_, rfl⟩
        by_cases c : m' < m
        · exact b4 m' c
        · have : m' = m := by omega
          subst this
          omega
    · rintro ρ ⟨b, z, b1, b2, b3, b4, rfl⟩
      rw [rgDC_len, r2] at b4
      have eb : b = lowday vs k.toNat i := by
        have e := Nat.div_add_mod (lowday vs k.toNat i) k.toNat
        rw [l2] at e
        have ec : k.toNat * (lowday vs k.toNat i / k.toNat) = (lowday vs k.toNat i / k.toNat) * k.toNat := Nat.mul_comm _ _
        have x := b4 (lowday vs k.toNat i / k.toNat) (cnt_ge (by omega) (by omega))
        rw [show i + lowday vs k.toNat i / k.toNat * k.toNat = lowday vs k.toNat i by omega] at x
        have y := l4 b (by omega) b2
        omega
      subst eb
      walk_at "pv"
      refine ⟨Nat.lt_of_le_of_lt (by rw [List.length_map, List.length_map, List.length_range]; omega) (show 8 < sizeLine by decide), ?_⟩
      walk_at "pv"
      rw [snocD, show ((List.range i).map fun c => ((lowday vs k.toNat c : Nat) : Int)) ++ [((lowday vs k.toNat i : Nat) : Int)] = (List.range (i + 1)).map fun c => ((lowday vs k.toNat c : Nat) : Int) by rw [List.range_succ, List.map_append]; rfl]
      exact ⟨_, _, _, rfl⟩
  · rintro ρ ⟨x, y, z, rfl⟩
    walk_at "pv"
    rw [rg0_len]
    rfl
section
variable {ss : List Int} {k t : Int}
theorem far_at {n i m : Nat} {k : Int} (k1 : 1 ≤ k) (h : m < (n - (i + k.toNat) + k.toNat - 1) / k.toNat) : ((i : Int) + k + (m : Int) * k) = ((i + k.toNat + m * k.toNat : Nat) : Int) ∧ i + k.toNat + m * k.toNat < n := by
  have ek : k = (k.toNat : Int) := by omega
  have hm2 := cnt_lt (by omega) h
  refine ⟨?_, ?_⟩
  · conv => lhs; rw [ek]
    rw [← Int.natCast_mul]
    omega
  · have : k.toNat * m = m * k.toNat := Nat.mul_comm _ _
    omega
def dueD (ss : List Int) (k t : Int) (q : Option (Nat × Nat)) : List D := [.int (pk ss k t), .int (fl ss k t), .int (sprd ss k t), ppD ss k q]
theorem due_ok (o : Ok ss k t) (f : Fits (psn ss k t) (ss.getD 0 0)) : GoP p__law_due [dIs ss, .int k, .int t] fun z => ∃ q, z = .own (dueD ss k t q) ∧ PI (osn ss k) k.toNat (pk ss k t) (osn ss k).length 0 q := by
  obtain ⟨e1, e2, e3, e4, e5⟩ := o.kn
  have s1 := o.s1
  have k1 := o.k1
  have k8 := o.k8
  have ob := os_bd o f
  have tt : t ≤ 10 ^ 40 := Int.le_trans o.t1 (by decide +kernel)
  have tt2 : -(10 ^ 40) ≤ -t := by omega
  have ob2 : ∀ i, -(10 ^ 40) ≤ (osn ss k).getD i 0 ∧ (osn ss k).getD i 0 ≤ 10 ^ 40 := fun i => ⟨Int.le_trans tt2 (ob i).1, Int.le_trans (ob i).2 tt⟩
  have c1 := gaps_ok (ss := ss) (k := k) o.s1 (by have := o.n; omega) o.k1 o.k8
  have c2 := ends_ok (os := osn ss k) (vs := neg (osn ss k)) (k := k) (s := 1) (by omega) k1 k8 (by omega) (neg_len _) (fun i => by rw [neg_getD]; omega) (.inl rfl) ob2
  have c3 := ends_ok (os := osn ss k) (vs := osn ss k) (k := k) (s := -1) (by omega) k1 k8 (by omega) rfl (fun i => by omega) (.inr rfl) ob2
  refine goP rfl ?_
  unfold m__law_due
  walk_at "pv"
  refine ⟨by rw [List.length_map]; omega, ?_⟩
  refine for_inv (fun i ρ => ∃ a b W, WI (osn ss k) k.toNat i 0 W ∧ ρ = [some (.sh (dIs ss)), some (.sh (.int k)), some (.sh (.int t)), some (.own ((osn ss k).map PyData.int)), some (.sh (.int W)), some (.sh .none), a, b, none, none, none, none, none, none]) ⟨_, _, 0, wi0 _ e2, rfl⟩ ?_ ?_
  · rintro i d ρ hd ⟨a, b, W, hw, rfl⟩
    obtain ⟨rfl, hi⟩ := rg0_get hd
    rw [List.length_map] at hi
    obtain ⟨r1, r2⟩ := rgC_up (a := (i : Int) + k) (n := (osn ss k).length) (k := k) (by omega) (by omega) (by omega) (by omega) k1 k8
    have r3 : rgN ((i : Int) + k) (osn ss k).length k = ((osn ss k).length - (i + k.toNat) + k.toNat - 1) / k.toNat := by
      rw [r2, show ((i : Int) + k).toNat = i + k.toNat by omega, Int.toNat_natCast]
    refine gn ?_
    walk_at "pv"
    rw [List.length_map]
    refine ⟨r1, ?_⟩
    refine for_inv (fun m ρ => ∃ b W, WI (osn ss k) k.toNat i m W ∧ ρ = [some (.sh (dIs ss)), some (.sh (.int k)), some (.sh (.int t)), some (.own ((osn ss k).map PyData.int)), some (.sh (.int W)), some (.sh .none), some (.sh (.int (i : Int))), b, none, none, none, none, none, none]) ⟨_, _, hw, rfl⟩ ?_ ?_
    · rintro m d ρ hd ⟨b, W, hw, rfl⟩
      obtain ⟨rfl, hm1⟩ := rgDC_get hd
      rw [r3] at hm1
      obtain ⟨ej, hj⟩ := far_at (k := k) (by omega) hm1
      rw [ej]
      refine gn ?_
      walk_at "pv"
      refine fz_ixI (by omega) (show (osn ss k)[((i + k.toNat + m * k.toNat : Nat) : Int).toNat]? = some ((osn ss k).getD (i + k.toNat + m * k.toNat) 0) by rw [Int.toNat_natCast]; exact getD_some hj) ?_
      walk_at "pv"
      refine fz_ixI (by omega) (show (osn ss k)[((i : Nat) : Int).toNat]? = some ((osn ss k).getD i 0) by rw [Int.toNat_natCast]; exact getD_some (by omega)) ?_
      walk_at "pv"
      exact ⟨_, _, wi_step e2 hj hw, rfl⟩
    · rintro ρ ⟨b, W, hw, rfl⟩
      rw [rgDC_len, r3] at hw
      walk_at "pv"
      exact ⟨_, _, _, wi_row e2 rfl hw, rfl⟩
  · rintro ρ ⟨a, b, W, hw, rfl⟩
    rw [rg0_len, List.length_map] at hw
    have eW := wi_end e2 e4 (by omega) hw
    subst eW
    clear hw
    walk_at "pv"
    have g0 : ss[(0 : Int).toNat]? = some (ss.getD 0 0) := getD_some (by omega)
    have hin8 : ∀ d ∈ lowdays (neg (osn ss k)) k.toNat, 0 ≤ d ∧ d < ((osn ss k).length : Int) := fun d hd => by
      have := lowdays_in (os := neg (osn ss k)) (k := k.toNat) e2 (by rw [neg_len]; exact e4) d hd
      rw [neg_len] at this
      exact this
    have hin9 : ∀ d ∈ lowdays (osn ss k) k.toNat, 0 ≤ d ∧ d < ((osn ss k).length : Int) := fun d hd => lowdays_in e2 e4 d hd
    have eh := o.highT
    have el := o.lowT
    have n8 := lowdays_len (neg (osn ss k)) k.toNat
    have n9 := lowdays_len (osn ss k) k.toNat
    generalize eL8 : lowdays (neg (osn ss k)) k.toNat = L8 at hin8 eh n8 ⊢
    generalize eL9 : lowdays (osn ss k) k.toNat = L9 at hin9 el n9 ⊢
    refine fz_ixI (by decide) g0 ?_
    walk_at "pv"
    refine ⟨_, _, comp_ints PyData.int (fun d => (osn ss k).getD d.toNat 0) (by omega) fun d hd => ?_, ?_⟩
    · have hd := hin8 d hd
      refine gn ?_
      walk_at "pv"
      refine fz_ixI (by omega) (getD_some (l := osn ss k) (i := d.toNat) (by omega)) ?_
      walk_at "pv"
      exact ⟨_, rfl, rfl⟩
    walk_at "pv"
    rw [eh]
    walk_at "pv"
    refine fz_div (divOk (n := 4) (by omega) (by omega) (by decide) (by decide)) ?_
    rw [show (ss.getD 0 0 + (k * t - his (psn ss k t)) + k - 1) / k = lh ss k t by rw [ceil_eq k1 k8]; rfl]
    walk_at "pv"
    refine ⟨_, _, comp_ints PyData.int (fun d => (osn ss k).getD d.toNat 0) (by omega) fun d hd => ?_, ?_⟩
    · have hd := hin9 d hd
      refine gn ?_
      walk_at "pv"
      refine fz_ixI (by omega) (getD_some (l := osn ss k) (i := d.toNat) (by omega)) ?_
      walk_at "pv"
      exact ⟨_, rfl, rfl⟩
    walk_at "pv"
    rw [el]
    walk_at "pv"
    refine fz_div (divOk (n := 4) (by omega) (by omega) (by decide) (by decide)) ?_
    rw [show (ss.getD 0 0 + -(los (psn ss k t))) / k = gl ss k t by unfold gl; congr 1]
    walk_at "pv"
    refine ⟨by rw [List.length_map]; omega, ?_⟩
    refine for_inv (fun i ρ => ∃ a b q, PI (osn ss k) k.toNat (pk ss k t) i 0 q ∧ ρ = [some (.sh (dIs ss)), some (.sh (.int k)), some (.sh (.int t)), some (.sh (dIs (osn ss k))), some (.sh (.int (wid (osn ss k) k.toNat))), some (pD q), a, b, some (.sh (dIs L8)), some (.sh (dIs L9)), some (.sh (.int (lh ss k t))), some (.sh (.int (gl ss k t))), some (.sh (.int (pk ss k t))), none]) ⟨_, _, none, pi0 _ e2 _, rfl⟩ ?_ ?_
    · rintro i d ρ hd ⟨a, b, q, hq, rfl⟩
      obtain ⟨rfl, hi⟩ := rg0_get hd
      rw [List.length_map] at hi
      obtain ⟨r1, r2⟩ := rgC_up (a := (i : Int) + k) (n := (osn ss k).length) (k := k) (by omega) (by omega) (by omega) (by omega) k1 k8
      have r3 : rgN ((i : Int) + k) (osn ss k).length k = ((osn ss k).length - (i + k.toNat) + k.toNat - 1) / k.toNat := by
        rw [r2, show ((i : Int) + k).toNat = i + k.toNat by omega, Int.toNat_natCast]
      refine gn ?_
      walk_at "pv"
      rw [List.length_map]
      refine ⟨r1, ?_⟩
      refine for_inv (fun m ρ => ∃ b q, PI (osn ss k) k.toNat (pk ss k t) i m q ∧ ρ = [some (.sh (dIs ss)), some (.sh (.int k)), some (.sh (.int t)), some (.sh (dIs (osn ss k))), some (.sh (.int (wid (osn ss k) k.toNat))), some (pD q), some (.sh (.int (i : Int))), b, some (.sh (dIs L8)), some (.sh (dIs L9)), some (.sh (.int (lh ss k t))), some (.sh (.int (gl ss k t))), some (.sh (.int (pk ss k t))), none]) ⟨_, _, hq, rfl⟩ ?_ ?_
      · rintro m d ρ hd ⟨b, q, hq, rfl⟩
        obtain ⟨rfl, hm1⟩ := rgDC_get hd
        rw [r3] at hm1
        obtain ⟨ej, hj⟩ := far_at (k := k) (by omega) hm1
        rw [ej]
        cases q with
        | none =>
          rw [show pD none = Sl.sh .none from rfl]
          refine gn ?_
          walk_at "pv"
          refine fz_ixI (by omega) (show (osn ss k)[((i + k.toNat + m * k.toNat : Nat) : Int).toNat]? = some ((osn ss k).getD (i + k.toNat + m * k.toNat) 0) by rw [Int.toNat_natCast]; exact getD_some hj) ?_
          walk_at "pv"
          refine fz_ixI (by omega) (show (osn ss k)[((i : Nat) : Int).toNat]? = some ((osn ss k).getD i 0) by rw [Int.toNat_natCast]; exact getD_some (by omega)) ?_
          walk_at "pv"
          refine iteD (fun h => ?_) (fun h => ?_)
          · walk_at "pv"
            exact ⟨_, some (i, i + k.toNat + m * k.toNat), pi_new e2 hj hq h, rfl⟩
          · walk_at "pv"
            exact ⟨_, none, pi_old e2 hq h, rfl⟩
        | some q =>
          obtain ⟨x, y⟩ := q
          rw [show pD (some (x, y)) = Sl.own [.int (x : Int), .int (y : Int)] from rfl]
          refine gn ?_
          walk_at "pv"
          exact ⟨_, some (x, y), pi_keep hq, rfl⟩
      · rintro ρ ⟨b, q, hq, rfl⟩
        rw [rgDC_len, r3] at hq
        walk_at "pv"
        exact ⟨_, _, _, pi_row e2 rfl hq, rfl⟩
    · rintro ρ ⟨a, b, q, hq, rfl⟩
      rw [rg0_len, List.length_map, Int.toNat_natCast] at hq
      cases q with
      | none =>
        rw [show pD none = Sl.sh .none from rfl]
        walk_at "pv"
        exact ⟨none, by subst eL8; rfl, hq⟩
      | some q =>
        obtain ⟨x, y⟩ := q
        rw [show pD (some (x, y)) = Sl.own [.int (x : Int), .int (y : Int)] from rfl]
        walk_at "pv"
        exact ⟨some (x, y), rfl, hq⟩
end
end K14

set_option Elab.async false
set_option linter.all false
set_option maxRecDepth 100000
set_option maxHeartbeats 4000000
namespace K14
open PySem PySem.Spec PyProof.Rows L2 Ws Pv Lib

/-! ### a value compared with itself -/
structure EqS (d : D) : Prop where
  s : SeqAt.shaped d = true
theorem EqS.eq {d : D} (h : EqS d) {QZ : Rz → Prop} (q : QZ (.sh (.bool true))) : ∃ z, fEq [d, d] = some z ∧ QZ z := fz_eq h.s h.s (by rw [SeqAt.eqv_refl _ (by have := h.s; unfold SeqAt.shaped at this; exact (Bool.and_eq_true_iff.mp this).1)]; exact q)
theorem EqS.ne {d : D} (h : EqS d) {QZ : Rz → Prop} (q : QZ (.sh (.bool false))) : ∃ z, fNe [d, d] = some z ∧ QZ z := fz_ne h.s h.s (by rw [SeqAt.eqv_refl _ (by have := h.s; unfold SeqAt.shaped at this; exact (Bool.and_eq_true_iff.mp this).1)]; exact q)
theorem EqS.enc {β : Type} {enc : β → D} {n : Nat} (h : EncD enc n) (hn : n ≤ 64 := by decide) (b : β) : EqS (enc b) := ⟨h.shaped hn b⟩
theorem encW (w : Str) (hw : PyData.strOk w = true := by decide +kernel) : EncD (fun l : List Int => PyData.tuple [.str w, dIs l]) 2 where
  lay := fun b => by
    have h := encIs.lay b
    have e : PyData.canLay0 (PyData.tuple [.str w, dIs b]) = (PyData.strOk w && (PyData.canLay0 (dIs b) && true)) := by simp only [PyData.canLay0, PyData.canLayAll0]
    rw [e, h, hw]
    rfl
  dep := fun b => by
    have h := encIs.dep b
    unfold dIs at h ⊢
    simp only [PyData.depth, PyData.depthAll] at h ⊢
    omega
  inj := fun a b => by
    have h := encIs.inj a b
    show PyData.eqv (.tuple [.str w, dIs a]) (.tuple [.str w, dIs b]) = true ↔ _
    rw [PyData.eqv]
    simp only [PyData.eqvAll, Bool.and_eq_true, h]
    simp [PyData.eqv]
/-! ### the told list is changed -/
theorem g_frz {i : Nat} {m : SM} {ρ ρ1 : Rho} {d : D} {Q : Out → Prop} (e : takeR (.brw i) ρ = some (d, ρ1)) (h : Go m ρ1 Q) : Go (frzS i m) ρ Q := by
  obtain ⟨⟨o, e2, q⟩⟩ := h
  exact ⟨⟨o, by unfold frzS; rw [e]; exact e2, q⟩⟩
theorem g_retF {m : AM} {ρ : Rho} {Q : Out → Prop} (h : GoA m ρ fun rs ρ1 => ownR rs ρ1 = true ∧ ∃ ds ρ2, takeL rs ρ1 = some (ds, ρ2) ∧ ds.length ≤ sizeLine ∧ Q (.rt (.sh (.tuple ds)) ρ2)) : Go (retF m) ρ Q := by
  obtain ⟨rs, ρ1, e, ho, ds, ρ2, e2, hl, q⟩ := h
  refine ⟨⟨_, ?_, q⟩⟩
  unfold retF tupFM
  rw [e, Option.bind_some, if_pos ho]
  unfold tupM
  rw [e, Option.bind_some, e2, Option.bind_some, if_pos hl]
  rfl
theorem g_melt {i : Nat} {mC : EM} {c : TM} {mb ml : SM} {ρ : Rho} {s : Str} {ds : List D} {Q : Out → Prop} (hn : NoOwn ρ) (hl : ds.length < sizeLine) (hi : i < ρ.length) (hc : GoE mC ρ fun r ρ' => r = .sh (.tuple [.str s, .list ds]) ∧ ρ' = ρ)
    (ht : GoT c (ρ.set i (some (.sh (.tuple [.str s, .list ds])))) fun b ρ2 => b = false ∧ ρ2 = ρ.set i (some (.sh (.tuple [.str s, .list ds])))) (h : Go ml (ρ.set i none) Q) : Go (meltS i mC c mb ml) ρ Q := by
  obtain ⟨r, ρ', e, rfl, rfl⟩ := hc
  obtain ⟨b, ρ2, e2, rfl, rfl⟩ := ht
  obtain ⟨⟨o, e3, q⟩⟩ := h
  refine ⟨⟨o, ?_, q⟩⟩
  unfold meltS
  rw [e, Option.bind_some]
  simp only
  rw [if_pos ⟨hn, rfl, hl, hi⟩, e2, Option.bind_some]
  simp only
  rw [if_pos trivial, if_neg (by decide)]
  exact e3
theorem noOwn {ρ : Rho} (h : ∀ x ∈ ρ, ∀ ds, x ≠ some (.own ds)) : NoOwn ρ := fun i ds e => h _ (List.mem_of_getElem? e) ds rfl
theorem _root_.Lib.Shn.up {d : D} {c p c' p' : Nat} (h : Shn d c p) (hc : c ≤ c') (hp : p ≤ p') : Shn d c' p' := ⟨h.s, h.h, Nat.le_trans h.c hc, Nat.le_trans h.p hp⟩
section
variable {ss : List Int} {k t : Int}
theorem peak_told (o : Ok ss k t) (f : Fits (psn ss k t) (ss.getD 0 0)) : GoP p_peak_paper [dIs ss, .int k, .int t] (PP ss k t) := by
  have kn := o.kn
  have c1 := o.told
  have c2 := need_way_ok o f
  have c3 := o.offs
  have c4 := peak_of_ok o
  have c5 := highest_days_ok (os := osn ss k) (k := k) (by omega) o.k1 o.k8 (by omega)
  refine goP rfl ?_
  unfold m_peak_paper
  walk_at "pv"
  refine (first_apart_ok (by omega) o.k1 o.k8).mono fun z hz => ?_
  rcases hz with ⟨rfl, na⟩ | ⟨i, j, rfl, fa⟩
  · walk_at "pv"
    refine g_retF ?_
    walk_at "pv"
    exact ⟨rfl, [_, _], _, rfl, show (2 : Nat) ≤ sizeLine by decide, finq_rt (.high na)⟩
  · walk_at "pv"
    refine g_retF ?_
    walk_at "pv"
    exact ⟨rfl, [_, _], _, rfl, show (2 : Nat) ≤ sizeLine by decide, nxt_rt (finq_rt (.apart fa))⟩
theorem pp_form (o : Ok ss k t) (q : Option (Nat × Nat)) (hq : ∀ a b, q = some (a, b) → a < (osn ss k).length ∧ b < (osn ss k).length) : ∃ (w : Str) (l : List Int), ppD ss k q = .tuple [.str w, dIs l] ∧ PyData.strOk w = true ∧ l.length ≤ 67 ∧ Shn (.str w) 1003 0 ∧ ∀ d ∈ l, 0 ≤ d ∧ d ≤ 100 := by
  obtain ⟨e1, e2, e3, e4, e5⟩ := o.kn
  match q, hq with
  | none, _ =>
    refine ⟨"high", lowdays (neg (osn ss k)) k.toNat, rfl, by decide +kernel, by rw [lowdays_len]; omega, ⟨by decide +kernel, by decide +kernel, by decide +kernel, by decide +kernel⟩, fun d hd => ?_⟩
    have := lowdays_in (os := neg (osn ss k)) (k := k.toNat) e2 (by rw [neg_len]; exact e4) d hd
    rw [neg_len] at this
    omega
  | some (a, b), hq =>
    obtain ⟨ha, hb⟩ := hq a b rfl
    refine ⟨"apart", [(a : Int), (b : Int)], rfl, by decide +kernel, by show 2 ≤ 67; decide, ⟨by decide +kernel, by decide +kernel, by decide +kernel, by decide +kernel⟩, fun d hd => ?_⟩
    simp only [List.mem_cons, List.not_mem_nil, or_false] at hd
    rcases hd with rfl | rfl <;> omega
theorem right_ok (o : Ok ss k t) (f : Fits (psn ss k t) (ss.getD 0 0)) : GoP p__law_right [dIs ss, .int k, .int t] fun z => z = .sh (.bool true) := by
  have kn := o.kn
  have on := o.n
  have k1 := o.k1
  have tt := o.t1
  have t0 := o.t0
  have c1 := least_peak_ok o f
  have c2 := greatest_floor_ok o f
  have c3 := least_spread_ok o f
  have p1 := peak_ok o f
  have p2 := floor_ok o f
  have w0 := wid_pos (os := osn ss k) kn.2.1 kn.2.2.2.1
  refine goP rfl ?_
  unfold m__law_right
  walk_at "pv"
  refine (due_ok o f).mono fun z hz => ?_
  obtain ⟨q, rfl, hq⟩ := hz
  have c4 : GoP p_peak_paper [dIs ss, .int k, .int t] fun z => z = .sh (ppD ss k q) := (peak_told o f).mono fun z hz => pp_eq o (Nat.le_refl _) hq hz
  obtain ⟨w, l, ep, ok, ll, lw, lb⟩ := pp_form o q (fun a b e => by
    subst e
    cases hq with
    | yes x _ _ => exact ⟨by have := x.1; have := x.2.1; omega, x.2.1⟩)
  unfold dueD
  rw [ep] at c4 ⊢
  clear ep hq
  have q0 : (pk ss k t).natAbs.log2 < 1000 := log_bd (Int.le_trans (by decide) p1.1) (Int.le_trans p1.2.1 (Int.le_trans tt (by decide +kernel)))
  have q1 : (fl ss k t).natAbs.log2 < 1000 := log_bd (Int.le_trans (by decide) p2.1) (Int.le_trans p2.2.1 (Int.le_trans tt (by decide +kernel)))
  have q2 : (sprd ss k t).natAbs.log2 < 1000 := by
    have a := p1.2.1
    have b := p2.1
    unfold pk at a
    unfold fl at b
    have s0 : 0 ≤ sprd ss k t := by unfold sprd; omega
    have s1 : sprd ss k t ≤ t := by unfold sprd; omega
    exact log_bd (Int.le_trans (by decide) s0) (Int.le_trans s1 (Int.le_trans tt (by decide +kernel)))
  have sw : Shw (.list [.int (pk ss k t), .int (fl ss k t), .int (sprd ss k t), .tuple [.str w, dIs l]]) ∧ PyData.hasDict (.list [.int (pk ss k t), .int (fl ss k t), .int (sprd ss k t), .tuple [.str w, dIs l]]) = false := by
    have si : Shn (dIs l) 100000 1 := (Shn.list (enc := PyData.int) (c := 1003) (p := 0) fun d hd => Shn.int (log_bd (Int.le_trans (by decide) (lb d hd).1) (Int.le_trans (lb d hd).2 (by decide +kernel)))).up (by omega) (by omega)
    have sp : Shn (.tuple [.str w, dIs l]) 200010 2 := (Shn.tup2 (lw.up (by decide) (by decide)) si).up (by decide) (by decide)
    have sl : Shn (.list ([PyData.int (pk ss k t), .int (fl ss k t), .int (sprd ss k t), .tuple [.str w, dIs l]].map fun x => x)) (4 * (200010 + 2) + 4) 3 := Shn.list fun d hd => by
      simp only [List.mem_cons, List.not_mem_nil, or_false] at hd
      rcases hd with rfl | rfl | rfl | rfl
      · exact (Shn.int q0).up (by decide) (by decide)
      · exact (Shn.int q1).up (by decide) (by decide)
      · exact (Shn.int q2).up (by decide) (by decide)
      · exact sp
    exact sl.shw (by decide) (by decide)
  clear q0 q1 q2
  walk_at "pv"
  refine g_frz rfl ?_
  refine g_frz rfl ?_
  refine g_frz rfl ?_
  walk_at "pn"
  refine g_melt (s := w) (ds := l.map PyData.int) (noOwn (by simp)) (by rw [List.length_map]; exact Nat.lt_of_le_of_lt ll (by decide)) (show 6 < 7 by decide) ?_ ?_ ?_
  · walk_at "pv"
    exact ⟨rfl, rfl⟩
  · walk_at "pv"
    refine fz_repr (d := PyData.list [PyData.int (pk ss k t), .int (fl ss k t), .int (sprd ss k t), .tuple [.str w, dIs l]]) sw ?_
    walk_at "pv"
    refine fz_repr sw ?_
    walk_at "pv"
    exact ⟨by simp, rfl⟩
  · walk_at "pv"
    refine (EqS.enc (encW w ok) (by decide) l).eq ?_
    walk_at "pv"
    rfl
end
end K14

set_option Elab.async false
set_option linter.all false
set_option maxRecDepth 100000
set_option maxHeartbeats 4000000
namespace K14
open PySem PySem.Spec PyProof.Rows L2 Ws Pv Lib

theorem pi_no {os : List Int} {k i : Nat} {p : Int} (h : ∀ j, j < os.length → ∀ i, i < j → (j - i) % k = 0 → ab (os.getD j 0 - os.getD i 0) ≠ p) : PI os k p i 0 none := .no fun i' j' t _ => h j' t.2.1 i' t.1 t.2.2
theorem pi_yes {os : List Int} {k i a b : Nat} {p : Int} (t : Tie os k a b) (e : ab (os.getD b 0 - os.getD a 0) = p) (h : ∀ j, j < os.length → ∀ i, i < j → ¬((j - i) % k = 0 ∧ ab (os.getD j 0 - os.getD i 0) = p) ∨ (a < i ∨ (a = i ∧ b ≤ j))) : PI os k p i 0 (some (a, b)) := .yes t e fun i' j' t e => by
  rcases h j' t.2.1 i' t.1 with h | h
  · exact absurd ⟨t.2.2, e⟩ h
  · exact h
theorem fits_dec {l : List (Int × Int)} {s : Int} (h : l.all (fun q => decide (q.1 ≤ q.2)) = true) (h1 : los l ≤ s) (h2 : s ≤ his l) : Fits l s := ⟨fun q hq => of_decide_eq_true (List.all_eq_true.mp h q hq), h1, h2⟩
theorem ok1 : Ok [6, 7, 5] 3 9 := ⟨by decide, by decide, by decide, by decide, by decide, by decide⟩
theorem ok2 : Ok [0, 0] 2 5 := ⟨by decide, by decide, by decide, by decide, by decide, by decide⟩
theorem ok3 : Ok [0] 2 5 := ⟨by decide, by decide, by decide, by decide, by decide, by decide⟩
theorem ok4 : Ok [5, 5, 0] 2 5 := ⟨by decide, by decide, by decide, by decide, by decide, by decide⟩
theorem p1_ok : GoP p_peak_paper [dIs [6, 7, 5], .int 3, .int 9] fun z => z = .sh (.tuple [.str "high", dIs [1, 2, 3]]) := (peak_told ok1 (fits_dec (by decide +kernel) (by decide +kernel) (by decide +kernel))).mono fun z hz => by
  rw [pp_eq ok1 (i := 5) (q := none) (by decide +kernel) (pi_no (by decide +kernel)) hz]
  have e : lowdays (neg (osn [6, 7, 5] 3)) (3 : Int).toNat = [1, 2, 3] := (srt_uniq (ns := (List.range (3 : Int).toNat).map fun c => ((lowday (neg (osn [6, 7, 5] 3)) (3 : Int).toNat c : Nat) : Int)) (by
    rw [show ((List.range (3 : Int).toNat).map fun c => ((lowday (neg (osn [6, 7, 5] 3)) (3 : Int).toNat c : Nat) : Int)) = [3, 1, 2] by decide +kernel]
    decide) (by decide)).symm
  unfold ppD
  rw [e]
theorem p2_ok : GoP p_peak_paper [dIs [0, 0], .int 2, .int 5] fun z => z = .sh (.tuple [.str "apart", dIs [0, 2]]) := (peak_told ok2 (fits_dec (by decide +kernel) (by decide +kernel) (by decide +kernel))).mono fun z hz =>
  pp_eq ok2 (i := 3) (q := some (0, 2)) (by decide +kernel) (pi_yes ⟨by decide +kernel, by decide +kernel, by decide +kernel⟩ (by decide +kernel) (by decide +kernel)) hz
theorem p3_ok : GoP p_peak_paper [dIs [0], .int 2, .int 5] fun z => z = .sh (.tuple [.str "high", dIs [0, 1]]) := (peak_told ok3 (fits_dec (by decide +kernel) (by decide +kernel) (by decide +kernel))).mono fun z hz => by
  rw [pp_eq ok3 (i := 2) (q := none) (by decide +kernel) (pi_no (by decide +kernel)) hz]
  have e : lowdays (neg (osn [0] 2)) (2 : Int).toNat = [0, 1] := (srt_uniq (ns := (List.range (2 : Int).toNat).map fun c => ((lowday (neg (osn [0] 2)) (2 : Int).toNat c : Nat) : Int)) (by
    rw [show ((List.range (2 : Int).toNat).map fun c => ((lowday (neg (osn [0] 2)) (2 : Int).toNat c : Nat) : Int)) = [0, 1] by decide +kernel]) (by decide)).symm
  unfold ppD
  rw [e]
theorem p4_ok : GoP p_peak_paper [dIs [5, 5, 0], .int 2, .int 5] fun z => z = .sh (.tuple [.str "apart", dIs [1, 3]]) := (peak_told ok4 (fits_dec (by decide +kernel) (by decide +kernel) (by decide +kernel))).mono fun z hz =>
  pp_eq ok4 (i := 4) (q := some (1, 3)) (by decide +kernel) (pi_yes ⟨by decide +kernel, by decide +kernel, by decide +kernel⟩ (by decide +kernel) (by decide +kernel)) hz
theorem way_mk {ms : List Int} {k m t : Int} (k1 : 1 ≤ k) (k8 : k ≤ 8) (km : k ≤ m) (m67 : m ≤ 67) (hl : ms.length = m.toNat) (hb : Btw 0 t ms) (t1 : t < 10 ^ 30) : Way ms (wsums ms k.toNat) k t := by
  have t2 : t < 1000000000000000000000000000000 := t1
  exact ⟨⟨by omega, by omega, rfl⟩, hb, k1, k8, by omega, by omega⟩
theorem law_go {ns : List Int} (hl : ns.length ≤ 63) : GoP p_law [scrD ns] fun z => z = .sh (.bool true) := by
  have a1 := p1_ok
  have a2 := p2_ok
  have a3 := p3_ok
  have a4 := p4_ok
  refine goP rfl ?_
  unfold m_law
  walk_at "pv"
  try rw [List.length_map]
  refine ⟨by omega, ?_⟩
  refine for_inv (fun i ρ => ∃ a b c d e f g, ρ = [some (.sh (scrD ns)), a, b, c, d, e, f, g]) ⟨_, _, _, _, _, _, _, rfl⟩ ?_ ?_
  · rintro i e ρ he ⟨x1, x2, x3, x4, x5, x6, x7, rfl⟩
    obtain ⟨rfl, hi⟩ := rg0_get he
    refine gn ?_
    walk_at "pv"
    refine (jar_ok (by omega) (by omega)).mono fun z hz => ?_
    obtain ⟨js, rfl, j0⟩ := hz
    walk_at "pv"
    refine ⟨by decide, ?_⟩
    refine for_inv (fun q ρ => ∃ js c d e f g, JarD (200 * q) js ∧ ρ = [some (.sh (scrD ns)), some (.sh (.int ((i : Nat) : Int))), some (.own js), c, d, e, f, g]) ⟨_, _, _, _, _, _, j0.mono (by omega), rfl⟩ ?_ ?_
    · rintro q e ρ he ⟨js, x3, x4, x5, x6, x7, j1, rfl⟩
      obtain ⟨rfl, hq⟩ := rg0_get he
      have hq : q < 3 := hq
      refine gn ?_
      walk_at "pv"
      refine (size_ok j1 (by omega) (by decide) (by decide)).mono fun z js2 hz => ?_
      obtain ⟨k, m, rfl, k1, k8, km, m24, j2⟩ := hz
      walk_at "pv"
      refine (high_ok j2 (by omega) (by decide) (by decide)).mono fun z js3 hz => ?_
      obtain ⟨t, rfl, t0, t1, t2, j3⟩ := hz
      walk_at "pv"
      refine (days_ok j3 (by omega) (by omega) (by omega) t0 (Int.lt_trans t1 (by decide +kernel))).mono fun z js4 hz => ?_
      obtain ⟨ms, rfl, ml, mb, j4⟩ := hz
      walk_at "pv"
      refine (sums_ok k1 (by omega) (by omega)).mono fun z hz => ?_
      subst hz
      have w := way_mk k1 k8 km (by omega) ml mb t1
      have r := right_ok (way_ok w t0) (way_fits w)
      walk_at "pv"
      exact ⟨_, _, _, _, _, _, j4.mono (by omega), rfl⟩
    · rintro ρ ⟨js, x3, x4, x5, x6, x7, j1, rfl⟩
      walk_at "pv"
      exact ⟨_, _, _, _, _, _, _, rfl⟩
  · rintro ρ ⟨x1, x2, x3, x4, x5, x6, x7, rfl⟩
    walk_at "pv"
    refine (jar_ok (by omega) (by omega)).mono fun z hz => ?_
    obtain ⟨js, rfl, j0⟩ := hz
    walk_at "pv"
    refine (dip_ok j0 (by omega) (by decide) (by decide +kernel)).mono fun z js1 hz => ?_
    obtain ⟨d, rfl, d0, d1, j1⟩ := hz
    walk_at "pv"
    have hds : ∀ (i : Nat) (e : D), [PyData.int 8, PyData.int 1, PyData.int (1 + d)][i]? = some e → ∃ k : Int, e = .int k ∧ 1 ≤ k ∧ k ≤ 8 ∧ i < 3 := by
      intro i e he
      match i, he with
      | 0, he =>
        cases he
        exact ⟨_, rfl, by decide, by decide, by decide⟩
      | 1, he =>
        cases he
        exact ⟨_, rfl, by decide, by decide, by decide⟩
      | 2, he =>
        cases he
        exact ⟨_, rfl, by omega, by omega, by decide⟩
    try refine ⟨_, _, rfl, ?_⟩
    refine for_inv (fun i ρ => ∃ js c d e f g h, JarD (200 * i + 1) js ∧ ρ = [some (.sh (scrD ns)), c, some (.own js), d, e, f, g, h]) ⟨_, _, _, _, _, _, _, j1.mono (by omega), rfl⟩ ?_ ?_
    · rintro i e ρ he ⟨js, y1, y2, y3, y4, y5, y6, j2, rfl⟩
      obtain ⟨k, rfl, k1, k8, hi⟩ := hds i e he
      refine gn ?_
      walk_at "pv"
      refine (days_ok j2 (by omega) (by decide) (by decide) (by decide +kernel) (by decide +kernel)).mono fun z js4 hz => ?_
      obtain ⟨ms, rfl, ml, mb, j4⟩ := hz
      have ml : ms.length = 67 := ml
      walk_at "pv"
      refine (sums_ok k1 (by omega) (by omega)).mono fun z hz => ?_
      subst hz
      have w := way_mk (m := 67) k1 k8 (by omega) (by decide) ml mb (by decide +kernel)
      have r := right_ok (way_ok w (by decide +kernel)) (way_fits w)
      walk_at "pv"
      exact ⟨_, _, _, _, _, _, _, j4.mono (by omega), rfl⟩
    · rintro ρ ⟨js, y1, y2, y3, y4, y5, y6, j2, rfl⟩
      have j2 : JarD 601 js := j2
      walk_at "pv"
      try refine ⟨by decide, ?_⟩
      refine for_inv (fun q ρ => ∃ js c d e f g h, JarD (200 * q + 601) js ∧ ρ = [some (.sh (scrD ns)), c, some (.own js), d, e, f, g, h]) ⟨_, _, _, _, _, _, _, j2.mono (by omega), rfl⟩ ?_ ?_
      · rintro q e ρ he ⟨js, x3, x4, x5, x6, x7, x8, j1, rfl⟩
        obtain ⟨rfl, hq⟩ := rg0_get he
        have hq : q < 3 := hq
        refine gn ?_
        walk_at "pv"
        refine (dip_ok j1 (by omega) (by decide) (by decide +kernel)).mono fun z js2 hz => ?_
        obtain ⟨d, rfl, d0, d1, j2⟩ := hz
        walk_at "pv"
        refine (high_ok j2 (by omega) (by decide) (by decide)).mono fun z js3 hz => ?_
        obtain ⟨t, rfl, t0, t1, t2, j3⟩ := hz
        walk_at "pv"
        refine (dip_ok j3 (by omega) (by decide) (by decide +kernel)).mono fun z js4 hz => ?_
        obtain ⟨n, rfl, n0, n1, j4⟩ := hz
        walk_at "pv"
        refine (days_ok j4 (by omega) (by omega) (by omega) t0 (Int.lt_trans t1 (by decide +kernel))).mono fun z js5 hz => ?_
        obtain ⟨ms, rfl, ml, mb, j5⟩ := hz
        walk_at "pv"
        refine (sums_ok (by omega) (by omega) (by omega)).mono fun z hz => ?_
        subst hz
        have w := way_mk (k := 1 + d) (m := 25 + n) (by omega) (by omega) (by omega) (by omega) ml mb t1
        have r := right_ok (way_ok w t0) (way_fits w)
        walk_at "pv"
        exact ⟨_, _, _, _, _, _, _, j5.mono (by omega), rfl⟩
      · rintro ρ ⟨js, x3, x4, x5, x6, x7, x8, j1, rfl⟩
        walk_at "pv"
        refine EqS.eq (d := .list [.tuple [.str "high", dIs [1, 2, 3]], .tuple [.str "apart", dIs [0, 2]], .tuple [.str "high", dIs [0, 1]], .tuple [.str "apart", dIs [1, 3]]]) ⟨by decide +kernel⟩ ?_
        walk_at "pv"
        rfl
theorem law_true : ∀ ns : List Int, ns.length ≤ 63 → p_law [scrD ns] = some (.sh (.bool true)) := fun ns hl => by
  obtain ⟨r, e, rfl⟩ := (law_go hl).ex
  exact e
end K14

set_option Elab.async false
set_option linter.all false
set_option maxRecDepth 100000
set_option maxHeartbeats 4000000
namespace K14
open PySem PySem.Spec PyProof.Rows L2 Ws Pv
section
variable {P : Program} {w : World} {K : PySem.W.Frag} {mg : Str → Option Value} {base : Heap}
def spLaw (K : PySem.W.Frag) : Sp := fun vs H Q _ => ∃ (a : Addr) (ns : List Int), vs = [.ref a] ∧ SqL K H a (ns.map V.int) ∧ ns.length ≤ 63 ∧ ∀ H', Q (.bl true) H'
theorem ok_end {f : Addr} {fd : FuncData} (T : Top K mg) (F : L2.Fun K "law" "law" s_law f fd) : FnG P w K mg base CX0 8 f fd ["script"] (spLaw K) :=
  law_end (ok_all T F) law_true
end
theorem facts {P : Program} {w : World} {K : PySem.W.Frag} {h : Heap} {mg : Str → Option Value} {f : Addr} (X : K.In h) (G : h.Ns mainGlobals mg) (hfa : mg ("law" : Str) = some (.ref f)) (c : He.SaysD fa fn K) (cb : Ws.bsB bs K = true) :
    ∃ fd : FuncData, (∀ (s : Shared) (v : Value), BindsTo s fd ⟨[v], []⟩ [("script", v)]) ∧ ∀ base : Heap, K.In base → base.Ns mainGlobals mg → FnG P w K mg base CX0 8 f fd ["script"] (spLaw K) := by
  obtain ⟨fd0, D0⟩ := c.def_ 0 (d := ⟨("_law_jar", none), "_law_jar", "_law_jar", defArgs s__law_jar, defBody s__law_jar, defScope s__law_jar, [], []⟩) rfl
  have F0 : L2.Fun K "_law_jar" "_law_jar" s__law_jar (He.ga K "_law_jar") fd0 := Ws.fun_of D0
  have g0 := He.glo_ok X G (c.fact 0 (f := .glo "_law_jar") rfl)
  obtain ⟨fd1, D1⟩ := c.def_ 1 (d := ⟨("_law_dip", none), "_law_dip", "_law_dip", defArgs s__law_dip, defBody s__law_dip, defScope s__law_dip, [], []⟩) rfl
  have F1 : L2.Fun K "_law_dip" "_law_dip" s__law_dip (He.ga K "_law_dip") fd1 := Ws.fun_of D1
  have g1 := He.glo_ok X G (c.fact 1 (f := .glo "_law_dip") rfl)
  obtain ⟨fd2, D2⟩ := c.def_ 2 (d := ⟨("_law_size", none), "_law_size", "_law_size", defArgs s__law_size, defBody s__law_size, defScope s__law_size, [], []⟩) rfl
  have F2 : L2.Fun K "_law_size" "_law_size" s__law_size (He.ga K "_law_size") fd2 := Ws.fun_of D2
  have g2 := He.glo_ok X G (c.fact 2 (f := .glo "_law_size") rfl)
  obtain ⟨fd3, D3⟩ := c.def_ 3 (d := ⟨("_law_top", none), "_law_top", "_law_top", defArgs s__law_top, defBody s__law_top, defScope s__law_top, [], []⟩) rfl
  have F3 : L2.Fun K "_law_top" "_law_top" s__law_top (He.ga K "_law_top") fd3 := Ws.fun_of D3
  have g3 := He.glo_ok X G (c.fact 3 (f := .glo "_law_top") rfl)
  obtain ⟨fd4, D4⟩ := c.def_ 4 (d := ⟨("_law_high", none), "_law_high", "_law_high", defArgs s__law_high, defBody s__law_high, defScope s__law_high, [], []⟩) rfl
  have F4 : L2.Fun K "_law_high" "_law_high" s__law_high (He.ga K "_law_high") fd4 := Ws.fun_of D4
  have g4 := He.glo_ok X G (c.fact 4 (f := .glo "_law_high") rfl)
  obtain ⟨fd5, D5⟩ := c.def_ 5 (d := ⟨("_law_gaps", none), "_law_gaps", "_law_gaps", defArgs s__law_gaps, defBody s__law_gaps, defScope s__law_gaps, [], []⟩) rfl
  have F5 : L2.Fun K "_law_gaps" "_law_gaps" s__law_gaps (He.ga K "_law_gaps") fd5 := Ws.fun_of D5
  have g5 := He.glo_ok X G (c.fact 5 (f := .glo "_law_gaps") rfl)
  obtain ⟨fd6, D6⟩ := c.def_ 6 (d := ⟨("_law_ends", none), "_law_ends", "_law_ends", defArgs s__law_ends, defBody s__law_ends, defScope s__law_ends, [], []⟩) rfl
  have F6 : L2.Fun K "_law_ends" "_law_ends" s__law_ends (He.ga K "_law_ends") fd6 := Ws.fun_of D6
  have g6 := He.glo_ok X G (c.fact 6 (f := .glo "_law_ends") rfl)
  obtain ⟨fd7, D7⟩ := c.def_ 7 (d := ⟨("_law_due", none), "_law_due", "_law_due", defArgs s__law_due, defBody s__law_due, defScope s__law_due, [], []⟩) rfl
  have F7 : L2.Fun K "_law_due" "_law_due" s__law_due (He.ga K "_law_due") fd7 := Ws.fun_of D7
  have g7 := He.glo_ok X G (c.fact 7 (f := .glo "_law_due") rfl)
  obtain ⟨fd8, D8⟩ := c.def_ 8 (d := ⟨("is_integer", none), "is_integer", "is_integer", defArgs s_is_integer, defBody s_is_integer, defScope s_is_integer, [], []⟩) rfl
  have F8 : L2.Fun K "is_integer" "is_integer" s_is_integer (He.ga K "is_integer") fd8 := Ws.fun_of D8
  have g8 := He.glo_ok X G (c.fact 8 (f := .glo "is_integer") rfl)
  obtain ⟨fd9, D9⟩ := c.def_ 9 (d := ⟨("is_row", none), "is_row", "is_row", defArgs s_is_row, defBody s_is_row, defScope s_is_row, [], []⟩) rfl
  have F9 : L2.Fun K "is_row" "is_row" s_is_row (He.ga K "is_row") fd9 := Ws.fun_of D9
  have g9 := He.glo_ok X G (c.fact 9 (f := .glo "is_row") rfl)
  obtain ⟨fd10, D10⟩ := c.def_ 10 (d := ⟨("check_row_of_sums", none), "check_row_of_sums", "check_row_of_sums", defArgs s_check_row_of_sums, defBody s_check_row_of_sums, defScope s_check_row_of_sums, [], []⟩) rfl
  have F10 : L2.Fun K "check_row_of_sums" "check_row_of_sums" s_check_row_of_sums (He.ga K "check_row_of_sums") fd10 := Ws.fun_of D10
  have g10 := He.glo_ok X G (c.fact 10 (f := .glo "check_row_of_sums") rfl)
  obtain ⟨fd11, D11⟩ := c.def_ 11 (d := ⟨("is_within", none), "is_within", "is_within", defArgs s_is_within, defBody s_is_within, defScope s_is_within, [], []⟩) rfl
  have F11 : L2.Fun K "is_within" "is_within" s_is_within (He.ga K "is_within") fd11 := Ws.fun_of D11
  have g11 := He.glo_ok X G (c.fact 11 (f := .glo "is_within") rfl)
  obtain ⟨fd12, D12⟩ := c.def_ 12 (d := ⟨("check_sums", none), "check_sums", "check_sums", defArgs s_check_sums, defBody s_check_sums, defScope s_check_sums, [], []⟩) rfl
  have F12 : L2.Fun K "check_sums" "check_sums" s_check_sums (He.ga K "check_sums") fd12 := Ws.fun_of D12
  have g12 := He.glo_ok X G (c.fact 12 (f := .glo "check_sums") rfl)
  obtain ⟨fd13, D13⟩ := c.def_ 13 (d := ⟨("check_most", none), "check_most", "check_most", defArgs s_check_most, defBody s_check_most, defScope s_check_most, [], []⟩) rfl
  have F13 : L2.Fun K "check_most" "check_most" s_check_most (He.ga K "check_most") fd13 := Ws.fun_of D13
  have g13 := He.glo_ok X G (c.fact 13 (f := .glo "check_most") rfl)
  obtain ⟨fd14, D14⟩ := c.def_ 14 (d := ⟨("check_told", none), "check_told", "check_told", defArgs s_check_told, defBody s_check_told, defScope s_check_told, [], []⟩) rfl
  have F14 : L2.Fun K "check_told" "check_told" s_check_told (He.ga K "check_told") fd14 := Ws.fun_of D14
  have g14 := He.glo_ok X G (c.fact 14 (f := .glo "check_told") rfl)
  obtain ⟨fd15, D15⟩ := c.def_ 15 (d := ⟨("offsets_of", none), "offsets_of", "offsets_of", defArgs s_offsets_of, defBody s_offsets_of, defScope s_offsets_of, [], []⟩) rfl
  have F15 : L2.Fun K "offsets_of" "offsets_of" s_offsets_of (He.ga K "offsets_of") fd15 := Ws.fun_of D15
  have g15 := He.glo_ok X G (c.fact 15 (f := .glo "offsets_of") rfl)
  obtain ⟨fd16, D16⟩ := c.def_ 16 (d := ⟨("first_apart", none), "first_apart", "first_apart", defArgs s_first_apart, defBody s_first_apart, defScope s_first_apart, [], []⟩) rfl
  have F16 : L2.Fun K "first_apart" "first_apart" s_first_apart (He.ga K "first_apart") fd16 := Ws.fun_of D16
  have g16 := He.glo_ok X G (c.fact 16 (f := .glo "first_apart") rfl)
  obtain ⟨fd17, D17⟩ := c.def_ 17 (d := ⟨("lowest_days", none), "lowest_days", "lowest_days", defArgs s_lowest_days, defBody s_lowest_days, defScope s_lowest_days, [], []⟩) rfl
  have F17 : L2.Fun K "lowest_days" "lowest_days" s_lowest_days (He.ga K "lowest_days") fd17 := Ws.fun_of D17
  have g17 := He.glo_ok X G (c.fact 17 (f := .glo "lowest_days") rfl)
  obtain ⟨fd18, D18⟩ := c.def_ 18 (d := ⟨("total_at", none), "total_at", "total_at", defArgs s_total_at, defBody s_total_at, defScope s_total_at, [], []⟩) rfl
  have F18 : L2.Fun K "total_at" "total_at" s_total_at (He.ga K "total_at") fd18 := Ws.fun_of D18
  have g18 := He.glo_ok X G (c.fact 18 (f := .glo "total_at") rfl)
  obtain ⟨fd19, D19⟩ := c.def_ 19 (d := ⟨("highest_days", none), "highest_days", "highest_days", defArgs s_highest_days, defBody s_highest_days, defScope s_highest_days, [], []⟩) rfl
  have F19 : L2.Fun K "highest_days" "highest_days" s_highest_days (He.ga K "highest_days") fd19 := Ws.fun_of D19
  have g19 := He.glo_ok X G (c.fact 19 (f := .glo "highest_days") rfl)
  obtain ⟨fd20, D20⟩ := c.def_ 20 (d := ⟨("find_conflict", none), "find_conflict", "find_conflict", defArgs s_find_conflict, defBody s_find_conflict, defScope s_find_conflict, [], []⟩) rfl
  have F20 : L2.Fun K "find_conflict" "find_conflict" s_find_conflict (He.ga K "find_conflict") fd20 := Ws.fun_of D20
  have g20 := He.glo_ok X G (c.fact 20 (f := .glo "find_conflict") rfl)
  obtain ⟨fd21, D21⟩ := c.def_ 21 (d := ⟨("need_way", none), "need_way", "need_way", defArgs s_need_way, defBody s_need_way, defScope s_need_way, [], []⟩) rfl
  have F21 : L2.Fun K "need_way" "need_way" s_need_way (He.ga K "need_way") fd21 := Ws.fun_of D21
  have g21 := He.glo_ok X G (c.fact 21 (f := .glo "need_way") rfl)
  obtain ⟨fd22, D22⟩ := c.def_ 22 (d := ⟨("least_high", none), "least_high", "least_high", defArgs s_least_high, defBody s_least_high, defScope s_least_high, [], []⟩) rfl
  have F22 : L2.Fun K "least_high" "least_high" s_least_high (He.ga K "least_high") fd22 := Ws.fun_of D22
  have g22 := He.glo_ok X G (c.fact 22 (f := .glo "least_high") rfl)
  obtain ⟨fd23, D23⟩ := c.def_ 23 (d := ⟨("greatest_low", none), "greatest_low", "greatest_low", defArgs s_greatest_low, defBody s_greatest_low, defScope s_greatest_low, [], []⟩) rfl
  have F23 : L2.Fun K "greatest_low" "greatest_low" s_greatest_low (He.ga K "greatest_low") fd23 := Ws.fun_of D23
  have g23 := He.glo_ok X G (c.fact 23 (f := .glo "greatest_low") rfl)
  obtain ⟨fd24, D24⟩ := c.def_ 24 (d := ⟨("widest_tie", none), "widest_tie", "widest_tie", defArgs s_widest_tie, defBody s_widest_tie, defScope s_widest_tie, [], []⟩) rfl
  have F24 : L2.Fun K "widest_tie" "widest_tie" s_widest_tie (He.ga K "widest_tie") fd24 := Ws.fun_of D24
  have g24 := He.glo_ok X G (c.fact 24 (f := .glo "widest_tie") rfl)
  obtain ⟨fd25, D25⟩ := c.def_ 25 (d := ⟨("least_spread", none), "least_spread", "least_spread", defArgs s_least_spread, defBody s_least_spread, defScope s_least_spread, [], []⟩) rfl
  have F25 : L2.Fun K "least_spread" "least_spread" s_least_spread (He.ga K "least_spread") fd25 := Ws.fun_of D25
  have g25 := He.glo_ok X G (c.fact 25 (f := .glo "least_spread") rfl)
  obtain ⟨fd26, D26⟩ := c.def_ 26 (d := ⟨("floor_of", none), "floor_of", "floor_of", defArgs s_floor_of, defBody s_floor_of, defScope s_floor_of, [], []⟩) rfl
  have F26 : L2.Fun K "floor_of" "floor_of" s_floor_of (He.ga K "floor_of") fd26 := Ws.fun_of D26
  have g26 := He.glo_ok X G (c.fact 26 (f := .glo "floor_of") rfl)
  obtain ⟨fd27, D27⟩ := c.def_ 27 (d := ⟨("greatest_floor", none), "greatest_floor", "greatest_floor", defArgs s_greatest_floor, defBody s_greatest_floor, defScope s_greatest_floor, [], []⟩) rfl
  have F27 : L2.Fun K "greatest_floor" "greatest_floor" s_greatest_floor (He.ga K "greatest_floor") fd27 := Ws.fun_of D27
  have g27 := He.glo_ok X G (c.fact 27 (f := .glo "greatest_floor") rfl)
  obtain ⟨fd28, D28⟩ := c.def_ 28 (d := ⟨("peak_of", none), "peak_of", "peak_of", defArgs s_peak_of, defBody s_peak_of, defScope s_peak_of, [], []⟩) rfl
  have F28 : L2.Fun K "peak_of" "peak_of" s_peak_of (He.ga K "peak_of") fd28 := Ws.fun_of D28
  have g28 := He.glo_ok X G (c.fact 28 (f := .glo "peak_of") rfl)
  obtain ⟨fd29, D29⟩ := c.def_ 29 (d := ⟨("least_peak", none), "least_peak", "least_peak", defArgs s_least_peak, defBody s_least_peak, defScope s_least_peak, [], []⟩) rfl
  have F29 : L2.Fun K "least_peak" "least_peak" s_least_peak (He.ga K "least_peak") fd29 := Ws.fun_of D29
  have g29 := He.glo_ok X G (c.fact 29 (f := .glo "least_peak") rfl)
  obtain ⟨fd30, D30⟩ := c.def_ 30 (d := ⟨("peak_paper", none), "peak_paper", "peak_paper", defArgs s_peak_paper, defBody s_peak_paper, defScope s_peak_paper, [], []⟩) rfl
  have F30 : L2.Fun K "peak_paper" "peak_paper" s_peak_paper (He.ga K "peak_paper") fd30 := Ws.fun_of D30
  have g30 := He.glo_ok X G (c.fact 30 (f := .glo "peak_paper") rfl)
  obtain ⟨fd31, D31⟩ := c.def_ 31 (d := ⟨("_law_right", none), "_law_right", "_law_right", defArgs s__law_right, defBody s__law_right, defScope s__law_right, [], []⟩) rfl
  have F31 : L2.Fun K "_law_right" "_law_right" s__law_right (He.ga K "_law_right") fd31 := Ws.fun_of D31
  have g31 := He.glo_ok X G (c.fact 31 (f := .glo "_law_right") rfl)
  obtain ⟨fd32, D32⟩ := c.def_ 32 (d := ⟨("_law_sums", none), "_law_sums", "_law_sums", defArgs s__law_sums, defBody s__law_sums, defScope s__law_sums, [], []⟩) rfl
  have F32 : L2.Fun K "_law_sums" "_law_sums" s__law_sums (He.ga K "_law_sums") fd32 := Ws.fun_of D32
  have g32 := He.glo_ok X G (c.fact 32 (f := .glo "_law_sums") rfl)
  obtain ⟨fd33, D33⟩ := c.def_ 33 (d := ⟨("_law_days", none), "_law_days", "_law_days", defArgs s__law_days, defBody s__law_days, defScope s__law_days, [], []⟩) rfl
  have F33 : L2.Fun K "_law_days" "_law_days" s__law_days (He.ga K "_law_days") fd33 := Ws.fun_of D33
  have g33 := He.glo_ok X G (c.fact 33 (f := .glo "_law_days") rfl)
  obtain ⟨fd34, D34⟩ := c.def_ 34 (d := ⟨("law", none), "law", "law", defArgs s_law, defBody s_law, defScope s_law, [], []⟩) rfl
  have F34 : L2.Fun K "law" "law" s_law (He.ga K "law") fd34 := Ws.fun_of D34
  have g34 := He.glo_ok X G (c.fact 34 (f := .glo "law") rfl)
  have e := hfa.symm.trans g34
  cases e
  have T : Top K mg := ⟨_, _, F0, F0.binds (fun _ _ _ _ _ _ us hl => match us, hl with | [_, _], _ => rfl), g0,
    _, _, F1, F1.binds (fun _ _ _ _ _ _ us hl => match us, hl with | [_, _], _ => rfl), g1,
    _, _, F2, F2.binds (fun _ _ _ _ _ _ us hl => match us, hl with | [_, _], _ => rfl), g2,
    _, _, F3, F3.binds (fun _ _ _ _ _ _ us hl => match us, hl with | [_], _ => rfl), g3,
    _, _, F4, F4.binds (fun _ _ _ _ _ _ us hl => match us, hl with | [_, _], _ => rfl), g4,
    _, _, F5, F5.binds (fun _ _ _ _ _ _ us hl => match us, hl with | [_, _], _ => rfl), g5,
    _, _, F6, F6.binds (fun _ _ _ _ _ _ us hl => match us, hl with | [_, _, _], _ => rfl), g6,
    _, _, F7, F7.binds (fun _ _ _ _ _ _ us hl => match us, hl with | [_, _, _], _ => rfl), g7,
    _, _, F8, F8.binds (fun _ _ _ _ _ _ us hl => match us, hl with | [_], _ => rfl), g8,
    _, _, F9, F9.binds (fun _ _ _ _ _ _ us hl => match us, hl with | [_, _], _ => rfl), g9,
    _, _, F10, F10.binds (fun _ _ _ _ _ _ us hl => match us, hl with | [_], _ => rfl), g10,
    _, _, F11, F11.binds (fun _ _ _ _ _ _ us hl => match us, hl with | [_, _, _], _ => rfl), g11,
    _, _, F12, F12.binds (fun _ _ _ _ _ _ us hl => match us, hl with | [_, _], _ => rfl), g12,
    _, _, F13, F13.binds (fun _ _ _ _ _ _ us hl => match us, hl with | [_], _ => rfl), g13,
    _, _, F14, F14.binds (fun _ _ _ _ _ _ us hl => match us, hl with | [_, _, _], _ => rfl), g14,
    _, _, F15, F15.binds (fun _ _ _ _ _ _ us hl => match us, hl with | [_, _], _ => rfl), g15,
    _, _, F16, F16.binds (fun _ _ _ _ _ _ us hl => match us, hl with | [_, _, _], _ => rfl), g16,
    _, _, F17, F17.binds (fun _ _ _ _ _ _ us hl => match us, hl with | [_, _], _ => rfl), g17,
    _, _, F18, F18.binds (fun _ _ _ _ _ _ us hl => match us, hl with | [_, _, _], _ => rfl), g18,
    _, _, F19, F19.binds (fun _ _ _ _ _ _ us hl => match us, hl with | [_, _], _ => rfl), g19,
    _, _, F20, F20.binds (fun _ _ _ _ _ _ us hl => match us, hl with | [_, _, _], _ => rfl), g20,
    _, _, F21, F21.binds (fun _ _ _ _ _ _ us hl => match us, hl with | [_, _, _], _ => rfl), g21,
    _, _, F22, F22.binds (fun _ _ _ _ _ _ us hl => match us, hl with | [_, _, _], _ => rfl), g22,
    _, _, F23, F23.binds (fun _ _ _ _ _ _ us hl => match us, hl with | [_, _, _], _ => rfl), g23,
    _, _, F24, F24.binds (fun _ _ _ _ _ _ us hl => match us, hl with | [_, _], _ => rfl), g24,
    _, _, F25, F25.binds (fun _ _ _ _ _ _ us hl => match us, hl with | [_, _, _], _ => rfl), g25,
    _, _, F26, F26.binds (fun _ _ _ _ _ _ us hl => match us, hl with | [_, _, _], _ => rfl), g26,
    _, _, F27, F27.binds (fun _ _ _ _ _ _ us hl => match us, hl with | [_, _, _], _ => rfl), g27,
    _, _, F28, F28.binds (fun _ _ _ _ _ _ us hl => match us, hl with | [_, _], _ => rfl), g28,
    _, _, F29, F29.binds (fun _ _ _ _ _ _ us hl => match us, hl with | [_, _, _], _ => rfl), g29,
    _, _, F30, F30.binds (fun _ _ _ _ _ _ us hl => match us, hl with | [_, _, _], _ => rfl), g30,
    _, _, F31, F31.binds (fun _ _ _ _ _ _ us hl => match us, hl with | [_, _, _], _ => rfl), g31,
    _, _, F32, F32.binds (fun _ _ _ _ _ _ us hl => match us, hl with | [_, _], _ => rfl), g32,
    _, _, F33, F33.binds (fun _ _ _ _ _ _ us hl => match us, hl with | [_, _, _], _ => rfl), g33,
    _, _, F34, F34.binds (fun _ _ _ _ _ _ us hl => match us, hl with | [_], _ => rfl), g34,
    He.free_ok X G (c.fact 35 (f := .free "abs") rfl),
    He.free_ok X G (c.fact 36 (f := .free "all") rfl),
    He.free_ok X G (c.fact 37 (f := .free "bool") rfl),
    He.free_ok X G (c.fact 38 (f := .free "int") rfl),
    He.free_ok X G (c.fact 39 (f := .free "isinstance") rfl),
    He.free_ok X G (c.fact 40 (f := .free "len") rfl),
    He.free_ok X G (c.fact 41 (f := .free "list") rfl),
    He.free_ok X G (c.fact 42 (f := .free "max") rfl),
    He.free_ok X G (c.fact 43 (f := .free "min") rfl),
    He.free_ok X G (c.fact 44 (f := .free "range") rfl),
    He.free_ok X G (c.fact 45 (f := .free "repr") rfl),
    He.free_ok X G (c.fact 46 (f := .free "sorted") rfl),
    He.free_ok X G (c.fact 47 (f := .free "sum") rfl),
    He.free_ok X G (c.fact 48 (f := .free "type") rfl),
    He.int_ok X G (c.fact 49 (f := .int "GREATEST_COUNT" 67) rfl),
    He.int_ok X G (c.fact 50 (f := .int "GREATEST_LENGTH" 8) rfl),
    He.int_ok X G (c.fact 51 (f := .int "GREATEST_MOST" 999999999999999999999999999999) rfl)⟩
  have b := FunD.bindsA (ps := ["script"]) D34 fun _ _ _ _ _ _ us hl => match us, hl with | [_], _ => rfl
  exact ⟨fd34, fun s v => b s [v] rfl, fun base _ _ => ok_end (P := P) (w := w) (base := base) T F34⟩
end K14
open PySem PySem.W PyProof.Rows in
set_option maxRecDepth 100000 in
set_option maxHeartbeats 0 in
theorem PySem.Challenge.cw_weeksums_k14_levels_of_great_numbers_holds : PySem.Challenge.rw_weeksums_k14_levels_of_great_numbers.Holds := by
  w_on; o_law
  refine HandSHeadRun.head_imp (r := OpenLaw.row PySem.Challenge.rw_weeksums_k14_levels_of_great_numbers) (q := view (OpenLaw.row PySem.Challenge.rw_weeksums_k14_levels_of_great_numbers).prog [51]) (H := Ws.hookB 2 K14.fa K14.fn K14.bs) (ob := Ws.obB 2 K14.fa K14.fn K14.bs) (M := 20000) (loose := K14.nm) (d := HandSHeadRun.topDef (OpenLaw.row PySem.Challenge.rw_weeksums_k14_levels_of_great_numbers).prog 51) (kwd := []) (Ws.obB_eq 2 K14.fa K14.fn K14.bs)
    K14.run (by kernel_rfl) (by kernel_rfl) (by kernel_rfl) (by rfl) (by first | assumption | decide +kernel) (by decide +kernel) ⟨rfl, rfl, rfl, rfl, rfl, by decide +kernel⟩ ?hw ?hc
  case hw => w_witness2
  case hc =>
    refine Ws.walkGE (l := PySem.Challenge.rw_weeksums_k14_levels_of_great_numbers) (n := 63) (k := 8) (x := "script") rfl (by decide) (by kernel_rfl) ⟨rfl, by decide, by decide⟩ ?F
    intro w mg fa h Y G hmg0
    obtain ⟨K, KX, c, cb⟩ := Y
    have hmg : mg ("law" : PySem.Str) = some (.ref fa) := by
      have e : (HandSHeadRun.topDef (OpenLaw.row PySem.Challenge.rw_weeksums_k14_levels_of_great_numbers).prog 51).name = ("law" : PySem.Str) := by kernel_rfl
      rw [← e]
      exact hmg0
    obtain ⟨fd, hb, hF⟩ := K14.facts (P := (PySem.Challenge.rw_weeksums_k14_levels_of_great_numbers).prog) (w := w) KX G hmg c cb
    exact ⟨K, fd, K14.spLaw K, KX, hb, fun H a ns hl _ hS => ⟨a, ns, rfl, hS, hl, fun _ => rfl⟩, hF⟩


import PyProof.Rows.All
import Wide.All
import OpenK.AllK
import Wide.FinOn
import HandS.ForMost
import HandS.Wide
import HandS.RaiseMore
import PyProof.ReprRoads
import HandS.Ends
import HandS.Conv
import HandS.IsInst
import HandS.SortInts
import HandS.Evl
import HandS.More
import HandS.Remove
import HandS.ExcValue
import HandS.TupLe
import HandS.Iter
import HandS.Style
import KE.DataMinMax
import KE.SortData
import PyProof.Claim2Refuses
import HandS.SortKw
import HandS.SortRule
import HandS.Gcd
import HandS.Deep
import KE.KDictZip
import KE.KMathGC
import HandS.Zip
import HandS.Dict
import HandS.DictTup
import HandS.DictComp
import HandS.Exc
import HandS.ExcInit
import HandS.ExcOwn
import HandS.ExcField
import HandS.TryMany
import HandS.TryOnly
import HandS.SuiteRaise
import HandS.Strs
import HandS.StrMore
import HandS.StrSplit
import HandS.Sort
import HandS.Keys
import HandS.SortOrd
import PySem.Challenge.RW_weeksums_k05_least_and_greatest_ways
set_option Elab.async false
set_option linter.all false
set_option maxRecDepth 100000
set_option maxHeartbeats 4000000
namespace Ws
open PySem PySem.Spec PyProof.Rows L2
/-! ### great powers -/
/-- a power of an int of less than a million bits, the exponent up to 60 -/
def PowOk (i j : Int) : Prop := 0 ≤ j ∧ j ≤ 60 ∧ i.natAbs.log2 < 2000000
theorem bits_le (i : Int) : Builtin.Int.intBits i ≤ i.natAbs.log2 + 1 := by
  unfold Builtin.Int.intBits
  split <;> omega
theorem op_powG {X : Cx} : OpR X (binaryOp .Pow) (rI PowOk fun i j => .int (i ^ j.toNat)) :=
  opI fun i j t u s Q E hc q => by
    obtain ⟨h0, h1, h2⟩ := hc
    refine PyProof.Rows.pow_int h0 ?_ q
    have hb := bits_le i
    have h3 : (Builtin.Int.intBits i : Int) ≤ 2000000 := by omega
    have h4 : (Builtin.Int.intBits i : Int) * j ≤ 2000000 * 60 :=
      Int.le_trans (Int.mul_le_mul_of_nonneg_right h3 h0) (Int.mul_le_mul_of_nonneg_left h1 (by decide))
    exact Int.le_trans h4 (by decide)
end Ws

set_option Elab.async false
set_option linter.all false
set_option maxRecDepth 100000
set_option maxHeartbeats 4000000
namespace Ws
open PySem PySem.Spec PyProof.Rows L2
/-! ### contracts of defs that hold where no printing of a list is under way -/
structure FnG (P : Program) (w : World) (K : PySem.W.Frag) (mg : Str → Option Value) (base : Heap)
    (CX : CXT) (k : Nat) (f : Addr) (fd : FuncData) (ps : List Str) (sp : Sp) : Prop where
  cnt : ∀ vs H Q E, sp vs H Q E → vs.length = ps.length
  go : ∀ (A : Around) (out : List Env) (s : Shared) (H : Hp) (ar : Args) (us : List Value) (vs : List V) (Q : VK) (E : XK),
    Room k A → A.guards = some [] → Env0 P w K mg base A out s H → BindsTo s fd ar (ps.zip us) → Vals vs us →
    sp vs H Q E → codeAny (model P w) A (.call (.ref f) ar) (CR CX out P w H s Q E) s
section
variable {P : Program} {w : World} {K : PySem.W.Frag} {mg : Str → Option Value} {base : Heap} {CX : CXT}
  {k : Nat} {f : Addr} {fd : FuncData} {ps : List Str} {sp : Sp}
theorem FnG.of (F : FnOk P w K mg base CX k f fd ps sp) : FnG P w K mg base CX k f fd ps sp :=
  ⟨F.len, fun A out s H ar us vs Q E hr _ he hb hv hs => F.run A out s H ar us vs Q E hr he hb hv hs⟩
theorem FnG.up {j : Nat} (F : FnG P w K mg base CX j f fd ps sp) (h : j ≤ k) : FnG P w K mg base CX k f fd ps sp :=
  ⟨F.cnt, fun A out s H ar us vs Q E hr => F.go A out s H ar us vs Q E (hr.mono h)⟩
/-- a def of the text by its body, the guards told -/
theorem fnG_of {nm qual : Str} {params : Arguments} {body : List Stmt} {scope : Scope} {dV kV doc pm cdv ct oc : Value}
    {an od : Option Addr} {osl : Array (Option Value)} {N : List Str}
    (lk : K.lookup f = some ⟨oc, od, .func (PySem.W.fnOf nm qual params body scope dV kV doc pm an cdv ct), osl⟩)
    (hcd : PySem.W.codeIn K cdv qual = true) (S : FnScope N ps scope)
    (cnt : ∀ vs H Q E, sp vs H Q E → vs.length = ps.length)
    (hbody : ∀ (A : Around) (out : List Env) (s : Shared) (H : Hp) (vs : List V) (Q : VK) (E : XK),
      Room k (A.deeper (envOfC qual scope s.heap.objs.size f cdv)) → A.guards = some [] → sp vs H Q E →
      ∃ t, PSs (cxOf CX P w K mg base N qual scope f cdv A out s H E) body t ∧
        t { nx := fun _ H' => Q .non H', rt := Q } (start N vs) H) :
    FnG P w K mg base CX (k + 1) f (PySem.W.fnOf nm qual params body scope dV kV doc pm an cdv ct) ps sp := by
  refine ⟨cnt, ?_⟩
  intro A out s H ar us vs Q E hr hg e0 hb hv hsp
  have n1 : vs.length = ps.length := cnt _ _ _ _ hsp
  have inK : K.In s.heap := e0.mod.kin.keeps fun b o q => (e0.bs b o q).1
  have free : s.heap.NoLimit := e0.mod.nolimit.keeps fun b o q => (e0.bs b o q).1
  have kinds : ∀ y ∈ ps.zip us, scope.names.lookup y.1 = some .local ∨
      (scope.names.lookup y.1 = some .cell ∧
        ((cellsFrom (s.heap.objs.size + 1) scope.names []).lookup y.1).isSome = true) := by
    rintro ⟨n, v⟩ hy
    have hm : n ∈ ps := (List.of_mem_zip hy).1
    cases S.par n hm with
    | inl q => exact Or.inl q
    | inr q => exact Or.inr ⟨q, PySem.W.cellsFrom_some _ _ _ (Or.inl q)⟩
  have rcd : s.heap.CodeRec cdv qual := PySem.W.codeRec_of inK hcd
  refine codeAny_call_function hr.depth (inK _ _ lk) rfl S.co S.gen rfl rcd ?_
  refine hb _ _ _ _ (wpAny_newFunctionEnv_cells S.kind kinds ?_)
  intro env ee s1 x
  subst ee
  refine ⟨free.keeps x.toInCall.keep, codeAny_func ?_⟩
  obtain ⟨t, ht, hq⟩ := hbody A out s H vs Q E (hr.deeper _) hg hsp
  have I := inv_start (CX := CX) (P := P) (E := E) (cd := cdv) (f := f) S hr.hd e0 n1 hv x
  have r1 := ht.run [] s1 (start N vs) H _ I hq
  refine wpAny_mono r1 ?_ (fun e s' hs => hs)
  intro fl s' hs
  cases fl with
  | brk =>
    obtain ⟨_, _, _, q⟩ := hs
    exact q.elim
  | cont =>
    obtain ⟨_, _, _, q⟩ := hs
    exact q.elim
  | next =>
    obtain ⟨σ', H', J, q⟩ := hs
    exact ⟨.non, H', J.os, J.bare, J.base, J.hok, rfl, q⟩
  | ret u =>
    obtain ⟨v, σ', H', J, rv, q⟩ := hs
    exact ⟨v, H', J.os, J.bare, J.base, J.hok, rv, q⟩
end
section
variable {P : Program} {w : World} {K : PySem.W.Frag} {mg : Str → Option Value} {base : Heap}
/-- THE RULE for a def of the text, where nothing leaves it -/
theorem okG {x qual : Str} {st : Stmt} {f : Addr} {fd : FuncData} {N ps : List Str} {k : Nat} {sp : Sp}
    (F : L2.Fun K x qual st f fd) (S : FnScope N ps (defScope st))
    (cnt : ∀ vs H Q E, sp vs H Q E → vs.length = ps.length)
    (hbody : ∀ (cdv : Value) (A : Around) (out : List Env) (s : Shared) (H : Hp) (vs : List V) (Q : VK) (E : XK),
      Room k (A.deeper (envOfC qual (defScope st) s.heap.objs.size f cdv)) → A.guards = some [] → sp vs H Q E →
      ∃ t, PSs (cxOf CX0 P w K mg base N qual (defScope st) f cdv A out s H E).nox (defBody st) t ∧
        t { nx := fun _ H' => Q .non H', rt := Q } (start N vs) H) :
    FnG P w K mg base CX0 (k + 1) f fd ps sp := by
  obtain ⟨oc, od, kV, doc, pm, an, cdv, ct, osl, rfl, lk, hcd⟩ := F.ex
  refine fnG_of lk hcd S cnt ?_
  intro A out s H vs Q E hr hg hsp
  obtain ⟨t, h, q⟩ := hbody cdv A out s H vs Q E hr hg hsp
  exact ⟨t, PSs.nox h, q⟩
end
section
variable {X : Cx} {CX : CXT} {k : Nat} {f : Addr} {fd : FuncData} {ps ks : List Str} {sp : Sp} {E : XK} {x : Str}
  {p pos : Pos} {e : Expr} {es : List Expr} {kws : List Keyword} {t tk : TA}
/-- a call of such a def, as it is bound -/
theorem callG {pins : List (Addr × Obj)} {σ : L2.St} {H : Hp} {s : Shared} {Q : VK} {us ws : List Value} {vs : List V} {kw : List (Str × Value)}
    (F : FnG X.prog X.w X.K X.mg X.base CX k f fd ps sp) (hr : Room k X.A) (hg : X.A.guards = some []) (hx : Passes CX X E)
    (I : Inv X pins σ H s) (hb : ws.length = ps.length → BindsTo s fd ⟨us, kw⟩ (ps.zip ws)) (r : Vals vs ws) (h : sp vs H Q E) :
    wpAny (model X.prog X.w) X.A (call (.ref f) us kw) (EP X pins σ Q) X.xe s := by
  have n1 : ws.length = ps.length := by
    have n2 := F.cnt _ _ _ _ h
    have n3 := r.length
    omega
  have c := F.go X.A X.stack s H ⟨us, kw⟩ ws vs Q E hr hg I.env0 (hb n1) r h
  refine wpAny_call (codeAny_mono c ?_)
  intro res s' hq
  cases res with
  | error ex => exact hx pins σ H s ex s' I hq
  | ok fl =>
    cases fl with
    | ret u => exact Inv.after I hq
    | next => exact hq.elim
    | brk => exact hq.elim
    | cont => exact hq.elim
theorem pe_callGd (F : FnG X.prog X.w X.K X.mg X.base CX k f fd ps sp) (hr : Room k X.A) (gu : X.A.guards = some [])
    (hg : Gl X x) (hm : X.mg x = some (.ref f)) (hk : PySem.W.keepIn X.K (.ref f) = true) (hb : Binds X.K fd ps [])
    (hx : Passes CX X E) (ha : PA X (e :: es) t) (hdb : (x == ("__debug__" : Str)) = false := by decide)
    (he : starEach (e :: es) X.env = (false, eval e X.env) :: starEach es X.env := by rfl)
    (hpl : (backTo pos (starEach es X.env)).any (·.1) = false := by rfl) :
    PE X (.Call (.Name x p) (e :: es) [] pos) (tCall sp [] E t) := by
  constructor
  intro pins s σ H Q I h
  refine wpAny_Call_Name_kw (ld_glob I hg hm ?_ hdb)
  refine PySem.W.callWith_K (h₀ := X.base) I.ok.mod.kin hk ?_ he hpl
  refine thn (ha.run pos pins s σ H _ I h) ?_
  intro us s1 hh
  obtain ⟨vs, H1, I1, r, q⟩ := hh
  refine ⟨I1.kIn, ?_⟩
  have q' : sp vs H1 Q E := by
    have z : vs ++ ([] : List V) = vs := List.append_nil vs
    rw [← z]
    exact q
  refine callG F hr gu hx I1 (fun n => ?_) r q'
  have hb1 := hb s1 us I1.kIn (by rw [List.append_nil]; exact n)
  rw [List.append_nil] at hb1
  exact hb1
end
section
variable {X : Cx} {CX : CXT} {k : Nat} {f : Addr} {fd : FuncData} {ps ks : List Str} {sp : Sp} {E : XK} {x : Str}
  {p pos : Pos} {kws : List Keyword} {tk : TA} {g : List Value → List Value → List Value} {gV : List V → List V → List V}
/-- f(a = .., b = ..): keywords alone -/
theorem pe_callKW (F : FnOk X.prog X.w X.K X.mg X.base CX k f fd ps sp) (hr : Room k X.A) (hg : Gl X x)
    (hm : X.mg x = some (.ref f)) (hk : PySem.W.keepIn X.K (.ref f) = true) (hb : KBinds X.K fd ps ks g gV) (hx : Passes CX X E)
    (hkw : PK X kws tk) (hall : (backToKw pos (keywordEach kws X.env)).all (·.1.isSome) = true := by rfl)
    (hks : (backToKw pos (keywordEach kws X.env)).filterMap (·.1) = ks := by rfl)
    (hdb : (x == ("__debug__" : Str)) = false := by decide)
    (hpl : ((backTo pos (starEach [] X.env)).any (·.1) || (backToKw pos (keywordEach kws X.env)).any (·.1.isNone)) = false := by rfl) :
    PE X (.Call (.Name x p) [] kws pos) (tCallK sp gV E tNil tk) := by
  constructor
  intro pins s σ H Q I h
  refine wpAny_Call_Name_kw (ld_glob I hg hm ?_ hdb)
  refine PySem.W.callWith_KW0 (h₀ := X.base) I.ok.mod.kin hk hall ?_ hpl
  refine thn (hkw.run pos pins s σ H _ I h) ?_
  intro ws s1 hh
  obtain ⟨zs, H1, I1, rz, q⟩ := hh
  refine ⟨I1.kIn, ?_⟩
  rw [hks]
  exact run_fnk (us := []) F hr hb hx I1 .nil rz q
end
end Ws

set_option Elab.async false
set_option linter.all false
set_option maxRecDepth 100000
set_option maxHeartbeats 4000000
namespace Ws
open PySem PySem.Spec PyProof.Rows L2
/-! ### what a caller has of a def -/
structure DefOk (P : Program) (w : World) (K : PySem.W.Frag) (mg : Str → Option Value) (base : Heap) (CX : CXT) (k : Nat)
    (x : Str) (f : Addr) (fd : FuncData) (ps : List Str) (sp : Sp) : Prop where
  ok : FnOk P w K mg base CX k f fd ps sp
  g : mg x = some (.ref f)
  kp : PySem.W.keepIn K (.ref f) = true
  b : Binds K fd ps []
structure DefG (P : Program) (w : World) (K : PySem.W.Frag) (mg : Str → Option Value) (base : Heap) (CX : CXT) (k : Nat)
    (x : Str) (f : Addr) (fd : FuncData) (ps : List Str) (sp : Sp) : Prop where
  ok : FnG P w K mg base CX k f fd ps sp
  g : mg x = some (.ref f)
  kp : PySem.W.keepIn K (.ref f) = true
  b : Binds K fd ps []
section
variable {X : Cx} {k j : Nat} {f : Addr} {fd : FuncData} {ps ks : List Str} {sp : Sp} {x : Str}
  {p pos : Pos} {e : Expr} {es : List Expr} {kws : List Keyword} {t tk : TA}
theorem pc (D : DefOk X.prog X.w X.K X.mg X.base CX0 k x f fd ps sp) (hr : Room j X.A) (ha : PA X (e :: es) t)
    (hkj : k ≤ j := by decide) (hg : Gl X x := by rfl) (hdb : (x == ("__debug__" : Str)) = false := by decide)
    (he : starEach (e :: es) X.env = (false, eval e X.env) :: starEach es X.env := by rfl)
    (hpl : (backTo pos (starEach es X.env)).any (·.1) = false := by rfl) :
    PE X (.Call (.Name x p) (e :: es) [] pos) (tCall sp [] E0 t) :=
  pe_call D.ok (hr.mono hkj) hg D.g D.kp D.b .nil pass0 ha hdb he hpl
theorem pg (D : DefG X.prog X.w X.K X.mg X.base CX0 k x f fd ps sp) (hr : Room j X.A) (gu : X.A.guards = some []) (ha : PA X (e :: es) t)
    (hkj : k ≤ j := by decide) (hg : Gl X x := by rfl) (hdb : (x == ("__debug__" : Str)) = false := by decide)
    (he : starEach (e :: es) X.env = (false, eval e X.env) :: starEach es X.env := by rfl)
    (hpl : (backTo pos (starEach es X.env)).any (·.1) = false := by rfl) :
    PE X (.Call (.Name x p) (e :: es) [] pos) (tCall sp [] E0 t) :=
  pe_callGd D.ok (hr.mono hkj) gu hg D.g D.kp D.b pass0 ha hdb he hpl
variable {g : List Value → List Value → List Value} {gV : List V → List V → List V}
theorem pckw (D : DefOk X.prog X.w X.K X.mg X.base CX0 k x f fd ps sp) (hr : Room j X.A) (hb : KBinds X.K fd ps ks g gV) (hkw : PK X kws tk)
    (hkj : k ≤ j := by decide) (hg : Gl X x := by rfl)
    (hall : (backToKw pos (keywordEach kws X.env)).all (·.1.isSome) = true := by rfl)
    (hks : (backToKw pos (keywordEach kws X.env)).filterMap (·.1) = ks := by rfl)
    (hdb : (x == ("__debug__" : Str)) = false := by decide)
    (hpl : ((backTo pos (starEach [] X.env)).any (·.1) || (backToKw pos (keywordEach kws X.env)).any (·.1.isNone)) = false := by rfl) :
    PE X (.Call (.Name x p) [] kws pos) (tCallK sp gV E0 tNil tk) :=
  pe_callKW D.ok (hr.mono hkj) hg D.g D.kp hb pass0 hkw hall hks hdb hpl
end
/-! ### repr of data -/
section
mutual
theorem Dp.plain {K : PySem.W.Frag} {H : Hp} : ∀ (d : PyData) (v : V), Dp K H v d → d.hasDict = false
  | .none, _, _ => by simp only [PyData.hasDict]
  | .bool _, _, _ => by simp only [PyData.hasDict]
  | .int _, _, _ => by simp only [PyData.hasDict]
  | .str _, _, _ => by simp only [PyData.hasDict]
  | .list ds, _, h => by
    cases h with
    | lst hs ha =>
      simp only [PyData.hasDict]
      exact DpAll.plain ds _ ha
  | .tuple ds, _, h => by
    cases h with
    | tup hs ha =>
      simp only [PyData.hasDict]
      exact DpAll.plain ds _ ha
  | .dict _, _, h => by cases h
theorem DpAll.plain {K : PySem.W.Frag} {H : Hp} : ∀ (ds : List PyData) (vs : List V), DpAll K H vs ds → PyData.hasDictAll ds = false
  | [], _, _ => by simp only [PyData.hasDictAll]
  | d :: ds, _, h => by
    cases h with
    | cons h1 h2 =>
      simp only [PyData.hasDictAll, Dp.plain d _ h1, DpAll.plain ds _ h2]
      rfl
end
variable {X : Cx}
/-- what may be printed -/
def Shw (d : PyData) : Prop := d.showable = true ∧ d.shown.length ≤ sizeLine ∧ d.depth ≤ 60
def rRepr (K : PySem.W.Frag) : List V → Hp → VK → Prop := fun xs H Q => ∃ x d, xs = [x] ∧ Dp K H x d ∧ Shw d ∧ Q (.str d.shown) H
theorem call_reprD (hg : X.A.guards = some []) (hu : X.A.units + 64 < cLine) : CallR X (.builtin "repr") (rRepr X.K) := by
  intro pins s σ H xs us Q I r h
  obtain ⟨x, d, rfl, hd, ⟨hs, hz, hp⟩, q⟩ := h
  obtain ⟨u, rfl, ru⟩ := vals1 r
  have nd : d.hasDict = false := Dp.plain d x hd
  cases d with
  | none =>
    cases hd
    cases ru
    rw [PyData.shown_none] at q
    exact PySem.P.repr_of_none ⟨.str _, H, I.tok _, ⟨_, rfl⟩, q⟩
  | bool b =>
    cases hd
    cases ru
    rw [PyData.shown_bool] at q
    refine PySem.P.repr_of_bool ⟨.str _, H, I.tok _, ⟨s.toks, ?_⟩, q⟩
    cases b <;> rfl
  | int i =>
    cases hd
    obtain ⟨t, rfl⟩ := ru
    rw [PyData.shown_int] at q
    have h1 : i.natAbs.log2 < 1920 := by simpa [PyData.showable] using hs
    exact PySem.P.repr_of_int h1 ⟨.str _, H, I.tok _, ⟨_, rfl⟩, q⟩
  | str y =>
    cases hd
    obtain ⟨t, rfl⟩ := ru
    rw [PyData.shown_str] at q hz
    exact PySem.P.repr_of_str ⟨.str _, H, I.tok _, ⟨_, rfl⟩, q⟩ hz
  | list ds =>
    obtain ⟨as, rd⟩ := Dp.reads I _ x u hd ru
    cases hd
    cases ru
    refine repr_of_reads' rd hs (fun z => by rw [nd] at z; cases z) hg (by omega) (fun _ _ z => z) (fun h' w' tk hk => ?_) hz
    exact ⟨.str _, H, I.kept hk, ⟨_, rfl⟩, q⟩
  | tuple ds =>
    obtain ⟨as, rd⟩ := Dp.reads I _ x u hd ru
    cases hd
    cases ru
    refine repr_of_reads' rd hs (fun z => by rw [nd] at z; cases z) hg (by omega) (fun _ _ z => z) (fun h' w' tk hk => ?_) hz
    exact ⟨.str _, H, I.kept hk, ⟨_, rfl⟩, q⟩
  | dict kvs => cases hd
end
/-! ### list(range(a, b, c)) -/
section
variable {X : Cx} {a b c : Expr} {ta : TA}
def rgC (i c : Int) (n : Nat) : List V := (List.range n).map fun m => V.int (i + (m : Nat) * c)
theorem rgC_len (i c : Int) (n : Nat) : (rgC i c n).length = n := by
  unfold rgC
  rw [List.length_map, List.length_range]
def tLstR3 (ta : TA) : TE := fun σ H Q => ta σ H fun vs H1 => ∃ (i j k : Int) (n : Nat), vs = [.int i, .int j, .int k] ∧ RgC i j k n ∧ n ≤ 100000 ∧
  ∀ q, H1 q = none → Q (.ref q) (upd H1 q (.lst (rgC i k n)))
theorem pe_listR3 {p1 p2 q1 q2 : Pos} (hc : X.calm = true) (hgl : Gl X "list") (hml : X.mg "list" = none) (hg : Gl X "range") (hm : X.mg "range" = none)
    (ha : PA X [a, b, c] ta) (hs : starEach [a, b, c] X.env = (false, eval a X.env) :: starEach [b, c] X.env := by rfl)
    (hpl : (backTo q2 (starEach [b, c] X.env)).any (·.1) = false := by rfl)
    (na : starEach [Expr.Call (.Name "range" q1) [a, b, c] [] q2] X.env = (false, eval (Expr.Call (.Name "range" q1) [a, b, c] [] q2) X.env) :: starEach [] X.env := by rfl) :
    PE X (.Call (.Name "list" p1) [.Call (.Name "range" q1) [a, b, c] [] q2] [] p2) (tLstR3 ta) := by
  constructor
  intro pins s σ H Q I h
  refine Call_ (ld_blt I hgl hml boot_list (PyProof.Rows.callWith_type1 (args_cons ?_ na) na))
  refine Call_ (ld_blt I hg hm boot_range (PyProof.Rows.callWith_type1 (thn (ha.run q2 pins s σ H _ I h) ?_) hs hpl))
  intro us s1 hh
  obtain ⟨vs, H1, I1, r1, i, j, m, n, e, ok, hn, q⟩ := hh
  subst e
  obtain ⟨u1, us1, rfl, t1, rfl, r2⟩ : ∃ u1 us1, us = u1 :: us1 ∧ ∃ t, u1 = Value.int i t ∧ Vals [.int j, .int m] us1 := by
    cases r1 with
    | cons r rr => exact ⟨_, _, rfl, r.choose, r.choose_spec, rr⟩
  obtain ⟨u2, u3, rfl, ⟨t2, rfl⟩, ⟨t3, rfl⟩⟩ := vals2 r2
  obtain ⟨c0, c1, c2, c3⟩ := ok
  refine call_range_3 c0 (args_nil ?_) (.inl (PyProof.noPylong_small c1))
  have I2 : Inv X pins σ H1 { s1 with heap := s1.heap.push { cls := .type "range", data := .fields #[.int i t1, .int j t2, .int m t3] } } :=
    I1.kept (t' := s1.toks) fun b o e => Heap.get?_push_of_some _ e
  refine call_list_range (n := n) (I2.ok.hd hc) (IsRange.new ..) c2 c3 (by omega) ?_
  intro h' tk acc c' hk e' hi
  have el : acc.toList.length = n := by
    rw [Array.length_toList]
    exact hi.1
  have hv : Vals (rgC i m n) acc.toList := by
    unfold rgC
    rw [← el]
    refine vals_of_get acc.toList _ ?_
    intro z u hz
    obtain ⟨t, rfl⟩ := hi.2 z u (by rw [← hz, Array.getElem?_toList])
    exact ⟨t, rfl⟩
  have ob : ∀ G : Hp, ObjOk X.prog X.w G h' _ (.lst (rgC i m n)) := fun G =>
    ⟨by rw [rgC_len, sizeLine_eq]; omega, acc.toList, c', hv, by rw [Array.toArray_toList]; exact e'⟩
  exact ⟨.ref _, _, I2.laid hk (Nat.le_refl _) (ob _), rfl, q _ (I2.hok.fresh (Nat.le_refl _))⟩
end
end Ws

set_option Elab.async false
set_option linter.all false
set_option maxRecDepth 100000
set_option maxHeartbeats 4000000
namespace Ws
open PySem PySem.Spec PyProof.Rows L2
section
variable {P : Program} {w : World} {K : PySem.W.Frag} {mg mb : Str → Option Value} {k : Nat} {fa a : Addr} {fd : FuncData} {x : Str} {sp : Sp}
  {s1 : Shared} {vs : List Value} {ns : List Int}
/-- the law's call, from a heap that tracks the script or nothing -/
theorem law_from (KX : K.In s1.heap) (hns : s1.heap.Ns mainGlobals mg) (hb : s1.heap.Ns builtinsNs mb)
    (hbb : ∀ x : Str, x ≠ "__name__" → mb x = bootBuiltins x) (lim : s1.heap.NoLimit) (hg : s1.gens = #[])
    (ha : s1.heap.get? a = some { cls := .type "list", data := .seq vs.toArray }) (hr : Room k callerA)
    (F : ∀ base : Heap, K.In base → base.Ns mainGlobals mg → FnG P w K mg base CX0 k fa fd [x] sp)
    (hbind : ∀ (s : Shared) (u : Value), BindsTo s fd ⟨[u], []⟩ [(x, u)])
    (H : Hp) (hO : Only H) (hQ : sp [.ref a] H (fun v _ => v = .bl true) (fun _ _ _ => False)) (hok : HOk P w H s1.heap)
    (hA : ∀ b, H b ≠ none → b = a) (hK : H a ≠ none → K.lookup a = none) :
    codeAny (model P w) callerA (.call (.ref fa) ⟨[.ref a], []⟩)
      (fun r s' => r = .ok (.ret (.bool true)) ∧ PySem.OldK s1.heap s'.heap ∧ s'.os = s1.os ∧ AllBare s'.gens) s1 := by
  have inB : ∀ {b : Addr} {o : Obj}, s1.heap.get? b = some o → H b = none → (hidT s1.heap H).get? b = some o :=
    fun q n => hidT_get q n
  -- a namespace is no list
  have dictOut : ∀ {b : Addr} {o : Obj} {es : Array DictEntry} {ep : Nat}, s1.heap.get? b = some o → o.data = .dict es ep → H b = none := by
    intro b o es ep q dd
    by_cases z : H b = none
    · exact z
    · have eb := hA b z
      subst eb
      rw [ha] at q
      cases q
      cases (show Data.seq vs.toArray _ = Data.dict es ep from dd)
  have nsB : ∀ {b : Addr} {m : Str → Option Value}, s1.heap.Ns b m → (hidT s1.heap H).Ns b m := by
    rintro b m ⟨o, es, ep, q, dd, r⟩
    exact ⟨o, es, ep, inB q (dictOut q dd), dd, r⟩
  have kB : K.In (hidT s1.heap H) := by
    intro b o q
    refine inB (KX b o q) ?_
    by_cases z : H b = none
    · exact z
    · have eb := hA b z
      subst eb
      rw [hK z] at q
      cases q
  have limB : (hidT s1.heap H).NoLimit := by
    obtain ⟨mc, h1, h2⟩ := lim
    exact ⟨mc, nsB h1, h2⟩
  have e0 : Env0 P w K mg (hidT s1.heap H) callerA [] s1 H := by
    refine ⟨rfl, ⟨kB, nsB hns, ⟨mb, nsB hb, hbb⟩, limB⟩, fun b o q => of_hidT q, Nat.le_of_eq (hidT_size _ _), trivial, ?_, hok, .of_eq hg⟩
    intro b q
    cases (show b ∈ ([] : List Addr) from q)
  have c := (F _ kB (nsB hns)).go callerA [] s1 H ⟨[.ref a], []⟩ [.ref a] [.ref a] _ _ hr rfl e0 (hbind s1 (.ref a)) (.cons rfl .nil) hQ
  refine codeAny_mono c ?_
  intro r s' h
  cases r with
  | error e => exact h.elim
  | ok fl =>
    cases fl with
    | next => exact h.elim
    | brk => exact h.elim
    | cont => exact h.elim
    | ret u =>
      obtain ⟨v, H', os, bare, un, hok', rv, q⟩ := h
      have qv : v = .bl true := q
      subst qv
      obtain rfl : u = Value.bool true := rv
      refine ⟨rfl, PySem.OldK.of_keep ?_, os, bare⟩
      intro b o q
      cases z : H b with
      | none =>
        refine un.keep b o q z ?_ ?_
        · intro y
          cases (show b ∈ ([] : List Addr) from y)
        · intro y
          cases y
      | some u =>
        cases hO b with
        | inl y => rw [z] at y; cases y
        | inr y =>
          obtain ⟨ob, xs, y⟩ := y
          have y2 := un.frzs b ob _ y
          have g1 : s1.heap.get? b = some ob := (hok b _ y).1
          have g2 : s'.heap.get? b = some ob := (hok' b _ y2).1
          rw [q] at g1
          cases g1
          exact g2
theorem law_to (KX : K.In s1.heap) (hns : s1.heap.Ns mainGlobals mg) (hb : s1.heap.Ns builtinsNs mb)
    (hbb : ∀ x : Str, x ≠ "__name__" → mb x = bootBuiltins x) (lim : s1.heap.NoLimit) (hg : s1.gens = #[])
    (ha : s1.heap.get? a = some { cls := .type "list", data := .seq vs.toArray }) (hi : IntsAre vs ns) (hl : ns.length ≤ sizeLine) (hr : Room k callerA)
    (F : ∀ base : Heap, K.In base → base.Ns mainGlobals mg → FnG P w K mg base CX0 k fa fd [x] sp)
    (hbind : ∀ (s : Shared) (u : Value), BindsTo s fd ⟨[u], []⟩ [(x, u)])
    (hsp : ∀ H : Hp, Only H → SqL K H a (ns.map V.int) → sp [.ref a] H (fun v _ => v = .bl true) (fun _ _ _ => False)) :
    codeAny (model P w) callerA (.call (.ref fa) ⟨[.ref a], []⟩)
      (fun r s' => r = .ok (.ret (.bool true)) ∧ PySem.OldK s1.heap s'.heap ∧ s'.os = s1.os ∧ AllBare s'.gens) s1 := by
  have rv : Vals (ns.map V.int) vs := vals_of_ints hi
  have n1 : vs.length = ns.length := hi.length
  cases hk : K.lookup a with
  | some o =>
    have q := KX a o hk
    rw [ha] at q
    cases q
    have sq : SqL K (fun _ => none) a (ns.map V.int) := by
      refine Or.inr ⟨_, vs.toArray, _, hk, rfl, rfl, rfl, ?_, ?_⟩
      · rw [List.size_toArray, n1]
        exact hl
      · simpa using rv
    refine law_from KX hns hb hbb lim hg ha hr F hbind (fun _ => none) (fun _ => .inl rfl) (hsp _ (fun _ => .inl rfl) sq) ?_ ?_ ?_
    · intro b u z
      cases (show (none : Option HO) = some u from z)
    · intro b z
      exact absurd rfl z
    · intro z
      exact absurd rfl z
  | none =>
    let o1 : Obj := { cls := .type "list", data := .seq vs.toArray }
    let H0 : Hp := fun b => if b = a then some (.frz o1 (.lst (ns.map V.int))) else none
    have at1 : H0 a = some (.frz o1 (.lst (ns.map V.int))) := if_pos rfl
    have out1 : ∀ b, b ≠ a → H0 b = none := fun b n => if_neg n
    have only : Only H0 := by
      intro b
      by_cases z : b = a
      · rw [z]
        exact .inr ⟨_, _, at1⟩
      · exact .inl (out1 b z)
    refine law_from KX hns hb hbb lim hg ha hr F hbind H0 only (hsp _ only (.inl (.inr ⟨o1, at1⟩))) ?_ ?_ (fun _ => hk)
    · intro b u z
      by_cases y : b = a
      · subst y
        rw [at1] at z
        cases z
        refine ⟨ha, ?_, vs, _, rv, ha⟩
        rw [List.length_map]
        exact hl
      · rw [out1 b y] at z
        cases z
    · intro b z
      by_cases y : b = a
      · exact y
      · exact absurd (out1 b y) z
end
/-- the goal that the head leaves, from the guarded promise of the law -/
theorem walkG {l : PySem.W.OpenLaw} {n k : Nat} {q : Program} {loose : List Str} {XP : (Str → Option Value) → Heap → Prop} {YP : World → Heap → Prop}
    {d : DefRec} {K : Params → PySem.W.Frag} {CX : World → CXT} {sp : World → Sp} {x : Str}
    (hn : l.most = some n) (hn2 : n ≤ sizeLine) (hdf : d.params.defaults = []) (hr : Room k callerA)
    (hY : ∀ (w : World) (h : Heap), YP w h → (K w.params).In h)
    (F : ∀ (w : World) (mg : Str → Option Value) (fa : Addr) (h : Heap), (K w.params).In h → h.Ns mainGlobals mg → mg d.name = some (.ref fa) →
      ∃ fd : FuncData, (∀ (s : Shared) (u : Value), BindsTo s fd ⟨[u], []⟩ [(x, u)]) ∧
        ∀ base : Heap, (K w.params).In base → base.Ns mainGlobals mg → FnG l.prog w (K w.params) mg base CX0 k fa fd [x] (sp w))
    (hsp : ∀ (w : World) (H : Hp) (a : Addr) (ns : List Int), ns.length ≤ n → Only H → SqL (K w.params) H a (ns.map V.int) →
      sp w [.ref a] H (fun v _ => v = .bl true) fun _ _ _ => False)
    (_hCX : ∀ (w : World) (H : Hp) (s : Shared) (e : Value) (s' : Shared), CX w [] H s (fun _ _ _ => False) e s' → CX w [] H s (fun _ _ _ => False) e s') :
    PySem.W.WalkO q loose XP YP l.row.toRowW d [] (fun f vs => PySem.call f vs) := by
  refine Att.attach_call hn hdf ?_
  intro w s0 s1 mg mb fa o pm cd doc a vs ns G Y ho hd hcd hmg hobj hints hlen hg
  have KX := hY w _ Y
  obtain ⟨fd, hb, hF⟩ := F w mg fa _ KX G.T.g hmg
  exact law_to KX G.T.g G.T.b G.T.builtins G.T.nolimit hg hobj hints (Nat.le_trans hlen hn2) hr hF hb (fun H hO hS => hsp w H a ns hlen hO hS)
end Ws

set_option Elab.async false
set_option linter.all false
set_option maxRecDepth 100000
set_option maxHeartbeats 4000000
namespace Ws
open PySem PySem.Spec PyProof.Rows L2
/-! ### heaps: all but one object that changes -/
def cut (J : Addr) (H : Hp) : Hp := fun b => if b = J then none else H b
theorem cut_at {J : Addr} {H : Hp} : cut J H J = none := if_pos rfl
theorem cut_ne {J b : Addr} {H : Hp} (h : b ≠ J) : cut J H b = H b := if_neg h
theorem cut_some {J b : Addr} {H : Hp} {o : HO} (h : cut J H b = some o) : b ≠ J ∧ H b = some o := by
  by_cases e : b = J
  · rw [e, cut_at] at h
    cases h
  · rw [cut_ne e] at h
    exact ⟨e, h⟩
theorem cut_sub {J : Addr} {H : Hp} : Same (cut J H) H := fun _ _ h => (cut_some h).2
theorem cut_mono {J : Addr} {H H' : Hp} (s : Same H H') : Same (cut J H) (cut J H') := fun b o h => by
  obtain ⟨n, e⟩ := cut_some h
  rw [cut_ne n]
  exact s b o e
/-- all but the object at J stands as it stood -/
def Fr (J : Addr) (H H' : Hp) : Prop := Same (cut J H) (cut J H')
theorem Fr.refl {J : Addr} {H : Hp} : Fr J H H := Same.refl _
theorem Fr.trans {J : Addr} {H H1 H2 : Hp} (a : Fr J H H1) (b : Fr J H1 H2) : Fr J H H2 := Same.trans a b
theorem Fr.of {J : Addr} {H H' : Hp} (s : Same H H') : Fr J H H' := cut_mono s
theorem Fr.put {J : Addr} {H H' : Hp} {o : HO} (s : Fr J H H') : Fr J H (upd H' J o) := fun b u h => by
  have h1 := s b u h
  obtain ⟨n, e⟩ := cut_some h1
  rw [cut_ne n, upd_ne n]
  exact e
theorem cut_none {J p : Addr} {H : Hp} (h : H p = none) : cut J H p = none := by
  unfold cut
  split
  · rfl
  · exact h
theorem Fr.free {J p : Addr} {H H' : Hp} (s : Fr J H H') (h : H' p = none) (n : p ≠ J) : H p = none := by
  cases z : H p with
  | none => rfl
  | some o =>
    have e := s p o (by rw [cut_ne n]; exact z)
    rw [cut_ne n, h] at e
    cases e
theorem Fr.mut {J p : Addr} {H H' : Hp} {o : HO} (s : Fr J H H') (h : H p = none) : Fr J H (upd H' p o) := fun b u e => by
  have e2 := s b u e
  have n : b ≠ p := ne_of_none e (cut_none h)
  have m := (cut_some e2).1
  rw [cut_ne m] at e2 ⊢
  rw [upd_ne n]
  exact e2
theorem Fr.get {J p : Addr} {H H' : Hp} {o : HO} (s : Fr J H H') (n : p ≠ J) (h : H p = some o) : H' p = some o := (cut_some (s p o (by rw [cut_ne n]; exact h))).2
theorem Same.new {H : Hp} {p : Addr} {o : HO} (h : H p = none) : Same H (upd H p o) := fun b u e => by
  rw [upd_ne (ne_of_none e h)]
  exact e
/-- an object that H does not know may change -/
theorem Same.mut {H H' : Hp} {p : Addr} {o : HO} (s : Same H H') (h : H p = none) : Same H (upd H' p o) := fun b u e => by
  rw [upd_ne (ne_of_none e h)]
  exact s b u e
theorem SqL.up {K : PySem.W.Frag} {J a : Addr} {H H' : Hp} {xs : List V} (s : Fr J H H') (h : SqL K (cut J H) a xs) : SqL K (cut J H') a xs := Same.seq s h
theorem SqL.in {K : PySem.W.Frag} {J a : Addr} {H : Hp} {xs : List V} (h : SqL K (cut J H) a xs) : SqL K H a xs := Same.seq cut_sub h
/-! ### the jar of drawn digits -/
/-- the jar at J: what is left of the cell, the mixing number, how often it was mixed (at most n times) -/
def Jar (H : Hp) (J : Addr) (n : Int) : Prop := ∃ a b c : Int, H J = some (.lst [.int a, .int b, .int c]) ∧ 0 ≤ a ∧ 0 ≤ b ∧ b < 2 ^ 300 ∧ 0 ≤ c ∧ c ≤ n
theorem Jar.mono {H : Hp} {J : Addr} {n m : Int} (h : Jar H J n) (l : n ≤ m) : Jar H J m := by
  obtain ⟨a, b, c, h1, h2, h3, h4, h5, h6⟩ := h
  exact ⟨a, b, c, h1, h2, h3, h4, h5, by omega⟩
theorem Jar.same {H H' : Hp} {J : Addr} {n : Int} (h : Jar H J n) (s : Same H H') : Jar H' J n := by
  obtain ⟨a, b, c, h1, h2⟩ := h
  exact ⟨a, b, c, s _ _ h1, h2⟩
theorem Jar.new {H : Hp} {J p : Addr} {n : Int} {o : HO} (h : Jar H J n) (hp : H p = none) : Jar (upd H p o) J n := h.same (Same.new hp)
theorem Jar.ex {H : Hp} {J p : Addr} {n : Int} {o : HO} (h : Jar H J n) (hp : p ≠ J) : Jar (upd H p o) J n := by
  obtain ⟨a, b, c, h1, h2⟩ := h
  exact ⟨a, b, c, by rw [upd_ne hp.symm]; exact h1, h2⟩
theorem Jar.out {H : Hp} {J p : Addr} {n : Int} (h : Jar H J n) (hp : H p = none) : p ≠ J := by
  obtain ⟨a, b, c, h1, _⟩ := h
  exact (ne_of_none h1 hp).symm
theorem at0 {α : Type} {a b c : α} : atI [a, b, c] 0 = some a := rfl
theorem at1 {α : Type} {a b c : α} : atI [a, b, c] 1 = some b := rfl
theorem at2 {α : Type} {a b c : α} : atI [a, b, c] 2 = some c := rfl
theorem lt_log {i : Int} {n : Nat} (hn : 0 < n) (h0 : 0 ≤ i) (h : i < 2 ^ n) : i.natAbs.log2 < n := by
  refine PySem.Flt.log2_lt_of hn ?_
  have e : ((2 ^ n : Nat) : Int) = (2 : Int) ^ n := by rw [Int.natCast_pow]; rfl
  omega
theorem powOk {i j : Int} {n : Nat} (h0 : 0 ≤ i) (h : i < 2 ^ n) (hn : 0 < n) (hb : n ≤ 2000000) (j0 : 0 ≤ j) (j1 : j ≤ 60) : PowOk i j := ⟨j0, j1, by
  have := lt_log hn h0 h
  omega⟩
theorem mulOk {i j : Int} {n m : Nat} (h0 : 0 ≤ i) (h : i < 2 ^ n) (hn : 0 < n) (j0 : 0 ≤ j) (hj : j < 2 ^ m) (hm : 0 < m) (hb : n + m ≤ 1000000) : CMulW i j := by
  have a := lt_log hn h0 h
  have b := lt_log hm j0 hj
  unfold CMulW
  omega
theorem divOk {i j : Int} {n : Nat} (h0 : 0 < j) (h : j < 2 ^ n) (hn : 0 < n) (hb : n ≤ 9000) : CDivW i j := ⟨h0, by
  have := lt_log hn (by omega) h
  omega⟩
/-- one digit -/
def spDip : Sp := fun vs H Q _ => ∃ (J : Addr) (m n : Int), vs = [.ref J, .int m] ∧ Jar H J n ∧ n ≤ 1000000000 ∧ 0 < m ∧ m < 2 ^ 8000 ∧
  ∀ H' d, Fr J H H' → Jar H' J (n + 1) → 0 ≤ d → d < m → Q (.int d) H'
end Ws

set_option Elab.async false
set_option linter.all false
set_option maxRecDepth 100000
set_option maxHeartbeats 4000000
namespace Ws
open PySem PySem.Spec PyProof.Rows L2
def spJar (K : PySem.W.Frag) : Sp := fun vs H Q _ => ∃ (a : Addr) (ns : List Int) (k : Int), vs = [.ref a, .int k] ∧ SqL K H a (ns.map V.int) ∧ 0 ≤ k ∧ k ≤ 1000 ∧
  ∀ H' p, Same H H' → H p = none → Jar H' p 0 → Q (.ref p) H'
/-! ### sums over a window -/
def wsums (ns : List Int) (k : Nat) : List Int := (List.range (ns.length + 1 - k)).map fun j => ((ns.drop j).take k).sum
theorem wsums_len (ns : List Int) (k : Nat) : (wsums ns k).length = ns.length + 1 - k := by
  unfold wsums
  rw [List.length_map, List.length_range]
theorem wsums_get {ns : List Int} {k j : Nat} (h : j < ns.length + 1 - k) : (wsums ns k)[j]? = some (((ns.drop j).take k).sum) := by
  unfold wsums
  rw [List.getElem?_map, List.getElem?_range h]
  rfl
theorem take_next {α : Type} {l : List α} {i : Nat} {x : α} (h : l[i]? = some x) : l.take (i + 1) = l.take i ++ [x] := by
  rw [List.take_add_one, h]
  rfl
theorem sum_snoc (l : List Int) (x : Int) : (l ++ [x]).sum = l.sum + x := by
  rw [List.sum_append_int]
  simp
theorem win_next {ns : List Int} {i t : Nat} {x : Int} (h : ns[i + t]? = some x) : ((ns.drop i).take (t + 1)).sum = ((ns.drop i).take t).sum + x := by
  have e : (ns.drop i)[t]? = some x := by
    rw [List.getElem?_drop]
    exact h
  rw [take_next e, sum_snoc]
theorem map_take_snoc {ns : List Int} {i : Nat} {x : Int} (h : ns[i]? = some x) : (ns.take (i + 1)).map V.int = (ns.take i).map V.int ++ [V.int x] := by
  rw [take_next h, List.map_append]
  rfl
theorem at_int {ns : List Int} {z : Int} {j : Nat} {x : Int} (e : z = (j : Int)) (h : ns[j]? = some x) : atI (ns.map V.int) z = some (.int x) := by
  refine at_of e ?_
  rw [List.getElem?_map, h]
  rfl
def spSums (K : PySem.W.Frag) : Sp := fun vs H Q _ => ∃ (a : Addr) (ns : List Int) (k : Int), vs = [.ref a, .int k] ∧ SqL K H a (ns.map V.int) ∧
  1 ≤ k ∧ k ≤ ns.length ∧ ns.length ≤ 1000 ∧
  ∀ H' p, Same H H' → H p = none → H' p = some (.lst ((wsums ns k.toNat).map V.int)) → Q (.ref p) H'
/-! ### drawn numbers -/
/-- all ints of a list within bounds -/
def Btw (lo hi : Int) (ns : List Int) : Prop := ∀ x ∈ ns, lo ≤ x ∧ x ≤ hi
theorem Btw.nil {lo hi : Int} : Btw lo hi [] := fun _ h => by cases h
theorem Btw.snoc {lo hi : Int} {ns : List Int} {x : Int} (h : Btw lo hi ns) (h0 : lo ≤ x) (h1 : x ≤ hi) : Btw lo hi (ns ++ [x]) := fun y hy => by
  rcases List.mem_append.mp hy with z | z
  · exact h y z
  · rw [List.mem_singleton.mp z]
    exact ⟨h0, h1⟩
def spDays : Sp := fun vs H Q _ => ∃ (J : Addr) (m t n : Int), vs = [.ref J, .int m, .int t] ∧ Jar H J n ∧ n ≤ 900000000 ∧ 0 ≤ m ∧ m ≤ 1000 ∧ 0 ≤ t ∧ t < 2 ^ 200 ∧
  ∀ H' p ns, Fr J H H' → Jar H' J (n + 2 * m + 1) → H p = none → H' p = some (.lst (ns.map V.int)) → ns.length = m.toNat → Btw 0 t ns → Q (.ref p) H'
def spTop : Sp := fun vs H Q _ => ∃ (J : Addr) (n : Int), vs = [.ref J] ∧ Jar H J n ∧ n ≤ 900000000 ∧
  ∀ H' t, Fr J H H' → Jar H' J (n + 2) → 0 ≤ t → t < 10 ^ 30 → Q (.int t) H'
def spHigh : Sp := fun vs H Q _ => ∃ (J : Addr) (q n : Int), vs = [.ref J, .int q] ∧ Jar H J n ∧ n ≤ 900000000 ∧ 1 ≤ q ∧ q ≤ 1000 ∧
  ∀ H' t, Fr J H H' → Jar H' J (n + 2) → 0 ≤ t → t < 10 ^ 30 → (t ≤ 10 ^ 6 ∨ t * q < 10 ^ 30) → Q (.int t) H'
def spSize : Sp := fun vs H Q _ => ∃ (J : Addr) (m n : Int), vs = [.ref J, .int m] ∧ Jar H J n ∧ n ≤ 900000000 ∧ 8 ≤ m ∧ m ≤ 1000 ∧
  ∀ H' p (k c : Int), Fr J H H' → Jar H' J (n + 2) → H p = none → H' p = some (.tup [.int k, .int c]) → 1 ≤ k → k ≤ 8 → k ≤ c → c ≤ m → Q (.ref p) H'
end Ws

set_option Elab.async false
set_option linter.all false
set_option maxRecDepth 100000
set_option maxHeartbeats 4000000
namespace Ws
open PySem PySem.Spec PyProof.Rows L2
/-! ### rules that speak of the written part by its own name -/
section
variable {X : Cx} {K : PySem.W.Frag}
theorem ixL (h : X.K = K := by rfl) : IxR X (rIxL K) := by
  subst h
  exact ix_list
theorem ixT (h : X.K = K := by rfl) : IxR X (rIxT K) := by
  subst h
  exact ix_tup
def rLen1 (K : PySem.W.Frag) : List V → Hp → VK → Prop := fun xs H Q => ∃ p ys, xs = [.ref p] ∧ SqL K H p ys ∧ Q (.int ys.length) H
theorem lenL (h : X.K = K := by rfl) : CallR X (.builtin "len") (rLen1 K) := by
  subst h
  intro pins s σ H xs us Q I r q
  obtain ⟨p, ys, e, h1, q⟩ := q
  exact call_len_seq pins s σ H xs us Q I r ⟨p, ys, e, .inl h1, q⟩
theorem sumL (hc : X.calm = true) (h : X.K = K := by rfl) : CallR X (.builtin "sum") (rSum K) := by
  subst h
  exact cr_sum hc
theorem allL (hc : X.calm = true) (h : X.K = K := by rfl) : CallR X (.builtin "all") (rAll K) := by
  subst h
  exact cr_all hc
theorem anyL (hc : X.calm = true) (h : X.K = K := by rfl) : CallR X (.builtin "any") (rAny K) := by
  subst h
  exact cr_any hc
theorem maxL (hc : X.calm = true) (h : X.K = K := by rfl) : CallR X (.builtin "max") (rMax K) := by
  subst h
  exact cr_max hc
theorem minL (hc : X.calm = true) (h : X.K = K := by rfl) : CallR X (.builtin "min") (rMin K) := by
  subst h
  exact cr_min hc
theorem sortL (h : X.K = K := by rfl) : CallR X (.builtin "sorted") (rSortedI K) := by
  subst h
  exact cr_sortedI
theorem reprL (hg : X.A.guards = some []) (hu : X.A.units + 64 < cLine) (h : X.K = K := by rfl) : CallR X (.builtin "repr") (rRepr K) := by
  subst h
  exact call_reprD hg hu
def rList1 (K : PySem.W.Frag) : List V → Hp → VK → Prop := fun xs H Q => ∃ p ys, xs = [.ref p] ∧ SqL K H p ys ∧ ∀ l, H l = none → Q (.ref l) (upd H l (.lst ys))
theorem listL (h : X.K = K := by rfl) : CallR X (.type "list") (rList1 K) := by
  subst h
  intro pins s σ H xs us Q I r q
  obtain ⟨p, ys, e, h1, q⟩ := q
  exact call_list_of pins s σ H xs us Q I r ⟨p, ys, e, .inl h1, q⟩
def rTup1 (K : PySem.W.Frag) : List V → Hp → VK → Prop := fun xs H Q => ∃ p ys, xs = [.ref p] ∧ SqL K H p ys ∧ ∀ l, H l = none → Q (.ref l) (upd H l (.tup ys))
theorem tupL (h : X.K = K := by rfl) : CallR X (.type "tuple") (rTup1 K) := by
  subst h
  intro pins s σ H xs us Q I r q
  obtain ⟨p, ys, e, h1, q⟩ := q
  exact call_tuple_of pins s σ H xs us Q I r ⟨p, ys, e, .inl ⟨h1, q⟩⟩
def rInt1 : List V → Hp → VK → Prop := fun xs H Q => ∃ i, xs = [.int i] ∧ Q (.int i) H
theorem intI : CallR X (.type "int") rInt1 := by
  intro pins s σ H xs us Q I r q
  exact call_int1 pins s σ H xs us Q I r (.inl q)
def rIntB : List V → Hp → VK → Prop := fun xs H Q => ∃ k, xs = [.bl k] ∧ Q (.int (if k then 1 else 0)) H
theorem intB : CallR X (.type "int") rIntB := by
  intro pins s σ H xs us Q I r q
  exact call_int1 pins s σ H xs us Q I r (.inr q)
theorem typL (h : X.K = K := by rfl) : CallR X (.type "type") (rTyp K) := by
  subst h
  exact call_type1
theorem isiL (h : X.K = K := by rfl) : CallR X (.builtin "isinstance") (rIsi K) := by
  subst h
  exact call_isi
theorem slL (h : X.K = K := by rfl) : SlR X (rSlL K) := by
  subst h
  exact sl_list
theorem slT (h : X.K = K := by rfl) : SlR X (rSlT K) := by
  subst h
  exact sl_tup
theorem eqL (hu : X.A.units + 64 < cLine) (h : X.K = K := by rfl) : OpR X (compareOp .Eq) (rEqD K) := by
  subst h
  exact op_eqD hu
theorem neL (hu : X.A.units + 64 < cLine) (h : X.K = K := by rfl) : OpR X (compareOp .NotEq) (rNeD K) := by
  subst h
  exact op_neD hu
theorem inL (h : X.K = K := by rfl) : OpR X (compareOp .In) (rIn K false) := by
  subst h
  exact op_in_seq
theorem niL (h : X.K = K := by rfl) : OpR X (compareOp .NotIn) (rIn K true) := by
  subst h
  exact op_notIn_seq
theorem piL {tg l : Expr} {tl : TE} (hl : PE X l tl) (h : X.K = K := by rfl) : PI X tg l (iList K tl) := by
  subst h
  exact pi_list hl
theorem piT {tg l : Expr} {tl : TE} (hl : PE X l tl) (h : X.K = K := by rfl) : PI X tg l (iTup K tl) := by
  subst h
  exact pi_tup hl
theorem pgT {es : List Expr} {k : Nat} {t : TGs} {n : Nat} {pos : Pos} (hc : X.calm = true) (ht : PGs X es t) (h : X.K = K := by rfl)
    (hn : (assignEach es X.env).length = n := by rfl) (hst : (assignEach es X.env).findIdx? (·.1) = none := by rfl) : PG X (.Tuple es k pos) (gTup K n t) := by
  subst h
  exact pg_tup hc ht hn hst
theorem bmK {e : Expr} {ty : String} {r : V → List V → Hp → VK → Prop} {to : TE} {ta : TA} (b : PE X e (tBM X.K ty r to ta)) (h : X.K = K := by rfl) : PE X e (tBM K ty r to ta) := by
  subst h
  exact b
theorem bm0K {e : Expr} {ty : String} {r : V → List V → Hp → VK → Prop} {to : TE} (b : PE X e (tBM0 X.K ty r to)) (h : X.K = K := by rfl) : PE X e (tBM0 K ty r to) := by
  subst h
  exact b
end
end Ws

set_option Elab.async false
set_option linter.all false
set_option maxRecDepth 100000
set_option maxHeartbeats 4000000
namespace Ws
open PySem PySem.Spec PyProof.Rows L2
/-! ### whether a thing is an integer -/
def whole : V → Bool
  | .int _ => true
  | _ => false
/-- the type of x answers so -/
def Ti (K : PySem.W.Frag) (H : Hp) (x : V) (b : Bool) : Prop := ∃ (t : Value) (c d : Bool), TyX K H x t ∧ PySem.W.kitOne K t (.type "int") = some c ∧
  (c = true → PySem.W.kitOne K t (.type "bool") = some d) ∧ b = (c && !d)
theorem Ti.int {K : PySem.W.Frag} {H : Hp} (i : Int) : Ti K H (.int i) true :=
  ⟨_, true, false, .base (.int i), kit_ty (by decide +kernel), fun _ => kit_ty (by decide +kernel), rfl⟩
theorem Ti.bl {K : PySem.W.Frag} {H : Hp} (i : Bool) : Ti K H (.bl i) false :=
  ⟨_, true, true, .base (.bl i), kit_ty (by decide +kernel), fun _ => kit_ty (by decide +kernel), rfl⟩
theorem Ti.no {K : PySem.W.Frag} {H : Hp} {x : V} {t : Value} (h : TyX K H x t) (e : PySem.W.kitOne K t (.type "int") = some false) : Ti K H x false :=
  ⟨t, false, false, h, e, (fun z => by cases z), rfl⟩
theorem Ti.non {K : PySem.W.Frag} {H : Hp} : Ti K H .non false := Ti.no (.base .non) (kit_ty (by decide +kernel))
theorem Ti.str {K : PySem.W.Frag} {H : Hp} (x : Str) : Ti K H (.str x) false := Ti.no (.base (.str x)) (kit_ty (by decide +kernel))
def spIsInt (K : PySem.W.Frag) : Sp := fun vs H Q _ => ∃ (x : V) (b : Bool), vs = [x] ∧ Ti K H x b ∧ Q (.bl b) H
def spWithin (K : PySem.W.Frag) : Sp := fun vs H Q _ => (∃ i lo hi : Int, vs = [.int i, .int lo, .int hi] ∧ Q (.bl (decide (lo ≤ i) && decide (i ≤ hi))) H) ∨
  ∃ (x : V) (lo hi : Int), vs = [x, .int lo, .int hi] ∧ Ti K H x false ∧ Q (.bl false) H
/-- a list of which each item is known to be an integer or not; else another thing -/
def spIsRow (K : PySem.W.Frag) : Sp := fun vs H Q _ => (∃ (a : Addr) (xs : List V), vs = [.ref a] ∧ SqL K H a xs ∧ xs.length ≤ 1000 ∧ (∀ x ∈ xs, ∀ H', Same H H' → Ti K H' x (whole x)) ∧
    ∀ H', Same H H' → Q (.bl (decide (1 ≤ xs.length) && decide (xs.length ≤ 67) && xs.all whole)) H') ∨
  ∃ (x : V) (t : String), vs = [x] ∧ TyB K H x t ∧ t ≠ "list" ∧ Q (.bl false) H
theorem all_int (ns : List Int) : (ns.map V.int).all whole = true := by
  rw [List.all_eq_true]
  intro x hx
  obtain ⟨i, _, rfl⟩ := List.mem_map.mp hx
  rfl
theorem ti_ints {K : PySem.W.Frag} {H : Hp} {ns : List Int} : ∀ x ∈ ns.map V.int, ∀ H', Same H H' → Ti K H' x (whole x) := by
  intro x hx H' _
  obtain ⟨i, _, rfl⟩ := List.mem_map.mp hx
  exact Ti.int i
/-! ### valid arguments alone -/
def spNumsOk (K : PySem.W.Frag) : Sp := fun vs H Q _ => ∃ (a : Addr) (ns : List Int) (k : Int), vs = [.ref a, .int k] ∧ SqL K H a (ns.map V.int) ∧
  1 ≤ k ∧ k ≤ 8 ∧ k ≤ ns.length ∧ ns.length ≤ 67 ∧ ∀ H', Same H H' → Q .non H'
def spSumsOk (K : PySem.W.Frag) : Sp := fun vs H Q _ => ∃ (a : Addr) (ss : List Int) (k : Int), vs = [.ref a, .int k] ∧ SqL K H a (ss.map V.int) ∧
  1 ≤ ss.length ∧ 1 ≤ k ∧ k ≤ 8 ∧ k + ss.length ≤ 68 ∧ ∀ H', Same H H' → Q .non H'
def spDayOk : Sp := fun vs H Q _ => ∃ d n : Int, vs = [.int d, .int n] ∧ 0 ≤ d ∧ d < n ∧ Q .non H
def spSumsOf (K : PySem.W.Frag) : Sp := fun vs H Q _ => ∃ (a : Addr) (ns : List Int) (k : Int), vs = [.ref a, .int k] ∧ SqL K H a (ns.map V.int) ∧
  1 ≤ k ∧ k ≤ 8 ∧ k ≤ ns.length ∧ ns.length ≤ 67 ∧
  ∀ H' p, Same H H' → H p = none → H' p = some (.lst ((wsums ns k.toNat).map V.int)) → Q (.ref p) H'
def spRowSums (K : PySem.W.Frag) : Sp := fun vs H Q _ => ∃ (a : Addr) (ns : List Int) (k : Int), vs = [.ref a, .int k] ∧ SqL K H a (ns.map V.int) ∧
  1 ≤ k ∧ k ≤ 8 ∧ k ≤ ns.length ∧ ns.length ≤ 1000 ∧
  ∀ H' p, Same H H' → H p = none → H' p = some (.lst ((wsums ns k.toNat).map V.int)) → Q (.ref p) H'
def spDaysOf (K : PySem.W.Frag) : Sp := fun vs H Q _ => ∃ (a : Addr) (ss : List Int) (k : Int), vs = [.ref a, .int k] ∧ SqL K H a (ss.map V.int) ∧
  1 ≤ ss.length ∧ 1 ≤ k ∧ k ≤ 8 ∧ k + ss.length ≤ 68 ∧ ∀ H', Same H H' → Q (.int (ss.length + k - 1)) H'
/-- the days of one remainder below n -/
def tied (r k n : Int) : List Int := (List.range ((n - r - 1) / k + 1).toNat).map fun m => r + (m : Nat) * k
def spTied (K : PySem.W.Frag) : Sp := fun vs H Q _ => ∃ (a : Addr) (ss : List Int) (k d : Int), vs = [.ref a, .int k, .int d] ∧ SqL K H a (ss.map V.int) ∧
  1 ≤ ss.length ∧ 1 ≤ k ∧ k ≤ 8 ∧ k + ss.length ≤ 68 ∧ 0 ≤ d ∧ d < ss.length + k - 1 ∧
  ∀ H' p, Same H H' → H p = none → H' p = some (.lst ((tied (d % k) k (ss.length + k - 1)).map V.int)) → Q (.ref p) H'
theorem cut_window (ns : List Int) (i k : Nat) : cutV (ns.map V.int) (some (i : Int)) (some ((i + k : Nat) : Int)) = ((ns.drop i).take k).map V.int := by
  unfold cutV
  rw [HT.sIx_nat, HT.sIx_nat, List.length_map, List.map_take, List.map_drop]
  by_cases h : i ≤ ns.length
  · rw [Nat.min_eq_left h]
    by_cases h2 : i + k ≤ ns.length
    · rw [Nat.min_eq_left h2]
      congr 1
      omega
    · rw [Nat.min_eq_right (by omega)]
      rw [List.take_of_length_le (i := ns.length - i), List.take_of_length_le (i := k)]
      · rw [List.length_drop, List.length_map]; omega
      · rw [List.length_drop, List.length_map]; omega
  · have e1 : min i ns.length = ns.length := by omega
    have e2 : min (i + k) ns.length = ns.length := by omega
    rw [e1, e2, Nat.sub_self, List.drop_of_length_le (i := i) (by rw [List.length_map]; omega)]
    simp
theorem rg_tied {r k n : Int} (h0 : 0 ≤ r) (hr : r < n) (hn : n ≤ 1000) (hk : 1 ≤ k) (hk8 : k ≤ 8) : RgC r n k ((n - r - 1) / k + 1).toNat := by
  have e : (0 : Int) ≤ (n - r - 1) / k := Int.ediv_nonneg (by omega) (by omega)
  refine ⟨by omega, by omega, ?_, ?_⟩
  · have hb : (n - r - 1) / k ≤ n - r - 1 := Int.ediv_le_self k (by omega)
    have h1 : (n - r - 1) / k * k ≤ n - r - 1 := Int.ediv_mul_le _ (by omega)
    have fit : ∀ x : Int, -100000 ≤ x → x ≤ 100000 → Builtin.Range.rangeFitsLong x = true := fun x a b => by
      unfold Builtin.Range.rangeFitsLong
      simp only [Bool.and_eq_true, decide_eq_true_eq]
      omega
    unfold Builtin.Range.small
    have es : Builtin.Range.rangeSize r n k = (n - r - 1) / k + 1 := by
      unfold Builtin.Range.rangeSize
      rw [if_pos (by omega), if_pos hr]
    rw [es, fit r (by omega) (by omega), fit n (by omega) (by omega), fit k (by omega) (by omega), fit _ (by omega) (by omega), if_pos (show k > 0 by omega), fit _ (by omega) (by omega)]
    simp
  · unfold Builtin.Range.rangeSize
    rw [if_pos (by omega), if_pos hr]
    omega
theorem rgC_tied (r k n : Int) : rgC r k ((n - r - 1) / k + 1).toNat = (tied r k n).map V.int := by
  unfold rgC tied
  rw [List.map_map]
  rfl
end Ws

set_option Elab.async false
set_option linter.all false
set_option maxRecDepth 100000
set_option maxHeartbeats 4000000
namespace Ws
open PySem PySem.Spec PyProof.Rows L2
/-! ### data that stand in a heap -/
mutual
theorem Dp.up {K : PySem.W.Frag} {H H' : Hp} (s : Same H H') : ∀ (d : PyData) (v : V), Dp K H v d → Dp K H' v d
  | .none, _, h => by cases h; exact .non
  | .bool _, _, h => by cases h; exact .bl _
  | .int _, _, h => by cases h; exact .int _
  | .str _, _, h => by cases h; exact .str _
  | .list ds, _, h => by
    cases h with
    | lst hs ha => exact .lst (Same.seq s hs) (DpAll.up s ds _ ha)
  | .tuple ds, _, h => by
    cases h with
    | tup hs ha => exact .tup (Evl.ex_t s hs) (DpAll.up s ds _ ha)
  | .dict _, _, h => by cases h
theorem DpAll.up {K : PySem.W.Frag} {H H' : Hp} (s : Same H H') : ∀ (ds : List PyData) (vs : List V), DpAll K H vs ds → DpAll K H' vs ds
  | [], _, h => by cases h; exact .nil
  | d :: ds, _, h => by
    cases h with
    | cons h1 h2 => exact .cons (Dp.up s d _ h1) (DpAll.up s ds _ h2)
end
theorem DpAll.ints {K : PySem.W.Frag} {H : Hp} : ∀ ns : List Int, DpAll K H (ns.map V.int) (ns.map PyData.int)
  | [] => .nil
  | n :: r => .cons (.int n) (DpAll.ints r)
theorem DpAll.strs {K : PySem.W.Frag} {H : Hp} : ∀ ns : List Str, DpAll K H (ns.map V.str) (ns.map PyData.str)
  | [] => .nil
  | n :: r => .cons (.str n) (DpAll.strs r)
abbrev dI (ns : List Int) : PyData := .list (ns.map PyData.int)
theorem Dp.ints {K : PySem.W.Frag} {H : Hp} {a : Addr} {ns : List Int} (h : SqL K H a (ns.map V.int)) : Dp K H (.ref a) (dI ns) := .lst h (DpAll.ints ns)
/-! ### how long a text of data is -/
mutual
def cst : PyData → Nat
  | .none => 8
  | .bool _ => 8
  | .int i => i.natAbs.log2 + 3
  | .str x => (reprText x).length
  | .list xs => cstA xs + 4
  | .tuple xs => cstA xs + 4
  | .dict _ => 0
def cstA : List PyData → Nat
  | [] => 0
  | x :: xs => cst x + 2 + cstA xs
end
theorem str_len_of (s : String) (h : s.length ≤ 8) : (Str.ofString s).length ≤ 8 := by
  rw [PySem.ofString_length]
  exact h
mutual
theorem shown_cst : ∀ d : PyData, d.hasDict = false → d.shown.length ≤ cst d
  | .none, _ => by
    rw [PyData.shown_none]
    show _ ≤ 8
    decide +kernel
  | .bool b, _ => by
    rw [PyData.shown_bool]
    show _ ≤ 8
    cases b <;> decide +kernel
  | .int i, _ => by
    rw [PyData.shown_int]
    show (Str.ofString (toString i)).length ≤ i.natAbs.log2 + 3
    rw [PySem.ofString_length]
    have := int_text_length_le (a := i) (k := i.natAbs.log2 + 1) (by omega) (by omega)
    omega
  | .str x, _ => by
    rw [PyData.shown_str]
    exact Nat.le_refl _
  | .list xs, h => by
    have h1 : PyData.hasDictAll xs = false := by simpa only [PyData.hasDict] using h
    have h2 := shownAll_cst xs h1
    have h3 := listText_len_le (PyData.shownAll xs)
    rw [PyData.shown_list, ← listText_eq_join]
    rw [PyData.shownAll_length] at h3
    show _ ≤ cstA xs + 4
    omega
  | .tuple xs, h => by
    have h1 : PyData.hasDictAll xs = false := by simpa only [PyData.hasDict] using h
    have h2 := shownAll_cst xs h1
    have h3 := tupleText_len_le (PyData.shownAll xs)
    have e : (PyData.tuple xs).shown = tupleText (PyData.shownAll xs) := by simp only [PyData.shown]
    rw [e]
    rw [PyData.shownAll_length] at h3
    show _ ≤ cstA xs + 4
    omega
  | .dict _, h => by simp [PyData.hasDict] at h
theorem shownAll_cst : ∀ xs : List PyData, PyData.hasDictAll xs = false → ((PyData.shownAll xs).map (·.length)).sum + 2 * xs.length ≤ cstA xs
  | [], _ => by
    rw [PyData.shownAll_nil]
    exact Nat.le_refl _
  | x :: xs, h => by
    have h1 : PyData.hasDict x = false ∧ PyData.hasDictAll xs = false := by simpa only [PyData.hasDictAll, Bool.or_eq_false_iff] using h
    have a := shown_cst x h1.1
    have b := shownAll_cst xs h1.2
    rw [PyData.shownAll_cons, List.map_cons, List.sum_cons, List.length_cons]
    show _ ≤ cst x + 2 + cstA xs
    omega
end
theorem shw_of {d : PyData} (h1 : d.showable = true) (h2 : d.hasDict = false) (h3 : cst d ≤ 10000000) (h4 : d.depth ≤ 60) : Shw d :=
  ⟨h1, Nat.le_trans (shown_cst d h2) (Nat.le_trans h3 (by rw [sizeLine_eq]; decide)), h4⟩
theorem hasDict_ints : ∀ ns : List Int, PyData.hasDictAll (ns.map PyData.int) = false
  | [] => by simp only [List.map_nil, PyData.hasDictAll]
  | n :: r => by
    rw [List.map_cons]
    simp only [PyData.hasDictAll, PyData.hasDict, hasDict_ints r]
    rfl
theorem depth_ints : ∀ ns : List Int, PyData.depthAll (ns.map PyData.int) = 0
  | [] => by simp only [List.map_nil, PyData.depthAll]
  | n :: r => by
    rw [List.map_cons]
    simp only [PyData.depthAll, PyData.depth, depth_ints r]
    rfl
theorem cst_ints {B : Nat} : ∀ ns : List Int, (∀ n ∈ ns, n.natAbs.log2 < B) → cstA (ns.map PyData.int) ≤ ns.length * (B + 5)
  | [], _ => Nat.zero_le _
  | n :: r, h => by
    have a := cst_ints r fun m hm => h m (List.mem_cons_of_mem _ hm)
    have b := h n List.mem_cons_self
    rw [List.map_cons, List.length_cons, Nat.add_mul, Nat.one_mul]
    show n.natAbs.log2 + 3 + 2 + cstA (r.map PyData.int) ≤ _
    omega
/-- all ints of a list below 2 ^ 1000 in size -/
def Sml (ns : List Int) : Prop := ∀ n ∈ ns, n.natAbs.log2 < 1000
theorem shw_ints {ns : List Int} (h : Sml ns) (hl : ns.length ≤ 1000) : Shw (dI ns) := by
  refine shw_of ?_ ?_ ?_ ?_
  · simp only [PyData.showable]
    exact PyData.showableAll_ints ns fun n hn => Nat.lt_trans (h n hn) (by decide)
  · simp only [PyData.hasDict]
    exact hasDict_ints ns
  · have := cst_ints ns h
    have e : ns.length * (1000 + 5) ≤ 1000 * 1005 := Nat.mul_le_mul hl (Nat.le_refl _)
    show cstA (ns.map PyData.int) + 4 ≤ _
    omega
  · show PyData.depthAll (ns.map PyData.int) + 1 ≤ 60
    rw [depth_ints]
    decide
theorem shw_int {n : Int} (h : n.natAbs.log2 < 1000) : Shw (.int n) := by
  refine shw_of ?_ rfl ?_ (by show 0 ≤ 60; decide)
  · simp only [PyData.showable]
    exact decide_eq_true (Nat.lt_trans h (by decide))
  · show n.natAbs.log2 + 3 ≤ _
    omega
theorem log_of {n : Int} {B : Nat} (hB : 0 < B) (h0 : -(2 ^ B) < n) (h1 : n < 2 ^ B) : n.natAbs.log2 < B := by
  refine PySem.Flt.log2_lt_of hB ?_
  have e : ((2 ^ B : Nat) : Int) = (2 : Int) ^ B := by rw [Int.natCast_pow]; rfl
  omega
theorem Sml.btw {lo hi : Int} {ns : List Int} (h : Btw lo hi ns) (h0 : -(2 ^ 1000) < lo) (h1 : hi < 2 ^ 1000) : Sml ns := fun n hn => by
  have := h n hn
  exact log_of (by decide) (by omega) (by omega)
/-! ### lists of ints compared -/
theorem eqvAll_ints : ∀ ns ms : List Int, PyData.eqvAll (ns.map PyData.int) (ms.map PyData.int) = decide (ns = ms)
  | [], [] => by simp [PyData.eqvAll]
  | [], m :: s => by simp [PyData.eqvAll]
  | n :: r, [] => by simp [PyData.eqvAll]
  | n :: r, m :: s => by
    rw [List.map_cons, List.map_cons, PyData.eqvAll, PyData.eqv, eqvAll_ints r s]
    rw [Bool.eq_iff_iff]
    simp
theorem eqv_ints (ns ms : List Int) : PyData.eqv (dI ns) (dI ms) = decide (ns = ms) := by
  rw [dI, dI, PyData.eqv, eqvAll_ints]
theorem shaped_ints (ns : List Int) : SeqAt.shaped (dI ns) = true := by
  unfold SeqAt.shaped
  have h1 : PyData.canLayAll0 (ns.map PyData.int) = true := by
    induction ns with
    | nil => simp [PyData.canLayAll0]
    | cons n r ih =>
      rw [List.map_cons]
      simp [PyData.canLayAll0, PyData.canLay0, ih]
  have h2 : (dI ns).depth = 1 := by
    show PyData.depthAll (ns.map PyData.int) + 1 = 1
    rw [depth_ints]
  have h3 : (dI ns).canLay0 = true := by simpa only [PyData.canLay0] using h1
  rw [h3, h2]
  rfl
end Ws

set_option Elab.async false
set_option linter.all false
set_option maxRecDepth 100000
set_option maxHeartbeats 4000000
namespace Ws
open PySem PySem.Spec PyProof.Rows L2
/-! ### mathematics of classes -/
theorem emod_le_self {d k : Int} (h : 0 ≤ d) (hk : 0 < k) : d % k ≤ d := by
  have h1 := Int.mul_ediv_add_emod d k
  have h2 : 0 ≤ k * (d / k) := Int.mul_nonneg (by omega) (Int.ediv_nonneg h (by omega))
  omega
theorem asc_ext : ∀ {xs ys : List Int}, xs.Pairwise (· < ·) → ys.Pairwise (· < ·) → (∀ z, z ∈ xs ↔ z ∈ ys) → xs = ys
  | [], [], _, _, _ => rfl
  | [], y :: s, _, _, h => by
    have := (h y).mpr List.mem_cons_self
    cases this
  | x :: r, [], _, _, h => by
    have := (h x).mp List.mem_cons_self
    cases this
  | x :: r, y :: s, hx, hy, h => by
    have hx1 := List.pairwise_cons.mp hx
    have hy1 := List.pairwise_cons.mp hy
    have e : x = y := by
      have a := (h x).mp List.mem_cons_self
      have b := (h y).mpr List.mem_cons_self
      rcases List.mem_cons.mp a with a | a
      · exact a
      · rcases List.mem_cons.mp b with b | b
        · exact b.symm
        · have := hx1.1 y b
          have := hy1.1 x a
          omega
    subst e
    have : r = s := by
      refine asc_ext hx1.2 hy1.2 fun z => ⟨fun a => ?_, fun a => ?_⟩
      · rcases List.mem_cons.mp ((h z).mp (List.mem_cons_of_mem _ a)) with b | b
        · have := hx1.1 z a
          omega
        · exact b
      · rcases List.mem_cons.mp ((h z).mpr (List.mem_cons_of_mem _ a)) with b | b
        · have := hy1.1 z a
          omega
        · exact b
    rw [this]
theorem pw_range_map {n : Nat} {f : Nat → Int} (h : ∀ i j, i < j → f i < f j) : ((List.range n).map f).Pairwise (· < ·) := by
  rw [List.pairwise_map]
  exact List.Pairwise.imp (fun q => h _ _ q) List.pairwise_lt_range
theorem tied_asc {r k n : Int} (hk : 1 ≤ k) : (tied r k n).Pairwise (· < ·) := by
  refine pw_range_map fun i j h => ?_
  have : ((i : Int) + 1) * k ≤ j * k := Int.mul_le_mul_of_nonneg_right (by omega) (by omega)
  rw [Int.add_mul] at this
  omega
theorem mem_tied {r k n z : Int} (h0 : 0 ≤ r) (hr : r < k) (hk : 1 ≤ k) (hn : r < n) : z ∈ tied r k n ↔ 0 ≤ z ∧ z < n ∧ z % k = r := by
  unfold tied
  rw [List.mem_map]
  have hd : (0 : Int) ≤ (n - r - 1) / k := Int.ediv_nonneg (by omega) (by omega)
  constructor
  · rintro ⟨m, hm, rfl⟩
    have hm2 := List.mem_range.mp hm
    have h1 : (m : Int) ≤ (n - r - 1) / k := by omega
    have h2 : (m : Int) * k ≤ (n - r - 1) / k * k := Int.mul_le_mul_of_nonneg_right h1 (by omega)
    have h3 : (n - r - 1) / k * k ≤ n - r - 1 := Int.ediv_mul_le _ (by omega)
    have h4 : 0 ≤ (m : Int) * k := Int.mul_nonneg (by omega) (by omega)
    refine ⟨by omega, by omega, ?_⟩
    rw [Int.add_mul_emod_self_right, Int.emod_eq_of_lt h0 hr]
  · rintro ⟨z0, zn, zr⟩
    have h1 := Int.mul_ediv_add_emod z k
    have h2 : 0 ≤ z / k := Int.ediv_nonneg z0 (by omega)
    refine ⟨(z / k).toNat, List.mem_range.mpr ?_, ?_⟩
    · have h3 : z / k * k ≤ n - r - 1 := by
        rw [Int.mul_comm]
        omega
      have h4 : z / k ≤ (n - r - 1) / k := (Int.le_ediv_iff_mul_le (by omega)).mpr h3
      omega
    · have h5 : ((z / k).toNat : Int) = z / k := by omega
      rw [h5, Int.mul_comm]
      omega
/-- the list of all days below n that a test takes -/
def picked (n : Nat) (p : Int → Bool) : List Int := ((List.range n).map fun (m : Nat) => (m : Int)).filter p
theorem picked_asc (n : Nat) (p : Int → Bool) : (picked n p).Pairwise (· < ·) := by
  unfold picked
  exact List.Pairwise.filter _ (pw_range_map (f := fun m => (m : Int)) fun i j h => Int.ofNat_lt.mpr h)
theorem mem_picked {n : Nat} {p : Int → Bool} {z : Int} : z ∈ picked n p ↔ 0 ≤ z ∧ z < n ∧ p z = true := by
  unfold picked
  rw [List.mem_filter, List.mem_map]
  constructor
  · rintro ⟨⟨m, hm, rfl⟩, h⟩
    have := List.mem_range.mp hm
    exact ⟨by omega, by omega, h⟩
  · rintro ⟨h0, h1, h2⟩
    exact ⟨⟨z.toNat, List.mem_range.mpr (by omega), by omega⟩, h2⟩
theorem picked_yes {i : Nat} {p : Int → Bool} (h : p (i : Int) = true) : picked (i + 1) p = picked i p ++ [(i : Int)] := by
  unfold picked
  rw [List.range_succ, List.map_append, List.filter_append]
  simp [h]
theorem picked_no {i : Nat} {p : Int → Bool} (h : p (i : Int) = false) : picked (i + 1) p = picked i p := by
  unfold picked
  rw [List.range_succ, List.map_append, List.filter_append]
  simp [h]
theorem picked_len (n : Nat) (p : Int → Bool) : (picked n p).length ≤ n := by
  unfold picked
  refine Nat.le_trans (List.length_filter_le _ _) ?_
  rw [List.length_map, List.length_range]
  exact Nat.le_refl _
theorem picked_tied {d k : Int} {n : Nat} (hk : 1 ≤ k) (d0 : 0 ≤ d) (dn : d < n) : picked n (fun m => decide ((m - d) % k = 0)) = tied (d % k) k n := by
  have r0 : 0 ≤ d % k := Int.emod_nonneg _ (by omega)
  have r1 : d % k < k := Int.emod_lt_of_pos _ (by omega)
  have r2 : d % k ≤ d := emod_le_self d0 (by omega)
  refine asc_ext (picked_asc _ _) (tied_asc hk) fun z => ?_
  rw [mem_picked, mem_tied r0 r1 hk (by omega), decide_eq_true_iff]
  refine and_congr_right fun _ => and_congr_right fun _ => ?_
  rw [← Int.emod_eq_emod_iff_emod_sub_eq_zero]
theorem sum_btw {lo hi : Int} (h0 : lo ≤ 0) (h1 : 0 ≤ hi) : ∀ {ns : List Int}, Btw lo hi ns → lo * ns.length ≤ ns.sum ∧ ns.sum ≤ hi * ns.length
  | [], _ => by simp
  | n :: r, h => by
    have a := sum_btw h0 h1 (ns := r) fun x hx => h x (List.mem_cons_of_mem _ hx)
    have b := h n List.mem_cons_self
    rw [List.sum_cons, List.length_cons, Int.natCast_add, Int.mul_add, Int.mul_add]
    omega
theorem btw_sub {lo hi : Int} {ns ms : List Int} (h : Btw lo hi ns) (s : ∀ x ∈ ms, x ∈ ns) : Btw lo hi ms := fun x hx => h x (s x hx)
/-- sums of at most 8 numbers stay within eight times the bounds -/
theorem wsums_btw {B : Int} {ns : List Int} {k : Nat} (hB : 0 ≤ B) (h : Btw (-B) B ns) (hk : k ≤ 8) : Btw (-(8 * B)) (8 * B) (wsums ns k) := by
  intro x hx
  unfold wsums at hx
  obtain ⟨j, _, rfl⟩ := List.mem_map.mp hx
  have hs : Btw (-B) B ((ns.drop j).take k) := btw_sub h fun y hy => List.mem_of_mem_drop (List.mem_of_mem_take hy)
  have a := sum_btw (by omega) hB hs
  have hl : ((ns.drop j).take k).length ≤ 8 := by
    rw [List.length_take]
    omega
  have c : B * ((ns.drop j).take k).length ≤ B * 8 := Int.mul_le_mul_of_nonneg_left (by omega) hB
  have d : -B * ((ns.drop j).take k).length = -(B * ((ns.drop j).take k).length) := Int.neg_mul _ _
  rw [d] at a
  omega
/-! ### calls by keywords -/
def gS2 {α : Type} : List α → List α → List α
  | [], [a, b] => [b, a]
  | _, _ => []
def gI2 {α : Type} : List α → List α → List α
  | [], [a, b] => [a, b]
  | _, _ => []
theorem rel_S2 {vs zs : List V} {us ws : List Value} (r : Vals vs us) (q : Vals zs ws) : Vals (gS2 vs zs) (gS2 us ws) := by
  cases r with
  | cons _ _ => exact .nil
  | nil =>
    cases q with
    | nil => exact .nil
    | cons a q =>
      cases q with
      | nil => exact .nil
      | cons b q =>
        cases q with
        | nil => exact .cons b (.cons a .nil)
        | cons _ _ => exact .nil
theorem rel_I2 {vs zs : List V} {us ws : List Value} (r : Vals vs us) (q : Vals zs ws) : Vals (gI2 vs zs) (gI2 us ws) := by
  cases r with
  | cons _ _ => exact .nil
  | nil =>
    cases q with
    | nil => exact .nil
    | cons a q =>
      cases q with
      | nil => exact .nil
      | cons b q =>
        cases q with
        | nil => exact .cons a (.cons b .nil)
        | cons _ _ => exact .nil
/-- three keywords in the opposite sequence -/
def gR3 {α : Type} : List α → List α → List α
  | [], [a, b, c] => [c, b, a]
  | _, _ => []
theorem rel_R3 {vs zs : List V} {us ws : List Value} (r : Vals vs us) (q : Vals zs ws) : Vals (gR3 vs zs) (gR3 us ws) := by
  cases r with
  | cons _ _ => exact .nil
  | nil =>
    cases q with
    | nil => exact .nil
    | cons a q =>
      cases q with
      | nil => exact .nil
      | cons b q =>
        cases q with
        | nil => exact .nil
        | cons c q =>
          cases q with
          | nil => exact .cons c (.cons b (.cons a .nil))
          | cons _ _ => exact .nil
theorem S2_inv {α : Type} {us ws : List α} (h : (gS2 us ws).length = 2) : ∃ a b, us = [] ∧ ws = [a, b] := by
  match us, ws, h with
  | [], [a, b], _ => exact ⟨a, b, rfl, rfl⟩
theorem R3_inv {α : Type} {us ws : List α} (h : (gR3 us ws).length = 3) : ∃ a b c, us = [] ∧ ws = [a, b, c] := by
  match us, ws, h with
  | [], [a, b, c], _ => exact ⟨a, b, c, rfl, rfl⟩
end Ws
namespace Ws
open PySem PySem.Spec PyProof.Rows L2
theorem eqv_self {d : PyData} (h : SeqAt.shaped d = true) : PyData.eqv d d = true := SeqAt.eqv_refl d (SeqAt.canLay_of_shaped h)
/-- behind a jar that is new -/
theorem Same.over {J : Addr} {H H1 H2 : Hp} (s : Same H H1) (h : H J = none) (f : Fr J H1 H2) : Same H H2 := fun b o e => by
  have n : b ≠ J := ne_of_none e h
  exact f.get n (s b o e)
theorem int_at {ns : List Int} {i : Nat} {x : V} (h : (ns.map V.int)[i]? = some x) : ∃ y, ns[i]? = some y ∧ x = .int y := by
  rw [List.getElem?_map] at h
  cases e : ns[i]? with
  | none => rw [e] at h; cases h
  | some y => rw [e] at h; exact ⟨y, rfl, (Option.some.inj h).symm⟩
theorem tup3_int {x : V} {a b c : Int} {i : Nat} (h : [V.int a, V.int b, V.int c][i]? = some x) : ∃ s, x = .int s ∧ (s = a ∨ s = b ∨ s = c) ∧ i < 3 := by
  match i, h with
  | 0, h => exact ⟨a, (Option.some.inj h).symm, .inl rfl, by decide⟩
  | 1, h => exact ⟨b, (Option.some.inj h).symm, .inr (.inl rfl), by decide⟩
  | 2, h => exact ⟨c, (Option.some.inj h).symm, .inr (.inr rfl), by decide⟩
theorem Jar.ne {H H' : Hp} {J p : Addr} {n : Int} (h : Jar H J n) (hp : H p = none) : p ≠ J := h.out hp
end Ws

set_option Elab.async false
set_option linter.all false
set_option maxRecDepth 100000
set_option maxHeartbeats 4000000
namespace Ws
open PySem PySem.Spec PyProof.Rows L2
/-! ### by how much a day is more than the first one of its class -/
def off (ss : List Int) (k : Nat) (i : Nat) : Int :=
  if h : k = 0 ∨ i < k then 0 else off ss k (i - k) + ss.getD (i - k + 1) 0 - ss.getD (i - k) 0
termination_by i
decreasing_by omega
theorem off_lo {ss : List Int} {k i : Nat} (h : i < k) : off ss k i = 0 := by
  rw [off, dif_pos (Or.inr h)]
theorem off_hi {ss : List Int} {k i : Nat} (hk : 1 ≤ k) : off ss k (k + i) = off ss k i + ss.getD (i + 1) 0 - ss.getD i 0 := by
  rw [off, dif_neg (by omega)]
  have e : k + i - k = i := by omega
  rw [e]
def offL (ss : List Int) (k n : Nat) : List Int := (List.range n).map (off ss k)
theorem offL_len (ss : List Int) (k n : Nat) : (offL ss k n).length = n := by
  unfold offL
  rw [List.length_map, List.length_range]
theorem offL_get {ss : List Int} {k n i : Nat} (h : i < n) : (offL ss k n)[i]? = some (off ss k i) := by
  unfold offL
  rw [List.getElem?_map, List.getElem?_range h]
  rfl
theorem offL_zero (ss : List Int) (k : Nat) : offL ss k k = List.replicate k 0 := by
  unfold offL
  refine List.ext_getElem? fun i => ?_
  rw [List.getElem?_map, List.getElem?_replicate]
  by_cases h : i < k
  · rw [List.getElem?_range h, if_pos h, Option.map_some, off_lo h]
  · rw [List.getElem?_eq_none (by rw [List.length_range]; omega), if_neg h]
    rfl
theorem offL_succ (ss : List Int) (k n : Nat) : offL ss k (n + 1) = offL ss k n ++ [off ss k n] := by
  unfold offL
  rw [List.range_succ, List.map_append]
  rfl
/-! ### lists that have sums -/
def win (x : List Int) (t k : Nat) : Int := ((x.drop t).take k).sum
theorem win_zero (x : List Int) (t : Nat) : win x t 0 = 0 := by
  unfold win
  rw [List.take_zero]
  rfl
theorem win_more {x : List Int} {t k : Nat} (h : t + k < x.length) : win x t (k + 1) = win x t k + x.getD (t + k) 0 := by
  unfold win
  rw [win_next (List.getElem?_eq_getElem h), List.getD_eq_getElem?_getD, List.getElem?_eq_getElem h]
  rfl
theorem win_first {x : List Int} {t k : Nat} (h : t < x.length) : win x t (k + 1) = x.getD t 0 + win x (t + 1) k := by
  unfold win
  rw [List.drop_eq_getElem_cons h, List.take_succ_cons, List.sum_cons, List.getD_eq_getElem?_getD, List.getElem?_eq_getElem h]
  rfl
theorem win_step {x : List Int} {t k : Nat} (h : t + k < x.length) : win x (t + 1) k - win x t k = x.getD (t + k) 0 - x.getD t 0 := by
  have a := win_more h
  have b := win_first (x := x) (t := t) (k := k) (by omega)
  omega
/-- x has the sums ss of length k -/
def Has (x ss : List Int) (k : Nat) : Prop := 1 ≤ k ∧ k ≤ x.length ∧ wsums x k = ss
theorem Has.len {x ss : List Int} {k : Nat} (h : Has x ss k) : ss.length = x.length + 1 - k := by
  rw [← h.2.2, wsums_len]
theorem Has.at {x ss : List Int} {k j : Nat} (h : Has x ss k) (hj : j < ss.length) : ss.getD j 0 = win x j k := by
  have hl := h.len
  rw [List.getD_eq_getElem?_getD, ← h.2.2, wsums_get (by omega)]
  rfl
theorem off_has {x ss : List Int} {k : Nat} (h : Has x ss k) : ∀ i, i < x.length → off ss k i = x.getD i 0 - x.getD (i % k) 0 := by
  intro i
  induction i using Nat.strongRecOn with
  | _ i ih =>
    intro hi
    have k1 := h.1
    have hl := h.len
    by_cases hk : i < k
    · rw [off_lo hk, Nat.mod_eq_of_lt hk]
      omega
    · have e : i = k + (i - k) := by omega
      have a := ih (i - k) (by omega) (by omega)
      rw [e, off_hi k1, a, h.at (by omega), h.at (by omega)]
      have b := win_step (x := x) (t := i - k) (k := k) (by omega)
      have c : (k + (i - k)) % k = (i - k) % k := Nat.add_mod_left _ _
      have d : i - k + k = k + (i - k) := by omega
      rw [c, ← d]
      omega
theorem mod_nat {d k : Int} (d0 : 0 ≤ d) (k1 : 1 ≤ k) : (d % k).toNat = d.toNat % k.toNat := by
  have e1 : d = (d.toNat : Int) := by omega
  have e2 : k = (k.toNat : Int) := by omega
  have : d % k = ((d.toNat % k.toNat : Nat) : Int) := by
    rw [Int.natCast_emod, ← e1, ← e2]
  omega
theorem tie_has {x ss : List Int} {k a b : Int} (h : Has x ss k.toNat) (k1 : 1 ≤ k) (a0 : 0 ≤ a) (an : a < x.length) (b0 : 0 ≤ b) (bn : b < x.length) (t : (b - a) % k = 0) :
    off ss k.toNat b.toNat - off ss k.toNat a.toNat = x.getD b.toNat 0 - x.getD a.toNat 0 := by
  rw [off_has h _ (by omega), off_has h _ (by omega)]
  have e : b % k = a % k := (Int.emod_eq_emod_iff_emod_sub_eq_zero).mpr t
  have e2 : b.toNat % k.toNat = a.toNat % k.toNat := by
    rw [← mod_nat b0 k1, ← mod_nat a0 k1, e]
  rw [e2]
  omega
theorem perm_sum {xs ys : List Int} (h : xs.Perm ys) : xs.sum = ys.sum := by
  induction h with
  | nil => rfl
  | cons x _ ih => rw [List.sum_cons, List.sum_cons, ih]
  | swap x y l =>
    rw [List.sum_cons, List.sum_cons, List.sum_cons, List.sum_cons]
    omega
  | trans _ _ a b => exact a.trans b
/-- days, one of each class -/
structure Choice (ds : List Int) (k n : Int) : Prop where
  inn : ∀ d ∈ ds, 0 ≤ d ∧ d < n
  all : (ds.map fun d => d % k).Perm ((List.range k.toNat).map fun (i : Nat) => (i : Int))
theorem Choice.len {ds : List Int} {k n : Int} (c : Choice ds k n) : ds.length = k.toNat := by
  have := c.all.length_eq
  rw [List.length_map, List.length_map, List.length_range] at this
  exact this
theorem win_range {x : List Int} {k : Nat} (h : k ≤ x.length) : ((List.range k).map fun i => x.getD i 0).sum = win x 0 k := by
  induction k with
  | zero =>
    rw [win_zero]
    rfl
  | succ k ih =>
    rw [List.range_succ, List.map_append, List.sum_append_int, ih (by omega), win_more (by omega)]
    simp
theorem sum_map_add (f g : Int → Int) : ∀ ds : List Int, (ds.map fun d => f d + g d).sum = (ds.map f).sum + (ds.map g).sum
  | [] => rfl
  | d :: r => by
    rw [List.map_cons, List.map_cons, List.map_cons, List.sum_cons, List.sum_cons, List.sum_cons, sum_map_add f g r]
    omega
theorem total_has {x ss ds : List Int} {k n : Int} (h : Has x ss k.toNat) (k1 : 1 ≤ k) (hn : n = x.length) (c : Choice ds k n) :
    ss.getD 0 0 + (ds.map fun d => off ss k.toNat d.toNat).sum = (ds.map fun d => x.getD d.toNat 0).sum := by
  have e1 : (ds.map fun d => x.getD d.toNat 0) = ds.map fun d => off ss k.toNat d.toNat + x.getD (d % k).toNat 0 := by
    refine List.map_congr_left fun d hd => ?_
    have hd2 := c.inn d hd
    rw [off_has h _ (by omega), mod_nat hd2.1 k1]
    omega
  have e2 : (ds.map fun d => x.getD (d % k).toNat 0) = (ds.map fun d => d % k).map fun c => x.getD c.toNat 0 := by
    rw [List.map_map]
    rfl
  have e3 := perm_sum (c.all.map fun c => x.getD c.toNat 0)
  have e4 : (((List.range k.toNat).map fun (i : Nat) => (i : Int)).map fun c => x.getD c.toNat 0) = (List.range k.toNat).map fun i => x.getD i 0 := by
    rw [List.map_map]
    rfl
  have hl := h.len
  have hk2 := h.2.1
  rw [e1, sum_map_add, e2, e3, e4, win_range h.2.1, h.at (j := 0) (by omega)]
  omega
end Ws

set_option Elab.async false
set_option linter.all false
set_option maxRecDepth 100000
set_option maxHeartbeats 4000000
namespace Ws
open PySem PySem.Spec PyProof.Rows L2
theorem small5 {n : Nat} (h : n ≤ 100000) : n < sizeLine := by
  rw [sizeLine_eq]
  omega
theorem flat_rep {α : Type} (x : α) : ∀ k : Nat, (List.replicate k [x]).flatten = List.replicate k x
  | 0 => rfl
  | k + 1 => by
    rw [List.replicate_succ, List.flatten_cons, flat_rep x k, List.replicate_succ]
    rfl
/-- an integer within bounds -/
def wint (lo hi : Int) : V → Bool
  | .int i => decide (lo ≤ i) && decide (i ≤ hi)
  | _ => false
def spRowIn (K : PySem.W.Frag) : Sp := fun vs H Q _ => (∃ (a : Addr) (xs : List V) (c lo hi : Int), vs = [.ref a, .int c, .int lo, .int hi] ∧ SqL K H a xs ∧ xs.length ≤ 50000 ∧
    (∀ x ∈ xs, ∀ H', Same H H' → whole x = true ∨ Ti K H' x false) ∧ ∀ H', Same H H' → Q (.bl (decide ((xs.length : Int) = c) && xs.all (wint lo hi))) H') ∨
  ∃ (x : V) (t : String) (c lo hi : Int), vs = [x, .int c, .int lo, .int hi] ∧ TyB K H x t ∧ t ≠ "list" ∧ Q (.bl false) H
theorem all_wint {lo hi : Int} {ns : List Int} (h : Btw lo hi ns) : (ns.map V.int).all (wint lo hi) = true := by
  rw [List.all_eq_true]
  intro x hx
  obtain ⟨i, hi, rfl⟩ := List.mem_map.mp hx
  have := h i hi
  show (decide _ && decide _) = true
  rw [decide_eq_true this.1, decide_eq_true this.2]
  rfl
theorem whole_ints {K : PySem.W.Frag} {H : Hp} {ns : List Int} : ∀ x ∈ ns.map V.int, ∀ H', Same H H' → whole x = true ∨ Ti K H' x false := by
  intro x hx H' _
  obtain ⟨i, _, rfl⟩ := List.mem_map.mp hx
  exact .inl rfl
def spOffs (K : PySem.W.Frag) : Sp := fun vs H Q _ => ∃ (a : Addr) (ss : List Int) (k : Int), vs = [.ref a, .int k] ∧ SqL K H a (ss.map V.int) ∧
  1 ≤ ss.length ∧ 1 ≤ k ∧ k ≤ 8 ∧ k + ss.length ≤ 68 ∧
  ∀ H' p, Same H H' → H p = none → H' p = some (.lst ((offL ss k.toNat (ss.length + k.toNat - 1)).map V.int)) → Q (.ref p) H'
def spAreTied : Sp := fun vs H Q _ => ∃ a b k : Int, vs = [.int a, .int b, .int k] ∧ 1 ≤ k ∧ Q (.bl (decide ((b - a) % k = 0))) H
def spTotalAt (K : PySem.W.Frag) : Sp := fun vs H Q _ => ∃ (a o d : Addr) (ss ofs ds : List Int), vs = [.ref a, .ref o, .ref d] ∧ SqL K H a (ss.map V.int) ∧ SqL K H o (ofs.map V.int) ∧ SqL K H d (ds.map V.int) ∧
  1 ≤ ss.length ∧ (∀ x ∈ ds, 0 ≤ x ∧ x < ofs.length) ∧ ds.length ≤ 1000 ∧
  ∀ H', Same H H' → Q (.int (ss.getD 0 0 + (ds.map fun x => ofs.getD x.toNat 0).sum)) H'
/-- the list of the remainders below k, ascending -/
def upto (k : Int) : List Int := (List.range k.toNat).map fun (i : Nat) => (i : Int)
theorem rgV_upto (k : Int) : rgV 0 k = (upto k).map V.int := by
  unfold rgV upto
  rw [List.map_map, Int.sub_zero]
  refine List.map_congr_left fun i _ => ?_
  show V.int (0 + (i : Int)) = V.int (i : Int)
  rw [Int.zero_add]
theorem upto_asc (k : Int) : (upto k).Pairwise (· < ·) := by
  unfold upto
  exact pw_range_map (f := fun m => (m : Int)) fun i j h => Int.ofNat_lt.mpr h
theorem upto_len (k : Int) : (upto k).length = k.toNat := by
  unfold upto
  rw [List.length_map, List.length_range]
theorem perm_sorted_eq {xs ys : List Int} (hp : xs.Perm ys) (hx : xs.Pairwise (· ≤ ·)) (hy : ys.Pairwise (· ≤ ·)) : xs = ys := by
  refine List.Perm.eq_of_pairwise (le := (· ≤ ·)) ?_ hx hy hp
  intro a b _ _ h1 h2
  omega
/-- whether a list of ints is a choice of days, as the program judges -/
def chosen (ds : List Int) (k n : Int) : Bool := decide ((ds.length : Int) = k) && (ds.map V.int).all (wint 0 (n - 1)) && decide ((ds.map fun d => d % k).Perm (upto k))
theorem chosen_yes {ds : List Int} {k n : Int} (k1 : 1 ≤ k) (c : Choice ds k n) : chosen ds k n = true := by
  unfold chosen
  rw [decide_eq_true (by have := c.len; omega), all_wint (fun x hx => by have := c.inn x hx; omega)]
  show (true && true && decide _) = true
  rw [decide_eq_true (show (ds.map fun d => d % k).Perm (upto k) from c.all)]
  rfl
theorem chosen_inv {ds : List Int} {k n : Int} (h : chosen ds k n = true) : Choice ds k n := by
  unfold chosen at h
  rw [Bool.and_eq_true, Bool.and_eq_true] at h
  refine ⟨fun d hd => ?_, of_decide_eq_true h.2⟩
  have h2 := List.all_eq_true.mp h.1.2 (.int d) (List.mem_map.mpr ⟨d, hd, rfl⟩)
  have h3 : (decide (0 ≤ d) && decide (d ≤ n - 1)) = true := h2
  rw [Bool.and_eq_true, decide_eq_true_iff, decide_eq_true_iff] at h3
  omega
/-- any list of known things, or another thing -/
def spChoice (K : PySem.W.Frag) : Sp := fun vs H Q _ => (∃ (a : Addr) (ds : List Int) (k n : Int), vs = [.ref a, .int k, .int n] ∧ SqL K H a (ds.map V.int) ∧ ds.length ≤ 50000 ∧ 1 ≤ k ∧ k ≤ 8 ∧
    ∀ H', Same H H' → Q (.bl (chosen ds k n)) H') ∨
  (∃ (a : Addr) (xs : List V) (k n : Int), vs = [.ref a, .int k, .int n] ∧ SqL K H a xs ∧ xs.length ≤ 50000 ∧ (∀ x ∈ xs, ∀ H', Same H H' → whole x = true ∨ Ti K H' x false) ∧ (∃ x ∈ xs, whole x = false) ∧
    ∀ H', Same H H' → Q (.bl false) H') ∨
  ∃ (x : V) (t : String) (k n : Int), vs = [x, .int k, .int n] ∧ TyB K H x t ∧ t ≠ "list" ∧ Q (.bl false) H
def spChoiceOk (K : PySem.W.Frag) : Sp := fun vs H Q _ => ∃ (a : Addr) (ds : List Int) (k n : Int), vs = [.ref a, .int k, .int n] ∧ SqL K H a (ds.map V.int) ∧ 1 ≤ k ∧ k ≤ 8 ∧ Choice ds k n ∧
  ∀ H', Same H H' → Q .non H'
def spTie (K : PySem.W.Frag) : Sp := fun vs H Q _ => ∃ (a : Addr) (ss : List Int) (k x y : Int), vs = [.ref a, .int k, .int x, .int y] ∧ SqL K H a (ss.map V.int) ∧
  1 ≤ ss.length ∧ 1 ≤ k ∧ k ≤ 8 ∧ k + ss.length ≤ 68 ∧ 0 ≤ x ∧ x < ss.length + k - 1 ∧ 0 ≤ y ∧ y < ss.length + k - 1 ∧
  ∀ H', Same H H' → Q (if (y - x) % k = 0 then .int (off ss k.toNat y.toNat - off ss k.toNat x.toNat) else .non) H'
def spTotal (K : PySem.W.Frag) : Sp := fun vs H Q _ => ∃ (a d : Addr) (ss ds : List Int) (k : Int), vs = [.ref a, .int k, .ref d] ∧ SqL K H a (ss.map V.int) ∧ SqL K H d (ds.map V.int) ∧
  1 ≤ ss.length ∧ 1 ≤ k ∧ k ≤ 8 ∧ k + ss.length ≤ 68 ∧ Choice ds k (ss.length + k - 1) ∧
  ∀ H', Same H H' → Q (.int (ss.getD 0 0 + (ds.map fun x => off ss k.toNat x.toNat).sum)) H'
theorem cut_tail (ns : List Int) (i : Nat) : cutV (ns.map V.int) (some (i : Int)) none = (ns.drop i).map V.int := by
  unfold cutV
  rw [HT.sIx_nat, HT.sIx_none, List.length_map, List.map_drop]
  by_cases h : i ≤ ns.length
  · rw [Nat.min_eq_left h, List.take_of_length_le]
    rw [List.length_drop, List.length_map]
    exact Nat.le_refl _
  · have e1 : min i ns.length = ns.length := by omega
    rw [e1, Nat.sub_self, List.drop_of_length_le (i := i) (by rw [List.length_map]; omega)]
    simp
theorem cut_head (ns : List Int) (i : Nat) : cutV (ns.map V.int) none (some (i : Int)) = (ns.take i).map V.int := by
  unfold cutV
  rw [HT.sIx_nat, HT.sIx_none, List.length_map, List.drop_zero, List.map_take, Nat.sub_zero]
  by_cases h : i ≤ ns.length
  · rw [Nat.min_eq_left h]
  · have e1 : min i ns.length = ns.length := by omega
    rw [e1, List.take_of_length_le (i := ns.length) (by rw [List.length_map]; exact Nat.le_refl _), List.take_of_length_le (i := i) (by rw [List.length_map]; omega)]
end Ws

set_option Elab.async false
set_option linter.all false
set_option maxRecDepth 100000
set_option maxHeartbeats 4000000
namespace Ws
open PySem PySem.Spec PyProof.Rows L2
/-! ### all ways, gone through day by day -/
/-- the ways to go on from the days told so far -/
def nextW (ss : List Int) (k top d : Nat) (one : List Int) : List (List Int) :=
  if d + 1 < k then (List.range (top + 1)).map fun (p : Nat) => one ++ [(p : Int)]
  else if 0 ≤ ss.getD (d + 1 - k) 0 - (one.drop (d + 1 - k)).sum ∧ ss.getD (d + 1 - k) 0 - (one.drop (d + 1 - k)).sum ≤ top then
    [one ++ [ss.getD (d + 1 - k) 0 - (one.drop (d + 1 - k)).sum]] else []
def allW (ss : List Int) (k top : Nat) : Nat → List (List Int)
  | 0 => [[]]
  | d + 1 => (allW ss k top d).flatMap (nextW ss k top d)
/-- the first days of a way -/
structure Pre (x ss : List Int) (k top d : Nat) : Prop where
  len : x.length = d
  inn : Btw 0 top x
  has : ∀ j, j + k ≤ d → win x j k = ss.getD j 0
theorem win_snoc {x : List Int} {y : Int} {j k : Nat} (h : j + k ≤ x.length) : win (x ++ [y]) j k = win x j k := by
  unfold win
  rw [List.drop_append_of_le_length (by omega), List.take_append_of_le_length (by rw [List.length_drop]; omega)]
theorem win_last {x : List Int} {y : Int} {j k : Nat} (h : j + k = x.length + 1) (k1 : 1 ≤ k) : win (x ++ [y]) j k = (x.drop j).sum + y := by
  unfold win
  rw [List.drop_append_of_le_length (by omega), List.take_of_length_le (by rw [List.length_append, List.length_drop, List.length_singleton]; omega), sum_snoc]
theorem allW_pre {ss : List Int} {k top : Nat} (k1 : 1 ≤ k) : ∀ d x, x ∈ allW ss k top d → Pre x ss k top d
  | 0, x, h => by
    rw [allW, List.mem_singleton] at h
    subst h
    exact ⟨rfl, Btw.nil, fun j hj => by omega⟩
  | d + 1, x, h => by
    rw [allW, List.mem_flatMap] at h
    obtain ⟨one, h1, h2⟩ := h
    have p := allW_pre k1 d one h1
    unfold nextW at h2
    have more : ∀ y : Int, 0 ≤ y → y ≤ top → (∀ j, j + k = d + 1 → (one.drop j).sum + y = ss.getD j 0) → Pre (one ++ [y]) ss k top (d + 1) := fun y y0 y1 hy => by
      refine ⟨by rw [List.length_append, p.len]; rfl, p.inn.snoc y0 y1, fun j hj => ?_⟩
      by_cases e : j + k = d + 1
      · rw [win_last (by rw [p.len]; exact e) k1]
        exact hy j e
      · rw [win_snoc (by rw [p.len]; omega)]
        exact p.has j (by omega)
    split at h2
    · obtain ⟨q, hq, rfl⟩ := List.mem_map.mp h2
      have := List.mem_range.mp hq
      exact more q (by omega) (by omega) fun j hj => by omega
    · split at h2
      · rename_i hb
        rw [List.mem_singleton] at h2
        subst h2
        refine more _ hb.1 hb.2 fun j hj => ?_
        have e : d + 1 - k = j := by omega
        rw [e]
        omega
      · cases h2
theorem allW_mem {x ss : List Int} {k top n : Nat} (k1 : 1 ≤ k) (p : Pre x ss k top n) : ∀ d, d ≤ n → x.take d ∈ allW ss k top d
  | 0, _ => by
    rw [allW, List.take_zero]
    exact List.mem_singleton.mpr rfl
  | d + 1, h => by
    rw [allW, List.mem_flatMap]
    refine ⟨x.take d, allW_mem k1 p d (by omega), ?_⟩
    have hd : d < x.length := by rw [p.len]; omega
    have e : x.take (d + 1) = x.take d ++ [x[d]] := take_next (List.getElem?_eq_getElem hd)
    have hb := p.inn x[d] (List.getElem_mem hd)
    have ld : (x.take d).length = d := by rw [List.length_take]; omega
    unfold nextW
    rw [e]
    split
    · refine List.mem_map.mpr ⟨x[d].toNat, List.mem_range.mpr (by omega), ?_⟩
      have : ((x[d].toNat : Nat) : Int) = x[d] := by omega
      rw [this]
    · have hw := p.has (d + 1 - k) (by omega)
      have h2 : win (x.take d ++ [x[d]]) (d + 1 - k) k = ((x.take d).drop (d + 1 - k)).sum + x[d] := win_last (by rw [ld]; omega) k1
      have h3 : win (x.take (d + 1)) (d + 1 - k) k = win x (d + 1 - k) k := by
        unfold win
        rw [List.drop_take, List.take_take]
        congr 2
        omega
      rw [← e, h3, hw] at h2
      have h4 : ss.getD (d + 1 - k) 0 - ((x.take d).drop (d + 1 - k)).sum = x[d] := by omega
      rw [h4, if_pos (by omega)]
      exact List.mem_singleton.mpr rfl
theorem nextW_len (ss : List Int) (k top d : Nat) (one : List Int) : (nextW ss k top d one).length ≤ if d + 1 < k then top + 1 else 1 := by
  unfold nextW
  split
  · rw [List.length_map, List.length_range]
    exact Nat.le_refl _
  · split
    · exact Nat.le_refl _
    · exact Nat.zero_le _
theorem flat_len {α β : Type} (f : α → List β) (c : Nat) : ∀ l : List α, (∀ a ∈ l, (f a).length ≤ c) → (l.flatMap f).length ≤ l.length * c
  | [], _ => Nat.zero_le _
  | a :: r, h => by
    rw [List.flatMap_cons, List.length_append, List.length_cons, Nat.add_mul, Nat.one_mul]
    have := flat_len f c r fun b hb => h b (List.mem_cons_of_mem _ hb)
    have := h a List.mem_cons_self
    omega
theorem allW_len {ss : List Int} {k top : Nat} : ∀ d, (allW ss k top d).length ≤ (top + 1) ^ (min d (k - 1))
  | 0 => by
    rw [Nat.zero_min, Nat.pow_zero]
    exact Nat.le_refl _
  | d + 1 => by
    have ih := allW_len (ss := ss) (k := k) (top := top) d
    rw [allW]
    refine Nat.le_trans (flat_len _ (if d + 1 < k then top + 1 else 1) _ fun a _ => nextW_len ss k top d a) ?_
    split
    · have e : min (d + 1) (k - 1) = min d (k - 1) + 1 := by omega
      rw [e, Nat.pow_succ]
      exact Nat.mul_le_mul ih (Nat.le_refl _)
    · have e : min (d + 1) (k - 1) = min d (k - 1) := by omega
      rw [e, Nat.mul_one]
      exact ih
theorem allW_small {ss : List Int} {k top d B : Nat} (h : (top + 1) ^ (k - 1) ≤ B) : (allW ss k top d).length ≤ B :=
  Nat.le_trans (allW_len d) (Nat.le_trans (Nat.pow_le_pow_right (by omega) (Nat.min_le_right _ _)) h)
/-! ### lists of lists of ints in a heap -/
def Rows (H : Hp) (as : List Addr) (ls : List (List Int)) : Prop := as.length = ls.length ∧ ∀ (i : Nat) (a : Addr) (l : List Int), as[i]? = some a → ls[i]? = some l → H a = some (.lst (l.map V.int))
theorem Rows.nil {H : Hp} : Rows H [] [] := ⟨rfl, fun i a l h _ => by simp at h⟩
theorem Rows.up {H H' : Hp} {as : List Addr} {ls : List (List Int)} (h : Rows H as ls) (s : Same H H') : Rows H' as ls := ⟨h.1, fun i a l h1 h2 => s _ _ (h.2 i a l h1 h2)⟩
theorem Rows.snoc {H : Hp} {as : List Addr} {ls : List (List Int)} {r : Addr} {l : List Int} (h : Rows H as ls) (hr : H r = some (.lst (l.map V.int))) : Rows H (as ++ [r]) (ls ++ [l]) := by
  refine ⟨by rw [List.length_append, List.length_append, h.1]; rfl, fun i a m h1 h2 => ?_⟩
  by_cases hi : i < as.length
  · rw [List.getElem?_append_left hi] at h1
    rw [List.getElem?_append_left (by rw [← h.1]; exact hi)] at h2
    exact h.2 i a m h1 h2
  · rw [List.getElem?_append_right (by omega)] at h1
    rw [List.getElem?_append_right (by rw [← h.1]; omega), ← h.1] at h2
    cases e : i - as.length with
    | zero =>
      rw [e] at h1 h2
      cases h1
      cases h2
      exact hr
    | succ z =>
      rw [e] at h1
      simp at h1
theorem Rows.get {H : Hp} {as : List Addr} {ls : List (List Int)} {i : Nat} {x : V} (h : Rows H as ls) (hx : (as.map V.ref)[i]? = some x) :
    ∃ a l, x = .ref a ∧ ls[i]? = some l ∧ H a = some (.lst (l.map V.int)) := by
  rw [List.getElem?_map] at hx
  cases e : as[i]? with
  | none => rw [e] at hx; cases hx
  | some a =>
    rw [e] at hx
    have hi : i < ls.length := by
      rw [← h.1]
      exact (List.getElem?_eq_some_iff.mp e).1
    exact ⟨a, ls[i], (Option.some.inj hx).symm, List.getElem?_eq_getElem hi, h.2 i a _ e (List.getElem?_eq_getElem hi)⟩
/-- a list that grows: its rows stand apart from it -/
def Grow (H0 H : Hp) (q : Addr) (ls : List (List Int)) : Prop := ∃ as : List Addr, H q = some (.lst (as.map V.ref)) ∧ Rows (cut q H) as ls ∧ ∀ a ∈ as, H0 a = none
theorem cut_put {q : Addr} {H : Hp} {o : HO} : cut q (upd H q o) = cut q H := by
  funext b
  unfold cut
  split
  · rfl
  · rename_i n
    exact upd_ne n
theorem Grow.new {H0 H : Hp} {q : Addr} : Grow H0 (upd H q (.lst [])) q [] := ⟨[], upd_same, Rows.nil, fun a h => absurd h List.not_mem_nil⟩
theorem Grow.same {H0 H H' : Hp} {q : Addr} {ls : List (List Int)} (h : Grow H0 H q ls) (s : Same H H') : Grow H0 H' q ls := by
  obtain ⟨as, h1, h2, h3⟩ := h
  exact ⟨as, s _ _ h1, h2.up (cut_mono s), h3⟩
/-- one more row -/
theorem Grow.put {H0 H : Hp} {q r : Addr} {ls : List (List Int)} {as : List Addr} {l : List Int} (h1 : H q = some (.lst (as.map V.ref))) (h2 : Rows (cut q H) as ls) (h3 : ∀ a ∈ as, H0 a = none) (n : r ≠ q) (fr : H0 r = none) (hr : H r = some (.lst (l.map V.int))) :
    Grow H0 (upd H q (.lst (as.map V.ref ++ [V.ref r]))) q (ls ++ [l]) := by
  refine ⟨as ++ [r], ?_, ?_, fun a ha => ?_⟩
  · rw [upd_same, List.map_append]
    rfl
  · rw [cut_put]
    exact h2.snoc (by rw [cut_ne n]; exact hr)
  · rcases List.mem_append.mp ha with z | z
    · exact h3 a z
    · rw [List.mem_singleton.mp z]
      exact fr
theorem Grow.rows {H0 H : Hp} {q : Addr} {ls : List (List Int)} (h : Grow H0 H q ls) : ∃ as : List Addr, H q = some (.lst (as.map V.ref)) ∧ Rows H as ls ∧ ∀ a ∈ as, H0 a = none := by
  obtain ⟨as, h1, h2, h3⟩ := h
  exact ⟨as, h1, h2.up cut_sub, h3⟩
theorem flat_take {α β : Type} (f : α → List β) {l : List α} {i : Nat} {x : α} (h : l[i]? = some x) : (l.take (i + 1)).flatMap f = (l.take i).flatMap f ++ f x := by
  rw [take_next h, List.flatMap_append]
  simp
def spAll (K : PySem.W.Frag) : Sp := fun vs H Q _ => ∃ (a : Addr) (ss : List Int) (k t : Int), vs = [.ref a, .int k, .int t] ∧ SqL K H a (ss.map V.int) ∧ 1 ≤ ss.length ∧ 1 ≤ k ∧ k ≤ 8 ∧ ss.length ≤ 100 ∧ 0 ≤ t ∧
  t ≤ 1000 ∧ (t.toNat + 1) ^ (k.toNat - 1) ≤ 1000 ∧
  ∀ H' p, Same H H' → H p = none → Grow H H' p (allW ss k.toNat t.toNat (ss.length + k.toNat - 1)) → Q (.ref p) H'
end Ws

set_option Elab.async false
set_option linter.all false
set_option maxRecDepth 100000
set_option maxHeartbeats 4000000
namespace Ws
open PySem PySem.Spec PyProof.Rows L2
/-! ### one day of each class, drawn -/
def spSmall : Sp := fun vs H Q _ => ∃ (J : Addr) (n : Int), vs = [.ref J] ∧ Jar H J n ∧ n ≤ 900000000 ∧
  ∀ H' p (k t c : Int), Fr J H H' → Jar H' J (n + 3) → H p = none → H' p = some (.tup [.int k, .int t, .int c]) → 1 ≤ k → k ≤ 4 → 0 ≤ t → t ≤ 8 → (t.toNat + 1) ^ (k.toNat - 1) ≤ 1000 → k ≤ c → c ≤ k + 6 → Q (.ref p) H'
def spClasses : Sp := fun vs H Q _ => ∃ (J : Addr) (c k n : Int), vs = [.ref J, .int c, .int k] ∧ Jar H J n ∧ n ≤ 900000000 ∧ 1 ≤ k ∧ k ≤ 8 ∧ k ≤ c ∧ c ≤ 1000 ∧
  ∀ H' p ds, Fr J H H' → Jar H' J (n + 2 * k) → H p = none → H' p = some (.lst (ds.map V.int)) → Choice ds k c → Q (.ref p) H'
theorem seqIx {i : Int} {n : Nat} (h0 : 0 ≤ i) (h1 : i < n) : seqIndex? i n = some i.toNat := by
  have e : (if i < 0 then i + (n : Int) else i) = i := if_neg (by omega)
  unfold seqIndex?
  simp only [e]
  rw [decide_eq_true h0, decide_eq_true h1]
  rfl
theorem perm_pop {α : Type} : ∀ (l : List α) (i : Nat) (x : α), l[i]? = some x → (x :: l.eraseIdx i).Perm l
  | [], i, x, h => by simp at h
  | a :: r, 0, x, h => by
    cases h
    exact List.Perm.refl _
  | a :: r, i + 1, x, h => by
    rw [List.eraseIdx_cons_succ]
    exact (List.Perm.swap a x _).trans ((perm_pop r i x h).cons a)
/-- what is found and what is left -/
structure Part (fs ls : List Int) (k c : Int) : Prop where
  inn : ∀ d ∈ fs, 0 ≤ d ∧ d < c
  all : ((fs.map fun d => d % k) ++ ls).Perm (upto k)
theorem Part.start {k c : Int} : Part [] (upto k) k c := ⟨(fun d h => absurd h List.not_mem_nil), List.Perm.refl _⟩
theorem Part.len {fs ls : List Int} {k c : Int} (p : Part fs ls k c) : fs.length + ls.length = k.toNat := by
  have := p.all.length_eq
  rw [List.length_append, List.length_map, upto_len] at this
  exact this
theorem Part.left {fs ls : List Int} {k c r : Int} (p : Part fs ls k c) (h : r ∈ ls) : 0 ≤ r ∧ r < k := by
  have := p.all.mem_iff.mp (List.mem_append_right _ h)
  unfold upto at this
  obtain ⟨i, hi, rfl⟩ := List.mem_map.mp this
  have := List.mem_range.mp hi
  omega
theorem Part.step {fs ls : List Int} {k c r d : Int} {i : Nat} (p : Part fs ls k c) (h : ls[i]? = some r) (hd : d % k = r) (d0 : 0 ≤ d) (d1 : d < c) : Part (fs ++ [d]) (ls.eraseIdx i) k c := by
  refine ⟨fun x hx => ?_, ?_⟩
  · rcases List.mem_append.mp hx with z | z
    · exact p.inn x z
    · rw [List.mem_singleton.mp z]
      exact ⟨d0, d1⟩
  · rw [List.map_append, List.append_assoc]
    refine List.Perm.trans ?_ p.all
    refine List.Perm.append_left _ ?_
    show (d % k :: ls.eraseIdx i).Perm ls
    rw [hd]
    exact perm_pop ls i r h
theorem Part.done {fs : List Int} {k c : Int} (p : Part fs [] k c) : Choice fs k c := ⟨p.inn, by
  have := p.all
  rw [List.append_nil] at this
  exact this⟩
theorem picked_get {n : Nat} {p : Int → Bool} {i : Nat} (h : i < (picked n p).length) : ∃ z, (picked n p)[i]? = some z ∧ 0 ≤ z ∧ z < n ∧ p z = true := by
  have e := List.getElem?_eq_getElem h
  exact ⟨_, e, mem_picked.mp (List.mem_of_getElem? e)⟩
theorem picked_ne {n : Nat} {p : Int → Bool} {z : Int} (h0 : 0 ≤ z) (h1 : z < n) (h2 : p z = true) : 1 ≤ (picked n p).length :=
  List.length_pos_of_mem (mem_picked.mpr ⟨h0, h1, h2⟩)
theorem erase_ints (ns : List Int) (j : Nat) : (ns.map V.int).eraseIdx j = (ns.eraseIdx j).map V.int := map_eraseIdx' V.int ns j
/-- a way has the sums -/
theorem Pre.sums {x ss : List Int} {k top : Nat} (p : Pre x ss k top (ss.length + k - 1)) (s1 : 1 ≤ ss.length) (k1 : 1 ≤ k) : Has x ss k := by
  have hl := p.len
  refine ⟨k1, by omega, ?_⟩
  refine List.ext_getElem? fun i => ?_
  by_cases hi : i < ss.length
  · have h := p.has i (by omega)
    rw [wsums_get (by omega), List.getElem?_eq_getElem hi]
    unfold win at h
    rw [h, List.getD_eq_getElem?_getD, List.getElem?_eq_getElem hi]
    rfl
  · rw [List.getElem?_eq_none (by rw [wsums_len]; omega), List.getElem?_eq_none (by omega)]
theorem Pre.of {x : List Int} {k top : Nat} (k1 : 1 ≤ k) (kn : k ≤ x.length) (h : Btw 0 top x) : Pre x (wsums x k) k top ((wsums x k).length + k - 1) := by
  have wl := wsums_len x k
  refine ⟨by omega, h, fun j hj => ?_⟩
  rw [List.getD_eq_getElem?_getD, wsums_get (by omega)]
  rfl
/-- all ways of sums that a list has are at least one -/
theorem allW_some {x : List Int} {k top : Nat} (k1 : 1 ≤ k) (kn : k ≤ x.length) (h : Btw 0 top x) : 1 ≤ (allW (wsums x k) k top ((wsums x k).length + k - 1)).length := by
  have p := Pre.of k1 kn h
  exact List.length_pos_of_mem (allW_mem k1 p _ (Nat.le_refl _))
/-- four keywords in the opposite sequence -/
def gR4 {α : Type} : List α → List α → List α
  | [], [a, b, c, d] => [d, c, b, a]
  | _, _ => []
theorem rel_R4 {vs zs : List V} {us ws : List Value} (r : Vals vs us) (q : Vals zs ws) : Vals (gR4 vs zs) (gR4 us ws) := by
  cases r with
  | cons _ _ => exact .nil
  | nil =>
    cases q with
    | nil => exact .nil
    | cons a q =>
      cases q with
      | nil => exact .nil
      | cons b q =>
        cases q with
        | nil => exact .nil
        | cons c q =>
          cases q with
          | nil => exact .nil
          | cons d q =>
            cases q with
            | nil => exact .cons d (.cons c (.cons b (.cons a .nil)))
            | cons _ _ => exact .nil
theorem R4_inv {α : Type} {us ws : List α} (h : (gR4 us ws).length = 4) : ∃ a b c d, us = [] ∧ ws = [a, b, c, d] := by
  match us, ws, h with
  | [], [a, b, c, d], _ => exact ⟨a, b, c, d, rfl, rfl⟩
end Ws

set_option Elab.async false
set_option linter.all false
set_option maxRecDepth 100000
set_option maxHeartbeats 4000000
namespace Ws
open PySem PySem.Spec PyProof.Rows L2
/-! ### types of things, errors among them -/
def rTypX (K : PySem.W.Frag) : List V → Hp → VK → Prop := fun xs H Q => ∃ x, xs = [x] ∧ ((∃ T, TyB K H x T ∧ Q (.ty T) H) ∨ ∃ a C, x = .ref a ∧ H a = some (ExO (.ref C) a) ∧ Q (.ref C) H)
section
variable {X : Cx} {K : PySem.W.Frag}
theorem typX (h : X.K = K := by rfl) : CallR X (.type "type") (rTypX K) := by
  subst h
  intro pins s σ H xs us Q I r hh
  obtain ⟨x, rfl, ⟨T, t, q⟩ | ⟨a, C, rfl, ha, q⟩⟩ := hh
  · exact call_type1 pins s σ H _ us Q I r ⟨x, T, rfl, t, q⟩
  · obtain ⟨u, rfl, rx⟩ := vals1 r
    cases (show u = Value.ref a from rx)
    obtain ⟨⟨oe, vs, ho, hz, _⟩, _, _⟩ := I.hok a _ ha
    have hc : oe.cls = .ref C := hz.1
    exact call_type_obj ho (by rw [hc]; rfl) (by rw [hc]; exact ⟨.ref C, H, I, rfl, q⟩)
def rNotTyX : R2 := fun x y H Q => (∃ m n, x = .ty m ∧ y = .ty n ∧ Q (.bl (!decide (m = n))) H) ∨ ∃ a n, x = .ref a ∧ y = .ty n ∧ Q (.bl true) H
theorem notTyX : OpR X (compareOp .IsNot) rNotTyX := by
  intro pins s σ H x y v u Q I rx ry h
  rcases h with h | ⟨a, n, rfl, rfl, q⟩
  · exact op_isNotTy pins s σ H x y v u Q I rx ry h
  · cases (show v = Value.ref a from rx)
    cases (show u = Value.type n from ry)
    exact wpAny_isNot_plain rfl (fin_bl I q rfl)
end
/-! ### things that are no ways -/
/-- an item that is no integer -/
def Odd (K : PySem.W.Frag) (H : Hp) (x : V) : Prop := ∀ H', Same H H' → Ti K H' x false
theorem Odd.up {K : PySem.W.Frag} {H H' : Hp} {x : V} (h : Odd K H x) (s : Same H H') : Odd K H' x := fun H2 t => h H2 (s.trans t)
theorem Odd.non {K : PySem.W.Frag} {H : Hp} : Odd K H .non := fun _ _ => Ti.non
theorem Odd.str {K : PySem.W.Frag} {H : Hp} (x : Str) : Odd K H (.str x) := fun _ _ => Ti.str x
theorem Odd.bl {K : PySem.W.Frag} {H : Hp} (x : Bool) : Odd K H (.bl x) := fun _ _ => Ti.bl x
theorem Odd.lst {K : PySem.W.Frag} {H : Hp} {a : Addr} {xs : List V} (h : H a = some (.lst xs)) : Odd K H (.ref a) := fun H' s => Ti.no (.base (.lst (s _ _ h))) (kit_ty (by decide +kernel))
theorem Odd.tup {K : PySem.W.Frag} {H : Hp} {a : Addr} {xs : List V} (h : H a = some (.tup xs)) : Odd K H (.ref a) := fun H' s => Ti.no (.base (.tup (s _ _ h))) (kit_ty (by decide +kernel))
theorem TyB.up {K : PySem.W.Frag} {H H' : Hp} {x : V} {T : String} (h : TyB K H x T) (s : Same H H') : TyB K H' x T := by
  cases h with
  | non => exact .non
  | bl b => exact .bl b
  | int i => exact .int i
  | str y => exact .str y
  | byt b => exact .byt b
  | lst h => exact .lst (Same.seq s h)
  | tup h => exact .tup (Evl.ex_t s h)
  | dK h => exact .dK (s _ _ h)
/-- a thing that is no row of n integers -/
def Bad (K : PySem.W.Frag) (H : Hp) (n : Int) (x : V) : Prop :=
  (∃ a xs, x = .ref a ∧ H a = some (.lst xs) ∧ xs.length ≤ 50000 ∧ (∀ y ∈ xs, whole y = true ∨ Odd K H y) ∧ ((xs.length : Int) ≠ n ∨ ∃ y ∈ xs, whole y = false)) ∨
  (∃ T, TyB K H x T ∧ T ≠ "list") ∨ ∃ a C, x = .ref a ∧ H a = some (ExO (.ref C) a)
theorem Bad.up {K : PySem.W.Frag} {H H' : Hp} {n : Int} {x : V} (h : Bad K H n x) (s : Same H H') : Bad K H' n x := by
  rcases h with ⟨a, xs, e, h1, h2, h3, h4⟩ | ⟨T, h1, h2⟩ | ⟨a, C, e, h1⟩
  · exact .inl ⟨a, xs, e, s _ _ h1, h2, fun y hy => (h3 y hy).imp id fun o => o.up s, h4⟩
  · exact .inr (.inl ⟨T, TyB.up h1 s, h2⟩)
  · exact .inr (.inr ⟨a, C, e, s _ _ h1⟩)
def spRowInX (K : PySem.W.Frag) : Sp := fun vs H Q E => spRowIn K vs H Q E ∨ ∃ (a C : Addr) (c lo hi : Int), vs = [.ref a, .int c, .int lo, .int hi] ∧ H a = some (ExO (.ref C) a) ∧ Q (.bl false) H
def spMostOk : Sp := fun vs H Q _ => ∃ t : Int, vs = [.int t] ∧ 0 ≤ t ∧ t ≤ 999999999999999999999999999999 ∧ Q .non H
def spToldOk (K : PySem.W.Frag) : Sp := fun vs H Q _ => ∃ (a : Addr) (ss : List Int) (k t : Int), vs = [.ref a, .int k, .int t] ∧ SqL K H a (ss.map V.int) ∧
  1 ≤ ss.length ∧ 1 ≤ k ∧ k ≤ 8 ∧ k + ss.length ≤ 68 ∧ 0 ≤ t ∧ t ≤ 999999999999999999999999999999 ∧ ∀ H', Same H H' → Q .non H'
/-- whether numbers are a way -/
def isw (ss : List Int) (k t : Int) (ns : List Int) : Bool := (decide ((ns.length : Int) = ss.length + k - 1) && (ns.map V.int).all (wint 0 t)) && decide (wsums ns k.toNat = ss)
def spIsWay (K : PySem.W.Frag) : Sp := fun vs H Q _ => ∃ (a : Addr) (ss : List Int) (k t : Int) (x : V), vs = [.ref a, .int k, .int t, x] ∧ SqL K H a (ss.map V.int) ∧
  1 ≤ ss.length ∧ 1 ≤ k ∧ k ≤ 8 ∧ k + ss.length ≤ 68 ∧ 0 ≤ t ∧ t ≤ 999999999999999999999999999999 ∧
  ((∃ b ns, x = .ref b ∧ SqL K H b (ns.map V.int) ∧ ns.length ≤ 50000 ∧ ∀ H', Same H H' → Q (.bl (isw ss k t ns)) H') ∨ (Bad K H (ss.length + k - 1) x ∧ ∀ H', Same H H' → Q (.bl false) H'))
/-- numbers out of bounds -/
def outs (t : Int) (ns : List Int) : List Int := ns.filter fun x => decide (x < 0) || decide (t < x)
theorem outs_nil {t : Int} {ns : List Int} : decide (outs t ns = []) = (ns.map V.int).all (wint 0 t) := by
  rw [Bool.eq_iff_iff, decide_eq_true_iff, List.all_map, List.all_eq_true]
  unfold outs
  rw [List.filter_eq_nil_iff]
  refine forall_congr' fun x => forall_congr' fun _ => ?_
  show ¬ (decide (x < 0) || decide (t < x)) = true ↔ (decide (0 ≤ x) && decide (x ≤ t)) = true
  rw [Bool.or_eq_true, Bool.and_eq_true, decide_eq_true_iff, decide_eq_true_iff, decide_eq_true_iff, decide_eq_true_iff]
  omega
theorem outs_yes {t : Int} {ns : List Int} {i : Nat} {x : Int} (h : ns[i]? = some x) (p : (decide (x < 0) || decide (t < x)) = true) : outs t (ns.take (i + 1)) = outs t (ns.take i) ++ [x] := by
  unfold outs
  rw [take_next h, List.filter_append]
  exact congrArg _ (List.filter_cons_of_pos (l := []) p)
theorem outs_no {t : Int} {ns : List Int} {i : Nat} {x : Int} (h : ns[i]? = some x) (p : (decide (x < 0) || decide (t < x)) = false) : outs t (ns.take (i + 1)) = outs t (ns.take i) := by
  unfold outs
  rw [take_next h, List.filter_append]
  have e : [x].filter (fun x => decide (x < 0) || decide (t < x)) = [] := List.filter_cons_of_neg (l := []) (by rw [p]; exact Bool.false_ne_true)
  rw [e, List.append_nil]
theorem outs_len (t : Int) (ns : List Int) : (outs t ns).length ≤ ns.length := List.length_filter_le _ _
def spDue (K : PySem.W.Frag) : Sp := fun vs H Q _ => ∃ (a b : Addr) (ns ss : List Int) (k t : Int), vs = [.ref a, .ref b, .int k, .int t] ∧ SqL K H a (ns.map V.int) ∧ SqL K H b (ss.map V.int) ∧
  1 ≤ ss.length ∧ 1 ≤ k ∧ ns.length ≤ 1000 ∧ ∀ H', Same H H' → Q (.bl (isw ss k t ns)) H'
def spChanged (K : PySem.W.Frag) : Sp := fun vs H Q _ => ∃ (J a : Addr) (ns : List Int) (k n : Int), vs = [.ref J, .ref a, .int k] ∧ Jar H J n ∧ n ≤ 900000000 ∧ SqL K (cut J H) a (ns.map V.int) ∧ 1 ≤ ns.length ∧ ns.length ≤ 67 ∧ 1 ≤ k ∧
  ∀ (H' : Hp) (p : Addr) (ms : List Int), Fr J H H' → Jar H' J (n + 3) → H p = none → H' p = some (.lst ((ms : List Int).map V.int)) → (ms : List Int).length ≤ 68 → Q (.ref p) H'
theorem cut_ints (ns : List Int) (a b : Option Int) : ∃ ms : List Int, cutV (ns.map V.int) a b = ms.map V.int ∧ ms.length ≤ ns.length := by
  unfold cutV
  rw [← List.map_drop, ← List.map_take]
  exact ⟨_, rfl, by rw [List.length_take, List.length_drop]; omega⟩
theorem set_ints (ns : List Int) (j : Nat) (x : Int) : (ns.map V.int).set j (.int x) = (ns.set j x).map V.int := by
  rw [List.map_set]
theorem ixN_in {n : Nat} {i : Int} {j : Nat} (e : i = (j : Int)) (h : j < n) : ixN n i = some j := by
  rw [e]
  unfold ixN
  rw [if_pos (by omega), if_pos (by omega)]
  rfl
/-- two lists of ints, printed -/
theorem shw_two {ns ms : List Int} (h1 : Sml ns) (h2 : Sml ms) (l1 : ns.length ≤ 1000) (l2 : ms.length ≤ 1000) : Shw (.list [dI ns, dI ms]) := by
  have a := shw_ints h1 l1
  have b := shw_ints h2 l2
  refine shw_of ?_ ?_ ?_ ?_
  · have a1 := a.1
    have b1 := b.1
    simp only [PyData.showable, PyData.showableAll] at a1 b1 ⊢
    rw [a1, b1]
    rfl
  · simp only [PyData.hasDict, PyData.hasDictAll, dI, hasDict_ints]
    rfl
  · have c1 := cst_ints ns h1
    have c2 := cst_ints ms h2
    have e1 : ns.length * (1000 + 5) ≤ 1000 * 1005 := Nat.mul_le_mul l1 (Nat.le_refl _)
    have e2 : ms.length * (1000 + 5) ≤ 1000 * 1005 := Nat.mul_le_mul l2 (Nat.le_refl _)
    show (cstA (ns.map PyData.int) + 4) + 2 + ((cstA (ms.map PyData.int) + 4) + 2 + 0) + 4 ≤ _
    omega
  · have d1 : (dI ns).depth = 1 := by
      show PyData.depthAll (ns.map PyData.int) + 1 = 1
      rw [depth_ints]
    have d2 : (dI ms).depth = 1 := by
      show PyData.depthAll (ms.map PyData.int) + 1 = 1
      rw [depth_ints]
    simp only [PyData.depth, PyData.depthAll] at d1 d2 ⊢
    omega
end Ws
namespace Ws
open PySem PySem.Spec PyProof.Rows L2
/-- a new object, its heap named anew -/
@[elab_as_elim] theorem lay {motive : Hp → Prop} (G : Hp) {H : Hp} {p : Addr} {o : HO} (e : G = upd H p o) (h : H p = none) (k : ∀ G, Same H G → G p = some o → motive G) : motive G := by
  subst e
  exact k _ (Same.new h) upd_same
theorem cut_two {O J : Addr} {H H' : Hp} (s : Same H H') : Same (cut O (cut J H)) (cut O (cut J H')) := cut_mono (cut_mono s)
theorem cut_two_put {O J : Addr} {H : Hp} {o : HO} : cut O (cut J (upd H O o)) = cut O (cut J H) := by
  funext b
  unfold cut
  split
  · rfl
  · rename_i n
    split
    · rfl
    · exact upd_ne n
theorem cut_two_some {O J b : Addr} {H : Hp} {o : HO} (h : cut O (cut J H) b = some o) : H b = some o := (cut_some (cut_some h).2).2
theorem cut_two_of {O J b : Addr} {H : Hp} {o : HO} (h : H b = some o) (n : b ≠ O) (m : b ≠ J) : cut O (cut J H) b = some o := by
  rw [cut_ne n, cut_ne m]
  exact h
/-- behind a list that is new, too -/
theorem Fr.over {O J : Addr} {H H' H2 : Hp} (f : Fr J H H') (hO : H O = none) (s : Same (cut O (cut J H')) (cut O (cut J H2))) : Fr J H H2 := fun b o e => by
  have n : b ≠ O := fun z => by
    have := (cut_some e).2
    rw [z, hO] at this
    cases this
  have h1 := f b o e
  have h2 := s b o (by rw [cut_ne n]; exact h1)
  exact (cut_some h2).2
theorem DpAll.same {K : PySem.W.Frag} {H : Hp} {x : V} {d : PyData} (h : Dp K H x d) : ∀ n, DpAll K H (List.replicate n x) (List.replicate n d)
  | 0 => .nil
  | n + 1 => .cons h (DpAll.same h n)
theorem shw_bool (b : Bool) : Shw (.bool b) := shw_of rfl rfl (by show 8 ≤ _; decide) (by show 0 ≤ 60; decide)
end Ws
namespace Ws
open PySem PySem.Spec PyProof.Rows L2
theorem Fr.over2 {O J : Addr} {H H' H2 : Hp} (f : Fr J H H') (hO : H O = none) (s : Fr O H' H2) : Fr J H H2 := fun b o e => by
  have n : b ≠ O := fun z => by
    have := (cut_some e).2
    rw [z, hO] at this
    cases this
  obtain ⟨m, h1⟩ := cut_some (f b o e)
  rw [cut_ne m]
  exact s.get n h1
theorem Jar.fr {H H' : Hp} {J p : Addr} {n : Int} (h : Jar H J n) (f : Fr p H H') (hp : J ≠ p) : Jar H' J n := by
  obtain ⟨a, b, c, h1, h2⟩ := h
  exact ⟨a, b, c, f.get hp h1, h2⟩
theorem picked_in {n : Nat} {p : Int → Bool} {i : Nat} {x : V} (h : ((picked n p).map V.int)[i]? = some x) : ∃ z : Int, x = .int z ∧ 0 ≤ z ∧ z < n := by
  obtain ⟨y, hy, rfl⟩ := int_at h
  have := mem_picked.mp (List.mem_of_getElem? hy)
  exact ⟨y, rfl, this.1, this.2.1⟩
end Ws

set_option Elab.async false
set_option linter.all false
set_option maxRecDepth 100000
set_option maxHeartbeats 4000000
namespace Ws
open PySem PySem.Spec PyProof.Rows L2
/-! ### every k-th item from place i on -/
def stepL {α : Type} (xs : List α) (i k : Nat) : List α := (List.range ((xs.length - i + k - 1) / k)).filterMap fun j => xs[i + k * j]?
theorem step_count (n i : Nat) {k : Nat} (hk : 1 ≤ k) : (n - i + k - 1) / k ≤ n := by
  rcases Nat.eq_zero_or_pos (n - i) with z | z
  · rw [z, Nat.div_eq_of_lt (by omega)]
    exact Nat.zero_le _
  · refine Nat.le_trans (Nat.div_le_of_le_mul (n := n - i) ?_) (Nat.sub_le _ _)
    have e1 : n - i = (n - i - 1) + 1 := by omega
    have e2 : k * ((n - i - 1) + 1) = k * (n - i - 1) + k := by rw [Nat.mul_add, Nat.mul_one]
    have e3 : n - i - 1 ≤ k * (n - i - 1) := Nat.le_mul_of_pos_left _ (by omega)
    rw [← e1] at e2
    omega
theorem step_map {α β : Type} (f : α → β) (xs : List α) (i k : Nat) : stepL (xs.map f) i k = (stepL xs i k).map f := by
  unfold stepL
  rw [List.length_map, List.map_filterMap]
  congr 1
  funext j
  rw [List.getElem?_map]
theorem vals_filter {xs : List V} {us : List Value} (r : Vals xs us) (g : Nat → Nat) : ∀ js : List Nat, Vals (js.filterMap fun j => xs[g j]?) (js.filterMap fun j => us[g j]?)
  | [] => .nil
  | j :: t => by
    have ih := vals_filter r g t
    cases e : xs[g j]? with
    | none =>
      have hl := r.length
      have e2 : us[g j]? = none := by
        rw [List.getElem?_eq_none_iff] at e ⊢
        omega
      rw [List.filterMap_cons_none (f := fun j => xs[g j]?) e, List.filterMap_cons_none (f := fun j => us[g j]?) e2]
      exact ih
    | some x =>
      obtain ⟨u, e2, ru⟩ := r.get e
      rw [List.filterMap_cons_some (f := fun j => xs[g j]?) e, List.filterMap_cons_some (f := fun j => us[g j]?) e2]
      exact .cons ru ih
theorem vals_step {xs : List V} {us : List Value} (r : Vals xs us) (i k : Nat) : Vals (stepL xs i k) (stepL us i k) := by
  unfold stepL
  rw [← r.length]
  exact vals_filter r _ _
theorem step_mem {α : Type} {xs : List α} {i k : Nat} (hk : 1 ≤ k) {y : α} : y ∈ stepL xs i k ↔ ∃ j, xs[i + k * j]? = some y := by
  unfold stepL
  rw [List.mem_filterMap]
  constructor
  · rintro ⟨j, _, h⟩
    exact ⟨j, h⟩
  · rintro ⟨j, h⟩
    refine ⟨j, List.mem_range.mpr ?_, h⟩
    have hlt := (List.getElem?_eq_some_iff.mp h).1
    rw [Nat.lt_div_iff_mul_lt (by omega)]
    have : j * k = k * j := Nat.mul_comm _ _
    omega
theorem pick_step (us : List Value) (i k : Nat) (hi : i ≤ us.length) (hk : 1 ≤ k) : slicePick us.toArray (some (i : Int)) none (some (k : Int)) = (stepL us i k).toArray := by
  unfold slicePick stepL
  have eb : sliceBounds (some (i : Int)) none (some (k : Int)) us.toArray.size = ((i : Int), (us.length : Int), (k : Int)) := by
    rw [List.size_toArray]
    unfold sliceBounds
    simp
    omega
  rw [eb]
  congr 1
  unfold sliceRange
  have hk0 : (0 : Int) < k := by omega
  have ec : ((if (k : Int) > 0 then (if (i : Int) < us.length then ((us.length : Int) - i + k - 1) / k else 0) else (if (i : Int) > us.length then ((i : Int) - us.length - k - 1) / (-k) else 0) : Int)).toNat = (us.length - i + k - 1) / k := by
    rw [if_pos hk0]
    by_cases h : (i : Int) < us.length
    · rw [if_pos h]
      have e1 : (us.length : Int) - i + k - 1 = ((us.length - i + k - 1 : Nat) : Int) := by omega
      rw [e1, ← Int.natCast_ediv]
      rfl
    · rw [if_neg h]
      have e1 : us.length - i + k - 1 = k - 1 := by omega
      rw [e1, Nat.div_eq_of_lt (by omega)]
      rfl
  simp only
  rw [ec, List.filterMap_map]
  congr 1
  funext j
  show us.toArray[((i : Int) + k * (j : Int)).toNat]? = _
  have e2 : ((i : Int) + k * (j : Int)).toNat = i + k * j := by
    have : (k : Int) * (j : Int) = ((k * j : Nat) : Int) := by rw [Int.natCast_mul]
    omega
  rw [e2, List.getElem?_toArray]
end Ws
namespace Ws
open PySem PySem.Spec PyProof.Rows L2
section
variable {X : Cx} {K : PySem.W.Frag}
/-- xs[i::k] -/
def tStep (K : PySem.W.Frag) (te : TE) (tl ts : TO) : TE := fun σ H Q => te σ H fun x H1 => tl σ H1 fun l H2 => ts σ H2 fun st H3 => ∃ (a : Addr) (xs : List V) (i k : Int), x = .ref a ∧ l = some i ∧ st = some k ∧ SqL K H3 a xs ∧
  0 ≤ i ∧ i ≤ xs.length ∧ 1 ≤ k ∧ ∀ p, H3 p = none → Q (.ref p) (upd H3 p (.lst (stepL xs i.toNat k.toNat)))
theorem pe_stepL {e lo st : Expr} {te : TE} {tl ts : TE} {p3 pos : Pos} (he : PE X e te) (hl : PE X lo tl) (hst : PE X st ts) (hK : X.K = K := by rfl) :
    PE X (.Subscript e (.Slice (some lo) none (some st) p3) pos) (tStep K te (tPart tl) (tPart ts)) := by
  subst hK
  refine ⟨fun pins s σ H Q I h => ?_⟩
  refine Subscript_ (thn (he.run pins s σ H _ I h) fun v s1 ⟨x, H1, I1, r1, q1⟩ => ?_)
  refine wpAny_Slice (thn ((po_some hl).run pins s1 σ H1 _ I1 q1) fun vl s2 ⟨l, H2, I2, pl, q2⟩ => ?_)
  refine thn (po_none.run pins s2 σ H2 (fun o H3 => o = none ∧ H3 = H2) I2 ⟨rfl, rfl⟩) fun vu s3 ⟨u, H3, I3, pu, eu, e3⟩ => ?_
  subst eu e3
  refine thn ((po_some hst).run pins s3 σ H3 _ I3 q2) fun vs s4 ⟨o, H4, I4, ps, a, xs, i, k, ex, el, eo, hx, i0, i1, k1, q⟩ => ?_
  subst ex el eo
  cases r1
  have I5 : Inv X pins σ H4 { s4 with heap := s4.heap.push { cls := .type "slice", data := .fields #[vl, vu, vs] } } := I4.kept (t' := s4.toks) fun b ob q => Heap.get?_push_of_some _ q
  obtain ⟨its, r, ht, hz⟩ := I5.list hx
  have hlen := r.length
  show wpAny (model X.prog X.w) X.A (subscriptTail e (.Slice (some lo) none (some st) p3) (.ref a) (.ref s4.heap.objs.size)) (EP X pins σ Q) X.xe { s4 with heap := s4.heap.push { cls := .type "slice", data := .fields #[vl, vu, vs] } }
  refine tail_any (ops := [.ref a, .ref s4.heap.objs.size]) ht.isList.typeIs (PySem.slot_list_getitem.lookup) ?_ (by with_unfolding_all rfl)
  refine wpAny_getItem_list_slice ht.isList (Heap.IsSliceOf.new _ vl vu vs) pl pu ps (by intro z; have := Option.some.inj z; omega) ?_ (by rw [List.size_toArray]; omega)
  have ei : i = (i.toNat : Int) := by omega
  have ek : k = (k.toNat : Int) := by omega
  rw [ei, ek, pick_step its i.toNat k.toNat (by omega) (by omega)]
  refine ⟨.ref _, _, I5.laid (t' := s4.toks) (o := .lst (stepL xs i.toNat k.toNat)) (fun b ob q => Heap.get?_push_of_some _ q) (Nat.le_refl _) ?_, rfl, q _ (I5.hok.fresh (Nat.le_refl _))⟩
  have hc : (stepL xs i.toNat k.toNat).length ≤ sizeLine := by
    refine Nat.le_trans (List.length_filterMap_le _ _) ?_
    rw [List.length_range]
    have := step_count xs.length i.toNat (show 1 ≤ k.toNat by omega)
    omega
  exact ⟨hc, _, 0, vals_step r _ _, Heap.get?_push_size _ rfl⟩
/-- min(xs) of a list of pairs: one of them -/
def rMinP (K : PySem.W.Frag) : List V → Hp → VK → Prop := fun vs H Q => ∃ (p : Addr) (as : List Addr) (ps : List (Int × Int)), vs = [.ref p] ∧ SqL K H p (as.map V.ref) ∧ as.length = ps.length ∧ 0 < ps.length ∧
  (∀ (i : Nat) a q, as[i]? = some a → ps[i]? = some q → H a = some (.tup [.int q.1, .int q.2])) ∧
  ∀ (i : Nat) a q, as[i]? = some a → ps[i]? = some q → Q (.ref a) H
theorem dp_pairs {K : PySem.W.Frag} {H : Hp} : ∀ (as : List Addr) (ps : List (Int × Int)), as.length = ps.length → (∀ (i : Nat) a q, as[i]? = some a → ps[i]? = some q → H a = some (.tup [.int q.1, .int q.2])) →
    DpAll K H (as.map V.ref) (ps.map fun q => PyData.tuple [.int q.1, .int q.2])
  | [], [], _, _ => .nil
  | [], _ :: _, h, _ => by cases h
  | _ :: _, [], h, _ => by cases h
  | a :: as, q :: ps, h, hh => .cons (.tup (SqT.of (hh 0 a q rfl rfl)) (.cons (.int _) (.cons (.int _) .nil))) (dp_pairs as ps (Nat.succ.inj h) fun i a q h1 h2 => hh (i + 1) a q h1 h2)
theorem minP (hc : X.calm = true) (hu : X.A.units + 64 < cLine) (h : X.K = K := by rfl) : CallR X (.builtin "min") (rMinP K) := by
  subst h
  intro pins s σ H vs us Q I r hh
  obtain ⟨p, as, ps, rfl, hs, hl, hp, ht, q⟩ := hh
  obtain ⟨its, rv, hL, hz⟩ := I.list hs
  rw [Vals.ref1 r]
  cases ps with
  | nil => cases hp
  | cons q0 qs =>
    obtain ⟨bs, rd⟩ := Dp.readsAll I _ _ its (dp_pairs as (q0 :: qs) hl ht) rv
    have al : PySem.W.AlikeAll ((q0 :: qs).map fun q => PyData.tuple [.int q.1, .int q.2]) := by
      refine ⟨fun x hx y hy => ?_, fun x hx => ?_⟩
      · obtain ⟨a, _, rfl⟩ := List.mem_map.mp hx
        obtain ⟨b, _, rfl⟩ := List.mem_map.mp hy
        simp [PySem.W.alike, PySem.W.alikeAll]
      · obtain ⟨a, _, rfl⟩ := List.mem_map.mp hx
        intro z
        cases z
    have dep : PyData.depthAll ((q0 :: qs).map fun q => PyData.tuple [.int q.1, .int q.2]) ≤ 1 := by
      generalize q0 :: qs = l
      induction l with
      | nil => exact Nat.zero_le _
      | cons a t ih =>
        rw [List.map_cons]
        simp only [PyData.depthAll, PyData.depth] at ih ⊢
        omega
    refine PySem.W.min_list_data (vs := its.toArray) (I.ok.hd hc) hL.isList (by rw [List.toList_toArray]; exact rd) al (by show X.A.units + 1 + PyData.depthAll ((q0 :: qs).map fun q => PyData.tuple [.int q.1, .int q.2]) < cLine; omega) fun i v h' tk cs hv hr hk => ?_
    rw [List.getElem?_toArray] at hv
    have hi : i < its.length := (List.getElem?_eq_some_iff.mp hv).1
    have hr2 := rv.length
    rw [List.length_map] at hr2
    have ha : as[i]? = some as[i] := List.getElem?_eq_getElem (by omega)
    have hq : (q0 :: qs)[i]? = some (q0 :: qs)[i] := List.getElem?_eq_getElem (by omega)
    obtain ⟨u, hu2, ru⟩ := rv.get (x := V.ref as[i]) (i := i) (by rw [List.getElem?_map, ha]; rfl)
    rw [hv] at hu2
    cases hu2
    exact ⟨.ref as[i], H, I.kept hk, ru, q i _ _ ha hq⟩
end
/-- the turns of a step range, for a comprehension -/
theorem lc_rangeC {lo c : Int} {n : Nat} {g : TG} {tt : TT} {te : TE} {vs : List Nat} {σ : L2.St} {H1 : Hp} {D : Addr} {Qd : Hp → Prop} (Pv : Nat → Hp → Prop) (h0 : Pv 0 (upd H1 D (.lst [])))
    (hs : ∀ i H, i < n → Pv i H → g (.int (lo + (i : Nat) * c)) (wipe σ vs) H fun σ2 H2 => wipe σ2 vs = wipe σ vs ∧ tt σ2 H2 fun b H3 =>
      if b = true then te σ2 H3 fun y H4 => ∃ acc, H4 D = some (.lst acc) ∧ acc.length < sizeLine ∧ Pv (i + 1) (upd H4 D (.lst (acc ++ [y]))) else Pv (i + 1) H3) (hd : ∀ H, Pv n H → Qd H) :
    ∃ W : Nat → Nat → Hp → Prop, (∃ m, W 0 m (upd H1 D (.lst []))) ∧ ∀ i m H, W i m H →
      ((Itc lo c n).stop i H ∧ Qd H) ∨ ((Itc lo c n).go i H ∧ ∃ Nx : Hp → Prop, (∀ H', Nx H' → ∃ m', m' < m ∧ W (i + 1) m' H') ∧ ∀ x H', (Itc lo c n).yld i H x H' → g x (wipe σ vs) H' fun σ2 H2 => wipe σ2 vs = wipe σ vs ∧ tt σ2 H2 fun b H3 =>
        if b = true then te σ2 H3 fun y H4 => ∃ acc, H4 D = some (.lst acc) ∧ acc.length < sizeLine ∧ Nx (upd H4 D (.lst (acc ++ [y]))) else Nx H3) := by
  refine ⟨fun i m H => m = n - i ∧ i ≤ n ∧ Pv i H, ⟨n, by simp, Nat.zero_le _, h0⟩, ?_⟩
  rintro i m H ⟨rfl, hi, p⟩
  by_cases hlt : i < n
  · refine .inr ⟨hlt, Pv (i + 1), fun H' p' => ⟨n - (i + 1), by omega, rfl, hlt, p'⟩, fun x H' y => ?_⟩
    obtain ⟨e, y⟩ := y
    subst e y
    exact hs i _ hlt p
  · have e : i = n := by omega
    subst e
    exact .inl ⟨Nat.le_refl _, hd H p⟩
end Ws

set_option Elab.async false
set_option linter.all false
set_option maxRecDepth 100000
set_option maxHeartbeats 4000000
namespace Ws
open PySem PySem.Spec PyProof.Rows L2
/-! ### ranges with steps -/
theorem rg_step {r k n : Int} (h0 : 0 ≤ r) (hr : r ≤ 5000) (hn0 : 0 ≤ n) (hn : n ≤ 1000) (hk : 1 ≤ k) (hk8 : k ≤ 8) : RgC r n k ((n.toNat - r.toNat + k.toNat - 1) / k.toNat) := by
  by_cases h : r < n
  · have a := rg_tied h0 h hn hk hk8
    have e : ((n - r - 1) / k + 1).toNat = (n.toNat - r.toNat + k.toNat - 1) / k.toNat := by
      have ek : k = (k.toNat : Int) := by omega
      have e1 : n - r - 1 = ((n.toNat - r.toNat - 1 : Nat) : Int) := by omega
      rw [e1]
      conv => lhs; rw [ek]
      rw [← Int.natCast_ediv]
      have e2 : n.toNat - r.toNat + k.toNat - 1 = (n.toNat - r.toNat - 1) + k.toNat := by omega
      rw [e2, Nat.add_div_right _ (by omega)]
      generalize (n.toNat - r.toNat - 1) / k.toNat = z
      show ((z : Int) + 1).toNat = z + 1
      omega
    rw [← e]
    exact a
  · have e : (n.toNat - r.toNat + k.toNat - 1) / k.toNat = 0 := Nat.div_eq_of_lt (by omega)
    rw [e]
    refine ⟨by omega, by omega, ?_, ?_⟩
    · have fit : ∀ x : Int, -100000 ≤ x → x ≤ 100000 → Builtin.Range.rangeFitsLong x = true := fun x a b => by
        unfold Builtin.Range.rangeFitsLong
        simp only [Bool.and_eq_true, decide_eq_true_eq]
        omega
      unfold Builtin.Range.small
      have es : Builtin.Range.rangeSize r n k = 0 := by
        unfold Builtin.Range.rangeSize
        rw [if_pos (by omega), if_neg h]
      rw [es, fit r (by omega) (by omega), fit n (by omega) (by omega), fit k (by omega) (by omega), fit 0 (by omega) (by omega), if_pos (show k > 0 by omega), fit _ (by omega) (by omega)]
      simp
    · unfold Builtin.Range.rangeSize
      rw [if_pos (by omega), if_neg h]
      rfl
theorem cnt_lt {m k j : Nat} (hk : 1 ≤ k) (h : j < (m + k - 1) / k) : k * j < m := by
  rw [Nat.lt_div_iff_mul_lt (by omega)] at h
  have : j * k = k * j := Nat.mul_comm _ _
  omega
/-- the items by steps, one by one -/
theorem step_eq {α : Type} (xs : List α) (i k : Nat) (hk : 1 ≤ k) (d : α) : stepL xs i k = (List.range ((xs.length - i + k - 1) / k)).map fun j => xs.getD (i + k * j) d := by
  unfold stepL
  have e : ∀ js : List Nat, (∀ j ∈ js, i + k * j < xs.length) → js.filterMap (fun j => xs[i + k * j]?) = js.map fun j => xs.getD (i + k * j) d := by
    intro js
    induction js with
    | nil => intro _; rfl
    | cons j t ih =>
      intro h
      have hj := h j List.mem_cons_self
      rw [List.filterMap_cons_some (f := fun j => xs[i + k * j]?) (List.getElem?_eq_getElem hj), List.map_cons, ih fun x hx => h x (List.mem_cons_of_mem _ hx), List.getD_eq_getElem?_getD, List.getElem?_eq_getElem hj]
      rfl
  refine e _ fun j hj => ?_
  have := cnt_lt hk (List.mem_range.mp hj)
  omega
/-! ### the least and the greatest of a list -/
def mn : List Int → Int
  | [] => 0
  | a :: r => r.foldl min a
theorem mn_fold : ∀ (r : List Int) (a : Int), (r.foldl min a = a ∨ r.foldl min a ∈ r) ∧ r.foldl min a ≤ a ∧ ∀ y ∈ r, r.foldl min a ≤ y
  | [], a => ⟨.inl rfl, Int.le_refl a, fun y h => absurd h List.not_mem_nil⟩
  | b :: r, a => by
    obtain ⟨h1, h2, h3⟩ := mn_fold r (min a b)
    rw [List.foldl_cons]
    refine ⟨?_, by omega, fun y hy => ?_⟩
    · rcases h1 with e | e
      · rw [e]
        rcases Int.le_total a b with z | z
        · rw [Int.min_eq_left z]
          exact .inl rfl
        · rw [Int.min_eq_right z]
          exact .inr List.mem_cons_self
      · exact .inr (List.mem_cons_of_mem _ e)
    · rcases List.mem_cons.mp hy with e | e
      · rw [e]
        omega
      · exact h3 y e
theorem mn_mem {l : List Int} (h : 0 < l.length) : mn l ∈ l := by
  cases l with
  | nil => cases h
  | cons a r =>
    rcases (mn_fold r a).1 with e | e
    · show r.foldl min a ∈ _
      rw [e]
      exact List.mem_cons_self
    · exact List.mem_cons_of_mem _ e
theorem mn_le {l : List Int} {y : Int} (h : y ∈ l) : mn l ≤ y := by
  cases l with
  | nil => cases h
  | cons a r =>
    rcases List.mem_cons.mp h with e | e
    · rw [e]
      exact (mn_fold r a).2.1
    · exact (mn_fold r a).2.2 y e
theorem mn_uniq {l : List Int} {m : Int} (h : m ∈ l) (hm : ∀ y ∈ l, m ≤ y) : m = mn l := by
  have a := mn_le h
  have b := hm _ (mn_mem (List.length_pos_of_mem h))
  omega
def mx (l : List Int) : Int := -(mn (l.map fun x => -x))
theorem mx_mem {l : List Int} (h : 0 < l.length) : mx l ∈ l := by
  have := mn_mem (l := l.map fun x => -x) (by rw [List.length_map]; exact h)
  obtain ⟨x, hx, e⟩ := List.mem_map.mp this
  unfold mx
  rw [← e, Int.neg_neg]
  exact hx
theorem le_mx {l : List Int} {y : Int} (h : y ∈ l) : y ≤ mx l := by
  have := mn_le (List.mem_map.mpr ⟨y, h, rfl⟩ : -y ∈ l.map fun x => -x)
  unfold mx
  omega
theorem mx_uniq {l : List Int} {m : Int} (h : m ∈ l) (hm : ∀ y ∈ l, y ≤ m) : m = mx l := by
  have a := le_mx h
  have b := hm _ (mx_mem (List.length_pos_of_mem h))
  omega
/-! ### ranges of the first days -/
def rngs (os : List Int) (k : Nat) (t : Int) : List (Int × Int) := (List.range k).map fun c => (-(mn (stepL os c k)), t - mx (stepL os c k))
/-- starts, as little as possible first; b: by how much less than the high ends -/
def tak : List (Int × Int) → Int → List Int
  | [], _ => []
  | q :: r, b => (q.2 - min b (q.2 - q.1)) :: tak r (b - min b (q.2 - q.1))
def wf (st os : List Int) : List Int := (List.range os.length).map fun d => st.getD (d % st.length) 0 + os.getD d 0
/-- a list of pairs in a heap -/
def PairsAt (K : PySem.W.Frag) (H : Hp) (p : Addr) (ps : List (Int × Int)) : Prop := ∃ as : List Addr, SqL K H p (as.map V.ref) ∧ as.length = ps.length ∧ ∀ (i : Nat) a q, as[i]? = some a → ps[i]? = some q → H a = some (.tup [.int q.1, .int q.2])
theorem PairsAt.up {K : PySem.W.Frag} {H H' : Hp} {p : Addr} {ps : List (Int × Int)} (h : PairsAt K H p ps) (s : Same H H') : PairsAt K H' p ps := by
  obtain ⟨as, h1, h2, h3⟩ := h
  exact ⟨as, Same.seq s h1, h2, fun i a q e1 e2 => s _ _ (h3 i a q e1 e2)⟩
theorem PairsAt.get {K : PySem.W.Frag} {H : Hp} {p : Addr} {ps : List (Int × Int)} (h : PairsAt K H p ps) : ∃ xs : List V, SqL K H p xs ∧ xs.length = ps.length ∧ ∀ (i : Nat) x, xs[i]? = some x → ∃ a q, x = .ref a ∧ ps[i]? = some q ∧ H a = some (.tup [.int q.1, .int q.2]) := by
  obtain ⟨as, h1, h2, h3⟩ := h
  refine ⟨_, h1, by rw [List.length_map]; exact h2, fun i x hx => ?_⟩
  rw [List.getElem?_map] at hx
  cases e : as[i]? with
  | none => rw [e] at hx; cases hx
  | some a =>
    rw [e] at hx
    have hi : i < ps.length := by
      rw [← h2]
      exact (List.getElem?_eq_some_iff.mp e).1
    exact ⟨a, ps[i], (Option.some.inj hx).symm, List.getElem?_eq_getElem hi, h3 i a _ e (List.getElem?_eq_getElem hi)⟩
/-! ### promises -/
def Near (os : List Int) (k : Nat) (t : Int) : Prop := ∀ i j, i < os.length → j < os.length → i % k = j % k → os.getD j 0 - os.getD i 0 ≤ t
def spNear (K : PySem.W.Frag) : Sp := fun vs H Q _ => ∃ (o : Addr) (os : List Int) (k t : Int), vs = [.ref o, .int k, .int t] ∧ SqL K H o (os.map V.int) ∧ os.length ≤ 1000 ∧ 1 ≤ k ∧ k ≤ 8 ∧ Near os k.toNat t ∧ Q .non H
def spLowest (K : PySem.W.Frag) : Sp := fun vs H Q _ => ∃ (o : Addr) (os : List Int) (k : Int), vs = [.ref o, .int k] ∧ SqL K H o (os.map V.int) ∧ os.length ≤ 1000 ∧ 1 ≤ k ∧ k ≤ 8 ∧ k ≤ os.length ∧
  ∀ (H' : Hp) (p : Addr) (ds : List Int), Same H H' → H p = none → H' p = some (.lst (ds.map V.int)) → Choice ds k os.length → Q (.ref p) H'
/-- x is a way -/
structure Way (x ss : List Int) (k t : Int) : Prop where
  has : Has x ss k.toNat
  inn : Btw 0 t x
  k1 : 1 ≤ k
  k8 : k ≤ 8
  n67 : x.length ≤ 67
  t1 : t ≤ 999999999999999999999999999999
theorem Way.bd {x ss : List Int} {k t : Int} (w : Way x ss k t) (i : Nat) (h : i < x.length) : 0 ≤ x.getD i 0 ∧ x.getD i 0 ≤ t := by
  rw [List.getD_eq_getElem?_getD, List.getElem?_eq_getElem h]
  exact w.inn _ (List.getElem_mem h)
def spFree (K : PySem.W.Frag) : Sp := fun vs H Q _ => ∃ (a : Addr) (ss x : List Int) (k t : Int), vs = [.ref a, .int k, .int t] ∧ SqL K H a (ss.map V.int) ∧ Way x ss k t ∧ ∀ H', Same H H' → Q .non H'
def spStarts (K : PySem.W.Frag) : Sp := fun vs H Q _ => ∃ (o : Addr) (os : List Int) (k t : Int), vs = [.ref o, .int k, .int t] ∧ SqL K H o (os.map V.int) ∧ os.length ≤ 1000 ∧ 1 ≤ k ∧ k ≤ 8 ∧ k ≤ os.length ∧
  ∀ (H' : Hp) (p : Addr), Same H H' → H p = none → PairsAt K H' p (rngs os k.toNat t) → Q (.ref p) H'
def spTak (K : PySem.W.Frag) : Sp := fun vs H Q _ => ∃ (r : Addr) (ps : List (Int × Int)) (tot : Int), vs = [.ref r, .int tot] ∧ PairsAt K H r ps ∧ ps.length ≤ 1000 ∧
  ∀ (H' : Hp) (p : Addr), Same H H' → H p = none → H' p = some (.lst ((tak ps ((ps.map (·.2)).sum - tot)).map V.int)) → Q (.ref p) H'
def spWf (K : PySem.W.Frag) : Sp := fun vs H Q _ => ∃ (a o : Addr) (st os : List Int), vs = [.ref a, .ref o] ∧ SqL K H a (st.map V.int) ∧ SqL K H o (os.map V.int) ∧ 1 ≤ st.length ∧ os.length ≤ 1000 ∧
  ∀ (H' : Hp) (p : Addr), Same H H' → H p = none → H' p = some (.lst ((wf st os).map V.int)) → Q (.ref p) H'
/-- the days of a way, the first of them as little as possible -/
def lw (ss : List Int) (k t : Int) : List Int :=
  wf (tak (rngs (offL ss k.toNat (ss.length + k.toNat - 1)) k.toNat t) (((rngs (offL ss k.toNat (ss.length + k.toNat - 1)) k.toNat t).map (·.2)).sum - ss.getD 0 0)) (offL ss k.toNat (ss.length + k.toNat - 1))
def flip2 (q : Int × Int) : Int × Int := (-q.2, -q.1)
def gw (ss : List Int) (k t : Int) : List Int :=
  wf ((tak ((rngs (offL ss k.toNat (ss.length + k.toNat - 1)) k.toNat t).map flip2) ((((rngs (offL ss k.toNat (ss.length + k.toNat - 1)) k.toNat t).map flip2).map (·.2)).sum - -(ss.getD 0 0))).map fun x => -x) (offL ss k.toNat (ss.length + k.toNat - 1))
def spLw (K : PySem.W.Frag) (f : List Int → Int → Int → List Int) : Sp := fun vs H Q _ => ∃ (a : Addr) (ss x : List Int) (k t : Int), vs = [.ref a, .int k, .int t] ∧ SqL K H a (ss.map V.int) ∧ Way x ss k t ∧
  ∀ (H' : Hp) (p : Addr), Same H H' → H p = none → H' p = some (.lst ((f ss k t).map V.int)) → Q (.ref p) H'
theorem tak_len : ∀ (ps : List (Int × Int)) (b : Int), (tak ps b).length = ps.length
  | [], _ => rfl
  | q :: r, b => by
    rw [tak, List.length_cons, List.length_cons, tak_len r]
end Ws

set_option Elab.async false
set_option linter.all false
set_option maxRecDepth 100000
set_option maxHeartbeats 4000000
namespace Ws
open PySem PySem.Spec PyProof.Rows L2
/-! ### starts within ranges -/
def InR : List (Int × Int) → List Int → Prop
  | [], [] => True
  | q :: r, s :: t => q.1 ≤ s ∧ s ≤ q.2 ∧ InR r t
  | _, _ => False
def los (ps : List (Int × Int)) : Int := (ps.map (·.1)).sum
def his (ps : List (Int × Int)) : Int := (ps.map (·.2)).sum
theorem los_cons (q : Int × Int) (r : List (Int × Int)) : los (q :: r) = q.1 + los r := by
  unfold los
  rw [List.map_cons, List.sum_cons]
theorem his_cons (q : Int × Int) (r : List (Int × Int)) : his (q :: r) = q.2 + his r := by
  unfold his
  rw [List.map_cons, List.sum_cons]
theorem InR.len : ∀ {ps : List (Int × Int)} {z : List Int}, InR ps z → z.length = ps.length
  | [], [], _ => rfl
  | _ :: _, [], h => h.elim
  | [], _ :: _, h => h.elim
  | _ :: r, _ :: t, h => by rw [List.length_cons, List.length_cons, InR.len h.2.2]
theorem InR.sums : ∀ {ps : List (Int × Int)} {z : List Int}, InR ps z → los ps ≤ z.sum ∧ z.sum ≤ his ps
  | [], [], _ => ⟨Int.le_refl _, Int.le_refl _⟩
  | _ :: _, [], h => h.elim
  | [], _ :: _, h => h.elim
  | q :: r, s :: t, h => by
    have ih := InR.sums h.2.2
    have a := h.1
    have b := h.2.1
    rw [los_cons, his_cons, List.sum_cons]
    omega
theorem InR.of : ∀ {ps : List (Int × Int)} {z : List Int}, z.length = ps.length → (∀ (i : Nat) q s, ps[i]? = some q → z[i]? = some s → q.1 ≤ s ∧ s ≤ q.2) → InR ps z
  | [], [], _, _ => trivial
  | _ :: _, [], h, _ => by cases h
  | [], _ :: _, h, _ => by cases h
  | q :: r, s :: t, h, f => ⟨(f 0 q s rfl rfl).1, (f 0 q s rfl rfl).2, InR.of (Nat.succ.inj h) fun i a b e1 e2 => f (i + 1) a b e1 e2⟩
theorem InR.get : ∀ {ps : List (Int × Int)} {z : List Int}, InR ps z → ∀ (i : Nat) q s, ps[i]? = some q → z[i]? = some s → q.1 ≤ s ∧ s ≤ q.2
  | [], [], _, _, _, _, h, _ => by simp at h
  | _ :: _, [], h, _, _, _, _, _ => h.elim
  | [], _ :: _, h, _, _, _, _, _ => h.elim
  | q :: r, s :: t, h, 0, a, b, e1, e2 => by
    cases e1
    cases e2
    exact ⟨h.1, h.2.1⟩
  | q :: r, s :: t, h, i + 1, a, b, e1, e2 => InR.get h.2.2 i a b e1 e2
def Ord2 (ps : List (Int × Int)) : Prop := ∀ q ∈ ps, q.1 ≤ q.2
theorem InR.ord : ∀ {ps : List (Int × Int)} {z : List Int}, InR ps z → Ord2 ps
  | [], [], _ => fun q h => absurd h List.not_mem_nil
  | _ :: _, [], h => h.elim
  | [], _ :: _, h => h.elim
  | q :: r, s :: t, h => fun a ha => by
    rcases List.mem_cons.mp ha with e | e
    · rw [e]
      have := h.1
      have := h.2.1
      omega
    · exact InR.ord h.2.2 a e
theorem tak_ok : ∀ (ps : List (Int × Int)) (b : Int), Ord2 ps → 0 ≤ b → b ≤ his ps - los ps → InR ps (tak ps b) ∧ (tak ps b).sum = his ps - b
  | [], b, _, h0, h1 => by
    have e1 : his [] = 0 := rfl
    have e2 : los [] = 0 := rfl
    refine ⟨trivial, ?_⟩
    show (0 : Int) = _
    omega
  | q :: r, b, o, h0, h1 => by
    have hq := o q List.mem_cons_self
    rw [los_cons, his_cons] at h1
    rw [his_cons, tak, List.sum_cons]
    by_cases z : b ≤ q.2 - q.1
    · rw [Int.min_eq_left z]
      have hr : los r ≤ his r := by
        clear h1 z hq
        have o2 : Ord2 r := fun a ha => o a (List.mem_cons_of_mem _ ha)
        clear o
        induction r with
        | nil => exact Int.le_refl _
        | cons a t ih =>
          have := o2 a List.mem_cons_self
          have := ih fun c hc => o2 c (List.mem_cons_of_mem _ hc)
          rw [los_cons, his_cons]
          omega
      have ih := tak_ok r (b - b) (fun a ha => o a (List.mem_cons_of_mem _ ha)) (by omega) (by omega)
      refine ⟨⟨by omega, by omega, ih.1⟩, ?_⟩
      rw [ih.2]
      omega
    · rw [Int.min_eq_right (by omega)]
      have ih := tak_ok r (b - (q.2 - q.1)) (fun a ha => o a (List.mem_cons_of_mem _ ha)) (by omega) (by omega)
      refine ⟨⟨by omega, by omega, ih.1⟩, ?_⟩
      rw [ih.2]
      omega
theorem tak_zero : ∀ (ps : List (Int × Int)), Ord2 ps → (tak ps 0).sum = his ps
  | [], _ => rfl
  | q :: r, o => by
    have hq := o q List.mem_cons_self
    rw [tak, his_cons, List.sum_cons, Int.min_eq_left (by omega)]
    have := tak_zero r fun a ha => o a (List.mem_cons_of_mem _ ha)
    rw [show (0 : Int) - 0 = 0 from rfl, this]
    omega
/-- each start is the lowest, or all later ones are the highest -/
theorem tak_end : ∀ (ps : List (Int × Int)) (b : Int), Ord2 ps → 0 ≤ b → ∀ (c : Nat) q s, ps[c]? = some q → (tak ps b)[c]? = some s → s = q.1 ∨ ((tak ps b).drop (c + 1)).sum = his (ps.drop (c + 1))
  | [], _, _, _, _, _, _, h, _ => by simp at h
  | p :: r, b, o, h0, c, q, s, h1, h2 => by
    have hq := o p List.mem_cons_self
    have o2 : Ord2 r := fun a ha => o a (List.mem_cons_of_mem _ ha)
    cases c with
    | zero =>
      cases h1
      rw [tak] at h2 ⊢
      cases h2
      by_cases z : b ≤ p.2 - p.1
      · rw [Int.min_eq_left z]
        refine .inr ?_
        show (tak r (b - b)).sum = his r
        rw [Int.sub_self]
        exact tak_zero r o2
      · rw [Int.min_eq_right (by omega)]
        exact .inl (by omega)
    | succ c =>
      rw [tak] at h2 ⊢
      exact tak_end r _ o2 (by omega) c q s h1 h2
/-- the least of all -/
theorem tak_min : ∀ (ps : List (Int × Int)) (b : Int) (z : List Int), InR ps z → 0 ≤ b → z.sum = his ps - b → tak ps b = z ∨ List.Lex (· < ·) (tak ps b) z
  | [], _, [], _, _, _ => .inl rfl
  | _ :: _, _, [], h, _, _ => h.elim
  | [], _, _ :: _, h, _, _ => h.elim
  | q :: r, b, s :: t, h, h0, hs => by
    have st := InR.sums h.2.2
    have h1 := h.1
    have h2 := h.2.1
    rw [his_cons, List.sum_cons] at hs
    rw [tak]
    have ge : q.2 - min b (q.2 - q.1) ≤ s := by omega
    by_cases e : q.2 - min b (q.2 - q.1) = s
    · have ih := tak_min r (b - min b (q.2 - q.1)) t h.2.2 (by omega) (by omega)
      rw [e]
      rcases ih with i | i
      · rw [i]
        exact .inl rfl
      · exact .inr (.cons i)
    · exact .inr (.rel (by omega))
theorem flip_los : ∀ ps : List (Int × Int), los (ps.map flip2) = -(his ps)
  | [] => rfl
  | q :: r => by
    rw [List.map_cons, los_cons, his_cons, flip_los r]
    show -q.2 + _ = _
    omega
theorem flip_his : ∀ ps : List (Int × Int), his (ps.map flip2) = -(los ps)
  | [] => rfl
  | q :: r => by
    rw [List.map_cons, los_cons, his_cons, flip_his r]
    show -q.1 + _ = _
    omega
def neg (z : List Int) : List Int := z.map fun x => -x
theorem neg_sum : ∀ z : List Int, (neg z).sum = -z.sum
  | [] => rfl
  | x :: r => by
    show (-x :: neg r).sum = _
    rw [List.sum_cons, List.sum_cons, neg_sum r]
    omega
theorem neg_neg (z : List Int) : neg (neg z) = z := by
  unfold neg
  rw [List.map_map]
  conv => rhs; rw [← List.map_id z]
  refine List.map_congr_left fun x _ => ?_
  show - -x = x
  omega
theorem InR.flip : ∀ {ps : List (Int × Int)} {z : List Int}, InR ps z → InR (ps.map flip2) (neg z)
  | [], [], _ => trivial
  | _ :: _, [], h => h.elim
  | [], _ :: _, h => h.elim
  | q :: r, s :: t, h => by
    have a := h.1
    have b := h.2.1
    refine ⟨?_, ?_, InR.flip h.2.2⟩
    · show -q.2 ≤ -s
      omega
    · show -s ≤ -q.1
      omega
theorem flip_flip (ps : List (Int × Int)) : (ps.map flip2).map flip2 = ps := by
  rw [List.map_map]
  conv => rhs; rw [← List.map_id ps]
  refine List.map_congr_left fun x _ => ?_
  show (- -x.1, - -x.2) = x
  rw [Int.neg_neg, Int.neg_neg]
theorem InR.unflip {ps : List (Int × Int)} {z : List Int} (h : InR (ps.map flip2) z) : InR ps (neg z) := by
  have := h.flip
  rw [flip_flip] at this
  exact this
/-! ### ways from starts -/
theorem wf_len (st os : List Int) : (wf st os).length = os.length := by
  unfold wf
  rw [List.length_map, List.length_range]
theorem wf_at {st os : List Int} {d : Nat} (h : d < os.length) : (wf st os).getD d 0 = st.getD (d % st.length) 0 + os.getD d 0 := by
  unfold wf
  rw [List.getD_eq_getElem?_getD, List.getElem?_map, List.getElem?_range h]
  rfl
theorem range_getD : ∀ (st : List Int), (List.range st.length).map (fun i => st.getD i 0) = st := fun st => by
  refine List.ext_getElem? fun i => ?_
  by_cases h : i < st.length
  · rw [List.getElem?_map, List.getElem?_range h, List.getElem?_eq_getElem h]
    show some (st.getD i 0) = _
    rw [List.getD_eq_getElem?_getD, List.getElem?_eq_getElem h]
    rfl
  · rw [List.getElem?_eq_none (by rw [List.length_map, List.length_range]; omega), List.getElem?_eq_none (by omega)]
theorem rngs_at {os : List Int} {k c : Nat} {t : Int} (h : c < k) : (rngs os k t)[c]? = some (-(mn (stepL os c k)), t - mx (stepL os c k)) := by
  unfold rngs
  rw [List.getElem?_map, List.getElem?_range h]
  rfl
theorem rngs_len (os : List Int) (k : Nat) (t : Int) : (rngs os k t).length = k := by
  unfold rngs
  rw [List.length_map, List.length_range]
theorem way_n {x ss : List Int} {k t : Int} (w : Way x ss k t) : ss.length + k.toNat - 1 = x.length ∧ 1 ≤ ss.length := by
  have := w.has.len
  have := w.has.2.1
  have := w.k1
  omega
/-- the first numbers of a way lie in the ranges -/
theorem way_inr {x ss : List Int} {k t : Int} (w : Way x ss k t) : InR (rngs (offL ss k.toNat x.length) k.toNat t) (x.take k.toNat) ∧ (x.take k.toNat).sum = ss.getD 0 0 := by
  have kn := w.has.2.1
  have k1 := w.k1
  obtain ⟨en, s1⟩ := way_n w
  have lo := offL_len ss k.toNat x.length
  constructor
  · refine InR.of (by rw [rngs_len, List.length_take]; omega) fun i q s h1 h2 => ?_
    have hi : i < k.toNat := by
      have := (List.getElem?_eq_some_iff.mp h1).1
      rw [rngs_len] at this
      exact this
    rw [rngs_at hi] at h1
    cases h1
    rw [List.getElem?_take_of_lt hi] at h2
    have es : x.getD i 0 = s := by
      rw [List.getD_eq_getElem?_getD, h2]
      rfl
    have ne : 0 < (stepL (offL ss k.toNat x.length) i k.toNat).length := by
      refine List.length_pos_of_mem (a := off ss k.toNat i) ((step_mem (by omega)).mpr ⟨0, ?_⟩)
      rw [Nat.mul_zero, Nat.add_zero]
      exact offL_get (by omega)
    have each : ∀ y ∈ stepL (offL ss k.toNat x.length) i k.toNat, 0 ≤ s + y ∧ s + y ≤ t := fun y hy => by
      obtain ⟨j, hj⟩ := (step_mem (by omega)).mp hy
      have hlt := (List.getElem?_eq_some_iff.mp hj).1
      rw [lo] at hlt
      rw [offL_get hlt] at hj
      cases hj
      rw [off_has w.has _ hlt, Nat.add_mul_mod_self_left, Nat.mod_eq_of_lt hi, es]
      have := w.bd _ hlt
      omega
    have a := each _ (mn_mem ne)
    have b := each _ (mx_mem ne)
    constructor
    · show -(mn _) ≤ s
      omega
    · show s ≤ t - mx _
      omega
  · have h := w.has.at (j := 0) (by omega)
    rw [h]
    unfold win
    rw [List.drop_zero]
/-- starts within the ranges, of the right sum, make a way -/
theorem wf_way {x ss st : List Int} {k t : Int} (w : Way x ss k t) (hr : InR (rngs (offL ss k.toNat x.length) k.toNat t) st) (hs : st.sum = ss.getD 0 0) : Way (wf st (offL ss k.toNat x.length)) ss k t := by
  have kn := w.has.2.1
  have k1 := w.k1
  obtain ⟨en, s1⟩ := way_n w
  have lo := offL_len ss k.toNat x.length
  have ls : st.length = k.toNat := by rw [hr.len, rngs_len]
  have ln : (wf st (offL ss k.toNat x.length)).length = x.length := by rw [wf_len, lo]
  generalize hy : wf st (offL ss k.toNat x.length) = y at *
  have at_ : ∀ d, d < x.length → y.getD d 0 = st.getD (d % k.toNat) 0 + off ss k.toNat d := fun d hd => by
    rw [← hy, wf_at (by rw [lo]; exact hd), ls, List.getD_eq_getElem?_getD (l := offL ss k.toNat x.length), offL_get hd]
    rfl
  have inn : Btw 0 t y := by
    intro z hz
    obtain ⟨d, hd, e⟩ := List.getElem_of_mem hz
    have hd2 : d < x.length := by omega
    have e2 : y.getD d 0 = z := by
      rw [List.getD_eq_getElem?_getD, List.getElem?_eq_getElem hd, e]
      rfl
    rw [at_ d hd2] at e2
    have hm : d % k.toNat < k.toNat := Nat.mod_lt _ (by omega)
    have g := hr.get (d % k.toNat) _ (st.getD (d % k.toNat) 0) (rngs_at hm) (by rw [List.getD_eq_getElem?_getD, List.getElem?_eq_getElem (by omega)]; rfl)
    have mem : off ss k.toNat d ∈ stepL (offL ss k.toNat x.length) (d % k.toNat) k.toNat := (step_mem (by omega)).mpr ⟨d / k.toNat, by rw [Nat.mod_add_div]; exact offL_get hd2⟩
    have a := mn_le mem
    have b := le_mx mem
    have c1 : -(mn (stepL (offL ss k.toNat x.length) (d % k.toNat) k.toNat)) ≤ st.getD (d % k.toNat) 0 := g.1
    have c2 : st.getD (d % k.toNat) 0 ≤ t - mx (stepL (offL ss k.toNat x.length) (d % k.toNat) k.toNat) := g.2
    omega
  have w0 : win y 0 k.toNat = ss.getD 0 0 := by
    rw [← win_range (by omega), ← hs]
    have e : (List.range k.toNat).map (fun i => y.getD i 0) = st := by
      conv => rhs; rw [← range_getD st]
      rw [ls]
      refine List.map_congr_left fun i hi => ?_
      have := List.mem_range.mp hi
      rw [at_ i (by omega), Nat.mod_eq_of_lt this, off_lo this]
      omega
    rw [e]
  have wj : ∀ j, j < ss.length → win y j k.toNat = ss.getD j 0 := by
    intro j
    induction j with
    | zero => intro _; exact w0
    | succ j ih =>
      intro hj
      have a := win_step (x := y) (t := j) (k := k.toNat) (by omega)
      have b := ih (by omega)
      have c : off ss k.toNat (j + k.toNat) = off ss k.toNat j + ss.getD (j + 1) 0 - ss.getD j 0 := by
        rw [Nat.add_comm]
        exact off_hi (by omega)
      rw [at_ (j + k.toNat) (by omega), at_ j (by omega), c, Nat.add_mod_right] at a
      omega
  refine ⟨⟨by omega, by omega, ?_⟩, inn, k1, w.k8, by have := w.n67; omega, w.t1⟩
  refine List.ext_getElem? fun i => ?_
  by_cases hi : i < ss.length
  · have h := wj i hi
    rw [wsums_get (by omega), List.getElem?_eq_getElem hi]
    unfold win at h
    rw [h, List.getD_eq_getElem?_getD, List.getElem?_eq_getElem hi]
    rfl
  · rw [List.getElem?_eq_none (by rw [wsums_len]; omega), List.getElem?_eq_none (by omega)]
/-! ### the least and the greatest way -/
theorem tak_at {x ss : List Int} {k t : Int} (w : Way x ss k t) {ps : List (Int × Int)} {z : List Int} (h : InR ps z) (hs : z.sum = ss.getD 0 0) : 0 ≤ his ps - ss.getD 0 0 ∧ his ps - ss.getD 0 0 ≤ his ps - los ps := by
  have := h.sums
  omega
/-- what an end must show: no start can go a step on -/
def EndOk (ps : List (Int × Int)) (tot : Int) (w : List Int) (step : Int) : Prop := ∀ (c : Nat) q s, ps[c]? = some q → w[c]? = some s → q.1 ≤ s + step → s + step ≤ q.2 →
  ¬ (los (ps.drop (c + 1)) ≤ tot - ((w.take c).sum + (s + step)) ∧ tot - ((w.take c).sum + (s + step)) ≤ his (ps.drop (c + 1)))
theorem sum_cut (w : List Int) (c : Nat) (s : Int) (h : w[c]? = some s) : w.sum = (w.take c).sum + s + (w.drop (c + 1)).sum := by
  have hc := (List.getElem?_eq_some_iff.mp h).1
  conv => lhs; rw [← List.take_append_drop c w]
  rw [List.sum_append_int, List.drop_eq_getElem_cons hc, List.sum_cons]
  have e : w[c] = s := (List.getElem?_eq_some_iff.mp h).2
  rw [e]
  omega
theorem end_least {ps : List (Int × Int)} {b tot : Int} (o : Ord2 ps) (h0 : 0 ≤ b) (hs : (tak ps b).sum = tot) : EndOk ps tot (tak ps b) (-1) := by
  intro c q s h1 h2 l1 l2 ⟨l3, l4⟩
  have e := tak_end ps b o h0 c q s h1 h2
  have sc := sum_cut _ c s h2
  rcases e with e | e
  · omega
  · omega
theorem wf_take {st os : List Int} {k : Nat} (ls : st.length = k) (kn : k ≤ os.length) (k1 : 1 ≤ k) (z : ∀ i, i < k → os.getD i 0 = 0) : (wf st os).take k = st := by
  refine List.ext_getElem? fun i => ?_
  by_cases h : i < k
  · rw [List.getElem?_take_of_lt h]
    unfold wf
    rw [List.getElem?_map, List.getElem?_range (by omega)]
    show some (st.getD (i % st.length) 0 + os.getD i 0) = _
    rw [ls, Nat.mod_eq_of_lt h, z i h, List.getD_eq_getElem?_getD, List.getElem?_eq_getElem (by omega)]
    show some (_ + 0) = _
    rw [Int.add_zero]
    rfl
  · rw [List.getElem?_eq_none (by rw [List.length_take]; omega), List.getElem?_eq_none (by omega)]
theorem offL_zeros {ss : List Int} {k n i : Nat} (h : i < k) (kn : k ≤ n) : (offL ss k n).getD i 0 = 0 := by
  rw [List.getD_eq_getElem?_getD, offL_get (by omega)]
  exact off_lo h
/-- what is told of a way -/
structure Told (ss : List Int) (k t : Int) (n : Nat) (step : Int) (y : List Int) : Prop where
  way : Way y ss k t
  len : y.length = n
  fin : EndOk (rngs (offL ss k.toNat n) k.toNat t) (ss.getD 0 0) (y.take k.toNat) step
theorem lw_told {x ss : List Int} {k t : Int} (w : Way x ss k t) : Told ss k t x.length (-1) (lw ss k t) := by
  obtain ⟨en, s1⟩ := way_n w
  obtain ⟨hi, hs⟩ := way_inr w
  have kn := w.has.2.1
  have k1 := w.k1
  unfold lw
  rw [en]
  have sb := hi.sums
  have tk := tak_ok _ (his (rngs (offL ss k.toNat x.length) k.toNat t) - ss.getD 0 0) hi.ord (by omega) (by omega)
  have ts : (tak (rngs (offL ss k.toNat x.length) k.toNat t) (his (rngs (offL ss k.toNat x.length) k.toNat t) - ss.getD 0 0)).sum = ss.getD 0 0 := by omega
  show Told ss k t x.length (-1) (wf (tak (rngs (offL ss k.toNat x.length) k.toNat t) (his (rngs (offL ss k.toNat x.length) k.toNat t) - ss.getD 0 0)) (offL ss k.toNat x.length))
  refine ⟨wf_way w tk.1 ts, by rw [wf_len, offL_len], ?_⟩
  rw [wf_take (k := k.toNat) (by rw [tak_len, rngs_len]) (by rw [offL_len]; exact kn) (by omega) fun i h => offL_zeros h kn]
  exact end_least hi.ord (by omega) ts
theorem drop_neg (z : List Int) (c : Nat) : (neg z).drop c = neg (z.drop c) := by
  unfold neg
  rw [List.map_drop]
theorem take_neg (z : List Int) (c : Nat) : (neg z).take c = neg (z.take c) := by
  unfold neg
  rw [List.map_take]
theorem end_neg {ps : List (Int × Int)} {tot : Int} {z : List Int} (h : EndOk (ps.map flip2) (-tot) z (-1)) : EndOk ps tot (neg z) 1 := by
  intro c q s h1 h2 l1 l2 ⟨l3, l4⟩
  unfold neg at h2
  rw [List.getElem?_map] at h2
  cases e : z[c]? with
  | none => rw [e] at h2; cases h2
  | some v =>
    rw [e] at h2
    cases h2
    have g := h c (flip2 q) v (by rw [List.getElem?_map, h1]; rfl) e
    rw [take_neg, neg_sum] at l3 l4
    rw [← List.map_drop, flip_los, flip_his] at g
    have a1 : (flip2 q).1 = -q.2 := rfl
    have a2 : (flip2 q).2 = -q.1 := rfl
    rw [a1, a2] at g
    have l1' : q.1 ≤ -v + 1 := l1
    have l2' : -v + 1 ≤ q.2 := l2
    have l3' : los (ps.drop (c + 1)) ≤ tot - (-(z.take c).sum + (-v + 1)) := l3
    have l4' : tot - (-(z.take c).sum + (-v + 1)) ≤ his (ps.drop (c + 1)) := l4
    exact g (by omega) (by omega) ⟨by omega, by omega⟩
theorem gw_told {x ss : List Int} {k t : Int} (w : Way x ss k t) : Told ss k t x.length 1 (gw ss k t) := by
  obtain ⟨en, s1⟩ := way_n w
  obtain ⟨hi, hs⟩ := way_inr w
  have kn := w.has.2.1
  have k1 := w.k1
  unfold gw
  rw [en]
  have sb := hi.sums
  have hf := hi.flip
  have sf := hf.sums
  rw [neg_sum] at sf
  have tk := tak_ok _ (his ((rngs (offL ss k.toNat x.length) k.toNat t).map flip2) - -(ss.getD 0 0)) hf.ord (by omega) (by omega)
  have ts : (tak ((rngs (offL ss k.toNat x.length) k.toNat t).map flip2) (his ((rngs (offL ss k.toNat x.length) k.toNat t).map flip2) - -(ss.getD 0 0))).sum = -(ss.getD 0 0) := by omega
  show Told ss k t x.length 1 (wf (neg (tak ((rngs (offL ss k.toNat x.length) k.toNat t).map flip2) (his ((rngs (offL ss k.toNat x.length) k.toNat t).map flip2) - -(ss.getD 0 0)))) (offL ss k.toNat x.length))
  have ir := tk.1.unflip
  refine ⟨wf_way w ir (by rw [neg_sum]; omega), by rw [wf_len, offL_len], ?_⟩
  rw [wf_take (k := k.toNat) (by rw [ir.len, rngs_len]) (by rw [offL_len]; exact kn) (by omega) fun i h => offL_zeros h kn]
  exact end_neg (end_least hf.ord (by omega) ts)
end Ws
namespace Ws
open PySem PySem.Spec PyProof.Rows L2
/-! ### the order of all ways -/
abbrev Lx : List Int → List Int → Prop := List.Lex (· < ·)
theorem lx_app {a b : List Int} (h : Lx a b) : ∀ (c d : List Int), a.length = b.length → Lx (a ++ c) (b ++ d) := by
  induction h with
  | nil => intro c d e; cases e
  | rel h => intro c d _; exact .rel h
  | cons _ ih => intro c d e; exact .cons (ih c d (Nat.succ.inj e))
theorem lx_last {p q : Int} (h : p < q) : ∀ a : List Int, Lx (a ++ [p]) (a ++ [q])
  | [] => .rel h
  | _ :: r => .cons (lx_last h r)
theorem lx_asymm {a b : List Int} (h : Lx a b) : ¬ Lx b a := by
  induction h with
  | nil => intro g; cases g
  | rel h =>
    intro g
    cases g with
    | rel g => omega
    | cons _ => omega
  | cons _ ih =>
    intro g
    cases g with
    | rel g => omega
    | cons g => exact ih g
theorem lx_neg {a b : List Int} (h : Lx a b) : a.length = b.length → Lx (neg b) (neg a) := by
  induction h with
  | nil => intro e; cases e
  | rel h => intro _; exact .rel (Int.neg_lt_neg h)
  | cons _ ih => intro e; exact .cons (ih (Nat.succ.inj e))
theorem allW_lx {ss : List Int} {k top : Nat} (k1 : 1 ≤ k) : ∀ d, (allW ss k top d).Pairwise Lx
  | 0 => List.pairwise_singleton ..
  | d + 1 => by
    rw [allW, List.pairwise_flatMap]
    constructor
    · intro one _
      unfold nextW
      split
      · rw [List.pairwise_map]
        refine List.Pairwise.imp (fun {a b} h => ?_) List.pairwise_lt_range
        exact lx_last (by omega) one
      · split
        · exact List.pairwise_singleton ..
        · exact .nil
    · have ih := allW_lx (ss := ss) (top := top) k1 d
      refine List.Pairwise.imp_of_mem (fun {a b} ha hb h x hx y hy => ?_) ih
      have la := (allW_pre k1 d a ha).len
      have lb := (allW_pre k1 d b hb).len
      have app : ∀ (one z : List Int), z ∈ nextW ss k top d one → ∃ c, z = one ++ c := fun one z hz => by
        unfold nextW at hz
        split at hz
        · obtain ⟨q, _, rfl⟩ := List.mem_map.mp hz
          exact ⟨_, rfl⟩
        · split at hz
          · rw [List.mem_singleton] at hz
            exact ⟨_, hz⟩
          · cases hz
      obtain ⟨c, rfl⟩ := app a x hx
      obtain ⟨e, rfl⟩ := app b y hy
      exact lx_app h c e (by omega)
theorem Way.pre {y ss : List Int} {k t : Int} (w : Way y ss k t) (t0 : 0 ≤ t) : Pre y ss k.toNat t.toNat y.length := by
  refine ⟨rfl, fun z hz => by have := w.inn z hz; omega, fun j hj => ?_⟩
  have := w.has.len
  have := w.has.1
  exact (w.has.at (by omega)).symm
theorem way_all {y ss : List Int} {k t : Int} (w : Way y ss k t) (t0 : 0 ≤ t) : y ∈ allW ss k.toNat t.toNat y.length := by
  have := allW_mem (show 1 ≤ k.toNat from w.has.1) (w.pre t0) y.length (Nat.le_refl _)
  rw [List.take_length] at this
  exact this
theorem all_way {y ss : List Int} {k t : Int} {n : Nat} (h : y ∈ allW ss k.toNat t.toNat n) (en : n = ss.length + k.toNat - 1) (s1 : 1 ≤ ss.length) (k1 : 1 ≤ k) (k8 : k ≤ 8) (n67 : n ≤ 67) (t0 : 0 ≤ t) (t1 : t ≤ 999999999999999999999999999999) : Way y ss k t := by
  have p := allW_pre (by omega) n y h
  have hl := p.len
  rw [en] at p
  refine ⟨p.sums s1 (by omega), fun z hz => by have := p.inn z hz; omega, k1, k8, by omega, t1⟩
/-- a way is made of its first numbers -/
theorem way_wf {x ss : List Int} {k t : Int} (w : Way x ss k t) : wf (x.take k.toNat) (offL ss k.toNat x.length) = x := by
  have kn := w.has.2.1
  have k1 := w.k1
  refine List.ext_getElem? fun i => ?_
  by_cases h : i < x.length
  · unfold wf
    rw [List.getElem?_map, List.getElem?_range (by rw [offL_len]; exact h), List.getElem?_eq_getElem h]
    have hm : i % k.toNat < k.toNat := Nat.mod_lt _ (by omega)
    have lt : (x.take k.toNat).length = k.toNat := by rw [List.length_take]; omega
    show some ((x.take k.toNat).getD (i % (x.take k.toNat).length) 0 + (offL ss k.toNat x.length).getD i 0) = _
    rw [lt, List.getD_eq_getElem?_getD, List.getElem?_take_of_lt hm, ← List.getD_eq_getElem?_getD, List.getD_eq_getElem?_getD (l := offL ss k.toNat x.length), offL_get h]
    show some (_ + off ss k.toNat i) = _
    rw [off_has w.has i h]
    have e : x.getD i 0 = x[i] := by
      rw [List.getD_eq_getElem?_getD, List.getElem?_eq_getElem h]
      rfl
    rw [e]
    congr 1
    omega
  · rw [List.getElem?_eq_none (by rw [wf_len, offL_len]; omega), List.getElem?_eq_none (by omega)]
theorem wf_lx {a b os : List Int} {k : Nat} (la : a.length = k) (lb : b.length = k) (kn : k ≤ os.length) (k1 : 1 ≤ k) (z : ∀ i, i < k → os.getD i 0 = 0) (h : Lx a b) : Lx (wf a os) (wf b os) := by
  rw [← List.take_append_drop k (wf a os), ← List.take_append_drop k (wf b os), wf_take la kn k1 z, wf_take lb kn k1 z]
  exact lx_app h _ _ (by omega)
theorem lw_first {x y ss : List Int} {k t : Int} (w : Way x ss k t) (v : Way y ss k t) : lw ss k t = y ∨ Lx (lw ss k t) y := by
  obtain ⟨en, s1⟩ := way_n w
  have en2 := (way_n v).1
  obtain ⟨hi, hs⟩ := way_inr v
  have kn := v.has.2.1
  have k1 := v.k1
  have sb := hi.sums
  have nn : y.length = x.length := by omega
  unfold lw
  rw [en, ← nn]
  have m := tak_min _ (his (rngs (offL ss k.toNat y.length) k.toNat t) - ss.getD 0 0) _ hi (by omega) (by omega)
  show wf (tak (rngs (offL ss k.toNat y.length) k.toNat t) (his (rngs (offL ss k.toNat y.length) k.toNat t) - ss.getD 0 0)) (offL ss k.toNat y.length) = y ∨ Lx (wf (tak (rngs (offL ss k.toNat y.length) k.toNat t) (his (rngs (offL ss k.toNat y.length) k.toNat t) - ss.getD 0 0)) (offL ss k.toNat y.length)) y
  rcases m with e | e
  · rw [e]
    exact .inl (way_wf v)
  · refine .inr ?_
    have g := wf_lx (os := offL ss k.toNat y.length) (k := k.toNat) (by rw [tak_len, rngs_len]) (by rw [List.length_take]; omega) (by rw [offL_len]; exact kn) (by omega) (fun i h => offL_zeros h kn) e
    rw [way_wf v] at g
    exact g
theorem gw_last {x y ss : List Int} {k t : Int} (w : Way x ss k t) (v : Way y ss k t) : gw ss k t = y ∨ Lx y (gw ss k t) := by
  obtain ⟨en, s1⟩ := way_n w
  have en2 := (way_n v).1
  obtain ⟨hi, hs⟩ := way_inr v
  have kn := v.has.2.1
  have k1 := v.k1
  have nn : y.length = x.length := by omega
  unfold gw
  rw [en, ← nn]
  have hf := hi.flip
  have sf := hf.sums
  rw [neg_sum] at sf
  have m := tak_min _ (his ((rngs (offL ss k.toNat y.length) k.toNat t).map flip2) - -(ss.getD 0 0)) _ hf (by omega) (by rw [neg_sum]; omega)
  show wf (neg (tak ((rngs (offL ss k.toNat y.length) k.toNat t).map flip2) (his ((rngs (offL ss k.toNat y.length) k.toNat t).map flip2) - -(ss.getD 0 0)))) (offL ss k.toNat y.length) = y ∨ Lx y (wf (neg (tak ((rngs (offL ss k.toNat y.length) k.toNat t).map flip2) (his ((rngs (offL ss k.toNat y.length) k.toNat t).map flip2) - -(ss.getD 0 0)))) (offL ss k.toNat y.length))
  have lst : (tak ((rngs (offL ss k.toNat y.length) k.toNat t).map flip2) (his ((rngs (offL ss k.toNat y.length) k.toNat t).map flip2) - -(ss.getD 0 0))).length = k.toNat := by rw [tak_len, List.length_map, rngs_len]
  generalize tak ((rngs (offL ss k.toNat y.length) k.toNat t).map flip2) (his ((rngs (offL ss k.toNat y.length) k.toNat t).map flip2) - -(ss.getD 0 0)) = st at m lst ⊢
  rcases m with e | e
  · rw [e, neg_neg]
    exact .inl (way_wf v)
  · refine .inr ?_
    have ly : (y.take k.toNat).length = k.toNat := by rw [List.length_take]; omega
    have ln : (neg (y.take k.toNat)).length = k.toNat := by
      unfold neg
      rw [List.length_map, ly]
    have e2 := lx_neg e (by rw [lst, ln])
    rw [neg_neg] at e2
    have g := wf_lx (os := offL ss k.toNat y.length) (k := k.toNat) ly (by unfold neg; rw [List.length_map, lst]) (by rw [offL_len]; exact kn) (by omega) (fun i h => offL_zeros h kn) e2
    rw [way_wf v] at g
    exact g
/-- the first and the last of all ways -/
theorem all_ends {x ss : List Int} {k t : Int} (w : Way x ss k t) (t0 : 0 ≤ t) : (allW ss k.toNat t.toNat x.length)[0]? = some (lw ss k t) ∧
    (allW ss k.toNat t.toNat x.length)[(allW ss k.toNat t.toNat x.length).length - 1]? = some (gw ss k t) := by
  obtain ⟨en, s1⟩ := way_n w
  have wl := (lw_told w).way
  have wg := (gw_told w).way
  have ml := way_all wl t0
  have mg := way_all wg t0
  rw [(lw_told w).len] at ml
  rw [(gw_told w).len] at mg
  have pw := allW_lx (ss := ss) (top := t.toNat) (show 1 ≤ k.toNat from w.has.1) x.length
  have all : ∀ y ∈ allW ss k.toNat t.toNat x.length, Way y ss k t := fun y hy => all_way hy en.symm s1 w.k1 w.k8 w.n67 t0 w.t1
  generalize allW ss k.toNat t.toNat x.length = l at *
  constructor
  · obtain ⟨i, hi, e⟩ := List.getElem_of_mem ml
    cases i with
    | zero => rw [List.getElem?_eq_getElem hi, e]
    | succ i =>
      have h0 : 0 < l.length := by omega
      have r := (List.pairwise_iff_getElem.mp pw) 0 (i + 1) h0 hi (by omega)
      rw [e] at r
      rcases lw_first w (all _ (List.getElem_mem h0)) with z | z
      · rw [List.getElem?_eq_getElem h0, z]
      · exact absurd z (lx_asymm r)
  · obtain ⟨i, hi, e⟩ := List.getElem_of_mem mg
    have h0 : l.length - 1 < l.length := by omega
    by_cases z : i = l.length - 1
    · rw [← z, List.getElem?_eq_getElem hi, e]
    · have r := (List.pairwise_iff_getElem.mp pw) i (l.length - 1) hi h0 (by omega)
      rw [e] at r
      rcases gw_last w (all _ (List.getElem_mem h0)) with y | y
      · rw [List.getElem?_eq_getElem h0, y]
      · exact absurd y (lx_asymm r)
end Ws

set_option Elab.async false
set_option linter.all false
set_option maxRecDepth 100000
set_option maxHeartbeats 4000000
namespace Ws
open PySem PySem.Spec PyProof.Rows L2
/-! ### a comprehension over enumerate -/
section
variable {X : Cx} {K : PySem.W.Frag}
theorem piE {e : Expr} {ta : TA} {p pos tpos : Pos} {elts : List Expr} {kk : Nat} (hg : Gl X "enumerate") (hm : X.mg "enumerate" = none) (ha : PA X [e] ta) (h : X.K = K := by rfl) (hs : starEach [e] X.env = [(false, eval e X.env)] := by rfl) :
    PI X (.Tuple elts kk tpos) (.Call (.Name "enumerate" p) [e] [] pos) (iEnum K ta) := by
  subst h
  exact pi_enum hg hm ha hs
end
theorem lc_enum {K : PySem.W.Frag} {a : Addr} {xs : List V} {g : TG} {tt : TT} {te : TE} {vs : List Nat} {σ : L2.St} {H1 : Hp} {D : Addr} {Qd : Hp → Prop} (Pv : Nat → Hp → Prop) (h0 : Pv 0 (upd H1 D (.lst []))) (hl : ∀ i H, i ≤ xs.length → Pv i H → SqL K H a xs)
    (hs : ∀ i x T H, xs[i]? = some x → Pv i H → H T = none → g (.ref T) (wipe σ vs) (upd H T (.tup [.int (i : Nat), x])) fun σ2 H2 => wipe σ2 vs = wipe σ vs ∧ tt σ2 H2 fun b H3 =>
      if b = true then te σ2 H3 fun y H4 => ∃ acc, H4 D = some (.lst acc) ∧ acc.length < sizeLine ∧ Pv (i + 1) (upd H4 D (.lst (acc ++ [y]))) else Pv (i + 1) H3) (hd : ∀ H, Pv xs.length H → Qd H) :
    ∃ W : Nat → Nat → Hp → Prop, (∃ m, W 0 m (upd H1 D (.lst []))) ∧ ∀ i m H, W i m H →
      ((Ite K a).stop i H ∧ Qd H) ∨ ((Ite K a).go i H ∧ ∃ Nx : Hp → Prop, (∀ H', Nx H' → ∃ m', m' < m ∧ W (i + 1) m' H') ∧ ∀ x H', (Ite K a).yld i H x H' → g x (wipe σ vs) H' fun σ2 H2 => wipe σ2 vs = wipe σ vs ∧ tt σ2 H2 fun b H3 =>
        if b = true then te σ2 H3 fun y H4 => ∃ acc, H4 D = some (.lst acc) ∧ acc.length < sizeLine ∧ Nx (upd H4 D (.lst (acc ++ [y]))) else Nx H3) := by
  refine ⟨fun i m H => m = xs.length - i ∧ i ≤ xs.length ∧ Pv i H, ⟨xs.length, by simp, Nat.zero_le _, h0⟩, ?_⟩
  rintro i m H ⟨rfl, hi, p⟩
  have q := hl i H hi p
  by_cases hlt : i < xs.length
  · refine .inr ⟨⟨xs, xs[i], q, by simp [hlt]⟩, Pv (i + 1), fun H' p' => ⟨xs.length - (i + 1), by omega, rfl, hlt, p'⟩, fun x H' y => ?_⟩
    obtain ⟨T, z, rfl, hT, rfl, hz⟩ := y
    exact hs i z T H (hz xs q) p hT
  · have e : i = xs.length := by omega
    subst e
    exact .inl ⟨⟨xs, q, Nat.le_refl _⟩, hd H p⟩
theorem at_neg {xs : List V} {z : Int} {j : Nat} {v : V} (e : z = (j : Int) - xs.length) (hj : j < xs.length) (h : xs[j]? = some v) : atI xs z = some v := by
  unfold atI ixN
  have e2 : (z + xs.length).toNat = j := by omega
  rw [if_neg (by omega)]
  simp only [e]
  have e3 : -(xs.length : Int) ≤ (j : Int) - xs.length := by omega
  first
  | rw [if_pos e3]
    show xs[((j : Int) - xs.length + xs.length).toNat]? = some v
    have : ((j : Int) - xs.length + xs.length).toNat = j := by omega
    rw [this]
    exact h
  | (simp [e3]
     have : ((j : Int) - xs.length + xs.length).toNat = j := by omega
     rw [this]
     exact h)
/-! ### promises of the law's own defs -/
def spBox (K : PySem.W.Frag) : Sp := fun vs H Q _ => ∃ (a : Addr) (ss : List Int) (k t : Int), vs = [.ref a, .int k, .int t] ∧ SqL K H a (ss.map V.int) ∧ 1 ≤ ss.length ∧ 1 ≤ k ∧ k ≤ 8 ∧ k + ss.length ≤ 68 ∧
  ∀ (H' : Hp) (p lo hi : Addr), Same H H' → H p = none → H' p = some (.tup [.ref lo, .ref hi]) →
    H' lo = some (.lst (((rngs (offL ss k.toNat (ss.length + k.toNat - 1)) k.toNat t).map (·.1)).map V.int)) → H' hi = some (.lst (((rngs (offL ss k.toNat (ss.length + k.toNat - 1)) k.toNat t).map (·.2)).map V.int)) → Q (.ref p) H'
def spFits (K : PySem.W.Frag) : Sp := fun vs H Q _ => ∃ (lo hi : Addr) (ps : List (Int × Int)) (tot : Int), vs = [.ref lo, .ref hi, .int tot] ∧ SqL K H lo ((ps.map (·.1)).map V.int) ∧ SqL K H hi ((ps.map (·.2)).map V.int) ∧ Ord2 ps ∧ ps.length ≤ 1000 ∧
  ∀ H', Same H H' → Q (.bl (decide (los ps ≤ tot) && decide (tot ≤ his ps))) H'
def spEnd (K : PySem.W.Frag) : Sp := fun vs H Q _ => ∃ (a b : Addr) (ss y : List Int) (k t st : Int) (n : Nat), vs = [.ref a, .int k, .int t, .ref b, .int st] ∧ SqL K H a (ss.map V.int) ∧ SqL K H b (y.map V.int) ∧ Told ss k t n st y ∧ ∀ H', Same H H' → Q (.bl true) H'
end Ws
namespace Ws
open PySem PySem.Spec PyProof.Rows L2
theorem cut_last (xs : List V) (y : V) : cutV (xs ++ [y]) none (some (-1)) = xs := by
  unfold cutV
  have e : HT.sIx (xs ++ [y]).length (xs ++ [y]).length (some (-1)) = xs.length := by
    show (if (-1 : Int) < 0 then ((-1 : Int) + ((xs ++ [y]).length : Int)).toNat else min (-1 : Int).toNat (xs ++ [y]).length) = _
    rw [if_pos (by decide), List.length_append]
    show ((-1 : Int) + ((xs.length + 1 : Nat) : Int)).toNat = _
    omega
  rw [e, HT.sIx_none, List.drop_zero, Nat.sub_zero, List.take_left]
def spRight5 (K : PySem.W.Frag) : Sp := fun vs H Q _ => ∃ (a : Addr) (ss x : List Int) (k t : Int), vs = [.ref a, .int k, .int t] ∧ SqL K H a (ss.map V.int) ∧ Way x ss k t ∧ ∀ H', Same H H' → Q (.bl true) H'
end Ws
namespace Ws
open PySem PySem.Spec PyProof.Rows L2
/-- numbers that were drawn are a way of their sums -/
theorem way_of {x : List Int} {k t : Int} (k1 : 1 ≤ k) (k8 : k ≤ 8) (kn : k ≤ x.length) (n67 : x.length ≤ 67) (h : Btw 0 t x) (t1 : t ≤ 999999999999999999999999999999) : Way x (wsums x k.toNat) k t :=
  ⟨⟨by omega, by omega, rfl⟩, h, k1, k8, n67, t1⟩
end Ws

set_option Elab.async false
set_option linter.all false
set_option maxRecDepth 100000
set_option maxHeartbeats 4000000
namespace K05
open PySem PySem.Spec PyProof.Rows L2 Ws
def topS (i : Nat) : Stmt := PySem.Challenge.pw_weeksums_k05_least_and_greatest_ways.main.body.getD i (.Pass ⟨0, 0, 0, 0⟩)
abbrev s_is_integer : Stmt := topS 12
theorem sc_is_integer : FnScope ["thing"] ["thing"] (defScope s_is_integer) := ⟨rfl, rfl, rfl, by decide +kernel, rfl, by decide +kernel, by decide +kernel⟩
abbrev s_is_within : Stmt := topS 13
theorem sc_is_within : FnScope ["thing", "low", "high"] ["thing", "low", "high"] (defScope s_is_within) := ⟨rfl, rfl, rfl, by decide +kernel, rfl, by decide +kernel, by decide +kernel⟩
abbrev s_is_row : Stmt := topS 14
theorem sc_is_row : FnScope ["thing", "many", "item"] ["thing", "many"] (defScope s_is_row) := ⟨rfl, rfl, rfl, by decide +kernel, rfl, by decide +kernel, by decide +kernel⟩
abbrev s_check_numbers : Stmt := topS 15
theorem sc_check_numbers : FnScope ["numbers", "length"] ["numbers", "length"] (defScope s_check_numbers) := ⟨rfl, rfl, rfl, by decide +kernel, rfl, by decide +kernel, by decide +kernel⟩
abbrev s_check_row_of_sums : Stmt := topS 16
theorem sc_check_row_of_sums : FnScope ["sums"] ["sums"] (defScope s_check_row_of_sums) := ⟨rfl, rfl, rfl, by decide +kernel, rfl, by decide +kernel, by decide +kernel⟩
abbrev s_check_sums : Stmt := topS 17
theorem sc_check_sums : FnScope ["sums", "length"] ["sums", "length"] (defScope s_check_sums) := ⟨rfl, rfl, rfl, by decide +kernel, rfl, by decide +kernel, by decide +kernel⟩
abbrev s_check_most : Stmt := topS 18
theorem sc_check_most : FnScope ["most"] ["most"] (defScope s_check_most) := ⟨rfl, rfl, rfl, by decide +kernel, rfl, by decide +kernel, by decide +kernel⟩
abbrev s_sums_of : Stmt := topS 20
theorem sc_sums_of : FnScope ["numbers", "length"] ["numbers", "length"] (defScope s_sums_of) := ⟨rfl, rfl, rfl, by decide +kernel, rfl, by decide +kernel, by decide +kernel⟩
abbrev s_row_sums : Stmt := topS 21
theorem sc_row_sums : FnScope ["numbers", "length", "day"] ["numbers", "length"] (defScope s_row_sums) := ⟨rfl, rfl, rfl, by decide +kernel, rfl, by decide +kernel, by decide +kernel⟩
abbrev s_offsets_of : Stmt := topS 22
theorem sc_offsets_of : FnScope ["sums", "length", "offsets", "at"] ["sums", "length"] (defScope s_offsets_of) := ⟨rfl, rfl, rfl, by decide +kernel, rfl, by decide +kernel, by decide +kernel⟩
abbrev s_total_at : Stmt := topS 23
theorem sc_total_at : FnScope ["sums", "offsets", "days", "day"] ["sums", "offsets", "days"] (defScope s_total_at) := ⟨rfl, rfl, rfl, by decide +kernel, rfl, by decide +kernel, by decide +kernel⟩
abbrev s_least_way : Stmt := topS 25
theorem sc_least_way : FnScope ["sums", "length", "most"] ["sums", "length", "most"] (defScope s_least_way) := ⟨rfl, rfl, rfl, by decide +kernel, rfl, by decide +kernel, by decide +kernel⟩
abbrev s_greatest_way : Stmt := topS 26
theorem sc_greatest_way : FnScope ["sums", "length", "most", "offsets", "ranges", "starts", "low", "high", "start"] ["sums", "length", "most"] (defScope s_greatest_way) := ⟨rfl, rfl, rfl, by decide +kernel, rfl, by decide +kernel, by decide +kernel⟩
abbrev s_check_told : Stmt := topS 27
theorem sc_check_told : FnScope ["sums", "length", "most"] ["sums", "length", "most"] (defScope s_check_told) := ⟨rfl, rfl, rfl, by decide +kernel, rfl, by decide +kernel, by decide +kernel⟩
abbrev s_need_way : Stmt := topS 28
theorem sc_need_way : FnScope ["sums", "length", "most", "conflict", "word", "days"] ["sums", "length", "most"] (defScope s_need_way) := ⟨rfl, rfl, rfl, by decide +kernel, rfl, by decide +kernel, by decide +kernel⟩
abbrev s_find_conflict : Stmt := topS 29
theorem sc_find_conflict : FnScope ["sums", "length", "most", "offsets", "pair", "lowest", "highest"] ["sums", "length", "most"] (defScope s_find_conflict) := ⟨rfl, rfl, rfl, by decide +kernel, rfl, by decide +kernel, by decide +kernel⟩
abbrev s_first_apart : Stmt := topS 30
theorem sc_first_apart : FnScope ["offsets", "length", "most", "first", "second"] ["offsets", "length", "most"] (defScope s_first_apart) := ⟨rfl, rfl, rfl, by decide +kernel, rfl, by decide +kernel, by decide +kernel⟩
abbrev s_lowest_days : Stmt := topS 31
theorem sc_lowest_days : FnScope ["offsets", "length", "days", "start", "_", "lowest", "day"] ["offsets", "length"] (defScope s_lowest_days) := ⟨rfl, rfl, rfl, by decide +kernel, rfl, by decide +kernel, by decide +kernel⟩
abbrev s_highest_days : Stmt := topS 32
theorem sc_highest_days : FnScope ["offsets", "length", "offset"] ["offsets", "length"] (defScope s_highest_days) := ⟨rfl, rfl, rfl, by decide +kernel, rfl, by decide +kernel, by decide +kernel⟩
abbrev s_first_way : Stmt := topS 33
theorem sc_first_way : FnScope ["sums", "length", "most", "offsets", "starts"] ["sums", "length", "most"] (defScope s_first_way) := ⟨rfl, rfl, rfl, by decide +kernel, rfl, by decide +kernel, by decide +kernel⟩
abbrev s_start_ranges : Stmt := topS 34
theorem sc_start_ranges : FnScope ["offsets", "length", "most", "ranges", "start", "row"] ["offsets", "length", "most"] (defScope s_start_ranges) := ⟨rfl, rfl, rfl, by decide +kernel, rfl, by decide +kernel, by decide +kernel⟩
abbrev s_least_starts : Stmt := topS 35
theorem sc_least_starts : FnScope ["ranges", "total", "high", "beyond", "starts", "low", "less", "_"] ["ranges", "total"] (defScope s_least_starts) := ⟨rfl, rfl, rfl, by decide +kernel, rfl, by decide +kernel, by decide +kernel⟩
abbrev s_way_from : Stmt := topS 36
theorem sc_way_from : FnScope ["starts", "offsets", "day"] ["starts", "offsets"] (defScope s_way_from) := ⟨rfl, rfl, rfl, by decide +kernel, rfl, by decide +kernel, by decide +kernel⟩
abbrev s__law_jar : Stmt := topS 38
theorem sc__law_jar : FnScope ["script", "k", "cell_here"] ["script", "k"] (defScope s__law_jar) := ⟨rfl, rfl, rfl, by decide +kernel, rfl, by decide +kernel, by decide +kernel⟩
abbrev s__law_dip : Stmt := topS 39
theorem sc__law_dip : FnScope ["jar", "many", "digit", "mixed"] ["jar", "many"] (defScope s__law_dip) := ⟨rfl, rfl, rfl, by decide +kernel, rfl, by decide +kernel, by decide +kernel⟩
abbrev s__law_sums : Stmt := topS 40
theorem sc__law_sums : FnScope ["numbers_here", "size", "found", "place_here", "total", "spot"] ["numbers_here", "size"] (defScope s__law_sums) := ⟨rfl, rfl, rfl, by decide +kernel, rfl, by decide +kernel, by decide +kernel⟩
abbrev s__law_days : Stmt := topS 41
theorem sc__law_days : FnScope ["jar", "many", "top", "way_here", "found", "turn", "one"] ["jar", "many", "top"] (defScope s__law_days) := ⟨rfl, rfl, rfl, by decide +kernel, rfl, by decide +kernel, by decide +kernel⟩
abbrev s__law_top : Stmt := topS 42
theorem sc__law_top : FnScope ["jar", "way_here"] ["jar"] (defScope s__law_top) := ⟨rfl, rfl, rfl, by decide +kernel, rfl, by decide +kernel, by decide +kernel⟩
abbrev s__law_high : Stmt := topS 43
theorem sc__law_high : FnScope ["jar", "parts", "top"] ["jar", "parts"] (defScope s__law_high) := ⟨rfl, rfl, rfl, by decide +kernel, rfl, by decide +kernel, by decide +kernel⟩
abbrev s__law_size : Stmt := topS 44
theorem sc__law_size : FnScope ["jar", "most_days", "size"] ["jar", "most_days"] (defScope s__law_size) := ⟨rfl, rfl, rfl, by decide +kernel, rfl, by decide +kernel, by decide +kernel⟩
abbrev s__law_all : Stmt := topS 45
theorem sc__law_all : FnScope ["sums_here", "size", "top", "found", "day_here", "longer", "one", "part", "begin", "left"] ["sums_here", "size", "top"] (defScope s__law_all) := ⟨rfl, rfl, rfl, by decide +kernel, rfl, by decide +kernel, by decide +kernel⟩
abbrev s__law_small : Stmt := topS 46
theorem sc__law_small : FnScope ["jar", "size", "top"] ["jar"] (defScope s__law_small) := ⟨rfl, rfl, rfl, by decide +kernel, rfl, by decide +kernel, by decide +kernel⟩
abbrev s__law_gaps : Stmt := topS 47
theorem sc__law_gaps : FnScope ["sums_here", "size", "found", "place_here", "step"] ["sums_here", "size"] (defScope s__law_gaps) := ⟨rfl, rfl, rfl, by decide +kernel, rfl, by decide +kernel, by decide +kernel⟩
abbrev s__law_box : Stmt := topS 48
theorem sc__law_box : FnScope ["sums_here", "size", "top", "gaps", "lows", "highs", "rest", "some", "day_here"] ["sums_here", "size", "top"] (defScope s__law_box) := ⟨rfl, rfl, rfl, by decide +kernel, rfl, by decide +kernel, by decide +kernel⟩
abbrev s__law_fits : Stmt := topS 49
theorem sc__law_fits : FnScope ["lows", "highs", "total", "wrong", "spot", "low"] ["lows", "highs", "total"] (defScope s__law_fits) := ⟨rfl, rfl, rfl, by decide +kernel, rfl, by decide +kernel, by decide +kernel⟩
abbrev s__law_end_right : Stmt := topS 50
theorem sc__law_end_right : FnScope ["sums_here", "size", "top", "told", "step", "lows", "highs", "rest", "ahead"] ["sums_here", "size", "top", "told", "step"] (defScope s__law_end_right) := ⟨rfl, rfl, rfl, by decide +kernel, rfl, by decide +kernel, by decide +kernel⟩
abbrev s__law_right : Stmt := topS 51
theorem sc__law_right : FnScope ["sums_here", "size", "top", "before", "least", "greatest", "told", "step", "one"] ["sums_here", "size", "top"] (defScope s__law_right) := ⟨rfl, rfl, rfl, by decide +kernel, rfl, by decide +kernel, by decide +kernel⟩
abbrev s_law : Stmt := topS 52
theorem sc_law : FnScope ["script", "k", "jar", "turn", "size", "many", "top", "sums_here", "ways_here", "some", "told"] ["script"] (defScope s_law) := ⟨rfl, rfl, rfl, by decide +kernel, rfl, by decide +kernel, by decide +kernel⟩
/-- what the top has written -/
structure Top (K : PySem.W.Frag) (mg : Str → Option Value) where
  f_is_integer : Addr
  fd_is_integer : FuncData
  F_is_integer : L2.Fun K "is_integer" "is_integer" s_is_integer f_is_integer fd_is_integer
  b_is_integer : Binds K fd_is_integer ["thing"] []
  g_is_integer : mg "is_integer" = some (.ref f_is_integer)
  f_is_within : Addr
  fd_is_within : FuncData
  F_is_within : L2.Fun K "is_within" "is_within" s_is_within f_is_within fd_is_within
  b_is_within : Binds K fd_is_within ["thing", "low", "high"] []
  g_is_within : mg "is_within" = some (.ref f_is_within)
  f_is_row : Addr
  fd_is_row : FuncData
  F_is_row : L2.Fun K "is_row" "is_row" s_is_row f_is_row fd_is_row
  b_is_row : Binds K fd_is_row ["thing", "many"] []
  g_is_row : mg "is_row" = some (.ref f_is_row)
  f_check_numbers : Addr
  fd_check_numbers : FuncData
  F_check_numbers : L2.Fun K "check_numbers" "check_numbers" s_check_numbers f_check_numbers fd_check_numbers
  b_check_numbers : Binds K fd_check_numbers ["numbers", "length"] []
  g_check_numbers : mg "check_numbers" = some (.ref f_check_numbers)
  f_check_row_of_sums : Addr
  fd_check_row_of_sums : FuncData
  F_check_row_of_sums : L2.Fun K "check_row_of_sums" "check_row_of_sums" s_check_row_of_sums f_check_row_of_sums fd_check_row_of_sums
  b_check_row_of_sums : Binds K fd_check_row_of_sums ["sums"] []
  g_check_row_of_sums : mg "check_row_of_sums" = some (.ref f_check_row_of_sums)
  f_check_sums : Addr
  fd_check_sums : FuncData
  F_check_sums : L2.Fun K "check_sums" "check_sums" s_check_sums f_check_sums fd_check_sums
  b_check_sums : Binds K fd_check_sums ["sums", "length"] []
  g_check_sums : mg "check_sums" = some (.ref f_check_sums)
  f_check_most : Addr
  fd_check_most : FuncData
  F_check_most : L2.Fun K "check_most" "check_most" s_check_most f_check_most fd_check_most
  b_check_most : Binds K fd_check_most ["most"] []
  g_check_most : mg "check_most" = some (.ref f_check_most)
  f_sums_of : Addr
  fd_sums_of : FuncData
  F_sums_of : L2.Fun K "sums_of" "sums_of" s_sums_of f_sums_of fd_sums_of
  b_sums_of : Binds K fd_sums_of ["numbers", "length"] []
  g_sums_of : mg "sums_of" = some (.ref f_sums_of)
  f_row_sums : Addr
  fd_row_sums : FuncData
  F_row_sums : L2.Fun K "row_sums" "row_sums" s_row_sums f_row_sums fd_row_sums
  b_row_sums : Binds K fd_row_sums ["numbers", "length"] []
  g_row_sums : mg "row_sums" = some (.ref f_row_sums)
  f_offsets_of : Addr
  fd_offsets_of : FuncData
  F_offsets_of : L2.Fun K "offsets_of" "offsets_of" s_offsets_of f_offsets_of fd_offsets_of
  b_offsets_of : Binds K fd_offsets_of ["sums", "length"] []
  g_offsets_of : mg "offsets_of" = some (.ref f_offsets_of)
  f_total_at : Addr
  fd_total_at : FuncData
  F_total_at : L2.Fun K "total_at" "total_at" s_total_at f_total_at fd_total_at
  b_total_at : Binds K fd_total_at ["sums", "offsets", "days"] []
  g_total_at : mg "total_at" = some (.ref f_total_at)
  f_least_way : Addr
  fd_least_way : FuncData
  F_least_way : L2.Fun K "least_way" "least_way" s_least_way f_least_way fd_least_way
  b_least_way : Binds K fd_least_way ["sums", "length", "most"] []
  g_least_way : mg "least_way" = some (.ref f_least_way)
  f_greatest_way : Addr
  fd_greatest_way : FuncData
  F_greatest_way : L2.Fun K "greatest_way" "greatest_way" s_greatest_way f_greatest_way fd_greatest_way
  b_greatest_way : Binds K fd_greatest_way ["sums", "length", "most"] []
  g_greatest_way : mg "greatest_way" = some (.ref f_greatest_way)
  f_check_told : Addr
  fd_check_told : FuncData
  F_check_told : L2.Fun K "check_told" "check_told" s_check_told f_check_told fd_check_told
  b_check_told : Binds K fd_check_told ["sums", "length", "most"] []
  g_check_told : mg "check_told" = some (.ref f_check_told)
  f_need_way : Addr
  fd_need_way : FuncData
  F_need_way : L2.Fun K "need_way" "need_way" s_need_way f_need_way fd_need_way
  b_need_way : Binds K fd_need_way ["sums", "length", "most"] []
  g_need_way : mg "need_way" = some (.ref f_need_way)
  f_find_conflict : Addr
  fd_find_conflict : FuncData
  F_find_conflict : L2.Fun K "find_conflict" "find_conflict" s_find_conflict f_find_conflict fd_find_conflict
  b_find_conflict : Binds K fd_find_conflict ["sums", "length", "most"] []
  g_find_conflict : mg "find_conflict" = some (.ref f_find_conflict)
  f_first_apart : Addr
  fd_first_apart : FuncData
  F_first_apart : L2.Fun K "first_apart" "first_apart" s_first_apart f_first_apart fd_first_apart
  b_first_apart : Binds K fd_first_apart ["offsets", "length", "most"] []
  g_first_apart : mg "first_apart" = some (.ref f_first_apart)
  f_lowest_days : Addr
  fd_lowest_days : FuncData
  F_lowest_days : L2.Fun K "lowest_days" "lowest_days" s_lowest_days f_lowest_days fd_lowest_days
  b_lowest_days : Binds K fd_lowest_days ["offsets", "length"] []
  g_lowest_days : mg "lowest_days" = some (.ref f_lowest_days)
  f_highest_days : Addr
  fd_highest_days : FuncData
  F_highest_days : L2.Fun K "highest_days" "highest_days" s_highest_days f_highest_days fd_highest_days
  b_highest_days : Binds K fd_highest_days ["offsets", "length"] []
  g_highest_days : mg "highest_days" = some (.ref f_highest_days)
  f_first_way : Addr
  fd_first_way : FuncData
  F_first_way : L2.Fun K "first_way" "first_way" s_first_way f_first_way fd_first_way
  b_first_way : Binds K fd_first_way ["sums", "length", "most"] []
  g_first_way : mg "first_way" = some (.ref f_first_way)
  f_start_ranges : Addr
  fd_start_ranges : FuncData
  F_start_ranges : L2.Fun K "start_ranges" "start_ranges" s_start_ranges f_start_ranges fd_start_ranges
  b_start_ranges : Binds K fd_start_ranges ["offsets", "length", "most"] []
  g_start_ranges : mg "start_ranges" = some (.ref f_start_ranges)
  f_least_starts : Addr
  fd_least_starts : FuncData
  F_least_starts : L2.Fun K "least_starts" "least_starts" s_least_starts f_least_starts fd_least_starts
  b_least_starts : Binds K fd_least_starts ["ranges", "total"] []
  g_least_starts : mg "least_starts" = some (.ref f_least_starts)
  f_way_from : Addr
  fd_way_from : FuncData
  F_way_from : L2.Fun K "way_from" "way_from" s_way_from f_way_from fd_way_from
  b_way_from : Binds K fd_way_from ["starts", "offsets"] []
  g_way_from : mg "way_from" = some (.ref f_way_from)
  f__law_jar : Addr
  fd__law_jar : FuncData
  F__law_jar : L2.Fun K "_law_jar" "_law_jar" s__law_jar f__law_jar fd__law_jar
  b__law_jar : Binds K fd__law_jar ["script", "k"] []
  g__law_jar : mg "_law_jar" = some (.ref f__law_jar)
  f__law_dip : Addr
  fd__law_dip : FuncData
  F__law_dip : L2.Fun K "_law_dip" "_law_dip" s__law_dip f__law_dip fd__law_dip
  b__law_dip : Binds K fd__law_dip ["jar", "many"] []
  g__law_dip : mg "_law_dip" = some (.ref f__law_dip)
  f__law_sums : Addr
  fd__law_sums : FuncData
  F__law_sums : L2.Fun K "_law_sums" "_law_sums" s__law_sums f__law_sums fd__law_sums
  b__law_sums : Binds K fd__law_sums ["numbers_here", "size"] []
  g__law_sums : mg "_law_sums" = some (.ref f__law_sums)
  f__law_days : Addr
  fd__law_days : FuncData
  F__law_days : L2.Fun K "_law_days" "_law_days" s__law_days f__law_days fd__law_days
  b__law_days : Binds K fd__law_days ["jar", "many", "top"] []
  g__law_days : mg "_law_days" = some (.ref f__law_days)
  f__law_top : Addr
  fd__law_top : FuncData
  F__law_top : L2.Fun K "_law_top" "_law_top" s__law_top f__law_top fd__law_top
  b__law_top : Binds K fd__law_top ["jar"] []
  g__law_top : mg "_law_top" = some (.ref f__law_top)
  f__law_high : Addr
  fd__law_high : FuncData
  F__law_high : L2.Fun K "_law_high" "_law_high" s__law_high f__law_high fd__law_high
  b__law_high : Binds K fd__law_high ["jar", "parts"] []
  g__law_high : mg "_law_high" = some (.ref f__law_high)
  f__law_size : Addr
  fd__law_size : FuncData
  F__law_size : L2.Fun K "_law_size" "_law_size" s__law_size f__law_size fd__law_size
  b__law_size : Binds K fd__law_size ["jar", "most_days"] []
  g__law_size : mg "_law_size" = some (.ref f__law_size)
  f__law_all : Addr
  fd__law_all : FuncData
  F__law_all : L2.Fun K "_law_all" "_law_all" s__law_all f__law_all fd__law_all
  b__law_all : Binds K fd__law_all ["sums_here", "size", "top"] []
  g__law_all : mg "_law_all" = some (.ref f__law_all)
  f__law_small : Addr
  fd__law_small : FuncData
  F__law_small : L2.Fun K "_law_small" "_law_small" s__law_small f__law_small fd__law_small
  b__law_small : Binds K fd__law_small ["jar"] []
  g__law_small : mg "_law_small" = some (.ref f__law_small)
  f__law_gaps : Addr
  fd__law_gaps : FuncData
  F__law_gaps : L2.Fun K "_law_gaps" "_law_gaps" s__law_gaps f__law_gaps fd__law_gaps
  b__law_gaps : Binds K fd__law_gaps ["sums_here", "size"] []
  g__law_gaps : mg "_law_gaps" = some (.ref f__law_gaps)
  f__law_box : Addr
  fd__law_box : FuncData
  F__law_box : L2.Fun K "_law_box" "_law_box" s__law_box f__law_box fd__law_box
  b__law_box : Binds K fd__law_box ["sums_here", "size", "top"] []
  g__law_box : mg "_law_box" = some (.ref f__law_box)
  f__law_fits : Addr
  fd__law_fits : FuncData
  F__law_fits : L2.Fun K "_law_fits" "_law_fits" s__law_fits f__law_fits fd__law_fits
  b__law_fits : Binds K fd__law_fits ["lows", "highs", "total"] []
  g__law_fits : mg "_law_fits" = some (.ref f__law_fits)
  f__law_end_right : Addr
  fd__law_end_right : FuncData
  F__law_end_right : L2.Fun K "_law_end_right" "_law_end_right" s__law_end_right f__law_end_right fd__law_end_right
  b__law_end_right : Binds K fd__law_end_right ["sums_here", "size", "top", "told", "step"] []
  g__law_end_right : mg "_law_end_right" = some (.ref f__law_end_right)
  f__law_right : Addr
  fd__law_right : FuncData
  F__law_right : L2.Fun K "_law_right" "_law_right" s__law_right f__law_right fd__law_right
  b__law_right : Binds K fd__law_right ["sums_here", "size", "top"] []
  g__law_right : mg "_law_right" = some (.ref f__law_right)
  f_law : Addr
  fd_law : FuncData
  F_law : L2.Fun K "law" "law" s_law f_law fd_law
  b_law : Binds K fd_law ["script"] []
  g_law : mg "law" = some (.ref f_law)
  z_abs : mg "abs" = none
  z_all : mg "all" = none
  z_bool : mg "bool" = none
  z_enumerate : mg "enumerate" = none
  z_int : mg "int" = none
  z_isinstance : mg "isinstance" = none
  z_len : mg "len" = none
  z_list : mg "list" = none
  z_max : mg "max" = none
  z_min : mg "min" = none
  z_range : mg "range" = none
  z_repr : mg "repr" = none
  z_sorted : mg "sorted" = none
  z_sum : mg "sum" = none
  z_type : mg "type" = none
  c_GREATEST_COUNT : ∃ u, mg "GREATEST_COUNT" = some (.int 67 u)
  c_GREATEST_LENGTH : ∃ u, mg "GREATEST_LENGTH" = some (.int 8 u)
  c_GREATEST_MOST : ∃ u, mg "GREATEST_MOST" = some (.int 999999999999999999999999999999 u)
section
variable {P : Program} {w : World} {K : PySem.W.Frag} {mg : Str → Option Value} {base : Heap}
local macro_rules | `(tactic| walk_at "rd") => `(tactic| first
  | refine ⟨_, rfl, ?_⟩
  | refine ⟨_, _, rfl, rfl, ?_⟩
  | refine ⟨_, _, rfl, ?_⟩
  | refine ⟨rfl, ?_⟩
  | fail "rd")
local macro_rules | `(tactic| walk_at "rds") => `(tactic| repeat' (walk_at "rd"))

-- 0:script 1:k 2:cell_here
theorem ok_jar {f : Addr} {fd : FuncData} (T : Top K mg) (F : L2.Fun K "_law_jar" "_law_jar" s__law_jar f fd) : FnOk P w K mg base CX0 1 f fd ["script", "k"] (spJar K) := by
  refine F.ok sc__law_jar (fun vs H Q E h => ?_) (fun cdv A outer s H vs Q E hr h => ?_)
  · obtain ⟨a, ns, k, rfl, _⟩ := h
    rfl
  · obtain ⟨a, ns, k, rfl, hS, k0, k1, q⟩ := h
    refine ⟨_, (Evl.pss_cut (ps_set (i := 2) sc__law_jar.nd rfl (.inl rfl) (pe_ifExp (pt_cmpR op_lt (pv 1) (pe_callB (lenL (K := K)) (by rfl) T.z_len (by decide +kernel) (pa_cons (pv 0) pa_nil)) (nomark _)) (pe_callB call_abs (by rfl) T.z_abs (by decide +kernel) (pa_cons (pe_ix (ixL (K := K)) (pv 0) (pv 1) (fun _ _ => rfl)) pa_nil)) pe_int))
      (pss_one (ps_ret (pe_lst (pa_cons (pe_callB (call_max2 rfl) (by rfl) T.z_max (by decide +kernel) (pa_cons pe_int (pa_cons (pe_op op_sub (pv 2) (pe_op Ws.op_powG pe_int pe_int)) pa_nil))) (pa_cons (pe_op op_add (pe_op op_mulW (pe_op op_mod (pe_callTy intI (by rfl) T.z_int (by decide +kernel) (pa_cons (pv 2) pa_nil)) (pe_op op_add (pe_op Ws.op_powG pe_int pe_int) pe_int)) pe_int) (pe_op op_mulW pe_int (pv 1))) (pa_cons pe_int pa_nil))))))), ?_⟩
    refine ⟨fun σ H' => ∃ x : Int, 0 ≤ x ∧ σ = [some (.ref a), some (.int k), some (.int x)] ∧ H' = H, ?_, ?_⟩
    · walk_at "rds"
      refine ⟨a, _, rfl, hS, ?_⟩
      walk_at "rds"
      refine ite2 (fun z => ?_) (fun z => ?_)
      · have hk : k < ns.length := by
          have z2 := of_decide_eq_true z
          rw [List.length_map] at z2
          exact z2
        have hk2 : k.toNat < ns.length := by omega
        walk_at "rds"
        refine ⟨a, _, _, _, rfl, rfl, hS, at_int (j := k.toNat) (by omega) (List.getElem?_eq_getElem hk2), ?_⟩
        walk_at "rds"
        refine ⟨_, ?_, rfl, rfl⟩
        split <;> omega
      · exact ⟨0, Int.le_refl 0, rfl, rfl⟩
    · rintro σ H' ⟨x, x0, rfl, rfl⟩
      walk_at "rds"
      refine ⟨⟨by decide, by decide, by decide +kernel⟩, ?_⟩
      walk_at "rds"
      refine ⟨⟨by decide, by decide, by decide +kernel⟩, ?_⟩
      walk_at "rds"
      refine ⟨(by show (0 : Int) < _; decide +kernel), ?_⟩
      have y0 : 0 ≤ x % (10 ^ (43 : Int).toNat + 57) := Int.emod_nonneg _ (by decide +kernel)
      have y1 : x % (10 ^ (43 : Int).toNat + 57) < 2 ^ 200 := Int.lt_trans (Int.emod_lt_of_pos _ (by decide +kernel)) (by decide +kernel)
      walk_at "rds"
      refine ⟨mulOk (n := 200) (m := 7) y0 y1 (by decide) (by decide) (by decide) (by decide) (by decide), ?_⟩
      walk_at "rds"
      refine ⟨mulOk (n := 20) (m := 10) (by decide) (by decide) (by decide) k0 (by omega) (by decide) (by decide), ?_⟩
      walk_at "rds"
      refine ⟨by show 3 ≤ sizeLine; decide, fun p hp => ?_⟩
      refine q _ p (Same.new hp) hp ⟨_, _, _, upd_same, ?_, ?_, ?_, Int.le_refl 0, Int.le_refl 0⟩
      · split <;> omega
      · omega
      · omega

-- 0:jar 1:many 2:digit 3:mixed
theorem ok_dip {f : Addr} {fd : FuncData} (T : Top K mg) (F : L2.Fun K "_law_dip" "_law_dip" s__law_dip f fd) : FnOk P w K mg base CX0 1 f fd ["jar", "many"] spDip := by
  refine F.ok sc__law_dip (fun vs H Q E h => ?_) (fun cdv A outer s H vs Q E hr h => ?_)
  · obtain ⟨J, m, n, rfl, _⟩ := h
    rfl
  · obtain ⟨J, m, n, rfl, ⟨a, b, c, hJ, ha, hb, hb2, hc, hcn⟩, hn, hm, hm2, k⟩ := h
    refine ⟨_, (pss_cons (ps_if (pt_cmpR op_gt (pe_ix (ixL (K := K)) (pv 0) pe_int (fun _ _ => rfl)) pe_int (nomark _))
      (pss_cons (ps_set (i := 2) sc__law_dip.nd rfl (.inl rfl) (pe_op op_mod (pe_callTy intI (by rfl) T.z_int (by decide +kernel) (pa_cons (pe_ix (ixL (K := K)) (pv 0) pe_int (fun _ _ => rfl)) pa_nil)) (pv 1)))
      (pss_cons (ps_asg (pe_op op_fdivW (pe_ix (ixL (K := K)) (pv 0) pe_int (fun _ _ => rfl)) (pv 1)) (pg_sub (pv 0) pe_int set_list))
      (pss_one (ps_ret (pv 2)))))
      pss_nil)
      (pss_cons (ps_asg (pe_op op_add (pe_ix (ixL (K := K)) (pv 0) pe_int (fun _ _ => rfl)) pe_int) (pg_sub (pv 0) pe_int set_list))
      (pss_cons (ps_set (i := 3) sc__law_dip.nd rfl (.inl rfl) (pe_op op_mod (pe_callTy intI (by rfl) T.z_int (by decide +kernel) (pa_cons (pe_op Ws.op_powG (pe_op op_add (pe_ix (ixL (K := K)) (pv 0) pe_int (fun _ _ => rfl)) (pe_op op_mulW pe_int (pe_ix (ixL (K := K)) (pv 0) pe_int (fun _ _ => rfl)))) pe_int) pa_nil)) (pe_op op_add (pe_op Ws.op_powG pe_int pe_int) pe_int)))
      (pss_cons (ps_set (i := 3) sc__law_dip.nd rfl (.inl rfl) (pe_op op_mod (pe_callTy intI (by rfl) T.z_int (by decide +kernel) (pa_cons (pe_op Ws.op_powG (pe_op op_add (pv 3) (pe_op op_mulW pe_int (pe_ix (ixL (K := K)) (pv 0) pe_int (fun _ _ => rfl)))) pe_int) pa_nil)) (pe_op op_add (pe_op Ws.op_powG pe_int pe_int) pe_int)))
      (pss_one (ps_ret (pe_op op_mod (pe_callTy intI (by rfl) T.z_int (by decide +kernel) (pa_cons (pe_op op_fdivW (pv 3) pe_int) pa_nil)) (pv 1)))))))), ?_⟩
    -- if jar[0] > 0
    walk_at "rds"
    refine ⟨J, _, _, _, rfl, rfl, SqL.of hJ, at0, ?_⟩
    walk_at "rds"
    refine ite2 (fun z => ?_) (fun z => ?_)
    · have a0 : 0 < a := of_decide_eq_true z
      walk_at "rds"
      refine ⟨J, _, _, _, rfl, rfl, SqL.of hJ, at0, ?_⟩
      walk_at "rds"
      refine ⟨hm, ?_⟩
      walk_at "rds"
      refine ⟨J, _, _, _, rfl, rfl, SqL.of hJ, at0, ?_⟩
      walk_at "rds"
      refine ⟨divOk hm hm2 (by decide) (by decide), ?_⟩
      walk_at "rds"
      refine ⟨J, _, _, _, rfl, rfl, hJ, rfl, ?_⟩
      walk_at "rds"
      refine k _ _ (Fr.put Fr.refl) ⟨a / m, b, c, upd_same, Int.ediv_nonneg ha (by omega), hb, hb2, hc, by omega⟩ (Int.emod_nonneg _ (by omega)) (Int.emod_lt_of_pos _ hm)
    · walk_at "rds"
      refine ⟨J, _, _, _, rfl, rfl, SqL.of hJ, at2, ?_⟩
      walk_at "rds"
      refine ⟨J, _, _, _, rfl, rfl, hJ, rfl, ?_⟩
      have hJ2 : (upd H J (.lst [.int a, .int b, .int (c + 1)])) J = some (.lst [.int a, .int b, .int (c + 1)]) := upd_same
      walk_at "rds"
      refine ⟨J, _, _, _, rfl, rfl, SqL.of hJ2, at1, ?_⟩
      walk_at "rds"
      refine ⟨J, _, _, _, rfl, rfl, SqL.of hJ2, at2, ?_⟩
      walk_at "rds"
      refine ⟨mulOk (n := 26) (m := 31) (by decide) (by decide) (by decide) (by omega) (by omega) (by decide) (by decide), ?_⟩
      walk_at "rds"
      refine ⟨powOk (n := 400) (by omega) (by omega) (by decide) (by decide) (by decide) (by decide), ?_⟩
      walk_at "rds"
      refine ⟨⟨by decide, by decide, by decide +kernel⟩, ?_⟩
      walk_at "rds"
      refine ⟨(by show (0 : Int) < _; decide +kernel), ?_⟩
      generalize hx : ((b + 60000049 * (c + 1)) ^ (3 : Int).toNat % (10 ^ (47 : Int).toNat + 91)) = x
      have x0 : 0 ≤ x := hx ▸ Int.emod_nonneg _ (by decide +kernel)
      have x1 : x < 2 ^ 300 := hx ▸ Int.lt_trans (Int.emod_lt_of_pos _ (by decide +kernel)) (by decide +kernel)
      walk_at "rds"
      refine ⟨J, _, _, _, rfl, rfl, SqL.of hJ2, at2, ?_⟩
      walk_at "rds"
      refine ⟨mulOk (n := 26) (m := 31) (by decide) (by decide) (by decide) (by omega) (by omega) (by decide) (by decide), ?_⟩
      walk_at "rds"
      refine ⟨powOk (n := 400) (by omega) (by omega) (by decide) (by decide) (by decide) (by decide), ?_⟩
      walk_at "rds"
      refine ⟨⟨by decide, by decide, by decide +kernel⟩, ?_⟩
      walk_at "rds"
      refine ⟨(by show (0 : Int) < _; decide +kernel), ?_⟩
      generalize ((x + 35000021 * (c + 1)) ^ (3 : Int).toNat % (10 ^ (46 : Int).toNat + 79)) = y
      walk_at "rds"
      refine ⟨divOk (n := 31) (by decide) (by decide) (by decide) (by decide), ?_⟩
      walk_at "rds"
      refine ⟨hm, ?_⟩
      refine k _ _ (Fr.put Fr.refl) ⟨a, b, c + 1, upd_same, ha, hb, hb2, by omega, by omega⟩ (Int.emod_nonneg _ (by omega)) (Int.emod_lt_of_pos _ hm)

-- 0:numbers_here 1:size 2:found 3:place_here 4:total 5:spot
theorem ok_sums {f : Addr} {fd : FuncData} (T : Top K mg) (F : L2.Fun K "_law_sums" "_law_sums" s__law_sums f fd) : FnOk P w K mg base CX0 1 f fd ["numbers_here", "size"] (spSums K) := by
  refine F.ok sc__law_sums (fun vs H Q E h => ?_) (fun cdv A outer s H vs Q E hr h => ?_)
  · obtain ⟨a, ns, k, rfl, _⟩ := h
    rfl
  · obtain ⟨a, ns, k, rfl, hS, k1, k2, hn, q⟩ := h
    refine ⟨_, (pss_cons (ps_set (i := 2) sc__law_sums.nd rfl (.inl rfl) (pe_lst pa_nil))
      (pss_cons (ps_for PassesOwn.never rfl (pi_range1 (by rfl) T.z_range (pa_cons (pe_op op_add (pe_op op_sub (pe_callB (lenL (K := K)) (by rfl) T.z_len (by decide +kernel) (pa_cons (pv 0) pa_nil)) (pv 1)) pe_int) pa_nil)) (pg_name (i := 3) sc__law_sums.nd rfl (.inl rfl))
      (pss_cons (ps_set (i := 4) sc__law_sums.nd rfl (.inl rfl) pe_int)
      (pss_cons (ps_for PassesOwn.never rfl (pi_range1 (by rfl) T.z_range (pa_cons (pv 1) pa_nil)) (pg_name (i := 5) sc__law_sums.nd rfl (.inl rfl))
      (pss_one (ps_set (i := 4) sc__law_sums.nd rfl (.inl rfl) (pe_op op_add (pv 4) (pe_ix (ixL (K := K)) (pv 0) (pe_op op_add (pv 3) (pv 5)) (fun _ _ => rfl))))))
      (pss_one (ps_expr (bmK (K := K) (pe_bm PySem.F.plainAttrs_list PySem.F.slot_list_append PySem.F.type_list_append mt_append (pv 2) (pa_cons (pv 4) pa_nil))))))))
      (pss_one (ps_ret (pv 2))))), ?_⟩
    refine ⟨Nat.zero_le _, fun o ho => ?_⟩
    have s0 : Same H (upd H o (.lst [])) := Same.new ho
    walk_at "rds"
    refine ⟨a, _, rfl, Same.seq s0 hS, ?_⟩
    walk_at "rds"
    have eL : (ns.map V.int).length = ns.length := List.length_map ..
    refine ⟨by rw [eL]; omega, by rw [eL]; omega, for_range (fun i σ H' => ∃ x3 x4 x5, σ = [some (.ref a), some (.int k), some (.ref o), x3, x4, x5] ∧ Same H H' ∧ H' o = some (.lst (((wsums ns k.toNat).take i).map V.int))) ?_ ?_ ?_⟩
    · exact ⟨none, none, none, rfl, s0, upd_same⟩
    · rintro i σ H' hi ⟨x3, x4, x5, rfl, s1, h1⟩
      have hi2 : i < ns.length + 1 - k.toNat := by rw [eL] at hi; omega
      walk_at "rds"
      refine ⟨by omega, by omega, for_range (fun t σ H2 => ∃ x5, σ = [some (.ref a), some (.int k), some (.ref o), some (.int (0 + (i : Int))), some (.int ((ns.drop i).take t).sum), x5] ∧ H2 = H') ?_ ?_ ?_⟩
      · exact ⟨x5, rfl, rfl⟩
      · rintro t σ H2 ht ⟨y5, rfl, rfl⟩
        have ht2 : i + t < ns.length := by omega
        walk_at "rds"
        refine ⟨a, _, _, _, rfl, rfl, Same.seq s1 hS, at_int (j := i + t) (by omega) (List.getElem?_eq_getElem ht2), ?_⟩
        walk_at "rds"
        refine ⟨some (.int (0 + (t : Int))), ?_, rfl⟩
        rw [win_next (List.getElem?_eq_getElem ht2)]
        rfl
      · rintro σ H2 ⟨y5, rfl, rfl⟩
        walk_at "rds"
        refine ⟨.inl ⟨rfl, _, SqL.of h1⟩, ?_⟩
        walk_at "rds"
        refine ⟨o, _, _, rfl, rfl, h1, ?_, ?_⟩
        · rw [List.length_map, List.length_take, wsums_len]
          exact Nat.lt_of_le_of_lt (Nat.min_le_left _ _) (small1000 (by omega))
        · refine ⟨_, _, _, rfl, Same.mut s1 ho, ?_⟩
          rw [upd_same, map_take_snoc (wsums_get hi2)]
    · rintro σ H' ⟨x3, x4, x5, rfl, s1, h1⟩
      walk_at "rds"
      refine q H' o s1 ho ?_
      rw [h1, List.take_of_length_le]
      rw [wsums_len, eL]
      omega

-- 0:jar 1:many 2:top 3:way_here 4:found 5:turn 6:one
theorem ok_days {f fd : _} (T : Top K mg) (F : L2.Fun K "_law_days" "_law_days" s__law_days f fd) (G__law_dip : DefOk P w K mg base CX0 1 "_law_dip" T.f__law_dip T.fd__law_dip ["jar", "many"] spDip) :
    FnOk P w K mg base CX0 2 f fd ["jar", "many", "top"] spDays := by
  refine F.ok sc__law_days (fun vs H Q E h => ?_) (fun cdv A outer s H vs Q E hr h => ?_)
  · obtain ⟨J, m, t, n, rfl, _⟩ := h
    rfl
  · obtain ⟨J, m, t, n, rfl, hJ, hn, m0, m1, t0, t1, q⟩ := h
    refine ⟨_, (pss_cons (ps_set (i := 3) sc__law_days.nd rfl (.inl rfl) (Ws.pc G__law_dip hr (pa_cons (pv 0) (pa_cons pe_int pa_nil))))
      (pss_cons (ps_setLc (i := 4) (own := [("turn", 5)]) (g := gName 5) (tt := tYes) (by rfl) sc__law_days.nd rfl rfl (sw_true rfl rfl rfl (by decide +kernel)) (pi_range1 (by rfl) T.z_range (pa_cons (pv 1) pa_nil)) (blkOk_by (N := ["jar", "many", "top", "way_here", "found", "turn", "one"]) (sc := defScope s__law_days) (by decide +kernel)) (fun _ _ _ _ _ => pg_name (i := 5) sc__law_days.nd rfl (Or.inl rfl)) (fun _ _ _ _ _ => pts_nil) (fun _ _ _ _ _ => (Ws.pc G__law_dip hr (pa_cons (pv 0) (pa_cons (pe_op op_add (pv 2) pe_int) pa_nil)))))
      (Evl.pss_cut (ps_if (pt_cmpR op_eq (pv 3) pe_int (nomark _))
      (pss_one (ps_setLc (i := 4) (own := [("one", 6)]) (g := gName 6) (tt := tYes) (by rfl) sc__law_days.nd rfl rfl (sw_true rfl rfl rfl (by decide +kernel)) (piL (K := K) (pv 4)) (blkOk_by (N := ["jar", "many", "top", "way_here", "found", "turn", "one"]) (sc := defScope s__law_days) (by decide +kernel)) (fun _ _ _ _ _ => pg_name (i := 6) sc__law_days.nd rfl (Or.inl rfl)) (fun _ _ _ _ _ => pts_nil) (fun _ _ _ _ _ => (pe_ix (ixL (K := K)) (pe_lst (pa_cons pe_int (pa_cons (pv 2) (pa_cons (pv 6) pa_nil)))) (Ws.pc G__law_dip hr (pa_cons (pv 0) (pa_cons pe_int pa_nil))) (fun _ _ => rfl)))))
      pss_nil)
      (pss_one (ps_ret (pv 4)))))), ?_⟩
    walk_at "rds"
    refine ⟨J, 3, n, rfl, hJ, by omega, by decide, by decide +kernel, fun H1 d1 s1 J1 _ _ => ?_⟩
    walk_at "rds"
    refine ⟨by omega, by omega, fun D hD => ?_⟩
    have nD : D ≠ J := J1.out hD
    have fD : H D = none := s1.free hD nD
    refine lc_range (lo := 0) (n := m.toNat) (fun i H' => ∃ ns, Fr J H H' ∧ Jar H' J (n + 1 + i) ∧ H' D = some (.lst (ns.map V.int)) ∧ ns.length = i ∧ Btw 0 t ns) ?_ ?_ ?_
    · exact ⟨[], s1.trans (Fr.of (Same.new hD)), (J1.new hD).mono (by omega), upd_same, rfl, Btw.nil⟩
    · rintro i H' hi ⟨ns, s2, J2, hD2, hl, hb⟩
      refine ⟨rfl, ?_⟩
      walk_at "rds"
      refine ⟨J, t + 1, n + 1 + i, rfl, J2, by omega, by omega, by omega, fun H2 d s3 J3 d0 d2 => ?_⟩
      refine ⟨_, s3.get nD hD2, ?_, ns ++ [d], (s2.trans s3).mut fD, (J3.ex nD).mono (by omega), ?_, by rw [List.length_append, hl]; rfl, hb.snoc d0 (by omega)⟩
      · rw [List.length_map, hl]
        exact small1000 (by omega)
      · rw [upd_same, List.map_append]
        rfl
    · rintro H' ⟨ns, s2, J2, hD2, hl, hb⟩
      refine ⟨fun σ H2 => ∃ p ns x5 x6, σ = [some (.ref J), some (.int m), some (.int t), some (.int d1), some (.ref p), x5, x6] ∧ Fr J H H2 ∧ Jar H2 J (n + 2 * m + 1) ∧ H p = none ∧ H2 p = some (.lst (ns.map V.int)) ∧ ns.length = m.toNat ∧ Btw 0 t ns, ?_, ?_⟩
      · walk_at "rds"
        refine ite2 (fun _ => ?_) (fun _ => ?_)
        · walk_at "rds"
          refine ⟨⟨_, SqL.of hD2⟩, fun D2 hn2 => ?_⟩
          have nD2 : D2 ≠ J := J2.out hn2
          have fD2 : H D2 = none := s2.free hn2 nD2
          have neD : D ≠ D2 := ne_of_none hD2 hn2
          refine lc_list (K := K) (a := D) (xs := ns.map V.int) (fun i H3 => ∃ ms, Fr J H' H3 ∧ Jar H3 J (n + 1 + m + i) ∧ H3 D2 = some (.lst (ms.map V.int)) ∧ ms.length = i ∧ Btw 0 t ms) ?_ ?_ ?_ ?_
          · exact ⟨[], Fr.of (Same.new hn2), (J2.new hn2).mono (by omega), upd_same, rfl, Btw.nil⟩
          · rintro i H3 _ ⟨ms, s4, _⟩
            exact SqL.of (s4.get nD hD2)
          · rintro i x H3 hx ⟨ms, s4, J4, hD4, hl4, hb4⟩
            obtain ⟨y, hy, rfl⟩ : ∃ y, ns[i]? = some y ∧ x = .int y := by
              rw [List.getElem?_map] at hx
              cases e : ns[i]? with
              | none => rw [e] at hx; cases hx
              | some y => rw [e] at hx; exact ⟨y, rfl, (Option.some.inj hx).symm⟩
            have hi : i < ns.length := (List.getElem?_eq_some_iff.mp hy).1
            have by1 := hb y (List.mem_of_getElem? hy)
            refine ⟨rfl, ?_⟩
            walk_at "rds"
            refine ⟨by show 3 ≤ sizeLine; decide, fun p hp => ?_⟩
            have np : p ≠ J := J4.out hp
            have ne4 : p ≠ D2 := (ne_of_none hD4 hp).symm
            walk_at "rds"
            refine ⟨J, 3, n + 1 + m + i, rfl, J4.new hp, by omega, by decide, by decide +kernel, fun H5 d s5 J5 d0 d3 => ?_⟩
            have hD5 := s5.get nD2 (by rw [upd_ne ne4.symm]; exact hD4)
            have s6 : Fr J H' H5 := (s4.trans (Fr.of (Same.new hp))).trans s5
            have go : ∀ z : Int, 0 ≤ z → z ≤ t → atI [V.int 0, V.int t, V.int y] d = some (.int z) → ∃ p_1 xs i_1 v, V.ref p = .ref p_1 ∧ V.int d = .int i_1 ∧ SqL K H5 p_1 xs ∧ atI xs i_1 = some v ∧ ∃ acc, H5 D2 = some (HO.lst acc) ∧ acc.length < sizeLine ∧
                ∃ ms, Fr J H' (upd H5 D2 (HO.lst (acc ++ [v]))) ∧ Jar (upd H5 D2 (HO.lst (acc ++ [v]))) J (n + 1 + m + ((i + 1 : Nat) : Int)) ∧ upd H5 D2 (HO.lst (acc ++ [v])) D2 = some (HO.lst (List.map V.int ms)) ∧ ms.length = i + 1 ∧ Btw 0 t ms := by
              intro z z0 z1 hz
              refine ⟨p, _, d, .int z, rfl, rfl, SqL.of (s5.get np upd_same), hz, _, hD5, ?_, ms ++ [z], s6.mut hn2, (J5.ex nD2).mono (by omega), ?_, by rw [List.length_append, hl4]; rfl, hb4.snoc z0 z1⟩
              · rw [List.length_map, hl4]
                exact small1000 (by omega)
              · rw [upd_same, List.map_append]
                rfl
            have d012 : d = 0 ∨ d = 1 ∨ d = 2 := by omega
            rcases d012 with e | e | e
            · exact go 0 (Int.le_refl 0) t0 (by rw [e]; rfl)
            · exact go t t0 (Int.le_refl t) (by rw [e]; rfl)
            · exact go y by1.1 by1.2 (by rw [e]; rfl)
          · rintro H3 ⟨ms, s4, J4, hD4, hl4, hb4⟩
            rw [List.length_map, hl] at J4 hl4
            exact ⟨D2, ms, _, _, rfl, s2.trans s4, J4.mono (by omega), fD2, hD4, hl4, hb4⟩
        · exact ⟨D, ns, _, _, rfl, s2, J2.mono (by omega), fD, hD2, hl, hb⟩
      · rintro σ H2 ⟨p, ms, x5, x6, rfl, s4, J4, f4, h4, l4, b4⟩
        walk_at "rds"
        exact q H2 p ms s4 J4 f4 h4 l4 b4

-- 0:jar 1:way_here
theorem ok_top {f fd : _} (T : Top K mg) (F : L2.Fun K "_law_top" "_law_top" s__law_top f fd) (G__law_dip : DefOk P w K mg base CX0 1 "_law_dip" T.f__law_dip T.fd__law_dip ["jar", "many"] spDip) :
    FnOk P w K mg base CX0 2 f fd ["jar"] spTop := by
  refine F.ok sc__law_top (fun vs H Q E h => ?_) (fun cdv A outer s H vs Q E hr h => ?_)
  · obtain ⟨J, n, rfl, _⟩ := h
    rfl
  · obtain ⟨J, n, rfl, hJ, hn, q⟩ := h
    refine ⟨_, (pss_cons (ps_set (i := 1) sc__law_top.nd rfl (.inl rfl) (Ws.pc G__law_dip hr (pa_cons (pv 0) (pa_cons pe_int pa_nil))))
      (pss_cons (ps_if (pt_cmpR op_eq (pv 1) pe_int (nomark _))
      (pss_one (ps_ret (pe_op op_sub (pe_op op_sub (pe_op Ws.op_powG pe_int pe_int) pe_int) (Ws.pc G__law_dip hr (pa_cons (pv 0) (pa_cons (pe_op Ws.op_powG pe_int pe_int) pa_nil))))))
      pss_nil)
      (pss_one (ps_ret (Ws.pc G__law_dip hr (pa_cons (pv 0) (pa_cons (pe_ix (ixL (K := K)) (pe_lst (pa_cons pe_int (pa_cons pe_int pa_nil))) (pv 1) (fun _ _ => rfl)) pa_nil))))))), ?_⟩
    walk_at "rds"
    refine ⟨J, 3, n, rfl, hJ, by omega, by decide, by decide +kernel, fun H1 d1 s1 J1 d0 d3 => ?_⟩
    walk_at "rds"
    refine ite2 (fun _ => ?_) (fun z => ?_)
    · walk_at "rds"
      refine ⟨⟨by decide, by decide, by decide +kernel⟩, ?_⟩
      walk_at "rds"
      refine ⟨⟨by decide, by decide, by decide +kernel⟩, ?_⟩
      walk_at "rds"
      refine ⟨J, _, n + 1, rfl, J1, by omega, by decide +kernel, by decide +kernel, fun H2 d2 s2 J2 e0 e1 => ?_⟩
      walk_at "rds"
      have e2 : d2 < 10 ^ 30 := e1
      exact q H2 _ (s1.trans s2) (J2.mono (by omega)) (show (0 : Int) ≤ 10 ^ 30 - 1 - d2 by omega) (show (10 : Int) ^ 30 - 1 - d2 < 10 ^ 30 by omega)
    · have z2 : d1 ≠ 2 := fun e => z (by rw [e]; rfl)
      walk_at "rds"
      refine ⟨by show 2 ≤ sizeLine; decide, fun p hp => ?_⟩
      have np : p ≠ J := J1.out hp
      have go : ∀ m : Int, 1 ≤ m → m ≤ 30 → atI [V.int 4, V.int 30] d1 = some (.int m) → ∃ p_1 xs i v, V.ref p = .ref p_1 ∧ V.int d1 = .int i ∧ SqL K (upd H1 p (.lst [.int 4, .int 30])) p_1 xs ∧ atI xs i = some v ∧ spDip ([V.ref J, v] ++ []) (upd H1 p (.lst [.int 4, .int 30])) Q E0 := by
        intro m m1 m2 hm
        refine ⟨p, _, d1, .int m, rfl, rfl, SqL.of upd_same, hm, J, m, n + 1, rfl, J1.new hp, by omega, by omega, by omega, fun H2 d2 s2 J2 e0 e1 => ?_⟩
        exact q H2 _ ((s1.trans (Fr.of (Same.new hp))).trans s2) (J2.mono (by omega)) e0 (by omega)
      walk_at "rds"
      have d01 : d1 = 0 ∨ d1 = 1 := by omega
      rcases d01 with e | e
      · exact go 4 (by decide) (by decide) (by rw [e]; rfl)
      · exact go 30 (by decide) (by decide) (by rw [e]; rfl)

-- 0:jar 1:parts 2:top
theorem ok_high {f fd : _} (T : Top K mg) (F : L2.Fun K "_law_high" "_law_high" s__law_high f fd) (G__law_top : DefOk P w K mg base CX0 2 "_law_top" T.f__law_top T.fd__law_top ["jar"] spTop) :
    FnOk P w K mg base CX0 3 f fd ["jar", "parts"] spHigh := by
  refine F.ok sc__law_high (fun vs H Q E h => ?_) (fun cdv A outer s H vs Q E hr h => ?_)
  · obtain ⟨J, q, n, rfl, _⟩ := h
    rfl
  · obtain ⟨J, p, n, rfl, hJ, hn, p1, p2, q⟩ := h
    refine ⟨_, (pss_cons (ps_set (i := 2) sc__law_high.nd rfl (.inl rfl) (Ws.pc G__law_top hr (pa_cons (pv 0) pa_nil)))
      (pss_one (ps_ret (pe_ifExp (pt_cmpR op_gt (pv 2) (pe_op Ws.op_powG pe_int pe_int) (nomark _)) (pe_op op_fdivW (pv 2) (pv 1)) (pv 2))))), ?_⟩
    walk_at "rds"
    refine ⟨J, n, rfl, hJ, by omega, fun H1 t s1 J1 t0 t1 => ?_⟩
    walk_at "rds"
    refine ⟨⟨by decide, by decide, by decide +kernel⟩, ?_⟩
    walk_at "rds"
    refine ite2 (fun _ => ?_) (fun z => ?_)
    · walk_at "rds"
      refine ⟨divOk (n := 10) (by omega) (by omega) (by decide) (by decide), ?_⟩
      have h1 : 0 ≤ t / p := Int.ediv_nonneg t0 (by omega)
      have h2 : t / p * p ≤ t := Int.ediv_mul_le t (by omega)
      have h3 : t / p ≤ t := Int.ediv_le_self p t0
      exact q H1 _ s1 J1 h1 (by omega) (Or.inr (by omega))
    · walk_at "rds"
      have z2 : t ≤ 10 ^ 6 := by
        have z3 : ¬ (10 ^ 6 < t) := fun y => z (decide_eq_true y)
        omega
      exact q H1 _ s1 J1 t0 t1 (Or.inl z2)

-- 0:jar 1:most_days 2:size
theorem ok_size {f fd : _} (T : Top K mg) (F : L2.Fun K "_law_size" "_law_size" s__law_size f fd) (G__law_dip : DefOk P w K mg base CX0 1 "_law_dip" T.f__law_dip T.fd__law_dip ["jar", "many"] spDip) :
    FnOk P w K mg base CX0 2 f fd ["jar", "most_days"] spSize := by
  refine F.ok sc__law_size (fun vs H Q E h => ?_) (fun cdv A outer s H vs Q E hr h => ?_)
  · obtain ⟨J, m, n, rfl, _⟩ := h
    rfl
  · obtain ⟨J, m, n, rfl, hJ, hn, m1, m2, q⟩ := h
    refine ⟨_, (pss_cons (ps_set (i := 2) sc__law_size.nd rfl (.inl rfl) (pe_op op_add pe_int (Ws.pc G__law_dip hr (pa_cons (pv 0) (pa_cons pe_int pa_nil)))))
      (pss_one (ps_ret (pe_tup (pa_cons (pv 2) (pa_cons (pe_op op_add (pv 2) (Ws.pc G__law_dip hr (pa_cons (pv 0) (pa_cons (pe_op op_add (pe_op op_sub (pv 1) (pv 2)) pe_int) pa_nil)))) pa_nil)))))), ?_⟩
    walk_at "rds"
    refine ⟨J, 8, n, rfl, hJ, by omega, by decide, by decide +kernel, fun H1 d s1 J1 d0 d1 => ?_⟩
    walk_at "rds"
    refine ⟨J, _, n + 1, rfl, J1, by omega, by omega, by omega, fun H2 e s2 J2 e0 e1 => ?_⟩
    walk_at "rds"
    refine ⟨by show 2 ≤ sizeLine; decide, fun p hp => ?_⟩
    have s3 := s1.trans s2
    exact q _ p (1 + d) (1 + d + e) (s3.trans (Fr.of (Same.new hp))) ((J2.new hp).mono (by omega)) (s3.free hp (J2.out hp)) upd_same (by omega) (by omega) (by omega) (by omega)

-- 0:jar 1:size 2:top
theorem ok_small {f fd : _} (T : Top K mg) (F : L2.Fun K "_law_small" "_law_small" s__law_small f fd) (G__law_dip : DefOk P w K mg base CX0 1 "_law_dip" T.f__law_dip T.fd__law_dip ["jar", "many"] spDip) :
    FnOk P w K mg base CX0 2 f fd ["jar"] spSmall := by
  refine F.ok sc__law_small (fun vs H Q E h => ?_) (fun cdv A outer s H vs Q E hr h => ?_)
  · obtain ⟨J, n, rfl, _⟩ := h
    rfl
  · obtain ⟨J, n, rfl, hJ, hn, q⟩ := h
    refine ⟨_, (pss_cons (ps_set (i := 1) sc__law_small.nd rfl (.inl rfl) (pe_op op_add pe_int (Ws.pc G__law_dip hr (pa_cons (pv 0) (pa_cons pe_int pa_nil)))))
      (pss_cons (ps_set (i := 2) sc__law_small.nd rfl (.inl rfl) (Ws.pc G__law_dip hr (pa_cons (pv 0) (pa_cons (pe_ix (ixL (K := K)) (pe_lst (pa_cons pe_int (pa_cons pe_int (pa_cons pe_int (pa_cons pe_int pa_nil))))) (pe_op op_sub (pv 1) pe_int) (fun _ _ => rfl)) pa_nil))))
      (pss_one (ps_ret (pe_tup (pa_cons (pv 1) (pa_cons (pv 2) (pa_cons (pe_op op_add (pv 1) (Ws.pc G__law_dip hr (pa_cons (pv 0) (pa_cons pe_int pa_nil)))) pa_nil)))))))), ?_⟩
    walk_at "rds"
    refine ⟨J, 4, n, rfl, hJ, by omega, by decide, by decide +kernel, fun H1 d s1 J1 d0 d1 => ?_⟩
    walk_at "rds"
    refine ⟨by show 4 ≤ sizeLine; decide, fun g hg => ?_⟩
    have ng : g ≠ J := J1.out hg
    have e : (1 : Int) + d - 1 = d := by omega
    obtain ⟨m, hm, m1, m9, hp⟩ : ∃ m : Int, atI [V.int 9, V.int 7, V.int 5, V.int 4] d = some (.int m) ∧ 1 ≤ m ∧ m ≤ 9 ∧ ∀ t : Int, 0 ≤ t → t < m → (t.toNat + 1) ^ ((1 + d).toNat - 1) ≤ 1000 := by
      have d4 : d = 0 ∨ d = 1 ∨ d = 2 ∨ d = 3 := by omega
      rcases d4 with z | z | z | z
      · subst z
        exact ⟨9, rfl, by decide, by decide, fun t t0 t1 => Nat.le_trans (Nat.pow_le_pow_left (by omega : t.toNat + 1 ≤ 9) _) (by decide)⟩
      · subst z
        exact ⟨7, rfl, by decide, by decide, fun t t0 t1 => Nat.le_trans (Nat.pow_le_pow_left (by omega : t.toNat + 1 ≤ 7) _) (by decide)⟩
      · subst z
        exact ⟨5, rfl, by decide, by decide, fun t t0 t1 => Nat.le_trans (Nat.pow_le_pow_left (by omega : t.toNat + 1 ≤ 5) _) (by decide)⟩
      · subst z
        exact ⟨4, rfl, by decide, by decide, fun t t0 t1 => Nat.le_trans (Nat.pow_le_pow_left (by omega : t.toNat + 1 ≤ 4) _) (by decide)⟩
    walk_at "rds"
    refine ⟨g, _, _, _, rfl, rfl, SqL.of upd_same, by rw [e]; exact hm, ?_⟩
    walk_at "rds"
    refine ⟨J, m, n + 1, rfl, J1.new hg, by omega, by omega, Int.lt_of_le_of_lt m9 (by decide +kernel), fun H2 t s2 J2 t0 t1 => ?_⟩
    walk_at "rds"
    refine ⟨J, 7, n + 2, rfl, J2.mono (by omega), by omega, by decide, by decide +kernel, fun H3 c s3 J3 c0 c1 => ?_⟩
    walk_at "rds"
    refine ⟨by show 3 ≤ sizeLine; decide, fun p hp1 => ?_⟩
    have s4 := (s1.trans (Fr.of (Same.new hg))).trans (s2.trans s3)
    exact q _ p (1 + d) t (1 + d + c) (s4.trans (Fr.of (Same.new hp1))) ((J3.new hp1).mono (by omega)) (s4.free hp1 (J3.out hp1)) upd_same (by omega) (by omega) (by omega) (by omega) (hp t t0 t1) (by omega) (by omega)

-- 0:sums_here 1:size 2:top 3:found 4:day_here 5:longer 6:one 7:part 8:begin 9:left
theorem ok_all {f fd : _} (T : Top K mg) (F : L2.Fun K "_law_all" "_law_all" s__law_all f fd) : FnOk P w K mg base CX0 1 f fd ["sums_here", "size", "top"] (spAll K) := by
  refine F.ok sc__law_all (fun vs H Q E h => ?_) (fun cdv A outer s H vs Q E hr h => ?_)
  · obtain ⟨a, ss, k, t, rfl, _⟩ := h
    rfl
  · obtain ⟨a, ss, k, t, rfl, hS, s1, k1, k8, s100, t0, tm, hB, q⟩ := h
    refine ⟨_, (pss_cons (ps_set (i := 3) sc__law_all.nd rfl (.inl rfl) (pe_lst (pa_cons (pe_lst pa_nil) pa_nil)))
      (pss_cons (ps_for PassesOwn.never rfl (pi_range1 (by rfl) T.z_range (pa_cons (pe_op op_sub (pe_op op_add (pe_callB (lenL (K := K)) (by rfl) T.z_len (by decide +kernel) (pa_cons (pv 0) pa_nil)) (pv 1)) pe_int) pa_nil)) (pg_name (i := 4) sc__law_all.nd rfl (.inl rfl))
      (pss_cons (ps_set (i := 5) sc__law_all.nd rfl (.inl rfl) (pe_lst pa_nil))
      (pss_cons (ps_for PassesOwn.never rfl (piL (K := K) (pv 3)) (pg_name (i := 6) sc__law_all.nd rfl (.inl rfl))
      (pss_one (ps_if (pt_cmpR op_lt (pv 4) (pe_op op_sub (pv 1) pe_int) (nomark _))
      (pss_one (ps_for PassesOwn.never rfl (pi_range1 (by rfl) T.z_range (pa_cons (pe_op op_add (pv 2) pe_int) pa_nil)) (pg_name (i := 7) sc__law_all.nd rfl (.inl rfl))
      (pss_one (ps_expr (bmK (K := K) (pe_bm PySem.F.plainAttrs_list PySem.F.slot_list_append PySem.F.type_list_append mt_append (pv 5) (pa_cons (pe_op op_cat (pv 6) (pe_lst (pa_cons (pv 7) pa_nil))) pa_nil)))))))
      (pss_cons (ps_set (i := 8) sc__law_all.nd rfl (.inl rfl) (pe_op op_add (pe_op op_sub (pv 4) (pv 1)) pe_int))
      (pss_cons (ps_set (i := 9) sc__law_all.nd rfl (.inl rfl) (pe_op op_sub (pe_ix (ixL (K := K)) (pv 0) (pv 8) (fun _ _ => rfl)) (pe_callB (sumL (K := K) rfl) (by rfl) T.z_sum (by decide +kernel) (pa_cons (pe_slice (slL (K := K)) (pv 6) (po_some (pv 8)) po_none) pa_nil))))
      (pss_one (ps_if (pt_chain op_le op_le pe_int (pv 9) (pv 2))
      (pss_one (ps_expr (bmK (K := K) (pe_bm PySem.F.plainAttrs_list PySem.F.slot_list_append PySem.F.type_list_append mt_append (pv 5) (pa_cons (pe_op op_cat (pv 6) (pe_lst (pa_cons (pv 9) pa_nil))) pa_nil)))))
      pss_nil)))))))
      (pss_one (ps_set (i := 3) sc__law_all.nd rfl (.inl rfl) (pv 5))))))
      (pss_one (ps_ret (pv 3))))), ?_⟩
    refine ⟨by show 0 ≤ sizeLine; decide, fun r0 hr0 => ?_⟩
    refine ⟨by show 1 ≤ sizeLine; decide, fun p0 hp0 => ?_⟩
    have sA : Same H (upd (upd H r0 (.lst [])) p0 (.lst [.ref r0])) := (Same.new hr0).trans (Same.new hp0)
    have nr : r0 ≠ p0 := fun e => by rw [← e, upd_same] at hp0; cases hp0
    walk_at "rds"
    refine ⟨a, _, rfl, Same.seq sA hS, ?_⟩
    rw [List.length_map]
    walk_at "rds"
    refine ⟨by omega, by omega, for_range (fun d σ H' => ∃ p x4 x5 x6 x7 x8 x9, σ = [some (.ref a), some (.int k), some (.int t), some (.ref p), x4, x5, x6, x7, x8, x9] ∧ Same H H' ∧ H p = none ∧ Grow H H' p (allW ss k.toNat t.toNat d)) ?_ ?_ ?_⟩
    · refine ⟨_, _, _, _, _, _, _, rfl, sA, Same.free (Same.new hr0) hp0, ⟨[r0], upd_same, ?_, fun a ha => by rw [List.mem_singleton.mp ha]; exact hr0⟩⟩
      refine Rows.nil.snoc (as := []) (ls := []) (l := []) ?_
      rw [cut_ne nr, upd_ne nr]
      exact upd_same
    · rintro d σ H' hd ⟨p, x4, x5, x6, x7, x8, x9, rfl, sB, fp, gp⟩
      obtain ⟨as, hp, rows, fas⟩ := gp.rows
      have ed : (0 : Int) + (d : Int) = (d : Int) := by omega
      refine ⟨by show 0 ≤ sizeLine; decide, fun qa hqa => ?_⟩
      have fq : H qa = none := Same.free sB hqa
      have sC : Same H' (cut qa (upd H' qa (.lst []))) := fun b o e => by
        rw [cut_ne (ne_of_none e hqa)]
        exact Same.new hqa b o e
      have sz : (allW ss k.toNat t.toNat d).length ≤ 1000 := allW_small hB
      have sz2 : (allW ss k.toNat t.toNat (d + 1)).length ≤ 1000 := allW_small hB
      walk_at "rds"
      refine ⟨⟨_, SqL.of (Same.new hqa p _ hp)⟩, for_list (K := K) (a := p) (xs := as.map V.ref) (fun i σ' H2 => ∃ x6 x7 x8 x9, σ' = [some (.ref a), some (.int k), some (.int t), some (.ref p), some (.int d), some (.ref qa), x6, x7, x8, x9] ∧ Fr qa (upd H' qa (.lst [])) H2 ∧ Grow H H2 qa (((allW ss k.toNat t.toNat d).take i).flatMap (nextW ss k.toNat t.toNat d))) ?_ ?_ ?_ ?_⟩
      · rw [ed]
        exact ⟨_, _, _, _, rfl, Fr.refl, Grow.new⟩
      · rintro i σ' H2 _ ⟨_, _, _, _, _, f2, _⟩
        exact SqL.of (f2.get (ne_of_none hp hqa) (Same.new hqa p _ hp))
      · rintro i x σ' H2 hx ⟨x6, x7, x8, x9, rfl, f2, g2⟩
        obtain ⟨b, l, rfl, hl, hb⟩ := rows.get hx
        have lp := allW_pre (show 1 ≤ k.toNat by omega) d l (List.mem_of_getElem? hl)
        have nb : b ≠ qa := ne_of_none hb hqa
        have big : ∀ m : List (List Int), m.length ≤ (nextW ss k.toNat t.toNat d l).length → (((allW ss k.toNat t.toNat d).take i).flatMap (nextW ss k.toNat t.toNat d) ++ m).length ≤ 1000 := fun m hm => by
          have e1 := flat_take (nextW ss k.toNat t.toNat d) hl
          have e2 : (((allW ss k.toNat t.toNat d).take (i + 1)).flatMap (nextW ss k.toNat t.toNat d)).length ≤ 1000 := by
            refine Nat.le_trans ?_ sz2
            rw [allW]
            conv => rhs; rw [← List.take_append_drop (i + 1) (allW ss k.toNat t.toNat d), List.flatMap_append, List.length_append]
            omega
          rw [e1, List.length_append] at e2
          rw [List.length_append]
          omega
        have sq : ∀ H3 : Hp, Fr qa (upd H' qa (.lst [])) H3 → H3 b = some (.lst (l.map V.int)) ∧ SqL K H3 a (ss.map V.int) := fun H3 f3 => by
          have s3 : Same H' (cut qa H3) := sC.trans f3
          exact ⟨(cut_some (s3 b _ hb)).2, Same.seq cut_sub (Same.seq s3 (Same.seq sB hS))⟩
        -- one more row: one + [y]
        have push : ∀ (y : Int) (m : List (List Int)) (H3 : Hp) (r u : Addr), m.length < (nextW ss k.toNat t.toNat d l).length → Fr qa (upd H' qa (.lst [])) H3 → Grow H H3 qa (((allW ss k.toNat t.toNat d).take i).flatMap (nextW ss k.toNat t.toNat d) ++ m) → H3 r = none →
            upd H3 r (.lst [.int y]) u = none → ∃ xs, upd (upd H3 r (.lst [.int y])) u (.lst (l.map V.int ++ [.int y])) qa = some (.lst xs) ∧ xs.length < sizeLine ∧
              Fr qa (upd H' qa (.lst [])) (upd (upd (upd H3 r (.lst [.int y])) u (.lst (l.map V.int ++ [.int y]))) qa (.lst (xs ++ [.ref u]))) ∧
              Grow H (upd (upd (upd H3 r (.lst [.int y])) u (.lst (l.map V.int ++ [.int y]))) qa (.lst (xs ++ [.ref u]))) qa (((allW ss k.toNat t.toNat d).take i).flatMap (nextW ss k.toNat t.toNat d) ++ (m ++ [l ++ [y]])) := by
          intro y m H3 r u hm f3 g3 hr1 hu1
          have s5 : Same H3 (upd (upd H3 r (.lst [.int y])) u (.lst (l.map V.int ++ [.int y]))) := (Same.new hr1).trans (Same.new hu1)
          obtain ⟨bs, h1, h2, h3⟩ := g3.same s5
          have nu : u ≠ qa := by
            obtain ⟨cs, z, _⟩ := g3
            exact (ne_of_none (Same.new hr1 _ _ z) hu1).symm
          refine ⟨bs.map V.ref, h1, ?_, (f3.trans (Fr.of s5)).put, ?_⟩
          · have e := h2.1
            have := big m (Nat.le_of_lt hm)
            rw [List.length_map, e]
            exact small1000 this
          · rw [← List.append_assoc]
            have fu : H u = none := by
              have s6 : Same H (cut qa (upd H3 r (.lst [.int y]))) := sB.trans ((sC.trans f3).trans (cut_mono (Same.new hr1)))
              exact Same.free s6 (cut_none hu1)
            refine Grow.put h1 h2 h3 nu fu ?_
            rw [upd_same, List.map_append]
            rfl
        walk_at "rds"
        refine ite2 (fun z => ?_) (fun z => ?_)
        · have z2 : d + 1 < k.toNat := by
            have := of_decide_eq_true z
            omega
          have en : nextW ss k.toNat t.toNat d l = (List.range (t.toNat + 1)).map fun (y : Nat) => l ++ [(y : Int)] := by
            unfold nextW
            rw [if_pos z2]
          walk_at "rds"
          refine ⟨by omega, by omega, for_range (fun y σ'' H3 => ∃ x7 x8 x9, σ'' = [some (.ref a), some (.int k), some (.int t), some (.ref p), some (.int d), some (.ref qa), some (.ref b), x7, x8, x9] ∧ Fr qa (upd H' qa (.lst [])) H3 ∧ Grow H H3 qa (((allW ss k.toNat t.toNat d).take i).flatMap (nextW ss k.toNat t.toNat d) ++ (List.range y).map fun (z : Nat) => l ++ [(z : Int)])) ?_ ?_ ?_⟩
          · exact ⟨_, _, _, rfl, f2, by rw [List.range_zero, List.map_nil, List.append_nil]; exact g2⟩
          · rintro y σ'' H3 hy ⟨x7, x8, x9, rfl, f3, g3⟩
            have ey : (0 : Int) + (y : Int) = (y : Int) := by omega
            obtain ⟨cs, gq, _⟩ := id g3
            obtain ⟨hb3, _⟩ := sq H3 f3
            rw [ey]
            walk_at "rds"
            refine ⟨.inl ⟨rfl, _, SqL.of gq⟩, ?_⟩
            walk_at "rds"
            refine ⟨by show 1 ≤ sizeLine; decide, fun r hr1 => ?_⟩
            have nbr : b ≠ r := ne_of_none hb3 hr1
            refine ⟨b, r, _, _, rfl, rfl, Same.new hr1 b _ hb3, upd_same, ?_, fun u hu1 => ?_⟩
            · rw [List.length_map, lp.len, sizeLine_eq]
              show d + 1 ≤ _
              omega
            obtain ⟨xs, e1, e2, e3, e4⟩ := push y _ H3 r u (by rw [en, List.length_map, List.length_map, List.length_range, List.length_range]; omega) f3 g3 hr1 hu1
            refine ⟨qa, xs, .ref u, rfl, rfl, e1, e2, _, _, _, rfl, e3, ?_⟩
            rw [List.range_succ, List.map_append]
            exact e4
          · rintro σ'' H3 ⟨x7, x8, x9, rfl, f3, g3⟩
            have et : (t + 1).toNat = t.toNat + 1 := by omega
            refine ⟨_, _, _, _, rfl, f3, ?_⟩
            rw [flat_take _ hl, en, ← et]
            exact g3
        · have z2 : ¬ d + 1 < k.toNat := fun y => z (decide_eq_true (by omega))
          obtain ⟨hb2, hS2⟩ := sq H2 f2
          have ei : d + 1 - k.toNat < ss.length := by omega
          have eg : ss[d + 1 - k.toNat]? = some (ss.getD (d + 1 - k.toNat) 0) := by
            rw [List.getD_eq_getElem?_getD, List.getElem?_eq_getElem ei]
            rfl
          walk_at "rds"
          refine ⟨a, _, _, _, rfl, rfl, hS2, at_int (j := d + 1 - k.toNat) (by omega) eg, ?_⟩
          walk_at "rds"
          refine ⟨b, _, rfl, SqL.of hb2, fun c hc => ?_⟩
          have ecut : cutV (l.map V.int) (some ((d : Int) - k + 1)) none = ((l.drop (d + 1 - k.toNat)).map V.int) := by
            have e1 : (d : Int) - k + 1 = ((d + 1 - k.toNat : Nat) : Int) := by omega
            rw [e1]
            exact cut_tail l _
          have s4 : Same H2 (upd H2 c (.lst (cutV (l.map V.int) (some ((d : Int) - k + 1)) none))) := Same.new hc
          refine ⟨c, _, rfl, SqL.of (by rw [upd_same, ecut]), ?_⟩
          walk_at "rds"
          have f4 := f2.trans (Fr.of s4)
          have g4 := g2.same s4
          have eN : ∀ m, nextW ss k.toNat t.toNat d l = m → ∀ H3, Grow H H3 qa (((allW ss k.toNat t.toNat d).take i).flatMap (nextW ss k.toNat t.toNat d) ++ m) → Grow H H3 qa (((allW ss k.toNat t.toNat d).take (i + 1)).flatMap (nextW ss k.toNat t.toNat d)) := fun m hm H3 g => by
            rw [flat_take _ hl, hm]
            exact g
          have no : ¬ (0 ≤ ss.getD (d + 1 - k.toNat) 0 - (l.drop (d + 1 - k.toNat)).sum ∧ ss.getD (d + 1 - k.toNat) 0 - (l.drop (d + 1 - k.toNat)).sum ≤ t.toNat) → nextW ss k.toNat t.toNat d l = [] := fun h => by
            unfold nextW
            rw [if_neg z2, if_neg h]
          refine ite2 (fun y1 => ?_) (fun y1 => ?_)
          · have w1 := of_decide_eq_true y1
            walk_at "rds"
            refine ite2 (fun y2 => ?_) (fun y2 => ?_)
            · have w2 := of_decide_eq_true y2
              have yes : nextW ss k.toNat t.toNat d l = [l ++ [ss.getD (d + 1 - k.toNat) 0 - (l.drop (d + 1 - k.toNat)).sum]] := by
                unfold nextW
                rw [if_neg z2, if_pos ⟨w1, by omega⟩]
              obtain ⟨cs, gq, _⟩ := id g4
              obtain ⟨hb4, _⟩ := sq _ f4
              walk_at "rds"
              refine ⟨.inl ⟨rfl, _, SqL.of gq⟩, ?_⟩
              walk_at "rds"
              refine ⟨by show 1 ≤ sizeLine; decide, fun r hr1 => ?_⟩
              refine ⟨b, r, _, _, rfl, rfl, Same.new hr1 b _ hb4, upd_same, ?_, fun u hu1 => ?_⟩
              · rw [List.length_map, lp.len, sizeLine_eq]
                show d + 1 ≤ _
                omega
              obtain ⟨xs, e1, e2, e3, e4⟩ := push _ [] _ r u (by rw [yes]; exact Nat.zero_lt_one) f4 (by rw [List.append_nil]; exact g4) hr1 hu1
              exact ⟨qa, xs, .ref u, rfl, rfl, e1, e2, _, _, _, _, rfl, e3, eN _ yes _ e4⟩
            · walk_at "rds"
              exact ⟨_, _, _, _, rfl, f4, eN _ (no fun h => y2 (decide_eq_true (by omega))) _ (by rw [List.append_nil]; exact g4)⟩
          · walk_at "rds"
            exact ⟨_, _, _, _, rfl, f4, eN _ (no fun h => y1 (decide_eq_true h.1)) _ (by rw [List.append_nil]; exact g4)⟩
      · rintro σ' H2 ⟨x6, x7, x8, x9, rfl, f2, g2⟩
        rw [List.length_map, rows.1, List.take_of_length_le (Nat.le_refl _)] at g2
        walk_at "rds"
        exact ⟨_, _, _, _, _, _, _, rfl, Same.over (sB.trans (Same.new hqa)) fq f2, fq, g2⟩
    · rintro σ H' ⟨p, x4, x5, x6, x7, x8, x9, rfl, sB, fp, gp⟩
      walk_at "rds"
      have e3 : ((ss.length : Int) + k - 1).toNat = ss.length + k.toNat - 1 := by omega
      rw [e3] at gp
      exact q H' p sB fp gp

-- 0:thing
theorem ok_is_integer {f fd : _} (T : Top K mg) (F : L2.Fun K "is_integer" "is_integer" s_is_integer f fd) : FnOk P w K mg base CX0 1 f fd ["thing"] (spIsInt K) := by
  refine F.ok sc_is_integer (fun vs H Q E h => ?_) (fun cdv A outer s H vs Q E hr h => ?_)
  · obtain ⟨x, b, rfl, _⟩ := h
    rfl
  · obtain ⟨x, b, rfl, ⟨t, c, d, ht, hc, hd, rfl⟩, q⟩ := h
    refine ⟨_, (pss_one (ps_ret (pe_and (pe_callB (isiL (K := K)) (by rfl) T.z_isinstance (by decide +kernel) (pa_cons (pv 0) (pa_cons (pe_bltn (v := .ty "int") (by rfl) T.z_int (by decide +kernel) rfl) pa_nil))) (pe_one (pe_not (pe_callB (isiL (K := K)) (by rfl) T.z_isinstance (by decide +kernel) (pa_cons (pv 0) (pa_cons (pe_bltn (v := .ty "bool") (by rfl) T.z_bool (by decide +kernel) rfl) pa_nil)))))))), ?_⟩
    walk_at "rds"
    refine ⟨x, _, t, _, c, rfl, .ty "int", ht, hc, ?_⟩
    walk_at "rds"
    cases c with
    | false => exact iteF q
    | true =>
      refine iteT ?_
      walk_at "rds"
      refine ⟨x, _, t, _, d, rfl, .ty "bool", ht, hd rfl, ?_⟩
      walk_at "rds"
      exact q
-- 0:thing 1:low 2:high
theorem ok_is_within {f fd : _} (T : Top K mg) (F : L2.Fun K "is_within" "is_within" s_is_within f fd) (G_is_integer : DefOk P w K mg base CX0 1 "is_integer" T.f_is_integer T.fd_is_integer ["thing"] (spIsInt K)) :
    FnOk P w K mg base CX0 2 f fd ["thing", "low", "high"] (spWithin K) := by
  refine F.ok sc_is_within (fun vs H Q E h => ?_) (fun cdv A outer s H vs Q E hr h => ?_)
  · rcases h with ⟨i, lo, hi, rfl, _⟩ | ⟨x, lo, hi, rfl, _⟩ <;> rfl
  · refine ⟨_, (pss_one (ps_ret (pe_and (Ws.pc G_is_integer hr (pa_cons (pv 0) pa_nil)) (pe_one (pe_chain op_le op_le (pv 1) (pv 0) (pv 2)))))), ?_⟩
    rcases h with ⟨i, lo, hi, rfl, q⟩ | ⟨x, lo, hi, rfl, hx, q⟩
    · walk_at "rds"
      refine ⟨_, true, rfl, Ti.int i, ?_⟩
      walk_at "rds"
      refine ite2 (fun z => ?_) (fun z => ?_)
      · rw [show decide (lo ≤ i) = true from z] at q
        walk_at "rds"
        exact q
      · rw [show decide (lo ≤ i) = false from Bool.eq_false_iff.mpr z] at q
        exact q
    · walk_at "rds"
      refine ⟨x, false, rfl, hx, ?_⟩
      walk_at "rds"
      exact iteF q
-- 0:thing 1:many 2:item
def spIsRow2 (K : PySem.W.Frag) : Sp := fun vs H Q E => ∃ x : V, vs = [x, .int 67] ∧ spIsRow K [x] H Q E
def spRowOfSums (K : PySem.W.Frag) : Sp := fun vs H Q _ => ∃ (a : Addr) (ss : List Int), vs = [.ref a] ∧ SqL K H a (ss.map V.int) ∧ 1 ≤ ss.length ∧ ss.length ≤ 67 ∧ ∀ H', Same H H' → Q .non H'
theorem ok_is_row {f fd : _} (T : Top K mg) (F : L2.Fun K "is_row" "is_row" s_is_row f fd) (G_is_integer : DefOk P w K mg base CX0 1 "is_integer" T.f_is_integer T.fd_is_integer ["thing"] (spIsInt K)) :
    FnOk P w K mg base CX0 2 f fd ["thing", "many"] (spIsRow2 K) := by
  refine F.ok sc_is_row (fun vs H Q E h => ?_) (fun cdv A outer s H vs Q E hr h => ?_)
  · obtain ⟨x, rfl, _⟩ := h
    rfl
  · refine ⟨_, (pss_cons (ps_if (PW.pt (pw_or (pt_cmpR op_isNotTy (pe_callTy (typL (K := K)) (by rfl) T.z_type (by decide +kernel) (pa_cons (pv 0) pa_nil)) (pe_bltn (v := .ty "list") (by rfl) T.z_list (by decide +kernel) rfl) (nomark _)) (pw_or1 (pt_not (pt_chain op_le op_le pe_int (pe_callB (lenL (K := K)) (by rfl) T.z_len (by decide +kernel) (pa_cons (pv 0) pa_nil)) (pv 1))))))
      (pss_one (ps_ret pe_bl))
      pss_nil)
      (pss_one (ps_ret (pe_callB (allL (K := K) rfl) (by rfl) T.z_all (by decide +kernel) (pa_cons (pe_lc (own := [("item", 2)]) (g := gName 2) (tt := tYes) (by rfl) sc_is_row.nd (piL (K := K) (pv 0)) (blkOk_by (N := ["thing", "many", "item"]) (sc := defScope s_is_row) (by decide +kernel)) (fun _ _ _ _ _ => pg_name (i := 2) sc_is_row.nd rfl (Or.inl rfl)) (fun _ _ _ _ _ => pts_nil) (fun _ _ _ _ _ => (Ws.pc G_is_integer hr (pa_cons (pv 2) pa_nil)))) pa_nil))))), ?_⟩
    obtain ⟨x0, rfl, h⟩ := h
    rcases h with ⟨a, xs, e0, hS, hz, hx, q⟩ | ⟨x, t, e0, ht, hn, q⟩ <;> cases e0
    · walk_at "rds"
      refine ⟨.ref a, "list", rfl, .lst hS, ?_⟩
      walk_at "rds"
      refine ⟨a, xs, rfl, hS, ?_⟩
      walk_at "rds"
      have fin : ∀ H', Same H H' → (decide (1 ≤ xs.length) && decide (xs.length ≤ 67)) = false → Q (.bl false) H' := fun H' s1 z => by
        have q1 := q H' s1
        rw [z] at q1
        exact q1
      refine ite2 (fun z1 => ?_) (fun z1 => ?_)
      · walk_at "rds"
        have y1 : decide (1 ≤ xs.length) = true := by
          have := of_decide_eq_true z1
          exact decide_eq_true (by omega)
        refine ite2 (fun z2 => ?_) (fun z2 => ?_)
        · refine fin H (Same.refl H) ?_
          rw [y1]
          have z3 : ¬ ((xs.length : Int) ≤ 67) := fun y => by
            rw [decide_eq_true y] at z2
            cases z2
          have z4 : decide (xs.length ≤ 67) = false := decide_eq_false (by omega)
          rw [z4]
          rfl
        · have y2 : decide (xs.length ≤ 67) = true := by
            have z3 : decide ((xs.length : Int) ≤ 67) = true := by
              cases e : decide ((xs.length : Int) ≤ 67) with
              | true => rfl
              | false =>
                rw [e] at z2
                exact absurd rfl z2
            have := of_decide_eq_true z3
            exact decide_eq_true (by omega)
          walk_at "rds"
          refine ⟨⟨_, hS⟩, fun D hD => ?_⟩
          refine lc_list (K := K) (a := a) (xs := xs) (fun i H3 => Same H H3 ∧ H3 D = some (.lst (((xs.take i).map whole).map V.bl))) ?_ ?_ ?_ ?_
          · exact ⟨Same.new hD, upd_same⟩
          · rintro i H3 _ ⟨s3, _⟩
            exact Same.seq s3 hS
          · rintro i x H3 hi ⟨s3, h3⟩
            refine ⟨rfl, ?_⟩
            walk_at "rds"
            refine ⟨x, _, rfl, hx x (List.mem_of_getElem? hi) H3 s3, _, h3, ?_, Same.mut s3 hD, ?_⟩
            · rw [List.length_map, List.length_map, List.length_take]
              exact Nat.lt_of_le_of_lt (Nat.min_le_right _ _) (small1000 (by omega))
            · rw [upd_same, take_next hi, List.map_append, List.map_append]
              rfl
          · rintro H3 ⟨s3, h3⟩
            rw [List.take_length] at h3
            refine ⟨D, _, rfl, SqL.of h3, ?_⟩
            have q1 := q H3 s3
            rw [y1, y2] at q1
            rw [List.all_map]
            exact q1
      · walk_at "rds"
        refine fin H (Same.refl H) ?_
        have z3 : ¬ ((1 : Int) ≤ xs.length) := fun y => z1 (decide_eq_true y)
        have z4 : decide (1 ≤ xs.length) = false := decide_eq_false (by omega)
        rw [z4]
        rfl
    · walk_at "rds"
      refine ⟨_, t, rfl, ht, ?_⟩
      walk_at "rds"
      have e : decide (t = "list") = false := decide_eq_false hn
      show (if (!decide (t = "list")) = true then _ else _)
      rw [e]
      refine iteT ?_
      walk_at "rds"
      exact q

-- 0:numbers 1:length
theorem ok_check_numbers {f fd : _} (T : Top K mg) (F : L2.Fun K "check_numbers" "check_numbers" s_check_numbers f fd)
    (G_is_row : DefOk P w K mg base CX0 2 "is_row" T.f_is_row T.fd_is_row ["thing", "many"] (spIsRow2 K))
    (G_is_within : DefOk P w K mg base CX0 2 "is_within" T.f_is_within T.fd_is_within ["thing", "low", "high"] (spWithin K)) :
    FnOk P w K mg base CX0 3 f fd ["numbers", "length"] (spNumsOk K) := by
  refine F.ok sc_check_numbers (fun vs H Q E h => ?_) (fun cdv A outer s H vs Q E hr h => ?_)
  · obtain ⟨a, ns, k, rfl, _⟩ := h
    rfl
  · obtain ⟨a, ns, k, rfl, hS, k1, k8, kn, hn, q⟩ := h
    refine ⟨_, (pss_cons (ps_if (pt_not (pt_val (Ws.pc G_is_row hr (pa_cons (pv 0) (pa_cons (pe_glob (v := .int 67) rfl T.c_GREATEST_COUNT.choose_spec ⟨_, rfl⟩) pa_nil)))))
      (pss_one ps_never)
      pss_nil)
      (pss_one (ps_if (pt_not (pt_val (Ws.pc G_is_within hr (pa_cons (pv 1) (pa_cons pe_int (pa_cons (pe_callB (call_min2 rfl) (by rfl) T.z_min (by decide +kernel) (pa_cons (pe_glob (v := .int 8) rfl T.c_GREATEST_LENGTH.choose_spec ⟨_, rfl⟩) (pa_cons (pe_callB (lenL (K := K)) (by rfl) T.z_len (by decide +kernel) (pa_cons (pv 0) pa_nil)) pa_nil))) pa_nil))))))
      (pss_one ps_never)
      pss_nil))), ?_⟩
    have eL : (ns.map V.int).length = ns.length := List.length_map ..
    walk_at "rds"
    refine .inl ⟨a, _, rfl, hS, by omega, ti_ints, fun H1 s1 => ?_⟩
    rw [eL, all_int, decide_eq_true (show 1 ≤ ns.length by omega), decide_eq_true hn]
    walk_at "rds"
    refine ⟨a, _, rfl, Same.seq s1 hS, ?_⟩
    walk_at "rds"
    refine .inl ⟨_, _, _, rfl, ?_⟩
    rw [eL, decide_eq_true k1, decide_eq_true (show k ≤ (if (ns.length : Int) < 8 then (ns.length : Int) else 8) by split <;> omega)]
    walk_at "rds"
    exact q H1 s1

-- 0:sums
theorem ok_check_row_of_sums {f fd : _} (T : Top K mg) (F : L2.Fun K "check_row_of_sums" "check_row_of_sums" s_check_row_of_sums f fd)
    (G_is_row : DefOk P w K mg base CX0 2 "is_row" T.f_is_row T.fd_is_row ["thing", "many"] (spIsRow2 K)) :
    FnOk P w K mg base CX0 3 f fd ["sums"] (spRowOfSums K) := by
  refine F.ok sc_check_row_of_sums (fun vs H Q E h => ?_) (fun cdv A outer s H vs Q E hr h => ?_)
  · obtain ⟨a, ns, rfl, _⟩ := h
    rfl
  · obtain ⟨a, ns, rfl, hS, n1, n67, q⟩ := h
    refine ⟨_, (pss_one (ps_if (pt_not (pt_val (Ws.pc G_is_row hr (pa_cons (pv 0) (pa_cons (pe_glob (v := .int 67) rfl T.c_GREATEST_COUNT.choose_spec ⟨_, rfl⟩) pa_nil)))))
      (pss_one ps_never)
      pss_nil)), ?_⟩
    have eL : (ns.map V.int).length = ns.length := List.length_map ..
    walk_at "rds"
    refine .inl ⟨a, _, rfl, hS, by omega, ti_ints, fun H1 s1 => ?_⟩
    rw [eL, all_int, decide_eq_true n1, decide_eq_true n67]
    walk_at "rds"
    exact q H1 s1
-- 0:sums 1:length
theorem ok_check_sums {f fd : _} (T : Top K mg) (F : L2.Fun K "check_sums" "check_sums" s_check_sums f fd)
    (G_check_row_of_sums : DefOk P w K mg base CX0 3 "check_row_of_sums" T.f_check_row_of_sums T.fd_check_row_of_sums ["sums"] (spRowOfSums K))
    (G_is_within : DefOk P w K mg base CX0 2 "is_within" T.f_is_within T.fd_is_within ["thing", "low", "high"] (spWithin K)) :
    FnOk P w K mg base CX0 4 f fd ["sums", "length"] (spSumsOk K) := by
  refine F.ok sc_check_sums (fun vs H Q E h => ?_) (fun cdv A outer s H vs Q E hr h => ?_)
  · obtain ⟨a, ns, k, rfl, _⟩ := h
    rfl
  · obtain ⟨a, ns, k, rfl, hS, n1, k1, k8, kn, q⟩ := h
    refine ⟨_, (pss_cons (ps_expr (Ws.pc G_check_row_of_sums hr (pa_cons (pv 0) pa_nil)))
      (pss_one (ps_if (pt_not (pt_val (Ws.pc G_is_within hr (pa_cons (pv 1) (pa_cons pe_int (pa_cons (pe_callB (call_min2 rfl) (by rfl) T.z_min (by decide +kernel) (pa_cons (pe_glob (v := .int 8) rfl T.c_GREATEST_LENGTH.choose_spec ⟨_, rfl⟩) (pa_cons (pe_op op_sub (pe_op op_add (pe_glob (v := .int 67) rfl T.c_GREATEST_COUNT.choose_spec ⟨_, rfl⟩) pe_int) (pe_callB (lenL (K := K)) (by rfl) T.z_len (by decide +kernel) (pa_cons (pv 0) pa_nil))) pa_nil))) pa_nil))))))
      (pss_one ps_never)
      pss_nil))), ?_⟩
    have eL : (ns.map V.int).length = ns.length := List.length_map ..
    walk_at "rds"
    refine ⟨a, ns, rfl, hS, n1, by omega, fun H1 s1 => ?_⟩
    walk_at "rds"
    refine ⟨a, _, rfl, Same.seq s1 hS, ?_⟩
    walk_at "rds"
    refine .inl ⟨_, _, _, rfl, ?_⟩
    rw [eL, decide_eq_true k1, decide_eq_true (show k ≤ (if (67 + 1 - (ns.length : Int)) < 8 then (67 + 1 - (ns.length : Int)) else 8) by split <;> omega)]
    walk_at "rds"
    exact q H1 s1

-- 0:numbers 1:length 2:day
theorem ok_row_sums {f fd : _} (T : Top K mg) (F : L2.Fun K "row_sums" "row_sums" s_row_sums f fd) : FnOk P w K mg base CX0 1 f fd ["numbers", "length"] (spRowSums K) := by
  refine F.ok sc_row_sums (fun vs H Q E h => ?_) (fun cdv A outer s H vs Q E hr h => ?_)
  · obtain ⟨a, ns, k, rfl, _⟩ := h
    rfl
  · obtain ⟨a, ns, k, rfl, hS, k1, k8, kn, hn, q⟩ := h
    refine ⟨_, (pss_one (ps_ret (pe_lc (own := [("day", 2)]) (g := gName 2) (tt := tYes) (by rfl) sc_row_sums.nd (pi_range1 (by rfl) T.z_range (pa_cons (pe_op op_add (pe_op op_sub (pe_callB (lenL (K := K)) (by rfl) T.z_len (by decide +kernel) (pa_cons (pv 0) pa_nil)) (pv 1)) pe_int) pa_nil)) (blkOk_by (N := ["numbers", "length", "day"]) (sc := defScope s_row_sums) (by decide +kernel)) (fun _ _ _ _ _ => pg_name (i := 2) sc_row_sums.nd rfl (Or.inl rfl)) (fun _ _ _ _ _ => pts_nil) (fun _ _ _ _ _ => (pe_callB (sumL (K := K) rfl) (by rfl) T.z_sum (by decide +kernel) (pa_cons (pe_slice (slL (K := K)) (pv 0) (po_some (pv 2)) (po_some (pe_op op_add (pv 2) (pv 1)))) pa_nil)))))), ?_⟩
    walk_at "rds"
    refine ⟨a, _, rfl, hS, ?_⟩
    walk_at "rds"
    have eL : (ns.map V.int).length = ns.length := List.length_map ..
    refine ⟨by rw [eL]; omega, by rw [eL]; omega, fun D hD => ?_⟩
    refine lc_range (lo := 0) (n := ((ns.map V.int).length - k + 1 : Int).toNat) (fun i H3 => Same H H3 ∧ H3 D = some (.lst (((wsums ns k.toNat).take i).map V.int))) ?_ ?_ ?_
    · exact ⟨Same.new hD, upd_same⟩
    · rintro i H3 hi ⟨s3, h3⟩
      have hi2 : i < ns.length + 1 - k.toNat := by rw [eL] at hi; omega
      refine ⟨rfl, ?_⟩
      walk_at "rds"
      refine ⟨a, _, rfl, Same.seq s3 hS, fun p hp => ?_⟩
      have ecut : cutV (ns.map V.int) (some (0 + (i : Int))) (some (0 + (i : Int) + k)) = ((ns.drop i).take k.toNat).map V.int := by
        have e1 : (0 : Int) + (i : Int) = ((i : Nat) : Int) := by omega
        have e2 : ((i : Nat) : Int) + k = ((i + k.toNat : Nat) : Int) := by omega
        rw [e1, e2]
        exact cut_window ns i k.toNat
      have neD : D ≠ p := ne_of_none h3 hp
      refine ⟨p, _, rfl, SqL.of (by rw [upd_same, ecut]), _, (by rw [upd_ne neD]; exact h3), ?_, Same.mut (s3.trans (Same.new hp)) hD, ?_⟩
      · rw [List.length_map, List.length_take, wsums_len]
        exact Nat.lt_of_le_of_lt (Nat.min_le_left _ _) (small1000 (by omega))
      · rw [upd_same, map_take_snoc (wsums_get hi2)]
    · rintro H3 ⟨s3, h3⟩
      refine q H3 D s3 hD ?_
      rw [h3, List.take_of_length_le]
      rw [wsums_len, eL]
      omega

-- 0:numbers 1:length
theorem ok_sums_of {f fd : _} (T : Top K mg) (F : L2.Fun K "sums_of" "sums_of" s_sums_of f fd)
    (G_check_numbers : DefOk P w K mg base CX0 3 "check_numbers" T.f_check_numbers T.fd_check_numbers ["numbers", "length"] (spNumsOk K))
    (G_row_sums : DefOk P w K mg base CX0 1 "row_sums" T.f_row_sums T.fd_row_sums ["numbers", "length"] (spRowSums K)) :
    FnOk P w K mg base CX0 4 f fd ["numbers", "length"] (spSumsOf K) := by
  refine F.ok sc_sums_of (fun vs H Q E h => ?_) (fun cdv A outer s H vs Q E hr h => ?_)
  · obtain ⟨a, ns, k, rfl, _⟩ := h
    rfl
  · obtain ⟨a, ns, k, rfl, hS, k1, k8, kn, hn, q⟩ := h
    refine ⟨_, (pss_cons (ps_expr (Ws.pc G_check_numbers hr (pa_cons (pv 0) (pa_cons (pv 1) pa_nil))))
      (pss_one (ps_ret (Ws.pc G_row_sums hr (pa_cons (pv 0) (pa_cons (pv 1) pa_nil)))))), ?_⟩
    walk_at "rds"
    refine ⟨a, ns, k, rfl, hS, k1, k8, kn, hn, fun H1 s1 => ?_⟩
    walk_at "rds"
    refine ⟨a, ns, k, rfl, Same.seq s1 hS, k1, k8, kn, by omega, fun H2 p s2 hp h2 => ?_⟩
    exact q H2 p (s1.trans s2) (Same.free s1 hp) h2

-- 0:sums 1:length 2:offsets 3:at
theorem ok_offsets_of {f fd : _} (T : Top K mg) (F : L2.Fun K "offsets_of" "offsets_of" s_offsets_of f fd) : FnOk P w K mg base CX0 1 f fd ["sums", "length"] (spOffs K) := by
  refine F.ok sc_offsets_of (fun vs H Q E h => ?_) (fun cdv A outer s H vs Q E hr h => ?_)
  · obtain ⟨a, ss, k, rfl, _⟩ := h
    rfl
  · obtain ⟨a, ss, k, rfl, hS, s1, k1, k8, hk, q⟩ := h
    refine ⟨_, (pss_cons (ps_set (i := 2) sc_offsets_of.nd rfl (.inl rfl) (pe_op op_rep (pe_lst (pa_cons pe_int pa_nil)) (pv 1)))
      (pss_cons (ps_for PassesOwn.never rfl (pi_range1 (by rfl) T.z_range (pa_cons (pe_op op_sub (pe_callB (lenL (K := K)) (by rfl) T.z_len (by decide +kernel) (pa_cons (pv 0) pa_nil)) pe_int) pa_nil)) (pg_name (i := 3) sc_offsets_of.nd rfl (.inl rfl))
      (pss_one (ps_expr (bmK (K := K) (pe_bm PySem.F.plainAttrs_list PySem.F.slot_list_append PySem.F.type_list_append mt_append (pv 2) (pa_cons (pe_op op_sub (pe_op op_add (pe_ix (ixL (K := K)) (pv 2) (pv 3) (fun _ _ => rfl)) (pe_ix (ixL (K := K)) (pv 0) (pe_op op_add (pv 3) pe_int) (fun _ _ => rfl))) (pe_ix (ixL (K := K)) (pv 0) (pv 3) (fun _ _ => rfl))) pa_nil))))))
      (pss_one (ps_ret (pv 2))))), ?_⟩
    walk_at "rds"
    refine ⟨by show 1 ≤ sizeLine; decide, fun o ho => ?_⟩
    walk_at "rds"
    refine ⟨o, k, _, rfl, rfl, upd_same, by omega, by omega, ?_, fun o2 ho2 => ?_⟩
    · show 1 * k.toNat ≤ sizeLine
      rw [sizeLine_eq]
      omega
    have e0 : (List.replicate k.toNat [V.int 0]).flatten = (offL ss k.toNat k.toNat).map V.int := by
      rw [offL_zero, List.map_replicate]
      exact flat_rep _ _
    have sA : Same H (upd (upd H o (.lst [.int 0])) o2 (.lst (List.replicate k.toNat [V.int 0]).flatten)) := (Same.new ho).trans (Same.new ho2)
    have fo : H o2 = none := Same.free (Same.new ho) ho2
    walk_at "rds"
    refine ⟨a, _, rfl, Same.seq sA hS, ?_⟩
    rw [List.length_map]
    walk_at "rds"
    refine ⟨by omega, by omega, for_range (fun i σ H' => ∃ x3, σ = [some (.ref a), some (.int k), some (.ref o2), x3] ∧ Same H H' ∧ H' o2 = some (.lst ((offL ss k.toNat (k.toNat + i)).map V.int))) ?_ ?_ ?_⟩
    · refine ⟨_, rfl, sA, ?_⟩
      rw [upd_same, e0]
      rfl
    · rintro i σ H' hi ⟨x3, rfl, sB, h1⟩
      have hi2 : i + 1 < ss.length := by omega
      walk_at "rds"
      refine ⟨.inl ⟨rfl, _, SqL.of h1⟩, ?_⟩
      walk_at "rds"
      refine ⟨o2, _, _, _, rfl, rfl, SqL.of h1, at_int (j := i) (by omega) (offL_get (by omega)), ?_⟩
      walk_at "rds"
      refine ⟨a, _, _, _, rfl, rfl, Same.seq sB hS, at_int (j := i + 1) (by omega) (List.getElem?_eq_getElem hi2), ?_⟩
      walk_at "rds"
      refine ⟨a, _, _, _, rfl, rfl, Same.seq sB hS, at_int (j := i) (by omega) (List.getElem?_eq_getElem (by omega)), ?_⟩
      walk_at "rds"
      refine ⟨o2, _, _, rfl, rfl, h1, ?_, _, rfl, Same.mut sB fo, ?_⟩
      · rw [List.length_map, offL_len]
        exact small5 (by omega)
      · rw [upd_same]
        have e1 : k.toNat + (i + 1) = k.toNat + i + 1 := rfl
        have e2 : off ss k.toNat (k.toNat + i) = off ss k.toNat i + ss[i + 1] - ss[i] := by
          rw [off_hi (by omega), List.getD_eq_getElem?_getD, List.getD_eq_getElem?_getD, List.getElem?_eq_getElem hi2, List.getElem?_eq_getElem (show i < ss.length by omega)]
          rfl
        rw [e1, offL_succ, List.map_append, e2]
        rfl
    · rintro σ H' ⟨x3, rfl, sB, h1⟩
      walk_at "rds"
      have e3 : k.toNat + ((ss.length : Int) - 1).toNat = ss.length + k.toNat - 1 := by omega
      rw [e3] at h1
      exact q H' o2 sB fo h1
-- 0:sums 1:offsets 2:days 3:day
theorem ok_total_at {f fd : _} (T : Top K mg) (F : L2.Fun K "total_at" "total_at" s_total_at f fd) : FnOk P w K mg base CX0 1 f fd ["sums", "offsets", "days"] (spTotalAt K) := by
  refine F.ok sc_total_at (fun vs H Q E h => ?_) (fun cdv A outer s H vs Q E hr h => ?_)
  · obtain ⟨a, o, d, ss, ofs, ds, rfl, _⟩ := h
    rfl
  · obtain ⟨a, o, d, ss, ofs, ds, rfl, hS, hO, hD, s1, hi, l1, q⟩ := h
    refine ⟨_, (pss_one (ps_ret (pe_op op_add (pe_ix (ixL (K := K)) (pv 0) pe_int (fun _ _ => rfl)) (pe_callB (sumL (K := K) rfl) (by rfl) T.z_sum (by decide +kernel) (pa_cons (pe_lc (own := [("day", 3)]) (g := gName 3) (tt := tYes) (by rfl) sc_total_at.nd (piL (K := K) (pv 2)) (blkOk_by (N := ["sums", "offsets", "days", "day"]) (sc := defScope s_total_at) (by decide +kernel)) (fun _ _ _ _ _ => pg_name (i := 3) sc_total_at.nd rfl (Or.inl rfl)) (fun _ _ _ _ _ => pts_nil) (fun _ _ _ _ _ => (pe_ix (ixL (K := K)) (pv 1) (pv 3) (fun _ _ => rfl)))) pa_nil))))), ?_⟩
    walk_at "rds"
    have h0 : ss[0]? = some (ss.getD 0 0) := by
      rw [List.getD_eq_getElem?_getD, List.getElem?_eq_getElem s1]
      rfl
    refine ⟨a, _, _, _, rfl, rfl, hS, at_int (j := 0) rfl h0, ?_⟩
    walk_at "rds"
    refine ⟨⟨_, hD⟩, fun L hL => ?_⟩
    refine lc_list (K := K) (a := d) (xs := ds.map V.int) (fun i H3 => Same H H3 ∧ H3 L = some (.lst (((ds.map fun x => ofs.getD x.toNat 0).take i).map V.int))) ?_ ?_ ?_ ?_
    · exact ⟨Same.new hL, upd_same⟩
    · rintro i H3 _ ⟨s3, _⟩
      exact Same.seq s3 hD
    · rintro i x H3 hx ⟨s3, h3⟩
      obtain ⟨v, hv, rfl⟩ := int_at hx
      have hb := hi v (List.mem_of_getElem? hv)
      have hg : ofs[v.toNat]? = some (ofs.getD v.toNat 0) := by
        rw [List.getD_eq_getElem?_getD, List.getElem?_eq_getElem (by omega)]
        rfl
      refine ⟨rfl, ?_⟩
      walk_at "rds"
      refine ⟨o, _, _, _, rfl, rfl, Same.seq s3 hO, at_int (j := v.toNat) (by omega) hg, ?_⟩
      refine ⟨_, h3, ?_, Same.mut s3 hL, ?_⟩
      · rw [List.length_map, List.length_take, List.length_map]
        exact Nat.lt_of_le_of_lt (Nat.min_le_right _ _) (small5 (by omega))
      · rw [upd_same, map_take_snoc (x := ofs.getD v.toNat 0) (by rw [List.getElem?_map, hv]; rfl)]
    · rintro H3 ⟨s3, h3⟩
      rw [List.length_map, List.take_of_length_le (by rw [List.length_map]; exact Nat.le_refl _)] at h3
      refine ⟨L, _, rfl, SqL.of h3, ?_⟩
      walk_at "rds"
      exact q H3 s3

-- 0:most
theorem ok_check_most {f fd : _} (T : Top K mg) (F : L2.Fun K "check_most" "check_most" s_check_most f fd) (G_is_within : DefOk P w K mg base CX0 2 "is_within" T.f_is_within T.fd_is_within ["thing", "low", "high"] (spWithin K)) :
    FnOk P w K mg base CX0 3 f fd ["most"] spMostOk := by
  refine F.ok sc_check_most (fun vs H Q E h => ?_) (fun cdv A outer s H vs Q E hr h => ?_)
  · obtain ⟨t, rfl, _⟩ := h
    rfl
  · obtain ⟨t, rfl, t0, t1, q⟩ := h
    refine ⟨_, (pss_one (ps_if (pt_not (pt_val (Ws.pc G_is_within hr (pa_cons (pv 0) (pa_cons pe_int (pa_cons (pe_glob (v := .int 999999999999999999999999999999) rfl T.c_GREATEST_MOST.choose_spec ⟨_, rfl⟩) pa_nil))))))
      (pss_one ps_never)
      pss_nil)), ?_⟩
    walk_at "rds"
    refine .inl ⟨_, _, _, rfl, ?_⟩
    rw [decide_eq_true t0, decide_eq_true t1]
    walk_at "rds"
    exact q
-- 0:sums 1:length 2:most
theorem ok_check_told {f fd : _} (T : Top K mg) (F : L2.Fun K "check_told" "check_told" s_check_told f fd)
    (G_check_sums : DefOk P w K mg base CX0 4 "check_sums" T.f_check_sums T.fd_check_sums ["sums", "length"] (spSumsOk K))
    (G_check_most : DefOk P w K mg base CX0 3 "check_most" T.f_check_most T.fd_check_most ["most"] spMostOk) :
    FnOk P w K mg base CX0 5 f fd ["sums", "length", "most"] (spToldOk K) := by
  refine F.ok sc_check_told (fun vs H Q E h => ?_) (fun cdv A outer s H vs Q E hr h => ?_)
  · obtain ⟨a, ss, k, t, rfl, _⟩ := h
    rfl
  · obtain ⟨a, ss, k, t, rfl, hS, s1, k1, k8, ks, t0, t1, q⟩ := h
    refine ⟨_, (pss_cons (ps_expr (Ws.pc G_check_sums hr (pa_cons (pv 0) (pa_cons (pv 1) pa_nil))))
      (pss_one (ps_expr (Ws.pc G_check_most hr (pa_cons (pv 2) pa_nil))))), ?_⟩
    walk_at "rds"
    refine ⟨a, ss, k, rfl, hS, s1, k1, k8, ks, fun H1 u1 => ?_⟩
    walk_at "rds"
    refine ⟨t0, t1, ?_⟩
    exact q H1 u1

-- 0:offsets 1:length 2:most 3:first 4:second
theorem ok_first_apart {f fd : _} (T : Top K mg) (F : L2.Fun K "first_apart" "first_apart" s_first_apart f fd) : FnOk P w K mg base CX0 1 f fd ["offsets", "length", "most"] (spNear K) := by
  refine F.ok sc_first_apart (fun vs H Q E h => ?_) (fun cdv A outer s H vs Q E hr h => ?_)
  · obtain ⟨o, os, k, t, rfl, _⟩ := h
    rfl
  · obtain ⟨o, os, k, t, rfl, hO, o1, k1, k8, hN, q⟩ := h
    refine ⟨_, (pss_cons (ps_for PassesOwn.never rfl (pi_range1 (by rfl) T.z_range (pa_cons (pe_callB (lenL (K := K)) (by rfl) T.z_len (by decide +kernel) (pa_cons (pv 0) pa_nil)) pa_nil)) (pg_name (i := 3) sc_first_apart.nd rfl (.inl rfl))
      (pss_one (ps_for PassesOwn.never rfl (pi_range3 (by rfl) T.z_range (pa_cons (pe_op op_add (pv 3) (pv 1)) (pa_cons (pe_callB (lenL (K := K)) (by rfl) T.z_len (by decide +kernel) (pa_cons (pv 0) pa_nil)) (pa_cons (pv 1) pa_nil)))) (pg_name (i := 4) sc_first_apart.nd rfl (.inl rfl))
      (pss_one (ps_if (pt_cmpR op_gt (pe_callB call_abs (by rfl) T.z_abs (by decide +kernel) (pa_cons (pe_op op_sub (pe_ix (ixL (K := K)) (pv 0) (pv 4) (fun _ _ => rfl)) (pe_ix (ixL (K := K)) (pv 0) (pv 3) (fun _ _ => rfl))) pa_nil)) (pv 2) (nomark _))
      (pss_one (ps_ret (pe_lst (pa_cons (pv 3) (pa_cons (pv 4) pa_nil)))))
      pss_nil)))))
      (pss_one (ps_ret pe_non))), ?_⟩
    walk_at "rds"
    refine ⟨o, _, rfl, hO, ?_⟩
    rw [List.length_map]
    walk_at "rds"
    refine ⟨by omega, by omega, for_range (fun i σ H' => ∃ x3 x4, σ = [some (.ref o), some (.int k), some (.int t), x3, x4] ∧ H' = H) ?_ ?_ ?_⟩
    · exact ⟨_, _, rfl, rfl⟩
    · rintro i σ H' hi ⟨x3, x4, rfl, rfl⟩
      walk_at "rds"
      refine ⟨o, _, rfl, hO, ?_⟩
      rw [List.length_map]
      walk_at "rds"
      refine ⟨_, _, _, _, rfl, rg_step (by omega) (by omega) (by omega) (by omega) k1 k8, for_rangeC (fun j σ H2 => ∃ x4, σ = [some (.ref o), some (.int k), some (.int t), some (.int (0 + (i : Int))), x4] ∧ H2 = H') ?_ ?_ ?_⟩
      · exact ⟨_, rfl, rfl⟩
      · rintro j σ H2 hj ⟨x4, rfl, rfl⟩
        have hj2 := cnt_lt (show 1 ≤ k.toNat by omega) hj
        have ek : (0 + (i : Int) + k) + (j : Int) * k = ((i + k.toNat * (j + 1) : Nat) : Int) := by
          have e1 : k = (k.toNat : Int) := by omega
          have e2 : ((k.toNat * (j + 1) : Nat) : Int) = (j : Int) * k + k := by
            rw [Int.natCast_mul, ← e1, Int.mul_comm, Int.natCast_add, Int.add_mul]
            omega
          omega
        have lt2 : i + k.toNat * (j + 1) < os.length := by
          have : k.toNat * (j + 1) = k.toNat * j + k.toNat := by rw [Nat.mul_add, Nat.mul_one]
          omega
        have g2 : os[i + k.toNat * (j + 1)]? = some (os.getD (i + k.toNat * (j + 1)) 0) := by
          rw [List.getD_eq_getElem?_getD, List.getElem?_eq_getElem lt2]
          rfl
        have g1 : os[i]? = some (os.getD i 0) := by
          rw [List.getD_eq_getElem?_getD, List.getElem?_eq_getElem (by omega)]
          rfl
        have cls : i % k.toNat = (i + k.toNat * (j + 1)) % k.toNat := by rw [Nat.add_mul_mod_self_left]
        have n1 := hN i _ (by omega) lt2 cls
        have n2 := hN _ i lt2 (by omega) cls.symm
        walk_at "rds"
        refine ⟨o, _, _, _, rfl, rfl, hO, at_int ek g2, ?_⟩
        walk_at "rds"
        refine ⟨o, _, _, _, rfl, rfl, hO, at_int (j := i) (by omega) g1, ?_⟩
        walk_at "rds"
        have e : decide (t < (if os.getD (i + k.toNat * (j + 1)) 0 - os.getD i 0 < 0 then -(os.getD (i + k.toNat * (j + 1)) 0 - os.getD i 0) else os.getD (i + k.toNat * (j + 1)) 0 - os.getD i 0)) = false := decide_eq_false (by split <;> omega)
        rw [e]
        exact ⟨_, rfl, rfl⟩
      · rintro σ H2 ⟨x4, rfl, rfl⟩
        exact ⟨_, _, rfl, rfl⟩
    · rintro σ H' ⟨x3, x4, rfl, rfl⟩
      walk_at "rds"
      exact q
-- 0:offsets 1:length 2:days 3:start 4:_ 5:lowest 6:day
theorem ok_lowest_days {f fd : _} (T : Top K mg) (F : L2.Fun K "lowest_days" "lowest_days" s_lowest_days f fd) : FnOk P w K mg base CX0 1 f fd ["offsets", "length"] (spLowest K) := by
  refine F.ok sc_lowest_days (fun vs H Q E h => ?_) (fun cdv A outer s H vs Q E hr h => ?_)
  · obtain ⟨o, os, k, rfl, _⟩ := h
    rfl
  · obtain ⟨o, os, k, rfl, hO, o1, k1, k8, ko, q⟩ := h
    refine ⟨_, (pss_cons (ps_set (i := 2) sc_lowest_days.nd rfl (.inl rfl) (pe_lst pa_nil))
      (pss_cons (ps_for PassesOwn.never rfl (pi_range1 (by rfl) T.z_range (pa_cons (pv 1) pa_nil)) (pg_name (i := 3) sc_lowest_days.nd rfl (.inl rfl))
      (pss_cons (ps_asg (pe_callB (minP (K := K) rfl hr.units) (by rfl) T.z_min (by decide +kernel) (pa_cons (pe_lc (own := [("day", 6)]) (g := gName 6) (tt := tYes) (by rfl) sc_lowest_days.nd (pi_range3 (by rfl) T.z_range (pa_cons (pv 3) (pa_cons (pe_callB (lenL (K := K)) (by rfl) T.z_len (by decide +kernel) (pa_cons (pv 0) pa_nil)) (pa_cons (pv 1) pa_nil)))) (blkOk_by (N := ["offsets", "length", "days", "start", "_", "lowest", "day"]) (sc := defScope s_lowest_days) (by decide +kernel)) (fun _ _ _ _ _ => pg_name (i := 6) sc_lowest_days.nd rfl (Or.inl rfl)) (fun _ _ _ _ _ => pts_nil) (fun _ _ _ _ _ => (pe_tup (pa_cons (pe_ix (ixL (K := K)) (pv 0) (pv 6) (fun _ _ => rfl)) (pa_cons (pv 6) pa_nil))))) pa_nil)) (pgT (K := K) (n := 2) (by rfl) (pgs_cons (pg_name (i := 4) sc_lowest_days.nd rfl (.inl rfl)) (pgs_cons (pg_name (i := 5) sc_lowest_days.nd rfl (.inl rfl)) pgs_nil))))
      (pss_one (ps_expr (bmK (K := K) (pe_bm PySem.F.plainAttrs_list PySem.F.slot_list_append PySem.F.type_list_append mt_append (pv 2) (pa_cons (pv 5) pa_nil)))))))
      (pss_one (ps_ret (pe_callB (sortL (K := K)) (by rfl) T.z_sorted (by decide +kernel) (pa_cons (pv 2) pa_nil)))))), ?_⟩
    walk_at "rds"
    refine ⟨by show 0 ≤ sizeLine; decide, fun d hd => ?_⟩
    walk_at "rds"
    refine ⟨by omega, by omega, for_range (fun i σ H' => ∃ ds x3 x4 x5 x6, σ = [some (.ref o), some (.int k), some (.ref d), x3, x4, x5, x6] ∧ Same H H' ∧ H' d = some (.lst ((ds : List Int).map V.int)) ∧ ds.length = i ∧ (∀ x ∈ ds, 0 ≤ x ∧ x < os.length) ∧ (ds.map fun x => x % k) = upto (i : Int)) ?_ ?_ ?_⟩
    · exact ⟨[], _, _, _, _, rfl, Same.new hd, upd_same, rfl, fun x h => absurd h List.not_mem_nil, rfl⟩
    · rintro i σ H' hi ⟨ds, x3, x4, x5, x6, rfl, s1, h1, l1, b1, e1⟩
      walk_at "rds"
      refine ⟨o, _, rfl, Same.seq s1 hO, ?_⟩
      rw [List.length_map]
      walk_at "rds"
      refine ⟨_, _, _, _, rfl, rg_step (by omega) (by omega) (by omega) (by omega) k1 k8, fun D hD => ?_⟩
      have cnt : ∀ j, j < ((os.length : Int).toNat - (0 + (i : Int)).toNat + k.toNat - 1) / k.toNat → i + k.toNat * j < os.length := fun j hj => by
        have := cnt_lt (show 1 ≤ k.toNat by omega) hj
        omega
      refine lc_rangeC (fun j H3 => ∃ as, Same H' H3 ∧ H3 D = some (.lst ((as : List Addr).map V.ref)) ∧ as.length = j ∧ ∀ (m : Nat) a, as[m]? = some a → a ≠ D ∧ H3 a = some (.tup [.int (os.getD (i + k.toNat * m) 0), .int ((i + k.toNat * m : Nat) : Int)])) ?_ ?_ ?_
      · exact ⟨[], Same.new hD, upd_same, rfl, fun m a h => by simp at h⟩
      · rintro j H3 hj ⟨as, s3, h3, la, ha⟩
        have hc := cnt j hj
        have ek : (0 + (i : Int)) + (j : Int) * k = ((i + k.toNat * j : Nat) : Int) := by
          have e1 : k = (k.toNat : Int) := by omega
          have e2 : ((k.toNat * j : Nat) : Int) = (j : Int) * k := by
            rw [Int.natCast_mul, ← e1, Int.mul_comm]
          omega
        have g2 : os[i + k.toNat * j]? = some (os.getD (i + k.toNat * j) 0) := by
          rw [List.getD_eq_getElem?_getD, List.getElem?_eq_getElem hc]
          rfl
        rw [ek]
        refine ⟨rfl, ?_⟩
        walk_at "rds"
        refine ⟨o, _, _, _, rfl, rfl, Same.seq (s1.trans s3) hO, at_int rfl g2, ?_⟩
        walk_at "rds"
        refine ⟨by show 2 ≤ sizeLine; decide, fun p hp => ?_⟩
        have neD : D ≠ p := ne_of_none h3 hp
        refine ⟨_, by rw [upd_ne neD]; exact h3, ?_, as ++ [p], Same.mut (s3.trans (Same.new hp)) hD, ?_, by rw [List.length_append, la]; rfl, fun m a hm => ?_⟩
        · rw [List.length_map, la]
          exact small1000 (by have : j ≤ k.toNat * j := Nat.le_mul_of_pos_left _ (by omega); omega)
        · rw [upd_same, List.map_append]
          rfl
        · by_cases hml : m < as.length
          · rw [List.getElem?_append_left hml] at hm
            obtain ⟨n1, n2⟩ := ha m a hm
            refine ⟨n1, ?_⟩
            rw [upd_ne n1, upd_ne (ne_of_none n2 hp)]
            exact n2
          · rw [List.getElem?_append_right (by omega)] at hm
            have em : m = j := by
              have := (List.getElem?_eq_some_iff.mp hm).1
              rw [List.length_singleton] at this
              omega
            subst em
            rw [la, Nat.sub_self] at hm
            cases hm
            refine ⟨neD.symm, ?_⟩
            rw [upd_ne neD.symm, upd_same]
      · rintro H3 ⟨as, s3, h3, la, ha⟩
        have pos : 0 < ((os.length : Int).toNat - (0 + (i : Int)).toNat + k.toNat - 1) / k.toNat := by
          rw [Nat.div_pos_iff]
          omega
        refine ⟨D, as, (List.range as.length).map fun m => (os.getD (i + k.toNat * m) 0, ((i + k.toNat * m : Nat) : Int)), rfl, SqL.of h3, by rw [List.length_map, List.length_range], by rw [List.length_map, List.length_range, la]; exact pos, fun m a q hm hq => ?_, fun m a q hm hq => ?_⟩
        · have hl := (List.getElem?_eq_some_iff.mp hm).1
          rw [List.getElem?_map, List.getElem?_range hl] at hq
          cases hq
          exact (ha m a hm).2
        · have hl := (List.getElem?_eq_some_iff.mp hm).1
          have ht := (ha m a hm).2
          have hc := cnt m (by omega)
          walk_at "rds"
          refine ⟨a, _, rfl, SqT.of ht, rfl, _, _, rfl, _, _, rfl, rfl, ?_⟩
          walk_at "rds"
          refine ⟨.inl ⟨rfl, _, SqL.of (s3 _ _ h1)⟩, ?_⟩
          walk_at "rds"
          refine ⟨d, _, _, rfl, rfl, s3 _ _ h1, small1000 (by rw [List.length_map, l1]; omega), ds ++ [((i + k.toNat * m : Nat) : Int)], _, _, _, _, rfl, Same.mut (s1.trans s3) hd, ?_, by rw [List.length_append, l1]; rfl, fun x hx => ?_, ?_⟩
          · rw [upd_same, List.map_append]
            rfl
          · rcases List.mem_append.mp hx with z | z
            · exact b1 x z
            · rw [List.mem_singleton.mp z]
              omega
          · rw [List.map_append, e1]
            have em : ((i + k.toNat * m : Nat) : Int) % k = i := by
              have e1 : k = (k.toNat : Int) := by omega
              have e2 : ((i + k.toNat * m : Nat) : Int) % k = (((i + k.toNat * m) % k.toNat : Nat) : Int) := by rw [Int.natCast_emod, ← e1]
              rw [e2, Nat.add_mul_mod_self_left, Nat.mod_eq_of_lt (by omega)]
            show upto i ++ [((i + k.toNat * m : Nat) : Int) % k] = _
            rw [em]
            unfold upto
            show _ = (List.range (i + 1)).map _
            rw [List.range_succ, List.map_append]
            rfl
    · rintro σ H' ⟨ds, x3, x4, x5, x6, rfl, s1, h1, l1, b1, e1⟩
      walk_at "rds"
      refine ⟨d, _, rfl, SqL.of h1, fun srt p hp hs np => ?_⟩
      refine q _ p srt (s1.trans (Same.new np)) (Same.free s1 np) upd_same ⟨fun x hx => b1 x (hp.mem_iff.mp hx), ?_⟩
      refine (hp.map _).trans ?_
      rw [e1]
      have : ((k.toNat : Nat) : Int).toNat = k.toNat := by omega
      unfold upto
      rw [this]
-- 0:offsets 1:length 2:offset
theorem ok_highest_days {f fd : _} (T : Top K mg) (F : L2.Fun K "highest_days" "highest_days" s_highest_days f fd)
    (G_lowest_days : DefOk P w K mg base CX0 1 "lowest_days" T.f_lowest_days T.fd_lowest_days ["offsets", "length"] (spLowest K)) :
    FnOk P w K mg base CX0 2 f fd ["offsets", "length"] (spLowest K) := by
  refine F.ok sc_highest_days (fun vs H Q E h => ?_) (fun cdv A outer s H vs Q E hr h => ?_)
  · obtain ⟨o, os, k, rfl, _⟩ := h
    rfl
  · obtain ⟨o, os, k, rfl, hS, o1, k1, k8, ko, q⟩ := h
    refine ⟨_, (pss_one (ps_ret (Ws.pc G_lowest_days hr (pa_cons (pe_lc (own := [("offset", 2)]) (g := gName 2) (tt := tYes) (by rfl) sc_highest_days.nd (piL (K := K) (pv 0)) (blkOk_by (N := ["offsets", "length", "offset"]) (sc := defScope s_highest_days) (by decide +kernel)) (fun _ _ _ _ _ => pg_name (i := 2) sc_highest_days.nd rfl (Or.inl rfl)) (fun _ _ _ _ _ => pts_nil) (fun _ _ _ _ _ => (pe_un un_neg (pv 2)))) (pa_cons (pv 1) pa_nil))))), ?_⟩
    walk_at "rds"
    refine ⟨⟨_, hS⟩, fun D hD => ?_⟩
    refine lc_list (K := K) (a := o) (xs := os.map V.int) (fun i H4 => Same H H4 ∧ H4 D = some (.lst (((os.map fun z => -z).take i).map V.int))) ?_ ?_ ?_ ?_
    · exact ⟨Same.new hD, upd_same⟩
    · rintro i H4 _ ⟨s4, _⟩
      exact Same.seq s4 hS
    · rintro i y H4 hy ⟨s4, h4⟩
      obtain ⟨v, hv, rfl⟩ := int_at hy
      refine ⟨rfl, ?_⟩
      walk_at "rds"
      refine ⟨_, h4, ?_, Same.mut s4 hD, ?_⟩
      · rw [List.length_map, List.length_take, List.length_map]
        exact Nat.lt_of_le_of_lt (Nat.min_le_right _ _) (small1000 (by omega))
      · rw [upd_same, map_take_snoc (x := -v) (by rw [List.getElem?_map, hv]; rfl)]
    · rintro H4 ⟨s4, h4⟩
      rw [List.length_map, List.take_of_length_le (by rw [List.length_map]; exact Nat.le_refl _)] at h4
      have lm : (os.map fun z => -z).length = os.length := List.length_map ..
      walk_at "rds"
      refine ⟨D, _, k, rfl, SqL.of h4, by rw [lm]; omega, k1, k8, by rw [lm]; omega, fun H5 e es s5 fe he ce => ?_⟩
      rw [lm] at ce
      exact q H5 e es (s4.trans s5) (Same.free s4 fe) he ce
-- 0:sums 1:length 2:most 3:offsets 4:pair 5:lowest 6:highest
theorem ok_find_conflict {f fd : _} (T : Top K mg) (F : L2.Fun K "find_conflict" "find_conflict" s_find_conflict f fd)
    (G_offsets_of : DefOk P w K mg base CX0 1 "offsets_of" T.f_offsets_of T.fd_offsets_of ["sums", "length"] (spOffs K))
    (G_first_apart : DefOk P w K mg base CX0 1 "first_apart" T.f_first_apart T.fd_first_apart ["offsets", "length", "most"] (spNear K))
    (G_lowest_days : DefOk P w K mg base CX0 1 "lowest_days" T.f_lowest_days T.fd_lowest_days ["offsets", "length"] (spLowest K))
    (G_highest_days : DefOk P w K mg base CX0 2 "highest_days" T.f_highest_days T.fd_highest_days ["offsets", "length"] (spLowest K))
    (G_total_at : DefOk P w K mg base CX0 1 "total_at" T.f_total_at T.fd_total_at ["sums", "offsets", "days"] (spTotalAt K)) :
    FnOk P w K mg base CX0 3 f fd ["sums", "length", "most"] (spFree K) := by
  refine F.ok sc_find_conflict (fun vs H Q E h => ?_) (fun cdv A outer s H vs Q E hr h => ?_)
  · obtain ⟨a, ss, x, k, t, rfl, _⟩ := h
    rfl
  · obtain ⟨a, ss, x, k, t, rfl, hS, wy, q⟩ := h
    refine ⟨_, (pss_cons (ps_set (i := 3) sc_find_conflict.nd rfl (.inl rfl) (Ws.pc G_offsets_of hr (pa_cons (pv 0) (pa_cons (pv 1) pa_nil))))
      (pss_cons (ps_set (i := 4) sc_find_conflict.nd rfl (.inl rfl) (Ws.pc G_first_apart hr (pa_cons (pv 3) (pa_cons (pv 1) (pa_cons (pv 2) pa_nil)))))
      (pss_cons (ps_if (pt_cmpR op_notN (pv 4) pe_non (nomark _))
      (pss_one (ps_ret (pe_tup (pa_cons pe_str (pa_cons (pv 4) pa_nil)))))
      pss_nil)
      (pss_cons (ps_set (i := 5) sc_find_conflict.nd rfl (.inl rfl) (Ws.pc G_lowest_days hr (pa_cons (pv 3) (pa_cons (pv 1) pa_nil))))
      (pss_cons (ps_if (pt_cmpR op_lt (Ws.pc G_total_at hr (pa_cons (pv 0) (pa_cons (pv 3) (pa_cons (pv 5) pa_nil)))) pe_int (nomark _))
      (pss_one (ps_ret (pe_tup (pa_cons pe_str (pa_cons (pv 5) pa_nil)))))
      pss_nil)
      (pss_cons (ps_set (i := 6) sc_find_conflict.nd rfl (.inl rfl) (Ws.pc G_highest_days hr (pa_cons (pv 3) (pa_cons (pv 1) pa_nil))))
      (pss_cons (ps_if (pt_cmpR op_gt (Ws.pc G_total_at hr (pa_cons (pv 0) (pa_cons (pv 3) (pa_cons (pv 6) pa_nil)))) (pe_op op_mulW (pv 1) (pv 2)) (nomark _))
      (pss_one (ps_ret (pe_tup (pa_cons pe_str (pa_cons (pv 6) pa_nil)))))
      pss_nil)
      (pss_one (ps_ret pe_non))))))))), ?_⟩
    have k1 := wy.k1
    have k8 := wy.k8
    have n67 := wy.n67
    have hl := wy.has.len
    have kn := wy.has.2.1
    have en : ss.length + k.toNat - 1 = x.length := by omega
    walk_at "rds"
    refine ⟨a, ss, k, rfl, hS, by omega, k1, k8, by omega, fun H1 o s1 fo ho => ?_⟩
    rw [en] at ho
    have lo := offL_len ss k.toNat x.length
    have near : Near (offL ss k.toNat x.length) k.toNat t := fun i j hi hj e => by
      rw [lo] at hi hj
      rw [List.getD_eq_getElem?_getD, offL_get hj, List.getD_eq_getElem?_getD, offL_get hi]
      show off ss k.toNat j - off ss k.toNat i ≤ t
      rw [off_has wy.has j hj, off_has wy.has i hi, e]
      have bi := wy.bd i hi
      have bj := wy.bd j hj
      omega
    walk_at "rds"
    refine ⟨o, _, k, t, rfl, SqL.of ho, by omega, k1, k8, near, ?_⟩
    walk_at "rds"
    refine ⟨o, _, k, rfl, SqL.of ho, by omega, k1, k8, by omega, fun H2 d ds s2 fd hd cd => ?_⟩
    rw [lo] at cd
    have tot : ∀ (ds : List Int), Choice ds k x.length → ss.getD 0 0 + (ds.map fun y => (offL ss k.toNat x.length).getD y.toNat 0).sum = (ds.map fun y => x.getD y.toNat 0).sum := fun ds c => by
      rw [← total_has wy.has k1 rfl c]
      congr 2
      refine List.map_congr_left fun y hy => ?_
      have := c.inn y hy
      rw [List.getD_eq_getElem?_getD, offL_get (by omega)]
      rfl
    have low : ∀ (ds : List Int), Choice ds k x.length → 0 ≤ (ds.map fun y => x.getD y.toNat 0).sum ∧ (ds.map fun y => x.getD y.toNat 0).sum ≤ k * t := fun ds c => by
      have b : Btw 0 t (ds.map fun y => x.getD y.toNat 0) := fun z hz => by
        obtain ⟨y, hy, rfl⟩ := List.mem_map.mp hz
        have := c.inn y hy
        exact wy.bd _ (by omega)
      have t0 : 0 ≤ t := by
        have := wy.bd 0 (by omega)
        omega
      have sb := sum_btw (Int.le_refl 0) t0 b
      rw [List.length_map, c.len, Int.zero_mul] at sb
      have ek : ((k.toNat : Nat) : Int) = k := by omega
      rw [ek, Int.mul_comm] at sb
      exact sb
    walk_at "rds"
    refine ⟨a, o, d, ss, _, _, rfl, Same.seq (s1.trans s2) hS, SqL.of (s2 _ _ ho), SqL.of hd, by omega, fun y hy => by have := cd.inn y hy; omega, by have := cd.len; omega, fun H3 s3 => ?_⟩
    rw [tot _ cd]
    walk_at "rds"
    rw [decide_eq_false (show ¬ _ < (0 : Int) by have := (low _ cd).1; omega)]
    walk_at "rds"
    refine ⟨o, _, k, rfl, SqL.of (s3 _ _ (s2 _ _ ho)), by omega, k1, k8, by omega, fun H5 e es s5 fe he ce => ?_⟩
    rw [lo] at ce
    have s25 := s3.trans s5
    walk_at "rds"
    refine ⟨a, o, e, ss, _, _, rfl, Same.seq ((s1.trans s2).trans s25) hS, SqL.of (s25 _ _ (s2 _ _ ho)), SqL.of he, by omega, fun y hy => by have := ce.inn y hy; omega, by have := ce.len; omega, fun H6 s6 => ?_⟩
    rw [tot _ ce]
    walk_at "rds"
    have t0 := (wy.bd 0 (by omega))
    refine ⟨mulOk (n := 4) (m := 200) (by omega) (Int.lt_of_le_of_lt k8 (by decide)) (by decide) (by omega) (Int.lt_of_le_of_lt wy.t1 (by decide +kernel)) (by decide) (by decide), ?_⟩
    walk_at "rds"
    rw [decide_eq_false (show ¬ k * t < _ by have := (low _ ce).2; omega)]
    walk_at "rds"
    exact q H6 ((s1.trans s2).trans (s25.trans s6))
-- 0:sums 1:length 2:most 3:conflict 4:word 5:days
theorem ok_need_way {f fd : _} (T : Top K mg) (F : L2.Fun K "need_way" "need_way" s_need_way f fd)
    (G_find_conflict : DefOk P w K mg base CX0 3 "find_conflict" T.f_find_conflict T.fd_find_conflict ["sums", "length", "most"] (spFree K)) :
    FnOk P w K mg base CX0 5 f fd ["sums", "length", "most"] (spFree K) := by
  refine F.ok sc_need_way (fun vs H Q E h => ?_) (fun cdv A outer s H vs Q E hr h => ?_)
  · obtain ⟨a, ss, x, k, t, rfl, _⟩ := h
    rfl
  · obtain ⟨a, ss, x, k, t, rfl, hS, wy, q⟩ := h
    refine ⟨_, (pss_cons (ps_set (i := 3) sc_need_way.nd rfl (.inl rfl) (Ws.pc G_find_conflict hr (pa_cons (pv 0) (pa_cons (pv 1) (pa_cons (pv 2) pa_nil)))))
      (pss_one (ps_if (pt_cmpR op_notN (pv 3) pe_non (nomark _))
      (pss_cons (ps_asg (pv 3) (pgT (K := K) (n := 2) (by rfl) (pgs_cons (pg_name (i := 4) sc_need_way.nd rfl (.inl rfl)) (pgs_cons (pg_name (i := 5) sc_need_way.nd rfl (.inl rfl)) pgs_nil))))
      (pss_one ps_never))
      pss_nil))), ?_⟩
    have hl := wy.has.len
    have kn := wy.has.2.1
    have k1 := wy.k1
    have k8 := wy.k8
    have n67 := wy.n67
    have t0 := (wy.bd 0 (by omega))
    walk_at "rds"
    refine ⟨a, ss, x, k, t, rfl, hS, wy, fun H2 s2 => ?_⟩
    walk_at "rds"
    exact q H2 s2

-- 0:offsets 1:length 2:most 3:ranges 4:start 5:row
theorem ok_start_ranges {f fd : _} (T : Top K mg) (F : L2.Fun K "start_ranges" "start_ranges" s_start_ranges f fd) : FnOk P w K mg base CX0 1 f fd ["offsets", "length", "most"] (spStarts K) := by
  refine F.ok sc_start_ranges (fun vs H Q E h => ?_) (fun cdv A outer s H vs Q E hr h => ?_)
  · obtain ⟨o, os, k, t, rfl, _⟩ := h
    rfl
  · obtain ⟨o, os, k, t, rfl, hO, o1, k1, k8, ko, q⟩ := h
    refine ⟨_, (pss_cons (ps_set (i := 3) sc_start_ranges.nd rfl (.inl rfl) (pe_lst pa_nil))
      (pss_cons (ps_for PassesOwn.never rfl (pi_range1 (by rfl) T.z_range (pa_cons (pv 1) pa_nil)) (pg_name (i := 4) sc_start_ranges.nd rfl (.inl rfl))
      (pss_cons (ps_set (i := 5) sc_start_ranges.nd rfl (.inl rfl) (pe_stepL (K := K) (pv 0) (pv 4) (pv 1)))
      (pss_one (ps_expr (bmK (K := K) (pe_bm PySem.F.plainAttrs_list PySem.F.slot_list_append PySem.F.type_list_append mt_append (pv 3) (pa_cons (pe_tup (pa_cons (pe_un un_neg (pe_callB (minL (K := K) rfl) (by rfl) T.z_min (by decide +kernel) (pa_cons (pv 5) pa_nil))) (pa_cons (pe_op op_sub (pv 2) (pe_callB (maxL (K := K) rfl) (by rfl) T.z_max (by decide +kernel) (pa_cons (pv 5) pa_nil))) pa_nil))) pa_nil)))))))
      (pss_one (ps_ret (pv 3))))), ?_⟩
    walk_at "rds"
    refine ⟨by show 0 ≤ sizeLine; decide, fun r hr1 => ?_⟩
    walk_at "rds"
    refine ⟨by omega, by omega, for_range (fun i σ H' => ∃ as x4 x5, σ = [some (.ref o), some (.int k), some (.int t), some (.ref r), x4, x5] ∧ Same H H' ∧ H' r = some (.lst ((as : List Addr).map V.ref)) ∧ as.length = i ∧ ∀ (m : Nat) a, as[m]? = some a → a ≠ r ∧ H' a = some (.tup [.int (-(mn (stepL os m k.toNat))), .int (t - mx (stepL os m k.toNat))])) ?_ ?_ ?_⟩
    · exact ⟨[], _, _, rfl, Same.new hr1, upd_same, rfl, fun m a h => by simp at h⟩
    · rintro i σ H' hi ⟨as, x4, x5, rfl, s1, h1, la, ha⟩
      walk_at "rds"
      refine ⟨o, _, _, _, rfl, rfl, rfl, Same.seq s1 hO, by omega, by rw [List.length_map]; omega, k1, fun p hp => ?_⟩
      rw [step_map]
      have ei : (0 + (i : Int)).toNat = i := by omega
      rw [ei]
      have nr : r ≠ p := ne_of_none h1 hp
      refine lay (upd H' p (.lst ((stepL os i k.toNat).map V.int))) rfl hp fun G1 s2 g1 => ?_
      have ne : 0 < (stepL os i k.toNat).length := by
        refine List.length_pos_of_mem (a := os.getD i 0) ((step_mem (by omega)).mpr ⟨0, ?_⟩)
        rw [Nat.mul_zero, Nat.add_zero, List.getD_eq_getElem?_getD, List.getElem?_eq_getElem (by omega)]
        rfl
      have hr2 := s2 _ _ h1
      walk_at "rds"
      refine ⟨.inl ⟨rfl, _, SqL.of hr2⟩, ?_⟩
      walk_at "rds"
      refine ⟨p, _, rfl, SqL.of g1, ne, fun m hm1 hm2 => ?_⟩
      rw [mn_uniq hm1 hm2]
      walk_at "rds"
      refine ⟨p, _, rfl, SqL.of g1, ne, fun m hm1 hm2 => ?_⟩
      rw [mx_uniq hm1 hm2]
      walk_at "rds"
      refine ⟨by show 2 ≤ sizeLine; decide, fun b hb => ?_⟩
      have nb : r ≠ b := ne_of_none hr2 hb
      refine lay (upd G1 b (.tup [.int (-(mn (stepL os i k.toNat))), .int (t - mx (stepL os i k.toNat))])) rfl hb fun G2 s3 g2 => ?_
      walk_at "rds"
      refine ⟨r, _, _, rfl, rfl, s3 _ _ hr2, small1000 (by rw [List.length_map, la]; omega), as ++ [b], _, _, rfl, Same.mut (s1.trans (s2.trans s3)) hr1, by rw [upd_same, List.map_append]; rfl, by rw [List.length_append, la]; rfl, fun m a hm => ?_⟩
      by_cases hml : m < as.length
      · rw [List.getElem?_append_left hml] at hm
        obtain ⟨n1, n2⟩ := ha m a hm
        refine ⟨n1, ?_⟩
        rw [upd_ne n1]
        exact s3 _ _ (s2 _ _ n2)
      · rw [List.getElem?_append_right (by omega)] at hm
        have em : m = i := by
          have := (List.getElem?_eq_some_iff.mp hm).1
          rw [List.length_singleton] at this
          omega
        subst em
        rw [la, Nat.sub_self] at hm
        cases hm
        refine ⟨nb.symm, ?_⟩
        rw [upd_ne nb.symm]
        exact g2
    · rintro σ H' ⟨as, x4, x5, rfl, s1, h1, la, ha⟩
      walk_at "rds"
      refine q H' r s1 hr1 ⟨as, SqL.of h1, ?_, fun m a c hm hc => ?_⟩
      · unfold rngs
        rw [List.length_map, List.length_range, la]
      · have hl := (List.getElem?_eq_some_iff.mp hm).1
        unfold rngs at hc
        rw [List.getElem?_map, List.getElem?_range (by omega)] at hc
        cases hc
        exact (ha m a hm).2
-- 0:ranges 1:total 2:high 3:beyond 4:starts 5:low 6:less 7:_
theorem ok_least_starts {f fd : _} (T : Top K mg) (F : L2.Fun K "least_starts" "least_starts" s_least_starts f fd) : FnOk P w K mg base CX0 1 f fd ["ranges", "total"] (spTak K) := by
  refine F.ok sc_least_starts (fun vs H Q E h => ?_) (fun cdv A outer s H vs Q E hr h => ?_)
  · obtain ⟨r, ps, tot, rfl, _⟩ := h
    rfl
  · obtain ⟨r, ps, tot, rfl, hP, hz, q⟩ := h
    refine ⟨_, (pss_cons (ps_set (i := 3) sc_least_starts.nd rfl (.inl rfl) (pe_op op_sub (pe_callB (sumL (K := K) rfl) (by rfl) T.z_sum (by decide +kernel) (pa_cons (pe_lc (own := [("_", 7), ("high", 2)]) (tt := tYes) (by rfl) sc_least_starts.nd (piL (K := K) (pv 0)) (blkOk_by (N := ["ranges", "total", "high", "beyond", "starts", "low", "less", "_"]) (sc := defScope s_least_starts) (by decide +kernel)) (fun _ _ _ _ _ => (pgT (K := K) (n := 2) (by rfl) (pgs_cons (pg_name (i := 7) sc_least_starts.nd rfl (Or.inl rfl)) (pgs_cons (pg_name (i := 2) sc_least_starts.nd rfl (Or.inl rfl)) pgs_nil)))) (fun _ _ _ _ _ => pts_nil) (fun _ _ _ _ _ => (pv 2))) pa_nil)) (pv 1)))
      (pss_cons (ps_set (i := 4) sc_least_starts.nd rfl (.inl rfl) (pe_lst pa_nil))
      (pss_cons (ps_for PassesOwn.never rfl (piL (K := K) (pv 0)) (pgT (K := K) (n := 2) (by rfl) (pgs_cons (pg_name (i := 5) sc_least_starts.nd rfl (.inl rfl)) (pgs_cons (pg_name (i := 2) sc_least_starts.nd rfl (.inl rfl)) pgs_nil)))
      (pss_cons (ps_set (i := 6) sc_least_starts.nd rfl (.inl rfl) (pe_callB (call_min2 rfl) (by rfl) T.z_min (by decide +kernel) (pa_cons (pv 3) (pa_cons (pe_op op_sub (pv 2) (pv 5)) pa_nil))))
      (pss_cons (ps_expr (bmK (K := K) (pe_bm PySem.F.plainAttrs_list PySem.F.slot_list_append PySem.F.type_list_append mt_append (pv 4) (pa_cons (pe_op op_sub (pv 2) (pv 6)) pa_nil))))
      (pss_one (ps_aug (i := 3) sc_least_starts.nd rfl (.inl rfl) (pv 6) ip_sub)))))
      (pss_one (ps_ret (pv 4)))))), ?_⟩
    obtain ⟨xs, hX, lx, hx⟩ := hP.get
    walk_at "rds"
    refine ⟨⟨_, hX⟩, fun D hD => ?_⟩
    refine lc_list (K := K) (a := r) (xs := xs) (fun i H3 => Same H H3 ∧ H3 D = some (.lst (((ps.map (·.2)).take i).map V.int))) ?_ ?_ ?_ ?_
    · exact ⟨Same.new hD, upd_same⟩
    · rintro i H3 _ ⟨s3, _⟩
      exact Same.seq s3 hX
    · rintro i x H3 hi ⟨s3, h3⟩
      obtain ⟨a, c, rfl, hc, ha⟩ := hx i x hi
      walk_at "rds"
      refine ⟨a, _, rfl, SqT.of (s3 _ _ ha), rfl, _, _, rfl, _, _, rfl, rfl, ?_⟩
      refine ⟨rfl, ?_⟩
      walk_at "rds"
      refine ⟨_, h3, ?_, Same.mut s3 hD, ?_⟩
      · rw [List.length_map, List.length_take, List.length_map]
        exact Nat.lt_of_le_of_lt (Nat.min_le_right _ _) (small1000 (by omega))
      · rw [upd_same, map_take_snoc (x := c.2) (by rw [List.getElem?_map, hc]; rfl)]
    · rintro H3 ⟨s3, h3⟩
      rw [lx, List.take_of_length_le (by rw [List.length_map]; exact Nat.le_refl _)] at h3
      walk_at "rds"
      refine ⟨D, _, rfl, SqL.of h3, ?_⟩
      walk_at "rds"
      refine ⟨by show 0 ≤ sizeLine; decide, fun d hd => ?_⟩
      have hd0 : H d = none := Same.free s3 hd
      refine lay (upd H3 d (.lst [])) rfl hd fun G1 s4 g1 => ?_
      have s34 := s3.trans s4
      walk_at "rds"
      refine ⟨⟨_, Same.seq s34 hX⟩, for_list (K := K) (a := r) (xs := xs) (fun i σ H' => ∃ x2 b ds x5 x6 x7, σ = [some (.ref r), some (.int tot), x2, some (.int b), some (.ref d), x5, x6, x7] ∧ Same H H' ∧ H' d = some (.lst ((ds : List Int).map V.int)) ∧ ds.length = i ∧ ds ++ tak (ps.drop i) b = tak ps ((ps.map (·.2)).sum - tot)) ?_ ?_ ?_ ?_⟩
      · exact ⟨_, _, [], _, _, _, rfl, s34, g1, rfl, rfl⟩
      · rintro i σ H' _ ⟨_, _, _, _, _, _, _, s5, _⟩
        exact Same.seq s5 hX
      · rintro i x σ H' hi ⟨x2, b, ds, x5, x6, x7, rfl, s5, h5, l5, e5⟩
        obtain ⟨a, c, rfl, hc, ha⟩ := hx i x hi
        have hip := (List.getElem?_eq_some_iff.mp hc).1
        have ed : ps.drop i = c :: ps.drop (i + 1) := by
          rw [List.drop_eq_getElem_cons hip]
          congr 1
          rw [List.getElem?_eq_getElem hip] at hc
          exact Option.some.inj hc
        have em : (if c.2 - c.1 < b then c.2 - c.1 else b) = min b (c.2 - c.1) := by
          split <;> omega
        rw [ed, tak] at e5
        walk_at "rds"
        refine ⟨a, _, rfl, SqT.of (s5 _ _ ha), rfl, _, _, rfl, _, _, rfl, rfl, ?_⟩
        walk_at "rds"
        rw [em]
        refine ⟨.inl ⟨rfl, _, SqL.of h5⟩, ?_⟩
        walk_at "rds"
        refine ⟨d, _, _, rfl, rfl, h5, small1000 (by rw [List.length_map, l5]; omega), ?_⟩
        walk_at "rds"
        refine ⟨_, _, ds ++ [c.2 - min b (c.2 - c.1)], _, _, _, rfl, Same.mut s5 hd0, by rw [upd_same, List.map_append]; rfl, by rw [List.length_append, l5]; rfl, ?_⟩
        rw [← e5, List.append_assoc]
        rfl
      · rintro σ H' ⟨x2, b, ds, x5, x6, x7, rfl, s5, h5, l5, e5⟩
        walk_at "rds"
        rw [lx, List.drop_length, tak, List.append_nil] at e5
        rw [e5] at h5
        exact q H' d s5 hd0 h5
-- 0:starts 1:offsets 2:day
theorem ok_way_from {f fd : _} (T : Top K mg) (F : L2.Fun K "way_from" "way_from" s_way_from f fd) : FnOk P w K mg base CX0 1 f fd ["starts", "offsets"] (spWf K) := by
  refine F.ok sc_way_from (fun vs H Q E h => ?_) (fun cdv A outer s H vs Q E hr h => ?_)
  · obtain ⟨a, o, st, os, rfl, _⟩ := h
    rfl
  · obtain ⟨a, o, st, os, rfl, hA, hO, st1, o1, q⟩ := h
    refine ⟨_, (pss_one (ps_ret (pe_lc (own := [("day", 2)]) (g := gName 2) (tt := tYes) (by rfl) sc_way_from.nd (pi_range1 (by rfl) T.z_range (pa_cons (pe_callB (lenL (K := K)) (by rfl) T.z_len (by decide +kernel) (pa_cons (pv 1) pa_nil)) pa_nil)) (blkOk_by (N := ["starts", "offsets", "day"]) (sc := defScope s_way_from) (by decide +kernel)) (fun _ _ _ _ _ => pg_name (i := 2) sc_way_from.nd rfl (Or.inl rfl)) (fun _ _ _ _ _ => pts_nil) (fun _ _ _ _ _ => (pe_op op_add (pe_ix (ixL (K := K)) (pv 0) (pe_op op_mod (pv 2) (pe_callB (lenL (K := K)) (by rfl) T.z_len (by decide +kernel) (pa_cons (pv 0) pa_nil))) (fun _ _ => rfl)) (pe_ix (ixL (K := K)) (pv 1) (pv 2) (fun _ _ => rfl))))))), ?_⟩
    walk_at "rds"
    refine ⟨o, _, rfl, hO, ?_⟩
    rw [List.length_map]
    walk_at "rds"
    refine ⟨by omega, by omega, fun D hD => ?_⟩
    refine lc_range (lo := 0) (n := os.length) (fun j H3 => Same H H3 ∧ H3 D = some (.lst (((wf st os).take j).map V.int))) ?_ ?_ ?_
    · exact ⟨Same.new hD, upd_same⟩
    · rintro j H3 hj ⟨s3, h3⟩
      have ej : (0 : Int) + (j : Int) = (j : Int) := by omega
      rw [ej]
      have em : ((j : Int) % (st.length : Int)) = ((j % st.length : Nat) : Int) := by rw [Int.natCast_emod]
      have hm : j % st.length < st.length := Nat.mod_lt _ (by omega)
      have g1 : st[j % st.length]? = some (st.getD (j % st.length) 0) := by
        rw [List.getD_eq_getElem?_getD, List.getElem?_eq_getElem hm]
        rfl
      have g2 : os[j]? = some (os.getD j 0) := by
        rw [List.getD_eq_getElem?_getD, List.getElem?_eq_getElem hj]
        rfl
      refine ⟨rfl, ?_⟩
      walk_at "rds"
      refine ⟨a, _, rfl, Same.seq s3 hA, ?_⟩
      rw [List.length_map]
      walk_at "rds"
      refine ⟨by show (0 : Int) < _; omega, ?_⟩
      walk_at "rds"
      refine ⟨a, _, _, _, rfl, rfl, Same.seq s3 hA, at_int em g1, ?_⟩
      walk_at "rds"
      refine ⟨o, _, _, _, rfl, rfl, Same.seq s3 hO, at_int rfl g2, ?_⟩
      walk_at "rds"
      refine ⟨_, h3, ?_, Same.mut s3 hD, ?_⟩
      · rw [List.length_map, List.length_take]
        exact Nat.lt_of_le_of_lt (Nat.min_le_left _ _) (small1000 (by omega))
      · rw [upd_same, map_take_snoc (x := st.getD (j % st.length) 0 + os.getD j 0) (by unfold wf; rw [List.getElem?_map, List.getElem?_range hj]; rfl)]
    · rintro H3 ⟨s3, h3⟩
      rw [List.take_of_length_le (by unfold wf; rw [List.length_map, List.length_range]; exact Nat.le_refl _)] at h3
      exact q H3 D s3 hD h3
-- 0:sums 1:length 2:most 3:offsets 4:starts
theorem ok_first_way {f fd : _} (T : Top K mg) (F : L2.Fun K "first_way" "first_way" s_first_way f fd)
    (G_offsets_of : DefOk P w K mg base CX0 1 "offsets_of" T.f_offsets_of T.fd_offsets_of ["sums", "length"] (spOffs K))
    (G_start_ranges : DefOk P w K mg base CX0 1 "start_ranges" T.f_start_ranges T.fd_start_ranges ["offsets", "length", "most"] (spStarts K))
    (G_least_starts : DefOk P w K mg base CX0 1 "least_starts" T.f_least_starts T.fd_least_starts ["ranges", "total"] (spTak K))
    (G_way_from : DefOk P w K mg base CX0 1 "way_from" T.f_way_from T.fd_way_from ["starts", "offsets"] (spWf K)) :
    FnOk P w K mg base CX0 2 f fd ["sums", "length", "most"] (spLw K lw) := by
  refine F.ok sc_first_way (fun vs H Q E h => ?_) (fun cdv A outer s H vs Q E hr h => ?_)
  · obtain ⟨a, ss, x, k, t, rfl, _⟩ := h
    rfl
  · obtain ⟨a, ss, x, k, t, rfl, hS, wy, q⟩ := h
    refine ⟨_, (pss_cons (ps_set (i := 3) sc_first_way.nd rfl (.inl rfl) (Ws.pc G_offsets_of hr (pa_cons (pv 0) (pa_cons (pv 1) pa_nil))))
      (pss_cons (ps_set (i := 4) sc_first_way.nd rfl (.inl rfl) (Ws.pc G_least_starts hr (pa_cons (Ws.pc G_start_ranges hr (pa_cons (pv 3) (pa_cons (pv 1) (pa_cons (pv 2) pa_nil)))) (pa_cons (pe_ix (ixL (K := K)) (pv 0) pe_int (fun _ _ => rfl)) pa_nil))))
      (pss_one (ps_ret (Ws.pc G_way_from hr (pa_cons (pv 4) (pa_cons (pv 3) pa_nil))))))), ?_⟩
    have k1 := wy.k1
    have k8 := wy.k8
    have n67 := wy.n67
    have hl := wy.has.len
    have kn := wy.has.2.1
    walk_at "rds"
    refine ⟨a, ss, k, rfl, hS, by omega, k1, k8, by omega, fun H2 o s2 fo ho => ?_⟩
    have lo := offL_len ss k.toNat (ss.length + k.toNat - 1)
    walk_at "rds"
    refine ⟨o, _, k, t, rfl, SqL.of ho, by omega, k1, k8, by omega, fun H3 p s3 fp hp => ?_⟩
    have g0 : ss[0]? = some (ss.getD 0 0) := by
      rw [List.getD_eq_getElem?_getD, List.getElem?_eq_getElem (by omega)]
      rfl
    walk_at "rds"
    refine ⟨a, _, _, _, rfl, rfl, Same.seq (s2.trans s3) hS, at_int (j := 0) rfl g0, ?_⟩
    walk_at "rds"
    have lr : (rngs (offL ss k.toNat (ss.length + k.toNat - 1)) k.toNat t).length = k.toNat := by
      unfold rngs
      rw [List.length_map, List.length_range]
    refine ⟨p, _, _, rfl, hp, by omega, fun H4 r s4 fr h4 => ?_⟩
    walk_at "rds"
    refine ⟨r, o, _, _, rfl, SqL.of h4, SqL.of (s4 _ _ (s3 _ _ ho)), by rw [tak_len]; omega, by omega, fun H5 e s5 fe he => ?_⟩
    exact q H5 e (s2.trans ((s3.trans s4).trans s5)) (Same.free (s2.trans (s3.trans s4)) fe) he
-- 0:sums 1:length 2:most
theorem ok_least_way {f fd : _} (T : Top K mg) (F : L2.Fun K "least_way" "least_way" s_least_way f fd)
    (G_check_told : DefOk P w K mg base CX0 5 "check_told" T.f_check_told T.fd_check_told ["sums", "length", "most"] (spToldOk K))
    (G_need_way : DefOk P w K mg base CX0 5 "need_way" T.f_need_way T.fd_need_way ["sums", "length", "most"] (spFree K))
    (G_first_way : DefOk P w K mg base CX0 2 "first_way" T.f_first_way T.fd_first_way ["sums", "length", "most"] (spLw K lw)) :
    FnOk P w K mg base CX0 7 f fd ["sums", "length", "most"] (spLw K lw) := by
  refine F.ok sc_least_way (fun vs H Q E h => ?_) (fun cdv A outer s H vs Q E hr h => ?_)
  · obtain ⟨a, ss, x, k, t, rfl, _⟩ := h
    rfl
  · obtain ⟨a, ss, x, k, t, rfl, hS, wy, q⟩ := h
    refine ⟨_, (pss_cons (ps_expr (Ws.pc G_check_told hr (pa_cons (pv 0) (pa_cons (pv 1) (pa_cons (pv 2) pa_nil)))))
      (pss_cons (ps_expr (Ws.pc G_need_way hr (pa_cons (pv 0) (pa_cons (pv 1) (pa_cons (pv 2) pa_nil)))))
      (pss_one (ps_ret (Ws.pc G_first_way hr (pa_cons (pv 0) (pa_cons (pv 1) (pa_cons (pv 2) pa_nil)))))))), ?_⟩
    have k1 := wy.k1
    have k8 := wy.k8
    have n67 := wy.n67
    have hl := wy.has.len
    have kn := wy.has.2.1
    have t0 := (wy.bd 0 (by omega))
    walk_at "rds"
    refine ⟨a, ss, k, t, rfl, hS, by omega, k1, k8, by omega, by omega, wy.t1, fun H1 s1 => ?_⟩
    walk_at "rds"
    refine ⟨a, ss, x, k, t, rfl, Same.seq s1 hS, wy, fun H2 s2 => ?_⟩
    walk_at "rds"
    refine ⟨a, ss, x, k, t, rfl, Same.seq (s1.trans s2) hS, wy, fun H3 p s3 fp hp => ?_⟩
    exact q H3 p ((s1.trans s2).trans s3) (Same.free (s1.trans s2) fp) hp
-- 0:sums 1:length 2:most 3:offsets 4:ranges 5:starts 6:low 7:high 8:start
theorem ok_greatest_way {f fd : _} (T : Top K mg) (F : L2.Fun K "greatest_way" "greatest_way" s_greatest_way f fd)
    (G_check_told : DefOk P w K mg base CX0 5 "check_told" T.f_check_told T.fd_check_told ["sums", "length", "most"] (spToldOk K))
    (G_need_way : DefOk P w K mg base CX0 5 "need_way" T.f_need_way T.fd_need_way ["sums", "length", "most"] (spFree K))
    (G_offsets_of : DefOk P w K mg base CX0 1 "offsets_of" T.f_offsets_of T.fd_offsets_of ["sums", "length"] (spOffs K))
    (G_start_ranges : DefOk P w K mg base CX0 1 "start_ranges" T.f_start_ranges T.fd_start_ranges ["offsets", "length", "most"] (spStarts K))
    (G_least_starts : DefOk P w K mg base CX0 1 "least_starts" T.f_least_starts T.fd_least_starts ["ranges", "total"] (spTak K))
    (G_way_from : DefOk P w K mg base CX0 1 "way_from" T.f_way_from T.fd_way_from ["starts", "offsets"] (spWf K)) :
    FnOk P w K mg base CX0 7 f fd ["sums", "length", "most"] (spLw K gw) := by
  refine F.ok sc_greatest_way (fun vs H Q E h => ?_) (fun cdv A outer s H vs Q E hr h => ?_)
  · obtain ⟨a, ss, x, k, t, rfl, _⟩ := h
    rfl
  · obtain ⟨a, ss, x, k, t, rfl, hS, wy, q⟩ := h
    refine ⟨_, (pss_cons (ps_expr (Ws.pc G_check_told hr (pa_cons (pv 0) (pa_cons (pv 1) (pa_cons (pv 2) pa_nil)))))
      (pss_cons (ps_expr (Ws.pc G_need_way hr (pa_cons (pv 0) (pa_cons (pv 1) (pa_cons (pv 2) pa_nil)))))
      (pss_cons (ps_set (i := 3) sc_greatest_way.nd rfl (.inl rfl) (Ws.pc G_offsets_of hr (pa_cons (pv 0) (pa_cons (pv 1) pa_nil))))
      (pss_cons (ps_setLc (i := 4) (own := [("low", 6), ("high", 7)]) (tt := tYes) (by rfl) sc_greatest_way.nd rfl rfl (sw_true rfl rfl rfl (by decide +kernel)) (piL (K := K) (Ws.pc G_start_ranges hr (pa_cons (pv 3) (pa_cons (pv 1) (pa_cons (pv 2) pa_nil))))) (blkOk_by (N := ["sums", "length", "most", "offsets", "ranges", "starts", "low", "high", "start"]) (sc := defScope s_greatest_way) (by decide +kernel)) (fun _ _ _ _ _ => (pgT (K := K) (n := 2) (by rfl) (pgs_cons (pg_name (i := 6) sc_greatest_way.nd rfl (Or.inl rfl)) (pgs_cons (pg_name (i := 7) sc_greatest_way.nd rfl (Or.inl rfl)) pgs_nil)))) (fun _ _ _ _ _ => pts_nil) (fun _ _ _ _ _ => (pe_tup (pa_cons (pe_un un_neg (pv 7)) (pa_cons (pe_un un_neg (pv 6)) pa_nil)))))
      (pss_cons (ps_setLc (i := 5) (own := [("start", 8)]) (g := gName 8) (tt := tYes) (by rfl) sc_greatest_way.nd rfl rfl (sw_true rfl rfl rfl (by decide +kernel)) (piL (K := K) (Ws.pc G_least_starts hr (pa_cons (pv 4) (pa_cons (pe_un un_neg (pe_ix (ixL (K := K)) (pv 0) pe_int (fun _ _ => rfl))) pa_nil)))) (blkOk_by (N := ["sums", "length", "most", "offsets", "ranges", "starts", "low", "high", "start"]) (sc := defScope s_greatest_way) (by decide +kernel)) (fun _ _ _ _ _ => pg_name (i := 8) sc_greatest_way.nd rfl (Or.inl rfl)) (fun _ _ _ _ _ => pts_nil) (fun _ _ _ _ _ => (pe_un un_neg (pv 8))))
      (pss_one (ps_ret (Ws.pc G_way_from hr (pa_cons (pv 5) (pa_cons (pv 3) pa_nil)))))))))), ?_⟩
    have k1 := wy.k1
    have k8 := wy.k8
    have n67 := wy.n67
    have hl := wy.has.len
    have kn := wy.has.2.1
    have t0 := (wy.bd 0 (by omega))
    walk_at "rds"
    refine ⟨a, ss, k, t, rfl, hS, by omega, k1, k8, by omega, by omega, wy.t1, fun H0 s0 => ?_⟩
    walk_at "rds"
    refine ⟨a, ss, x, k, t, rfl, Same.seq s0 hS, wy, fun H1 s01 => ?_⟩
    have s1 := s0.trans s01
    walk_at "rds"
    refine ⟨a, ss, k, rfl, Same.seq s1 hS, by omega, k1, k8, by omega, fun H2 o s2 fo ho => ?_⟩
    have lo := offL_len ss k.toNat (ss.length + k.toNat - 1)
    walk_at "rds"
    refine ⟨o, _, k, t, rfl, SqL.of ho, by omega, k1, k8, by omega, fun H3 p s3 fp hp => ?_⟩
    have lr : (rngs (offL ss k.toNat (ss.length + k.toNat - 1)) k.toNat t).length = k.toNat := by
      unfold rngs
      rw [List.length_map, List.length_range]
    unfold gw at q
    generalize hps : rngs (offL ss k.toNat (ss.length + k.toNat - 1)) k.toNat t = ps at *
    obtain ⟨xs, hX, lx, hx⟩ := hp.get
    have s123 := (s1.trans s2).trans s3
    walk_at "rds"
    refine ⟨⟨_, hX⟩, fun D hD => ?_⟩
    refine lc_list (K := K) (a := p) (xs := xs) (fun i H4 => ∃ as, Same H3 H4 ∧ H4 D = some (.lst ((as : List Addr).map V.ref)) ∧ as.length = i ∧ ∀ (m : Nat) a c, as[m]? = some a → ps[m]? = some c → a ≠ D ∧ H4 a = some (.tup [.int (-c.2), .int (-c.1)])) ?_ ?_ ?_ ?_
    · exact ⟨[], Same.new hD, upd_same, rfl, fun m a c h => by simp at h⟩
    · rintro i H4 _ ⟨as, s4, _⟩
      exact Same.seq s4 hX
    · rintro i x H4 hi ⟨as, s4, h4, la, ha⟩
      obtain ⟨b, c, rfl, hc, hb⟩ := hx i x hi
      walk_at "rds"
      refine ⟨b, _, rfl, SqT.of (s4 _ _ hb), rfl, _, _, rfl, _, _, rfl, rfl, ?_⟩
      refine ⟨rfl, ?_⟩
      walk_at "rds"
      refine ⟨by show 2 ≤ sizeLine; decide, fun e he => ?_⟩
      have neD : D ≠ e := ne_of_none h4 he
      refine ⟨_, by rw [upd_ne neD]; exact h4, ?_, as ++ [e], Same.mut (s4.trans (Same.new he)) hD, by rw [upd_same, List.map_append]; rfl, by rw [List.length_append, la]; rfl, fun m a c' hm hc' => ?_⟩
      · rw [List.length_map, la]
        have := (List.getElem?_eq_some_iff.mp hc).1
        exact small1000 (by omega)
      · by_cases hml : m < as.length
        · rw [List.getElem?_append_left hml] at hm
          obtain ⟨n1, n2⟩ := ha m a c' hm hc'
          refine ⟨n1, ?_⟩
          rw [upd_ne n1, upd_ne (ne_of_none n2 he)]
          exact n2
        · rw [List.getElem?_append_right (by omega)] at hm
          have em : m = i := by
            have := (List.getElem?_eq_some_iff.mp hm).1
            rw [List.length_singleton] at this
            omega
          subst em
          rw [la, Nat.sub_self] at hm
          cases hm
          rw [hc] at hc'
          cases hc'
          refine ⟨neD.symm, ?_⟩
          rw [upd_ne neD.symm, upd_same]
    · rintro H4 ⟨as, s4, h4, la, ha⟩
      have hP2 : PairsAt K H4 D (ps.map flip2) := by
        refine ⟨as, SqL.of h4, by rw [List.length_map, la, lx], fun m a c hm hc => ?_⟩
        rw [List.getElem?_map] at hc
        cases e : ps[m]? with
        | none => rw [e] at hc; cases hc
        | some c' =>
          rw [e] at hc
          cases hc
          exact (ha m a c' hm e).2
      have g0 : ss[0]? = some (ss.getD 0 0) := by
        rw [List.getD_eq_getElem?_getD, List.getElem?_eq_getElem (by omega)]
        rfl
      walk_at "rds"
      refine ⟨a, _, _, _, rfl, rfl, Same.seq (s123.trans s4) hS, at_int (j := 0) rfl g0, ?_⟩
      walk_at "rds"
      refine ⟨D, _, _, rfl, hP2, by rw [List.length_map]; omega, fun H5 r s5 fr h5 => ?_⟩
      generalize hst : tak (ps.map flip2) (((ps.map flip2).map (·.2)).sum - -(ss.getD 0 0)) = st at *
      have ls : st.length = k.toNat := by rw [← hst, tak_len, List.length_map, lr]
      walk_at "rds"
      refine ⟨⟨_, SqL.of h5⟩, fun D2 hD2 => ?_⟩
      refine lc_list (K := K) (a := r) (xs := st.map V.int) (fun i H6 => Same H5 H6 ∧ H6 D2 = some (.lst (((st.map fun z => -z).take i).map V.int))) ?_ ?_ ?_ ?_
      · exact ⟨Same.new hD2, upd_same⟩
      · rintro i H6 _ ⟨s6, _⟩
        exact SqL.of (s6 _ _ h5)
      · rintro i y H6 hy ⟨s6, h6⟩
        obtain ⟨v, hv, rfl⟩ := int_at hy
        refine ⟨rfl, ?_⟩
        walk_at "rds"
        refine ⟨_, h6, ?_, Same.mut s6 hD2, ?_⟩
        · rw [List.length_map, List.length_take, List.length_map]
          exact Nat.lt_of_le_of_lt (Nat.min_le_right _ _) (small1000 (by omega))
        · rw [upd_same, map_take_snoc (x := -v) (by rw [List.getElem?_map, hv]; rfl)]
      · rintro H6 ⟨s6, h6⟩
        rw [List.length_map, List.take_of_length_le (by rw [List.length_map]; exact Nat.le_refl _)] at h6
        have s36 := (s4.trans s5).trans s6
        walk_at "rds"
        refine ⟨D2, o, _, _, rfl, SqL.of h6, SqL.of (s36 _ _ (s3 _ _ ho)), by rw [List.length_map]; omega, by omega, fun H7 e s7 fe he => ?_⟩
        exact q H7 e (s123.trans (s36.trans s7)) (Same.free (s123.trans s36) fe) he

-- 0:sums_here 1:size 2:found 3:place_here 4:step
theorem ok_gaps {f fd : _} (T : Top K mg) (F : L2.Fun K "_law_gaps" "_law_gaps" s__law_gaps f fd) : FnOk P w K mg base CX0 1 f fd ["sums_here", "size"] (spOffs K) := by
  refine F.ok sc__law_gaps (fun vs H Q E h => ?_) (fun cdv A outer s H vs Q E hr h => ?_)
  · obtain ⟨a, ss, k, rfl, _⟩ := h
    rfl
  · obtain ⟨a, ss, k, rfl, hS, s1, k1, k8, hk, q⟩ := h
    refine ⟨_, (pss_cons (ps_set (i := 2) sc__law_gaps.nd rfl (.inl rfl) (pe_op op_rep (pe_lst (pa_cons pe_int pa_nil)) (pv 1)))
      (pss_cons (ps_for PassesOwn.never rfl (pi_range1 (by rfl) T.z_range (pa_cons (pe_op op_sub (pe_callB (lenL (K := K)) (by rfl) T.z_len (by decide +kernel) (pa_cons (pv 0) pa_nil)) pe_int) pa_nil)) (pg_name (i := 3) sc__law_gaps.nd rfl (.inl rfl))
      (pss_cons (ps_set (i := 4) sc__law_gaps.nd rfl (.inl rfl) (pe_op op_sub (pe_ix (ixL (K := K)) (pv 0) (pe_op op_add (pv 3) pe_int) (fun _ _ => rfl)) (pe_ix (ixL (K := K)) (pv 0) (pv 3) (fun _ _ => rfl))))
      (pss_one (ps_expr (bmK (K := K) (pe_bm PySem.F.plainAttrs_list PySem.F.slot_list_append PySem.F.type_list_append mt_append (pv 2) (pa_cons (pe_op op_add (pe_ix (ixL (K := K)) (pv 2) (pe_un un_neg (pv 1)) (fun _ _ => rfl)) (pv 4)) pa_nil)))))))
      (pss_one (ps_ret (pv 2))))), ?_⟩
    walk_at "rds"
    refine ⟨by show 1 ≤ sizeLine; decide, fun o ho => ?_⟩
    walk_at "rds"
    refine ⟨o, k, _, rfl, rfl, upd_same, by omega, by omega, ?_, fun o2 ho2 => ?_⟩
    · show 1 * k.toNat ≤ sizeLine
      rw [sizeLine_eq]
      omega
    have e0 : (List.replicate k.toNat [V.int 0]).flatten = (offL ss k.toNat k.toNat).map V.int := by
      rw [offL_zero, List.map_replicate]
      exact flat_rep _ _
    have sA : Same H (upd (upd H o (.lst [.int 0])) o2 (.lst (List.replicate k.toNat [V.int 0]).flatten)) := (Same.new ho).trans (Same.new ho2)
    have fo : H o2 = none := Same.free (Same.new ho) ho2
    walk_at "rds"
    refine ⟨a, _, rfl, Same.seq sA hS, ?_⟩
    rw [List.length_map]
    walk_at "rds"
    refine ⟨by omega, by omega, for_range (fun i σ H' => ∃ x3 x4, σ = [some (.ref a), some (.int k), some (.ref o2), x3, x4] ∧ Same H H' ∧ H' o2 = some (.lst ((offL ss k.toNat (k.toNat + i)).map V.int))) ?_ ?_ ?_⟩
    · refine ⟨_, _, rfl, sA, ?_⟩
      rw [upd_same, e0]
      rfl
    · rintro i σ H' hi ⟨x3, x4, rfl, sB, h1⟩
      have hi2 : i + 1 < ss.length := by omega
      walk_at "rds"
      refine ⟨a, _, _, _, rfl, rfl, Same.seq sB hS, at_int (j := i + 1) (by omega) (List.getElem?_eq_getElem hi2), ?_⟩
      walk_at "rds"
      refine ⟨a, _, _, _, rfl, rfl, Same.seq sB hS, at_int (j := i) (by omega) (List.getElem?_eq_getElem (by omega)), ?_⟩
      walk_at "rds"
      refine ⟨.inl ⟨rfl, _, SqL.of h1⟩, ?_⟩
      walk_at "rds"
      refine ⟨o2, _, _, _, rfl, rfl, SqL.of h1, at_neg (j := i) (by rw [List.length_map, offL_len]; omega) (by rw [List.length_map, offL_len]; omega) (by rw [List.getElem?_map, offL_get (show i < k.toNat + i by omega)]; rfl), ?_⟩
      walk_at "rds"
      refine ⟨o2, _, _, rfl, rfl, h1, ?_, _, _, rfl, Same.mut sB fo, ?_⟩
      · rw [List.length_map, offL_len]
        exact small5 (by omega)
      · rw [upd_same]
        have e1 : k.toNat + (i + 1) = k.toNat + i + 1 := rfl
        have e2 : off ss k.toNat (k.toNat + i) = off ss k.toNat i + (ss[i + 1] - ss[i]) := by
          rw [off_hi (by omega), List.getD_eq_getElem?_getD, List.getD_eq_getElem?_getD, List.getElem?_eq_getElem hi2, List.getElem?_eq_getElem (show i < ss.length by omega)]
          show _ + ss[i + 1] - ss[i] = _
          omega
        rw [e1, offL_succ, List.map_append, e2]
        rfl
    · rintro σ H' ⟨x3, x4, rfl, sB, h1⟩
      walk_at "rds"
      have e3 : k.toNat + ((ss.length : Int) - 1).toNat = ss.length + k.toNat - 1 := by omega
      rw [e3] at h1
      exact q H' o2 sB fo h1
-- 0:sums_here 1:size 2:top 3:gaps 4:lows 5:highs 6:rest 7:some 8:day_here
theorem ok_box {f fd : _} (T : Top K mg) (F : L2.Fun K "_law_box" "_law_box" s__law_box f fd)
    (G__law_gaps : DefOk P w K mg base CX0 1 "_law_gaps" T.f__law_gaps T.fd__law_gaps ["sums_here", "size"] (spOffs K)) : FnOk P w K mg base CX0 2 f fd ["sums_here", "size", "top"] (spBox K) := by
  refine F.ok sc__law_box (fun vs H Q E h => ?_) (fun cdv A outer s H vs Q E hr h => ?_)
  · obtain ⟨a, ss, k, t, rfl, _⟩ := h
    rfl
  · obtain ⟨a, ss, k, t, rfl, hS, s1, k1, k8, hk, q⟩ := h
    refine ⟨_, (pss_cons (ps_asg (pe_tup (pa_cons (Ws.pc G__law_gaps hr (pa_cons (pv 0) (pa_cons (pv 1) pa_nil))) (pa_cons (pe_lst pa_nil) (pa_cons (pe_lst pa_nil) pa_nil)))) (pgT (K := K) (n := 3) (by rfl) (pgs_cons (pg_name (i := 3) sc__law_box.nd rfl (.inr rfl)) (pgs_cons (pg_name (i := 4) sc__law_box.nd rfl (.inl rfl)) (pgs_cons (pg_name (i := 5) sc__law_box.nd rfl (.inl rfl)) pgs_nil)))))
      (pss_cons (ps_for PassesOwn.never rfl (pi_range1 (by rfl) T.z_range (pa_cons (pv 1) pa_nil)) (pg_name (i := 6) sc__law_box.nd rfl (.inl rfl))
      (pss_cons (ps_setLc (i := 7) (own := [("day_here", 8)]) (g := gName 8) (tt := tYes) (by rfl) sc__law_box.nd rfl rfl (sw_true rfl rfl rfl (by decide +kernel)) (pi_range3 (by rfl) T.z_range (pa_cons (pv 6) (pa_cons (pe_callB (lenL (K := K)) (by rfl) T.z_len (by decide +kernel) (pa_cons (pv 3) pa_nil)) (pa_cons (pv 1) pa_nil)))) (blkOk_by (N := ["sums_here", "size", "top", "gaps", "lows", "highs", "rest", "some", "day_here"]) (sc := defScope s__law_box) (by decide +kernel)) (fun _ _ _ _ _ => pg_name (i := 8) sc__law_box.nd rfl (Or.inl rfl)) (fun _ _ _ _ _ => pts_nil) (fun _ _ _ _ _ => (pe_ix (ixL (K := K)) (pv 3) (pv 8) (fun _ _ => rfl))))
      (pss_cons (ps_expr (bmK (K := K) (pe_bm PySem.F.plainAttrs_list PySem.F.slot_list_append PySem.F.type_list_append mt_append (pv 4) (pa_cons (pe_op op_sub pe_int (pe_callB (minL (K := K) rfl) (by rfl) T.z_min (by decide +kernel) (pa_cons (pv 7) pa_nil))) pa_nil))))
      (pss_one (ps_expr (bmK (K := K) (pe_bm PySem.F.plainAttrs_list PySem.F.slot_list_append PySem.F.type_list_append mt_append (pv 5) (pa_cons (pe_op op_sub (pv 2) (pe_callB (maxL (K := K) rfl) (by rfl) T.z_max (by decide +kernel) (pa_cons (pv 7) pa_nil))) pa_nil))))))))
      (pss_one (ps_ret (pe_tup (pa_cons (pv 4) (pa_cons (pv 5) pa_nil))))))), ?_⟩
    walk_at "rds"
    refine ⟨a, ss, k, rfl, hS, s1, k1, k8, hk, fun H1 o s1' fo ho => ?_⟩
    have lo := offL_len ss k.toNat (ss.length + k.toNat - 1)
    generalize hos : offL ss k.toNat (ss.length + k.toNat - 1) = os at *
    walk_at "rds"
    refine ⟨by show 0 ≤ sizeLine; decide, fun p hp => ?_⟩
    refine lay (upd H1 p (.lst [])) rfl hp fun G1 t1 g1 => ?_
    walk_at "rds"
    refine ⟨by show 0 ≤ sizeLine; decide, fun r hr1 => ?_⟩
    have npr : p ≠ r := ne_of_none g1 hr1
    have fp : H p = none := Same.free s1' hp
    have fr : H r = none := Same.free (s1'.trans t1) hr1
    have fp1 := hp
    have fr1 : H1 r = none := Same.free t1 hr1
    refine lay (upd G1 r (.lst [])) rfl hr1 fun G2 t2 g2 => ?_
    walk_at "rds"
    refine ⟨by show 3 ≤ sizeLine; decide, fun tp htp => ?_⟩
    refine lay (upd G2 tp (.tup [.ref o, .ref p, .ref r])) rfl htp fun G3 t3 g3 => ?_
    walk_at "rds"
    refine ⟨tp, _, rfl, SqT.of g3, rfl, _, _, rfl, _, _, rfl, _, _, rfl, rfl, ?_⟩
    have t13 := (t1.trans t2).trans t3
    walk_at "rds"
    refine ⟨by omega, by omega, for_range (fun i σ H' => ∃ x6 x7 x8, σ = [some (.ref a), some (.int k), some (.int t), some (.ref o), some (.ref p), some (.ref r), x6, x7, x8] ∧ Same H1 H' ∧ H' p = some (.lst ((((rngs os k.toNat t).take i).map (·.1)).map V.int)) ∧ H' r = some (.lst ((((rngs os k.toNat t).take i).map (·.2)).map V.int))) ?_ ?_ ?_⟩
    · exact ⟨_, _, _, rfl, t13, t3 _ _ (t2 _ _ g1), t3 _ _ g2⟩
    · rintro i σ H' hi ⟨x6, x7, x8, rfl, sB, h1, h2⟩
      have hik : i < k.toNat := by omega
      have hO := sB _ _ ho
      have er := rngs_at (os := os) (t := t) hik
      have ri := rngs_len os k.toNat t
      walk_at "rds"
      refine ⟨o, _, rfl, SqL.of hO, ?_⟩
      rw [List.length_map]
      walk_at "rds"
      refine ⟨_, _, _, _, rfl, rg_step (by omega) (by omega) (by omega) (by omega) k1 k8, fun D hD => ?_⟩
      have est := step_eq os i k.toNat (by omega) 0
      have ecnt : ((os.length : Int).toNat - (0 + (i : Int)).toNat + k.toNat - 1) / k.toNat = (os.length - i + k.toNat - 1) / k.toNat := by
        congr 3
        omega
      refine lc_rangeC (fun j H3 => Same H' H3 ∧ H3 D = some (.lst (((List.range j).map fun j => os.getD (i + k.toNat * j) 0).map V.int))) ?_ ?_ ?_
      · exact ⟨Same.new hD, upd_same⟩
      · rintro j H3 hj ⟨s3, h3⟩
        rw [ecnt] at hj
        have hc : i + k.toNat * j < os.length := by
          have := cnt_lt (show 1 ≤ k.toNat by omega) hj
          omega
        have ek : (0 + (i : Int)) + (j : Int) * k = ((i + k.toNat * j : Nat) : Int) := by
          have e1 : k = (k.toNat : Int) := by omega
          have e2 : ((k.toNat * j : Nat) : Int) = (j : Int) * k := by
            rw [Int.natCast_mul, ← e1, Int.mul_comm]
          omega
        have g2 : os[i + k.toNat * j]? = some (os.getD (i + k.toNat * j) 0) := by
          rw [List.getD_eq_getElem?_getD, List.getElem?_eq_getElem hc]
          rfl
        rw [ek]
        refine ⟨rfl, ?_⟩
        walk_at "rds"
        refine ⟨o, _, _, _, rfl, rfl, SqL.of (s3 _ _ hO), at_int rfl g2, ?_⟩
        refine ⟨_, h3, ?_, Same.mut s3 hD, ?_⟩
        · rw [List.length_map, List.length_map, List.length_range]
          exact small1000 (by have : j ≤ k.toNat * j := Nat.le_mul_of_pos_left _ (by omega); omega)
        · rw [upd_same, List.range_succ, List.map_append, List.map_append]
          rfl
      · rintro H3 ⟨s3, h3⟩
        rw [ecnt, ← est] at h3
        have ne : 0 < (stepL os i k.toNat).length := by
          refine List.length_pos_of_mem (a := os.getD i 0) ((step_mem (by omega)).mpr ⟨0, ?_⟩)
          rw [Nat.mul_zero, Nat.add_zero, List.getD_eq_getElem?_getD, List.getElem?_eq_getElem (by omega)]
          rfl
        have hp3 := s3 _ _ h1
        have hr3 := s3 _ _ h2
        walk_at "rds"
        refine ⟨.inl ⟨rfl, _, SqL.of hp3⟩, ?_⟩
        walk_at "rds"
        refine ⟨D, _, rfl, SqL.of h3, ne, fun m hm1 hm2 => ?_⟩
        rw [mn_uniq hm1 hm2]
        walk_at "rds"
        refine ⟨p, _, _, rfl, rfl, hp3, ?_, ?_⟩
        · rw [List.length_map, List.length_map, List.length_take]
          exact Nat.lt_of_le_of_lt (Nat.min_le_left _ _) (small1000 (by omega))
        have nDp : D ≠ p := fun e => by rw [e, h1] at hD; cases hD
        walk_at "rds"
        refine ⟨.inl ⟨rfl, _, SqL.of (by rw [upd_ne npr.symm]; exact hr3)⟩, ?_⟩
        walk_at "rds"
        refine ⟨D, _, rfl, SqL.of (by rw [upd_ne nDp]; exact h3), ne, fun m hm1 hm2 => ?_⟩
        rw [mx_uniq hm1 hm2]
        walk_at "rds"
        refine ⟨r, _, _, rfl, rfl, by rw [upd_ne npr.symm]; exact hr3, ?_, _, _, _, rfl, Same.mut (Same.mut (sB.trans s3) fp1) fr1, ?_, ?_⟩
        · rw [List.length_map, List.length_map, List.length_take]
          exact Nat.lt_of_le_of_lt (Nat.min_le_left _ _) (small1000 (by omega))
        · rw [upd_ne npr, upd_same, take_next er, List.map_append, List.map_append]
          show some (HO.lst (_ ++ [V.int (0 - mn (stepL os i k.toNat))])) = _
          rw [Int.zero_sub]
          rfl
        · rw [upd_same, take_next er, List.map_append, List.map_append]
          rfl
    · rintro σ H' ⟨x6, x7, x8, rfl, sB, h1, h2⟩
      have ri := rngs_len os k.toNat t
      rw [List.take_of_length_le (by rw [ri]; omega)] at h1 h2
      walk_at "rds"
      refine ⟨by show 2 ≤ sizeLine; decide, fun z hz => ?_⟩
      have s6 := Same.new (o := .tup [.ref p, .ref r]) hz
      exact q _ z p r ((s1'.trans sB).trans s6) (Same.free (s1'.trans sB) hz) upd_same (s6 _ _ h1) (s6 _ _ h2)

-- 0:lows 1:highs 2:total 3:wrong 4:spot 5:low
theorem ok_fits {f fd : _} (T : Top K mg) (F : L2.Fun K "_law_fits" "_law_fits" s__law_fits f fd) : FnOk P w K mg base CX0 1 f fd ["lows", "highs", "total"] (spFits K) := by
  refine F.ok sc__law_fits (fun vs H Q E h => ?_) (fun cdv A outer s H vs Q E hr h => ?_)
  · obtain ⟨lo, hi, ps, tot, rfl, _⟩ := h
    rfl
  · obtain ⟨lo, hi, ps, tot, rfl, hL, hH, o2, lp, q⟩ := h
    refine ⟨_, (pss_cons (ps_setLc (i := 3) (own := [("spot", 4), ("low", 5)]) (by rfl) sc__law_fits.nd rfl rfl (sw_true rfl rfl rfl (by decide +kernel)) (piE (K := K) (by rfl) T.z_enumerate (pa_cons (pv 0) pa_nil)) (blkOk_by (N := ["lows", "highs", "total", "wrong", "spot", "low"]) (sc := defScope s__law_fits) (by decide +kernel)) (fun _ _ _ _ _ => (pgT (K := K) (n := 2) (by rfl) (pgs_cons (pg_name (i := 4) sc__law_fits.nd rfl (Or.inl rfl)) (pgs_cons (pg_name (i := 5) sc__law_fits.nd rfl (Or.inl rfl)) pgs_nil)))) (fun _ _ _ _ _ => (pts_one (pt_cmpR op_gt (pv 5) (pe_ix (ixL (K := K)) (pv 1) (pv 4) (fun _ _ => rfl)) (nomark _)))) (fun _ _ _ _ _ => (pv 4)))
      (pss_one (ps_ret (pe_and (pe_cmpR (eqL (K := K) hr.units) (pv 3) (pe_lst pa_nil) (nomark _)) (pe_and (pe_cmpR op_le (pe_callB (sumL (K := K) rfl) (by rfl) T.z_sum (by decide +kernel) (pa_cons (pv 0) pa_nil)) (pv 2) (nomark _)) (pe_one (pe_cmpR op_le (pv 2) (pe_callB (sumL (K := K) rfl) (by rfl) T.z_sum (by decide +kernel) (pa_cons (pv 1) pa_nil)) (nomark _)))))))), ?_⟩
    walk_at "rds"
    refine ⟨lo, _, rfl, hL, fun D hD => ?_⟩
    refine lc_enum (K := K) (a := lo) (xs := (ps.map (·.1)).map V.int) (fun i H3 => Same H H3 ∧ H3 D = some (.lst [])) ?_ ?_ ?_ ?_
    · exact ⟨Same.new hD, upd_same⟩
    · rintro i H3 _ ⟨s3, _⟩
      exact Same.seq s3 hL
    · rintro i x Tp H3 hx ⟨s3, h3⟩ hT
      obtain ⟨v, hv, rfl⟩ := int_at hx
      rw [List.getElem?_map] at hv
      cases e : ps[i]? with
      | none => rw [e] at hv; cases hv
      | some c =>
        rw [e] at hv
        cases hv
        have hc := o2 c (List.mem_of_getElem? e)
        have s4 := s3.trans (Same.new (o := .tup [.int (i : Nat), .int c.1]) hT)
        have g2 : (ps.map (·.2))[i]? = some c.2 := by
          rw [List.getElem?_map, e]
          rfl
        walk_at "rds"
        refine ⟨Tp, _, rfl, SqT.of upd_same, rfl, _, _, rfl, _, _, rfl, rfl, ?_⟩
        refine ⟨rfl, ?_⟩
        walk_at "rds"
        refine ⟨hi, _, _, _, rfl, rfl, Same.seq s4 hH, at_int rfl g2, ?_⟩
        walk_at "rds"
        have ed : decide (c.2 < c.1) = false := decide_eq_false (by omega)
        rw [ed]
        have nD : D ≠ Tp := ne_of_none h3 hT
        exact ⟨s4, by rw [upd_ne nD]; exact h3⟩
    · rintro H3 ⟨s3, h3⟩
      walk_at "rds"
      refine ⟨by show 0 ≤ sizeLine; decide, fun y hy => ?_⟩
      refine lay (upd H3 y (.lst [])) rfl hy fun G1 s4 g1 => ?_
      have s34 := s3.trans s4
      refine ⟨dI [], dI [], Dp.ints (SqL.of (s4 _ _ h3)), Dp.ints (SqL.of g1), shaped_ints _, shaped_ints _, ?_⟩
      rw [eqv_ints, decide_eq_true rfl]
      walk_at "rds"
      refine ⟨lo, _, rfl, Same.seq s34 hL, ?_⟩
      walk_at "rds"
      cases z : decide ((ps.map (·.1)).sum ≤ tot) with
      | false =>
        have q1 := q G1 s34
        rw [show decide (los ps ≤ tot) = false from z] at q1
        walk_at "rds"
        exact q1
      | true =>
        walk_at "rds"
        refine ⟨hi, _, rfl, Same.seq s34 hH, ?_⟩
        walk_at "rds"
        have q1 := q G1 s34
        rw [show decide (los ps ≤ tot) = true from z] at q1
        exact q1
-- 0:sums_here 1:size 2:top 3:told 4:step 5:lows 6:highs 7:rest 8:ahead
theorem ok_end_right {f fd : _} (T : Top K mg) (F : L2.Fun K "_law_end_right" "_law_end_right" s__law_end_right f fd)
    (G__law_box : DefOk P w K mg base CX0 2 "_law_box" T.f__law_box T.fd__law_box ["sums_here", "size", "top"] (spBox K))
    (G__law_fits : DefOk P w K mg base CX0 1 "_law_fits" T.f__law_fits T.fd__law_fits ["lows", "highs", "total"] (spFits K)) :
    FnOk P w K mg base CX0 3 f fd ["sums_here", "size", "top", "told", "step"] (spEnd K) := by
  refine F.ok sc__law_end_right (fun vs H Q E h => ?_) (fun cdv A outer s H vs Q E hr h => ?_)
  · obtain ⟨a, b, ss, y, k, t, st, n, rfl, _⟩ := h
    rfl
  · obtain ⟨a, b, ss, y, k, t, st, n, rfl, hS, hB, td, q⟩ := h
    refine ⟨_, (pss_cons (ps_asg (Ws.pc G__law_box hr (pa_cons (pv 0) (pa_cons (pv 1) (pa_cons (pv 2) pa_nil)))) (pgT (K := K) (n := 2) (by rfl) (pgs_cons (pg_name (i := 5) sc__law_end_right.nd rfl (.inl rfl)) (pgs_cons (pg_name (i := 6) sc__law_end_right.nd rfl (.inl rfl)) pgs_nil))))
      (pss_cons (ps_for PassesOwn.never rfl (pi_range1 (by rfl) T.z_range (pa_cons (pv 1) pa_nil)) (pg_name (i := 7) sc__law_end_right.nd rfl (.inl rfl))
      (pss_cons (ps_set (i := 8) sc__law_end_right.nd rfl (.inl rfl) (pe_op op_cat (pe_slice (slL (K := K)) (pv 3) po_none (po_some (pv 7))) (pe_lst (pa_cons (pe_op op_add (pe_ix (ixL (K := K)) (pv 3) (pv 7) (fun _ _ => rfl)) (pv 4)) pa_nil))))
      (pss_one (ps_if (PW.pt (pw_and (pt_cmpR op_le (pe_ix (ixL (K := K)) (pv 5) (pv 7) (fun _ _ => rfl)) (pe_ix (ixL (K := K)) (pv 8) (pe_un un_neg pe_int) (fun _ _ => rfl)) (nomark _)) (pw_and1 (pt_cmpR op_le (pe_ix (ixL (K := K)) (pv 8) (pe_un un_neg pe_int) (fun _ _ => rfl)) (pe_ix (ixL (K := K)) (pv 6) (pv 7) (fun _ _ => rfl)) (nomark _)))))
      (pss_one (ps_if (pt_val (Ws.pc G__law_fits hr (pa_cons (pe_slice (slL (K := K)) (pv 5) (po_some (pe_op op_add (pv 7) pe_int)) po_none) (pa_cons (pe_slice (slL (K := K)) (pv 6) (po_some (pe_op op_add (pv 7) pe_int)) po_none) (pa_cons (pe_op op_sub (pe_ix (ixL (K := K)) (pv 0) pe_int (fun _ _ => rfl)) (pe_callB (sumL (K := K) rfl) (by rfl) T.z_sum (by decide +kernel) (pa_cons (pv 8) pa_nil))) pa_nil)))))
      (pss_one (ps_ret pe_bl))
      pss_nil))
      pss_nil))))
      (pss_one (ps_ret pe_bl)))), ?_⟩
    have wy := td.way
    have k1 := wy.k1
    have k8 := wy.k8
    have n67 := wy.n67
    have hl := wy.has.len
    have kn := wy.has.2.1
    have yn := td.len
    obtain ⟨en, s1⟩ := way_n wy
    rw [yn] at en
    have fin := td.fin
    have ord : Ord2 (rngs (offL ss k.toNat n) k.toNat t) := by
      rw [← yn]
      exact (way_inr wy).1.ord
    have lr := rngs_len (offL ss k.toNat n) k.toNat t
    walk_at "rds"
    refine ⟨a, ss, k, t, rfl, hS, s1, k1, k8, by omega, fun H1 p lo hi t1 fp hp hlo hhi => ?_⟩
    rw [en] at hlo hhi
    generalize hps : rngs (offL ss k.toNat n) k.toNat t = ps at *
    walk_at "rds"
    refine ⟨p, _, rfl, SqT.of hp, rfl, _, _, rfl, _, _, rfl, rfl, ?_⟩
    walk_at "rds"
    refine ⟨by omega, by omega, for_range (fun i σ H' => ∃ x7 x8, σ = [some (.ref a), some (.int k), some (.int t), some (.ref b), some (.int st), some (.ref lo), some (.ref hi), x7, x8] ∧ Same H1 H') ?_ ?_ ?_⟩
    · exact ⟨_, _, rfl, Same.refl _⟩
    · rintro i σ H' hi2 ⟨x7, x8, rfl, s2⟩
      have hik : i < k.toNat := by omega
      have hiy : i < y.length := by omega
      have gy : y[i]? = some y[i] := List.getElem?_eq_getElem hiy
      generalize y[i] = v at gy
      obtain ⟨c, hc⟩ : ∃ c, ps[i]? = some c := ⟨ps[i]'(by omega), List.getElem?_eq_getElem (by omega)⟩
      have t12 := t1.trans s2
      have ec : cutV (y.map V.int) none (some (0 + (i : Int))) = (y.take i).map V.int := by
        have e1 : (0 : Int) + (i : Int) = ((i : Nat) : Int) := by omega
        rw [e1]
        exact cut_head y i
      walk_at "rds"
      refine ⟨b, _, rfl, Same.seq t12 hB, fun r1 q1 => ?_⟩
      rw [ec]
      refine lay (upd H' r1 (.lst ((y.take i).map V.int))) rfl q1 fun G1 u1 g1 => ?_
      walk_at "rds"
      refine ⟨b, _, _, _, rfl, rfl, Same.seq (t12.trans u1) hB, at_int (j := i) (by omega) gy, ?_⟩
      walk_at "rds"
      refine ⟨by show 1 ≤ sizeLine; decide, fun r2 q2 => ?_⟩
      refine lay (upd G1 r2 (.lst [.int (v + st)])) rfl q2 fun G2 u2 g2 => ?_
      refine ⟨r1, r2, _, _, rfl, rfl, u2 _ _ g1, g2, ?_, fun r3 q3 => ?_⟩
      · rw [List.length_map, List.length_take]
        exact Nat.le_of_lt (small1000 (by show min i y.length + 1 ≤ 1000; omega))
      have ea : (y.take i).map V.int ++ [V.int (v + st)] = (y.take i ++ [v + st]).map V.int := by
        rw [List.map_append]
        rfl
      rw [ea]
      refine lay (upd G2 r3 (.lst ((y.take i ++ [v + st]).map V.int))) rfl q3 fun G3 u3 g3 => ?_
      have u13 := (u1.trans u2).trans u3
      have s3 := s2.trans u13
      have la : (y.take i ++ [v + st]).length = i + 1 := by
        rw [List.length_append, List.length_take]
        show min i y.length + 1 = _
        omega
      have ga : (y.take i ++ [v + st])[i]? = some (v + st) := by
        have e1 : (y.take i).length = i := by rw [List.length_take]; omega
        rw [List.getElem?_append_right (by omega), e1, Nat.sub_self]
        rfl
      have glo : (ps.map (·.1))[i]? = some c.1 := by rw [List.getElem?_map, hc]; rfl
      have ghi : (ps.map (·.2))[i]? = some c.2 := by rw [List.getElem?_map, hc]; rfl
      have last : atI ((y.take i ++ [v + st]).map V.int) (-1) = some (.int (v + st)) := at_neg (j := i) (by rw [List.length_map, la]; omega) (by rw [List.length_map, la]; omega) (by rw [List.getElem?_map, ga]; rfl)
      have no := fin i c v hc (by rw [List.getElem?_take_of_lt hik]; exact gy)
      walk_at "rds"
      refine ⟨lo, _, _, _, rfl, rfl, SqL.of (s3 _ _ hlo), at_int (j := i) (by omega) glo, ?_⟩
      walk_at "rds"
      refine ⟨r3, _, _, _, rfl, rfl, SqL.of g3, last, ?_⟩
      walk_at "rds"
      refine ite2 (fun z1 => ?_) (fun z1 => ?_)
      · have w1 : c.1 ≤ v + st := of_decide_eq_true z1
        walk_at "rds"
        refine ⟨r3, _, _, _, rfl, rfl, SqL.of g3, last, ?_⟩
        walk_at "rds"
        refine ⟨hi, _, _, _, rfl, rfl, SqL.of (s3 _ _ hhi), at_int (j := i) (by omega) ghi, ?_⟩
        walk_at "rds"
        refine ite2 (fun z2 => ?_) (fun z2 => ?_)
        · have w2 : v + st ≤ c.2 := of_decide_eq_true z2
          have n2 := no w1 w2
          have e1 : (0 : Int) + (i : Int) + 1 = ((i + 1 : Nat) : Int) := by omega
          walk_at "rds"
          refine ⟨lo, _, rfl, SqL.of (s3 _ _ hlo), fun r4 q4 => ?_⟩
          rw [e1, cut_tail]
          refine lay (upd G3 r4 (.lst (((ps.map (·.1)).drop (i + 1)).map V.int))) rfl q4 fun G4 u4 g4 => ?_
          walk_at "rds"
          refine ⟨hi, _, rfl, SqL.of (u4 _ _ (s3 _ _ hhi)), fun r5 q5 => ?_⟩
          rw [e1, cut_tail]
          refine lay (upd G4 r5 (.lst (((ps.map (·.2)).drop (i + 1)).map V.int))) rfl q5 fun G5 u5 g5 => ?_
          have u45 := u4.trans u5
          have g0 : ss[0]? = some (ss.getD 0 0) := by
            rw [List.getD_eq_getElem?_getD, List.getElem?_eq_getElem (by omega)]
            rfl
          walk_at "rds"
          refine ⟨a, _, _, _, rfl, rfl, Same.seq ((t1.trans s3).trans u45) hS, at_int (j := 0) rfl g0, ?_⟩
          walk_at "rds"
          refine ⟨r3, _, rfl, SqL.of (u45 _ _ g3), ?_⟩
          walk_at "rds"
          refine ⟨r4, r5, ps.drop (i + 1), _, rfl, SqL.of (by rw [List.map_drop]; exact u5 _ _ g4), SqL.of (by rw [List.map_drop]; exact g5), fun x hx => ord x (List.mem_of_mem_drop hx), by rw [List.length_drop]; omega, fun H6 u6 => ?_⟩
          have ef : (decide (los (ps.drop (i + 1)) ≤ ss.getD 0 0 - (y.take i ++ [v + st]).sum) && decide (ss.getD 0 0 - (y.take i ++ [v + st]).sum ≤ his (ps.drop (i + 1)))) = false := by
            have et : ((y.take k.toNat).take i) = y.take i := by
              rw [List.take_take]
              congr 1
              omega
            rw [et] at n2
            rw [sum_snoc]
            rw [Bool.eq_false_iff]
            intro z
            rw [Bool.and_eq_true, decide_eq_true_iff, decide_eq_true_iff] at z
            exact n2 z
          rw [ef]
          walk_at "rds"
          exact (s3.trans u45).trans u6
        · exact ⟨_, _, rfl, s3⟩
      · exact ⟨_, _, rfl, s3⟩
    · rintro σ H' ⟨x7, x8, rfl, s2⟩
      exact q H' (t1.trans s2)

theorem kb_least_way_most_length_sums {fd : FuncData} {f : Addr} (F : L2.Fun K "least_way" "least_way" s_least_way f fd) : KBinds K fd ["sums", "length", "most"] ["most", "length", "sums"] gR3 gR3 := by
  obtain ⟨oc, od, kV, doc, pm, an, cdv, ct, osl, rfl, lk, hcd⟩ := F.ex
  refine ⟨fun s us ws _ h => ?_, rel_R3⟩
  obtain ⟨a, b, c, rfl, rfl⟩ := R3_inv h
  exact .of_eq rfl
theorem kb_greatest_way_most_length_sums {fd : FuncData} {f : Addr} (F : L2.Fun K "greatest_way" "greatest_way" s_greatest_way f fd) : KBinds K fd ["sums", "length", "most"] ["most", "length", "sums"] gR3 gR3 := by
  obtain ⟨oc, od, kV, doc, pm, an, cdv, ct, osl, rfl, lk, hcd⟩ := F.ex
  refine ⟨fun s us ws _ h => ?_, rel_R3⟩
  obtain ⟨a, b, c, rfl, rfl⟩ := R3_inv h
  exact .of_eq rfl
-- 0:sums_here 1:size 2:top 3:before 4:least 5:greatest 6:told 7:step 8:one
theorem ok_right {f fd : _} (T : Top K mg) (F : L2.Fun K "_law_right" "_law_right" s__law_right f fd)
    (G__law_sums : DefOk P w K mg base CX0 1 "_law_sums" T.f__law_sums T.fd__law_sums ["numbers_here", "size"] (spSums K))
    (G__law_end_right : DefOk P w K mg base CX0 3 "_law_end_right" T.f__law_end_right T.fd__law_end_right ["sums_here", "size", "top", "told", "step"] (spEnd K))
    (G_least_way : DefOk P w K mg base CX0 7 "least_way" T.f_least_way T.fd_least_way ["sums", "length", "most"] (spLw K lw))
    (G_greatest_way : DefOk P w K mg base CX0 7 "greatest_way" T.f_greatest_way T.fd_greatest_way ["sums", "length", "most"] (spLw K gw)) :
    FnOk P w K mg base CX0 8 f fd ["sums_here", "size", "top"] (spRight5 K) := by
  have kb_least_way_most_length_sums := kb_least_way_most_length_sums T.F_least_way
  have kb_greatest_way_most_length_sums := kb_greatest_way_most_length_sums T.F_greatest_way
  refine F.ok sc__law_right (fun vs H Q E h => ?_) (fun cdv A outer s H vs Q E hr h => ?_)
  · obtain ⟨a, ss, x, k, t, rfl, _⟩ := h
    rfl
  · obtain ⟨a, ss, x, k, t, rfl, hS, wy, q⟩ := h
    refine ⟨_, (pss_cons (ps_set (i := 3) sc__law_right.nd rfl (.inl rfl) (pe_callTy (listL (K := K)) (by rfl) T.z_list (by decide +kernel) (pa_cons (pv 0) pa_nil)))
      (pss_cons (ps_set (i := 4) sc__law_right.nd rfl (.inl rfl) (Ws.pckw G_least_way hr kb_least_way_most_length_sums (pk_cons (pv 2) (pk_cons (pv 1) (pk_cons (pv 0) pk_nil)))))
      (pss_cons (ps_set (i := 5) sc__law_right.nd rfl (.inl rfl) (Ws.pckw G_greatest_way hr kb_greatest_way_most_length_sums (pk_cons (pv 2) (pk_cons (pv 1) (pk_cons (pv 0) pk_nil)))))
      (pss_cons (ps_for PassesOwn.never rfl (piL (K := K) (pe_lst (pa_cons (pe_tup (pa_cons (pv 4) (pa_cons (pe_un un_neg pe_int) pa_nil))) (pa_cons (pe_tup (pa_cons (pv 5) (pa_cons pe_int pa_nil))) pa_nil)))) (pgT (K := K) (n := 2) (by rfl) (pgs_cons (pg_name (i := 6) sc__law_right.nd rfl (.inl rfl)) (pgs_cons (pg_name (i := 7) sc__law_right.nd rfl (.inl rfl)) pgs_nil)))
      (pss_cons (ps_if (PW.pt (pw_or (pt_not (pt_val (pe_callB (isiL (K := K)) (by rfl) T.z_isinstance (by decide +kernel) (pa_cons (pv 6) (pa_cons (pe_bltn (v := .ty "list") (by rfl) T.z_list (by decide +kernel) rfl) pa_nil))))) (pw_or1 (pt_cmpR op_ne (pe_callB (lenL (K := K)) (by rfl) T.z_len (by decide +kernel) (pa_cons (pv 6) pa_nil)) (pe_op op_sub (pe_op op_add (pe_callB (lenL (K := K)) (by rfl) T.z_len (by decide +kernel) (pa_cons (pv 0) pa_nil)) (pv 1)) pe_int) (nomark _)))))
      (pss_one (ps_ret pe_bl))
      pss_nil)
      (pss_cons (ps_if (pt_cmpR (neL (K := K) hr.units) (pe_lc (own := [("one", 8)]) (g := gName 8) (by rfl) sc__law_right.nd (piL (K := K) (pv 6)) (blkOk_by (N := ["sums_here", "size", "top", "before", "least", "greatest", "told", "step", "one"]) (sc := defScope s__law_right) (by decide +kernel)) (fun _ _ _ _ _ => pg_name (i := 8) sc__law_right.nd rfl (Or.inl rfl)) (fun _ _ _ _ _ => (pts_one (PW.pt (pw_or (pt_val (pe_callB (isiL (K := K)) (by rfl) T.z_isinstance (by decide +kernel) (pa_cons (pv 8) (pa_cons (pe_bltn (v := .ty "bool") (by rfl) T.z_bool (by decide +kernel) rfl) pa_nil)))) (pw_or (pt_cmpR op_lt (pv 8) pe_int (nomark _)) (pw_or1 (pt_cmpR op_gt (pv 8) (pv 2) (nomark _)))))))) (fun _ _ _ _ _ => (pv 8))) (pe_lst pa_nil) (nomark _))
      (pss_one (ps_ret pe_bl))
      pss_nil)
      (pss_cons (ps_if (pt_cmpR (neL (K := K) hr.units) (Ws.pc G__law_sums hr (pa_cons (pv 6) (pa_cons (pv 1) pa_nil))) (pv 0) (nomark _))
      (pss_one (ps_ret pe_bl))
      pss_nil)
      (pss_one (ps_if (pt_not (pt_val (Ws.pc G__law_end_right hr (pa_cons (pv 0) (pa_cons (pv 1) (pa_cons (pv 2) (pa_cons (pv 6) (pa_cons (pv 7) pa_nil))))))))
      (pss_one (ps_ret pe_bl))
      pss_nil))))))
      (pss_cons (ps_expr (bmK (K := K) (pe_bm PySem.F.plainAttrs_list PySem.F.slot_list_append PySem.F.type_list_append mt_append (pv 4) (pa_cons pe_non pa_nil))))
      (pss_cons (ps_expr (bmK (K := K) (pe_bm PySem.F.plainAttrs_list PySem.F.slot_list_append PySem.F.type_list_append mt_append (pv 5) (pa_cons pe_non pa_nil))))
      (pss_cons (ps_if (PW.pt (pw_or (pt_cmpR (neL (K := K) hr.units) (pv 0) (pv 3) (nomark _)) (pw_or1 (pt_cmpR (neL (K := K) hr.units) (Ws.pc G_least_way hr (pa_cons (pv 0) (pa_cons (pv 1) (pa_cons (pv 2) pa_nil)))) (pe_slice (slL (K := K)) (pv 4) po_none (po_some (pe_un un_neg pe_int))) (nomark _)))))
      (pss_one (ps_ret pe_bl))
      pss_nil)
      (pss_one (ps_ret (pe_cmpR (eqL (K := K) hr.units) (Ws.pc G_greatest_way hr (pa_cons (pv 0) (pa_cons (pv 1) (pa_cons (pv 2) pa_nil)))) (pe_slice (slL (K := K)) (pv 5) po_none (po_some (pe_un un_neg pe_int))) (nomark _))))))))))), ?_⟩
    have k1 := wy.k1
    have k8 := wy.k8
    have n67 := wy.n67
    have hl := wy.has.len
    have kn := wy.has.2.1
    obtain ⟨en, s1⟩ := way_n wy
    have tl := lw_told wy
    have tg := gw_told wy
    walk_at "rds"
    refine ⟨a, _, rfl, hS, fun b hb => ?_⟩
    refine lay (upd H b (.lst (ss.map V.int))) rfl hb fun H1 t1 g1 => ?_
    walk_at "rds"
    refine ⟨a, ss, x, k, t, rfl, Same.seq t1 hS, wy, fun H2 p t2 fp hp => ?_⟩
    have fp0 : H p = none := Same.free t1 fp
    walk_at "rds"
    refine ⟨a, ss, x, k, t, rfl, Same.seq (t1.trans t2) hS, wy, fun H3 g t3 fg hg => ?_⟩
    have fg0 : H g = none := Same.free (t1.trans t2) fg
    have npg : p ≠ g := ne_of_none hp fg
    have t23 := t2.trans t3
    walk_at "rds"
    refine ⟨by show 2 ≤ sizeLine; decide, fun u1 q1 => ?_⟩
    refine lay (upd H3 u1 (.tup [.ref p, .int (-1)])) rfl q1 fun H4 t4 g4 => ?_
    walk_at "rds"
    refine ⟨by show 2 ≤ sizeLine; decide, fun u2 q2 => ?_⟩
    refine lay (upd H4 u2 (.tup [.ref g, .int 1])) rfl q2 fun H5 t5 g5 => ?_
    walk_at "rds"
    refine ⟨by show 2 ≤ sizeLine; decide, fun L qL => ?_⟩
    refine lay (upd H5 L (.lst [.ref u1, .ref u2])) rfl qL fun H6 t6 g6 => ?_
    have t36 := (t4.trans t5).trans t6
    have p6 := t36 _ _ (t3 _ _ hp)
    have gg6 := t36 _ _ hg
    have s06 := (t1.trans t23).trans t36
    have each : ∀ (i : Nat) z, [V.ref u1, .ref u2][i]? = some z → ∃ (tq r : Addr) (y : List Int) (st : Int), z = .ref tq ∧ H6 tq = some (.tup [.ref r, .int st]) ∧ H6 r = some (.lst (y.map V.int)) ∧ Told ss k t x.length st y := by
      intro i z h
      match i, h with
      | 0, h =>
        cases h
        exact ⟨u1, p, _, -1, rfl, t6 _ _ (t5 _ _ g4), p6, tl⟩
      | 1, h =>
        cases h
        exact ⟨u2, g, _, 1, rfl, t6 _ _ g5, gg6, tg⟩
    walk_at "rds"
    refine ⟨⟨_, SqL.of g6⟩, for_list (K := K) (a := L) (xs := [.ref u1, .ref u2]) (fun i σ H' => ∃ x6 x7 x8, σ = [some (.ref a), some (.int k), some (.int t), some (.ref b), some (.ref p), some (.ref g), x6, x7, x8] ∧ Same H6 H') ?_ ?_ ?_ ?_⟩
    · exact ⟨_, _, _, rfl, Same.refl _⟩
    · rintro i σ H' _ ⟨_, _, _, _, s7⟩
      exact SqL.of (s7 _ _ g6)
    · rintro i z σ H' hz ⟨x6, x7, x8, rfl, s7⟩
      obtain ⟨tq, r, y, st, rfl, h1, h2, td⟩ := each i z hz
      have h2' := s7 _ _ h2
      have ln := td.len
      have aS : SqL K H' a (ss.map V.int) := Same.seq (s06.trans s7) hS
      walk_at "rds"
      refine ⟨tq, _, rfl, SqT.of (s7 _ _ h1), rfl, _, _, rfl, _, _, rfl, rfl, ?_⟩
      walk_at "rds"
      refine ⟨.ref r, _, _, _, true, rfl, .ty "list", .base (.lst h2'), kit_ty (by decide +kernel), ?_⟩
      walk_at "rds"
      refine ⟨r, _, rfl, SqL.of h2', ?_⟩
      rw [List.length_map]
      walk_at "rds"
      refine ⟨a, _, rfl, aS, ?_⟩
      rw [List.length_map]
      walk_at "rds"
      have e1 : decide (V.int (y.length : Int) = V.int ((ss.length : Int) + k - 1)) = true := decide_eq_true (congrArg V.int (by omega))
      rw [e1]
      walk_at "rds"
      refine ⟨⟨_, SqL.of h2'⟩, fun D hD => ?_⟩
      refine lc_list (K := K) (a := r) (xs := y.map V.int) (fun i H3 => Same H' H3 ∧ H3 D = some (.lst [])) ?_ ?_ ?_ ?_
      · exact ⟨Same.new hD, upd_same⟩
      · rintro i H3 _ ⟨s3, _⟩
        exact SqL.of (s3 _ _ h2')
      · rintro i z H3 hz ⟨s3, h3⟩
        obtain ⟨v, hv, rfl⟩ := int_at hz
        have bv := td.way.inn v (List.mem_of_getElem? hv)
        refine ⟨rfl, ?_⟩
        walk_at "rds"
        refine ⟨.int v, _, _, _, false, rfl, .ty "bool", .base (.int v), kit_ty (by decide +kernel), ?_⟩
        walk_at "rds"
        rw [decide_eq_false (show ¬ v < 0 by omega)]
        walk_at "rds"
        rw [decide_eq_false (show ¬ t < v by omega)]
        exact ⟨s3, h3⟩
      · rintro H3 ⟨s3, h3⟩
        walk_at "rds"
        refine ⟨by show 0 ≤ sizeLine; decide, fun y2 q3 => ?_⟩
        refine lay (upd H3 y2 (.lst [])) rfl q3 fun G1 u3 g7 => ?_
        have u4 := s3.trans u3
        refine ⟨dI [], dI [], Dp.ints (SqL.of (u3 _ _ h3)), Dp.ints (SqL.of g7), shaped_ints _, shaped_ints _, ?_⟩
        rw [eqv_ints, decide_eq_true rfl]
        walk_at "rds"
        refine ⟨r, y, k, rfl, SqL.of (u4 _ _ h2'), k1, by omega, by omega, fun G2 w1 u5 fw hw => ?_⟩
        have u45 := u4.trans u5
        walk_at "rds"
        refine ⟨dI (wsums y k.toNat), dI ss, Dp.ints (SqL.of hw), Dp.ints (Same.seq u45 aS), shaped_ints _, shaped_ints _, ?_⟩
        rw [eqv_ints, decide_eq_true td.way.has.2.2]
        walk_at "rds"
        refine ⟨a, r, ss, y, k, t, st, x.length, rfl, Same.seq u45 aS, SqL.of (u45 _ _ h2'), td, fun G3 u6 => ?_⟩
        walk_at "rds"
        exact ⟨_, _, _, rfl, s7.trans (u45.trans u6)⟩
    · rintro σ H' ⟨x6, x7, x8, rfl, s7⟩
      have p7 := s7 _ _ p6
      have g7 := s7 _ _ gg6
      have b7 := s7 _ _ (t36 _ _ (t23 _ _ g1))
      have s07 := s06.trans s7
      have bp : b ≠ p := ne_of_none g1 fp
      have bg : b ≠ g := ne_of_none (t2 _ _ g1) fg
      walk_at "rds"
      refine ⟨.inl ⟨rfl, _, SqL.of p7⟩, ?_⟩
      walk_at "rds"
      refine ⟨p, _, _, rfl, rfl, p7, small1000 (by rw [List.length_map, tl.len]; omega), ?_⟩
      have s08 : Same H (upd H' p (.lst ((lw ss k t).map V.int ++ [V.non]))) := Same.mut s07 fp0
      have g8 : upd H' p (.lst ((lw ss k t).map V.int ++ [V.non])) g = some (.lst ((gw ss k t).map V.int)) := by rw [upd_ne npg.symm]; exact g7
      have p8 : upd H' p (.lst ((lw ss k t).map V.int ++ [V.non])) p = some (.lst ((lw ss k t).map V.int ++ [V.non])) := upd_same
      have b8 : upd H' p (.lst ((lw ss k t).map V.int ++ [V.non])) b = some (.lst (ss.map V.int)) := by rw [upd_ne bp]; exact b7
      generalize upd H' p (.lst ((lw ss k t).map V.int ++ [V.non])) = H8 at s08 g8 p8 b8 ⊢
      walk_at "rds"
      refine ⟨.inl ⟨rfl, _, SqL.of g8⟩, ?_⟩
      walk_at "rds"
      refine ⟨g, _, _, rfl, rfl, g8, small1000 (by rw [List.length_map, tg.len]; omega), ?_⟩
      have s09 : Same H (upd H8 g (.lst ((gw ss k t).map V.int ++ [V.non]))) := Same.mut s08 fg0
      have p9 : upd H8 g (.lst ((gw ss k t).map V.int ++ [V.non])) p = some (.lst ((lw ss k t).map V.int ++ [V.non])) := by rw [upd_ne npg]; exact p8
      have g9 : upd H8 g (.lst ((gw ss k t).map V.int ++ [V.non])) g = some (.lst ((gw ss k t).map V.int ++ [V.non])) := upd_same
      have b9 : upd H8 g (.lst ((gw ss k t).map V.int ++ [V.non])) b = some (.lst (ss.map V.int)) := by rw [upd_ne bg]; exact b8
      generalize upd H8 g (.lst ((gw ss k t).map V.int ++ [V.non])) = H9 at s09 p9 g9 b9 ⊢
      walk_at "rds"
      refine ⟨dI ss, dI ss, Dp.ints (Same.seq s09 hS), Dp.ints (SqL.of b9), shaped_ints _, shaped_ints _, ?_⟩
      rw [eqv_ints, decide_eq_true rfl]
      walk_at "rds"
      refine ⟨a, ss, x, k, t, rfl, Same.seq s09 hS, wy, fun K1 p' v1 fp' hp' => ?_⟩
      walk_at "rds"
      refine ⟨p, _, rfl, SqL.of (v1 _ _ p9), fun c1 qc1 => ?_⟩
      rw [cut_last]
      refine lay (upd K1 c1 (.lst ((lw ss k t).map V.int))) rfl qc1 fun K2 v2 z2 => ?_
      refine ⟨dI (lw ss k t), dI (lw ss k t), Dp.ints (SqL.of (v2 _ _ hp')), Dp.ints (SqL.of z2), shaped_ints _, shaped_ints _, ?_⟩
      rw [eqv_ints, decide_eq_true rfl]
      have v12 := v1.trans v2
      walk_at "rds"
      refine ⟨a, ss, x, k, t, rfl, Same.seq (s09.trans v12) hS, wy, fun K3 g' v3 fg' hg' => ?_⟩
      walk_at "rds"
      refine ⟨g, _, rfl, SqL.of (v3 _ _ (v12 _ _ g9)), fun c2 qc2 => ?_⟩
      rw [cut_last]
      refine lay (upd K3 c2 (.lst ((gw ss k t).map V.int))) rfl qc2 fun K4 v4 z4 => ?_
      refine ⟨dI (gw ss k t), dI (gw ss k t), Dp.ints (SqL.of (v4 _ _ hg')), Dp.ints (SqL.of z4), shaped_ints _, shaped_ints _, ?_⟩
      rw [eqv_ints, decide_eq_true rfl]
      exact q K4 (s09.trans (v12.trans (v3.trans v4)))

def spLaw (K : PySem.W.Frag) : Sp := fun vs H Q _ => ∃ (a : Addr) (ns : List Int), vs = [.ref a] ∧ SqL K H a (ns.map V.int) ∧ ns.length ≤ 63 ∧ ∀ H', Q (.bl true) H'
-- 0:script 1:k 2:jar 3:turn 4:size 5:many 6:top 7:sums_here 8:ways_here 9:some 10:told
theorem ok_law {f fd : _} (T : Top K mg) (F : L2.Fun K "law" "law" s_law f fd) : FnG P w K mg base CX0 9 f fd ["script"] (spLaw K) := by
  have G__law_dip : DefOk P w K mg base CX0 1 "_law_dip" T.f__law_dip T.fd__law_dip ["jar", "many"] spDip := ⟨ok_dip T T.F__law_dip, T.g__law_dip, T.F__law_dip.kp, T.b__law_dip⟩
  have G__law_jar : DefOk P w K mg base CX0 1 "_law_jar" T.f__law_jar T.fd__law_jar ["script", "k"] (spJar K) := ⟨ok_jar T T.F__law_jar, T.g__law_jar, T.F__law_jar.kp, T.b__law_jar⟩
  have G__law_sums : DefOk P w K mg base CX0 1 "_law_sums" T.f__law_sums T.fd__law_sums ["numbers_here", "size"] (spSums K) := ⟨ok_sums T T.F__law_sums, T.g__law_sums, T.F__law_sums.kp, T.b__law_sums⟩
  have G__law_days : DefOk P w K mg base CX0 2 "_law_days" T.f__law_days T.fd__law_days ["jar", "many", "top"] spDays := ⟨ok_days T T.F__law_days G__law_dip, T.g__law_days, T.F__law_days.kp, T.b__law_days⟩
  have G__law_top : DefOk P w K mg base CX0 2 "_law_top" T.f__law_top T.fd__law_top ["jar"] spTop := ⟨ok_top T T.F__law_top G__law_dip, T.g__law_top, T.F__law_top.kp, T.b__law_top⟩
  have G__law_high : DefOk P w K mg base CX0 3 "_law_high" T.f__law_high T.fd__law_high ["jar", "parts"] spHigh := ⟨ok_high T T.F__law_high G__law_top, T.g__law_high, T.F__law_high.kp, T.b__law_high⟩
  have G__law_size : DefOk P w K mg base CX0 2 "_law_size" T.f__law_size T.fd__law_size ["jar", "most_days"] spSize := ⟨ok_size T T.F__law_size G__law_dip, T.g__law_size, T.F__law_size.kp, T.b__law_size⟩
  have G__law_small : DefOk P w K mg base CX0 2 "_law_small" T.f__law_small T.fd__law_small ["jar"] spSmall := ⟨ok_small T T.F__law_small G__law_dip, T.g__law_small, T.F__law_small.kp, T.b__law_small⟩
  have G__law_all : DefOk P w K mg base CX0 1 "_law_all" T.f__law_all T.fd__law_all ["sums_here", "size", "top"] (spAll K) := ⟨ok_all T T.F__law_all, T.g__law_all, T.F__law_all.kp, T.b__law_all⟩
  have G_is_integer : DefOk P w K mg base CX0 1 "is_integer" T.f_is_integer T.fd_is_integer ["thing"] (spIsInt K) := ⟨ok_is_integer T T.F_is_integer, T.g_is_integer, T.F_is_integer.kp, T.b_is_integer⟩
  have G_is_within : DefOk P w K mg base CX0 2 "is_within" T.f_is_within T.fd_is_within ["thing", "low", "high"] (spWithin K) := ⟨ok_is_within T T.F_is_within G_is_integer, T.g_is_within, T.F_is_within.kp, T.b_is_within⟩
  have G_is_row : DefOk P w K mg base CX0 2 "is_row" T.f_is_row T.fd_is_row ["thing", "many"] (spIsRow2 K) := ⟨ok_is_row T T.F_is_row G_is_integer, T.g_is_row, T.F_is_row.kp, T.b_is_row⟩
  have G_check_numbers : DefOk P w K mg base CX0 3 "check_numbers" T.f_check_numbers T.fd_check_numbers ["numbers", "length"] (spNumsOk K) := ⟨ok_check_numbers T T.F_check_numbers G_is_row G_is_within, T.g_check_numbers, T.F_check_numbers.kp, T.b_check_numbers⟩
  have G_check_row_of_sums : DefOk P w K mg base CX0 3 "check_row_of_sums" T.f_check_row_of_sums T.fd_check_row_of_sums ["sums"] (spRowOfSums K) := ⟨ok_check_row_of_sums T T.F_check_row_of_sums G_is_row, T.g_check_row_of_sums, T.F_check_row_of_sums.kp, T.b_check_row_of_sums⟩
  have G_check_sums : DefOk P w K mg base CX0 4 "check_sums" T.f_check_sums T.fd_check_sums ["sums", "length"] (spSumsOk K) := ⟨ok_check_sums T T.F_check_sums G_check_row_of_sums G_is_within, T.g_check_sums, T.F_check_sums.kp, T.b_check_sums⟩
  have G_check_most : DefOk P w K mg base CX0 3 "check_most" T.f_check_most T.fd_check_most ["most"] spMostOk := ⟨ok_check_most T T.F_check_most G_is_within, T.g_check_most, T.F_check_most.kp, T.b_check_most⟩
  have G_check_told : DefOk P w K mg base CX0 5 "check_told" T.f_check_told T.fd_check_told ["sums", "length", "most"] (spToldOk K) := ⟨ok_check_told T T.F_check_told G_check_sums G_check_most, T.g_check_told, T.F_check_told.kp, T.b_check_told⟩
  have G_row_sums : DefOk P w K mg base CX0 1 "row_sums" T.f_row_sums T.fd_row_sums ["numbers", "length"] (spRowSums K) := ⟨ok_row_sums T T.F_row_sums, T.g_row_sums, T.F_row_sums.kp, T.b_row_sums⟩
  have G_sums_of : DefOk P w K mg base CX0 4 "sums_of" T.f_sums_of T.fd_sums_of ["numbers", "length"] (spSumsOf K) := ⟨ok_sums_of T T.F_sums_of G_check_numbers G_row_sums, T.g_sums_of, T.F_sums_of.kp, T.b_sums_of⟩
  have G_offsets_of : DefOk P w K mg base CX0 1 "offsets_of" T.f_offsets_of T.fd_offsets_of ["sums", "length"] (spOffs K) := ⟨ok_offsets_of T T.F_offsets_of, T.g_offsets_of, T.F_offsets_of.kp, T.b_offsets_of⟩
  have G_total_at : DefOk P w K mg base CX0 1 "total_at" T.f_total_at T.fd_total_at ["sums", "offsets", "days"] (spTotalAt K) := ⟨ok_total_at T T.F_total_at, T.g_total_at, T.F_total_at.kp, T.b_total_at⟩
  have G_first_apart : DefOk P w K mg base CX0 1 "first_apart" T.f_first_apart T.fd_first_apart ["offsets", "length", "most"] (spNear K) := ⟨ok_first_apart T T.F_first_apart, T.g_first_apart, T.F_first_apart.kp, T.b_first_apart⟩
  have G_lowest_days : DefOk P w K mg base CX0 1 "lowest_days" T.f_lowest_days T.fd_lowest_days ["offsets", "length"] (spLowest K) := ⟨ok_lowest_days T T.F_lowest_days, T.g_lowest_days, T.F_lowest_days.kp, T.b_lowest_days⟩
  have G_highest_days : DefOk P w K mg base CX0 2 "highest_days" T.f_highest_days T.fd_highest_days ["offsets", "length"] (spLowest K) := ⟨ok_highest_days T T.F_highest_days G_lowest_days, T.g_highest_days, T.F_highest_days.kp, T.b_highest_days⟩
  have G_find_conflict : DefOk P w K mg base CX0 3 "find_conflict" T.f_find_conflict T.fd_find_conflict ["sums", "length", "most"] (spFree K) := ⟨ok_find_conflict T T.F_find_conflict G_offsets_of G_first_apart G_lowest_days G_highest_days G_total_at, T.g_find_conflict, T.F_find_conflict.kp, T.b_find_conflict⟩
  have G_need_way : DefOk P w K mg base CX0 5 "need_way" T.f_need_way T.fd_need_way ["sums", "length", "most"] (spFree K) := ⟨ok_need_way T T.F_need_way G_find_conflict, T.g_need_way, T.F_need_way.kp, T.b_need_way⟩
  have G_start_ranges : DefOk P w K mg base CX0 1 "start_ranges" T.f_start_ranges T.fd_start_ranges ["offsets", "length", "most"] (spStarts K) := ⟨ok_start_ranges T T.F_start_ranges, T.g_start_ranges, T.F_start_ranges.kp, T.b_start_ranges⟩
  have G_least_starts : DefOk P w K mg base CX0 1 "least_starts" T.f_least_starts T.fd_least_starts ["ranges", "total"] (spTak K) := ⟨ok_least_starts T T.F_least_starts, T.g_least_starts, T.F_least_starts.kp, T.b_least_starts⟩
  have G_way_from : DefOk P w K mg base CX0 1 "way_from" T.f_way_from T.fd_way_from ["starts", "offsets"] (spWf K) := ⟨ok_way_from T T.F_way_from, T.g_way_from, T.F_way_from.kp, T.b_way_from⟩
  have G_first_way : DefOk P w K mg base CX0 2 "first_way" T.f_first_way T.fd_first_way ["sums", "length", "most"] (spLw K lw) := ⟨ok_first_way T T.F_first_way G_offsets_of G_start_ranges G_least_starts G_way_from, T.g_first_way, T.F_first_way.kp, T.b_first_way⟩
  have G_least_way : DefOk P w K mg base CX0 7 "least_way" T.f_least_way T.fd_least_way ["sums", "length", "most"] (spLw K lw) := ⟨ok_least_way T T.F_least_way G_check_told G_need_way G_first_way, T.g_least_way, T.F_least_way.kp, T.b_least_way⟩
  have G_greatest_way : DefOk P w K mg base CX0 7 "greatest_way" T.f_greatest_way T.fd_greatest_way ["sums", "length", "most"] (spLw K gw) := ⟨ok_greatest_way T T.F_greatest_way G_check_told G_need_way G_offsets_of G_start_ranges G_least_starts G_way_from, T.g_greatest_way, T.F_greatest_way.kp, T.b_greatest_way⟩
  have G__law_gaps : DefOk P w K mg base CX0 1 "_law_gaps" T.f__law_gaps T.fd__law_gaps ["sums_here", "size"] (spOffs K) := ⟨ok_gaps T T.F__law_gaps, T.g__law_gaps, T.F__law_gaps.kp, T.b__law_gaps⟩
  have G__law_box : DefOk P w K mg base CX0 2 "_law_box" T.f__law_box T.fd__law_box ["sums_here", "size", "top"] (spBox K) := ⟨ok_box T T.F__law_box G__law_gaps, T.g__law_box, T.F__law_box.kp, T.b__law_box⟩
  have G__law_fits : DefOk P w K mg base CX0 1 "_law_fits" T.f__law_fits T.fd__law_fits ["lows", "highs", "total"] (spFits K) := ⟨ok_fits T T.F__law_fits, T.g__law_fits, T.F__law_fits.kp, T.b__law_fits⟩
  have G__law_end_right : DefOk P w K mg base CX0 3 "_law_end_right" T.f__law_end_right T.fd__law_end_right ["sums_here", "size", "top", "told", "step"] (spEnd K) := ⟨ok_end_right T T.F__law_end_right G__law_box G__law_fits, T.g__law_end_right, T.F__law_end_right.kp, T.b__law_end_right⟩
  have G__law_right : DefOk P w K mg base CX0 8 "_law_right" T.f__law_right T.fd__law_right ["sums_here", "size", "top"] (spRight5 K) := ⟨ok_right T T.F__law_right G__law_sums G__law_end_right G_least_way G_greatest_way, T.g__law_right, T.F__law_right.kp, T.b__law_right⟩
  have e30 : ((10 : Int) ^ 30) = 1000000000000000000000000000000 := by decide +kernel
  have e30' : ((10 : Int) ^ (30 : Int).toNat) = 1000000000000000000000000000000 := by decide +kernel
  have e28 : ((10 : Int) ^ (28 : Int).toNat) = 10000000000000000000000000000 := by decide +kernel
  have e200 : (2 : Int) ^ 200 = 1606938044258990275541962092341162602522202993782792835301376 := by decide +kernel
  refine okG F sc_law (fun vs H Q E h => ?_) (fun cdv A outer s H vs Q E hr gu h => ?_)
  · obtain ⟨a, ns, rfl, _⟩ := h
    rfl
  · obtain ⟨a, ns, rfl, hS, n63, q⟩ := h
    refine ⟨_, (pss_cons (ps_for PassesOwn.never rfl (pi_range1 (by rfl) T.z_range (pa_cons (pe_callB (call_max2 rfl) (by rfl) T.z_max (by decide +kernel) (pa_cons pe_int (pa_cons (pe_callB (call_min2 rfl) (by rfl) T.z_min (by decide +kernel) (pa_cons pe_int (pa_cons (pe_callB (lenL (K := K)) (by rfl) T.z_len (by decide +kernel) (pa_cons (pv 0) pa_nil)) pa_nil))) pa_nil))) pa_nil)) (pg_name (i := 1) sc_law.nd rfl (.inl rfl))
      (pss_cons (ps_set (i := 2) sc_law.nd rfl (.inl rfl) (Ws.pc G__law_jar hr (pa_cons (pv 0) (pa_cons (pv 1) pa_nil))))
      (pss_one (ps_for PassesOwn.never rfl (pi_range1 (by rfl) T.z_range (pa_cons pe_int pa_nil)) (pg_name (i := 3) sc_law.nd rfl (.inl rfl))
      (pss_cons (ps_asg (Ws.pc G__law_size hr (pa_cons (pv 2) (pa_cons pe_int pa_nil))) (pgT (K := K) (n := 2) (by rfl) (pgs_cons (pg_name (i := 4) sc_law.nd rfl (.inl rfl)) (pgs_cons (pg_name (i := 5) sc_law.nd rfl (.inl rfl)) pgs_nil))))
      (pss_cons (ps_set (i := 6) sc_law.nd rfl (.inl rfl) (Ws.pc G__law_high hr (pa_cons (pv 2) (pa_cons pe_int pa_nil))))
      (pss_cons (ps_if (pt_not (pt_val (Ws.pc G__law_right hr (pa_cons (Ws.pc G__law_sums hr (pa_cons (Ws.pc G__law_days hr (pa_cons (pv 2) (pa_cons (pv 5) (pa_cons (pv 6) pa_nil)))) (pa_cons (pv 4) pa_nil))) (pa_cons (pv 4) (pa_cons (pv 6) pa_nil))))))
      (pss_one (ps_ret pe_bl))
      pss_nil)
      (pss_cons (ps_asg (Ws.pc G__law_small hr (pa_cons (pv 2) pa_nil)) (pgT (K := K) (n := 3) (by rfl) (pgs_cons (pg_name (i := 4) sc_law.nd rfl (.inl rfl)) (pgs_cons (pg_name (i := 6) sc_law.nd rfl (.inl rfl)) (pgs_cons (pg_name (i := 5) sc_law.nd rfl (.inl rfl)) pgs_nil)))))
      (pss_cons (ps_set (i := 7) sc_law.nd rfl (.inl rfl) (Ws.pc G__law_sums hr (pa_cons (Ws.pc G__law_days hr (pa_cons (pv 2) (pa_cons (pv 5) (pa_cons (pv 6) pa_nil)))) (pa_cons (pv 4) pa_nil))))
      (pss_cons (ps_set (i := 8) sc_law.nd rfl (.inl rfl) (Ws.pc G__law_all hr (pa_cons (pv 7) (pa_cons (pv 4) (pa_cons (pv 6) pa_nil)))))
      (pss_cons (ps_if (pt_cmpR op_ne (pe_callB (reprL (K := K) gu hr.units) (by rfl) T.z_repr (by decide +kernel) (pa_cons (Ws.pc G_least_way hr (pa_cons (pv 7) (pa_cons (pv 4) (pa_cons (pv 6) pa_nil)))) pa_nil)) (pe_callB (reprL (K := K) gu hr.units) (by rfl) T.z_repr (by decide +kernel) (pa_cons (pe_ix (ixL (K := K)) (pv 8) pe_int (fun _ _ => rfl)) pa_nil)) (nomark _))
      (pss_one (ps_ret pe_bl))
      pss_nil)
      (pss_one (ps_if (pt_cmpR op_ne (pe_callB (reprL (K := K) gu hr.units) (by rfl) T.z_repr (by decide +kernel) (pa_cons (Ws.pc G_greatest_way hr (pa_cons (pv 7) (pa_cons (pv 4) (pa_cons (pv 6) pa_nil)))) pa_nil)) (pe_callB (reprL (K := K) gu hr.units) (by rfl) T.z_repr (by decide +kernel) (pa_cons (pe_ix (ixL (K := K)) (pv 8) (pe_un un_neg pe_int) (fun _ _ => rfl)) pa_nil)) (nomark _))
      (pss_one (ps_ret pe_bl))
      pss_nil)))))))))))))
      (pss_cons (ps_set (i := 2) sc_law.nd rfl (.inl rfl) (Ws.pc G__law_jar hr (pa_cons (pv 0) (pa_cons pe_int pa_nil))))
      (pss_cons (ps_for PassesOwn.never rfl (piT (K := K) (pe_tup (pa_cons pe_int (pa_cons pe_int (pa_cons (pe_op op_add pe_int (Ws.pc G__law_dip hr (pa_cons (pv 2) (pa_cons pe_int pa_nil)))) pa_nil))))) (pg_name (i := 4) sc_law.nd rfl (.inl rfl))
      (pss_cons (ps_if (pt_not (pt_val (Ws.pc G__law_right hr (pa_cons (Ws.pc G__law_sums hr (pa_cons (Ws.pc G__law_days hr (pa_cons (pv 2) (pa_cons pe_int (pa_cons (pe_op Ws.op_powG pe_int pe_int) pa_nil)))) (pa_cons (pv 4) pa_nil))) (pa_cons (pv 4) (pa_cons (pe_op Ws.op_powG pe_int pe_int) pa_nil))))))
      (pss_one (ps_ret pe_bl))
      pss_nil)
      (pss_cons (ps_set (i := 9) sc_law.nd rfl (.inl rfl) (Ws.pc G__law_days hr (pa_cons (pv 2) (pa_cons (pe_op op_add pe_int (Ws.pc G__law_dip hr (pa_cons (pv 2) (pa_cons pe_int pa_nil)))) (pa_cons pe_int pa_nil)))))
      (pss_one (ps_if (pt_not (pt_val (Ws.pc G__law_right hr (pa_cons (Ws.pc G__law_sums hr (pa_cons (pv 9) (pa_cons (pv 4) pa_nil))) (pa_cons (pv 4) (pa_cons pe_int pa_nil))))))
      (pss_one (ps_ret pe_bl))
      pss_nil)))))
      (pss_cons (ps_set (i := 6) sc_law.nd rfl (.inl rfl) (pe_op op_sub (pe_op Ws.op_powG pe_int pe_int) pe_int))
      (pss_cons (ps_set (i := 7) sc_law.nd rfl (.inl rfl) (Ws.pc G_sums_of hr (pa_cons (pe_op op_rep (pe_lst (pa_cons (pv 6) pa_nil)) pe_int) (pa_cons pe_int pa_nil))))
      (pss_cons (ps_if (PW.pt (pw_or (pt_cmpR (neL (K := K) hr.units) (Ws.pc G_least_way hr (pa_cons (pv 7) (pa_cons pe_int (pa_cons (pv 6) pa_nil)))) (pe_op op_rep (pe_lst (pa_cons (pv 6) pa_nil)) pe_int) (nomark _)) (pw_or1 (pt_cmpR (neL (K := K) hr.units) (Ws.pc G_greatest_way hr (pa_cons (pv 7) (pa_cons pe_int (pa_cons (pv 6) pa_nil)))) (pe_op op_rep (pe_lst (pa_cons (pv 6) pa_nil)) pe_int) (nomark _)))))
      (pss_one (ps_ret pe_bl))
      pss_nil)
      (pss_cons (ps_set (i := 10) sc_law.nd rfl (.inl rfl) (pe_lst (pa_cons (Ws.pc G_least_way hr (pa_cons (pe_lst (pa_cons pe_int (pa_cons pe_int (pa_cons pe_int pa_nil)))) (pa_cons pe_int (pa_cons pe_int pa_nil)))) (pa_cons (Ws.pc G_greatest_way hr (pa_cons (pe_lst (pa_cons pe_int (pa_cons pe_int (pa_cons pe_int pa_nil)))) (pa_cons pe_int (pa_cons pe_int pa_nil)))) (pa_cons (Ws.pc G_least_way hr (pa_cons (pe_lst (pa_cons pe_int pa_nil)) (pa_cons pe_int (pa_cons pe_int pa_nil)))) pa_nil)))))
      (pss_one (ps_ret (pe_cmpR (eqL (K := K) hr.units) (pv 10) (pe_lst (pa_cons (pe_lst (pa_cons pe_int (pa_cons pe_int (pa_cons pe_int (pa_cons pe_int (pa_cons pe_int pa_nil)))))) (pa_cons (pe_lst (pa_cons pe_int (pa_cons pe_int (pa_cons pe_int (pa_cons pe_int (pa_cons pe_int pa_nil)))))) (pa_cons (pe_op op_rep (pe_lst (pa_cons pe_int pa_nil)) pe_int) pa_nil)))) (nomark _))))))))))), ?_⟩
    walk_at "rds"
    refine ⟨a, _, rfl, hS, ?_⟩
    rw [List.length_map]
    walk_at "rds"
    refine ⟨by split <;> split <;> omega, by split <;> split <;> omega, for_range (fun i σ H' => ∃ x1 x2 x3 x4 x5 x6 x7 x8 x9 x10, σ = [some (.ref a), x1, x2, x3, x4, x5, x6, x7, x8, x9, x10] ∧ Same H H') ?_ ?_ ?_⟩
    · exact ⟨_, _, _, _, _, _, _, _, _, _, rfl, Same.refl H⟩
    · rintro i σ H' hi ⟨x1, x2, x3, x4, x5, x6, x7, x8, x9, x10, rfl, s1⟩
      have i5 : i < 64 := by
        revert hi
        split <;> split <;> omega
      walk_at "rds"
      refine ⟨a, ns, _, rfl, Same.seq s1 hS, by omega, by omega, fun H1 J s2 nJ J1 => ?_⟩
      walk_at "rds"
      refine ⟨by decide, by decide, for_range (fun t σ H2 => ∃ x3 x4 x5 x6 x7 x8 x9 x10, σ = [some (.ref a), some (.int (0 + (i : Int))), some (.ref J), x3, x4, x5, x6, x7, x8, x9, x10] ∧ Fr J H1 H2 ∧ Jar H2 J (1000 * t)) ?_ ?_ ?_⟩
      · exact ⟨_, _, _, _, _, _, _, _, rfl, Fr.refl, J1.mono (by omega)⟩
      · rintro t σ H2 ht ⟨x3, x4, x5, x6, x7, x8, x9, x10, rfl, f1, J2⟩
        have t3 : t < 2 := ht
        walk_at "rds"
        refine ⟨J, 24, 1000 * t, rfl, J2, by omega, by decide, by decide, fun H3 p k c f2 J3 np hp k1 k8 kc c24 => ?_⟩
        walk_at "rds"
        refine ⟨p, _, rfl, SqT.of hp, rfl, _, _, rfl, _, _, rfl, rfl, ?_⟩
        walk_at "rds"
        refine ⟨J, 10, 1000 * t + 2, rfl, J3, by omega, by decide, by decide, fun H4 m f3 J4 m0 m1 mq => ?_⟩
        rw [e30] at m1
        walk_at "rds"
        refine ⟨J, c, m, 1000 * t + 4, rfl, J4.mono (by omega), by omega, by omega, by omega, m0, by rw [e200]; omega, fun H6 D ms f6 J6 nD hD ml mb => ?_⟩
        walk_at "rds"
        refine ⟨D, ms, k, rfl, SqL.of hD, k1, by omega, by omega, fun H7 u s7 fu hu => ?_⟩
        have wy := way_of (t := m) k1 k8 (by omega) (by omega) mb (by omega)
        walk_at "rds"
        refine ⟨u, _, ms, k, m, rfl, SqL.of hu, wy, fun H8 s8 => ?_⟩
        have J8 := (J6.same s7).same s8
        have f8 := ((f1.trans f2).trans (f3.trans f6)).trans ((Fr.of s7).trans (Fr.of s8))
        walk_at "rds"
        refine ⟨J, 1000 * t + 4 + 2 * c + 1, rfl, J8, by omega, fun H9 p2 k2 t2 c2 f9 J9 np2 hp2 k12 k42 t02 t82 hB2 kc2 c62 => ?_⟩
        walk_at "rds"
        refine ⟨p2, _, rfl, SqT.of hp2, rfl, _, _, rfl, _, _, rfl, _, _, rfl, rfl, ?_⟩
        walk_at "rds"
        refine ⟨J, c2, t2, 1000 * t + 4 + 2 * c + 4, rfl, J9.mono (by omega), by omega, by omega, by omega, t02, Int.lt_of_le_of_lt t82 (by decide +kernel), fun G1 D2 os g1 J10 nD2 hD2 ol ob => ?_⟩
        walk_at "rds"
        refine ⟨D2, os, k2, rfl, SqL.of hD2, k12, by omega, by omega, fun G2 u2 s11 fu2 hu2 => ?_⟩
        have wl := wsums_len os k2.toNat
        have wy2 := way_of (t := t2) k12 (by omega) (by omega) (by omega) ob (by omega)
        have ends := all_ends wy2 t02
        have en2 := way_n wy2
        have tl := lw_told wy2
        have tg := gw_told wy2
        have sml : ∀ y : List Int, Way y (wsums os k2.toNat) k2 t2 → Sml y := fun y w => Sml.btw w.inn (by decide +kernel) (Int.lt_of_le_of_lt t82 (by decide +kernel))
        have shl := shw_ints (sml _ tl.way) (by have := tl.way.n67; omega)
        have shg := shw_ints (sml _ tg.way) (by have := tg.way.n67; omega)
        walk_at "rds"
        refine ⟨u2, _, k2, t2, rfl, SqL.of hu2, en2.2, k12, by omega, by omega, t02, by omega, hB2, fun G3 w3 s12 fw3 gw3 => ?_⟩
        rw [en2.1] at gw3
        obtain ⟨as, hw, rows, fas⟩ := gw3.rows
        have al := rows.1
        have lw1 : ∀ (i : Nat) (y : List Int), (allW (wsums os k2.toNat) k2.toNat t2.toNat os.length)[i]? = some y → ∃ b, as[i]? = some b ∧ G3 b = some (.lst (y.map V.int)) := fun i y hy => by
          have hi2 := (List.getElem?_eq_some_iff.mp hy).1
          have ha1 : as[i]? = some as[i] := List.getElem?_eq_getElem (by omega)
          exact ⟨_, ha1, rows.2 i _ y ha1 hy⟩
        obtain ⟨b0, hb0, hB0⟩ := lw1 _ _ ends.1
        obtain ⟨b1, hb1, hB1⟩ := lw1 _ _ ends.2
        rw [← al] at hb1
        have pos : 0 < as.length := (List.getElem?_eq_some_iff.mp hb0).1
        have hu3 := s12 _ _ hu2
        walk_at "rds"
        refine ⟨u2, _, os, k2, t2, rfl, SqL.of hu3, wy2, fun G4 r4 s13 fr4 hr4 => ?_⟩
        walk_at "rds"
        refine ⟨_, dI (lw (wsums os k2.toNat) k2 t2), rfl, Dp.ints (SqL.of hr4), shl, ?_⟩
        walk_at "rds"
        refine ⟨w3, _, 0, .ref b0, rfl, rfl, SqL.of (s13 _ _ hw), at_of (j := 0) rfl (by rw [List.getElem?_map, hb0]; rfl), ?_⟩
        walk_at "rds"
        refine ⟨_, dI (lw (wsums os k2.toNat) k2 t2), rfl, Dp.ints (SqL.of (s13 _ _ hB0)), shl, ?_⟩
        walk_at "rds"
        refine iteNS rfl ?_
        walk_at "rds"
        refine ⟨u2, _, os, k2, t2, rfl, SqL.of (s13 _ _ hu3), wy2, fun G5 r5 s14 fr5 hr5 => ?_⟩
        walk_at "rds"
        refine ⟨_, dI (gw (wsums os k2.toNat) k2 t2), rfl, Dp.ints (SqL.of hr5), shg, ?_⟩
        have s134 := s13.trans s14
        walk_at "rds"
        refine ⟨w3, _, -1, .ref b1, rfl, rfl, SqL.of (s134 _ _ hw), at_neg (j := as.length - 1) (by rw [List.length_map]; omega) (by rw [List.length_map]; omega) (by rw [List.getElem?_map, hb1]; rfl), ?_⟩
        walk_at "rds"
        refine ⟨_, dI (gw (wsums os k2.toNat) k2 t2), rfl, Dp.ints (SqL.of (s134 _ _ hB1)), shg, ?_⟩
        walk_at "rds"
        refine iteNS rfl ?_
        have s1114 := (s11.trans s12).trans s134
        walk_at "rds"
        exact ⟨_, _, _, _, _, _, _, _, rfl, f8.trans ((f9.trans g1).trans (Fr.of s1114)), (J10.same s1114).mono (by omega)⟩
      · rintro σ H2 ⟨x3, x4, x5, x6, x7, x8, x9, x10, rfl, f1, J2⟩
        exact ⟨_, _, _, _, _, _, _, _, _, _, rfl, Same.over (s1.trans s2) (Same.free s1 nJ) f1⟩
    · rintro σ H' ⟨x1, x2, x3, x4, x5, x6, x7, x8, x9, x10, rfl, s1⟩
      walk_at "rds"
      refine ⟨a, ns, _, rfl, Same.seq s1 hS, by decide, by decide, fun H1 J s2 nJ J1 => ?_⟩
      walk_at "rds"
      refine ⟨J, 8, 0, rfl, J1, by omega, by decide, by decide +kernel, fun H2 e f2 J2 e0 e8 => ?_⟩
      walk_at "rds"
      refine ⟨by show 3 ≤ sizeLine; decide, fun p hp => ?_⟩
      have np : p ≠ J := J2.out hp
      walk_at "rds"
      refine ⟨⟨_, SqT.of upd_same⟩, for_tup (K := K) (a := p) (xs := [.int 8, .int 1, .int (1 + e)]) (fun i σ H3 => ∃ x1 x3 x4 x5 x6 x7 x8 x9 x10, σ = [some (.ref a), x1, some (.ref J), x3, x4, x5, x6, x7, x8, x9, x10] ∧ Fr J H1 H3 ∧ Jar H3 J (1000 * i + 2) ∧ H3 p = some (.tup [.int 8, .int 1, .int (1 + e)])) ?_ ?_ ?_ ?_⟩
      · exact ⟨_, _, _, _, _, _, _, _, _, rfl, f2.trans (Fr.of (Same.new hp)), (J2.new hp).mono (by omega), upd_same⟩
      · rintro i σ H3 _ ⟨_, _, _, _, _, _, _, _, _, _, _, _, h⟩
        exact SqT.of h
      · rintro i x σ H3 hx ⟨x1, x3, x4, x5, x6, x7, x8, x9, x10, rfl, f3, J3, h3⟩
        obtain ⟨z, rfl, hz, i3⟩ := tup3_int hx
        have z1 : 1 ≤ z := by omega
        have z8 : z ≤ 8 := by omega
        walk_at "rds"
        refine ⟨⟨by decide, by decide, by decide +kernel⟩, ?_⟩
        walk_at "rds"
        refine ⟨J, 67, _, 1000 * i + 2, rfl, J3, by omega, by decide, by decide, by decide +kernel, by decide +kernel, fun H4 D ms f4 J4 nD hD ml mb => ?_⟩
        have ml2 : ms.length = 67 := ml
        rw [e28] at mb
        walk_at "rds"
        refine ⟨D, ms, z, rfl, SqL.of hD, z1, by omega, by omega, fun H5 u s5 fu hu => ?_⟩
        walk_at "rds"
        refine ⟨⟨by decide, by decide, by decide +kernel⟩, ?_⟩
        walk_at "rds"
        refine ⟨u, _, ms, z, _, rfl, SqL.of hu, way_of (t := (10 : Int) ^ (28 : Int).toNat) z1 z8 (by omega) (by omega) (by rw [e28]; exact mb) (by rw [e28]; decide), fun H6 s6 => ?_⟩
        have J6 := (J4.same s5).same s6
        walk_at "rds"
        refine ⟨J, 42, 1000 * i + 2 + 2 * 67 + 1, rfl, J6, by omega, by decide, by decide +kernel, fun H7 g f7 J7 g0 g1 => ?_⟩
        walk_at "rds"
        refine ⟨J, 25 + g, 29, 1000 * i + 2 + 2 * 67 + 1 + 1, rfl, J7, by omega, by omega, by omega, by decide, by decide +kernel, fun H8 D2 os f8 J8 nD2 hD2 ol ob => ?_⟩
        walk_at "rds"
        refine ⟨D2, os, z, rfl, SqL.of hD2, z1, by omega, by omega, fun H9 u2 s9 fu2 hu2 => ?_⟩
        walk_at "rds"
        refine ⟨u2, _, os, z, 29, rfl, SqL.of hu2, way_of z1 z8 (by omega) (by omega) ob (by decide), fun H10 s10 => ?_⟩
        walk_at "rds"
        have f38 := ((f4.trans (Fr.of s5)).trans (Fr.of s6)).trans ((f7.trans f8).trans ((Fr.of s9).trans (Fr.of s10)))
        exact ⟨_, _, _, _, _, _, _, _, _, rfl, f3.trans f38, ((J8.same s9).same s10).mono (by omega), f38.get np h3⟩
      · rintro σ H3 ⟨x1, x3, x4, x5, x6, x7, x8, x9, x10, rfl, f3, J3, h3⟩
        walk_at "rds"
        refine ⟨⟨by decide, by decide, by decide +kernel⟩, ?_⟩
        walk_at "rds"
        have et : ((10 : Int) ^ (30 : Int).toNat) - 1 = 999999999999999999999999999999 := by decide +kernel
        first
        | rw [show ((fun (i j : Int) => V.int (i - j)) ((10 : Int) ^ (30 : Int).toNat) 1) = V.int 999999999999999999999999999999 from congrArg V.int et]
        | simp only [et]
        refine ⟨by show 1 ≤ sizeLine; decide, fun r1 q1 => ?_⟩
        refine lay (upd H3 r1 (.lst [.int 999999999999999999999999999999])) rfl q1 fun G1 u1 g1 => ?_
        walk_at "rds"
        refine ⟨r1, _, _, rfl, rfl, g1, by decide, by decide, by show 1 * 9 ≤ sizeLine; decide, fun r2 q2 => ?_⟩
        rw [flat_rep]
        refine lay (upd G1 r2 (.lst (List.replicate (9 : Int).toNat (.int 999999999999999999999999999999)))) rfl q2 fun G2 u2 g2 => ?_
        walk_at "rds"
        refine ⟨r2, List.replicate 9 999999999999999999999999999999, 8, rfl, SqL.of (by rw [List.map_replicate]; exact g2), by decide, by decide, by decide, by decide, fun G3 u u3 fu hu => ?_⟩
        have wy : Way (List.replicate 9 999999999999999999999999999999) (wsums (List.replicate 9 999999999999999999999999999999) (8 : Int).toNat) 8 999999999999999999999999999999 := way_of (by decide) (by decide) (by decide) (by decide) (fun x hx => by rw [(List.mem_replicate.mp hx).2]; decide) (by decide)
        have b1 : lw (wsums (List.replicate 9 999999999999999999999999999999) (8 : Int).toNat) 8 999999999999999999999999999999 = List.replicate 9 999999999999999999999999999999 := by decide +kernel
        have b2 : gw (wsums (List.replicate 9 999999999999999999999999999999) (8 : Int).toNat) 8 999999999999999999999999999999 = List.replicate 9 999999999999999999999999999999 := by decide +kernel
        walk_at "rds"
        refine ⟨u, _, _, 8, _, rfl, SqL.of hu, wy, fun G4 p4 u4 fp4 hp4 => ?_⟩
        rw [b1] at hp4
        walk_at "rds"
        refine ⟨by show 1 ≤ sizeLine; decide, fun r5 q5 => ?_⟩
        refine lay (upd G4 r5 (.lst [.int 999999999999999999999999999999])) rfl q5 fun G5 u5 g5 => ?_
        walk_at "rds"
        refine ⟨r5, _, _, rfl, rfl, g5, by decide, by decide, by show 1 * 9 ≤ sizeLine; decide, fun r6 q6 => ?_⟩
        rw [flat_rep]
        refine lay (upd G5 r6 (.lst (List.replicate (9 : Int).toNat (.int 999999999999999999999999999999)))) rfl q6 fun G6 u6 g6 => ?_
        refine ⟨dI (List.replicate 9 999999999999999999999999999999), dI (List.replicate 9 999999999999999999999999999999), Dp.ints (SqL.of (u6 _ _ (u5 _ _ hp4))), Dp.ints (SqL.of (by rw [List.map_replicate]; exact g6)), shaped_ints _, shaped_ints _, ?_⟩
        rw [eqv_ints, decide_eq_true rfl]
        walk_at "rds"
        refine ⟨u, _, _, 8, _, rfl, SqL.of (u6 _ _ (u5 _ _ (u4 _ _ hu))), wy, fun G7 p7 u7 fp7 hp7 => ?_⟩
        rw [b2] at hp7
        walk_at "rds"
        refine ⟨by show 1 ≤ sizeLine; decide, fun r8 q8 => ?_⟩
        refine lay (upd G7 r8 (.lst [.int 999999999999999999999999999999])) rfl q8 fun G8 u8 g8 => ?_
        walk_at "rds"
        refine ⟨r8, _, _, rfl, rfl, g8, by decide, by decide, by show 1 * 9 ≤ sizeLine; decide, fun r9 q9 => ?_⟩
        rw [flat_rep]
        refine lay (upd G8 r9 (.lst (List.replicate (9 : Int).toNat (.int 999999999999999999999999999999)))) rfl q9 fun G9 u9 g9 => ?_
        refine ⟨dI (List.replicate 9 999999999999999999999999999999), dI (List.replicate 9 999999999999999999999999999999), Dp.ints (SqL.of (u9 _ _ (u8 _ _ hp7))), Dp.ints (SqL.of (by rw [List.map_replicate]; exact g9)), shaped_ints _, shaped_ints _, ?_⟩
        rw [eqv_ints, decide_eq_true rfl]
        walk_at "rds"
        have wa : Way [0, 2, 4, 1, 0] [6, 7, 5] 3 9 := ⟨⟨by decide, by decide, by decide⟩, (by intro x hx; simp only [List.mem_cons, List.not_mem_nil, or_false] at hx; omega), by decide, by decide, by decide, by decide⟩
        have wb : Way [0, 0, 0, 0, 0, 0, 0, 0] [0] 8 0 := ⟨⟨by decide, by decide, by decide⟩, (by intro x hx; simp only [List.mem_cons, List.not_mem_nil, or_false] at hx; omega), by decide, by decide, by decide, by decide⟩
        have b3 : lw [6, 7, 5] 3 9 = [0, 2, 4, 1, 0] := by decide +kernel
        have b4 : gw [6, 7, 5] 3 9 = [4, 2, 0, 5, 0] := by decide +kernel
        have b5 : lw [0] 8 0 = [0, 0, 0, 0, 0, 0, 0, 0] := by decide +kernel
        refine ⟨by show 3 ≤ sizeLine; decide, fun c1 z1 => ?_⟩
        refine lay (upd G9 c1 (.lst [.int 6, .int 7, .int 5])) rfl z1 fun K1 v1 w1 => ?_
        refine ⟨c1, [6, 7, 5], _, 3, 9, rfl, SqL.of w1, wa, fun K2 p2 v2 fp2 hp2 => ?_⟩
        rw [b3] at hp2
        walk_at "rds"
        refine ⟨by show 3 ≤ sizeLine; decide, fun c2 z2 => ?_⟩
        refine lay (upd K2 c2 (.lst [.int 6, .int 7, .int 5])) rfl z2 fun K3 v3 w3 => ?_
        refine ⟨c2, [6, 7, 5], _, 3, 9, rfl, SqL.of w3, wa, fun K4 p5 v4 fp5 hp5 => ?_⟩
        rw [b4] at hp5
        walk_at "rds"
        refine ⟨by show 1 ≤ sizeLine; decide, fun c3 z3 => ?_⟩
        refine lay (upd K4 c3 (.lst [.int 0])) rfl z3 fun K5 v5 w5 => ?_
        refine ⟨c3, [0], _, 8, 0, rfl, SqL.of w5, wb, fun K6 p6 v6 fp6 hp6 => ?_⟩
        rw [b5] at hp6
        have v56 := v5.trans v6
        have v36 := (v3.trans v4).trans v56
        walk_at "rds"
        refine ⟨by show 3 ≤ sizeLine; decide, fun c4 z4 => ?_⟩
        refine lay (upd K6 c4 (.lst [.ref p2, .ref p5, .ref p6])) rfl z4 fun K7 v7 w7 => ?_
        walk_at "rds"
        refine ⟨by show 5 ≤ sizeLine; decide, fun c5 z5 => ?_⟩
        refine lay (upd K7 c5 (.lst [.int 0, .int 2, .int 4, .int 1, .int 0])) rfl z5 fun K8 v8 w8 => ?_
        walk_at "rds"
        refine ⟨by show 5 ≤ sizeLine; decide, fun c6 z6 => ?_⟩
        refine lay (upd K8 c6 (.lst [.int 4, .int 2, .int 0, .int 5, .int 0])) rfl z6 fun K9 v9 w9 => ?_
        walk_at "rds"
        refine ⟨by show 1 ≤ sizeLine; decide, fun c7 z7 => ?_⟩
        refine lay (upd K9 c7 (.lst [.int 0])) rfl z7 fun L1 v10 w10 => ?_
        walk_at "rds"
        refine ⟨c7, _, _, rfl, rfl, w10, by decide, by decide, by show 1 * 8 ≤ sizeLine; decide, fun c8 z8' => ?_⟩
        rw [flat_rep]
        refine lay (upd L1 c8 (.lst (List.replicate (8 : Int).toNat (.int 0)))) rfl z8' fun L2 v11 w11 => ?_
        walk_at "rds"
        refine ⟨by show 3 ≤ sizeLine; decide, fun c9 z9 => ?_⟩
        refine lay (upd L2 c9 (.lst [.ref c5, .ref c6, .ref c8])) rfl z9 fun L3 v12 w12 => ?_
        have sh : SeqAt.shaped (.list [dI [0, 2, 4, 1, 0], dI [4, 2, 0, 5, 0], dI [0, 0, 0, 0, 0, 0, 0, 0]]) = true := by decide +kernel
        have v912 := (v10.trans v11).trans v12
        have v712 := (v8.trans v9).trans v912
        refine ⟨.list [dI [0, 2, 4, 1, 0], dI [4, 2, 0, 5, 0], dI [0, 0, 0, 0, 0, 0, 0, 0]], .list [dI [0, 2, 4, 1, 0], dI [4, 2, 0, 5, 0], dI [0, 0, 0, 0, 0, 0, 0, 0]], ?_, ?_, sh, sh, ?_⟩
        · refine .lst (SqL.of (v712 _ _ w7)) (.cons (Dp.ints (SqL.of (v712 _ _ (v7 _ _ (v36 _ _ hp2))))) (.cons (Dp.ints (SqL.of (v712 _ _ (v7 _ _ (v56 _ _ hp5))))) (.cons (Dp.ints (SqL.of (v712 _ _ (v7 _ _ hp6)))) .nil)))
        · refine .lst (SqL.of w12) (.cons (Dp.ints (SqL.of (v912 _ _ (v9 _ _ w8)))) (.cons (Dp.ints (SqL.of (v912 _ _ w9))) (.cons (Dp.ints (SqL.of (v12 _ _ w11))) .nil)))
        rw [eqv_self sh]
        exact q _

end
theorem all_mk {l : PySem.W.OpenLaw} {w : World} {K : PySem.W.Frag} {h : Heap} {mg : Str → Option Value} {fa : Addr} (X : K.In h) (G : h.Ns mainGlobals mg) (hfa : mg "law" = some (.ref fa))
    {f0 : Addr} {od0 an0 : Option Addr} {sl0 : Array (Option Value)} {oc0 kV0 dc0 pm0 cd0 ct0 : Value}
    {f1 : Addr} {od1 an1 : Option Addr} {sl1 : Array (Option Value)} {oc1 kV1 dc1 pm1 cd1 ct1 : Value}
    {f2 : Addr} {od2 an2 : Option Addr} {sl2 : Array (Option Value)} {oc2 kV2 dc2 pm2 cd2 ct2 : Value}
    {f3 : Addr} {od3 an3 : Option Addr} {sl3 : Array (Option Value)} {oc3 kV3 dc3 pm3 cd3 ct3 : Value}
    {f4 : Addr} {od4 an4 : Option Addr} {sl4 : Array (Option Value)} {oc4 kV4 dc4 pm4 cd4 ct4 : Value}
    {f5 : Addr} {od5 an5 : Option Addr} {sl5 : Array (Option Value)} {oc5 kV5 dc5 pm5 cd5 ct5 : Value}
    {f6 : Addr} {od6 an6 : Option Addr} {sl6 : Array (Option Value)} {oc6 kV6 dc6 pm6 cd6 ct6 : Value}
    {f7 : Addr} {od7 an7 : Option Addr} {sl7 : Array (Option Value)} {oc7 kV7 dc7 pm7 cd7 ct7 : Value}
    {f8 : Addr} {od8 an8 : Option Addr} {sl8 : Array (Option Value)} {oc8 kV8 dc8 pm8 cd8 ct8 : Value}
    {f9 : Addr} {od9 an9 : Option Addr} {sl9 : Array (Option Value)} {oc9 kV9 dc9 pm9 cd9 ct9 : Value}
    {f10 : Addr} {od10 an10 : Option Addr} {sl10 : Array (Option Value)} {oc10 kV10 dc10 pm10 cd10 ct10 : Value}
    {f11 : Addr} {od11 an11 : Option Addr} {sl11 : Array (Option Value)} {oc11 kV11 dc11 pm11 cd11 ct11 : Value}
    {f12 : Addr} {od12 an12 : Option Addr} {sl12 : Array (Option Value)} {oc12 kV12 dc12 pm12 cd12 ct12 : Value}
    {f13 : Addr} {od13 an13 : Option Addr} {sl13 : Array (Option Value)} {oc13 kV13 dc13 pm13 cd13 ct13 : Value}
    {f14 : Addr} {od14 an14 : Option Addr} {sl14 : Array (Option Value)} {oc14 kV14 dc14 pm14 cd14 ct14 : Value}
    {f15 : Addr} {od15 an15 : Option Addr} {sl15 : Array (Option Value)} {oc15 kV15 dc15 pm15 cd15 ct15 : Value}
    {f16 : Addr} {od16 an16 : Option Addr} {sl16 : Array (Option Value)} {oc16 kV16 dc16 pm16 cd16 ct16 : Value}
    {f17 : Addr} {od17 an17 : Option Addr} {sl17 : Array (Option Value)} {oc17 kV17 dc17 pm17 cd17 ct17 : Value}
    {f18 : Addr} {od18 an18 : Option Addr} {sl18 : Array (Option Value)} {oc18 kV18 dc18 pm18 cd18 ct18 : Value}
    {f19 : Addr} {od19 an19 : Option Addr} {sl19 : Array (Option Value)} {oc19 kV19 dc19 pm19 cd19 ct19 : Value}
    {f20 : Addr} {od20 an20 : Option Addr} {sl20 : Array (Option Value)} {oc20 kV20 dc20 pm20 cd20 ct20 : Value}
    {f21 : Addr} {od21 an21 : Option Addr} {sl21 : Array (Option Value)} {oc21 kV21 dc21 pm21 cd21 ct21 : Value}
    {f22 : Addr} {od22 an22 : Option Addr} {sl22 : Array (Option Value)} {oc22 kV22 dc22 pm22 cd22 ct22 : Value}
    {f23 : Addr} {od23 an23 : Option Addr} {sl23 : Array (Option Value)} {oc23 kV23 dc23 pm23 cd23 ct23 : Value}
    {f24 : Addr} {od24 an24 : Option Addr} {sl24 : Array (Option Value)} {oc24 kV24 dc24 pm24 cd24 ct24 : Value}
    {f25 : Addr} {od25 an25 : Option Addr} {sl25 : Array (Option Value)} {oc25 kV25 dc25 pm25 cd25 ct25 : Value}
    {f26 : Addr} {od26 an26 : Option Addr} {sl26 : Array (Option Value)} {oc26 kV26 dc26 pm26 cd26 ct26 : Value}
    {f27 : Addr} {od27 an27 : Option Addr} {sl27 : Array (Option Value)} {oc27 kV27 dc27 pm27 cd27 ct27 : Value}
    {f28 : Addr} {od28 an28 : Option Addr} {sl28 : Array (Option Value)} {oc28 kV28 dc28 pm28 cd28 ct28 : Value}
    {f29 : Addr} {od29 an29 : Option Addr} {sl29 : Array (Option Value)} {oc29 kV29 dc29 pm29 cd29 ct29 : Value}
    {f30 : Addr} {od30 an30 : Option Addr} {sl30 : Array (Option Value)} {oc30 kV30 dc30 pm30 cd30 ct30 : Value}
    {f31 : Addr} {od31 an31 : Option Addr} {sl31 : Array (Option Value)} {oc31 kV31 dc31 pm31 cd31 ct31 : Value}
    {f32 : Addr} {od32 an32 : Option Addr} {sl32 : Array (Option Value)} {oc32 kV32 dc32 pm32 cd32 ct32 : Value}
    {f33 : Addr} {od33 an33 : Option Addr} {sl33 : Array (Option Value)} {oc33 kV33 dc33 pm33 cd33 ct33 : Value}
    {f34 : Addr} {od34 an34 : Option Addr} {sl34 : Array (Option Value)} {oc34 kV34 dc34 pm34 cd34 ct34 : Value}
    {f35 : Addr} {od35 an35 : Option Addr} {sl35 : Array (Option Value)} {oc35 kV35 dc35 pm35 cd35 ct35 : Value}
    {f36 : Addr} {od36 an36 : Option Addr} {sl36 : Array (Option Value)} {oc36 kV36 dc36 pm36 cd36 ct36 : Value}
    {f37 : Addr} {od37 an37 : Option Addr} {sl37 : Array (Option Value)} {oc37 kV37 dc37 pm37 cd37 ct37 : Value}
    {u_GREATEST_COUNT : Tok}
    {u_GREATEST_LENGTH : Tok}
    {u_GREATEST_MOST : Tok}
    (a0 : PySem.W.nsIn K mainGlobals "is_integer" = some (some (.ref f0)))
    (l0 : K.lookup f0 = some ⟨oc0, od0, .func (PySem.W.fnOf "is_integer" "is_integer" (defArgs s_is_integer) (defBody s_is_integer) (defScope s_is_integer) .none kV0 dc0 pm0 an0 cd0 ct0), sl0⟩)
    (c0 : PySem.W.codeIn K cd0 "is_integer" = true)
    (k0 : PySem.W.keepIn K (.ref f0) = true)
    (a1 : PySem.W.nsIn K mainGlobals "is_within" = some (some (.ref f1)))
    (l1 : K.lookup f1 = some ⟨oc1, od1, .func (PySem.W.fnOf "is_within" "is_within" (defArgs s_is_within) (defBody s_is_within) (defScope s_is_within) .none kV1 dc1 pm1 an1 cd1 ct1), sl1⟩)
    (c1 : PySem.W.codeIn K cd1 "is_within" = true)
    (k1 : PySem.W.keepIn K (.ref f1) = true)
    (a2 : PySem.W.nsIn K mainGlobals "is_row" = some (some (.ref f2)))
    (l2 : K.lookup f2 = some ⟨oc2, od2, .func (PySem.W.fnOf "is_row" "is_row" (defArgs s_is_row) (defBody s_is_row) (defScope s_is_row) .none kV2 dc2 pm2 an2 cd2 ct2), sl2⟩)
    (c2 : PySem.W.codeIn K cd2 "is_row" = true)
    (k2 : PySem.W.keepIn K (.ref f2) = true)
    (a3 : PySem.W.nsIn K mainGlobals "check_numbers" = some (some (.ref f3)))
    (l3 : K.lookup f3 = some ⟨oc3, od3, .func (PySem.W.fnOf "check_numbers" "check_numbers" (defArgs s_check_numbers) (defBody s_check_numbers) (defScope s_check_numbers) .none kV3 dc3 pm3 an3 cd3 ct3), sl3⟩)
    (c3 : PySem.W.codeIn K cd3 "check_numbers" = true)
    (k3 : PySem.W.keepIn K (.ref f3) = true)
    (a4 : PySem.W.nsIn K mainGlobals "check_row_of_sums" = some (some (.ref f4)))
    (l4 : K.lookup f4 = some ⟨oc4, od4, .func (PySem.W.fnOf "check_row_of_sums" "check_row_of_sums" (defArgs s_check_row_of_sums) (defBody s_check_row_of_sums) (defScope s_check_row_of_sums) .none kV4 dc4 pm4 an4 cd4 ct4), sl4⟩)
    (c4 : PySem.W.codeIn K cd4 "check_row_of_sums" = true)
    (k4 : PySem.W.keepIn K (.ref f4) = true)
    (a5 : PySem.W.nsIn K mainGlobals "check_sums" = some (some (.ref f5)))
    (l5 : K.lookup f5 = some ⟨oc5, od5, .func (PySem.W.fnOf "check_sums" "check_sums" (defArgs s_check_sums) (defBody s_check_sums) (defScope s_check_sums) .none kV5 dc5 pm5 an5 cd5 ct5), sl5⟩)
    (c5 : PySem.W.codeIn K cd5 "check_sums" = true)
    (k5 : PySem.W.keepIn K (.ref f5) = true)
    (a6 : PySem.W.nsIn K mainGlobals "check_most" = some (some (.ref f6)))
    (l6 : K.lookup f6 = some ⟨oc6, od6, .func (PySem.W.fnOf "check_most" "check_most" (defArgs s_check_most) (defBody s_check_most) (defScope s_check_most) .none kV6 dc6 pm6 an6 cd6 ct6), sl6⟩)
    (c6 : PySem.W.codeIn K cd6 "check_most" = true)
    (k6 : PySem.W.keepIn K (.ref f6) = true)
    (a7 : PySem.W.nsIn K mainGlobals "sums_of" = some (some (.ref f7)))
    (l7 : K.lookup f7 = some ⟨oc7, od7, .func (PySem.W.fnOf "sums_of" "sums_of" (defArgs s_sums_of) (defBody s_sums_of) (defScope s_sums_of) .none kV7 dc7 pm7 an7 cd7 ct7), sl7⟩)
    (c7 : PySem.W.codeIn K cd7 "sums_of" = true)
    (k7 : PySem.W.keepIn K (.ref f7) = true)
    (a8 : PySem.W.nsIn K mainGlobals "row_sums" = some (some (.ref f8)))
    (l8 : K.lookup f8 = some ⟨oc8, od8, .func (PySem.W.fnOf "row_sums" "row_sums" (defArgs s_row_sums) (defBody s_row_sums) (defScope s_row_sums) .none kV8 dc8 pm8 an8 cd8 ct8), sl8⟩)
    (c8 : PySem.W.codeIn K cd8 "row_sums" = true)
    (k8 : PySem.W.keepIn K (.ref f8) = true)
    (a9 : PySem.W.nsIn K mainGlobals "offsets_of" = some (some (.ref f9)))
    (l9 : K.lookup f9 = some ⟨oc9, od9, .func (PySem.W.fnOf "offsets_of" "offsets_of" (defArgs s_offsets_of) (defBody s_offsets_of) (defScope s_offsets_of) .none kV9 dc9 pm9 an9 cd9 ct9), sl9⟩)
    (c9 : PySem.W.codeIn K cd9 "offsets_of" = true)
    (k9 : PySem.W.keepIn K (.ref f9) = true)
    (a10 : PySem.W.nsIn K mainGlobals "total_at" = some (some (.ref f10)))
    (l10 : K.lookup f10 = some ⟨oc10, od10, .func (PySem.W.fnOf "total_at" "total_at" (defArgs s_total_at) (defBody s_total_at) (defScope s_total_at) .none kV10 dc10 pm10 an10 cd10 ct10), sl10⟩)
    (c10 : PySem.W.codeIn K cd10 "total_at" = true)
    (k10 : PySem.W.keepIn K (.ref f10) = true)
    (a11 : PySem.W.nsIn K mainGlobals "least_way" = some (some (.ref f11)))
    (l11 : K.lookup f11 = some ⟨oc11, od11, .func (PySem.W.fnOf "least_way" "least_way" (defArgs s_least_way) (defBody s_least_way) (defScope s_least_way) .none kV11 dc11 pm11 an11 cd11 ct11), sl11⟩)
    (c11 : PySem.W.codeIn K cd11 "least_way" = true)
    (k11 : PySem.W.keepIn K (.ref f11) = true)
    (a12 : PySem.W.nsIn K mainGlobals "greatest_way" = some (some (.ref f12)))
    (l12 : K.lookup f12 = some ⟨oc12, od12, .func (PySem.W.fnOf "greatest_way" "greatest_way" (defArgs s_greatest_way) (defBody s_greatest_way) (defScope s_greatest_way) .none kV12 dc12 pm12 an12 cd12 ct12), sl12⟩)
    (c12 : PySem.W.codeIn K cd12 "greatest_way" = true)
    (k12 : PySem.W.keepIn K (.ref f12) = true)
    (a13 : PySem.W.nsIn K mainGlobals "check_told" = some (some (.ref f13)))
    (l13 : K.lookup f13 = some ⟨oc13, od13, .func (PySem.W.fnOf "check_told" "check_told" (defArgs s_check_told) (defBody s_check_told) (defScope s_check_told) .none kV13 dc13 pm13 an13 cd13 ct13), sl13⟩)
    (c13 : PySem.W.codeIn K cd13 "check_told" = true)
    (k13 : PySem.W.keepIn K (.ref f13) = true)
    (a14 : PySem.W.nsIn K mainGlobals "need_way" = some (some (.ref f14)))
    (l14 : K.lookup f14 = some ⟨oc14, od14, .func (PySem.W.fnOf "need_way" "need_way" (defArgs s_need_way) (defBody s_need_way) (defScope s_need_way) .none kV14 dc14 pm14 an14 cd14 ct14), sl14⟩)
    (c14 : PySem.W.codeIn K cd14 "need_way" = true)
    (k14 : PySem.W.keepIn K (.ref f14) = true)
    (a15 : PySem.W.nsIn K mainGlobals "find_conflict" = some (some (.ref f15)))
    (l15 : K.lookup f15 = some ⟨oc15, od15, .func (PySem.W.fnOf "find_conflict" "find_conflict" (defArgs s_find_conflict) (defBody s_find_conflict) (defScope s_find_conflict) .none kV15 dc15 pm15 an15 cd15 ct15), sl15⟩)
    (c15 : PySem.W.codeIn K cd15 "find_conflict" = true)
    (k15 : PySem.W.keepIn K (.ref f15) = true)
    (a16 : PySem.W.nsIn K mainGlobals "first_apart" = some (some (.ref f16)))
    (l16 : K.lookup f16 = some ⟨oc16, od16, .func (PySem.W.fnOf "first_apart" "first_apart" (defArgs s_first_apart) (defBody s_first_apart) (defScope s_first_apart) .none kV16 dc16 pm16 an16 cd16 ct16), sl16⟩)
    (c16 : PySem.W.codeIn K cd16 "first_apart" = true)
    (k16 : PySem.W.keepIn K (.ref f16) = true)
    (a17 : PySem.W.nsIn K mainGlobals "lowest_days" = some (some (.ref f17)))
    (l17 : K.lookup f17 = some ⟨oc17, od17, .func (PySem.W.fnOf "lowest_days" "lowest_days" (defArgs s_lowest_days) (defBody s_lowest_days) (defScope s_lowest_days) .none kV17 dc17 pm17 an17 cd17 ct17), sl17⟩)
    (c17 : PySem.W.codeIn K cd17 "lowest_days" = true)
    (k17 : PySem.W.keepIn K (.ref f17) = true)
    (a18 : PySem.W.nsIn K mainGlobals "highest_days" = some (some (.ref f18)))
    (l18 : K.lookup f18 = some ⟨oc18, od18, .func (PySem.W.fnOf "highest_days" "highest_days" (defArgs s_highest_days) (defBody s_highest_days) (defScope s_highest_days) .none kV18 dc18 pm18 an18 cd18 ct18), sl18⟩)
    (c18 : PySem.W.codeIn K cd18 "highest_days" = true)
    (k18 : PySem.W.keepIn K (.ref f18) = true)
    (a19 : PySem.W.nsIn K mainGlobals "first_way" = some (some (.ref f19)))
    (l19 : K.lookup f19 = some ⟨oc19, od19, .func (PySem.W.fnOf "first_way" "first_way" (defArgs s_first_way) (defBody s_first_way) (defScope s_first_way) .none kV19 dc19 pm19 an19 cd19 ct19), sl19⟩)
    (c19 : PySem.W.codeIn K cd19 "first_way" = true)
    (k19 : PySem.W.keepIn K (.ref f19) = true)
    (a20 : PySem.W.nsIn K mainGlobals "start_ranges" = some (some (.ref f20)))
    (l20 : K.lookup f20 = some ⟨oc20, od20, .func (PySem.W.fnOf "start_ranges" "start_ranges" (defArgs s_start_ranges) (defBody s_start_ranges) (defScope s_start_ranges) .none kV20 dc20 pm20 an20 cd20 ct20), sl20⟩)
    (c20 : PySem.W.codeIn K cd20 "start_ranges" = true)
    (k20 : PySem.W.keepIn K (.ref f20) = true)
    (a21 : PySem.W.nsIn K mainGlobals "least_starts" = some (some (.ref f21)))
    (l21 : K.lookup f21 = some ⟨oc21, od21, .func (PySem.W.fnOf "least_starts" "least_starts" (defArgs s_least_starts) (defBody s_least_starts) (defScope s_least_starts) .none kV21 dc21 pm21 an21 cd21 ct21), sl21⟩)
    (c21 : PySem.W.codeIn K cd21 "least_starts" = true)
    (k21 : PySem.W.keepIn K (.ref f21) = true)
    (a22 : PySem.W.nsIn K mainGlobals "way_from" = some (some (.ref f22)))
    (l22 : K.lookup f22 = some ⟨oc22, od22, .func (PySem.W.fnOf "way_from" "way_from" (defArgs s_way_from) (defBody s_way_from) (defScope s_way_from) .none kV22 dc22 pm22 an22 cd22 ct22), sl22⟩)
    (c22 : PySem.W.codeIn K cd22 "way_from" = true)
    (k22 : PySem.W.keepIn K (.ref f22) = true)
    (a23 : PySem.W.nsIn K mainGlobals "_law_jar" = some (some (.ref f23)))
    (l23 : K.lookup f23 = some ⟨oc23, od23, .func (PySem.W.fnOf "_law_jar" "_law_jar" (defArgs s__law_jar) (defBody s__law_jar) (defScope s__law_jar) .none kV23 dc23 pm23 an23 cd23 ct23), sl23⟩)
    (c23 : PySem.W.codeIn K cd23 "_law_jar" = true)
    (k23 : PySem.W.keepIn K (.ref f23) = true)
    (a24 : PySem.W.nsIn K mainGlobals "_law_dip" = some (some (.ref f24)))
    (l24 : K.lookup f24 = some ⟨oc24, od24, .func (PySem.W.fnOf "_law_dip" "_law_dip" (defArgs s__law_dip) (defBody s__law_dip) (defScope s__law_dip) .none kV24 dc24 pm24 an24 cd24 ct24), sl24⟩)
    (c24 : PySem.W.codeIn K cd24 "_law_dip" = true)
    (k24 : PySem.W.keepIn K (.ref f24) = true)
    (a25 : PySem.W.nsIn K mainGlobals "_law_sums" = some (some (.ref f25)))
    (l25 : K.lookup f25 = some ⟨oc25, od25, .func (PySem.W.fnOf "_law_sums" "_law_sums" (defArgs s__law_sums) (defBody s__law_sums) (defScope s__law_sums) .none kV25 dc25 pm25 an25 cd25 ct25), sl25⟩)
    (c25 : PySem.W.codeIn K cd25 "_law_sums" = true)
    (k25 : PySem.W.keepIn K (.ref f25) = true)
    (a26 : PySem.W.nsIn K mainGlobals "_law_days" = some (some (.ref f26)))
    (l26 : K.lookup f26 = some ⟨oc26, od26, .func (PySem.W.fnOf "_law_days" "_law_days" (defArgs s__law_days) (defBody s__law_days) (defScope s__law_days) .none kV26 dc26 pm26 an26 cd26 ct26), sl26⟩)
    (c26 : PySem.W.codeIn K cd26 "_law_days" = true)
    (k26 : PySem.W.keepIn K (.ref f26) = true)
    (a27 : PySem.W.nsIn K mainGlobals "_law_top" = some (some (.ref f27)))
    (l27 : K.lookup f27 = some ⟨oc27, od27, .func (PySem.W.fnOf "_law_top" "_law_top" (defArgs s__law_top) (defBody s__law_top) (defScope s__law_top) .none kV27 dc27 pm27 an27 cd27 ct27), sl27⟩)
    (c27 : PySem.W.codeIn K cd27 "_law_top" = true)
    (k27 : PySem.W.keepIn K (.ref f27) = true)
    (a28 : PySem.W.nsIn K mainGlobals "_law_high" = some (some (.ref f28)))
    (l28 : K.lookup f28 = some ⟨oc28, od28, .func (PySem.W.fnOf "_law_high" "_law_high" (defArgs s__law_high) (defBody s__law_high) (defScope s__law_high) .none kV28 dc28 pm28 an28 cd28 ct28), sl28⟩)
    (c28 : PySem.W.codeIn K cd28 "_law_high" = true)
    (k28 : PySem.W.keepIn K (.ref f28) = true)
    (a29 : PySem.W.nsIn K mainGlobals "_law_size" = some (some (.ref f29)))
    (l29 : K.lookup f29 = some ⟨oc29, od29, .func (PySem.W.fnOf "_law_size" "_law_size" (defArgs s__law_size) (defBody s__law_size) (defScope s__law_size) .none kV29 dc29 pm29 an29 cd29 ct29), sl29⟩)
    (c29 : PySem.W.codeIn K cd29 "_law_size" = true)
    (k29 : PySem.W.keepIn K (.ref f29) = true)
    (a30 : PySem.W.nsIn K mainGlobals "_law_all" = some (some (.ref f30)))
    (l30 : K.lookup f30 = some ⟨oc30, od30, .func (PySem.W.fnOf "_law_all" "_law_all" (defArgs s__law_all) (defBody s__law_all) (defScope s__law_all) .none kV30 dc30 pm30 an30 cd30 ct30), sl30⟩)
    (c30 : PySem.W.codeIn K cd30 "_law_all" = true)
    (k30 : PySem.W.keepIn K (.ref f30) = true)
    (a31 : PySem.W.nsIn K mainGlobals "_law_small" = some (some (.ref f31)))
    (l31 : K.lookup f31 = some ⟨oc31, od31, .func (PySem.W.fnOf "_law_small" "_law_small" (defArgs s__law_small) (defBody s__law_small) (defScope s__law_small) .none kV31 dc31 pm31 an31 cd31 ct31), sl31⟩)
    (c31 : PySem.W.codeIn K cd31 "_law_small" = true)
    (k31 : PySem.W.keepIn K (.ref f31) = true)
    (a32 : PySem.W.nsIn K mainGlobals "_law_gaps" = some (some (.ref f32)))
    (l32 : K.lookup f32 = some ⟨oc32, od32, .func (PySem.W.fnOf "_law_gaps" "_law_gaps" (defArgs s__law_gaps) (defBody s__law_gaps) (defScope s__law_gaps) .none kV32 dc32 pm32 an32 cd32 ct32), sl32⟩)
    (c32 : PySem.W.codeIn K cd32 "_law_gaps" = true)
    (k32 : PySem.W.keepIn K (.ref f32) = true)
    (a33 : PySem.W.nsIn K mainGlobals "_law_box" = some (some (.ref f33)))
    (l33 : K.lookup f33 = some ⟨oc33, od33, .func (PySem.W.fnOf "_law_box" "_law_box" (defArgs s__law_box) (defBody s__law_box) (defScope s__law_box) .none kV33 dc33 pm33 an33 cd33 ct33), sl33⟩)
    (c33 : PySem.W.codeIn K cd33 "_law_box" = true)
    (k33 : PySem.W.keepIn K (.ref f33) = true)
    (a34 : PySem.W.nsIn K mainGlobals "_law_fits" = some (some (.ref f34)))
    (l34 : K.lookup f34 = some ⟨oc34, od34, .func (PySem.W.fnOf "_law_fits" "_law_fits" (defArgs s__law_fits) (defBody s__law_fits) (defScope s__law_fits) .none kV34 dc34 pm34 an34 cd34 ct34), sl34⟩)
    (c34 : PySem.W.codeIn K cd34 "_law_fits" = true)
    (k34 : PySem.W.keepIn K (.ref f34) = true)
    (a35 : PySem.W.nsIn K mainGlobals "_law_end_right" = some (some (.ref f35)))
    (l35 : K.lookup f35 = some ⟨oc35, od35, .func (PySem.W.fnOf "_law_end_right" "_law_end_right" (defArgs s__law_end_right) (defBody s__law_end_right) (defScope s__law_end_right) .none kV35 dc35 pm35 an35 cd35 ct35), sl35⟩)
    (c35 : PySem.W.codeIn K cd35 "_law_end_right" = true)
    (k35 : PySem.W.keepIn K (.ref f35) = true)
    (a36 : PySem.W.nsIn K mainGlobals "_law_right" = some (some (.ref f36)))
    (l36 : K.lookup f36 = some ⟨oc36, od36, .func (PySem.W.fnOf "_law_right" "_law_right" (defArgs s__law_right) (defBody s__law_right) (defScope s__law_right) .none kV36 dc36 pm36 an36 cd36 ct36), sl36⟩)
    (c36 : PySem.W.codeIn K cd36 "_law_right" = true)
    (k36 : PySem.W.keepIn K (.ref f36) = true)
    (a37 : PySem.W.nsIn K mainGlobals "law" = some (some (.ref f37)))
    (l37 : K.lookup f37 = some ⟨oc37, od37, .func (PySem.W.fnOf "law" "law" (defArgs s_law) (defBody s_law) (defScope s_law) .none kV37 dc37 pm37 an37 cd37 ct37), sl37⟩)
    (c37 : PySem.W.codeIn K cd37 "law" = true)
    (k37 : PySem.W.keepIn K (.ref f37) = true)
    (z_abs : PySem.W.nsIn K mainGlobals "abs" = some none)
    (z_all : PySem.W.nsIn K mainGlobals "all" = some none)
    (z_bool : PySem.W.nsIn K mainGlobals "bool" = some none)
    (z_enumerate : PySem.W.nsIn K mainGlobals "enumerate" = some none)
    (z_int : PySem.W.nsIn K mainGlobals "int" = some none)
    (z_isinstance : PySem.W.nsIn K mainGlobals "isinstance" = some none)
    (z_len : PySem.W.nsIn K mainGlobals "len" = some none)
    (z_list : PySem.W.nsIn K mainGlobals "list" = some none)
    (z_max : PySem.W.nsIn K mainGlobals "max" = some none)
    (z_min : PySem.W.nsIn K mainGlobals "min" = some none)
    (z_range : PySem.W.nsIn K mainGlobals "range" = some none)
    (z_repr : PySem.W.nsIn K mainGlobals "repr" = some none)
    (z_sorted : PySem.W.nsIn K mainGlobals "sorted" = some none)
    (z_sum : PySem.W.nsIn K mainGlobals "sum" = some none)
    (z_type : PySem.W.nsIn K mainGlobals "type" = some none)
    (v_GREATEST_COUNT : PySem.W.nsIn K mainGlobals "GREATEST_COUNT" = some (some (.int 67 u_GREATEST_COUNT)))
    (v_GREATEST_LENGTH : PySem.W.nsIn K mainGlobals "GREATEST_LENGTH" = some (some (.int 8 u_GREATEST_LENGTH)))
    (v_GREATEST_MOST : PySem.W.nsIn K mainGlobals "GREATEST_MOST" = some (some (.int 999999999999999999999999999999 u_GREATEST_MOST))) :
    ∃ fd : FuncData, (∀ (s : Shared) (v : Value), BindsTo s fd ⟨[v], []⟩ [("script", v)]) ∧ ∀ base : Heap, K.In base → base.Ns mainGlobals mg → FnG l.prog w K mg base CX0 9 fa fd ["script"] (spLaw K) := by
  have e := hfa.symm.trans (PySem.W.mg_of X G a37)
  cases e
  have F0 := fun_mk (st := s_is_integer) l0 c0 k0
  have F1 := fun_mk (st := s_is_within) l1 c1 k1
  have F2 := fun_mk (st := s_is_row) l2 c2 k2
  have F3 := fun_mk (st := s_check_numbers) l3 c3 k3
  have F4 := fun_mk (st := s_check_row_of_sums) l4 c4 k4
  have F5 := fun_mk (st := s_check_sums) l5 c5 k5
  have F6 := fun_mk (st := s_check_most) l6 c6 k6
  have F7 := fun_mk (st := s_sums_of) l7 c7 k7
  have F8 := fun_mk (st := s_row_sums) l8 c8 k8
  have F9 := fun_mk (st := s_offsets_of) l9 c9 k9
  have F10 := fun_mk (st := s_total_at) l10 c10 k10
  have F11 := fun_mk (st := s_least_way) l11 c11 k11
  have F12 := fun_mk (st := s_greatest_way) l12 c12 k12
  have F13 := fun_mk (st := s_check_told) l13 c13 k13
  have F14 := fun_mk (st := s_need_way) l14 c14 k14
  have F15 := fun_mk (st := s_find_conflict) l15 c15 k15
  have F16 := fun_mk (st := s_first_apart) l16 c16 k16
  have F17 := fun_mk (st := s_lowest_days) l17 c17 k17
  have F18 := fun_mk (st := s_highest_days) l18 c18 k18
  have F19 := fun_mk (st := s_first_way) l19 c19 k19
  have F20 := fun_mk (st := s_start_ranges) l20 c20 k20
  have F21 := fun_mk (st := s_least_starts) l21 c21 k21
  have F22 := fun_mk (st := s_way_from) l22 c22 k22
  have F23 := fun_mk (st := s__law_jar) l23 c23 k23
  have F24 := fun_mk (st := s__law_dip) l24 c24 k24
  have F25 := fun_mk (st := s__law_sums) l25 c25 k25
  have F26 := fun_mk (st := s__law_days) l26 c26 k26
  have F27 := fun_mk (st := s__law_top) l27 c27 k27
  have F28 := fun_mk (st := s__law_high) l28 c28 k28
  have F29 := fun_mk (st := s__law_size) l29 c29 k29
  have F30 := fun_mk (st := s__law_all) l30 c30 k30
  have F31 := fun_mk (st := s__law_small) l31 c31 k31
  have F32 := fun_mk (st := s__law_gaps) l32 c32 k32
  have F33 := fun_mk (st := s__law_box) l33 c33 k33
  have F34 := fun_mk (st := s__law_fits) l34 c34 k34
  have F35 := fun_mk (st := s__law_end_right) l35 c35 k35
  have F36 := fun_mk (st := s__law_right) l36 c36 k36
  have F37 := fun_mk (st := s_law) l37 c37 k37
  have T : Top K mg := ⟨_, _, F0, F0.binds (fun _ _ _ _ _ _ us hl => match us, hl with | [_], _ => rfl), PySem.W.mg_of X G a0,
    _, _, F1, F1.binds (fun _ _ _ _ _ _ us hl => match us, hl with | [_, _, _], _ => rfl), PySem.W.mg_of X G a1,
    _, _, F2, F2.binds (fun _ _ _ _ _ _ us hl => match us, hl with | [_, _], _ => rfl), PySem.W.mg_of X G a2,
    _, _, F3, F3.binds (fun _ _ _ _ _ _ us hl => match us, hl with | [_, _], _ => rfl), PySem.W.mg_of X G a3,
    _, _, F4, F4.binds (fun _ _ _ _ _ _ us hl => match us, hl with | [_], _ => rfl), PySem.W.mg_of X G a4,
    _, _, F5, F5.binds (fun _ _ _ _ _ _ us hl => match us, hl with | [_, _], _ => rfl), PySem.W.mg_of X G a5,
    _, _, F6, F6.binds (fun _ _ _ _ _ _ us hl => match us, hl with | [_], _ => rfl), PySem.W.mg_of X G a6,
    _, _, F7, F7.binds (fun _ _ _ _ _ _ us hl => match us, hl with | [_, _], _ => rfl), PySem.W.mg_of X G a7,
    _, _, F8, F8.binds (fun _ _ _ _ _ _ us hl => match us, hl with | [_, _], _ => rfl), PySem.W.mg_of X G a8,
    _, _, F9, F9.binds (fun _ _ _ _ _ _ us hl => match us, hl with | [_, _], _ => rfl), PySem.W.mg_of X G a9,
    _, _, F10, F10.binds (fun _ _ _ _ _ _ us hl => match us, hl with | [_, _, _], _ => rfl), PySem.W.mg_of X G a10,
    _, _, F11, F11.binds (fun _ _ _ _ _ _ us hl => match us, hl with | [_, _, _], _ => rfl), PySem.W.mg_of X G a11,
    _, _, F12, F12.binds (fun _ _ _ _ _ _ us hl => match us, hl with | [_, _, _], _ => rfl), PySem.W.mg_of X G a12,
    _, _, F13, F13.binds (fun _ _ _ _ _ _ us hl => match us, hl with | [_, _, _], _ => rfl), PySem.W.mg_of X G a13,
    _, _, F14, F14.binds (fun _ _ _ _ _ _ us hl => match us, hl with | [_, _, _], _ => rfl), PySem.W.mg_of X G a14,
    _, _, F15, F15.binds (fun _ _ _ _ _ _ us hl => match us, hl with | [_, _, _], _ => rfl), PySem.W.mg_of X G a15,
    _, _, F16, F16.binds (fun _ _ _ _ _ _ us hl => match us, hl with | [_, _, _], _ => rfl), PySem.W.mg_of X G a16,
    _, _, F17, F17.binds (fun _ _ _ _ _ _ us hl => match us, hl with | [_, _], _ => rfl), PySem.W.mg_of X G a17,
    _, _, F18, F18.binds (fun _ _ _ _ _ _ us hl => match us, hl with | [_, _], _ => rfl), PySem.W.mg_of X G a18,
    _, _, F19, F19.binds (fun _ _ _ _ _ _ us hl => match us, hl with | [_, _, _], _ => rfl), PySem.W.mg_of X G a19,
    _, _, F20, F20.binds (fun _ _ _ _ _ _ us hl => match us, hl with | [_, _, _], _ => rfl), PySem.W.mg_of X G a20,
    _, _, F21, F21.binds (fun _ _ _ _ _ _ us hl => match us, hl with | [_, _], _ => rfl), PySem.W.mg_of X G a21,
    _, _, F22, F22.binds (fun _ _ _ _ _ _ us hl => match us, hl with | [_, _], _ => rfl), PySem.W.mg_of X G a22,
    _, _, F23, F23.binds (fun _ _ _ _ _ _ us hl => match us, hl with | [_, _], _ => rfl), PySem.W.mg_of X G a23,
    _, _, F24, F24.binds (fun _ _ _ _ _ _ us hl => match us, hl with | [_, _], _ => rfl), PySem.W.mg_of X G a24,
    _, _, F25, F25.binds (fun _ _ _ _ _ _ us hl => match us, hl with | [_, _], _ => rfl), PySem.W.mg_of X G a25,
    _, _, F26, F26.binds (fun _ _ _ _ _ _ us hl => match us, hl with | [_, _, _], _ => rfl), PySem.W.mg_of X G a26,
    _, _, F27, F27.binds (fun _ _ _ _ _ _ us hl => match us, hl with | [_], _ => rfl), PySem.W.mg_of X G a27,
    _, _, F28, F28.binds (fun _ _ _ _ _ _ us hl => match us, hl with | [_, _], _ => rfl), PySem.W.mg_of X G a28,
    _, _, F29, F29.binds (fun _ _ _ _ _ _ us hl => match us, hl with | [_, _], _ => rfl), PySem.W.mg_of X G a29,
    _, _, F30, F30.binds (fun _ _ _ _ _ _ us hl => match us, hl with | [_, _, _], _ => rfl), PySem.W.mg_of X G a30,
    _, _, F31, F31.binds (fun _ _ _ _ _ _ us hl => match us, hl with | [_], _ => rfl), PySem.W.mg_of X G a31,
    _, _, F32, F32.binds (fun _ _ _ _ _ _ us hl => match us, hl with | [_, _], _ => rfl), PySem.W.mg_of X G a32,
    _, _, F33, F33.binds (fun _ _ _ _ _ _ us hl => match us, hl with | [_, _, _], _ => rfl), PySem.W.mg_of X G a33,
    _, _, F34, F34.binds (fun _ _ _ _ _ _ us hl => match us, hl with | [_, _, _], _ => rfl), PySem.W.mg_of X G a34,
    _, _, F35, F35.binds (fun _ _ _ _ _ _ us hl => match us, hl with | [_, _, _, _, _], _ => rfl), PySem.W.mg_of X G a35,
    _, _, F36, F36.binds (fun _ _ _ _ _ _ us hl => match us, hl with | [_, _, _], _ => rfl), PySem.W.mg_of X G a36,
    _, _, F37, F37.binds (fun _ _ _ _ _ _ us hl => match us, hl with | [_], _ => rfl), PySem.W.mg_of X G a37,
    PySem.W.mg_none_of X G z_abs,
    PySem.W.mg_none_of X G z_all,
    PySem.W.mg_none_of X G z_bool,
    PySem.W.mg_none_of X G z_enumerate,
    PySem.W.mg_none_of X G z_int,
    PySem.W.mg_none_of X G z_isinstance,
    PySem.W.mg_none_of X G z_len,
    PySem.W.mg_none_of X G z_list,
    PySem.W.mg_none_of X G z_max,
    PySem.W.mg_none_of X G z_min,
    PySem.W.mg_none_of X G z_range,
    PySem.W.mg_none_of X G z_repr,
    PySem.W.mg_none_of X G z_sorted,
    PySem.W.mg_none_of X G z_sum,
    PySem.W.mg_none_of X G z_type,
    ⟨_, PySem.W.mg_of X G v_GREATEST_COUNT⟩,
    ⟨_, PySem.W.mg_of X G v_GREATEST_LENGTH⟩,
    ⟨_, PySem.W.mg_of X G v_GREATEST_MOST⟩⟩
  exact ⟨PySem.W.fnOf "law" "law" (defArgs s_law) (defBody s_law) (defScope s_law) .none kV37 dc37 pm37 an37 cd37 ct37, fun s v => .of_eq rfl, fun base _ _ => (ok_law (P := l.prog) (w := w) (base := base) T F37)⟩
end K05
open PySem PySem.W PyProof.Rows in
set_option maxRecDepth 100000 in
set_option maxHeartbeats 0 in
theorem PySem.Challenge.cw_weeksums_k05_least_and_greatest_ways_holds : PySem.Challenge.rw_weeksums_k05_least_and_greatest_ways.Holds := by
  w_on; o_law; k_head; (case hw => w_witness2)
  k_fill
  refine Ws.walkG (l := PySem.Challenge.rw_weeksums_k05_least_and_greatest_ways) (n := 63) (k := 9) (x := "script") (CX := fun _ => L2.CX0) (sp := fun w => K05.spLaw _) rfl (by decide) rfl ⟨rfl, by decide, by decide⟩ (fun w h Y => PySem.W.kIn_of Y) ?F (fun _ _ a ns hl _ hS => ⟨a, ns, rfl, hS, hl, fun _ => rfl⟩) (fun _ _ _ _ _ h => h)
  case F =>
    intro w mg fa h KX G hmg
    refine' K05.all_mk KX G hmg ?a0 ?l0 ?c0 ?k0 ?a1 ?l1 ?c1 ?k1 ?a2 ?l2 ?c2 ?k2 ?a3 ?l3 ?c3 ?k3 ?a4 ?l4 ?c4 ?k4 ?a5 ?l5 ?c5 ?k5 ?a6 ?l6 ?c6 ?k6 ?a7 ?l7 ?c7 ?k7 ?a8 ?l8 ?c8 ?k8 ?a9 ?l9 ?c9 ?k9 ?a10 ?l10 ?c10 ?k10 ?a11 ?l11 ?c11 ?k11 ?a12 ?l12 ?c12 ?k12 ?a13 ?l13 ?c13 ?k13 ?a14 ?l14 ?c14 ?k14 ?a15 ?l15 ?c15 ?k15 ?a16 ?l16 ?c16 ?k16 ?a17 ?l17 ?c17 ?k17 ?a18 ?l18 ?c18 ?k18 ?a19 ?l19 ?c19 ?k19 ?a20 ?l20 ?c20 ?k20 ?a21 ?l21 ?c21 ?k21 ?a22 ?l22 ?c22 ?k22 ?a23 ?l23 ?c23 ?k23 ?a24 ?l24 ?c24 ?k24 ?a25 ?l25 ?c25 ?k25 ?a26 ?l26 ?c26 ?k26 ?a27 ?l27 ?c27 ?k27 ?a28 ?l28 ?c28 ?k28 ?a29 ?l29 ?c29 ?k29 ?a30 ?l30 ?c30 ?k30 ?a31 ?l31 ?c31 ?k31 ?a32 ?l32 ?c32 ?k32 ?a33 ?l33 ?c33 ?k33 ?a34 ?l34 ?c34 ?k34 ?a35 ?l35 ?c35 ?k35 ?a36 ?l36 ?c36 ?k36 ?a37 ?l37 ?c37 ?k37 ?z_abs ?z_all ?z_bool ?z_enumerate ?z_int ?z_isinstance ?z_len ?z_list ?z_max ?z_min ?z_range ?z_repr ?z_sorted ?z_sum ?z_type ?v_GREATEST_COUNT ?v_GREATEST_LENGTH ?v_GREATEST_MOST
    (case a0 => k_is)
    (case l0 => k_is)
    (case c0 => k_is)
    (case k0 => k_is)
    (case a1 => k_is)
    (case l1 => k_is)
    (case c1 => k_is)
    (case k1 => k_is)
    (case a2 => k_is)
    (case l2 => k_is)
    (case c2 => k_is)
    (case k2 => k_is)
    (case a3 => k_is)
    (case l3 => k_is)
    (case c3 => k_is)
    (case k3 => k_is)
    (case a4 => k_is)
    (case l4 => k_is)
    (case c4 => k_is)
    (case k4 => k_is)
    (case a5 => k_is)
    (case l5 => k_is)
    (case c5 => k_is)
    (case k5 => k_is)
    (case a6 => k_is)
    (case l6 => k_is)
    (case c6 => k_is)
    (case k6 => k_is)
    (case a7 => k_is)
    (case l7 => k_is)
    (case c7 => k_is)
    (case k7 => k_is)
    (case a8 => k_is)
    (case l8 => k_is)
    (case c8 => k_is)
    (case k8 => k_is)
    (case a9 => k_is)
    (case l9 => k_is)
    (case c9 => k_is)
    (case k9 => k_is)
    (case a10 => k_is)
    (case l10 => k_is)
    (case c10 => k_is)
    (case k10 => k_is)
    (case a11 => k_is)
    (case l11 => k_is)
    (case c11 => k_is)
    (case k11 => k_is)
    (case a12 => k_is)
    (case l12 => k_is)
    (case c12 => k_is)
    (case k12 => k_is)
    (case a13 => k_is)
    (case l13 => k_is)
    (case c13 => k_is)
    (case k13 => k_is)
    (case a14 => k_is)
    (case l14 => k_is)
    (case c14 => k_is)
    (case k14 => k_is)
    (case a15 => k_is)
    (case l15 => k_is)
    (case c15 => k_is)
    (case k15 => k_is)
    (case a16 => k_is)
    (case l16 => k_is)
    (case c16 => k_is)
    (case k16 => k_is)
    (case a17 => k_is)
    (case l17 => k_is)
    (case c17 => k_is)
    (case k17 => k_is)
    (case a18 => k_is)
    (case l18 => k_is)
    (case c18 => k_is)
    (case k18 => k_is)
    (case a19 => k_is)
    (case l19 => k_is)
    (case c19 => k_is)
    (case k19 => k_is)
    (case a20 => k_is)
    (case l20 => k_is)
    (case c20 => k_is)
    (case k20 => k_is)
    (case a21 => k_is)
    (case l21 => k_is)
    (case c21 => k_is)
    (case k21 => k_is)
    (case a22 => k_is)
    (case l22 => k_is)
    (case c22 => k_is)
    (case k22 => k_is)
    (case a23 => k_is)
    (case l23 => k_is)
    (case c23 => k_is)
    (case k23 => k_is)
    (case a24 => k_is)
    (case l24 => k_is)
    (case c24 => k_is)
    (case k24 => k_is)
    (case a25 => k_is)
    (case l25 => k_is)
    (case c25 => k_is)
    (case k25 => k_is)
    (case a26 => k_is)
    (case l26 => k_is)
    (case c26 => k_is)
    (case k26 => k_is)
    (case a27 => k_is)
    (case l27 => k_is)
    (case c27 => k_is)
    (case k27 => k_is)
    (case a28 => k_is)
    (case l28 => k_is)
    (case c28 => k_is)
    (case k28 => k_is)
    (case a29 => k_is)
    (case l29 => k_is)
    (case c29 => k_is)
    (case k29 => k_is)
    (case a30 => k_is)
    (case l30 => k_is)
    (case c30 => k_is)
    (case k30 => k_is)
    (case a31 => k_is)
    (case l31 => k_is)
    (case c31 => k_is)
    (case k31 => k_is)
    (case a32 => k_is)
    (case l32 => k_is)
    (case c32 => k_is)
    (case k32 => k_is)
    (case a33 => k_is)
    (case l33 => k_is)
    (case c33 => k_is)
    (case k33 => k_is)
    (case a34 => k_is)
    (case l34 => k_is)
    (case c34 => k_is)
    (case k34 => k_is)
    (case a35 => k_is)
    (case l35 => k_is)
    (case c35 => k_is)
    (case k35 => k_is)
    (case a36 => k_is)
    (case l36 => k_is)
    (case c36 => k_is)
    (case k36 => k_is)
    (case a37 => k_is)
    (case l37 => k_is)
    (case c37 => k_is)
    (case k37 => k_is)
    (case z_abs => k_is)
    (case z_all => k_is)
    (case z_bool => k_is)
    (case z_enumerate => k_is)
    (case z_int => k_is)
    (case z_isinstance => k_is)
    (case z_len => k_is)
    (case z_list => k_is)
    (case z_max => k_is)
    (case z_min => k_is)
    (case z_range => k_is)
    (case z_repr => k_is)
    (case z_sorted => k_is)
    (case z_sum => k_is)
    (case z_type => k_is)
    (case v_GREATEST_COUNT => k_is)
    (case v_GREATEST_LENGTH => k_is)
    (case v_GREATEST_MOST => k_is)

import PyProof.Rows.All
import Wide.All
import OpenK.AllK
import Wide.FinOn
import HandS.ForMost
import HandS.Wide
import HandS.RaiseMore
import PyProof.ReprRoads
import HandS.Ends
import HandS.Conv
import HandS.IsInst
import HandS.SortInts
import HandS.Evl
import HandS.More
import HandS.Remove
import HandS.ExcValue
import HandS.TupLe
import HandS.Iter
import HandS.Style
import KE.DataMinMax
import KE.SortData
import PyProof.Claim2Refuses
import HandS.SortKw
import HandS.SortRule
import HandS.Gcd
import HandS.Deep
import KE.KDictZip
import KE.KMathGC
import HandS.Zip
import HandS.Dict
import HandS.DictTup
import HandS.DictComp
import HandS.Exc
import HandS.ExcInit
import HandS.ExcOwn
import HandS.ExcField
import HandS.TryMany
import HandS.TryOnly
import HandS.SuiteRaise
import HandS.Strs
import HandS.StrMore
import HandS.StrSplit
import HandS.Sort
import HandS.Keys
import HandS.SortOrd
import PySem.Challenge.RW_weeksums_k04_ways_judged
set_option Elab.async false
set_option linter.all false
set_option maxRecDepth 100000
set_option maxHeartbeats 4000000
namespace Ws
open PySem PySem.Spec PyProof.Rows L2
/-! ### great powers -/
/-- a power of an int of less than a million bits, the exponent up to 60 -/
def PowOk (i j : Int) : Prop := 0 ≤ j ∧ j ≤ 60 ∧ i.natAbs.log2 < 2000000
theorem bits_le (i : Int) : Builtin.Int.intBits i ≤ i.natAbs.log2 + 1 := by
  unfold Builtin.Int.intBits
  split <;> omega
theorem op_powG {X : Cx} : OpR X (binaryOp .Pow) (rI PowOk fun i j => .int (i ^ j.toNat)) :=
  opI fun i j t u s Q E hc q => by
    obtain ⟨h0, h1, h2⟩ := hc
    refine PyProof.Rows.pow_int h0 ?_ q
    have hb := bits_le i
    have h3 : (Builtin.Int.intBits i : Int) ≤ 2000000 := by omega
    have h4 : (Builtin.Int.intBits i : Int) * j ≤ 2000000 * 60 :=
      Int.le_trans (Int.mul_le_mul_of_nonneg_right h3 h0) (Int.mul_le_mul_of_nonneg_left h1 (by decide))
    exact Int.le_trans h4 (by decide)
end Ws

set_option Elab.async false
set_option linter.all false
set_option maxRecDepth 100000
set_option maxHeartbeats 4000000
namespace Ws
open PySem PySem.Spec PyProof.Rows L2
/-! ### contracts of defs that hold where no printing of a list is under way -/
structure FnG (P : Program) (w : World) (K : PySem.W.Frag) (mg : Str → Option Value) (base : Heap)
    (CX : CXT) (k : Nat) (f : Addr) (fd : FuncData) (ps : List Str) (sp : Sp) : Prop where
  cnt : ∀ vs H Q E, sp vs H Q E → vs.length = ps.length
  go : ∀ (A : Around) (out : List Env) (s : Shared) (H : Hp) (ar : Args) (us : List Value) (vs : List V) (Q : VK) (E : XK),
    Room k A → A.guards = some [] → Env0 P w K mg base A out s H → BindsTo s fd ar (ps.zip us) → Vals vs us →
    sp vs H Q E → codeAny (model P w) A (.call (.ref f) ar) (CR CX out P w H s Q E) s
section
variable {P : Program} {w : World} {K : PySem.W.Frag} {mg : Str → Option Value} {base : Heap} {CX : CXT}
  {k : Nat} {f : Addr} {fd : FuncData} {ps : List Str} {sp : Sp}
theorem FnG.of (F : FnOk P w K mg base CX k f fd ps sp) : FnG P w K mg base CX k f fd ps sp :=
  ⟨F.len, fun A out s H ar us vs Q E hr _ he hb hv hs => F.run A out s H ar us vs Q E hr he hb hv hs⟩
theorem FnG.up {j : Nat} (F : FnG P w K mg base CX j f fd ps sp) (h : j ≤ k) : FnG P w K mg base CX k f fd ps sp :=
  ⟨F.cnt, fun A out s H ar us vs Q E hr => F.go A out s H ar us vs Q E (hr.mono h)⟩
/-- a def of the text by its body, the guards told -/
theorem fnG_of {nm qual : Str} {params : Arguments} {body : List Stmt} {scope : Scope} {dV kV doc pm cdv ct oc : Value}
    {an od : Option Addr} {osl : Array (Option Value)} {N : List Str}
    (lk : K.lookup f = some ⟨oc, od, .func (PySem.W.fnOf nm qual params body scope dV kV doc pm an cdv ct), osl⟩)
    (hcd : PySem.W.codeIn K cdv qual = true) (S : FnScope N ps scope)
    (cnt : ∀ vs H Q E, sp vs H Q E → vs.length = ps.length)
    (hbody : ∀ (A : Around) (out : List Env) (s : Shared) (H : Hp) (vs : List V) (Q : VK) (E : XK),
      Room k (A.deeper (envOfC qual scope s.heap.objs.size f cdv)) → A.guards = some [] → sp vs H Q E →
      ∃ t, PSs (cxOf CX P w K mg base N qual scope f cdv A out s H E) body t ∧
        t { nx := fun _ H' => Q .non H', rt := Q } (start N vs) H) :
    FnG P w K mg base CX (k + 1) f (PySem.W.fnOf nm qual params body scope dV kV doc pm an cdv ct) ps sp := by
  refine ⟨cnt, ?_⟩
  intro A out s H ar us vs Q E hr hg e0 hb hv hsp
  have n1 : vs.length = ps.length := cnt _ _ _ _ hsp
  have inK : K.In s.heap := e0.mod.kin.keeps fun b o q => (e0.bs b o q).1
  have free : s.heap.NoLimit := e0.mod.nolimit.keeps fun b o q => (e0.bs b o q).1
  have kinds : ∀ y ∈ ps.zip us, scope.names.lookup y.1 = some .local ∨
      (scope.names.lookup y.1 = some .cell ∧
        ((cellsFrom (s.heap.objs.size + 1) scope.names []).lookup y.1).isSome = true) := by
    rintro ⟨n, v⟩ hy
    have hm : n ∈ ps := (List.of_mem_zip hy).1
    cases S.par n hm with
    | inl q => exact Or.inl q
    | inr q => exact Or.inr ⟨q, PySem.W.cellsFrom_some _ _ _ (Or.inl q)⟩
  have rcd : s.heap.CodeRec cdv qual := PySem.W.codeRec_of inK hcd
  refine codeAny_call_function hr.depth (inK _ _ lk) rfl S.co S.gen rfl rcd ?_
  refine hb _ _ _ _ (wpAny_newFunctionEnv_cells S.kind kinds ?_)
  intro env ee s1 x
  subst ee
  refine ⟨free.keeps x.toInCall.keep, codeAny_func ?_⟩
  obtain ⟨t, ht, hq⟩ := hbody A out s H vs Q E (hr.deeper _) hg hsp
  have I := inv_start (CX := CX) (P := P) (E := E) (cd := cdv) (f := f) S hr.hd e0 n1 hv x
  have r1 := ht.run [] s1 (start N vs) H _ I hq
  refine wpAny_mono r1 ?_ (fun e s' hs => hs)
  intro fl s' hs
  cases fl with
  | brk =>
    obtain ⟨_, _, _, q⟩ := hs
    exact q.elim
  | cont =>
    obtain ⟨_, _, _, q⟩ := hs
    exact q.elim
  | next =>
    obtain ⟨σ', H', J, q⟩ := hs
    exact ⟨.non, H', J.os, J.bare, J.base, J.hok, rfl, q⟩
  | ret u =>
    obtain ⟨v, σ', H', J, rv, q⟩ := hs
    exact ⟨v, H', J.os, J.bare, J.base, J.hok, rv, q⟩
end
section
variable {P : Program} {w : World} {K : PySem.W.Frag} {mg : Str → Option Value} {base : Heap}
/-- THE RULE for a def of the text, where nothing leaves it -/
theorem okG {x qual : Str} {st : Stmt} {f : Addr} {fd : FuncData} {N ps : List Str} {k : Nat} {sp : Sp}
    (F : L2.Fun K x qual st f fd) (S : FnScope N ps (defScope st))
    (cnt : ∀ vs H Q E, sp vs H Q E → vs.length = ps.length)
    (hbody : ∀ (cdv : Value) (A : Around) (out : List Env) (s : Shared) (H : Hp) (vs : List V) (Q : VK) (E : XK),
      Room k (A.deeper (envOfC qual (defScope st) s.heap.objs.size f cdv)) → A.guards = some [] → sp vs H Q E →
      ∃ t, PSs (cxOf CX0 P w K mg base N qual (defScope st) f cdv A out s H E).nox (defBody st) t ∧
        t { nx := fun _ H' => Q .non H', rt := Q } (start N vs) H) :
    FnG P w K mg base CX0 (k + 1) f fd ps sp := by
  obtain ⟨oc, od, kV, doc, pm, an, cdv, ct, osl, rfl, lk, hcd⟩ := F.ex
  refine fnG_of lk hcd S cnt ?_
  intro A out s H vs Q E hr hg hsp
  obtain ⟨t, h, q⟩ := hbody cdv A out s H vs Q E hr hg hsp
  exact ⟨t, PSs.nox h, q⟩
end
section
variable {X : Cx} {CX : CXT} {k : Nat} {f : Addr} {fd : FuncData} {ps ks : List Str} {sp : Sp} {E : XK} {x : Str}
  {p pos : Pos} {e : Expr} {es : List Expr} {kws : List Keyword} {t tk : TA}
/-- a call of such a def, as it is bound -/
theorem callG {pins : List (Addr × Obj)} {σ : L2.St} {H : Hp} {s : Shared} {Q : VK} {us ws : List Value} {vs : List V} {kw : List (Str × Value)}
    (F : FnG X.prog X.w X.K X.mg X.base CX k f fd ps sp) (hr : Room k X.A) (hg : X.A.guards = some []) (hx : Passes CX X E)
    (I : Inv X pins σ H s) (hb : ws.length = ps.length → BindsTo s fd ⟨us, kw⟩ (ps.zip ws)) (r : Vals vs ws) (h : sp vs H Q E) :
    wpAny (model X.prog X.w) X.A (call (.ref f) us kw) (EP X pins σ Q) X.xe s := by
  have n1 : ws.length = ps.length := by
    have n2 := F.cnt _ _ _ _ h
    have n3 := r.length
    omega
  have c := F.go X.A X.stack s H ⟨us, kw⟩ ws vs Q E hr hg I.env0 (hb n1) r h
  refine wpAny_call (codeAny_mono c ?_)
  intro res s' hq
  cases res with
  | error ex => exact hx pins σ H s ex s' I hq
  | ok fl =>
    cases fl with
    | ret u => exact Inv.after I hq
    | next => exact hq.elim
    | brk => exact hq.elim
    | cont => exact hq.elim
theorem pe_callGd (F : FnG X.prog X.w X.K X.mg X.base CX k f fd ps sp) (hr : Room k X.A) (gu : X.A.guards = some [])
    (hg : Gl X x) (hm : X.mg x = some (.ref f)) (hk : PySem.W.keepIn X.K (.ref f) = true) (hb : Binds X.K fd ps [])
    (hx : Passes CX X E) (ha : PA X (e :: es) t) (hdb : (x == ("__debug__" : Str)) = false := by decide)
    (he : starEach (e :: es) X.env = (false, eval e X.env) :: starEach es X.env := by rfl)
    (hpl : (backTo pos (starEach es X.env)).any (·.1) = false := by rfl) :
    PE X (.Call (.Name x p) (e :: es) [] pos) (tCall sp [] E t) := by
  constructor
  intro pins s σ H Q I h
  refine wpAny_Call_Name_kw (ld_glob I hg hm ?_ hdb)
  refine PySem.W.callWith_K (h₀ := X.base) I.ok.mod.kin hk ?_ he hpl
  refine thn (ha.run pos pins s σ H _ I h) ?_
  intro us s1 hh
  obtain ⟨vs, H1, I1, r, q⟩ := hh
  refine ⟨I1.kIn, ?_⟩
  have q' : sp vs H1 Q E := by
    have z : vs ++ ([] : List V) = vs := List.append_nil vs
    rw [← z]
    exact q
  refine callG F hr gu hx I1 (fun n => ?_) r q'
  have hb1 := hb s1 us I1.kIn (by rw [List.append_nil]; exact n)
  rw [List.append_nil] at hb1
  exact hb1
end
section
variable {X : Cx} {CX : CXT} {k : Nat} {f : Addr} {fd : FuncData} {ps ks : List Str} {sp : Sp} {E : XK} {x : Str}
  {p pos : Pos} {kws : List Keyword} {tk : TA} {g : List Value → List Value → List Value} {gV : List V → List V → List V}
/-- f(a = .., b = ..): keywords alone -/
theorem pe_callKW (F : FnOk X.prog X.w X.K X.mg X.base CX k f fd ps sp) (hr : Room k X.A) (hg : Gl X x)
    (hm : X.mg x = some (.ref f)) (hk : PySem.W.keepIn X.K (.ref f) = true) (hb : KBinds X.K fd ps ks g gV) (hx : Passes CX X E)
    (hkw : PK X kws tk) (hall : (backToKw pos (keywordEach kws X.env)).all (·.1.isSome) = true := by rfl)
    (hks : (backToKw pos (keywordEach kws X.env)).filterMap (·.1) = ks := by rfl)
    (hdb : (x == ("__debug__" : Str)) = false := by decide)
    (hpl : ((backTo pos (starEach [] X.env)).any (·.1) || (backToKw pos (keywordEach kws X.env)).any (·.1.isNone)) = false := by rfl) :
    PE X (.Call (.Name x p) [] kws pos) (tCallK sp gV E tNil tk) := by
  constructor
  intro pins s σ H Q I h
  refine wpAny_Call_Name_kw (ld_glob I hg hm ?_ hdb)
  refine PySem.W.callWith_KW0 (h₀ := X.base) I.ok.mod.kin hk hall ?_ hpl
  refine thn (hkw.run pos pins s σ H _ I h) ?_
  intro ws s1 hh
  obtain ⟨zs, H1, I1, rz, q⟩ := hh
  refine ⟨I1.kIn, ?_⟩
  rw [hks]
  exact run_fnk (us := []) F hr hb hx I1 .nil rz q
end
end Ws

set_option Elab.async false
set_option linter.all false
set_option maxRecDepth 100000
set_option maxHeartbeats 4000000
namespace Ws
open PySem PySem.Spec PyProof.Rows L2
/-! ### what a caller has of a def -/
structure DefOk (P : Program) (w : World) (K : PySem.W.Frag) (mg : Str → Option Value) (base : Heap) (CX : CXT) (k : Nat)
    (x : Str) (f : Addr) (fd : FuncData) (ps : List Str) (sp : Sp) : Prop where
  ok : FnOk P w K mg base CX k f fd ps sp
  g : mg x = some (.ref f)
  kp : PySem.W.keepIn K (.ref f) = true
  b : Binds K fd ps []
structure DefG (P : Program) (w : World) (K : PySem.W.Frag) (mg : Str → Option Value) (base : Heap) (CX : CXT) (k : Nat)
    (x : Str) (f : Addr) (fd : FuncData) (ps : List Str) (sp : Sp) : Prop where
  ok : FnG P w K mg base CX k f fd ps sp
  g : mg x = some (.ref f)
  kp : PySem.W.keepIn K (.ref f) = true
  b : Binds K fd ps []
section
variable {X : Cx} {k j : Nat} {f : Addr} {fd : FuncData} {ps ks : List Str} {sp : Sp} {x : Str}
  {p pos : Pos} {e : Expr} {es : List Expr} {kws : List Keyword} {t tk : TA}
theorem pc (D : DefOk X.prog X.w X.K X.mg X.base CX0 k x f fd ps sp) (hr : Room j X.A) (ha : PA X (e :: es) t)
    (hkj : k ≤ j := by decide) (hg : Gl X x := by rfl) (hdb : (x == ("__debug__" : Str)) = false := by decide)
    (he : starEach (e :: es) X.env = (false, eval e X.env) :: starEach es X.env := by rfl)
    (hpl : (backTo pos (starEach es X.env)).any (·.1) = false := by rfl) :
    PE X (.Call (.Name x p) (e :: es) [] pos) (tCall sp [] E0 t) :=
  pe_call D.ok (hr.mono hkj) hg D.g D.kp D.b .nil pass0 ha hdb he hpl
theorem pg (D : DefG X.prog X.w X.K X.mg X.base CX0 k x f fd ps sp) (hr : Room j X.A) (gu : X.A.guards = some []) (ha : PA X (e :: es) t)
    (hkj : k ≤ j := by decide) (hg : Gl X x := by rfl) (hdb : (x == ("__debug__" : Str)) = false := by decide)
    (he : starEach (e :: es) X.env = (false, eval e X.env) :: starEach es X.env := by rfl)
    (hpl : (backTo pos (starEach es X.env)).any (·.1) = false := by rfl) :
    PE X (.Call (.Name x p) (e :: es) [] pos) (tCall sp [] E0 t) :=
  pe_callGd D.ok (hr.mono hkj) gu hg D.g D.kp D.b pass0 ha hdb he hpl
variable {g : List Value → List Value → List Value} {gV : List V → List V → List V}
theorem pckw (D : DefOk X.prog X.w X.K X.mg X.base CX0 k x f fd ps sp) (hr : Room j X.A) (hb : KBinds X.K fd ps ks g gV) (hkw : PK X kws tk)
    (hkj : k ≤ j := by decide) (hg : Gl X x := by rfl)
    (hall : (backToKw pos (keywordEach kws X.env)).all (·.1.isSome) = true := by rfl)
    (hks : (backToKw pos (keywordEach kws X.env)).filterMap (·.1) = ks := by rfl)
    (hdb : (x == ("__debug__" : Str)) = false := by decide)
    (hpl : ((backTo pos (starEach [] X.env)).any (·.1) || (backToKw pos (keywordEach kws X.env)).any (·.1.isNone)) = false := by rfl) :
    PE X (.Call (.Name x p) [] kws pos) (tCallK sp gV E0 tNil tk) :=
  pe_callKW D.ok (hr.mono hkj) hg D.g D.kp hb pass0 hkw hall hks hdb hpl
end
/-! ### repr of data -/
section
mutual
theorem Dp.plain {K : PySem.W.Frag} {H : Hp} : ∀ (d : PyData) (v : V), Dp K H v d → d.hasDict = false
  | .none, _, _ => by simp only [PyData.hasDict]
  | .bool _, _, _ => by simp only [PyData.hasDict]
  | .int _, _, _ => by simp only [PyData.hasDict]
  | .str _, _, _ => by simp only [PyData.hasDict]
  | .list ds, _, h => by
    cases h with
    | lst hs ha =>
      simp only [PyData.hasDict]
      exact DpAll.plain ds _ ha
  | .tuple ds, _, h => by
    cases h with
    | tup hs ha =>
      simp only [PyData.hasDict]
      exact DpAll.plain ds _ ha
  | .dict _, _, h => by cases h
theorem DpAll.plain {K : PySem.W.Frag} {H : Hp} : ∀ (ds : List PyData) (vs : List V), DpAll K H vs ds → PyData.hasDictAll ds = false
  | [], _, _ => by simp only [PyData.hasDictAll]
  | d :: ds, _, h => by
    cases h with
    | cons h1 h2 =>
      simp only [PyData.hasDictAll, Dp.plain d _ h1, DpAll.plain ds _ h2]
      rfl
end
variable {X : Cx}
/-- what may be printed -/
def Shw (d : PyData) : Prop := d.showable = true ∧ d.shown.length ≤ sizeLine ∧ d.depth ≤ 60
def rRepr (K : PySem.W.Frag) : List V → Hp → VK → Prop := fun xs H Q => ∃ x d, xs = [x] ∧ Dp K H x d ∧ Shw d ∧ Q (.str d.shown) H
theorem call_reprD (hg : X.A.guards = some []) (hu : X.A.units + 64 < cLine) : CallR X (.builtin "repr") (rRepr X.K) := by
  intro pins s σ H xs us Q I r h
  obtain ⟨x, d, rfl, hd, ⟨hs, hz, hp⟩, q⟩ := h
  obtain ⟨u, rfl, ru⟩ := vals1 r
  have nd : d.hasDict = false := Dp.plain d x hd
  cases d with
  | none =>
    cases hd
    cases ru
    rw [PyData.shown_none] at q
    exact PySem.P.repr_of_none ⟨.str _, H, I.tok _, ⟨_, rfl⟩, q⟩
  | bool b =>
    cases hd
    cases ru
    rw [PyData.shown_bool] at q
    refine PySem.P.repr_of_bool ⟨.str _, H, I.tok _, ⟨s.toks, ?_⟩, q⟩
    cases b <;> rfl
  | int i =>
    cases hd
    obtain ⟨t, rfl⟩ := ru
    rw [PyData.shown_int] at q
    have h1 : i.natAbs.log2 < 1920 := by simpa [PyData.showable] using hs
    exact PySem.P.repr_of_int h1 ⟨.str _, H, I.tok _, ⟨_, rfl⟩, q⟩
  | str y =>
    cases hd
    obtain ⟨t, rfl⟩ := ru
    rw [PyData.shown_str] at q hz
    exact PySem.P.repr_of_str ⟨.str _, H, I.tok _, ⟨_, rfl⟩, q⟩ hz
  | list ds =>
    obtain ⟨as, rd⟩ := Dp.reads I _ x u hd ru
    cases hd
    cases ru
    refine repr_of_reads' rd hs (fun z => by rw [nd] at z; cases z) hg (by omega) (fun _ _ z => z) (fun h' w' tk hk => ?_) hz
    exact ⟨.str _, H, I.kept hk, ⟨_, rfl⟩, q⟩
  | tuple ds =>
    obtain ⟨as, rd⟩ := Dp.reads I _ x u hd ru
    cases hd
    cases ru
    refine repr_of_reads' rd hs (fun z => by rw [nd] at z; cases z) hg (by omega) (fun _ _ z => z) (fun h' w' tk hk => ?_) hz
    exact ⟨.str _, H, I.kept hk, ⟨_, rfl⟩, q⟩
  | dict kvs => cases hd
end
/-! ### list(range(a, b, c)) -/
section
variable {X : Cx} {a b c : Expr} {ta : TA}
def rgC (i c : Int) (n : Nat) : List V := (List.range n).map fun m => V.int (i + (m : Nat) * c)
theorem rgC_len (i c : Int) (n : Nat) : (rgC i c n).length = n := by
  unfold rgC
  rw [List.length_map, List.length_range]
def tLstR3 (ta : TA) : TE := fun σ H Q => ta σ H fun vs H1 => ∃ (i j k : Int) (n : Nat), vs = [.int i, .int j, .int k] ∧ RgC i j k n ∧ n ≤ 100000 ∧
  ∀ q, H1 q = none → Q (.ref q) (upd H1 q (.lst (rgC i k n)))
theorem pe_listR3 {p1 p2 q1 q2 : Pos} (hc : X.calm = true) (hgl : Gl X "list") (hml : X.mg "list" = none) (hg : Gl X "range") (hm : X.mg "range" = none)
    (ha : PA X [a, b, c] ta) (hs : starEach [a, b, c] X.env = (false, eval a X.env) :: starEach [b, c] X.env := by rfl)
    (hpl : (backTo q2 (starEach [b, c] X.env)).any (·.1) = false := by rfl)
    (na : starEach [Expr.Call (.Name "range" q1) [a, b, c] [] q2] X.env = (false, eval (Expr.Call (.Name "range" q1) [a, b, c] [] q2) X.env) :: starEach [] X.env := by rfl) :
    PE X (.Call (.Name "list" p1) [.Call (.Name "range" q1) [a, b, c] [] q2] [] p2) (tLstR3 ta) := by
  constructor
  intro pins s σ H Q I h
  refine Call_ (ld_blt I hgl hml boot_list (PyProof.Rows.callWith_type1 (args_cons ?_ na) na))
  refine Call_ (ld_blt I hg hm boot_range (PyProof.Rows.callWith_type1 (thn (ha.run q2 pins s σ H _ I h) ?_) hs hpl))
  intro us s1 hh
  obtain ⟨vs, H1, I1, r1, i, j, m, n, e, ok, hn, q⟩ := hh
  subst e
  obtain ⟨u1, us1, rfl, t1, rfl, r2⟩ : ∃ u1 us1, us = u1 :: us1 ∧ ∃ t, u1 = Value.int i t ∧ Vals [.int j, .int m] us1 := by
    cases r1 with
    | cons r rr => exact ⟨_, _, rfl, r.choose, r.choose_spec, rr⟩
  obtain ⟨u2, u3, rfl, ⟨t2, rfl⟩, ⟨t3, rfl⟩⟩ := vals2 r2
  obtain ⟨c0, c1, c2, c3⟩ := ok
  refine call_range_3 c0 (args_nil ?_) (.inl (PyProof.noPylong_small c1))
  have I2 : Inv X pins σ H1 { s1 with heap := s1.heap.push { cls := .type "range", data := .fields #[.int i t1, .int j t2, .int m t3] } } :=
    I1.kept (t' := s1.toks) fun b o e => Heap.get?_push_of_some _ e
  refine call_list_range (n := n) (I2.ok.hd hc) (IsRange.new ..) c2 c3 (by omega) ?_
  intro h' tk acc c' hk e' hi
  have el : acc.toList.length = n := by
    rw [Array.length_toList]
    exact hi.1
  have hv : Vals (rgC i m n) acc.toList := by
    unfold rgC
    rw [← el]
    refine vals_of_get acc.toList _ ?_
    intro z u hz
    obtain ⟨t, rfl⟩ := hi.2 z u (by rw [← hz, Array.getElem?_toList])
    exact ⟨t, rfl⟩
  have ob : ∀ G : Hp, ObjOk X.prog X.w G h' _ (.lst (rgC i m n)) := fun G =>
    ⟨by rw [rgC_len, sizeLine_eq]; omega, acc.toList, c', hv, by rw [Array.toArray_toList]; exact e'⟩
  exact ⟨.ref _, _, I2.laid hk (Nat.le_refl _) (ob _), rfl, q _ (I2.hok.fresh (Nat.le_refl _))⟩
end
end Ws

set_option Elab.async false
set_option linter.all false
set_option maxRecDepth 100000
set_option maxHeartbeats 4000000
namespace Ws
open PySem PySem.Spec PyProof.Rows L2
section
variable {P : Program} {w : World} {K : PySem.W.Frag} {mg mb : Str → Option Value} {k : Nat} {fa a : Addr} {fd : FuncData} {x : Str} {sp : Sp}
  {s1 : Shared} {vs : List Value} {ns : List Int}
/-- the law's call, from a heap that tracks the script or nothing -/
theorem law_from (KX : K.In s1.heap) (hns : s1.heap.Ns mainGlobals mg) (hb : s1.heap.Ns builtinsNs mb)
    (hbb : ∀ x : Str, x ≠ "__name__" → mb x = bootBuiltins x) (lim : s1.heap.NoLimit) (hg : s1.gens = #[])
    (ha : s1.heap.get? a = some { cls := .type "list", data := .seq vs.toArray }) (hr : Room k callerA)
    (F : ∀ base : Heap, K.In base → base.Ns mainGlobals mg → FnG P w K mg base CX0 k fa fd [x] sp)
    (hbind : ∀ (s : Shared) (u : Value), BindsTo s fd ⟨[u], []⟩ [(x, u)])
    (H : Hp) (hO : Only H) (hQ : sp [.ref a] H (fun v _ => v = .bl true) (fun _ _ _ => False)) (hok : HOk P w H s1.heap)
    (hA : ∀ b, H b ≠ none → b = a) (hK : H a ≠ none → K.lookup a = none) :
    codeAny (model P w) callerA (.call (.ref fa) ⟨[.ref a], []⟩)
      (fun r s' => r = .ok (.ret (.bool true)) ∧ PySem.OldK s1.heap s'.heap ∧ s'.os = s1.os ∧ AllBare s'.gens) s1 := by
  have inB : ∀ {b : Addr} {o : Obj}, s1.heap.get? b = some o → H b = none → (hidT s1.heap H).get? b = some o :=
    fun q n => hidT_get q n
  -- a namespace is no list
  have dictOut : ∀ {b : Addr} {o : Obj} {es : Array DictEntry} {ep : Nat}, s1.heap.get? b = some o → o.data = .dict es ep → H b = none := by
    intro b o es ep q dd
    by_cases z : H b = none
    · exact z
    · have eb := hA b z
      subst eb
      rw [ha] at q
      cases q
      cases (show Data.seq vs.toArray _ = Data.dict es ep from dd)
  have nsB : ∀ {b : Addr} {m : Str → Option Value}, s1.heap.Ns b m → (hidT s1.heap H).Ns b m := by
    rintro b m ⟨o, es, ep, q, dd, r⟩
    exact ⟨o, es, ep, inB q (dictOut q dd), dd, r⟩
  have kB : K.In (hidT s1.heap H) := by
    intro b o q
    refine inB (KX b o q) ?_
    by_cases z : H b = none
    · exact z
    · have eb := hA b z
      subst eb
      rw [hK z] at q
      cases q
  have limB : (hidT s1.heap H).NoLimit := by
    obtain ⟨mc, h1, h2⟩ := lim
    exact ⟨mc, nsB h1, h2⟩
  have e0 : Env0 P w K mg (hidT s1.heap H) callerA [] s1 H := by
    refine ⟨rfl, ⟨kB, nsB hns, ⟨mb, nsB hb, hbb⟩, limB⟩, fun b o q => of_hidT q, Nat.le_of_eq (hidT_size _ _), trivial, ?_, hok, .of_eq hg⟩
    intro b q
    cases (show b ∈ ([] : List Addr) from q)
  have c := (F _ kB (nsB hns)).go callerA [] s1 H ⟨[.ref a], []⟩ [.ref a] [.ref a] _ _ hr rfl e0 (hbind s1 (.ref a)) (.cons rfl .nil) hQ
  refine codeAny_mono c ?_
  intro r s' h
  cases r with
  | error e => exact h.elim
  | ok fl =>
    cases fl with
    | next => exact h.elim
    | brk => exact h.elim
    | cont => exact h.elim
    | ret u =>
      obtain ⟨v, H', os, bare, un, hok', rv, q⟩ := h
      have qv : v = .bl true := q
      subst qv
      obtain rfl : u = Value.bool true := rv
      refine ⟨rfl, PySem.OldK.of_keep ?_, os, bare⟩
      intro b o q
      cases z : H b with
      | none =>
        refine un.keep b o q z ?_ ?_
        · intro y
          cases (show b ∈ ([] : List Addr) from y)
        · intro y
          cases y
      | some u =>
        cases hO b with
        | inl y => rw [z] at y; cases y
        | inr y =>
          obtain ⟨ob, xs, y⟩ := y
          have y2 := un.frzs b ob _ y
          have g1 : s1.heap.get? b = some ob := (hok b _ y).1
          have g2 : s'.heap.get? b = some ob := (hok' b _ y2).1
          rw [q] at g1
          cases g1
          exact g2
theorem law_to (KX : K.In s1.heap) (hns : s1.heap.Ns mainGlobals mg) (hb : s1.heap.Ns builtinsNs mb)
    (hbb : ∀ x : Str, x ≠ "__name__" → mb x = bootBuiltins x) (lim : s1.heap.NoLimit) (hg : s1.gens = #[])
    (ha : s1.heap.get? a = some { cls := .type "list", data := .seq vs.toArray }) (hi : IntsAre vs ns) (hl : ns.length ≤ sizeLine) (hr : Room k callerA)
    (F : ∀ base : Heap, K.In base → base.Ns mainGlobals mg → FnG P w K mg base CX0 k fa fd [x] sp)
    (hbind : ∀ (s : Shared) (u : Value), BindsTo s fd ⟨[u], []⟩ [(x, u)])
    (hsp : ∀ H : Hp, Only H → SqL K H a (ns.map V.int) → sp [.ref a] H (fun v _ => v = .bl true) (fun _ _ _ => False)) :
    codeAny (model P w) callerA (.call (.ref fa) ⟨[.ref a], []⟩)
      (fun r s' => r = .ok (.ret (.bool true)) ∧ PySem.OldK s1.heap s'.heap ∧ s'.os = s1.os ∧ AllBare s'.gens) s1 := by
  have rv : Vals (ns.map V.int) vs := vals_of_ints hi
  have n1 : vs.length = ns.length := hi.length
  cases hk : K.lookup a with
  | some o =>
    have q := KX a o hk
    rw [ha] at q
    cases q
    have sq : SqL K (fun _ => none) a (ns.map V.int) := by
      refine Or.inr ⟨_, vs.toArray, _, hk, rfl, rfl, rfl, ?_, ?_⟩
      · rw [List.size_toArray, n1]
        exact hl
      · simpa using rv
    refine law_from KX hns hb hbb lim hg ha hr F hbind (fun _ => none) (fun _ => .inl rfl) (hsp _ (fun _ => .inl rfl) sq) ?_ ?_ ?_
    · intro b u z
      cases (show (none : Option HO) = some u from z)
    · intro b z
      exact absurd rfl z
    · intro z
      exact absurd rfl z
  | none =>
    let o1 : Obj := { cls := .type "list", data := .seq vs.toArray }
    let H0 : Hp := fun b => if b = a then some (.frz o1 (.lst (ns.map V.int))) else none
    have at1 : H0 a = some (.frz o1 (.lst (ns.map V.int))) := if_pos rfl
    have out1 : ∀ b, b ≠ a → H0 b = none := fun b n => if_neg n
    have only : Only H0 := by
      intro b
      by_cases z : b = a
      · rw [z]
        exact .inr ⟨_, _, at1⟩
      · exact .inl (out1 b z)
    refine law_from KX hns hb hbb lim hg ha hr F hbind H0 only (hsp _ only (.inl (.inr ⟨o1, at1⟩))) ?_ ?_ (fun _ => hk)
    · intro b u z
      by_cases y : b = a
      · subst y
        rw [at1] at z
        cases z
        refine ⟨ha, ?_, vs, _, rv, ha⟩
        rw [List.length_map]
        exact hl
      · rw [out1 b y] at z
        cases z
    · intro b z
      by_cases y : b = a
      · exact y
      · exact absurd (out1 b y) z
end
/-- the goal that the head leaves, from the guarded promise of the law -/
theorem walkG {l : PySem.W.OpenLaw} {n k : Nat} {q : Program} {loose : List Str} {XP : (Str → Option Value) → Heap → Prop} {YP : World → Heap → Prop}
    {d : DefRec} {K : Params → PySem.W.Frag} {CX : World → CXT} {sp : World → Sp} {x : Str}
    (hn : l.most = some n) (hn2 : n ≤ sizeLine) (hdf : d.params.defaults = []) (hr : Room k callerA)
    (hY : ∀ (w : World) (h : Heap), YP w h → (K w.params).In h)
    (F : ∀ (w : World) (mg : Str → Option Value) (fa : Addr) (h : Heap), (K w.params).In h → h.Ns mainGlobals mg → mg d.name = some (.ref fa) →
      ∃ fd : FuncData, (∀ (s : Shared) (u : Value), BindsTo s fd ⟨[u], []⟩ [(x, u)]) ∧
        ∀ base : Heap, (K w.params).In base → base.Ns mainGlobals mg → FnG l.prog w (K w.params) mg base CX0 k fa fd [x] (sp w))
    (hsp : ∀ (w : World) (H : Hp) (a : Addr) (ns : List Int), ns.length ≤ n → Only H → SqL (K w.params) H a (ns.map V.int) →
      sp w [.ref a] H (fun v _ => v = .bl true) fun _ _ _ => False)
    (_hCX : ∀ (w : World) (H : Hp) (s : Shared) (e : Value) (s' : Shared), CX w [] H s (fun _ _ _ => False) e s' → CX w [] H s (fun _ _ _ => False) e s') :
    PySem.W.WalkO q loose XP YP l.row.toRowW d [] (fun f vs => PySem.call f vs) := by
  refine Att.attach_call hn hdf ?_
  intro w s0 s1 mg mb fa o pm cd doc a vs ns G Y ho hd hcd hmg hobj hints hlen hg
  have KX := hY w _ Y
  obtain ⟨fd, hb, hF⟩ := F w mg fa _ KX G.T.g hmg
  exact law_to KX G.T.g G.T.b G.T.builtins G.T.nolimit hg hobj hints (Nat.le_trans hlen hn2) hr hF hb (fun H hO hS => hsp w H a ns hlen hO hS)
end Ws

set_option Elab.async false
set_option linter.all false
set_option maxRecDepth 100000
set_option maxHeartbeats 4000000
namespace Ws
open PySem PySem.Spec PyProof.Rows L2
/-! ### heaps: all but one object that changes -/
def cut (J : Addr) (H : Hp) : Hp := fun b => if b = J then none else H b
theorem cut_at {J : Addr} {H : Hp} : cut J H J = none := if_pos rfl
theorem cut_ne {J b : Addr} {H : Hp} (h : b ≠ J) : cut J H b = H b := if_neg h
theorem cut_some {J b : Addr} {H : Hp} {o : HO} (h : cut J H b = some o) : b ≠ J ∧ H b = some o := by
  by_cases e : b = J
  · rw [e, cut_at] at h
    cases h
  · rw [cut_ne e] at h
    exact ⟨e, h⟩
theorem cut_sub {J : Addr} {H : Hp} : Same (cut J H) H := fun _ _ h => (cut_some h).2
theorem cut_mono {J : Addr} {H H' : Hp} (s : Same H H') : Same (cut J H) (cut J H') := fun b o h => by
  obtain ⟨n, e⟩ := cut_some h
  rw [cut_ne n]
  exact s b o e
/-- all but the object at J stands as it stood -/
def Fr (J : Addr) (H H' : Hp) : Prop := Same (cut J H) (cut J H')
theorem Fr.refl {J : Addr} {H : Hp} : Fr J H H := Same.refl _
theorem Fr.trans {J : Addr} {H H1 H2 : Hp} (a : Fr J H H1) (b : Fr J H1 H2) : Fr J H H2 := Same.trans a b
theorem Fr.of {J : Addr} {H H' : Hp} (s : Same H H') : Fr J H H' := cut_mono s
theorem Fr.put {J : Addr} {H H' : Hp} {o : HO} (s : Fr J H H') : Fr J H (upd H' J o) := fun b u h => by
  have h1 := s b u h
  obtain ⟨n, e⟩ := cut_some h1
  rw [cut_ne n, upd_ne n]
  exact e
theorem cut_none {J p : Addr} {H : Hp} (h : H p = none) : cut J H p = none := by
  unfold cut
  split
  · rfl
  · exact h
theorem Fr.free {J p : Addr} {H H' : Hp} (s : Fr J H H') (h : H' p = none) (n : p ≠ J) : H p = none := by
  cases z : H p with
  | none => rfl
  | some o =>
    have e := s p o (by rw [cut_ne n]; exact z)
    rw [cut_ne n, h] at e
    cases e
theorem Fr.mut {J p : Addr} {H H' : Hp} {o : HO} (s : Fr J H H') (h : H p = none) : Fr J H (upd H' p o) := fun b u e => by
  have e2 := s b u e
  have n : b ≠ p := ne_of_none e (cut_none h)
  have m := (cut_some e2).1
  rw [cut_ne m] at e2 ⊢
  rw [upd_ne n]
  exact e2
theorem Fr.get {J p : Addr} {H H' : Hp} {o : HO} (s : Fr J H H') (n : p ≠ J) (h : H p = some o) : H' p = some o := (cut_some (s p o (by rw [cut_ne n]; exact h))).2
theorem Same.new {H : Hp} {p : Addr} {o : HO} (h : H p = none) : Same H (upd H p o) := fun b u e => by
  rw [upd_ne (ne_of_none e h)]
  exact e
/-- an object that H does not know may change -/
theorem Same.mut {H H' : Hp} {p : Addr} {o : HO} (s : Same H H') (h : H p = none) : Same H (upd H' p o) := fun b u e => by
  rw [upd_ne (ne_of_none e h)]
  exact s b u e
theorem SqL.up {K : PySem.W.Frag} {J a : Addr} {H H' : Hp} {xs : List V} (s : Fr J H H') (h : SqL K (cut J H) a xs) : SqL K (cut J H') a xs := Same.seq s h
theorem SqL.in {K : PySem.W.Frag} {J a : Addr} {H : Hp} {xs : List V} (h : SqL K (cut J H) a xs) : SqL K H a xs := Same.seq cut_sub h
/-! ### the jar of drawn digits -/
/-- the jar at J: what is left of the cell, the mixing number, how often it was mixed (at most n times) -/
def Jar (H : Hp) (J : Addr) (n : Int) : Prop := ∃ a b c : Int, H J = some (.lst [.int a, .int b, .int c]) ∧ 0 ≤ a ∧ 0 ≤ b ∧ b < 2 ^ 300 ∧ 0 ≤ c ∧ c ≤ n
theorem Jar.mono {H : Hp} {J : Addr} {n m : Int} (h : Jar H J n) (l : n ≤ m) : Jar H J m := by
  obtain ⟨a, b, c, h1, h2, h3, h4, h5, h6⟩ := h
  exact ⟨a, b, c, h1, h2, h3, h4, h5, by omega⟩
theorem Jar.same {H H' : Hp} {J : Addr} {n : Int} (h : Jar H J n) (s : Same H H') : Jar H' J n := by
  obtain ⟨a, b, c, h1, h2⟩ := h
  exact ⟨a, b, c, s _ _ h1, h2⟩
theorem Jar.new {H : Hp} {J p : Addr} {n : Int} {o : HO} (h : Jar H J n) (hp : H p = none) : Jar (upd H p o) J n := h.same (Same.new hp)
theorem Jar.ex {H : Hp} {J p : Addr} {n : Int} {o : HO} (h : Jar H J n) (hp : p ≠ J) : Jar (upd H p o) J n := by
  obtain ⟨a, b, c, h1, h2⟩ := h
  exact ⟨a, b, c, by rw [upd_ne hp.symm]; exact h1, h2⟩
theorem Jar.out {H : Hp} {J p : Addr} {n : Int} (h : Jar H J n) (hp : H p = none) : p ≠ J := by
  obtain ⟨a, b, c, h1, _⟩ := h
  exact (ne_of_none h1 hp).symm
theorem at0 {α : Type} {a b c : α} : atI [a, b, c] 0 = some a := rfl
theorem at1 {α : Type} {a b c : α} : atI [a, b, c] 1 = some b := rfl
theorem at2 {α : Type} {a b c : α} : atI [a, b, c] 2 = some c := rfl
theorem lt_log {i : Int} {n : Nat} (hn : 0 < n) (h0 : 0 ≤ i) (h : i < 2 ^ n) : i.natAbs.log2 < n := by
  refine PySem.Flt.log2_lt_of hn ?_
  have e : ((2 ^ n : Nat) : Int) = (2 : Int) ^ n := by rw [Int.natCast_pow]; rfl
  omega
theorem powOk {i j : Int} {n : Nat} (h0 : 0 ≤ i) (h : i < 2 ^ n) (hn : 0 < n) (hb : n ≤ 2000000) (j0 : 0 ≤ j) (j1 : j ≤ 60) : PowOk i j := ⟨j0, j1, by
  have := lt_log hn h0 h
  omega⟩
theorem mulOk {i j : Int} {n m : Nat} (h0 : 0 ≤ i) (h : i < 2 ^ n) (hn : 0 < n) (j0 : 0 ≤ j) (hj : j < 2 ^ m) (hm : 0 < m) (hb : n + m ≤ 1000000) : CMulW i j := by
  have a := lt_log hn h0 h
  have b := lt_log hm j0 hj
  unfold CMulW
  omega
theorem divOk {i j : Int} {n : Nat} (h0 : 0 < j) (h : j < 2 ^ n) (hn : 0 < n) (hb : n ≤ 9000) : CDivW i j := ⟨h0, by
  have := lt_log hn (by omega) h
  omega⟩
/-- one digit -/
def spDip : Sp := fun vs H Q _ => ∃ (J : Addr) (m n : Int), vs = [.ref J, .int m] ∧ Jar H J n ∧ n ≤ 1000000000 ∧ 0 < m ∧ m < 2 ^ 8000 ∧
  ∀ H' d, Fr J H H' → Jar H' J (n + 1) → 0 ≤ d → d < m → Q (.int d) H'
end Ws

set_option Elab.async false
set_option linter.all false
set_option maxRecDepth 100000
set_option maxHeartbeats 4000000
namespace Ws
open PySem PySem.Spec PyProof.Rows L2
def spJar (K : PySem.W.Frag) : Sp := fun vs H Q _ => ∃ (a : Addr) (ns : List Int) (k : Int), vs = [.ref a, .int k] ∧ SqL K H a (ns.map V.int) ∧ 0 ≤ k ∧ k ≤ 1000 ∧
  ∀ H' p, Same H H' → H p = none → Jar H' p 0 → Q (.ref p) H'
/-! ### sums over a window -/
def wsums (ns : List Int) (k : Nat) : List Int := (List.range (ns.length + 1 - k)).map fun j => ((ns.drop j).take k).sum
theorem wsums_len (ns : List Int) (k : Nat) : (wsums ns k).length = ns.length + 1 - k := by
  unfold wsums
  rw [List.length_map, List.length_range]
theorem wsums_get {ns : List Int} {k j : Nat} (h : j < ns.length + 1 - k) : (wsums ns k)[j]? = some (((ns.drop j).take k).sum) := by
  unfold wsums
  rw [List.getElem?_map, List.getElem?_range h]
  rfl
theorem take_next {α : Type} {l : List α} {i : Nat} {x : α} (h : l[i]? = some x) : l.take (i + 1) = l.take i ++ [x] := by
  rw [List.take_add_one, h]
  rfl
theorem sum_snoc (l : List Int) (x : Int) : (l ++ [x]).sum = l.sum + x := by
  rw [List.sum_append_int]
  simp
theorem win_next {ns : List Int} {i t : Nat} {x : Int} (h : ns[i + t]? = some x) : ((ns.drop i).take (t + 1)).sum = ((ns.drop i).take t).sum + x := by
  have e : (ns.drop i)[t]? = some x := by
    rw [List.getElem?_drop]
    exact h
  rw [take_next e, sum_snoc]
theorem map_take_snoc {ns : List Int} {i : Nat} {x : Int} (h : ns[i]? = some x) : (ns.take (i + 1)).map V.int = (ns.take i).map V.int ++ [V.int x] := by
  rw [take_next h, List.map_append]
  rfl
theorem at_int {ns : List Int} {z : Int} {j : Nat} {x : Int} (e : z = (j : Int)) (h : ns[j]? = some x) : atI (ns.map V.int) z = some (.int x) := by
  refine at_of e ?_
  rw [List.getElem?_map, h]
  rfl
def spSums (K : PySem.W.Frag) : Sp := fun vs H Q _ => ∃ (a : Addr) (ns : List Int) (k : Int), vs = [.ref a, .int k] ∧ SqL K H a (ns.map V.int) ∧
  1 ≤ k ∧ k ≤ ns.length ∧ ns.length ≤ 1000 ∧
  ∀ H' p, Same H H' → H p = none → H' p = some (.lst ((wsums ns k.toNat).map V.int)) → Q (.ref p) H'
/-! ### drawn numbers -/
/-- all ints of a list within bounds -/
def Btw (lo hi : Int) (ns : List Int) : Prop := ∀ x ∈ ns, lo ≤ x ∧ x ≤ hi
theorem Btw.nil {lo hi : Int} : Btw lo hi [] := fun _ h => by cases h
theorem Btw.snoc {lo hi : Int} {ns : List Int} {x : Int} (h : Btw lo hi ns) (h0 : lo ≤ x) (h1 : x ≤ hi) : Btw lo hi (ns ++ [x]) := fun y hy => by
  rcases List.mem_append.mp hy with z | z
  · exact h y z
  · rw [List.mem_singleton.mp z]
    exact ⟨h0, h1⟩
def spDays : Sp := fun vs H Q _ => ∃ (J : Addr) (m t n : Int), vs = [.ref J, .int m, .int t] ∧ Jar H J n ∧ n ≤ 900000000 ∧ 0 ≤ m ∧ m ≤ 1000 ∧ 0 ≤ t ∧ t < 2 ^ 200 ∧
  ∀ H' p ns, Fr J H H' → Jar H' J (n + 2 * m + 1) → H p = none → H' p = some (.lst (ns.map V.int)) → ns.length = m.toNat → Btw 0 t ns → Q (.ref p) H'
def spTop : Sp := fun vs H Q _ => ∃ (J : Addr) (n : Int), vs = [.ref J] ∧ Jar H J n ∧ n ≤ 900000000 ∧
  ∀ H' t, Fr J H H' → Jar H' J (n + 2) → 0 ≤ t → t < 10 ^ 30 → Q (.int t) H'
def spHigh : Sp := fun vs H Q _ => ∃ (J : Addr) (q n : Int), vs = [.ref J, .int q] ∧ Jar H J n ∧ n ≤ 900000000 ∧ 1 ≤ q ∧ q ≤ 1000 ∧
  ∀ H' t, Fr J H H' → Jar H' J (n + 2) → 0 ≤ t → t < 10 ^ 30 → (t ≤ 10 ^ 6 ∨ t * q < 10 ^ 30) → Q (.int t) H'
def spSize : Sp := fun vs H Q _ => ∃ (J : Addr) (m n : Int), vs = [.ref J, .int m] ∧ Jar H J n ∧ n ≤ 900000000 ∧ 8 ≤ m ∧ m ≤ 1000 ∧
  ∀ H' p (k c : Int), Fr J H H' → Jar H' J (n + 2) → H p = none → H' p = some (.tup [.int k, .int c]) → 1 ≤ k → k ≤ 8 → k ≤ c → c ≤ m → Q (.ref p) H'
end Ws

set_option Elab.async false
set_option linter.all false
set_option maxRecDepth 100000
set_option maxHeartbeats 4000000
namespace Ws
open PySem PySem.Spec PyProof.Rows L2
/-! ### rules that speak of the written part by its own name -/
section
variable {X : Cx} {K : PySem.W.Frag}
theorem ixL (h : X.K = K := by rfl) : IxR X (rIxL K) := by
  subst h
  exact ix_list
theorem ixT (h : X.K = K := by rfl) : IxR X (rIxT K) := by
  subst h
  exact ix_tup
def rLen1 (K : PySem.W.Frag) : List V → Hp → VK → Prop := fun xs H Q => ∃ p ys, xs = [.ref p] ∧ SqL K H p ys ∧ Q (.int ys.length) H
theorem lenL (h : X.K = K := by rfl) : CallR X (.builtin "len") (rLen1 K) := by
  subst h
  intro pins s σ H xs us Q I r q
  obtain ⟨p, ys, e, h1, q⟩ := q
  exact call_len_seq pins s σ H xs us Q I r ⟨p, ys, e, .inl h1, q⟩
theorem sumL (hc : X.calm = true) (h : X.K = K := by rfl) : CallR X (.builtin "sum") (rSum K) := by
  subst h
  exact cr_sum hc
theorem allL (hc : X.calm = true) (h : X.K = K := by rfl) : CallR X (.builtin "all") (rAll K) := by
  subst h
  exact cr_all hc
theorem anyL (hc : X.calm = true) (h : X.K = K := by rfl) : CallR X (.builtin "any") (rAny K) := by
  subst h
  exact cr_any hc
theorem maxL (hc : X.calm = true) (h : X.K = K := by rfl) : CallR X (.builtin "max") (rMax K) := by
  subst h
  exact cr_max hc
theorem minL (hc : X.calm = true) (h : X.K = K := by rfl) : CallR X (.builtin "min") (rMin K) := by
  subst h
  exact cr_min hc
theorem sortL (h : X.K = K := by rfl) : CallR X (.builtin "sorted") (rSortedI K) := by
  subst h
  exact cr_sortedI
theorem reprL (hg : X.A.guards = some []) (hu : X.A.units + 64 < cLine) (h : X.K = K := by rfl) : CallR X (.builtin "repr") (rRepr K) := by
  subst h
  exact call_reprD hg hu
def rList1 (K : PySem.W.Frag) : List V → Hp → VK → Prop := fun xs H Q => ∃ p ys, xs = [.ref p] ∧ SqL K H p ys ∧ ∀ l, H l = none → Q (.ref l) (upd H l (.lst ys))
theorem listL (h : X.K = K := by rfl) : CallR X (.type "list") (rList1 K) := by
  subst h
  intro pins s σ H xs us Q I r q
  obtain ⟨p, ys, e, h1, q⟩ := q
  exact call_list_of pins s σ H xs us Q I r ⟨p, ys, e, .inl h1, q⟩
def rTup1 (K : PySem.W.Frag) : List V → Hp → VK → Prop := fun xs H Q => ∃ p ys, xs = [.ref p] ∧ SqL K H p ys ∧ ∀ l, H l = none → Q (.ref l) (upd H l (.tup ys))
theorem tupL (h : X.K = K := by rfl) : CallR X (.type "tuple") (rTup1 K) := by
  subst h
  intro pins s σ H xs us Q I r q
  obtain ⟨p, ys, e, h1, q⟩ := q
  exact call_tuple_of pins s σ H xs us Q I r ⟨p, ys, e, .inl ⟨h1, q⟩⟩
def rInt1 : List V → Hp → VK → Prop := fun xs H Q => ∃ i, xs = [.int i] ∧ Q (.int i) H
theorem intI : CallR X (.type "int") rInt1 := by
  intro pins s σ H xs us Q I r q
  exact call_int1 pins s σ H xs us Q I r (.inl q)
def rIntB : List V → Hp → VK → Prop := fun xs H Q => ∃ k, xs = [.bl k] ∧ Q (.int (if k then 1 else 0)) H
theorem intB : CallR X (.type "int") rIntB := by
  intro pins s σ H xs us Q I r q
  exact call_int1 pins s σ H xs us Q I r (.inr q)
theorem typL (h : X.K = K := by rfl) : CallR X (.type "type") (rTyp K) := by
  subst h
  exact call_type1
theorem isiL (h : X.K = K := by rfl) : CallR X (.builtin "isinstance") (rIsi K) := by
  subst h
  exact call_isi
theorem slL (h : X.K = K := by rfl) : SlR X (rSlL K) := by
  subst h
  exact sl_list
theorem slT (h : X.K = K := by rfl) : SlR X (rSlT K) := by
  subst h
  exact sl_tup
theorem eqL (hu : X.A.units + 64 < cLine) (h : X.K = K := by rfl) : OpR X (compareOp .Eq) (rEqD K) := by
  subst h
  exact op_eqD hu
theorem neL (hu : X.A.units + 64 < cLine) (h : X.K = K := by rfl) : OpR X (compareOp .NotEq) (rNeD K) := by
  subst h
  exact op_neD hu
theorem inL (h : X.K = K := by rfl) : OpR X (compareOp .In) (rIn K false) := by
  subst h
  exact op_in_seq
theorem niL (h : X.K = K := by rfl) : OpR X (compareOp .NotIn) (rIn K true) := by
  subst h
  exact op_notIn_seq
theorem piL {tg l : Expr} {tl : TE} (hl : PE X l tl) (h : X.K = K := by rfl) : PI X tg l (iList K tl) := by
  subst h
  exact pi_list hl
theorem piT {tg l : Expr} {tl : TE} (hl : PE X l tl) (h : X.K = K := by rfl) : PI X tg l (iTup K tl) := by
  subst h
  exact pi_tup hl
theorem pgT {es : List Expr} {k : Nat} {t : TGs} {n : Nat} {pos : Pos} (hc : X.calm = true) (ht : PGs X es t) (h : X.K = K := by rfl)
    (hn : (assignEach es X.env).length = n := by rfl) (hst : (assignEach es X.env).findIdx? (·.1) = none := by rfl) : PG X (.Tuple es k pos) (gTup K n t) := by
  subst h
  exact pg_tup hc ht hn hst
theorem bmK {e : Expr} {ty : String} {r : V → List V → Hp → VK → Prop} {to : TE} {ta : TA} (b : PE X e (tBM X.K ty r to ta)) (h : X.K = K := by rfl) : PE X e (tBM K ty r to ta) := by
  subst h
  exact b
theorem bm0K {e : Expr} {ty : String} {r : V → List V → Hp → VK → Prop} {to : TE} (b : PE X e (tBM0 X.K ty r to)) (h : X.K = K := by rfl) : PE X e (tBM0 K ty r to) := by
  subst h
  exact b
end
end Ws

set_option Elab.async false
set_option linter.all false
set_option maxRecDepth 100000
set_option maxHeartbeats 4000000
namespace Ws
open PySem PySem.Spec PyProof.Rows L2
/-! ### whether a thing is an integer -/
def whole : V → Bool
  | .int _ => true
  | _ => false
/-- the type of x answers so -/
def Ti (K : PySem.W.Frag) (H : Hp) (x : V) (b : Bool) : Prop := ∃ (t : Value) (c d : Bool), TyX K H x t ∧ PySem.W.kitOne K t (.type "int") = some c ∧
  (c = true → PySem.W.kitOne K t (.type "bool") = some d) ∧ b = (c && !d)
theorem Ti.int {K : PySem.W.Frag} {H : Hp} (i : Int) : Ti K H (.int i) true :=
  ⟨_, true, false, .base (.int i), kit_ty (by decide +kernel), fun _ => kit_ty (by decide +kernel), rfl⟩
theorem Ti.bl {K : PySem.W.Frag} {H : Hp} (i : Bool) : Ti K H (.bl i) false :=
  ⟨_, true, true, .base (.bl i), kit_ty (by decide +kernel), fun _ => kit_ty (by decide +kernel), rfl⟩
theorem Ti.no {K : PySem.W.Frag} {H : Hp} {x : V} {t : Value} (h : TyX K H x t) (e : PySem.W.kitOne K t (.type "int") = some false) : Ti K H x false :=
  ⟨t, false, false, h, e, (fun z => by cases z), rfl⟩
theorem Ti.non {K : PySem.W.Frag} {H : Hp} : Ti K H .non false := Ti.no (.base .non) (kit_ty (by decide +kernel))
theorem Ti.str {K : PySem.W.Frag} {H : Hp} (x : Str) : Ti K H (.str x) false := Ti.no (.base (.str x)) (kit_ty (by decide +kernel))
def spIsInt (K : PySem.W.Frag) : Sp := fun vs H Q _ => ∃ (x : V) (b : Bool), vs = [x] ∧ Ti K H x b ∧ Q (.bl b) H
def spWithin (K : PySem.W.Frag) : Sp := fun vs H Q _ => (∃ i lo hi : Int, vs = [.int i, .int lo, .int hi] ∧ Q (.bl (decide (lo ≤ i) && decide (i ≤ hi))) H) ∨
  ∃ (x : V) (lo hi : Int), vs = [x, .int lo, .int hi] ∧ Ti K H x false ∧ Q (.bl false) H
/-- a list of which each item is known to be an integer or not; else another thing -/
def spIsRow (K : PySem.W.Frag) : Sp := fun vs H Q _ => (∃ (a : Addr) (xs : List V), vs = [.ref a] ∧ SqL K H a xs ∧ xs.length ≤ 1000 ∧ (∀ x ∈ xs, ∀ H', Same H H' → Ti K H' x (whole x)) ∧
    ∀ H', Same H H' → Q (.bl (decide (1 ≤ xs.length) && decide (xs.length ≤ 67) && xs.all whole)) H') ∨
  ∃ (x : V) (t : String), vs = [x] ∧ TyB K H x t ∧ t ≠ "list" ∧ Q (.bl false) H
theorem all_int (ns : List Int) : (ns.map V.int).all whole = true := by
  rw [List.all_eq_true]
  intro x hx
  obtain ⟨i, _, rfl⟩ := List.mem_map.mp hx
  rfl
theorem ti_ints {K : PySem.W.Frag} {H : Hp} {ns : List Int} : ∀ x ∈ ns.map V.int, ∀ H', Same H H' → Ti K H' x (whole x) := by
  intro x hx H' _
  obtain ⟨i, _, rfl⟩ := List.mem_map.mp hx
  exact Ti.int i
/-! ### valid arguments alone -/
def spNumsOk (K : PySem.W.Frag) : Sp := fun vs H Q _ => ∃ (a : Addr) (ns : List Int) (k : Int), vs = [.ref a, .int k] ∧ SqL K H a (ns.map V.int) ∧
  1 ≤ k ∧ k ≤ 8 ∧ k ≤ ns.length ∧ ns.length ≤ 67 ∧ ∀ H', Same H H' → Q .non H'
def spSumsOk (K : PySem.W.Frag) : Sp := fun vs H Q _ => ∃ (a : Addr) (ss : List Int) (k : Int), vs = [.ref a, .int k] ∧ SqL K H a (ss.map V.int) ∧
  1 ≤ ss.length ∧ 1 ≤ k ∧ k ≤ 8 ∧ k + ss.length ≤ 68 ∧ ∀ H', Same H H' → Q .non H'
def spDayOk : Sp := fun vs H Q _ => ∃ d n : Int, vs = [.int d, .int n] ∧ 0 ≤ d ∧ d < n ∧ Q .non H
def spSumsOf (K : PySem.W.Frag) : Sp := fun vs H Q _ => ∃ (a : Addr) (ns : List Int) (k : Int), vs = [.ref a, .int k] ∧ SqL K H a (ns.map V.int) ∧
  1 ≤ k ∧ k ≤ 8 ∧ k ≤ ns.length ∧ ns.length ≤ 67 ∧
  ∀ H' p, Same H H' → H p = none → H' p = some (.lst ((wsums ns k.toNat).map V.int)) → Q (.ref p) H'
def spRowSums (K : PySem.W.Frag) : Sp := fun vs H Q _ => ∃ (a : Addr) (ns : List Int) (k : Int), vs = [.ref a, .int k] ∧ SqL K H a (ns.map V.int) ∧
  1 ≤ k ∧ k ≤ 8 ∧ k ≤ ns.length ∧ ns.length ≤ 1000 ∧
  ∀ H' p, Same H H' → H p = none → H' p = some (.lst ((wsums ns k.toNat).map V.int)) → Q (.ref p) H'
def spDaysOf (K : PySem.W.Frag) : Sp := fun vs H Q _ => ∃ (a : Addr) (ss : List Int) (k : Int), vs = [.ref a, .int k] ∧ SqL K H a (ss.map V.int) ∧
  1 ≤ ss.length ∧ 1 ≤ k ∧ k ≤ 8 ∧ k + ss.length ≤ 68 ∧ ∀ H', Same H H' → Q (.int (ss.length + k - 1)) H'
/-- the days of one remainder below n -/
def tied (r k n : Int) : List Int := (List.range ((n - r - 1) / k + 1).toNat).map fun m => r + (m : Nat) * k
def spTied (K : PySem.W.Frag) : Sp := fun vs H Q _ => ∃ (a : Addr) (ss : List Int) (k d : Int), vs = [.ref a, .int k, .int d] ∧ SqL K H a (ss.map V.int) ∧
  1 ≤ ss.length ∧ 1 ≤ k ∧ k ≤ 8 ∧ k + ss.length ≤ 68 ∧ 0 ≤ d ∧ d < ss.length + k - 1 ∧
  ∀ H' p, Same H H' → H p = none → H' p = some (.lst ((tied (d % k) k (ss.length + k - 1)).map V.int)) → Q (.ref p) H'
theorem cut_window (ns : List Int) (i k : Nat) : cutV (ns.map V.int) (some (i : Int)) (some ((i + k : Nat) : Int)) = ((ns.drop i).take k).map V.int := by
  unfold cutV
  rw [HT.sIx_nat, HT.sIx_nat, List.length_map, List.map_take, List.map_drop]
  by_cases h : i ≤ ns.length
  · rw [Nat.min_eq_left h]
    by_cases h2 : i + k ≤ ns.length
    · rw [Nat.min_eq_left h2]
      congr 1
      omega
    · rw [Nat.min_eq_right (by omega)]
      rw [List.take_of_length_le (i := ns.length - i), List.take_of_length_le (i := k)]
      · rw [List.length_drop, List.length_map]; omega
      · rw [List.length_drop, List.length_map]; omega
  · have e1 : min i ns.length = ns.length := by omega
    have e2 : min (i + k) ns.length = ns.length := by omega
    rw [e1, e2, Nat.sub_self, List.drop_of_length_le (i := i) (by rw [List.length_map]; omega)]
    simp
theorem rg_tied {r k n : Int} (h0 : 0 ≤ r) (hr : r < n) (hn : n ≤ 1000) (hk : 1 ≤ k) (hk8 : k ≤ 8) : RgC r n k ((n - r - 1) / k + 1).toNat := by
  have e : (0 : Int) ≤ (n - r - 1) / k := Int.ediv_nonneg (by omega) (by omega)
  refine ⟨by omega, by omega, ?_, ?_⟩
  · have hb : (n - r - 1) / k ≤ n - r - 1 := Int.ediv_le_self k (by omega)
    have h1 : (n - r - 1) / k * k ≤ n - r - 1 := Int.ediv_mul_le _ (by omega)
    have fit : ∀ x : Int, -100000 ≤ x → x ≤ 100000 → Builtin.Range.rangeFitsLong x = true := fun x a b => by
      unfold Builtin.Range.rangeFitsLong
      simp only [Bool.and_eq_true, decide_eq_true_eq]
      omega
    unfold Builtin.Range.small
    have es : Builtin.Range.rangeSize r n k = (n - r - 1) / k + 1 := by
      unfold Builtin.Range.rangeSize
      rw [if_pos (by omega), if_pos hr]
    rw [es, fit r (by omega) (by omega), fit n (by omega) (by omega), fit k (by omega) (by omega), fit _ (by omega) (by omega), if_pos (show k > 0 by omega), fit _ (by omega) (by omega)]
    simp
  · unfold Builtin.Range.rangeSize
    rw [if_pos (by omega), if_pos hr]
    omega
theorem rgC_tied (r k n : Int) : rgC r k ((n - r - 1) / k + 1).toNat = (tied r k n).map V.int := by
  unfold rgC tied
  rw [List.map_map]
  rfl
end Ws

set_option Elab.async false
set_option linter.all false
set_option maxRecDepth 100000
set_option maxHeartbeats 4000000
namespace Ws
open PySem PySem.Spec PyProof.Rows L2
/-! ### data that stand in a heap -/
mutual
theorem Dp.up {K : PySem.W.Frag} {H H' : Hp} (s : Same H H') : ∀ (d : PyData) (v : V), Dp K H v d → Dp K H' v d
  | .none, _, h => by cases h; exact .non
  | .bool _, _, h => by cases h; exact .bl _
  | .int _, _, h => by cases h; exact .int _
  | .str _, _, h => by cases h; exact .str _
  | .list ds, _, h => by
    cases h with
    | lst hs ha => exact .lst (Same.seq s hs) (DpAll.up s ds _ ha)
  | .tuple ds, _, h => by
    cases h with
    | tup hs ha => exact .tup (Evl.ex_t s hs) (DpAll.up s ds _ ha)
  | .dict _, _, h => by cases h
theorem DpAll.up {K : PySem.W.Frag} {H H' : Hp} (s : Same H H') : ∀ (ds : List PyData) (vs : List V), DpAll K H vs ds → DpAll K H' vs ds
  | [], _, h => by cases h; exact .nil
  | d :: ds, _, h => by
    cases h with
    | cons h1 h2 => exact .cons (Dp.up s d _ h1) (DpAll.up s ds _ h2)
end
theorem DpAll.ints {K : PySem.W.Frag} {H : Hp} : ∀ ns : List Int, DpAll K H (ns.map V.int) (ns.map PyData.int)
  | [] => .nil
  | n :: r => .cons (.int n) (DpAll.ints r)
theorem DpAll.strs {K : PySem.W.Frag} {H : Hp} : ∀ ns : List Str, DpAll K H (ns.map V.str) (ns.map PyData.str)
  | [] => .nil
  | n :: r => .cons (.str n) (DpAll.strs r)
abbrev dI (ns : List Int) : PyData := .list (ns.map PyData.int)
theorem Dp.ints {K : PySem.W.Frag} {H : Hp} {a : Addr} {ns : List Int} (h : SqL K H a (ns.map V.int)) : Dp K H (.ref a) (dI ns) := .lst h (DpAll.ints ns)
/-! ### how long a text of data is -/
mutual
def cst : PyData → Nat
  | .none => 8
  | .bool _ => 8
  | .int i => i.natAbs.log2 + 3
  | .str x => (reprText x).length
  | .list xs => cstA xs + 4
  | .tuple xs => cstA xs + 4
  | .dict _ => 0
def cstA : List PyData → Nat
  | [] => 0
  | x :: xs => cst x + 2 + cstA xs
end
theorem str_len_of (s : String) (h : s.length ≤ 8) : (Str.ofString s).length ≤ 8 := by
  rw [PySem.ofString_length]
  exact h
mutual
theorem shown_cst : ∀ d : PyData, d.hasDict = false → d.shown.length ≤ cst d
  | .none, _ => by
    rw [PyData.shown_none]
    show _ ≤ 8
    decide +kernel
  | .bool b, _ => by
    rw [PyData.shown_bool]
    show _ ≤ 8
    cases b <;> decide +kernel
  | .int i, _ => by
    rw [PyData.shown_int]
    show (Str.ofString (toString i)).length ≤ i.natAbs.log2 + 3
    rw [PySem.ofString_length]
    have := int_text_length_le (a := i) (k := i.natAbs.log2 + 1) (by omega) (by omega)
    omega
  | .str x, _ => by
    rw [PyData.shown_str]
    exact Nat.le_refl _
  | .list xs, h => by
    have h1 : PyData.hasDictAll xs = false := by simpa only [PyData.hasDict] using h
    have h2 := shownAll_cst xs h1
    have h3 := listText_len_le (PyData.shownAll xs)
    rw [PyData.shown_list, ← listText_eq_join]
    rw [PyData.shownAll_length] at h3
    show _ ≤ cstA xs + 4
    omega
  | .tuple xs, h => by
    have h1 : PyData.hasDictAll xs = false := by simpa only [PyData.hasDict] using h
    have h2 := shownAll_cst xs h1
    have h3 := tupleText_len_le (PyData.shownAll xs)
    have e : (PyData.tuple xs).shown = tupleText (PyData.shownAll xs) := by simp only [PyData.shown]
    rw [e]
    rw [PyData.shownAll_length] at h3
    show _ ≤ cstA xs + 4
    omega
  | .dict _, h => by simp [PyData.hasDict] at h
theorem shownAll_cst : ∀ xs : List PyData, PyData.hasDictAll xs = false → ((PyData.shownAll xs).map (·.length)).sum + 2 * xs.length ≤ cstA xs
  | [], _ => by
    rw [PyData.shownAll_nil]
    exact Nat.le_refl _
  | x :: xs, h => by
    have h1 : PyData.hasDict x = false ∧ PyData.hasDictAll xs = false := by simpa only [PyData.hasDictAll, Bool.or_eq_false_iff] using h
    have a := shown_cst x h1.1
    have b := shownAll_cst xs h1.2
    rw [PyData.shownAll_cons, List.map_cons, List.sum_cons, List.length_cons]
    show _ ≤ cst x + 2 + cstA xs
    omega
end
theorem shw_of {d : PyData} (h1 : d.showable = true) (h2 : d.hasDict = false) (h3 : cst d ≤ 10000000) (h4 : d.depth ≤ 60) : Shw d :=
  ⟨h1, Nat.le_trans (shown_cst d h2) (Nat.le_trans h3 (by rw [sizeLine_eq]; decide)), h4⟩
theorem hasDict_ints : ∀ ns : List Int, PyData.hasDictAll (ns.map PyData.int) = false
  | [] => by simp only [List.map_nil, PyData.hasDictAll]
  | n :: r => by
    rw [List.map_cons]
    simp only [PyData.hasDictAll, PyData.hasDict, hasDict_ints r]
    rfl
theorem depth_ints : ∀ ns : List Int, PyData.depthAll (ns.map PyData.int) = 0
  | [] => by simp only [List.map_nil, PyData.depthAll]
  | n :: r => by
    rw [List.map_cons]
    simp only [PyData.depthAll, PyData.depth, depth_ints r]
    rfl
theorem cst_ints {B : Nat} : ∀ ns : List Int, (∀ n ∈ ns, n.natAbs.log2 < B) → cstA (ns.map PyData.int) ≤ ns.length * (B + 5)
  | [], _ => Nat.zero_le _
  | n :: r, h => by
    have a := cst_ints r fun m hm => h m (List.mem_cons_of_mem _ hm)
    have b := h n List.mem_cons_self
    rw [List.map_cons, List.length_cons, Nat.add_mul, Nat.one_mul]
    show n.natAbs.log2 + 3 + 2 + cstA (r.map PyData.int) ≤ _
    omega
/-- all ints of a list below 2 ^ 1000 in size -/
def Sml (ns : List Int) : Prop := ∀ n ∈ ns, n.natAbs.log2 < 1000
theorem shw_ints {ns : List Int} (h : Sml ns) (hl : ns.length ≤ 1000) : Shw (dI ns) := by
  refine shw_of ?_ ?_ ?_ ?_
  · simp only [PyData.showable]
    exact PyData.showableAll_ints ns fun n hn => Nat.lt_trans (h n hn) (by decide)
  · simp only [PyData.hasDict]
    exact hasDict_ints ns
  · have := cst_ints ns h
    have e : ns.length * (1000 + 5) ≤ 1000 * 1005 := Nat.mul_le_mul hl (Nat.le_refl _)
    show cstA (ns.map PyData.int) + 4 ≤ _
    omega
  · show PyData.depthAll (ns.map PyData.int) + 1 ≤ 60
    rw [depth_ints]
    decide
theorem shw_int {n : Int} (h : n.natAbs.log2 < 1000) : Shw (.int n) := by
  refine shw_of ?_ rfl ?_ (by show 0 ≤ 60; decide)
  · simp only [PyData.showable]
    exact decide_eq_true (Nat.lt_trans h (by decide))
  · show n.natAbs.log2 + 3 ≤ _
    omega
theorem log_of {n : Int} {B : Nat} (hB : 0 < B) (h0 : -(2 ^ B) < n) (h1 : n < 2 ^ B) : n.natAbs.log2 < B := by
  refine PySem.Flt.log2_lt_of hB ?_
  have e : ((2 ^ B : Nat) : Int) = (2 : Int) ^ B := by rw [Int.natCast_pow]; rfl
  omega
theorem Sml.btw {lo hi : Int} {ns : List Int} (h : Btw lo hi ns) (h0 : -(2 ^ 1000) < lo) (h1 : hi < 2 ^ 1000) : Sml ns := fun n hn => by
  have := h n hn
  exact log_of (by decide) (by omega) (by omega)
/-! ### lists of ints compared -/
theorem eqvAll_ints : ∀ ns ms : List Int, PyData.eqvAll (ns.map PyData.int) (ms.map PyData.int) = decide (ns = ms)
  | [], [] => by simp [PyData.eqvAll]
  | [], m :: s => by simp [PyData.eqvAll]
  | n :: r, [] => by simp [PyData.eqvAll]
  | n :: r, m :: s => by
    rw [List.map_cons, List.map_cons, PyData.eqvAll, PyData.eqv, eqvAll_ints r s]
    rw [Bool.eq_iff_iff]
    simp
theorem eqv_ints (ns ms : List Int) : PyData.eqv (dI ns) (dI ms) = decide (ns = ms) := by
  rw [dI, dI, PyData.eqv, eqvAll_ints]
theorem shaped_ints (ns : List Int) : SeqAt.shaped (dI ns) = true := by
  unfold SeqAt.shaped
  have h1 : PyData.canLayAll0 (ns.map PyData.int) = true := by
    induction ns with
    | nil => simp [PyData.canLayAll0]
    | cons n r ih =>
      rw [List.map_cons]
      simp [PyData.canLayAll0, PyData.canLay0, ih]
  have h2 : (dI ns).depth = 1 := by
    show PyData.depthAll (ns.map PyData.int) + 1 = 1
    rw [depth_ints]
  have h3 : (dI ns).canLay0 = true := by simpa only [PyData.canLay0] using h1
  rw [h3, h2]
  rfl
end Ws

set_option Elab.async false
set_option linter.all false
set_option maxRecDepth 100000
set_option maxHeartbeats 4000000
namespace Ws
open PySem PySem.Spec PyProof.Rows L2
/-! ### mathematics of classes -/
theorem emod_le_self {d k : Int} (h : 0 ≤ d) (hk : 0 < k) : d % k ≤ d := by
  have h1 := Int.mul_ediv_add_emod d k
  have h2 : 0 ≤ k * (d / k) := Int.mul_nonneg (by omega) (Int.ediv_nonneg h (by omega))
  omega
theorem asc_ext : ∀ {xs ys : List Int}, xs.Pairwise (· < ·) → ys.Pairwise (· < ·) → (∀ z, z ∈ xs ↔ z ∈ ys) → xs = ys
  | [], [], _, _, _ => rfl
  | [], y :: s, _, _, h => by
    have := (h y).mpr List.mem_cons_self
    cases this
  | x :: r, [], _, _, h => by
    have := (h x).mp List.mem_cons_self
    cases this
  | x :: r, y :: s, hx, hy, h => by
    have hx1 := List.pairwise_cons.mp hx
    have hy1 := List.pairwise_cons.mp hy
    have e : x = y := by
      have a := (h x).mp List.mem_cons_self
      have b := (h y).mpr List.mem_cons_self
      rcases List.mem_cons.mp a with a | a
      · exact a
      · rcases List.mem_cons.mp b with b | b
        · exact b.symm
        · have := hx1.1 y b
          have := hy1.1 x a
          omega
    subst e
    have : r = s := by
      refine asc_ext hx1.2 hy1.2 fun z => ⟨fun a => ?_, fun a => ?_⟩
      · rcases List.mem_cons.mp ((h z).mp (List.mem_cons_of_mem _ a)) with b | b
        · have := hx1.1 z a
          omega
        · exact b
      · rcases List.mem_cons.mp ((h z).mpr (List.mem_cons_of_mem _ a)) with b | b
        · have := hy1.1 z a
          omega
        · exact b
    rw [this]
theorem pw_range_map {n : Nat} {f : Nat → Int} (h : ∀ i j, i < j → f i < f j) : ((List.range n).map f).Pairwise (· < ·) := by
  rw [List.pairwise_map]
  exact List.Pairwise.imp (fun q => h _ _ q) List.pairwise_lt_range
theorem tied_asc {r k n : Int} (hk : 1 ≤ k) : (tied r k n).Pairwise (· < ·) := by
  refine pw_range_map fun i j h => ?_
  have : ((i : Int) + 1) * k ≤ j * k := Int.mul_le_mul_of_nonneg_right (by omega) (by omega)
  rw [Int.add_mul] at this
  omega
theorem mem_tied {r k n z : Int} (h0 : 0 ≤ r) (hr : r < k) (hk : 1 ≤ k) (hn : r < n) : z ∈ tied r k n ↔ 0 ≤ z ∧ z < n ∧ z % k = r := by
  unfold tied
  rw [List.mem_map]
  have hd : (0 : Int) ≤ (n - r - 1) / k := Int.ediv_nonneg (by omega) (by omega)
  constructor
  · rintro ⟨m, hm, rfl⟩
    have hm2 := List.mem_range.mp hm
    have h1 : (m : Int) ≤ (n - r - 1) / k := by omega
    have h2 : (m : Int) * k ≤ (n - r - 1) / k * k := Int.mul_le_mul_of_nonneg_right h1 (by omega)
    have h3 : (n - r - 1) / k * k ≤ n - r - 1 := Int.ediv_mul_le _ (by omega)
    have h4 : 0 ≤ (m : Int) * k := Int.mul_nonneg (by omega) (by omega)
    refine ⟨by omega, by omega, ?_⟩
    rw [Int.add_mul_emod_self_right, Int.emod_eq_of_lt h0 hr]
  · rintro ⟨z0, zn, zr⟩
    have h1 := Int.mul_ediv_add_emod z k
    have h2 : 0 ≤ z / k := Int.ediv_nonneg z0 (by omega)
    refine ⟨(z / k).toNat, List.mem_range.mpr ?_, ?_⟩
    · have h3 : z / k * k ≤ n - r - 1 := by
        rw [Int.mul_comm]
        omega
      have h4 : z / k ≤ (n - r - 1) / k := (Int.le_ediv_iff_mul_le (by omega)).mpr h3
      omega
    · have h5 : ((z / k).toNat : Int) = z / k := by omega
      rw [h5, Int.mul_comm]
      omega
/-- the list of all days below n that a test takes -/
def picked (n : Nat) (p : Int → Bool) : List Int := ((List.range n).map fun (m : Nat) => (m : Int)).filter p
theorem picked_asc (n : Nat) (p : Int → Bool) : (picked n p).Pairwise (· < ·) := by
  unfold picked
  exact List.Pairwise.filter _ (pw_range_map (f := fun m => (m : Int)) fun i j h => Int.ofNat_lt.mpr h)
theorem mem_picked {n : Nat} {p : Int → Bool} {z : Int} : z ∈ picked n p ↔ 0 ≤ z ∧ z < n ∧ p z = true := by
  unfold picked
  rw [List.mem_filter, List.mem_map]
  constructor
  · rintro ⟨⟨m, hm, rfl⟩, h⟩
    have := List.mem_range.mp hm
    exact ⟨by omega, by omega, h⟩
  · rintro ⟨h0, h1, h2⟩
    exact ⟨⟨z.toNat, List.mem_range.mpr (by omega), by omega⟩, h2⟩
theorem picked_yes {i : Nat} {p : Int → Bool} (h : p (i : Int) = true) : picked (i + 1) p = picked i p ++ [(i : Int)] := by
  unfold picked
  rw [List.range_succ, List.map_append, List.filter_append]
  simp [h]
theorem picked_no {i : Nat} {p : Int → Bool} (h : p (i : Int) = false) : picked (i + 1) p = picked i p := by
  unfold picked
  rw [List.range_succ, List.map_append, List.filter_append]
  simp [h]
theorem picked_len (n : Nat) (p : Int → Bool) : (picked n p).length ≤ n := by
  unfold picked
  refine Nat.le_trans (List.length_filter_le _ _) ?_
  rw [List.length_map, List.length_range]
  exact Nat.le_refl _
theorem picked_tied {d k : Int} {n : Nat} (hk : 1 ≤ k) (d0 : 0 ≤ d) (dn : d < n) : picked n (fun m => decide ((m - d) % k = 0)) = tied (d % k) k n := by
  have r0 : 0 ≤ d % k := Int.emod_nonneg _ (by omega)
  have r1 : d % k < k := Int.emod_lt_of_pos _ (by omega)
  have r2 : d % k ≤ d := emod_le_self d0 (by omega)
  refine asc_ext (picked_asc _ _) (tied_asc hk) fun z => ?_
  rw [mem_picked, mem_tied r0 r1 hk (by omega), decide_eq_true_iff]
  refine and_congr_right fun _ => and_congr_right fun _ => ?_
  rw [← Int.emod_eq_emod_iff_emod_sub_eq_zero]
theorem sum_btw {lo hi : Int} (h0 : lo ≤ 0) (h1 : 0 ≤ hi) : ∀ {ns : List Int}, Btw lo hi ns → lo * ns.length ≤ ns.sum ∧ ns.sum ≤ hi * ns.length
  | [], _ => by simp
  | n :: r, h => by
    have a := sum_btw h0 h1 (ns := r) fun x hx => h x (List.mem_cons_of_mem _ hx)
    have b := h n List.mem_cons_self
    rw [List.sum_cons, List.length_cons, Int.natCast_add, Int.mul_add, Int.mul_add]
    omega
theorem btw_sub {lo hi : Int} {ns ms : List Int} (h : Btw lo hi ns) (s : ∀ x ∈ ms, x ∈ ns) : Btw lo hi ms := fun x hx => h x (s x hx)
/-- sums of at most 8 numbers stay within eight times the bounds -/
theorem wsums_btw {B : Int} {ns : List Int} {k : Nat} (hB : 0 ≤ B) (h : Btw (-B) B ns) (hk : k ≤ 8) : Btw (-(8 * B)) (8 * B) (wsums ns k) := by
  intro x hx
  unfold wsums at hx
  obtain ⟨j, _, rfl⟩ := List.mem_map.mp hx
  have hs : Btw (-B) B ((ns.drop j).take k) := btw_sub h fun y hy => List.mem_of_mem_drop (List.mem_of_mem_take hy)
  have a := sum_btw (by omega) hB hs
  have hl : ((ns.drop j).take k).length ≤ 8 := by
    rw [List.length_take]
    omega
  have c : B * ((ns.drop j).take k).length ≤ B * 8 := Int.mul_le_mul_of_nonneg_left (by omega) hB
  have d : -B * ((ns.drop j).take k).length = -(B * ((ns.drop j).take k).length) := Int.neg_mul _ _
  rw [d] at a
  omega
/-! ### calls by keywords -/
def gS2 {α : Type} : List α → List α → List α
  | [], [a, b] => [b, a]
  | _, _ => []
def gI2 {α : Type} : List α → List α → List α
  | [], [a, b] => [a, b]
  | _, _ => []
theorem rel_S2 {vs zs : List V} {us ws : List Value} (r : Vals vs us) (q : Vals zs ws) : Vals (gS2 vs zs) (gS2 us ws) := by
  cases r with
  | cons _ _ => exact .nil
  | nil =>
    cases q with
    | nil => exact .nil
    | cons a q =>
      cases q with
      | nil => exact .nil
      | cons b q =>
        cases q with
        | nil => exact .cons b (.cons a .nil)
        | cons _ _ => exact .nil
theorem rel_I2 {vs zs : List V} {us ws : List Value} (r : Vals vs us) (q : Vals zs ws) : Vals (gI2 vs zs) (gI2 us ws) := by
  cases r with
  | cons _ _ => exact .nil
  | nil =>
    cases q with
    | nil => exact .nil
    | cons a q =>
      cases q with
      | nil => exact .nil
      | cons b q =>
        cases q with
        | nil => exact .cons a (.cons b .nil)
        | cons _ _ => exact .nil
/-- three keywords in the opposite sequence -/
def gR3 {α : Type} : List α → List α → List α
  | [], [a, b, c] => [c, b, a]
  | _, _ => []
theorem rel_R3 {vs zs : List V} {us ws : List Value} (r : Vals vs us) (q : Vals zs ws) : Vals (gR3 vs zs) (gR3 us ws) := by
  cases r with
  | cons _ _ => exact .nil
  | nil =>
    cases q with
    | nil => exact .nil
    | cons a q =>
      cases q with
      | nil => exact .nil
      | cons b q =>
        cases q with
        | nil => exact .nil
        | cons c q =>
          cases q with
          | nil => exact .cons c (.cons b (.cons a .nil))
          | cons _ _ => exact .nil
theorem S2_inv {α : Type} {us ws : List α} (h : (gS2 us ws).length = 2) : ∃ a b, us = [] ∧ ws = [a, b] := by
  match us, ws, h with
  | [], [a, b], _ => exact ⟨a, b, rfl, rfl⟩
theorem R3_inv {α : Type} {us ws : List α} (h : (gR3 us ws).length = 3) : ∃ a b c, us = [] ∧ ws = [a, b, c] := by
  match us, ws, h with
  | [], [a, b, c], _ => exact ⟨a, b, c, rfl, rfl⟩
end Ws
namespace Ws
open PySem PySem.Spec PyProof.Rows L2
theorem eqv_self {d : PyData} (h : SeqAt.shaped d = true) : PyData.eqv d d = true := SeqAt.eqv_refl d (SeqAt.canLay_of_shaped h)
/-- behind a jar that is new -/
theorem Same.over {J : Addr} {H H1 H2 : Hp} (s : Same H H1) (h : H J = none) (f : Fr J H1 H2) : Same H H2 := fun b o e => by
  have n : b ≠ J := ne_of_none e h
  exact f.get n (s b o e)
theorem int_at {ns : List Int} {i : Nat} {x : V} (h : (ns.map V.int)[i]? = some x) : ∃ y, ns[i]? = some y ∧ x = .int y := by
  rw [List.getElem?_map] at h
  cases e : ns[i]? with
  | none => rw [e] at h; cases h
  | some y => rw [e] at h; exact ⟨y, rfl, (Option.some.inj h).symm⟩
theorem tup3_int {x : V} {a b c : Int} {i : Nat} (h : [V.int a, V.int b, V.int c][i]? = some x) : ∃ s, x = .int s ∧ (s = a ∨ s = b ∨ s = c) ∧ i < 3 := by
  match i, h with
  | 0, h => exact ⟨a, (Option.some.inj h).symm, .inl rfl, by decide⟩
  | 1, h => exact ⟨b, (Option.some.inj h).symm, .inr (.inl rfl), by decide⟩
  | 2, h => exact ⟨c, (Option.some.inj h).symm, .inr (.inr rfl), by decide⟩
theorem Jar.ne {H H' : Hp} {J p : Addr} {n : Int} (h : Jar H J n) (hp : H p = none) : p ≠ J := h.out hp
end Ws

set_option Elab.async false
set_option linter.all false
set_option maxRecDepth 100000
set_option maxHeartbeats 4000000
namespace Ws
open PySem PySem.Spec PyProof.Rows L2
/-! ### by how much a day is more than the first one of its class -/
def off (ss : List Int) (k : Nat) (i : Nat) : Int :=
  if h : k = 0 ∨ i < k then 0 else off ss k (i - k) + ss.getD (i - k + 1) 0 - ss.getD (i - k) 0
termination_by i
decreasing_by omega
theorem off_lo {ss : List Int} {k i : Nat} (h : i < k) : off ss k i = 0 := by
  rw [off, dif_pos (Or.inr h)]
theorem off_hi {ss : List Int} {k i : Nat} (hk : 1 ≤ k) : off ss k (k + i) = off ss k i + ss.getD (i + 1) 0 - ss.getD i 0 := by
  rw [off, dif_neg (by omega)]
  have e : k + i - k = i := by omega
  rw [e]
def offL (ss : List Int) (k n : Nat) : List Int := (List.range n).map (off ss k)
theorem offL_len (ss : List Int) (k n : Nat) : (offL ss k n).length = n := by
  unfold offL
  rw [List.length_map, List.length_range]
theorem offL_get {ss : List Int} {k n i : Nat} (h : i < n) : (offL ss k n)[i]? = some (off ss k i) := by
  unfold offL
  rw [List.getElem?_map, List.getElem?_range h]
  rfl
theorem offL_zero (ss : List Int) (k : Nat) : offL ss k k = List.replicate k 0 := by
  unfold offL
  refine List.ext_getElem? fun i => ?_
  rw [List.getElem?_map, List.getElem?_replicate]
  by_cases h : i < k
  · rw [List.getElem?_range h, if_pos h, Option.map_some, off_lo h]
  · rw [List.getElem?_eq_none (by rw [List.length_range]; omega), if_neg h]
    rfl
theorem offL_succ (ss : List Int) (k n : Nat) : offL ss k (n + 1) = offL ss k n ++ [off ss k n] := by
  unfold offL
  rw [List.range_succ, List.map_append]
  rfl
/-! ### lists that have sums -/
def win (x : List Int) (t k : Nat) : Int := ((x.drop t).take k).sum
theorem win_zero (x : List Int) (t : Nat) : win x t 0 = 0 := by
  unfold win
  rw [List.take_zero]
  rfl
theorem win_more {x : List Int} {t k : Nat} (h : t + k < x.length) : win x t (k + 1) = win x t k + x.getD (t + k) 0 := by
  unfold win
  rw [win_next (List.getElem?_eq_getElem h), List.getD_eq_getElem?_getD, List.getElem?_eq_getElem h]
  rfl
theorem win_first {x : List Int} {t k : Nat} (h : t < x.length) : win x t (k + 1) = x.getD t 0 + win x (t + 1) k := by
  unfold win
  rw [List.drop_eq_getElem_cons h, List.take_succ_cons, List.sum_cons, List.getD_eq_getElem?_getD, List.getElem?_eq_getElem h]
  rfl
theorem win_step {x : List Int} {t k : Nat} (h : t + k < x.length) : win x (t + 1) k - win x t k = x.getD (t + k) 0 - x.getD t 0 := by
  have a := win_more h
  have b := win_first (x := x) (t := t) (k := k) (by omega)
  omega
/-- x has the sums ss of length k -/
def Has (x ss : List Int) (k : Nat) : Prop := 1 ≤ k ∧ k ≤ x.length ∧ wsums x k = ss
theorem Has.len {x ss : List Int} {k : Nat} (h : Has x ss k) : ss.length = x.length + 1 - k := by
  rw [← h.2.2, wsums_len]
theorem Has.at {x ss : List Int} {k j : Nat} (h : Has x ss k) (hj : j < ss.length) : ss.getD j 0 = win x j k := by
  have hl := h.len
  rw [List.getD_eq_getElem?_getD, ← h.2.2, wsums_get (by omega)]
  rfl
theorem off_has {x ss : List Int} {k : Nat} (h : Has x ss k) : ∀ i, i < x.length → off ss k i = x.getD i 0 - x.getD (i % k) 0 := by
  intro i
  induction i using Nat.strongRecOn with
  | _ i ih =>
    intro hi
    have k1 := h.1
    have hl := h.len
    by_cases hk : i < k
    · rw [off_lo hk, Nat.mod_eq_of_lt hk]
      omega
    · have e : i = k + (i - k) := by omega
      have a := ih (i - k) (by omega) (by omega)
      rw [e, off_hi k1, a, h.at (by omega), h.at (by omega)]
      have b := win_step (x := x) (t := i - k) (k := k) (by omega)
      have c : (k + (i - k)) % k = (i - k) % k := Nat.add_mod_left _ _
      have d : i - k + k = k + (i - k) := by omega
      rw [c, ← d]
      omega
theorem mod_nat {d k : Int} (d0 : 0 ≤ d) (k1 : 1 ≤ k) : (d % k).toNat = d.toNat % k.toNat := by
  have e1 : d = (d.toNat : Int) := by omega
  have e2 : k = (k.toNat : Int) := by omega
  have : d % k = ((d.toNat % k.toNat : Nat) : Int) := by
    rw [Int.natCast_emod, ← e1, ← e2]
  omega
theorem tie_has {x ss : List Int} {k a b : Int} (h : Has x ss k.toNat) (k1 : 1 ≤ k) (a0 : 0 ≤ a) (an : a < x.length) (b0 : 0 ≤ b) (bn : b < x.length) (t : (b - a) % k = 0) :
    off ss k.toNat b.toNat - off ss k.toNat a.toNat = x.getD b.toNat 0 - x.getD a.toNat 0 := by
  rw [off_has h _ (by omega), off_has h _ (by omega)]
  have e : b % k = a % k := (Int.emod_eq_emod_iff_emod_sub_eq_zero).mpr t
  have e2 : b.toNat % k.toNat = a.toNat % k.toNat := by
    rw [← mod_nat b0 k1, ← mod_nat a0 k1, e]
  rw [e2]
  omega
theorem perm_sum {xs ys : List Int} (h : xs.Perm ys) : xs.sum = ys.sum := by
  induction h with
  | nil => rfl
  | cons x _ ih => rw [List.sum_cons, List.sum_cons, ih]
  | swap x y l =>
    rw [List.sum_cons, List.sum_cons, List.sum_cons, List.sum_cons]
    omega
  | trans _ _ a b => exact a.trans b
/-- days, one of each class -/
structure Choice (ds : List Int) (k n : Int) : Prop where
  inn : ∀ d ∈ ds, 0 ≤ d ∧ d < n
  all : (ds.map fun d => d % k).Perm ((List.range k.toNat).map fun (i : Nat) => (i : Int))
theorem Choice.len {ds : List Int} {k n : Int} (c : Choice ds k n) : ds.length = k.toNat := by
  have := c.all.length_eq
  rw [List.length_map, List.length_map, List.length_range] at this
  exact this
theorem win_range {x : List Int} {k : Nat} (h : k ≤ x.length) : ((List.range k).map fun i => x.getD i 0).sum = win x 0 k := by
  induction k with
  | zero =>
    rw [win_zero]
    rfl
  | succ k ih =>
    rw [List.range_succ, List.map_append, List.sum_append_int, ih (by omega), win_more (by omega)]
    simp
theorem sum_map_add (f g : Int → Int) : ∀ ds : List Int, (ds.map fun d => f d + g d).sum = (ds.map f).sum + (ds.map g).sum
  | [] => rfl
  | d :: r => by
    rw [List.map_cons, List.map_cons, List.map_cons, List.sum_cons, List.sum_cons, List.sum_cons, sum_map_add f g r]
    omega
theorem total_has {x ss ds : List Int} {k n : Int} (h : Has x ss k.toNat) (k1 : 1 ≤ k) (hn : n = x.length) (c : Choice ds k n) :
    ss.getD 0 0 + (ds.map fun d => off ss k.toNat d.toNat).sum = (ds.map fun d => x.getD d.toNat 0).sum := by
  have e1 : (ds.map fun d => x.getD d.toNat 0) = ds.map fun d => off ss k.toNat d.toNat + x.getD (d % k).toNat 0 := by
    refine List.map_congr_left fun d hd => ?_
    have hd2 := c.inn d hd
    rw [off_has h _ (by omega), mod_nat hd2.1 k1]
    omega
  have e2 : (ds.map fun d => x.getD (d % k).toNat 0) = (ds.map fun d => d % k).map fun c => x.getD c.toNat 0 := by
    rw [List.map_map]
    rfl
  have e3 := perm_sum (c.all.map fun c => x.getD c.toNat 0)
  have e4 : (((List.range k.toNat).map fun (i : Nat) => (i : Int)).map fun c => x.getD c.toNat 0) = (List.range k.toNat).map fun i => x.getD i 0 := by
    rw [List.map_map]
    rfl
  have hl := h.len
  have hk2 := h.2.1
  rw [e1, sum_map_add, e2, e3, e4, win_range h.2.1, h.at (j := 0) (by omega)]
  omega
end Ws

set_option Elab.async false
set_option linter.all false
set_option maxRecDepth 100000
set_option maxHeartbeats 4000000
namespace Ws
open PySem PySem.Spec PyProof.Rows L2
theorem small5 {n : Nat} (h : n ≤ 100000) : n < sizeLine := by
  rw [sizeLine_eq]
  omega
theorem flat_rep {α : Type} (x : α) : ∀ k : Nat, (List.replicate k [x]).flatten = List.replicate k x
  | 0 => rfl
  | k + 1 => by
    rw [List.replicate_succ, List.flatten_cons, flat_rep x k, List.replicate_succ]
    rfl
/-- an integer within bounds -/
def wint (lo hi : Int) : V → Bool
  | .int i => decide (lo ≤ i) && decide (i ≤ hi)
  | _ => false
def spRowIn (K : PySem.W.Frag) : Sp := fun vs H Q _ => (∃ (a : Addr) (xs : List V) (c lo hi : Int), vs = [.ref a, .int c, .int lo, .int hi] ∧ SqL K H a xs ∧ xs.length ≤ 50000 ∧
    (∀ x ∈ xs, ∀ H', Same H H' → whole x = true ∨ Ti K H' x false) ∧ ∀ H', Same H H' → Q (.bl (decide ((xs.length : Int) = c) && xs.all (wint lo hi))) H') ∨
  ∃ (x : V) (t : String) (c lo hi : Int), vs = [x, .int c, .int lo, .int hi] ∧ TyB K H x t ∧ t ≠ "list" ∧ Q (.bl false) H
theorem all_wint {lo hi : Int} {ns : List Int} (h : Btw lo hi ns) : (ns.map V.int).all (wint lo hi) = true := by
  rw [List.all_eq_true]
  intro x hx
  obtain ⟨i, hi, rfl⟩ := List.mem_map.mp hx
  have := h i hi
  show (decide _ && decide _) = true
  rw [decide_eq_true this.1, decide_eq_true this.2]
  rfl
theorem whole_ints {K : PySem.W.Frag} {H : Hp} {ns : List Int} : ∀ x ∈ ns.map V.int, ∀ H', Same H H' → whole x = true ∨ Ti K H' x false := by
  intro x hx H' _
  obtain ⟨i, _, rfl⟩ := List.mem_map.mp hx
  exact .inl rfl
def spOffs (K : PySem.W.Frag) : Sp := fun vs H Q _ => ∃ (a : Addr) (ss : List Int) (k : Int), vs = [.ref a, .int k] ∧ SqL K H a (ss.map V.int) ∧
  1 ≤ ss.length ∧ 1 ≤ k ∧ k ≤ 8 ∧ k + ss.length ≤ 68 ∧
  ∀ H' p, Same H H' → H p = none → H' p = some (.lst ((offL ss k.toNat (ss.length + k.toNat - 1)).map V.int)) → Q (.ref p) H'
def spAreTied : Sp := fun vs H Q _ => ∃ a b k : Int, vs = [.int a, .int b, .int k] ∧ 1 ≤ k ∧ Q (.bl (decide ((b - a) % k = 0))) H
def spTotalAt (K : PySem.W.Frag) : Sp := fun vs H Q _ => ∃ (a o d : Addr) (ss ofs ds : List Int), vs = [.ref a, .ref o, .ref d] ∧ SqL K H a (ss.map V.int) ∧ SqL K H o (ofs.map V.int) ∧ SqL K H d (ds.map V.int) ∧
  1 ≤ ss.length ∧ (∀ x ∈ ds, 0 ≤ x ∧ x < ofs.length) ∧ ds.length ≤ 1000 ∧
  ∀ H', Same H H' → Q (.int (ss.getD 0 0 + (ds.map fun x => ofs.getD x.toNat 0).sum)) H'
/-- the list of the remainders below k, ascending -/
def upto (k : Int) : List Int := (List.range k.toNat).map fun (i : Nat) => (i : Int)
theorem rgV_upto (k : Int) : rgV 0 k = (upto k).map V.int := by
  unfold rgV upto
  rw [List.map_map, Int.sub_zero]
  refine List.map_congr_left fun i _ => ?_
  show V.int (0 + (i : Int)) = V.int (i : Int)
  rw [Int.zero_add]
theorem upto_asc (k : Int) : (upto k).Pairwise (· < ·) := by
  unfold upto
  exact pw_range_map (f := fun m => (m : Int)) fun i j h => Int.ofNat_lt.mpr h
theorem upto_len (k : Int) : (upto k).length = k.toNat := by
  unfold upto
  rw [List.length_map, List.length_range]
theorem perm_sorted_eq {xs ys : List Int} (hp : xs.Perm ys) (hx : xs.Pairwise (· ≤ ·)) (hy : ys.Pairwise (· ≤ ·)) : xs = ys := by
  refine List.Perm.eq_of_pairwise (le := (· ≤ ·)) ?_ hx hy hp
  intro a b _ _ h1 h2
  omega
/-- whether a list of ints is a choice of days, as the program judges -/
def chosen (ds : List Int) (k n : Int) : Bool := decide ((ds.length : Int) = k) && (ds.map V.int).all (wint 0 (n - 1)) && decide ((ds.map fun d => d % k).Perm (upto k))
theorem chosen_yes {ds : List Int} {k n : Int} (k1 : 1 ≤ k) (c : Choice ds k n) : chosen ds k n = true := by
  unfold chosen
  rw [decide_eq_true (by have := c.len; omega), all_wint (fun x hx => by have := c.inn x hx; omega)]
  show (true && true && decide _) = true
  rw [decide_eq_true (show (ds.map fun d => d % k).Perm (upto k) from c.all)]
  rfl
theorem chosen_inv {ds : List Int} {k n : Int} (h : chosen ds k n = true) : Choice ds k n := by
  unfold chosen at h
  rw [Bool.and_eq_true, Bool.and_eq_true] at h
  refine ⟨fun d hd => ?_, of_decide_eq_true h.2⟩
  have h2 := List.all_eq_true.mp h.1.2 (.int d) (List.mem_map.mpr ⟨d, hd, rfl⟩)
  have h3 : (decide (0 ≤ d) && decide (d ≤ n - 1)) = true := h2
  rw [Bool.and_eq_true, decide_eq_true_iff, decide_eq_true_iff] at h3
  omega
/-- any list of known things, or another thing -/
def spChoice (K : PySem.W.Frag) : Sp := fun vs H Q _ => (∃ (a : Addr) (ds : List Int) (k n : Int), vs = [.ref a, .int k, .int n] ∧ SqL K H a (ds.map V.int) ∧ ds.length ≤ 50000 ∧ 1 ≤ k ∧ k ≤ 8 ∧
    ∀ H', Same H H' → Q (.bl (chosen ds k n)) H') ∨
  (∃ (a : Addr) (xs : List V) (k n : Int), vs = [.ref a, .int k, .int n] ∧ SqL K H a xs ∧ xs.length ≤ 50000 ∧ (∀ x ∈ xs, ∀ H', Same H H' → whole x = true ∨ Ti K H' x false) ∧ (∃ x ∈ xs, whole x = false) ∧
    ∀ H', Same H H' → Q (.bl false) H') ∨
  ∃ (x : V) (t : String) (k n : Int), vs = [x, .int k, .int n] ∧ TyB K H x t ∧ t ≠ "list" ∧ Q (.bl false) H
def spChoiceOk (K : PySem.W.Frag) : Sp := fun vs H Q _ => ∃ (a : Addr) (ds : List Int) (k n : Int), vs = [.ref a, .int k, .int n] ∧ SqL K H a (ds.map V.int) ∧ 1 ≤ k ∧ k ≤ 8 ∧ Choice ds k n ∧
  ∀ H', Same H H' → Q .non H'
def spTie (K : PySem.W.Frag) : Sp := fun vs H Q _ => ∃ (a : Addr) (ss : List Int) (k x y : Int), vs = [.ref a, .int k, .int x, .int y] ∧ SqL K H a (ss.map V.int) ∧
  1 ≤ ss.length ∧ 1 ≤ k ∧ k ≤ 8 ∧ k + ss.length ≤ 68 ∧ 0 ≤ x ∧ x < ss.length + k - 1 ∧ 0 ≤ y ∧ y < ss.length + k - 1 ∧
  ∀ H', Same H H' → Q (if (y - x) % k = 0 then .int (off ss k.toNat y.toNat - off ss k.toNat x.toNat) else .non) H'
def spTotal (K : PySem.W.Frag) : Sp := fun vs H Q _ => ∃ (a d : Addr) (ss ds : List Int) (k : Int), vs = [.ref a, .int k, .ref d] ∧ SqL K H a (ss.map V.int) ∧ SqL K H d (ds.map V.int) ∧
  1 ≤ ss.length ∧ 1 ≤ k ∧ k ≤ 8 ∧ k + ss.length ≤ 68 ∧ Choice ds k (ss.length + k - 1) ∧
  ∀ H', Same H H' → Q (.int (ss.getD 0 0 + (ds.map fun x => off ss k.toNat x.toNat).sum)) H'
theorem cut_tail (ns : List Int) (i : Nat) : cutV (ns.map V.int) (some (i : Int)) none = (ns.drop i).map V.int := by
  unfold cutV
  rw [HT.sIx_nat, HT.sIx_none, List.length_map, List.map_drop]
  by_cases h : i ≤ ns.length
  · rw [Nat.min_eq_left h, List.take_of_length_le]
    rw [List.length_drop, List.length_map]
    exact Nat.le_refl _
  · have e1 : min i ns.length = ns.length := by omega
    rw [e1, Nat.sub_self, List.drop_of_length_le (i := i) (by rw [List.length_map]; omega)]
    simp
theorem cut_head (ns : List Int) (i : Nat) : cutV (ns.map V.int) none (some (i : Int)) = (ns.take i).map V.int := by
  unfold cutV
  rw [HT.sIx_nat, HT.sIx_none, List.length_map, List.drop_zero, List.map_take, Nat.sub_zero]
  by_cases h : i ≤ ns.length
  · rw [Nat.min_eq_left h]
  · have e1 : min i ns.length = ns.length := by omega
    rw [e1, List.take_of_length_le (i := ns.length) (by rw [List.length_map]; exact Nat.le_refl _), List.take_of_length_le (i := i) (by rw [List.length_map]; omega)]
end Ws

set_option Elab.async false
set_option linter.all false
set_option maxRecDepth 100000
set_option maxHeartbeats 4000000
namespace Ws
open PySem PySem.Spec PyProof.Rows L2
/-! ### all ways, gone through day by day -/
/-- the ways to go on from the days told so far -/
def nextW (ss : List Int) (k top d : Nat) (one : List Int) : List (List Int) :=
  if d + 1 < k then (List.range (top + 1)).map fun (p : Nat) => one ++ [(p : Int)]
  else if 0 ≤ ss.getD (d + 1 - k) 0 - (one.drop (d + 1 - k)).sum ∧ ss.getD (d + 1 - k) 0 - (one.drop (d + 1 - k)).sum ≤ top then
    [one ++ [ss.getD (d + 1 - k) 0 - (one.drop (d + 1 - k)).sum]] else []
def allW (ss : List Int) (k top : Nat) : Nat → List (List Int)
  | 0 => [[]]
  | d + 1 => (allW ss k top d).flatMap (nextW ss k top d)
/-- the first days of a way -/
structure Pre (x ss : List Int) (k top d : Nat) : Prop where
  len : x.length = d
  inn : Btw 0 top x
  has : ∀ j, j + k ≤ d → win x j k = ss.getD j 0
theorem win_snoc {x : List Int} {y : Int} {j k : Nat} (h : j + k ≤ x.length) : win (x ++ [y]) j k = win x j k := by
  unfold win
  rw [List.drop_append_of_le_length (by omega), List.take_append_of_le_length (by rw [List.length_drop]; omega)]
theorem win_last {x : List Int} {y : Int} {j k : Nat} (h : j + k = x.length + 1) (k1 : 1 ≤ k) : win (x ++ [y]) j k = (x.drop j).sum + y := by
  unfold win
  rw [List.drop_append_of_le_length (by omega), List.take_of_length_le (by rw [List.length_append, List.length_drop, List.length_singleton]; omega), sum_snoc]
theorem allW_pre {ss : List Int} {k top : Nat} (k1 : 1 ≤ k) : ∀ d x, x ∈ allW ss k top d → Pre x ss k top d
  | 0, x, h => by
    rw [allW, List.mem_singleton] at h
    subst h
    exact ⟨rfl, Btw.nil, fun j hj => by omega⟩
  | d + 1, x, h => by
    rw [allW, List.mem_flatMap] at h
    obtain ⟨one, h1, h2⟩ := h
    have p := allW_pre k1 d one h1
    unfold nextW at h2
    have more : ∀ y : Int, 0 ≤ y → y ≤ top → (∀ j, j + k = d + 1 → (one.drop j).sum + y = ss.getD j 0) → Pre (one ++ [y]) ss k top (d + 1) := fun y y0 y1 hy => by
      refine ⟨by rw [List.length_append, p.len]; rfl, p.inn.snoc y0 y1, fun j hj => ?_⟩
      by_cases e : j + k = d + 1
      · rw [win_last (by rw [p.len]; exact e) k1]
        exact hy j e
      · rw [win_snoc (by rw [p.len]; omega)]
        exact p.has j (by omega)
    split at h2
    · obtain ⟨q, hq, rfl⟩ := List.mem_map.mp h2
      have := List.mem_range.mp hq
      exact more q (by omega) (by omega) fun j hj => by omega
    · split at h2
      · rename_i hb
        rw [List.mem_singleton] at h2
        subst h2
        refine more _ hb.1 hb.2 fun j hj => ?_
        have e : d + 1 - k = j := by omega
        rw [e]
        omega
      · cases h2
theorem allW_mem {x ss : List Int} {k top n : Nat} (k1 : 1 ≤ k) (p : Pre x ss k top n) : ∀ d, d ≤ n → x.take d ∈ allW ss k top d
  | 0, _ => by
    rw [allW, List.take_zero]
    exact List.mem_singleton.mpr rfl
  | d + 1, h => by
    rw [allW, List.mem_flatMap]
    refine ⟨x.take d, allW_mem k1 p d (by omega), ?_⟩
    have hd : d < x.length := by rw [p.len]; omega
    have e : x.take (d + 1) = x.take d ++ [x[d]] := take_next (List.getElem?_eq_getElem hd)
    have hb := p.inn x[d] (List.getElem_mem hd)
    have ld : (x.take d).length = d := by rw [List.length_take]; omega
    unfold nextW
    rw [e]
    split
    · refine List.mem_map.mpr ⟨x[d].toNat, List.mem_range.mpr (by omega), ?_⟩
      have : ((x[d].toNat : Nat) : Int) = x[d] := by omega
      rw [this]
    · have hw := p.has (d + 1 - k) (by omega)
      have h2 : win (x.take d ++ [x[d]]) (d + 1 - k) k = ((x.take d).drop (d + 1 - k)).sum + x[d] := win_last (by rw [ld]; omega) k1
      have h3 : win (x.take (d + 1)) (d + 1 - k) k = win x (d + 1 - k) k := by
        unfold win
        rw [List.drop_take, List.take_take]
        congr 2
        omega
      rw [← e, h3, hw] at h2
      have h4 : ss.getD (d + 1 - k) 0 - ((x.take d).drop (d + 1 - k)).sum = x[d] := by omega
      rw [h4, if_pos (by omega)]
      exact List.mem_singleton.mpr rfl
theorem nextW_len (ss : List Int) (k top d : Nat) (one : List Int) : (nextW ss k top d one).length ≤ if d + 1 < k then top + 1 else 1 := by
  unfold nextW
  split
  · rw [List.length_map, List.length_range]
    exact Nat.le_refl _
  · split
    · exact Nat.le_refl _
    · exact Nat.zero_le _
theorem flat_len {α β : Type} (f : α → List β) (c : Nat) : ∀ l : List α, (∀ a ∈ l, (f a).length ≤ c) → (l.flatMap f).length ≤ l.length * c
  | [], _ => Nat.zero_le _
  | a :: r, h => by
    rw [List.flatMap_cons, List.length_append, List.length_cons, Nat.add_mul, Nat.one_mul]
    have := flat_len f c r fun b hb => h b (List.mem_cons_of_mem _ hb)
    have := h a List.mem_cons_self
    omega
theorem allW_len {ss : List Int} {k top : Nat} : ∀ d, (allW ss k top d).length ≤ (top + 1) ^ (min d (k - 1))
  | 0 => by
    rw [Nat.zero_min, Nat.pow_zero]
    exact Nat.le_refl _
  | d + 1 => by
    have ih := allW_len (ss := ss) (k := k) (top := top) d
    rw [allW]
    refine Nat.le_trans (flat_len _ (if d + 1 < k then top + 1 else 1) _ fun a _ => nextW_len ss k top d a) ?_
    split
    · have e : min (d + 1) (k - 1) = min d (k - 1) + 1 := by omega
      rw [e, Nat.pow_succ]
      exact Nat.mul_le_mul ih (Nat.le_refl _)
    · have e : min (d + 1) (k - 1) = min d (k - 1) := by omega
      rw [e, Nat.mul_one]
      exact ih
theorem allW_small {ss : List Int} {k top d B : Nat} (h : (top + 1) ^ (k - 1) ≤ B) : (allW ss k top d).length ≤ B :=
  Nat.le_trans (allW_len d) (Nat.le_trans (Nat.pow_le_pow_right (by omega) (Nat.min_le_right _ _)) h)
/-! ### lists of lists of ints in a heap -/
def Rows (H : Hp) (as : List Addr) (ls : List (List Int)) : Prop := as.length = ls.length ∧ ∀ (i : Nat) (a : Addr) (l : List Int), as[i]? = some a → ls[i]? = some l → H a = some (.lst (l.map V.int))
theorem Rows.nil {H : Hp} : Rows H [] [] := ⟨rfl, fun i a l h _ => by simp at h⟩
theorem Rows.up {H H' : Hp} {as : List Addr} {ls : List (List Int)} (h : Rows H as ls) (s : Same H H') : Rows H' as ls := ⟨h.1, fun i a l h1 h2 => s _ _ (h.2 i a l h1 h2)⟩
theorem Rows.snoc {H : Hp} {as : List Addr} {ls : List (List Int)} {r : Addr} {l : List Int} (h : Rows H as ls) (hr : H r = some (.lst (l.map V.int))) : Rows H (as ++ [r]) (ls ++ [l]) := by
  refine ⟨by rw [List.length_append, List.length_append, h.1]; rfl, fun i a m h1 h2 => ?_⟩
  by_cases hi : i < as.length
  · rw [List.getElem?_append_left hi] at h1
    rw [List.getElem?_append_left (by rw [← h.1]; exact hi)] at h2
    exact h.2 i a m h1 h2
  · rw [List.getElem?_append_right (by omega)] at h1
    rw [List.getElem?_append_right (by rw [← h.1]; omega), ← h.1] at h2
    cases e : i - as.length with
    | zero =>
      rw [e] at h1 h2
      cases h1
      cases h2
      exact hr
    | succ z =>
      rw [e] at h1
      simp at h1
theorem Rows.get {H : Hp} {as : List Addr} {ls : List (List Int)} {i : Nat} {x : V} (h : Rows H as ls) (hx : (as.map V.ref)[i]? = some x) :
    ∃ a l, x = .ref a ∧ ls[i]? = some l ∧ H a = some (.lst (l.map V.int)) := by
  rw [List.getElem?_map] at hx
  cases e : as[i]? with
  | none => rw [e] at hx; cases hx
  | some a =>
    rw [e] at hx
    have hi : i < ls.length := by
      rw [← h.1]
      exact (List.getElem?_eq_some_iff.mp e).1
    exact ⟨a, ls[i], (Option.some.inj hx).symm, List.getElem?_eq_getElem hi, h.2 i a _ e (List.getElem?_eq_getElem hi)⟩
/-- a list that grows: its rows stand apart from it -/
def Grow (H0 H : Hp) (q : Addr) (ls : List (List Int)) : Prop := ∃ as : List Addr, H q = some (.lst (as.map V.ref)) ∧ Rows (cut q H) as ls ∧ ∀ a ∈ as, H0 a = none
theorem cut_put {q : Addr} {H : Hp} {o : HO} : cut q (upd H q o) = cut q H := by
  funext b
  unfold cut
  split
  · rfl
  · rename_i n
    exact upd_ne n
theorem Grow.new {H0 H : Hp} {q : Addr} : Grow H0 (upd H q (.lst [])) q [] := ⟨[], upd_same, Rows.nil, fun a h => absurd h List.not_mem_nil⟩
theorem Grow.same {H0 H H' : Hp} {q : Addr} {ls : List (List Int)} (h : Grow H0 H q ls) (s : Same H H') : Grow H0 H' q ls := by
  obtain ⟨as, h1, h2, h3⟩ := h
  exact ⟨as, s _ _ h1, h2.up (cut_mono s), h3⟩
/-- one more row -/
theorem Grow.put {H0 H : Hp} {q r : Addr} {ls : List (List Int)} {as : List Addr} {l : List Int} (h1 : H q = some (.lst (as.map V.ref))) (h2 : Rows (cut q H) as ls) (h3 : ∀ a ∈ as, H0 a = none) (n : r ≠ q) (fr : H0 r = none) (hr : H r = some (.lst (l.map V.int))) :
    Grow H0 (upd H q (.lst (as.map V.ref ++ [V.ref r]))) q (ls ++ [l]) := by
  refine ⟨as ++ [r], ?_, ?_, fun a ha => ?_⟩
  · rw [upd_same, List.map_append]
    rfl
  · rw [cut_put]
    exact h2.snoc (by rw [cut_ne n]; exact hr)
  · rcases List.mem_append.mp ha with z | z
    · exact h3 a z
    · rw [List.mem_singleton.mp z]
      exact fr
theorem Grow.rows {H0 H : Hp} {q : Addr} {ls : List (List Int)} (h : Grow H0 H q ls) : ∃ as : List Addr, H q = some (.lst (as.map V.ref)) ∧ Rows H as ls ∧ ∀ a ∈ as, H0 a = none := by
  obtain ⟨as, h1, h2, h3⟩ := h
  exact ⟨as, h1, h2.up cut_sub, h3⟩
theorem flat_take {α β : Type} (f : α → List β) {l : List α} {i : Nat} {x : α} (h : l[i]? = some x) : (l.take (i + 1)).flatMap f = (l.take i).flatMap f ++ f x := by
  rw [take_next h, List.flatMap_append]
  simp
def spAll (K : PySem.W.Frag) : Sp := fun vs H Q _ => ∃ (a : Addr) (ss : List Int) (k t : Int), vs = [.ref a, .int k, .int t] ∧ SqL K H a (ss.map V.int) ∧ 1 ≤ ss.length ∧ 1 ≤ k ∧ k ≤ 8 ∧ ss.length ≤ 100 ∧ 0 ≤ t ∧
  t ≤ 1000 ∧ (t.toNat + 1) ^ (k.toNat - 1) ≤ 1000 ∧
  ∀ H' p, Same H H' → H p = none → Grow H H' p (allW ss k.toNat t.toNat (ss.length + k.toNat - 1)) → Q (.ref p) H'
end Ws

set_option Elab.async false
set_option linter.all false
set_option maxRecDepth 100000
set_option maxHeartbeats 4000000
namespace Ws
open PySem PySem.Spec PyProof.Rows L2
/-! ### one day of each class, drawn -/
def spSmall : Sp := fun vs H Q _ => ∃ (J : Addr) (n : Int), vs = [.ref J] ∧ Jar H J n ∧ n ≤ 900000000 ∧
  ∀ H' p (k t c : Int), Fr J H H' → Jar H' J (n + 3) → H p = none → H' p = some (.tup [.int k, .int t, .int c]) → 1 ≤ k → k ≤ 4 → 0 ≤ t → t ≤ 8 → (t.toNat + 1) ^ (k.toNat - 1) ≤ 1000 → k ≤ c → c ≤ k + 6 → Q (.ref p) H'
def spClasses : Sp := fun vs H Q _ => ∃ (J : Addr) (c k n : Int), vs = [.ref J, .int c, .int k] ∧ Jar H J n ∧ n ≤ 900000000 ∧ 1 ≤ k ∧ k ≤ 8 ∧ k ≤ c ∧ c ≤ 1000 ∧
  ∀ H' p ds, Fr J H H' → Jar H' J (n + 2 * k) → H p = none → H' p = some (.lst (ds.map V.int)) → Choice ds k c → Q (.ref p) H'
theorem seqIx {i : Int} {n : Nat} (h0 : 0 ≤ i) (h1 : i < n) : seqIndex? i n = some i.toNat := by
  have e : (if i < 0 then i + (n : Int) else i) = i := if_neg (by omega)
  unfold seqIndex?
  simp only [e]
  rw [decide_eq_true h0, decide_eq_true h1]
  rfl
theorem perm_pop {α : Type} : ∀ (l : List α) (i : Nat) (x : α), l[i]? = some x → (x :: l.eraseIdx i).Perm l
  | [], i, x, h => by simp at h
  | a :: r, 0, x, h => by
    cases h
    exact List.Perm.refl _
  | a :: r, i + 1, x, h => by
    rw [List.eraseIdx_cons_succ]
    exact (List.Perm.swap a x _).trans ((perm_pop r i x h).cons a)
/-- what is found and what is left -/
structure Part (fs ls : List Int) (k c : Int) : Prop where
  inn : ∀ d ∈ fs, 0 ≤ d ∧ d < c
  all : ((fs.map fun d => d % k) ++ ls).Perm (upto k)
theorem Part.start {k c : Int} : Part [] (upto k) k c := ⟨(fun d h => absurd h List.not_mem_nil), List.Perm.refl _⟩
theorem Part.len {fs ls : List Int} {k c : Int} (p : Part fs ls k c) : fs.length + ls.length = k.toNat := by
  have := p.all.length_eq
  rw [List.length_append, List.length_map, upto_len] at this
  exact this
theorem Part.left {fs ls : List Int} {k c r : Int} (p : Part fs ls k c) (h : r ∈ ls) : 0 ≤ r ∧ r < k := by
  have := p.all.mem_iff.mp (List.mem_append_right _ h)
  unfold upto at this
  obtain ⟨i, hi, rfl⟩ := List.mem_map.mp this
  have := List.mem_range.mp hi
  omega
theorem Part.step {fs ls : List Int} {k c r d : Int} {i : Nat} (p : Part fs ls k c) (h : ls[i]? = some r) (hd : d % k = r) (d0 : 0 ≤ d) (d1 : d < c) : Part (fs ++ [d]) (ls.eraseIdx i) k c := by
  refine ⟨fun x hx => ?_, ?_⟩
  · rcases List.mem_append.mp hx with z | z
    · exact p.inn x z
    · rw [List.mem_singleton.mp z]
      exact ⟨d0, d1⟩
  · rw [List.map_append, List.append_assoc]
    refine List.Perm.trans ?_ p.all
    refine List.Perm.append_left _ ?_
    show (d % k :: ls.eraseIdx i).Perm ls
    rw [hd]
    exact perm_pop ls i r h
theorem Part.done {fs : List Int} {k c : Int} (p : Part fs [] k c) : Choice fs k c := ⟨p.inn, by
  have := p.all
  rw [List.append_nil] at this
  exact this⟩
theorem picked_get {n : Nat} {p : Int → Bool} {i : Nat} (h : i < (picked n p).length) : ∃ z, (picked n p)[i]? = some z ∧ 0 ≤ z ∧ z < n ∧ p z = true := by
  have e := List.getElem?_eq_getElem h
  exact ⟨_, e, mem_picked.mp (List.mem_of_getElem? e)⟩
theorem picked_ne {n : Nat} {p : Int → Bool} {z : Int} (h0 : 0 ≤ z) (h1 : z < n) (h2 : p z = true) : 1 ≤ (picked n p).length :=
  List.length_pos_of_mem (mem_picked.mpr ⟨h0, h1, h2⟩)
theorem erase_ints (ns : List Int) (j : Nat) : (ns.map V.int).eraseIdx j = (ns.eraseIdx j).map V.int := map_eraseIdx' V.int ns j
/-- a way has the sums -/
theorem Pre.sums {x ss : List Int} {k top : Nat} (p : Pre x ss k top (ss.length + k - 1)) (s1 : 1 ≤ ss.length) (k1 : 1 ≤ k) : Has x ss k := by
  have hl := p.len
  refine ⟨k1, by omega, ?_⟩
  refine List.ext_getElem? fun i => ?_
  by_cases hi : i < ss.length
  · have h := p.has i (by omega)
    rw [wsums_get (by omega), List.getElem?_eq_getElem hi]
    unfold win at h
    rw [h, List.getD_eq_getElem?_getD, List.getElem?_eq_getElem hi]
    rfl
  · rw [List.getElem?_eq_none (by rw [wsums_len]; omega), List.getElem?_eq_none (by omega)]
theorem Pre.of {x : List Int} {k top : Nat} (k1 : 1 ≤ k) (kn : k ≤ x.length) (h : Btw 0 top x) : Pre x (wsums x k) k top ((wsums x k).length + k - 1) := by
  have wl := wsums_len x k
  refine ⟨by omega, h, fun j hj => ?_⟩
  rw [List.getD_eq_getElem?_getD, wsums_get (by omega)]
  rfl
/-- all ways of sums that a list has are at least one -/
theorem allW_some {x : List Int} {k top : Nat} (k1 : 1 ≤ k) (kn : k ≤ x.length) (h : Btw 0 top x) : 1 ≤ (allW (wsums x k) k top ((wsums x k).length + k - 1)).length := by
  have p := Pre.of k1 kn h
  exact List.length_pos_of_mem (allW_mem k1 p _ (Nat.le_refl _))
/-- four keywords in the opposite sequence -/
def gR4 {α : Type} : List α → List α → List α
  | [], [a, b, c, d] => [d, c, b, a]
  | _, _ => []
theorem rel_R4 {vs zs : List V} {us ws : List Value} (r : Vals vs us) (q : Vals zs ws) : Vals (gR4 vs zs) (gR4 us ws) := by
  cases r with
  | cons _ _ => exact .nil
  | nil =>
    cases q with
    | nil => exact .nil
    | cons a q =>
      cases q with
      | nil => exact .nil
      | cons b q =>
        cases q with
        | nil => exact .nil
        | cons c q =>
          cases q with
          | nil => exact .nil
          | cons d q =>
            cases q with
            | nil => exact .cons d (.cons c (.cons b (.cons a .nil)))
            | cons _ _ => exact .nil
theorem R4_inv {α : Type} {us ws : List α} (h : (gR4 us ws).length = 4) : ∃ a b c d, us = [] ∧ ws = [a, b, c, d] := by
  match us, ws, h with
  | [], [a, b, c, d], _ => exact ⟨a, b, c, d, rfl, rfl⟩
end Ws

set_option Elab.async false
set_option linter.all false
set_option maxRecDepth 100000
set_option maxHeartbeats 4000000
namespace Ws
open PySem PySem.Spec PyProof.Rows L2
/-! ### types of things, errors among them -/
def rTypX (K : PySem.W.Frag) : List V → Hp → VK → Prop := fun xs H Q => ∃ x, xs = [x] ∧ ((∃ T, TyB K H x T ∧ Q (.ty T) H) ∨ ∃ a C, x = .ref a ∧ H a = some (ExO (.ref C) a) ∧ Q (.ref C) H)
section
variable {X : Cx} {K : PySem.W.Frag}
theorem typX (h : X.K = K := by rfl) : CallR X (.type "type") (rTypX K) := by
  subst h
  intro pins s σ H xs us Q I r hh
  obtain ⟨x, rfl, ⟨T, t, q⟩ | ⟨a, C, rfl, ha, q⟩⟩ := hh
  · exact call_type1 pins s σ H _ us Q I r ⟨x, T, rfl, t, q⟩
  · obtain ⟨u, rfl, rx⟩ := vals1 r
    cases (show u = Value.ref a from rx)
    obtain ⟨⟨oe, vs, ho, hz, _⟩, _, _⟩ := I.hok a _ ha
    have hc : oe.cls = .ref C := hz.1
    exact call_type_obj ho (by rw [hc]; rfl) (by rw [hc]; exact ⟨.ref C, H, I, rfl, q⟩)
def rNotTyX : R2 := fun x y H Q => (∃ m n, x = .ty m ∧ y = .ty n ∧ Q (.bl (!decide (m = n))) H) ∨ ∃ a n, x = .ref a ∧ y = .ty n ∧ Q (.bl true) H
theorem notTyX : OpR X (compareOp .IsNot) rNotTyX := by
  intro pins s σ H x y v u Q I rx ry h
  rcases h with h | ⟨a, n, rfl, rfl, q⟩
  · exact op_isNotTy pins s σ H x y v u Q I rx ry h
  · cases (show v = Value.ref a from rx)
    cases (show u = Value.type n from ry)
    exact wpAny_isNot_plain rfl (fin_bl I q rfl)
end
/-! ### things that are no ways -/
/-- an item that is no integer -/
def Odd (K : PySem.W.Frag) (H : Hp) (x : V) : Prop := ∀ H', Same H H' → Ti K H' x false
theorem Odd.up {K : PySem.W.Frag} {H H' : Hp} {x : V} (h : Odd K H x) (s : Same H H') : Odd K H' x := fun H2 t => h H2 (s.trans t)
theorem Odd.non {K : PySem.W.Frag} {H : Hp} : Odd K H .non := fun _ _ => Ti.non
theorem Odd.str {K : PySem.W.Frag} {H : Hp} (x : Str) : Odd K H (.str x) := fun _ _ => Ti.str x
theorem Odd.bl {K : PySem.W.Frag} {H : Hp} (x : Bool) : Odd K H (.bl x) := fun _ _ => Ti.bl x
theorem Odd.lst {K : PySem.W.Frag} {H : Hp} {a : Addr} {xs : List V} (h : H a = some (.lst xs)) : Odd K H (.ref a) := fun H' s => Ti.no (.base (.lst (s _ _ h))) (kit_ty (by decide +kernel))
theorem Odd.tup {K : PySem.W.Frag} {H : Hp} {a : Addr} {xs : List V} (h : H a = some (.tup xs)) : Odd K H (.ref a) := fun H' s => Ti.no (.base (.tup (s _ _ h))) (kit_ty (by decide +kernel))
theorem TyB.up {K : PySem.W.Frag} {H H' : Hp} {x : V} {T : String} (h : TyB K H x T) (s : Same H H') : TyB K H' x T := by
  cases h with
  | non => exact .non
  | bl b => exact .bl b
  | int i => exact .int i
  | str y => exact .str y
  | byt b => exact .byt b
  | lst h => exact .lst (Same.seq s h)
  | tup h => exact .tup (Evl.ex_t s h)
  | dK h => exact .dK (s _ _ h)
/-- a thing that is no row of n integers -/
def Bad (K : PySem.W.Frag) (H : Hp) (n : Int) (x : V) : Prop :=
  (∃ a xs, x = .ref a ∧ H a = some (.lst xs) ∧ xs.length ≤ 50000 ∧ (∀ y ∈ xs, whole y = true ∨ Odd K H y) ∧ ((xs.length : Int) ≠ n ∨ ∃ y ∈ xs, whole y = false)) ∨
  (∃ T, TyB K H x T ∧ T ≠ "list") ∨ ∃ a C, x = .ref a ∧ H a = some (ExO (.ref C) a)
theorem Bad.up {K : PySem.W.Frag} {H H' : Hp} {n : Int} {x : V} (h : Bad K H n x) (s : Same H H') : Bad K H' n x := by
  rcases h with ⟨a, xs, e, h1, h2, h3, h4⟩ | ⟨T, h1, h2⟩ | ⟨a, C, e, h1⟩
  · exact .inl ⟨a, xs, e, s _ _ h1, h2, fun y hy => (h3 y hy).imp id fun o => o.up s, h4⟩
  · exact .inr (.inl ⟨T, TyB.up h1 s, h2⟩)
  · exact .inr (.inr ⟨a, C, e, s _ _ h1⟩)
def spRowInX (K : PySem.W.Frag) : Sp := fun vs H Q E => spRowIn K vs H Q E ∨ ∃ (a C : Addr) (c lo hi : Int), vs = [.ref a, .int c, .int lo, .int hi] ∧ H a = some (ExO (.ref C) a) ∧ Q (.bl false) H
def spMostOk : Sp := fun vs H Q _ => ∃ t : Int, vs = [.int t] ∧ 0 ≤ t ∧ t ≤ 999999999999999999999999999999 ∧ Q .non H
def spToldOk (K : PySem.W.Frag) : Sp := fun vs H Q _ => ∃ (a : Addr) (ss : List Int) (k t : Int), vs = [.ref a, .int k, .int t] ∧ SqL K H a (ss.map V.int) ∧
  1 ≤ ss.length ∧ 1 ≤ k ∧ k ≤ 8 ∧ k + ss.length ≤ 68 ∧ 0 ≤ t ∧ t ≤ 999999999999999999999999999999 ∧ ∀ H', Same H H' → Q .non H'
/-- whether numbers are a way -/
def isw (ss : List Int) (k t : Int) (ns : List Int) : Bool := (decide ((ns.length : Int) = ss.length + k - 1) && (ns.map V.int).all (wint 0 t)) && decide (wsums ns k.toNat = ss)
def spIsWay (K : PySem.W.Frag) : Sp := fun vs H Q _ => ∃ (a : Addr) (ss : List Int) (k t : Int) (x : V), vs = [.ref a, .int k, .int t, x] ∧ SqL K H a (ss.map V.int) ∧
  1 ≤ ss.length ∧ 1 ≤ k ∧ k ≤ 8 ∧ k + ss.length ≤ 68 ∧ 0 ≤ t ∧ t ≤ 999999999999999999999999999999 ∧
  ((∃ b ns, x = .ref b ∧ SqL K H b (ns.map V.int) ∧ ns.length ≤ 50000 ∧ ∀ H', Same H H' → Q (.bl (isw ss k t ns)) H') ∨ (Bad K H (ss.length + k - 1) x ∧ ∀ H', Same H H' → Q (.bl false) H'))
/-- numbers out of bounds -/
def outs (t : Int) (ns : List Int) : List Int := ns.filter fun x => decide (x < 0) || decide (t < x)
theorem outs_nil {t : Int} {ns : List Int} : decide (outs t ns = []) = (ns.map V.int).all (wint 0 t) := by
  rw [Bool.eq_iff_iff, decide_eq_true_iff, List.all_map, List.all_eq_true]
  unfold outs
  rw [List.filter_eq_nil_iff]
  refine forall_congr' fun x => forall_congr' fun _ => ?_
  show ¬ (decide (x < 0) || decide (t < x)) = true ↔ (decide (0 ≤ x) && decide (x ≤ t)) = true
  rw [Bool.or_eq_true, Bool.and_eq_true, decide_eq_true_iff, decide_eq_true_iff, decide_eq_true_iff, decide_eq_true_iff]
  omega
theorem outs_yes {t : Int} {ns : List Int} {i : Nat} {x : Int} (h : ns[i]? = some x) (p : (decide (x < 0) || decide (t < x)) = true) : outs t (ns.take (i + 1)) = outs t (ns.take i) ++ [x] := by
  unfold outs
  rw [take_next h, List.filter_append]
  exact congrArg _ (List.filter_cons_of_pos (l := []) p)
theorem outs_no {t : Int} {ns : List Int} {i : Nat} {x : Int} (h : ns[i]? = some x) (p : (decide (x < 0) || decide (t < x)) = false) : outs t (ns.take (i + 1)) = outs t (ns.take i) := by
  unfold outs
  rw [take_next h, List.filter_append]
  have e : [x].filter (fun x => decide (x < 0) || decide (t < x)) = [] := List.filter_cons_of_neg (l := []) (by rw [p]; exact Bool.false_ne_true)
  rw [e, List.append_nil]
theorem outs_len (t : Int) (ns : List Int) : (outs t ns).length ≤ ns.length := List.length_filter_le _ _
def spDue (K : PySem.W.Frag) : Sp := fun vs H Q _ => ∃ (a b : Addr) (ns ss : List Int) (k t : Int), vs = [.ref a, .ref b, .int k, .int t] ∧ SqL K H a (ns.map V.int) ∧ SqL K H b (ss.map V.int) ∧
  1 ≤ ss.length ∧ 1 ≤ k ∧ ns.length ≤ 1000 ∧ ∀ H', Same H H' → Q (.bl (isw ss k t ns)) H'
def spChanged (K : PySem.W.Frag) : Sp := fun vs H Q _ => ∃ (J a : Addr) (ns : List Int) (k n : Int), vs = [.ref J, .ref a, .int k] ∧ Jar H J n ∧ n ≤ 900000000 ∧ SqL K (cut J H) a (ns.map V.int) ∧ 1 ≤ ns.length ∧ ns.length ≤ 67 ∧ 1 ≤ k ∧
  ∀ (H' : Hp) (p : Addr) (ms : List Int), Fr J H H' → Jar H' J (n + 3) → H p = none → H' p = some (.lst ((ms : List Int).map V.int)) → (ms : List Int).length ≤ 68 → Q (.ref p) H'
theorem cut_ints (ns : List Int) (a b : Option Int) : ∃ ms : List Int, cutV (ns.map V.int) a b = ms.map V.int ∧ ms.length ≤ ns.length := by
  unfold cutV
  rw [← List.map_drop, ← List.map_take]
  exact ⟨_, rfl, by rw [List.length_take, List.length_drop]; omega⟩
theorem set_ints (ns : List Int) (j : Nat) (x : Int) : (ns.map V.int).set j (.int x) = (ns.set j x).map V.int := by
  rw [List.map_set]
theorem ixN_in {n : Nat} {i : Int} {j : Nat} (e : i = (j : Int)) (h : j < n) : ixN n i = some j := by
  rw [e]
  unfold ixN
  rw [if_pos (by omega), if_pos (by omega)]
  rfl
/-- two lists of ints, printed -/
theorem shw_two {ns ms : List Int} (h1 : Sml ns) (h2 : Sml ms) (l1 : ns.length ≤ 1000) (l2 : ms.length ≤ 1000) : Shw (.list [dI ns, dI ms]) := by
  have a := shw_ints h1 l1
  have b := shw_ints h2 l2
  refine shw_of ?_ ?_ ?_ ?_
  · have a1 := a.1
    have b1 := b.1
    simp only [PyData.showable, PyData.showableAll] at a1 b1 ⊢
    rw [a1, b1]
    rfl
  · simp only [PyData.hasDict, PyData.hasDictAll, dI, hasDict_ints]
    rfl
  · have c1 := cst_ints ns h1
    have c2 := cst_ints ms h2
    have e1 : ns.length * (1000 + 5) ≤ 1000 * 1005 := Nat.mul_le_mul l1 (Nat.le_refl _)
    have e2 : ms.length * (1000 + 5) ≤ 1000 * 1005 := Nat.mul_le_mul l2 (Nat.le_refl _)
    show (cstA (ns.map PyData.int) + 4) + 2 + ((cstA (ms.map PyData.int) + 4) + 2 + 0) + 4 ≤ _
    omega
  · have d1 : (dI ns).depth = 1 := by
      show PyData.depthAll (ns.map PyData.int) + 1 = 1
      rw [depth_ints]
    have d2 : (dI ms).depth = 1 := by
      show PyData.depthAll (ms.map PyData.int) + 1 = 1
      rw [depth_ints]
    simp only [PyData.depth, PyData.depthAll] at d1 d2 ⊢
    omega
end Ws
namespace Ws
open PySem PySem.Spec PyProof.Rows L2
/-- a new object, its heap named anew -/
@[elab_as_elim] theorem lay {motive : Hp → Prop} (G : Hp) {H : Hp} {p : Addr} {o : HO} (e : G = upd H p o) (h : H p = none) (k : ∀ G, Same H G → G p = some o → motive G) : motive G := by
  subst e
  exact k _ (Same.new h) upd_same
theorem cut_two {O J : Addr} {H H' : Hp} (s : Same H H') : Same (cut O (cut J H)) (cut O (cut J H')) := cut_mono (cut_mono s)
theorem cut_two_put {O J : Addr} {H : Hp} {o : HO} : cut O (cut J (upd H O o)) = cut O (cut J H) := by
  funext b
  unfold cut
  split
  · rfl
  · rename_i n
    split
    · rfl
    · exact upd_ne n
theorem cut_two_some {O J b : Addr} {H : Hp} {o : HO} (h : cut O (cut J H) b = some o) : H b = some o := (cut_some (cut_some h).2).2
theorem cut_two_of {O J b : Addr} {H : Hp} {o : HO} (h : H b = some o) (n : b ≠ O) (m : b ≠ J) : cut O (cut J H) b = some o := by
  rw [cut_ne n, cut_ne m]
  exact h
/-- behind a list that is new, too -/
theorem Fr.over {O J : Addr} {H H' H2 : Hp} (f : Fr J H H') (hO : H O = none) (s : Same (cut O (cut J H')) (cut O (cut J H2))) : Fr J H H2 := fun b o e => by
  have n : b ≠ O := fun z => by
    have := (cut_some e).2
    rw [z, hO] at this
    cases this
  have h1 := f b o e
  have h2 := s b o (by rw [cut_ne n]; exact h1)
  exact (cut_some h2).2
theorem DpAll.same {K : PySem.W.Frag} {H : Hp} {x : V} {d : PyData} (h : Dp K H x d) : ∀ n, DpAll K H (List.replicate n x) (List.replicate n d)
  | 0 => .nil
  | n + 1 => .cons h (DpAll.same h n)
theorem shw_bool (b : Bool) : Shw (.bool b) := shw_of rfl rfl (by show 8 ≤ _; decide) (by show 0 ≤ 60; decide)
end Ws
namespace Ws
open PySem PySem.Spec PyProof.Rows L2
theorem Fr.over2 {O J : Addr} {H H' H2 : Hp} (f : Fr J H H') (hO : H O = none) (s : Fr O H' H2) : Fr J H H2 := fun b o e => by
  have n : b ≠ O := fun z => by
    have := (cut_some e).2
    rw [z, hO] at this
    cases this
  obtain ⟨m, h1⟩ := cut_some (f b o e)
  rw [cut_ne m]
  exact s.get n h1
theorem Jar.fr {H H' : Hp} {J p : Addr} {n : Int} (h : Jar H J n) (f : Fr p H H') (hp : J ≠ p) : Jar H' J n := by
  obtain ⟨a, b, c, h1, h2⟩ := h
  exact ⟨a, b, c, f.get hp h1, h2⟩
theorem picked_in {n : Nat} {p : Int → Bool} {i : Nat} {x : V} (h : ((picked n p).map V.int)[i]? = some x) : ∃ z : Int, x = .int z ∧ 0 ≤ z ∧ z < n := by
  obtain ⟨y, hy, rfl⟩ := int_at h
  have := mem_picked.mp (List.mem_of_getElem? hy)
  exact ⟨y, rfl, this.1, this.2.1⟩
end Ws

set_option Elab.async false
set_option linter.all false
set_option maxRecDepth 100000
set_option maxHeartbeats 4000000
namespace K04
open PySem PySem.Spec PyProof.Rows L2 Ws
def topS (i : Nat) : Stmt := PySem.Challenge.pw_weeksums_k04_ways_judged.main.body.getD i (.Pass ⟨0, 0, 0, 0⟩)
abbrev s_is_integer : Stmt := topS 10
theorem sc_is_integer : FnScope ["thing"] ["thing"] (defScope s_is_integer) := ⟨rfl, rfl, rfl, by decide +kernel, rfl, by decide +kernel, by decide +kernel⟩
abbrev s_is_within : Stmt := topS 11
theorem sc_is_within : FnScope ["thing", "low", "high"] ["thing", "low", "high"] (defScope s_is_within) := ⟨rfl, rfl, rfl, by decide +kernel, rfl, by decide +kernel, by decide +kernel⟩
abbrev s_is_row : Stmt := topS 12
theorem sc_is_row : FnScope ["thing", "many", "item"] ["thing", "many"] (defScope s_is_row) := ⟨rfl, rfl, rfl, by decide +kernel, rfl, by decide +kernel, by decide +kernel⟩
abbrev s_is_row_within : Stmt := topS 13
theorem sc_is_row_within : FnScope ["thing", "count", "low", "high", "item"] ["thing", "count", "low", "high"] (defScope s_is_row_within) := ⟨rfl, rfl, rfl, by decide +kernel, rfl, by decide +kernel, by decide +kernel⟩
abbrev s_check_row_of_sums : Stmt := topS 14
theorem sc_check_row_of_sums : FnScope ["sums"] ["sums"] (defScope s_check_row_of_sums) := ⟨rfl, rfl, rfl, by decide +kernel, rfl, by decide +kernel, by decide +kernel⟩
abbrev s_check_sums : Stmt := topS 15
theorem sc_check_sums : FnScope ["sums", "length"] ["sums", "length"] (defScope s_check_sums) := ⟨rfl, rfl, rfl, by decide +kernel, rfl, by decide +kernel, by decide +kernel⟩
abbrev s_check_most : Stmt := topS 16
theorem sc_check_most : FnScope ["most"] ["most"] (defScope s_check_most) := ⟨rfl, rfl, rfl, by decide +kernel, rfl, by decide +kernel, by decide +kernel⟩
abbrev s_row_sums : Stmt := topS 18
theorem sc_row_sums : FnScope ["numbers", "length", "day"] ["numbers", "length"] (defScope s_row_sums) := ⟨rfl, rfl, rfl, by decide +kernel, rfl, by decide +kernel, by decide +kernel⟩
abbrev s_is_way : Stmt := topS 20
theorem sc_is_way : FnScope ["sums", "length", "most", "thing"] ["sums", "length", "most", "thing"] (defScope s_is_way) := ⟨rfl, rfl, rfl, by decide +kernel, rfl, by decide +kernel, by decide +kernel⟩
abbrev s_check_told : Stmt := topS 21
theorem sc_check_told : FnScope ["sums", "length", "most"] ["sums", "length", "most"] (defScope s_check_told) := ⟨rfl, rfl, rfl, by decide +kernel, rfl, by decide +kernel, by decide +kernel⟩
abbrev s__law_jar : Stmt := topS 23
theorem sc__law_jar : FnScope ["script", "k", "cell_here"] ["script", "k"] (defScope s__law_jar) := ⟨rfl, rfl, rfl, by decide +kernel, rfl, by decide +kernel, by decide +kernel⟩
abbrev s__law_dip : Stmt := topS 24
theorem sc__law_dip : FnScope ["jar", "many", "digit", "mixed"] ["jar", "many"] (defScope s__law_dip) := ⟨rfl, rfl, rfl, by decide +kernel, rfl, by decide +kernel, by decide +kernel⟩
abbrev s__law_sums : Stmt := topS 25
theorem sc__law_sums : FnScope ["numbers_here", "size", "found", "place_here", "total", "spot"] ["numbers_here", "size"] (defScope s__law_sums) := ⟨rfl, rfl, rfl, by decide +kernel, rfl, by decide +kernel, by decide +kernel⟩
abbrev s__law_days : Stmt := topS 26
theorem sc__law_days : FnScope ["jar", "many", "top", "way_here", "found", "turn", "one"] ["jar", "many", "top"] (defScope s__law_days) := ⟨rfl, rfl, rfl, by decide +kernel, rfl, by decide +kernel, by decide +kernel⟩
abbrev s__law_top : Stmt := topS 27
theorem sc__law_top : FnScope ["jar", "way_here"] ["jar"] (defScope s__law_top) := ⟨rfl, rfl, rfl, by decide +kernel, rfl, by decide +kernel, by decide +kernel⟩
abbrev s__law_high : Stmt := topS 28
theorem sc__law_high : FnScope ["jar", "parts", "top"] ["jar", "parts"] (defScope s__law_high) := ⟨rfl, rfl, rfl, by decide +kernel, rfl, by decide +kernel, by decide +kernel⟩
abbrev s__law_size : Stmt := topS 29
theorem sc__law_size : FnScope ["jar", "most_days", "size"] ["jar", "most_days"] (defScope s__law_size) := ⟨rfl, rfl, rfl, by decide +kernel, rfl, by decide +kernel, by decide +kernel⟩
abbrev s__law_changed : Stmt := topS 30
theorem sc__law_changed : FnScope ["jar", "some", "size", "found", "spot", "more", "way_here", "one", "alike", "other_ones"] ["jar", "some", "size"] (defScope s__law_changed) := ⟨rfl, rfl, rfl, by decide +kernel, rfl, by decide +kernel, by decide +kernel⟩
abbrev s__law_due : Stmt := topS 31
theorem sc__law_due : FnScope ["some", "sums_here", "size", "top", "wrong", "one"] ["some", "sums_here", "size", "top"] (defScope s__law_due) := ⟨rfl, rfl, rfl, by decide +kernel, rfl, by decide +kernel, by decide +kernel⟩
abbrev s__law_right : Stmt := topS 32
theorem sc__law_right : FnScope ["jar", "some", "size", "top", "sums_here", "deep", "before", "turn", "other_some", "copy_here", "told", "odd", "spot", "bad", "thing_here"] ["jar", "some", "size", "top"] (defScope s__law_right) := ⟨rfl, rfl, rfl, by decide +kernel, rfl, by decide +kernel, by decide +kernel⟩
abbrev s_law : Stmt := topS 33
theorem sc_law : FnScope ["script", "k", "jar", "turn", "size", "many", "top", "told"] ["script"] (defScope s_law) := ⟨rfl, rfl, rfl, by decide +kernel, rfl, by decide +kernel, by decide +kernel⟩
/-- what the top has written -/
structure Top (K : PySem.W.Frag) (mg : Str → Option Value) where
  f_is_integer : Addr
  fd_is_integer : FuncData
  F_is_integer : L2.Fun K "is_integer" "is_integer" s_is_integer f_is_integer fd_is_integer
  b_is_integer : Binds K fd_is_integer ["thing"] []
  g_is_integer : mg "is_integer" = some (.ref f_is_integer)
  f_is_within : Addr
  fd_is_within : FuncData
  F_is_within : L2.Fun K "is_within" "is_within" s_is_within f_is_within fd_is_within
  b_is_within : Binds K fd_is_within ["thing", "low", "high"] []
  g_is_within : mg "is_within" = some (.ref f_is_within)
  f_is_row : Addr
  fd_is_row : FuncData
  F_is_row : L2.Fun K "is_row" "is_row" s_is_row f_is_row fd_is_row
  b_is_row : Binds K fd_is_row ["thing", "many"] []
  g_is_row : mg "is_row" = some (.ref f_is_row)
  f_is_row_within : Addr
  fd_is_row_within : FuncData
  F_is_row_within : L2.Fun K "is_row_within" "is_row_within" s_is_row_within f_is_row_within fd_is_row_within
  b_is_row_within : Binds K fd_is_row_within ["thing", "count", "low", "high"] []
  g_is_row_within : mg "is_row_within" = some (.ref f_is_row_within)
  f_check_row_of_sums : Addr
  fd_check_row_of_sums : FuncData
  F_check_row_of_sums : L2.Fun K "check_row_of_sums" "check_row_of_sums" s_check_row_of_sums f_check_row_of_sums fd_check_row_of_sums
  b_check_row_of_sums : Binds K fd_check_row_of_sums ["sums"] []
  g_check_row_of_sums : mg "check_row_of_sums" = some (.ref f_check_row_of_sums)
  f_check_sums : Addr
  fd_check_sums : FuncData
  F_check_sums : L2.Fun K "check_sums" "check_sums" s_check_sums f_check_sums fd_check_sums
  b_check_sums : Binds K fd_check_sums ["sums", "length"] []
  g_check_sums : mg "check_sums" = some (.ref f_check_sums)
  f_check_most : Addr
  fd_check_most : FuncData
  F_check_most : L2.Fun K "check_most" "check_most" s_check_most f_check_most fd_check_most
  b_check_most : Binds K fd_check_most ["most"] []
  g_check_most : mg "check_most" = some (.ref f_check_most)
  f_row_sums : Addr
  fd_row_sums : FuncData
  F_row_sums : L2.Fun K "row_sums" "row_sums" s_row_sums f_row_sums fd_row_sums
  b_row_sums : Binds K fd_row_sums ["numbers", "length"] []
  g_row_sums : mg "row_sums" = some (.ref f_row_sums)
  f_is_way : Addr
  fd_is_way : FuncData
  F_is_way : L2.Fun K "is_way" "is_way" s_is_way f_is_way fd_is_way
  b_is_way : Binds K fd_is_way ["sums", "length", "most", "thing"] []
  g_is_way : mg "is_way" = some (.ref f_is_way)
  f_check_told : Addr
  fd_check_told : FuncData
  F_check_told : L2.Fun K "check_told" "check_told" s_check_told f_check_told fd_check_told
  b_check_told : Binds K fd_check_told ["sums", "length", "most"] []
  g_check_told : mg "check_told" = some (.ref f_check_told)
  f__law_jar : Addr
  fd__law_jar : FuncData
  F__law_jar : L2.Fun K "_law_jar" "_law_jar" s__law_jar f__law_jar fd__law_jar
  b__law_jar : Binds K fd__law_jar ["script", "k"] []
  g__law_jar : mg "_law_jar" = some (.ref f__law_jar)
  f__law_dip : Addr
  fd__law_dip : FuncData
  F__law_dip : L2.Fun K "_law_dip" "_law_dip" s__law_dip f__law_dip fd__law_dip
  b__law_dip : Binds K fd__law_dip ["jar", "many"] []
  g__law_dip : mg "_law_dip" = some (.ref f__law_dip)
  f__law_sums : Addr
  fd__law_sums : FuncData
  F__law_sums : L2.Fun K "_law_sums" "_law_sums" s__law_sums f__law_sums fd__law_sums
  b__law_sums : Binds K fd__law_sums ["numbers_here", "size"] []
  g__law_sums : mg "_law_sums" = some (.ref f__law_sums)
  f__law_days : Addr
  fd__law_days : FuncData
  F__law_days : L2.Fun K "_law_days" "_law_days" s__law_days f__law_days fd__law_days
  b__law_days : Binds K fd__law_days ["jar", "many", "top"] []
  g__law_days : mg "_law_days" = some (.ref f__law_days)
  f__law_top : Addr
  fd__law_top : FuncData
  F__law_top : L2.Fun K "_law_top" "_law_top" s__law_top f__law_top fd__law_top
  b__law_top : Binds K fd__law_top ["jar"] []
  g__law_top : mg "_law_top" = some (.ref f__law_top)
  f__law_high : Addr
  fd__law_high : FuncData
  F__law_high : L2.Fun K "_law_high" "_law_high" s__law_high f__law_high fd__law_high
  b__law_high : Binds K fd__law_high ["jar", "parts"] []
  g__law_high : mg "_law_high" = some (.ref f__law_high)
  f__law_size : Addr
  fd__law_size : FuncData
  F__law_size : L2.Fun K "_law_size" "_law_size" s__law_size f__law_size fd__law_size
  b__law_size : Binds K fd__law_size ["jar", "most_days"] []
  g__law_size : mg "_law_size" = some (.ref f__law_size)
  f__law_changed : Addr
  fd__law_changed : FuncData
  F__law_changed : L2.Fun K "_law_changed" "_law_changed" s__law_changed f__law_changed fd__law_changed
  b__law_changed : Binds K fd__law_changed ["jar", "some", "size"] []
  g__law_changed : mg "_law_changed" = some (.ref f__law_changed)
  f__law_due : Addr
  fd__law_due : FuncData
  F__law_due : L2.Fun K "_law_due" "_law_due" s__law_due f__law_due fd__law_due
  b__law_due : Binds K fd__law_due ["some", "sums_here", "size", "top"] []
  g__law_due : mg "_law_due" = some (.ref f__law_due)
  f__law_right : Addr
  fd__law_right : FuncData
  F__law_right : L2.Fun K "_law_right" "_law_right" s__law_right f__law_right fd__law_right
  b__law_right : Binds K fd__law_right ["jar", "some", "size", "top"] []
  g__law_right : mg "_law_right" = some (.ref f__law_right)
  f_law : Addr
  fd_law : FuncData
  F_law : L2.Fun K "law" "law" s_law f_law fd_law
  b_law : Binds K fd_law ["script"] []
  g_law : mg "law" = some (.ref f_law)
  C_InvalidWay : Addr
  g_InvalidWay : mg "InvalidWay" = some (.ref C_InvalidWay)
  x_InvalidWay : PySem.W.excIn K C_InvalidWay [.type "ValueError", .type "Exception", .type "BaseException", .type "object"] "ValueError.__new__" = true
  k_InvalidWay : PySem.W.keepIn K (.ref C_InvalidWay) = true
  z_abs : mg "abs" = none
  z_all : mg "all" = none
  z_bool : mg "bool" = none
  z_int : mg "int" = none
  z_isinstance : mg "isinstance" = none
  z_len : mg "len" = none
  z_list : mg "list" = none
  z_max : mg "max" = none
  z_min : mg "min" = none
  z_range : mg "range" = none
  z_repr : mg "repr" = none
  z_sum : mg "sum" = none
  z_tuple : mg "tuple" = none
  z_type : mg "type" = none
  c_GREATEST_COUNT : ∃ u, mg "GREATEST_COUNT" = some (.int 67 u)
  c_GREATEST_LENGTH : ∃ u, mg "GREATEST_LENGTH" = some (.int 8 u)
  c_GREATEST_MOST : ∃ u, mg "GREATEST_MOST" = some (.int 999999999999999999999999999999 u)
section
variable {P : Program} {w : World} {K : PySem.W.Frag} {mg : Str → Option Value} {base : Heap}
local macro_rules | `(tactic| walk_at "rd") => `(tactic| first
  | refine ⟨_, rfl, ?_⟩
  | refine ⟨_, _, rfl, rfl, ?_⟩
  | refine ⟨_, _, rfl, ?_⟩
  | refine ⟨rfl, ?_⟩
  | fail "rd")
local macro_rules | `(tactic| walk_at "rds") => `(tactic| repeat' (walk_at "rd"))

-- 0:script 1:k 2:cell_here
theorem ok_jar {f : Addr} {fd : FuncData} (T : Top K mg) (F : L2.Fun K "_law_jar" "_law_jar" s__law_jar f fd) : FnOk P w K mg base CX0 1 f fd ["script", "k"] (spJar K) := by
  refine F.ok sc__law_jar (fun vs H Q E h => ?_) (fun cdv A outer s H vs Q E hr h => ?_)
  · obtain ⟨a, ns, k, rfl, _⟩ := h
    rfl
  · obtain ⟨a, ns, k, rfl, hS, k0, k1, q⟩ := h
    refine ⟨_, (Evl.pss_cut (ps_set (i := 2) sc__law_jar.nd rfl (.inl rfl) (pe_ifExp (pt_cmpR op_lt (pv 1) (pe_callB (lenL (K := K)) (by rfl) T.z_len (by decide +kernel) (pa_cons (pv 0) pa_nil)) (nomark _)) (pe_callB call_abs (by rfl) T.z_abs (by decide +kernel) (pa_cons (pe_ix (ixL (K := K)) (pv 0) (pv 1) (fun _ _ => rfl)) pa_nil)) pe_int))
      (pss_one (ps_ret (pe_lst (pa_cons (pe_callB (call_max2 rfl) (by rfl) T.z_max (by decide +kernel) (pa_cons pe_int (pa_cons (pe_op op_sub (pv 2) (pe_op Ws.op_powG pe_int pe_int)) pa_nil))) (pa_cons (pe_op op_add (pe_op op_mulW (pe_op op_mod (pe_callTy intI (by rfl) T.z_int (by decide +kernel) (pa_cons (pv 2) pa_nil)) (pe_op op_add (pe_op Ws.op_powG pe_int pe_int) pe_int)) pe_int) (pe_op op_mulW pe_int (pv 1))) (pa_cons pe_int pa_nil))))))), ?_⟩
    refine ⟨fun σ H' => ∃ x : Int, 0 ≤ x ∧ σ = [some (.ref a), some (.int k), some (.int x)] ∧ H' = H, ?_, ?_⟩
    · walk_at "rds"
      refine ⟨a, _, rfl, hS, ?_⟩
      walk_at "rds"
      refine ite2 (fun z => ?_) (fun z => ?_)
      · have hk : k < ns.length := by
          have z2 := of_decide_eq_true z
          rw [List.length_map] at z2
          exact z2
        have hk2 : k.toNat < ns.length := by omega
        walk_at "rds"
        refine ⟨a, _, _, _, rfl, rfl, hS, at_int (j := k.toNat) (by omega) (List.getElem?_eq_getElem hk2), ?_⟩
        walk_at "rds"
        refine ⟨_, ?_, rfl, rfl⟩
        split <;> omega
      · exact ⟨0, Int.le_refl 0, rfl, rfl⟩
    · rintro σ H' ⟨x, x0, rfl, rfl⟩
      walk_at "rds"
      refine ⟨⟨by decide, by decide, by decide +kernel⟩, ?_⟩
      walk_at "rds"
      refine ⟨⟨by decide, by decide, by decide +kernel⟩, ?_⟩
      walk_at "rds"
      refine ⟨(by show (0 : Int) < _; decide +kernel), ?_⟩
      have y0 : 0 ≤ x % (10 ^ (43 : Int).toNat + 57) := Int.emod_nonneg _ (by decide +kernel)
      have y1 : x % (10 ^ (43 : Int).toNat + 57) < 2 ^ 200 := Int.lt_trans (Int.emod_lt_of_pos _ (by decide +kernel)) (by decide +kernel)
      walk_at "rds"
      refine ⟨mulOk (n := 200) (m := 7) y0 y1 (by decide) (by decide) (by decide) (by decide) (by decide), ?_⟩
      walk_at "rds"
      refine ⟨mulOk (n := 20) (m := 10) (by decide) (by decide) (by decide) k0 (by omega) (by decide) (by decide), ?_⟩
      walk_at "rds"
      refine ⟨by show 3 ≤ sizeLine; decide, fun p hp => ?_⟩
      refine q _ p (Same.new hp) hp ⟨_, _, _, upd_same, ?_, ?_, ?_, Int.le_refl 0, Int.le_refl 0⟩
      · split <;> omega
      · omega
      · omega

-- 0:jar 1:many 2:digit 3:mixed
theorem ok_dip {f : Addr} {fd : FuncData} (T : Top K mg) (F : L2.Fun K "_law_dip" "_law_dip" s__law_dip f fd) : FnOk P w K mg base CX0 1 f fd ["jar", "many"] spDip := by
  refine F.ok sc__law_dip (fun vs H Q E h => ?_) (fun cdv A outer s H vs Q E hr h => ?_)
  · obtain ⟨J, m, n, rfl, _⟩ := h
    rfl
  · obtain ⟨J, m, n, rfl, ⟨a, b, c, hJ, ha, hb, hb2, hc, hcn⟩, hn, hm, hm2, k⟩ := h
    refine ⟨_, (pss_cons (ps_if (pt_cmpR op_gt (pe_ix (ixL (K := K)) (pv 0) pe_int (fun _ _ => rfl)) pe_int (nomark _))
      (pss_cons (ps_set (i := 2) sc__law_dip.nd rfl (.inl rfl) (pe_op op_mod (pe_callTy intI (by rfl) T.z_int (by decide +kernel) (pa_cons (pe_ix (ixL (K := K)) (pv 0) pe_int (fun _ _ => rfl)) pa_nil)) (pv 1)))
      (pss_cons (ps_asg (pe_op op_fdivW (pe_ix (ixL (K := K)) (pv 0) pe_int (fun _ _ => rfl)) (pv 1)) (pg_sub (pv 0) pe_int set_list))
      (pss_one (ps_ret (pv 2)))))
      pss_nil)
      (pss_cons (ps_asg (pe_op op_add (pe_ix (ixL (K := K)) (pv 0) pe_int (fun _ _ => rfl)) pe_int) (pg_sub (pv 0) pe_int set_list))
      (pss_cons (ps_set (i := 3) sc__law_dip.nd rfl (.inl rfl) (pe_op op_mod (pe_callTy intI (by rfl) T.z_int (by decide +kernel) (pa_cons (pe_op Ws.op_powG (pe_op op_add (pe_ix (ixL (K := K)) (pv 0) pe_int (fun _ _ => rfl)) (pe_op op_mulW pe_int (pe_ix (ixL (K := K)) (pv 0) pe_int (fun _ _ => rfl)))) pe_int) pa_nil)) (pe_op op_add (pe_op Ws.op_powG pe_int pe_int) pe_int)))
      (pss_cons (ps_set (i := 3) sc__law_dip.nd rfl (.inl rfl) (pe_op op_mod (pe_callTy intI (by rfl) T.z_int (by decide +kernel) (pa_cons (pe_op Ws.op_powG (pe_op op_add (pv 3) (pe_op op_mulW pe_int (pe_ix (ixL (K := K)) (pv 0) pe_int (fun _ _ => rfl)))) pe_int) pa_nil)) (pe_op op_add (pe_op Ws.op_powG pe_int pe_int) pe_int)))
      (pss_one (ps_ret (pe_op op_mod (pe_callTy intI (by rfl) T.z_int (by decide +kernel) (pa_cons (pe_op op_fdivW (pv 3) pe_int) pa_nil)) (pv 1)))))))), ?_⟩
    -- if jar[0] > 0
    walk_at "rds"
    refine ⟨J, _, _, _, rfl, rfl, SqL.of hJ, at0, ?_⟩
    walk_at "rds"
    refine ite2 (fun z => ?_) (fun z => ?_)
    · have a0 : 0 < a := of_decide_eq_true z
      walk_at "rds"
      refine ⟨J, _, _, _, rfl, rfl, SqL.of hJ, at0, ?_⟩
      walk_at "rds"
      refine ⟨hm, ?_⟩
      walk_at "rds"
      refine ⟨J, _, _, _, rfl, rfl, SqL.of hJ, at0, ?_⟩
      walk_at "rds"
      refine ⟨divOk hm hm2 (by decide) (by decide), ?_⟩
      walk_at "rds"
      refine ⟨J, _, _, _, rfl, rfl, hJ, rfl, ?_⟩
      walk_at "rds"
      refine k _ _ (Fr.put Fr.refl) ⟨a / m, b, c, upd_same, Int.ediv_nonneg ha (by omega), hb, hb2, hc, by omega⟩ (Int.emod_nonneg _ (by omega)) (Int.emod_lt_of_pos _ hm)
    · walk_at "rds"
      refine ⟨J, _, _, _, rfl, rfl, SqL.of hJ, at2, ?_⟩
      walk_at "rds"
      refine ⟨J, _, _, _, rfl, rfl, hJ, rfl, ?_⟩
      have hJ2 : (upd H J (.lst [.int a, .int b, .int (c + 1)])) J = some (.lst [.int a, .int b, .int (c + 1)]) := upd_same
      walk_at "rds"
      refine ⟨J, _, _, _, rfl, rfl, SqL.of hJ2, at1, ?_⟩
      walk_at "rds"
      refine ⟨J, _, _, _, rfl, rfl, SqL.of hJ2, at2, ?_⟩
      walk_at "rds"
      refine ⟨mulOk (n := 26) (m := 31) (by decide) (by decide) (by decide) (by omega) (by omega) (by decide) (by decide), ?_⟩
      walk_at "rds"
      refine ⟨powOk (n := 400) (by omega) (by omega) (by decide) (by decide) (by decide) (by decide), ?_⟩
      walk_at "rds"
      refine ⟨⟨by decide, by decide, by decide +kernel⟩, ?_⟩
      walk_at "rds"
      refine ⟨(by show (0 : Int) < _; decide +kernel), ?_⟩
      generalize hx : ((b + 60000049 * (c + 1)) ^ (3 : Int).toNat % (10 ^ (47 : Int).toNat + 91)) = x
      have x0 : 0 ≤ x := hx ▸ Int.emod_nonneg _ (by decide +kernel)
      have x1 : x < 2 ^ 300 := hx ▸ Int.lt_trans (Int.emod_lt_of_pos _ (by decide +kernel)) (by decide +kernel)
      walk_at "rds"
      refine ⟨J, _, _, _, rfl, rfl, SqL.of hJ2, at2, ?_⟩
      walk_at "rds"
      refine ⟨mulOk (n := 26) (m := 31) (by decide) (by decide) (by decide) (by omega) (by omega) (by decide) (by decide), ?_⟩
      walk_at "rds"
      refine ⟨powOk (n := 400) (by omega) (by omega) (by decide) (by decide) (by decide) (by decide), ?_⟩
      walk_at "rds"
      refine ⟨⟨by decide, by decide, by decide +kernel⟩, ?_⟩
      walk_at "rds"
      refine ⟨(by show (0 : Int) < _; decide +kernel), ?_⟩
      generalize ((x + 35000021 * (c + 1)) ^ (3 : Int).toNat % (10 ^ (46 : Int).toNat + 79)) = y
      walk_at "rds"
      refine ⟨divOk (n := 31) (by decide) (by decide) (by decide) (by decide), ?_⟩
      walk_at "rds"
      refine ⟨hm, ?_⟩
      refine k _ _ (Fr.put Fr.refl) ⟨a, b, c + 1, upd_same, ha, hb, hb2, by omega, by omega⟩ (Int.emod_nonneg _ (by omega)) (Int.emod_lt_of_pos _ hm)

-- 0:numbers_here 1:size 2:found 3:place_here 4:total 5:spot
theorem ok_sums {f : Addr} {fd : FuncData} (T : Top K mg) (F : L2.Fun K "_law_sums" "_law_sums" s__law_sums f fd) : FnOk P w K mg base CX0 1 f fd ["numbers_here", "size"] (spSums K) := by
  refine F.ok sc__law_sums (fun vs H Q E h => ?_) (fun cdv A outer s H vs Q E hr h => ?_)
  · obtain ⟨a, ns, k, rfl, _⟩ := h
    rfl
  · obtain ⟨a, ns, k, rfl, hS, k1, k2, hn, q⟩ := h
    refine ⟨_, (pss_cons (ps_set (i := 2) sc__law_sums.nd rfl (.inl rfl) (pe_lst pa_nil))
      (pss_cons (ps_for PassesOwn.never rfl (pi_range1 (by rfl) T.z_range (pa_cons (pe_op op_add (pe_op op_sub (pe_callB (lenL (K := K)) (by rfl) T.z_len (by decide +kernel) (pa_cons (pv 0) pa_nil)) (pv 1)) pe_int) pa_nil)) (pg_name (i := 3) sc__law_sums.nd rfl (.inl rfl))
      (pss_cons (ps_set (i := 4) sc__law_sums.nd rfl (.inl rfl) pe_int)
      (pss_cons (ps_for PassesOwn.never rfl (pi_range1 (by rfl) T.z_range (pa_cons (pv 1) pa_nil)) (pg_name (i := 5) sc__law_sums.nd rfl (.inl rfl))
      (pss_one (ps_set (i := 4) sc__law_sums.nd rfl (.inl rfl) (pe_op op_add (pv 4) (pe_ix (ixL (K := K)) (pv 0) (pe_op op_add (pv 3) (pv 5)) (fun _ _ => rfl))))))
      (pss_one (ps_expr (bmK (K := K) (pe_bm PySem.F.plainAttrs_list PySem.F.slot_list_append PySem.F.type_list_append mt_append (pv 2) (pa_cons (pv 4) pa_nil))))))))
      (pss_one (ps_ret (pv 2))))), ?_⟩
    refine ⟨Nat.zero_le _, fun o ho => ?_⟩
    have s0 : Same H (upd H o (.lst [])) := Same.new ho
    walk_at "rds"
    refine ⟨a, _, rfl, Same.seq s0 hS, ?_⟩
    walk_at "rds"
    have eL : (ns.map V.int).length = ns.length := List.length_map ..
    refine ⟨by rw [eL]; omega, by rw [eL]; omega, for_range (fun i σ H' => ∃ x3 x4 x5, σ = [some (.ref a), some (.int k), some (.ref o), x3, x4, x5] ∧ Same H H' ∧ H' o = some (.lst (((wsums ns k.toNat).take i).map V.int))) ?_ ?_ ?_⟩
    · exact ⟨none, none, none, rfl, s0, upd_same⟩
    · rintro i σ H' hi ⟨x3, x4, x5, rfl, s1, h1⟩
      have hi2 : i < ns.length + 1 - k.toNat := by rw [eL] at hi; omega
      walk_at "rds"
      refine ⟨by omega, by omega, for_range (fun t σ H2 => ∃ x5, σ = [some (.ref a), some (.int k), some (.ref o), some (.int (0 + (i : Int))), some (.int ((ns.drop i).take t).sum), x5] ∧ H2 = H') ?_ ?_ ?_⟩
      · exact ⟨x5, rfl, rfl⟩
      · rintro t σ H2 ht ⟨y5, rfl, rfl⟩
        have ht2 : i + t < ns.length := by omega
        walk_at "rds"
        refine ⟨a, _, _, _, rfl, rfl, Same.seq s1 hS, at_int (j := i + t) (by omega) (List.getElem?_eq_getElem ht2), ?_⟩
        walk_at "rds"
        refine ⟨some (.int (0 + (t : Int))), ?_, rfl⟩
        rw [win_next (List.getElem?_eq_getElem ht2)]
        rfl
      · rintro σ H2 ⟨y5, rfl, rfl⟩
        walk_at "rds"
        refine ⟨.inl ⟨rfl, _, SqL.of h1⟩, ?_⟩
        walk_at "rds"
        refine ⟨o, _, _, rfl, rfl, h1, ?_, ?_⟩
        · rw [List.length_map, List.length_take, wsums_len]
          exact Nat.lt_of_le_of_lt (Nat.min_le_left _ _) (small1000 (by omega))
        · refine ⟨_, _, _, rfl, Same.mut s1 ho, ?_⟩
          rw [upd_same, map_take_snoc (wsums_get hi2)]
    · rintro σ H' ⟨x3, x4, x5, rfl, s1, h1⟩
      walk_at "rds"
      refine q H' o s1 ho ?_
      rw [h1, List.take_of_length_le]
      rw [wsums_len, eL]
      omega

-- 0:jar 1:many 2:top 3:way_here 4:found 5:turn 6:one
theorem ok_days {f fd : _} (T : Top K mg) (F : L2.Fun K "_law_days" "_law_days" s__law_days f fd) (G__law_dip : DefOk P w K mg base CX0 1 "_law_dip" T.f__law_dip T.fd__law_dip ["jar", "many"] spDip) :
    FnOk P w K mg base CX0 2 f fd ["jar", "many", "top"] spDays := by
  refine F.ok sc__law_days (fun vs H Q E h => ?_) (fun cdv A outer s H vs Q E hr h => ?_)
  · obtain ⟨J, m, t, n, rfl, _⟩ := h
    rfl
  · obtain ⟨J, m, t, n, rfl, hJ, hn, m0, m1, t0, t1, q⟩ := h
    refine ⟨_, (pss_cons (ps_set (i := 3) sc__law_days.nd rfl (.inl rfl) (Ws.pc G__law_dip hr (pa_cons (pv 0) (pa_cons pe_int pa_nil))))
      (pss_cons (ps_setLc (i := 4) (own := [("turn", 5)]) (g := gName 5) (tt := tYes) (by rfl) sc__law_days.nd rfl rfl (sw_true rfl rfl rfl (by decide +kernel)) (pi_range1 (by rfl) T.z_range (pa_cons (pv 1) pa_nil)) (blkOk_by (N := ["jar", "many", "top", "way_here", "found", "turn", "one"]) (sc := defScope s__law_days) (by decide +kernel)) (fun _ _ _ _ _ => pg_name (i := 5) sc__law_days.nd rfl (Or.inl rfl)) (fun _ _ _ _ _ => pts_nil) (fun _ _ _ _ _ => (Ws.pc G__law_dip hr (pa_cons (pv 0) (pa_cons (pe_op op_add (pv 2) pe_int) pa_nil)))))
      (Evl.pss_cut (ps_if (pt_cmpR op_eq (pv 3) pe_int (nomark _))
      (pss_one (ps_setLc (i := 4) (own := [("one", 6)]) (g := gName 6) (tt := tYes) (by rfl) sc__law_days.nd rfl rfl (sw_true rfl rfl rfl (by decide +kernel)) (piL (K := K) (pv 4)) (blkOk_by (N := ["jar", "many", "top", "way_here", "found", "turn", "one"]) (sc := defScope s__law_days) (by decide +kernel)) (fun _ _ _ _ _ => pg_name (i := 6) sc__law_days.nd rfl (Or.inl rfl)) (fun _ _ _ _ _ => pts_nil) (fun _ _ _ _ _ => (pe_ix (ixL (K := K)) (pe_lst (pa_cons pe_int (pa_cons (pv 2) (pa_cons (pv 6) pa_nil)))) (Ws.pc G__law_dip hr (pa_cons (pv 0) (pa_cons pe_int pa_nil))) (fun _ _ => rfl)))))
      pss_nil)
      (pss_one (ps_ret (pv 4)))))), ?_⟩
    walk_at "rds"
    refine ⟨J, 3, n, rfl, hJ, by omega, by decide, by decide +kernel, fun H1 d1 s1 J1 _ _ => ?_⟩
    walk_at "rds"
    refine ⟨by omega, by omega, fun D hD => ?_⟩
    have nD : D ≠ J := J1.out hD
    have fD : H D = none := s1.free hD nD
    refine lc_range (lo := 0) (n := m.toNat) (fun i H' => ∃ ns, Fr J H H' ∧ Jar H' J (n + 1 + i) ∧ H' D = some (.lst (ns.map V.int)) ∧ ns.length = i ∧ Btw 0 t ns) ?_ ?_ ?_
    · exact ⟨[], s1.trans (Fr.of (Same.new hD)), (J1.new hD).mono (by omega), upd_same, rfl, Btw.nil⟩
    · rintro i H' hi ⟨ns, s2, J2, hD2, hl, hb⟩
      refine ⟨rfl, ?_⟩
      walk_at "rds"
      refine ⟨J, t + 1, n + 1 + i, rfl, J2, by omega, by omega, by omega, fun H2 d s3 J3 d0 d2 => ?_⟩
      refine ⟨_, s3.get nD hD2, ?_, ns ++ [d], (s2.trans s3).mut fD, (J3.ex nD).mono (by omega), ?_, by rw [List.length_append, hl]; rfl, hb.snoc d0 (by omega)⟩
      · rw [List.length_map, hl]
        exact small1000 (by omega)
      · rw [upd_same, List.map_append]
        rfl
    · rintro H' ⟨ns, s2, J2, hD2, hl, hb⟩
      refine ⟨fun σ H2 => ∃ p ns x5 x6, σ = [some (.ref J), some (.int m), some (.int t), some (.int d1), some (.ref p), x5, x6] ∧ Fr J H H2 ∧ Jar H2 J (n + 2 * m + 1) ∧ H p = none ∧ H2 p = some (.lst (ns.map V.int)) ∧ ns.length = m.toNat ∧ Btw 0 t ns, ?_, ?_⟩
      · walk_at "rds"
        refine ite2 (fun _ => ?_) (fun _ => ?_)
        · walk_at "rds"
          refine ⟨⟨_, SqL.of hD2⟩, fun D2 hn2 => ?_⟩
          have nD2 : D2 ≠ J := J2.out hn2
          have fD2 : H D2 = none := s2.free hn2 nD2
          have neD : D ≠ D2 := ne_of_none hD2 hn2
          refine lc_list (K := K) (a := D) (xs := ns.map V.int) (fun i H3 => ∃ ms, Fr J H' H3 ∧ Jar H3 J (n + 1 + m + i) ∧ H3 D2 = some (.lst (ms.map V.int)) ∧ ms.length = i ∧ Btw 0 t ms) ?_ ?_ ?_ ?_
          · exact ⟨[], Fr.of (Same.new hn2), (J2.new hn2).mono (by omega), upd_same, rfl, Btw.nil⟩
          · rintro i H3 _ ⟨ms, s4, _⟩
            exact SqL.of (s4.get nD hD2)
          · rintro i x H3 hx ⟨ms, s4, J4, hD4, hl4, hb4⟩
            obtain ⟨y, hy, rfl⟩ : ∃ y, ns[i]? = some y ∧ x = .int y := by
              rw [List.getElem?_map] at hx
              cases e : ns[i]? with
              | none => rw [e] at hx; cases hx
              | some y => rw [e] at hx; exact ⟨y, rfl, (Option.some.inj hx).symm⟩
            have hi : i < ns.length := (List.getElem?_eq_some_iff.mp hy).1
            have by1 := hb y (List.mem_of_getElem? hy)
            refine ⟨rfl, ?_⟩
            walk_at "rds"
            refine ⟨by show 3 ≤ sizeLine; decide, fun p hp => ?_⟩
            have np : p ≠ J := J4.out hp
            have ne4 : p ≠ D2 := (ne_of_none hD4 hp).symm
            walk_at "rds"
            refine ⟨J, 3, n + 1 + m + i, rfl, J4.new hp, by omega, by decide, by decide +kernel, fun H5 d s5 J5 d0 d3 => ?_⟩
            have hD5 := s5.get nD2 (by rw [upd_ne ne4.symm]; exact hD4)
            have s6 : Fr J H' H5 := (s4.trans (Fr.of (Same.new hp))).trans s5
            have go : ∀ z : Int, 0 ≤ z → z ≤ t → atI [V.int 0, V.int t, V.int y] d = some (.int z) → ∃ p_1 xs i_1 v, V.ref p = .ref p_1 ∧ V.int d = .int i_1 ∧ SqL K H5 p_1 xs ∧ atI xs i_1 = some v ∧ ∃ acc, H5 D2 = some (HO.lst acc) ∧ acc.length < sizeLine ∧
                ∃ ms, Fr J H' (upd H5 D2 (HO.lst (acc ++ [v]))) ∧ Jar (upd H5 D2 (HO.lst (acc ++ [v]))) J (n + 1 + m + ((i + 1 : Nat) : Int)) ∧ upd H5 D2 (HO.lst (acc ++ [v])) D2 = some (HO.lst (List.map V.int ms)) ∧ ms.length = i + 1 ∧ Btw 0 t ms := by
              intro z z0 z1 hz
              refine ⟨p, _, d, .int z, rfl, rfl, SqL.of (s5.get np upd_same), hz, _, hD5, ?_, ms ++ [z], s6.mut hn2, (J5.ex nD2).mono (by omega), ?_, by rw [List.length_append, hl4]; rfl, hb4.snoc z0 z1⟩
              · rw [List.length_map, hl4]
                exact small1000 (by omega)
              · rw [upd_same, List.map_append]
                rfl
            have d012 : d = 0 ∨ d = 1 ∨ d = 2 := by omega
            rcases d012 with e | e | e
            · exact go 0 (Int.le_refl 0) t0 (by rw [e]; rfl)
            · exact go t t0 (Int.le_refl t) (by rw [e]; rfl)
            · exact go y by1.1 by1.2 (by rw [e]; rfl)
          · rintro H3 ⟨ms, s4, J4, hD4, hl4, hb4⟩
            rw [List.length_map, hl] at J4 hl4
            exact ⟨D2, ms, _, _, rfl, s2.trans s4, J4.mono (by omega), fD2, hD4, hl4, hb4⟩
        · exact ⟨D, ns, _, _, rfl, s2, J2.mono (by omega), fD, hD2, hl, hb⟩
      · rintro σ H2 ⟨p, ms, x5, x6, rfl, s4, J4, f4, h4, l4, b4⟩
        walk_at "rds"
        exact q H2 p ms s4 J4 f4 h4 l4 b4

-- 0:jar 1:way_here
theorem ok_top {f fd : _} (T : Top K mg) (F : L2.Fun K "_law_top" "_law_top" s__law_top f fd) (G__law_dip : DefOk P w K mg base CX0 1 "_law_dip" T.f__law_dip T.fd__law_dip ["jar", "many"] spDip) :
    FnOk P w K mg base CX0 2 f fd ["jar"] spTop := by
  refine F.ok sc__law_top (fun vs H Q E h => ?_) (fun cdv A outer s H vs Q E hr h => ?_)
  · obtain ⟨J, n, rfl, _⟩ := h
    rfl
  · obtain ⟨J, n, rfl, hJ, hn, q⟩ := h
    refine ⟨_, (pss_cons (ps_set (i := 1) sc__law_top.nd rfl (.inl rfl) (Ws.pc G__law_dip hr (pa_cons (pv 0) (pa_cons pe_int pa_nil))))
      (pss_cons (ps_if (pt_cmpR op_eq (pv 1) pe_int (nomark _))
      (pss_one (ps_ret (pe_op op_sub (pe_op op_sub (pe_op Ws.op_powG pe_int pe_int) pe_int) (Ws.pc G__law_dip hr (pa_cons (pv 0) (pa_cons (pe_op Ws.op_powG pe_int pe_int) pa_nil))))))
      pss_nil)
      (pss_one (ps_ret (Ws.pc G__law_dip hr (pa_cons (pv 0) (pa_cons (pe_ix (ixL (K := K)) (pe_lst (pa_cons pe_int (pa_cons pe_int pa_nil))) (pv 1) (fun _ _ => rfl)) pa_nil))))))), ?_⟩
    walk_at "rds"
    refine ⟨J, 3, n, rfl, hJ, by omega, by decide, by decide +kernel, fun H1 d1 s1 J1 d0 d3 => ?_⟩
    walk_at "rds"
    refine ite2 (fun _ => ?_) (fun z => ?_)
    · walk_at "rds"
      refine ⟨⟨by decide, by decide, by decide +kernel⟩, ?_⟩
      walk_at "rds"
      refine ⟨⟨by decide, by decide, by decide +kernel⟩, ?_⟩
      walk_at "rds"
      refine ⟨J, _, n + 1, rfl, J1, by omega, by decide +kernel, by decide +kernel, fun H2 d2 s2 J2 e0 e1 => ?_⟩
      walk_at "rds"
      have e2 : d2 < 10 ^ 30 := e1
      exact q H2 _ (s1.trans s2) (J2.mono (by omega)) (show (0 : Int) ≤ 10 ^ 30 - 1 - d2 by omega) (show (10 : Int) ^ 30 - 1 - d2 < 10 ^ 30 by omega)
    · have z2 : d1 ≠ 2 := fun e => z (by rw [e]; rfl)
      walk_at "rds"
      refine ⟨by show 2 ≤ sizeLine; decide, fun p hp => ?_⟩
      have np : p ≠ J := J1.out hp
      have go : ∀ m : Int, 1 ≤ m → m ≤ 30 → atI [V.int 4, V.int 30] d1 = some (.int m) → ∃ p_1 xs i v, V.ref p = .ref p_1 ∧ V.int d1 = .int i ∧ SqL K (upd H1 p (.lst [.int 4, .int 30])) p_1 xs ∧ atI xs i = some v ∧ spDip ([V.ref J, v] ++ []) (upd H1 p (.lst [.int 4, .int 30])) Q E0 := by
        intro m m1 m2 hm
        refine ⟨p, _, d1, .int m, rfl, rfl, SqL.of upd_same, hm, J, m, n + 1, rfl, J1.new hp, by omega, by omega, by omega, fun H2 d2 s2 J2 e0 e1 => ?_⟩
        exact q H2 _ ((s1.trans (Fr.of (Same.new hp))).trans s2) (J2.mono (by omega)) e0 (by omega)
      walk_at "rds"
      have d01 : d1 = 0 ∨ d1 = 1 := by omega
      rcases d01 with e | e
      · exact go 4 (by decide) (by decide) (by rw [e]; rfl)
      · exact go 30 (by decide) (by decide) (by rw [e]; rfl)

-- 0:jar 1:parts 2:top
theorem ok_high {f fd : _} (T : Top K mg) (F : L2.Fun K "_law_high" "_law_high" s__law_high f fd) (G__law_top : DefOk P w K mg base CX0 2 "_law_top" T.f__law_top T.fd__law_top ["jar"] spTop) :
    FnOk P w K mg base CX0 3 f fd ["jar", "parts"] spHigh := by
  refine F.ok sc__law_high (fun vs H Q E h => ?_) (fun cdv A outer s H vs Q E hr h => ?_)
  · obtain ⟨J, q, n, rfl, _⟩ := h
    rfl
  · obtain ⟨J, p, n, rfl, hJ, hn, p1, p2, q⟩ := h
    refine ⟨_, (pss_cons (ps_set (i := 2) sc__law_high.nd rfl (.inl rfl) (Ws.pc G__law_top hr (pa_cons (pv 0) pa_nil)))
      (pss_one (ps_ret (pe_ifExp (pt_cmpR op_gt (pv 2) (pe_op Ws.op_powG pe_int pe_int) (nomark _)) (pe_op op_fdivW (pv 2) (pv 1)) (pv 2))))), ?_⟩
    walk_at "rds"
    refine ⟨J, n, rfl, hJ, by omega, fun H1 t s1 J1 t0 t1 => ?_⟩
    walk_at "rds"
    refine ⟨⟨by decide, by decide, by decide +kernel⟩, ?_⟩
    walk_at "rds"
    refine ite2 (fun _ => ?_) (fun z => ?_)
    · walk_at "rds"
      refine ⟨divOk (n := 10) (by omega) (by omega) (by decide) (by decide), ?_⟩
      have h1 : 0 ≤ t / p := Int.ediv_nonneg t0 (by omega)
      have h2 : t / p * p ≤ t := Int.ediv_mul_le t (by omega)
      have h3 : t / p ≤ t := Int.ediv_le_self p t0
      exact q H1 _ s1 J1 h1 (by omega) (Or.inr (by omega))
    · walk_at "rds"
      have z2 : t ≤ 10 ^ 6 := by
        have z3 : ¬ (10 ^ 6 < t) := fun y => z (decide_eq_true y)
        omega
      exact q H1 _ s1 J1 t0 t1 (Or.inl z2)

-- 0:jar 1:most_days 2:size
theorem ok_size {f fd : _} (T : Top K mg) (F : L2.Fun K "_law_size" "_law_size" s__law_size f fd) (G__law_dip : DefOk P w K mg base CX0 1 "_law_dip" T.f__law_dip T.fd__law_dip ["jar", "many"] spDip) :
    FnOk P w K mg base CX0 2 f fd ["jar", "most_days"] spSize := by
  refine F.ok sc__law_size (fun vs H Q E h => ?_) (fun cdv A outer s H vs Q E hr h => ?_)
  · obtain ⟨J, m, n, rfl, _⟩ := h
    rfl
  · obtain ⟨J, m, n, rfl, hJ, hn, m1, m2, q⟩ := h
    refine ⟨_, (pss_cons (ps_set (i := 2) sc__law_size.nd rfl (.inl rfl) (pe_op op_add pe_int (Ws.pc G__law_dip hr (pa_cons (pv 0) (pa_cons pe_int pa_nil)))))
      (pss_one (ps_ret (pe_tup (pa_cons (pv 2) (pa_cons (pe_op op_add (pv 2) (Ws.pc G__law_dip hr (pa_cons (pv 0) (pa_cons (pe_op op_add (pe_op op_sub (pv 1) (pv 2)) pe_int) pa_nil)))) pa_nil)))))), ?_⟩
    walk_at "rds"
    refine ⟨J, 8, n, rfl, hJ, by omega, by decide, by decide +kernel, fun H1 d s1 J1 d0 d1 => ?_⟩
    walk_at "rds"
    refine ⟨J, _, n + 1, rfl, J1, by omega, by omega, by omega, fun H2 e s2 J2 e0 e1 => ?_⟩
    walk_at "rds"
    refine ⟨by show 2 ≤ sizeLine; decide, fun p hp => ?_⟩
    have s3 := s1.trans s2
    exact q _ p (1 + d) (1 + d + e) (s3.trans (Fr.of (Same.new hp))) ((J2.new hp).mono (by omega)) (s3.free hp (J2.out hp)) upd_same (by omega) (by omega) (by omega) (by omega)

-- 0:thing
theorem ok_is_integer {f fd : _} (T : Top K mg) (F : L2.Fun K "is_integer" "is_integer" s_is_integer f fd) : FnOk P w K mg base CX0 1 f fd ["thing"] (spIsInt K) := by
  refine F.ok sc_is_integer (fun vs H Q E h => ?_) (fun cdv A outer s H vs Q E hr h => ?_)
  · obtain ⟨x, b, rfl, _⟩ := h
    rfl
  · obtain ⟨x, b, rfl, ⟨t, c, d, ht, hc, hd, rfl⟩, q⟩ := h
    refine ⟨_, (pss_one (ps_ret (pe_and (pe_callB (isiL (K := K)) (by rfl) T.z_isinstance (by decide +kernel) (pa_cons (pv 0) (pa_cons (pe_bltn (v := .ty "int") (by rfl) T.z_int (by decide +kernel) rfl) pa_nil))) (pe_one (pe_not (pe_callB (isiL (K := K)) (by rfl) T.z_isinstance (by decide +kernel) (pa_cons (pv 0) (pa_cons (pe_bltn (v := .ty "bool") (by rfl) T.z_bool (by decide +kernel) rfl) pa_nil)))))))), ?_⟩
    walk_at "rds"
    refine ⟨x, _, t, _, c, rfl, .ty "int", ht, hc, ?_⟩
    walk_at "rds"
    cases c with
    | false => exact iteF q
    | true =>
      refine iteT ?_
      walk_at "rds"
      refine ⟨x, _, t, _, d, rfl, .ty "bool", ht, hd rfl, ?_⟩
      walk_at "rds"
      exact q
-- 0:thing 1:low 2:high
theorem ok_is_within {f fd : _} (T : Top K mg) (F : L2.Fun K "is_within" "is_within" s_is_within f fd) (G_is_integer : DefOk P w K mg base CX0 1 "is_integer" T.f_is_integer T.fd_is_integer ["thing"] (spIsInt K)) :
    FnOk P w K mg base CX0 2 f fd ["thing", "low", "high"] (spWithin K) := by
  refine F.ok sc_is_within (fun vs H Q E h => ?_) (fun cdv A outer s H vs Q E hr h => ?_)
  · rcases h with ⟨i, lo, hi, rfl, _⟩ | ⟨x, lo, hi, rfl, _⟩ <;> rfl
  · refine ⟨_, (pss_one (ps_ret (pe_and (Ws.pc G_is_integer hr (pa_cons (pv 0) pa_nil)) (pe_one (pe_chain op_le op_le (pv 1) (pv 0) (pv 2)))))), ?_⟩
    rcases h with ⟨i, lo, hi, rfl, q⟩ | ⟨x, lo, hi, rfl, hx, q⟩
    · walk_at "rds"
      refine ⟨_, true, rfl, Ti.int i, ?_⟩
      walk_at "rds"
      refine ite2 (fun z => ?_) (fun z => ?_)
      · rw [show decide (lo ≤ i) = true from z] at q
        walk_at "rds"
        exact q
      · rw [show decide (lo ≤ i) = false from Bool.eq_false_iff.mpr z] at q
        exact q
    · walk_at "rds"
      refine ⟨x, false, rfl, hx, ?_⟩
      walk_at "rds"
      exact iteF q
-- 0:thing 1:many 2:item
def spIsRow2 (K : PySem.W.Frag) : Sp := fun vs H Q E => ∃ x : V, vs = [x, .int 67] ∧ spIsRow K [x] H Q E
def spRowOfSums (K : PySem.W.Frag) : Sp := fun vs H Q _ => ∃ (a : Addr) (ss : List Int), vs = [.ref a] ∧ SqL K H a (ss.map V.int) ∧ 1 ≤ ss.length ∧ ss.length ≤ 67 ∧ ∀ H', Same H H' → Q .non H'
theorem ok_is_row {f fd : _} (T : Top K mg) (F : L2.Fun K "is_row" "is_row" s_is_row f fd) (G_is_integer : DefOk P w K mg base CX0 1 "is_integer" T.f_is_integer T.fd_is_integer ["thing"] (spIsInt K)) :
    FnOk P w K mg base CX0 2 f fd ["thing", "many"] (spIsRow2 K) := by
  refine F.ok sc_is_row (fun vs H Q E h => ?_) (fun cdv A outer s H vs Q E hr h => ?_)
  · obtain ⟨x, rfl, _⟩ := h
    rfl
  · refine ⟨_, (pss_cons (ps_if (PW.pt (pw_or (pt_cmpR op_isNotTy (pe_callTy (typL (K := K)) (by rfl) T.z_type (by decide +kernel) (pa_cons (pv 0) pa_nil)) (pe_bltn (v := .ty "list") (by rfl) T.z_list (by decide +kernel) rfl) (nomark _)) (pw_or1 (pt_not (pt_chain op_le op_le pe_int (pe_callB (lenL (K := K)) (by rfl) T.z_len (by decide +kernel) (pa_cons (pv 0) pa_nil)) (pv 1))))))
      (pss_one (ps_ret pe_bl))
      pss_nil)
      (pss_one (ps_ret (pe_callB (allL (K := K) rfl) (by rfl) T.z_all (by decide +kernel) (pa_cons (pe_lc (own := [("item", 2)]) (g := gName 2) (tt := tYes) (by rfl) sc_is_row.nd (piL (K := K) (pv 0)) (blkOk_by (N := ["thing", "many", "item"]) (sc := defScope s_is_row) (by decide +kernel)) (fun _ _ _ _ _ => pg_name (i := 2) sc_is_row.nd rfl (Or.inl rfl)) (fun _ _ _ _ _ => pts_nil) (fun _ _ _ _ _ => (Ws.pc G_is_integer hr (pa_cons (pv 2) pa_nil)))) pa_nil))))), ?_⟩
    obtain ⟨x0, rfl, h⟩ := h
    rcases h with ⟨a, xs, e0, hS, hz, hx, q⟩ | ⟨x, t, e0, ht, hn, q⟩ <;> cases e0
    · walk_at "rds"
      refine ⟨.ref a, "list", rfl, .lst hS, ?_⟩
      walk_at "rds"
      refine ⟨a, xs, rfl, hS, ?_⟩
      walk_at "rds"
      have fin : ∀ H', Same H H' → (decide (1 ≤ xs.length) && decide (xs.length ≤ 67)) = false → Q (.bl false) H' := fun H' s1 z => by
        have q1 := q H' s1
        rw [z] at q1
        exact q1
      refine ite2 (fun z1 => ?_) (fun z1 => ?_)
      · walk_at "rds"
        have y1 : decide (1 ≤ xs.length) = true := by
          have := of_decide_eq_true z1
          exact decide_eq_true (by omega)
        refine ite2 (fun z2 => ?_) (fun z2 => ?_)
        · refine fin H (Same.refl H) ?_
          rw [y1]
          have z3 : ¬ ((xs.length : Int) ≤ 67) := fun y => by
            rw [decide_eq_true y] at z2
            cases z2
          have z4 : decide (xs.length ≤ 67) = false := decide_eq_false (by omega)
          rw [z4]
          rfl
        · have y2 : decide (xs.length ≤ 67) = true := by
            have z3 : decide ((xs.length : Int) ≤ 67) = true := by
              cases e : decide ((xs.length : Int) ≤ 67) with
              | true => rfl
              | false =>
                rw [e] at z2
                exact absurd rfl z2
            have := of_decide_eq_true z3
            exact decide_eq_true (by omega)
          walk_at "rds"
          refine ⟨⟨_, hS⟩, fun D hD => ?_⟩
          refine lc_list (K := K) (a := a) (xs := xs) (fun i H3 => Same H H3 ∧ H3 D = some (.lst (((xs.take i).map whole).map V.bl))) ?_ ?_ ?_ ?_
          · exact ⟨Same.new hD, upd_same⟩
          · rintro i H3 _ ⟨s3, _⟩
            exact Same.seq s3 hS
          · rintro i x H3 hi ⟨s3, h3⟩
            refine ⟨rfl, ?_⟩
            walk_at "rds"
            refine ⟨x, _, rfl, hx x (List.mem_of_getElem? hi) H3 s3, _, h3, ?_, Same.mut s3 hD, ?_⟩
            · rw [List.length_map, List.length_map, List.length_take]
              exact Nat.lt_of_le_of_lt (Nat.min_le_right _ _) (small1000 (by omega))
            · rw [upd_same, take_next hi, List.map_append, List.map_append]
              rfl
          · rintro H3 ⟨s3, h3⟩
            rw [List.take_length] at h3
            refine ⟨D, _, rfl, SqL.of h3, ?_⟩
            have q1 := q H3 s3
            rw [y1, y2] at q1
            rw [List.all_map]
            exact q1
      · walk_at "rds"
        refine fin H (Same.refl H) ?_
        have z3 : ¬ ((1 : Int) ≤ xs.length) := fun y => z1 (decide_eq_true y)
        have z4 : decide (1 ≤ xs.length) = false := decide_eq_false (by omega)
        rw [z4]
        rfl
    · walk_at "rds"
      refine ⟨_, t, rfl, ht, ?_⟩
      walk_at "rds"
      have e : decide (t = "list") = false := decide_eq_false hn
      show (if (!decide (t = "list")) = true then _ else _)
      rw [e]
      refine iteT ?_
      walk_at "rds"
      exact q

-- 0:sums
theorem ok_check_row_of_sums {f fd : _} (T : Top K mg) (F : L2.Fun K "check_row_of_sums" "check_row_of_sums" s_check_row_of_sums f fd)
    (G_is_row : DefOk P w K mg base CX0 2 "is_row" T.f_is_row T.fd_is_row ["thing", "many"] (spIsRow2 K)) :
    FnOk P w K mg base CX0 3 f fd ["sums"] (spRowOfSums K) := by
  refine F.ok sc_check_row_of_sums (fun vs H Q E h => ?_) (fun cdv A outer s H vs Q E hr h => ?_)
  · obtain ⟨a, ns, rfl, _⟩ := h
    rfl
  · obtain ⟨a, ns, rfl, hS, n1, n67, q⟩ := h
    refine ⟨_, (pss_one (ps_if (pt_not (pt_val (Ws.pc G_is_row hr (pa_cons (pv 0) (pa_cons (pe_glob (v := .int 67) rfl T.c_GREATEST_COUNT.choose_spec ⟨_, rfl⟩) pa_nil)))))
      (pss_one ps_never)
      pss_nil)), ?_⟩
    have eL : (ns.map V.int).length = ns.length := List.length_map ..
    walk_at "rds"
    refine .inl ⟨a, _, rfl, hS, by omega, ti_ints, fun H1 s1 => ?_⟩
    rw [eL, all_int, decide_eq_true n1, decide_eq_true n67]
    walk_at "rds"
    exact q H1 s1
-- 0:sums 1:length
theorem ok_check_sums {f fd : _} (T : Top K mg) (F : L2.Fun K "check_sums" "check_sums" s_check_sums f fd)
    (G_check_row_of_sums : DefOk P w K mg base CX0 3 "check_row_of_sums" T.f_check_row_of_sums T.fd_check_row_of_sums ["sums"] (spRowOfSums K))
    (G_is_within : DefOk P w K mg base CX0 2 "is_within" T.f_is_within T.fd_is_within ["thing", "low", "high"] (spWithin K)) :
    FnOk P w K mg base CX0 4 f fd ["sums", "length"] (spSumsOk K) := by
  refine F.ok sc_check_sums (fun vs H Q E h => ?_) (fun cdv A outer s H vs Q E hr h => ?_)
  · obtain ⟨a, ns, k, rfl, _⟩ := h
    rfl
  · obtain ⟨a, ns, k, rfl, hS, n1, k1, k8, kn, q⟩ := h
    refine ⟨_, (pss_cons (ps_expr (Ws.pc G_check_row_of_sums hr (pa_cons (pv 0) pa_nil)))
      (pss_one (ps_if (pt_not (pt_val (Ws.pc G_is_within hr (pa_cons (pv 1) (pa_cons pe_int (pa_cons (pe_callB (call_min2 rfl) (by rfl) T.z_min (by decide +kernel) (pa_cons (pe_glob (v := .int 8) rfl T.c_GREATEST_LENGTH.choose_spec ⟨_, rfl⟩) (pa_cons (pe_op op_sub (pe_op op_add (pe_glob (v := .int 67) rfl T.c_GREATEST_COUNT.choose_spec ⟨_, rfl⟩) pe_int) (pe_callB (lenL (K := K)) (by rfl) T.z_len (by decide +kernel) (pa_cons (pv 0) pa_nil))) pa_nil))) pa_nil))))))
      (pss_one ps_never)
      pss_nil))), ?_⟩
    have eL : (ns.map V.int).length = ns.length := List.length_map ..
    walk_at "rds"
    refine ⟨a, ns, rfl, hS, n1, by omega, fun H1 s1 => ?_⟩
    walk_at "rds"
    refine ⟨a, _, rfl, Same.seq s1 hS, ?_⟩
    walk_at "rds"
    refine .inl ⟨_, _, _, rfl, ?_⟩
    rw [eL, decide_eq_true k1, decide_eq_true (show k ≤ (if (67 + 1 - (ns.length : Int)) < 8 then (67 + 1 - (ns.length : Int)) else 8) by split <;> omega)]
    walk_at "rds"
    exact q H1 s1

-- 0:numbers 1:length 2:day
theorem ok_row_sums {f fd : _} (T : Top K mg) (F : L2.Fun K "row_sums" "row_sums" s_row_sums f fd) : FnOk P w K mg base CX0 1 f fd ["numbers", "length"] (spRowSums K) := by
  refine F.ok sc_row_sums (fun vs H Q E h => ?_) (fun cdv A outer s H vs Q E hr h => ?_)
  · obtain ⟨a, ns, k, rfl, _⟩ := h
    rfl
  · obtain ⟨a, ns, k, rfl, hS, k1, k8, kn, hn, q⟩ := h
    refine ⟨_, (pss_one (ps_ret (pe_lc (own := [("day", 2)]) (g := gName 2) (tt := tYes) (by rfl) sc_row_sums.nd (pi_range1 (by rfl) T.z_range (pa_cons (pe_op op_add (pe_op op_sub (pe_callB (lenL (K := K)) (by rfl) T.z_len (by decide +kernel) (pa_cons (pv 0) pa_nil)) (pv 1)) pe_int) pa_nil)) (blkOk_by (N := ["numbers", "length", "day"]) (sc := defScope s_row_sums) (by decide +kernel)) (fun _ _ _ _ _ => pg_name (i := 2) sc_row_sums.nd rfl (Or.inl rfl)) (fun _ _ _ _ _ => pts_nil) (fun _ _ _ _ _ => (pe_callB (sumL (K := K) rfl) (by rfl) T.z_sum (by decide +kernel) (pa_cons (pe_slice (slL (K := K)) (pv 0) (po_some (pv 2)) (po_some (pe_op op_add (pv 2) (pv 1)))) pa_nil)))))), ?_⟩
    walk_at "rds"
    refine ⟨a, _, rfl, hS, ?_⟩
    walk_at "rds"
    have eL : (ns.map V.int).length = ns.length := List.length_map ..
    refine ⟨by rw [eL]; omega, by rw [eL]; omega, fun D hD => ?_⟩
    refine lc_range (lo := 0) (n := ((ns.map V.int).length - k + 1 : Int).toNat) (fun i H3 => Same H H3 ∧ H3 D = some (.lst (((wsums ns k.toNat).take i).map V.int))) ?_ ?_ ?_
    · exact ⟨Same.new hD, upd_same⟩
    · rintro i H3 hi ⟨s3, h3⟩
      have hi2 : i < ns.length + 1 - k.toNat := by rw [eL] at hi; omega
      refine ⟨rfl, ?_⟩
      walk_at "rds"
      refine ⟨a, _, rfl, Same.seq s3 hS, fun p hp => ?_⟩
      have ecut : cutV (ns.map V.int) (some (0 + (i : Int))) (some (0 + (i : Int) + k)) = ((ns.drop i).take k.toNat).map V.int := by
        have e1 : (0 : Int) + (i : Int) = ((i : Nat) : Int) := by omega
        have e2 : ((i : Nat) : Int) + k = ((i + k.toNat : Nat) : Int) := by omega
        rw [e1, e2]
        exact cut_window ns i k.toNat
      have neD : D ≠ p := ne_of_none h3 hp
      refine ⟨p, _, rfl, SqL.of (by rw [upd_same, ecut]), _, (by rw [upd_ne neD]; exact h3), ?_, Same.mut (s3.trans (Same.new hp)) hD, ?_⟩
      · rw [List.length_map, List.length_take, wsums_len]
        exact Nat.lt_of_le_of_lt (Nat.min_le_left _ _) (small1000 (by omega))
      · rw [upd_same, map_take_snoc (wsums_get hi2)]
    · rintro H3 ⟨s3, h3⟩
      refine q H3 D s3 hD ?_
      rw [h3, List.take_of_length_le]
      rw [wsums_len, eL]
      omega

-- 0:thing 1:count 2:low 3:high 4:item
theorem ok_is_row_within {f fd : _} (T : Top K mg) (F : L2.Fun K "is_row_within" "is_row_within" s_is_row_within f fd) (G_is_within : DefOk P w K mg base CX0 2 "is_within" T.f_is_within T.fd_is_within ["thing", "low", "high"] (spWithin K)) :
    FnOk P w K mg base CX0 3 f fd ["thing", "count", "low", "high"] (spRowInX K) := by
  refine F.ok sc_is_row_within (fun vs H Q E h => ?_) (fun cdv A outer s H vs Q E hr h => ?_)
  · rcases h with (⟨a, xs, c, lo, hi, rfl, _⟩ | ⟨x, t, c, lo, hi, rfl, _⟩) | ⟨a, C, c, lo, hi, rfl, _⟩ <;> rfl
  · refine ⟨_, (pss_cons (ps_if (PW.pt (pw_or (pt_cmpR Ws.notTyX (pe_callTy (typX (K := K)) (by rfl) T.z_type (by decide +kernel) (pa_cons (pv 0) pa_nil)) (pe_bltn (v := .ty "list") (by rfl) T.z_list (by decide +kernel) rfl) (nomark _)) (pw_or1 (pt_cmpR op_ne (pe_callB (lenL (K := K)) (by rfl) T.z_len (by decide +kernel) (pa_cons (pv 0) pa_nil)) (pv 1) (nomark _)))))
      (pss_one (ps_ret pe_bl))
      pss_nil)
      (pss_one (ps_ret (pe_callB (allL (K := K) rfl) (by rfl) T.z_all (by decide +kernel) (pa_cons (pe_lc (own := [("item", 4)]) (g := gName 4) (tt := tYes) (by rfl) sc_is_row_within.nd (piL (K := K) (pv 0)) (blkOk_by (N := ["thing", "count", "low", "high", "item"]) (sc := defScope s_is_row_within) (by decide +kernel)) (fun _ _ _ _ _ => pg_name (i := 4) sc_is_row_within.nd rfl (Or.inl rfl)) (fun _ _ _ _ _ => pts_nil) (fun _ _ _ _ _ => (Ws.pc G_is_within hr (pa_cons (pv 4) (pa_cons (pv 2) (pa_cons (pv 3) pa_nil)))))) pa_nil))))), ?_⟩
    rcases h with (⟨a, xs, c, lo, hi, rfl, hS, hz, hx, q⟩ | ⟨x, t, c, lo, hi, rfl, ht, hn, q⟩) | ⟨a, C, c, lo, hi, rfl, ha, q⟩
    · walk_at "rds"
      refine .inl ⟨"list", .lst hS, ?_⟩
      walk_at "rds"
      refine .inl ⟨_, _, rfl, rfl, ?_⟩
      walk_at "rds"
      refine ⟨a, xs, rfl, hS, ?_⟩
      walk_at "rds"
      refine ite2 (fun z => ?_) (fun z => ?_)
      · walk_at "rds"
        have ne : ¬ ((xs.length : Int) = c) := fun y => by
          rw [decide_eq_true (congrArg V.int y)] at z
          cases z
        have q1 := q H (Same.refl H)
        rw [decide_eq_false ne] at q1
        exact q1
      · have ec : (xs.length : Int) = c := by
          cases y : decide (V.int (xs.length : Int) = V.int c) with
          | true => exact V.int.inj (of_decide_eq_true y)
          | false =>
            rw [y] at z
            exact absurd rfl z
        walk_at "rds"
        refine ⟨⟨_, hS⟩, fun D hD => ?_⟩
        refine lc_list (K := K) (a := a) (xs := xs) (fun i H3 => Same H H3 ∧ H3 D = some (.lst (((xs.take i).map (wint lo hi)).map V.bl))) ?_ ?_ ?_ ?_
        · exact ⟨Same.new hD, upd_same⟩
        · rintro i H3 _ ⟨s3, _⟩
          exact Same.seq s3 hS
        · rintro i x H3 hix ⟨s3, h3⟩
          refine ⟨rfl, ?_⟩
          walk_at "rds"
          have go : ∃ acc, H3 D = some (.lst acc) ∧ acc.length < sizeLine ∧ Same H (upd H3 D (.lst (acc ++ [.bl (wint lo hi x)]))) ∧ upd H3 D (.lst (acc ++ [.bl (wint lo hi x)])) D = some (.lst (((xs.take (i + 1)).map (wint lo hi)).map V.bl)) := by
            refine ⟨_, h3, ?_, Same.mut s3 hD, ?_⟩
            · rw [List.length_map, List.length_map, List.length_take]
              exact Nat.lt_of_le_of_lt (Nat.min_le_right _ _) (small5 (by omega))
            · rw [upd_same, take_next hix, List.map_append, List.map_append]
              rfl
          rcases hx x (List.mem_of_getElem? hix) H3 s3 with hw | hw
          · cases x with
            | int v => exact .inl ⟨v, lo, hi, rfl, go⟩
            | _ => cases hw
          · cases x with
            | int v => exact .inl ⟨v, lo, hi, rfl, go⟩
            | _ => exact .inr ⟨_, _, _, rfl, hw, go⟩
        · rintro H3 ⟨s3, h3⟩
          rw [List.take_length] at h3
          refine ⟨D, _, rfl, SqL.of h3, ?_⟩
          have q1 := q H3 s3
          rw [decide_eq_true ec] at q1
          rw [List.all_map]
          exact q1
    · walk_at "rds"
      refine .inl ⟨t, ht, ?_⟩
      walk_at "rds"
      refine .inl ⟨_, _, rfl, rfl, ?_⟩
      have e : decide (t = "list") = false := decide_eq_false hn
      rw [e]
      walk_at "rds"
      exact q
    · walk_at "rds"
      refine .inr ⟨a, C, rfl, ha, ?_⟩
      walk_at "rds"
      refine .inr ⟨_, _, rfl, rfl, ?_⟩
      walk_at "rds"
      exact q

-- 0:most
theorem ok_check_most {f fd : _} (T : Top K mg) (F : L2.Fun K "check_most" "check_most" s_check_most f fd) (G_is_within : DefOk P w K mg base CX0 2 "is_within" T.f_is_within T.fd_is_within ["thing", "low", "high"] (spWithin K)) :
    FnOk P w K mg base CX0 3 f fd ["most"] spMostOk := by
  refine F.ok sc_check_most (fun vs H Q E h => ?_) (fun cdv A outer s H vs Q E hr h => ?_)
  · obtain ⟨t, rfl, _⟩ := h
    rfl
  · obtain ⟨t, rfl, t0, t1, q⟩ := h
    refine ⟨_, (pss_one (ps_if (pt_not (pt_val (Ws.pc G_is_within hr (pa_cons (pv 0) (pa_cons pe_int (pa_cons (pe_glob (v := .int 999999999999999999999999999999) rfl T.c_GREATEST_MOST.choose_spec ⟨_, rfl⟩) pa_nil))))))
      (pss_one ps_never)
      pss_nil)), ?_⟩
    walk_at "rds"
    refine .inl ⟨_, _, _, rfl, ?_⟩
    rw [decide_eq_true t0, decide_eq_true t1]
    walk_at "rds"
    exact q
-- 0:sums 1:length 2:most
theorem ok_check_told {f fd : _} (T : Top K mg) (F : L2.Fun K "check_told" "check_told" s_check_told f fd)
    (G_check_sums : DefOk P w K mg base CX0 4 "check_sums" T.f_check_sums T.fd_check_sums ["sums", "length"] (spSumsOk K))
    (G_check_most : DefOk P w K mg base CX0 3 "check_most" T.f_check_most T.fd_check_most ["most"] spMostOk) :
    FnOk P w K mg base CX0 5 f fd ["sums", "length", "most"] (spToldOk K) := by
  refine F.ok sc_check_told (fun vs H Q E h => ?_) (fun cdv A outer s H vs Q E hr h => ?_)
  · obtain ⟨a, ss, k, t, rfl, _⟩ := h
    rfl
  · obtain ⟨a, ss, k, t, rfl, hS, s1, k1, k8, ks, t0, t1, q⟩ := h
    refine ⟨_, (pss_cons (ps_expr (Ws.pc G_check_sums hr (pa_cons (pv 0) (pa_cons (pv 1) pa_nil))))
      (pss_one (ps_expr (Ws.pc G_check_most hr (pa_cons (pv 2) pa_nil))))), ?_⟩
    walk_at "rds"
    refine ⟨a, ss, k, rfl, hS, s1, k1, k8, ks, fun H1 u1 => ?_⟩
    walk_at "rds"
    refine ⟨t0, t1, ?_⟩
    exact q H1 u1

-- 0:sums 1:length 2:most 3:thing
theorem ok_is_way {f fd : _} (T : Top K mg) (F : L2.Fun K "is_way" "is_way" s_is_way f fd)
    (G_check_told : DefOk P w K mg base CX0 5 "check_told" T.f_check_told T.fd_check_told ["sums", "length", "most"] (spToldOk K))
    (G_is_row_within : DefOk P w K mg base CX0 3 "is_row_within" T.f_is_row_within T.fd_is_row_within ["thing", "count", "low", "high"] (spRowInX K))
    (G_row_sums : DefOk P w K mg base CX0 1 "row_sums" T.f_row_sums T.fd_row_sums ["numbers", "length"] (spRowSums K)) :
    FnOk P w K mg base CX0 6 f fd ["sums", "length", "most", "thing"] (spIsWay K) := by
  refine F.ok sc_is_way (fun vs H Q E h => ?_) (fun cdv A outer s H vs Q E hr h => ?_)
  · obtain ⟨a, ss, k, t, x, rfl, _⟩ := h
    rfl
  · obtain ⟨a, ss, k, t, x, rfl, hS, s1, k1, k8, ks, t0, t1, h⟩ := h
    refine ⟨_, (pss_cons (ps_expr (Ws.pc G_check_told hr (pa_cons (pv 0) (pa_cons (pv 1) (pa_cons (pv 2) pa_nil)))))
      (pss_one (ps_ret (pe_and (Ws.pc G_is_row_within hr (pa_cons (pv 3) (pa_cons (pe_op op_sub (pe_op op_add (pe_callB (lenL (K := K)) (by rfl) T.z_len (by decide +kernel) (pa_cons (pv 0) pa_nil)) (pv 1)) pe_int) (pa_cons pe_int (pa_cons (pv 2) pa_nil))))) (pe_one (pe_cmpR (eqL (K := K) hr.units) (Ws.pc G_row_sums hr (pa_cons (pv 3) (pa_cons (pv 1) pa_nil))) (pv 0) (nomark _))))))), ?_⟩
    walk_at "rds"
    refine ⟨a, ss, k, t, rfl, hS, s1, k1, k8, ks, t0, t1, fun H1 u1 => ?_⟩
    walk_at "rds"
    refine ⟨a, _, rfl, Same.seq u1 hS, ?_⟩
    rw [List.length_map]
    walk_at "rds"
    rcases h with ⟨b, ns, rfl, hB, hz, q⟩ | ⟨hb, q⟩
    · refine .inl (.inl ⟨b, _, _, 0, t, rfl, Same.seq u1 hB, by rw [List.length_map]; exact hz, whole_ints, fun H2 u2 => ?_⟩)
      rw [List.length_map]
      unfold isw at q
      cases y : (decide ((ns.length : Int) = ss.length + k - 1) && (ns.map V.int).all (wint 0 t)) with
      | false =>
        rw [y] at q
        walk_at "rds"
        exact q H2 (u1.trans u2)
      | true =>
        rw [y] at q
        rw [Bool.and_eq_true] at y
        have el : (ns.length : Int) = ss.length + k - 1 := of_decide_eq_true y.1
        walk_at "rds"
        have u12 := u1.trans u2
        refine ⟨b, ns, k, rfl, Same.seq u12 hB, k1, k8, by omega, by omega, fun H3 p u3 hp h3 => ?_⟩
        walk_at "rds"
        refine ⟨dI (wsums ns k.toNat), dI ss, Dp.ints (SqL.of h3), Dp.ints (Same.seq (u12.trans u3) hS), shaped_ints _, shaped_ints _, ?_⟩
        rw [eqv_ints]
        exact q H3 (u12.trans u3)
    · rcases hb.up u1 with ⟨b, xs, rfl, hB, hz, hx, hn⟩ | ⟨Ty, hT, hn⟩ | ⟨b, C, rfl, hB⟩
      · refine .inl (.inl ⟨b, xs, _, 0, t, rfl, SqL.of hB, hz, fun y hy H' s => (hx y hy).imp id fun o => o H' s, fun H2 u2 => ?_⟩)
        have ef : (decide ((xs.length : Int) = ss.length + k - 1) && xs.all (wint 0 t)) = false := by
          rcases hn with hn | ⟨y, hy, wy⟩
          · rw [decide_eq_false hn]
            rfl
          · have : xs.all (wint 0 t) = false := by
              rw [List.all_eq_false]
              refine ⟨y, hy, ?_⟩
              cases y with
              | int v => cases wy
              | _ => exact Bool.false_ne_true
            rw [this, Bool.and_false]
        rw [ef]
        walk_at "rds"
        exact q H2 (u1.trans u2)
      · refine .inl (.inr ⟨x, Ty, _, _, _, rfl, hT, hn, ?_⟩)
        walk_at "rds"
        exact q H1 u1
      · refine .inr ⟨b, C, _, _, _, rfl, hB, ?_⟩
        walk_at "rds"
        exact q H1 u1

-- 0:jar 1:some 2:size 3:found 4:spot 5:more 6:way_here 7:one 8:alike 9:other_ones
theorem ok_changed {f fd : _} (T : Top K mg) (F : L2.Fun K "_law_changed" "_law_changed" s__law_changed f fd) (G__law_dip : DefOk P w K mg base CX0 1 "_law_dip" T.f__law_dip T.fd__law_dip ["jar", "many"] spDip) :
    FnOk P w K mg base CX0 2 f fd ["jar", "some", "size"] (spChanged K) := by
  refine F.ok sc__law_changed (fun vs H Q E h => ?_) (fun cdv A outer s H vs Q E hr h => ?_)
  · obtain ⟨J, a, ns, k, n, rfl, _⟩ := h
    rfl
  · obtain ⟨J, a, ns, k, n, rfl, hJ, hn, hA, n1, n67, k1, q⟩ := h
    refine ⟨_, (pss_cons (ps_asg (pe_tup (pa_cons (pe_callTy (listL (K := K)) (by rfl) T.z_list (by decide +kernel) (pa_cons (pv 1) pa_nil)) (pa_cons (Ws.pc G__law_dip hr (pa_cons (pv 0) (pa_cons (pe_callB (lenL (K := K)) (by rfl) T.z_len (by decide +kernel) (pa_cons (pv 1) pa_nil)) pa_nil))) pa_nil))) (pgT (K := K) (n := 2) (by rfl) (pgs_cons (pg_name (i := 3) sc__law_changed.nd rfl (.inl rfl)) (pgs_cons (pg_name (i := 4) sc__law_changed.nd rfl (.inr rfl)) pgs_nil))))
      (pss_cons (ps_set (i := 5) sc__law_changed.nd rfl (.inl rfl) (pe_ix (ixL (K := K)) (pe_lst (pa_cons pe_int (pa_cons (pe_un un_neg pe_int) (pa_cons (pe_op Ws.op_powG pe_int pe_int) pa_nil)))) (Ws.pc G__law_dip hr (pa_cons (pv 0) (pa_cons pe_int pa_nil))) (fun _ _ => rfl)))
      (pss_cons (ps_set (i := 6) sc__law_changed.nd rfl (.inl rfl) (Ws.pc G__law_dip hr (pa_cons (pv 0) (pa_cons pe_int pa_nil))))
      (pss_cons (ps_if (pt_cmpR op_eq (pv 6) pe_int (nomark _))
      (pss_one (ps_ret (pe_ifExp (pt_cmpR op_gt (pv 5) pe_int (nomark _)) (pe_op op_cat (pv 3) (pe_lst (pa_cons pe_int pa_nil))) (pe_slice (slL (K := K)) (pv 3) po_none (po_some (pe_un un_neg pe_int))))))
      pss_nil)
      (pss_cons (ps_asg (pe_op op_add (pe_ix (ixL (K := K)) (pv 3) (pv 4) (fun _ _ => rfl)) (pv 5)) (pg_sub (pv 3) (pv 4) set_list))
      (Evl.pss_cut (ps_if (PW.pt (pw_and (pt_cmpR op_eq (pv 6) pe_int (nomark _)) (pw_and1 (pt_cmpR op_lt (pe_op op_add (pv 4) pe_int) (pe_callB (lenL (K := K)) (by rfl) T.z_len (by decide +kernel) (pa_cons (pv 3) pa_nil)) (nomark _)))))
      (pss_one (ps_asg (pe_op op_sub (pe_ix (ixL (K := K)) (pv 3) (pe_op op_add (pv 4) pe_int) (fun _ _ => rfl)) (pv 5)) (pg_sub (pv 3) (pe_op op_add (pv 4) pe_int) set_list)))
      pss_nil)
      (Evl.pss_cut (ps_if (pt_cmpR op_eq (pv 6) pe_int (nomark _))
      (pss_cons (ps_setLc (i := 8) (own := [("one", 7)]) (g := gName 7) (by rfl) sc__law_changed.nd rfl rfl (sw_true rfl rfl rfl (by decide +kernel)) (pi_range1 (by rfl) T.z_range (pa_cons (pe_callB (lenL (K := K)) (by rfl) T.z_len (by decide +kernel) (pa_cons (pv 3) pa_nil)) pa_nil)) (blkOk_by (N := ["jar", "some", "size", "found", "spot", "more", "way_here", "one", "alike", "other_ones"]) (sc := defScope s__law_changed) (by decide +kernel)) (fun _ _ _ _ _ => pg_name (i := 7) sc__law_changed.nd rfl (Or.inl rfl)) (fun _ _ _ _ _ => (pts_one (pt_cmpR op_eq (pe_op op_mod (pe_callTy intI (by rfl) T.z_int (by decide +kernel) (pa_cons (pe_op op_sub (pv 7) (pv 4)) pa_nil)) (pv 2)) pe_int (nomark _)))) (fun _ _ _ _ _ => (pv 7)))
      (pss_cons (ps_setLc (i := 9) (own := [("one", 7)]) (g := gName 7) (by rfl) sc__law_changed.nd rfl rfl (sw_true rfl rfl rfl (by decide +kernel)) (pi_range1 (by rfl) T.z_range (pa_cons (pe_callB (lenL (K := K)) (by rfl) T.z_len (by decide +kernel) (pa_cons (pv 3) pa_nil)) pa_nil)) (blkOk_by (N := ["jar", "some", "size", "found", "spot", "more", "way_here", "one", "alike", "other_ones"]) (sc := defScope s__law_changed) (by decide +kernel)) (fun _ _ _ _ _ => pg_name (i := 7) sc__law_changed.nd rfl (Or.inl rfl)) (fun _ _ _ _ _ => (pts_one (pt_cmpR op_eq (pe_op op_mod (pe_callTy intI (by rfl) T.z_int (by decide +kernel) (pa_cons (pe_op op_sub (pe_op op_sub (pv 7) (pv 4)) pe_int) pa_nil)) (pv 2)) pe_int (nomark _)))) (fun _ _ _ _ _ => (pv 7)))
      (pss_cons (ps_set (i := 3) sc__law_changed.nd rfl (.inl rfl) (pe_callTy (listL (K := K)) (by rfl) T.z_list (by decide +kernel) (pa_cons (pv 1) pa_nil)))
      (pss_cons (ps_for PassesOwn.never rfl (piL (K := K) (pv 8)) (pg_name (i := 7) sc__law_changed.nd rfl (.inl rfl))
      (pss_one (ps_asg (pe_op op_add (pe_ix (ixL (K := K)) (pv 3) (pv 7) (fun _ _ => rfl)) (pv 5)) (pg_sub (pv 3) (pv 7) set_list))))
      (pss_one (ps_for PassesOwn.never rfl (piL (K := K) (pv 9)) (pg_name (i := 7) sc__law_changed.nd rfl (.inl rfl))
      (pss_one (ps_asg (pe_op op_sub (pe_ix (ixL (K := K)) (pv 3) (pv 7) (fun _ _ => rfl)) (pv 5)) (pg_sub (pv 3) (pv 7) set_list)))))))))
      pss_nil)
      (pss_one (ps_ret (pv 3)))))))))), ?_⟩
    walk_at "rds"
    refine ⟨a, _, rfl, SqL.in hA, fun f hf => ?_⟩
    have nf : f ≠ J := hJ.out hf
    refine lay (upd H f (.lst (ns.map V.int))) rfl hf fun G1 s1 g1 => ?_
    walk_at "rds"
    refine ⟨a, _, rfl, Same.seq s1 (SqL.in hA), ?_⟩
    rw [List.length_map]
    walk_at "rds"
    refine ⟨J, ns.length, n, rfl, hJ.same s1, by omega, by omega, Int.lt_of_le_of_lt (b := 67) (by omega) (by decide +kernel), fun H1 d f1 J1 d0 d1 => ?_⟩
    walk_at "rds"
    refine ⟨by show 2 ≤ sizeLine; decide, fun p hp => ?_⟩
    have np : p ≠ J := J1.out hp
    refine lay (upd H1 p (.tup [.ref f, .int d])) rfl hp fun G2 s2 g2 => ?_
    walk_at "rds"
    refine ⟨p, _, rfl, SqT.of g2, rfl, _, _, rfl, _, _, rfl, rfl, ?_⟩
    walk_at "rds"
    refine ⟨⟨by decide, by decide, by decide +kernel⟩, ?_⟩
    walk_at "rds"
    refine ⟨by show 3 ≤ sizeLine; decide, fun g hg => ?_⟩
    have J2 := J1.same s2
    have ng : g ≠ J := J2.out hg
    refine lay (upd G2 g (.lst [.int 1, .int (-1), .int (10 ^ (29 : Int).toNat)])) rfl hg fun G3 s3 g3 => ?_
    walk_at "rds"
    refine ⟨J, 3, n + 1, rfl, J2.same s3, by omega, by decide, by decide +kernel, fun H2 e f2 J3 e0 e1 => ?_⟩
    obtain ⟨m, hm⟩ : ∃ m : Int, atI [V.int 1, V.int (-1), V.int (10 ^ (29 : Int).toNat)] e = some (.int m) := by
      have e3 : e = 0 ∨ e = 1 ∨ e = 2 := by omega
      rcases e3 with z | z | z <;> subst z
      · exact ⟨1, rfl⟩
      · exact ⟨-1, rfl⟩
      · exact ⟨_, rfl⟩
    refine ⟨g, _, e, .int m, rfl, rfl, SqL.of (f2.get ng g3), hm, ?_⟩
    walk_at "rds"
    refine ⟨J, 4, n + 2, rfl, J3.mono (by omega), by omega, by decide, by decide +kernel, fun H3 wh f3 J4 w0 w1 => ?_⟩
    have f03 : Fr J H H3 := (((Fr.of s1).trans f1).trans ((Fr.of s2).trans (Fr.of s3))).trans (f2.trans f3)
    have h3 : H3 f = some (.lst (ns.map V.int)) := f3.get nf (f2.get nf (s3 _ _ (s2 _ _ (f1.get nf g1))))
    have J4' : Jar H3 J (n + 3) := J4.mono (by omega)
    walk_at "rds"
    refine ite2 (fun z => ?_) (fun z => ?_)
    · walk_at "rds"
      refine ite2 (fun z => ?_) (fun z => ?_)
      · walk_at "rds"
        refine ⟨by show 1 ≤ sizeLine; decide, fun r hr1 => ?_⟩
        refine lay (upd H3 r (.lst [.int 0])) rfl hr1 fun G4 s4 g4 => ?_
        refine ⟨f, r, _, _, rfl, rfl, s4 _ _ h3, g4, ?_, fun u hu => ?_⟩
        · rw [List.length_map]
          exact Nat.le_of_lt (small1000 (by show ns.length + 1 ≤ 1000; omega))
        have fu : H u = none := (f03.trans (Fr.of s4)).free hu ((J4.same s4).out hu)
        refine q _ u (ns ++ [0]) ((f03.trans (Fr.of s4)).trans (Fr.of (Same.new hu))) ((J4'.same s4).new hu) fu (by rw [upd_same, List.map_append]; rfl) (by rw [List.length_append]; show ns.length + 1 ≤ 68; omega)
      · walk_at "rds"
        refine ⟨f, _, rfl, SqL.of h3, fun u hu => ?_⟩
        have fu : H u = none := f03.free hu (J4.out hu)
        obtain ⟨ms, e1, l1⟩ := cut_ints ns none (some (-1))
        exact q _ u ms (f03.trans (Fr.of (Same.new hu))) (J4'.new hu) fu (by rw [upd_same]; exact congrArg (fun l => some (HO.lst l)) e1) (by omega)
    · have fd : d.toNat < ns.length := by omega
      walk_at "rds"
      refine ⟨f, _, _, _, rfl, rfl, SqL.of h3, at_int (j := d.toNat) (by omega) (List.getElem?_eq_getElem fd), ?_⟩
      walk_at "rds"
      refine ⟨f, _, d, d.toNat, rfl, rfl, h3, ixN_in (by omega) (by rw [List.length_map]; exact fd), ?_⟩
      rw [set_ints]
      have f04 : Fr J H (upd H3 f (.lst ((ns.set d.toNat (ns[d.toNat] + m)).map V.int))) := f03.mut hf
      generalize hms : ns.set d.toNat (ns[d.toNat] + m) = ms at f04 ⊢
      have lm : ms.length = ns.length := by rw [← hms, List.length_set]
      have J5 : Jar (upd H3 f (.lst (ms.map V.int))) J (n + 3) := J4'.ex nf
      refine ⟨fun σ H' => ∃ f' ms x7 x8 x9, σ = [some (.ref J), some (.ref a), some (.int k), some (.ref f'), some (.int d), some (.int m), some (.int wh), x7, x8, x9] ∧
            Fr J H H' ∧ Jar H' J (n + 3) ∧ H f' = none ∧ H' f' = some (.lst ((ms : List Int).map V.int)) ∧ ms.length = ns.length, ?_, ?_⟩
      · walk_at "rds"
        refine ite2 (fun z1 => ?_) (fun z1 => ?_)
        · walk_at "rds"
          refine ⟨f, _, rfl, SqL.of upd_same, ?_⟩
          rw [List.length_map]
          walk_at "rds"
          refine ite2 (fun z2 => ?_) (fun z2 => ?_)
          · have z3 : d + 1 < ms.length := of_decide_eq_true z2
            have fd1 : (d + 1).toNat < ms.length := by omega
            walk_at "rds"
            refine ⟨f, _, _, _, rfl, rfl, SqL.of upd_same, at_int (j := (d + 1).toNat) (by omega) (List.getElem?_eq_getElem fd1), ?_⟩
            walk_at "rds"
            refine ⟨f, _, d + 1, (d + 1).toNat, rfl, rfl, upd_same, ixN_in (by omega) (by rw [List.length_map]; exact fd1), ?_⟩
            rw [set_ints]
            exact ⟨_, _, _, _, _, rfl, f04.mut hf, J5.ex nf, hf, upd_same, by rw [List.length_set]; exact lm⟩
          · walk_at "rds"
            exact ⟨_, _, _, _, _, rfl, f04, J5, hf, upd_same, lm⟩
        · walk_at "rds"
          exact ⟨_, _, _, _, _, rfl, f04, J5, hf, upd_same, lm⟩
      · rintro σ H5 ⟨f', ms, x7, x8, x9, rfl, f5, J5, hf', h5, l5⟩
        have nf' : f' ≠ J := hJ.out hf'
        refine ⟨fun σ H' => ∃ f' ms x7 x8 x9, σ = [some (.ref J), some (.ref a), some (.int k), some (.ref f'), some (.int d), some (.int m), some (.int wh), x7, x8, x9] ∧
            Fr J H H' ∧ Jar H' J (n + 3) ∧ H f' = none ∧ H' f' = some (.lst ((ms : List Int).map V.int)) ∧ ms.length = ns.length, ?_, ?_⟩
        · walk_at "rds"
          refine ite2 (fun z1 => ?_) (fun z1 => ?_)
          · walk_at "rds"
            refine ⟨f', _, rfl, SqL.of h5, ?_⟩
            rw [List.length_map]
            walk_at "rds"
            refine ⟨by omega, by omega, fun D hD => ?_⟩
            refine lc_range (lo := 0) (n := ms.length) (fun j H8 => Same H5 H8 ∧ H8 D = some (.lst ((picked j (fun m => decide ((m - d) % k = 0))).map V.int))) ?_ ?_ ?_
            · exact ⟨Same.new hD, upd_same⟩
            · rintro j H8 hj ⟨s8, h8⟩
              refine ⟨rfl, ?_⟩
              walk_at "rds"
              refine ⟨by show 0 < k; omega, ?_⟩
              walk_at "rds"
              have ej : (0 : Int) + (j : Int) = (j : Int) := by omega
              rw [ej]
              refine ite2 (fun z => ?_) (fun z => ?_)
              · have z2 : ((j : Int) - d) % k = 0 := V.int.inj (of_decide_eq_true z)
                walk_at "rds"
                refine ⟨_, h8, ?_, Same.mut s8 hD, ?_⟩
                · rw [List.length_map]
                  exact Nat.lt_of_le_of_lt (picked_len _ _) (small1000 (by omega))
                · rw [upd_same, picked_yes (decide_eq_true z2), List.map_append]
                  rfl
              · have z2 : ¬ ((j : Int) - d) % k = 0 := fun y => z (decide_eq_true (congrArg V.int y))
                refine ⟨s8, ?_⟩
                rw [picked_no (decide_eq_false z2)]
                exact h8
            · rintro H8 ⟨s8, h8⟩
              walk_at "rds"
              refine ⟨f', _, rfl, SqL.of (s8 _ _ h5), ?_⟩
              rw [List.length_map]
              walk_at "rds"
              refine ⟨by omega, by omega, fun D2 hD2 => ?_⟩
              refine lc_range (lo := 0) (n := ms.length) (fun j H9 => Same H8 H9 ∧ H9 D2 = some (.lst ((picked j (fun m => decide ((m - d - 1) % k = 0))).map V.int))) ?_ ?_ ?_
              · exact ⟨Same.new hD2, upd_same⟩
              · rintro j H9 hj ⟨s9, h9⟩
                refine ⟨rfl, ?_⟩
                walk_at "rds"
                refine ⟨by show 0 < k; omega, ?_⟩
                walk_at "rds"
                have ej : (0 : Int) + (j : Int) = (j : Int) := by omega
                rw [ej]
                refine ite2 (fun z => ?_) (fun z => ?_)
                · have z2 : ((j : Int) - d - 1) % k = 0 := V.int.inj (of_decide_eq_true z)
                  walk_at "rds"
                  refine ⟨_, h9, ?_, Same.mut s9 hD2, ?_⟩
                  · rw [List.length_map]
                    exact Nat.lt_of_le_of_lt (picked_len _ _) (small1000 (by omega))
                  · rw [upd_same, picked_yes (decide_eq_true z2), List.map_append]
                    rfl
                · have z2 : ¬ ((j : Int) - d - 1) % k = 0 := fun y => z (decide_eq_true (congrArg V.int y))
                  refine ⟨s9, ?_⟩
                  rw [picked_no (decide_eq_false z2)]
                  exact h9
              · rintro H9 ⟨s9, h9⟩
                have f9 := f5.trans (Fr.of (s8.trans s9))
                have J9 := (J5.same s8).same s9
                walk_at "rds"
                refine ⟨a, _, rfl, SqL.in (SqL.up f9 hA), fun u hu => ?_⟩
                have nu : u ≠ J := J9.out hu
                have fu : H u = none := f9.free hu nu
                refine lay (upd H9 u (.lst (ns.map V.int))) rfl hu fun G5 s10 g5 => ?_
                have f10 := f9.trans (Fr.of s10)
                have J10 := J9.same s10
                have nD : D ≠ u := ne_of_none (s9 _ _ h8) hu
                have nD2 : D2 ≠ u := ne_of_none h9 hu
                have hDG := s10 _ _ (s9 _ _ h8)
                have hDG2 := s10 _ _ h9
                walk_at "rds"
                refine ⟨⟨_, SqL.of hDG⟩, for_list (K := K) (a := D) (xs := (picked ms.length (fun m => decide ((m - d) % k = 0))).map V.int) (fun i σ' H' => ∃ os x7, σ' = [some (.ref J), some (.ref a), some (.int k), some (.ref u), some (.int d), some (.int m), some (.int wh), x7, some (.ref D), some (.ref D2)] ∧ Fr u G5 H' ∧ H' u = some (.lst ((os : List Int).map V.int)) ∧ os.length = ns.length) ?_ ?_ ?_ ?_⟩
                · exact ⟨ns, _, rfl, Fr.refl, g5, rfl⟩
                · rintro i σ' H' _ ⟨os, x7, _, fr, _⟩
                  exact SqL.of (fr.get nD hDG)
                · rintro i x σ' H' hx ⟨os, x7, rfl, fr, ho, lo⟩
                  obtain ⟨z, rfl, z0, zn⟩ := picked_in hx
                  have fz : z.toNat < os.length := by omega
                  walk_at "rds"
                  refine ⟨u, _, _, _, rfl, rfl, SqL.of ho, at_int (j := z.toNat) (by omega) (List.getElem?_eq_getElem fz), ?_⟩
                  walk_at "rds"
                  refine ⟨u, _, z, z.toNat, rfl, rfl, ho, ixN_in (by omega) (by rw [List.length_map]; exact fz), ?_⟩
                  rw [set_ints]
                  exact ⟨_, _, rfl, Fr.put fr, upd_same, by rw [List.length_set]; exact lo⟩
                · rintro σ' H' ⟨os, x7, rfl, fr, ho, lo⟩
                  walk_at "rds"
                  refine ⟨⟨_, SqL.of (fr.get nD2 hDG2)⟩, for_list (K := K) (a := D2) (xs := (picked ms.length (fun m => decide ((m - d - 1) % k = 0))).map V.int) (fun i σ' H' => ∃ os x7, σ' = [some (.ref J), some (.ref a), some (.int k), some (.ref u), some (.int d), some (.int m), some (.int wh), x7, some (.ref D), some (.ref D2)] ∧ Fr u G5 H' ∧ H' u = some (.lst ((os : List Int).map V.int)) ∧ os.length = ns.length) ?_ ?_ ?_ ?_⟩
                  · exact ⟨os, _, rfl, fr, ho, lo⟩
                  · rintro i σ' H' _ ⟨os, x7, _, fr, _⟩
                    exact SqL.of (fr.get nD2 hDG2)
                  · rintro i x σ' H' hx ⟨os, x7, rfl, fr, ho, lo⟩
                    obtain ⟨z, rfl, z0, zn⟩ := picked_in hx
                    have fz : z.toNat < os.length := by omega
                    walk_at "rds"
                    refine ⟨u, _, _, _, rfl, rfl, SqL.of ho, at_int (j := z.toNat) (by omega) (List.getElem?_eq_getElem fz), ?_⟩
                    walk_at "rds"
                    refine ⟨u, _, z, z.toNat, rfl, rfl, ho, ixN_in (by omega) (by rw [List.length_map]; exact fz), ?_⟩
                    rw [set_ints]
                    exact ⟨_, _, rfl, Fr.put fr, upd_same, by rw [List.length_set]; exact lo⟩
                  · rintro σ' H' ⟨os, x7, rfl, fr, ho, lo⟩
                    exact ⟨u, os, _, _, _, rfl, f10.over2 fu fr, J10.fr fr nu.symm, fu, ho, lo⟩
          · walk_at "rds"
            exact ⟨_, _, _, _, _, rfl, f5, J5, hf', h5, l5⟩
        · rintro σ H6 ⟨f', ms, x7, x8, x9, rfl, f6, J6, hf', h6, l6⟩
          walk_at "rds"
          exact q H6 f' ms f6 J6 hf' h6 (by omega)

-- 0:some 1:sums_here 2:size 3:top 4:wrong 5:one
theorem ok_due {f fd : _} (T : Top K mg) (F : L2.Fun K "_law_due" "_law_due" s__law_due f fd) (G__law_sums : DefOk P w K mg base CX0 1 "_law_sums" T.f__law_sums T.fd__law_sums ["numbers_here", "size"] (spSums K)) :
    FnOk P w K mg base CX0 2 f fd ["some", "sums_here", "size", "top"] (spDue K) := by
  refine F.ok sc__law_due (fun vs H Q E h => ?_) (fun cdv A outer s H vs Q E hr h => ?_)
  · obtain ⟨a, b, ns, ss, k, t, rfl, _⟩ := h
    rfl
  · obtain ⟨a, b, ns, ss, k, t, rfl, hA, hB, s1, k1, n1, q⟩ := h
    refine ⟨_, (pss_cons (ps_setLc (i := 4) (own := [("one", 5)]) (g := gName 5) (by rfl) sc__law_due.nd rfl rfl (sw_true rfl rfl rfl (by decide +kernel)) (piL (K := K) (pv 0)) (blkOk_by (N := ["some", "sums_here", "size", "top", "wrong", "one"]) (sc := defScope s__law_due) (by decide +kernel)) (fun _ _ _ _ _ => pg_name (i := 5) sc__law_due.nd rfl (Or.inl rfl)) (fun _ _ _ _ _ => (pts_one (PW.pt (pw_or (pt_cmpR op_lt (pv 5) pe_int (nomark _)) (pw_or1 (pt_cmpR op_gt (pv 5) (pv 3) (nomark _))))))) (fun _ _ _ _ _ => (pv 5)))
      (pss_cons (ps_if (PW.pt (pw_or (pt_cmpR op_ne (pe_callB (lenL (K := K)) (by rfl) T.z_len (by decide +kernel) (pa_cons (pv 0) pa_nil)) (pe_op op_sub (pe_op op_add (pe_callB (lenL (K := K)) (by rfl) T.z_len (by decide +kernel) (pa_cons (pv 1) pa_nil)) (pv 2)) pe_int) (nomark _)) (pw_or1 (pt_cmpR (neL (K := K) hr.units) (pv 4) (pe_lst pa_nil) (nomark _)))))
      (pss_one (ps_ret pe_bl))
      pss_nil)
      (pss_one (ps_ret (pe_cmpR (eqL (K := K) hr.units) (Ws.pc G__law_sums hr (pa_cons (pv 0) (pa_cons (pv 2) pa_nil))) (pv 1) (nomark _)))))), ?_⟩
    walk_at "rds"
    refine ⟨⟨_, hA⟩, fun D hD => ?_⟩
    refine lc_list (K := K) (a := a) (xs := ns.map V.int) (fun i H3 => Same H H3 ∧ H3 D = some (.lst ((outs t (ns.take i)).map V.int))) ?_ ?_ ?_ ?_
    · exact ⟨Same.new hD, upd_same⟩
    · rintro i H3 _ ⟨s3, _⟩
      exact Same.seq s3 hA
    · rintro i x H3 hx ⟨s3, h3⟩
      obtain ⟨v, hv, rfl⟩ := int_at hx
      refine ⟨rfl, ?_⟩
      have yes : (decide (v < 0) || decide (t < v)) = true → ∃ acc, H3 D = some (.lst acc) ∧ acc.length < sizeLine ∧ Same H (upd H3 D (.lst (acc ++ [.int v]))) ∧ upd H3 D (.lst (acc ++ [.int v])) D = some (.lst ((outs t (ns.take (i + 1))).map V.int)) := fun y => by
        refine ⟨_, h3, ?_, Same.mut s3 hD, ?_⟩
        · rw [List.length_map]
          have := outs_len t (ns.take i)
          rw [List.length_take] at this
          exact small1000 (by omega)
        · rw [upd_same, outs_yes hv y, List.map_append]
          rfl
      walk_at "rds"
      refine ite2 (fun z => ?_) (fun z => ?_)
      · walk_at "rds"
        exact yes (by rw [show decide (v < 0) = true from z]; rfl)
      · walk_at "rds"
        refine ite2 (fun z2 => ?_) (fun z2 => ?_)
        · walk_at "rds"
          exact yes (by rw [show decide (t < v) = true from z2, Bool.or_true])
        · refine ⟨s3, ?_⟩
          rw [outs_no hv (by rw [show decide (v < 0) = false from Bool.eq_false_iff.mpr z, show decide (t < v) = false from Bool.eq_false_iff.mpr z2]; rfl)]
          exact h3
    · rintro H3 ⟨s3, h3⟩
      rw [List.length_map, List.take_of_length_le (Nat.le_refl _)] at h3
      have q3 : ∀ H', Same H3 H' → Q (.bl (isw ss k t ns)) H' := fun H' s4 => q H' (s3.trans s4)
      unfold isw at q3
      walk_at "rds"
      refine ⟨a, _, rfl, Same.seq s3 hA, ?_⟩
      rw [List.length_map]
      walk_at "rds"
      refine ⟨b, _, rfl, Same.seq s3 hB, ?_⟩
      rw [List.length_map]
      walk_at "rds"
      refine ite2 (fun z => ?_) (fun z => ?_)
      · walk_at "rds"
        have ne : ¬ ((ns.length : Int) = ss.length + k - 1) := fun y => by
          rw [decide_eq_true (congrArg V.int y)] at z
          cases z
        have q1 := q3 H3 (Same.refl H3)
        rw [decide_eq_false ne] at q1
        exact q1
      · have ec : (ns.length : Int) = ss.length + k - 1 := by
          cases y : decide (V.int (ns.length : Int) = V.int (ss.length + k - 1)) with
          | true => exact V.int.inj (of_decide_eq_true y)
          | false =>
            rw [y] at z
            exact absurd rfl z
        walk_at "rds"
        refine ⟨by show 0 ≤ sizeLine; decide, fun y hy => ?_⟩
        refine lay (upd H3 y (.lst [])) rfl hy fun G1 s4 g1 => ?_
        refine ⟨dI (outs t ns), dI [], Dp.ints (SqL.of (s4 _ _ h3)), Dp.ints (SqL.of g1), shaped_ints _, shaped_ints _, ?_⟩
        rw [eqv_ints, outs_nil]
        cases hall : (ns.map V.int).all (wint 0 t) with
        | false =>
          rw [hall] at q3
          walk_at "rds"
          have q1 := q3 G1 s4
          rw [Bool.and_false] at q1
          exact q1
        | true =>
          rw [hall, decide_eq_true ec] at q3
          walk_at "rds"
          refine ⟨a, ns, k, rfl, Same.seq (s3.trans s4) hA, k1, by omega, n1, fun H5 p s5 hp h5 => ?_⟩
          walk_at "rds"
          refine ⟨dI (wsums ns k.toNat), dI ss, Dp.ints (SqL.of h5), Dp.ints (Same.seq ((s3.trans s4).trans s5) hB), shaped_ints _, shaped_ints _, ?_⟩
          rw [eqv_ints]
          exact q3 H5 (s4.trans s5)

def spRight (K : PySem.W.Frag) : Sp := fun vs H Q _ => ∃ (J a : Addr) (ns : List Int) (k t n : Int), vs = [.ref J, .ref a, .int k, .int t] ∧ Jar H J n ∧ n ≤ 800000000 ∧ cut J H a = some (.lst (ns.map V.int)) ∧
  1 ≤ k ∧ k ≤ 8 ∧ k ≤ ns.length ∧ ns.length ≤ 67 ∧ Btw (-(2 ^ 200)) (2 ^ 200) ns ∧ 0 ≤ t ∧ t ≤ 999999999999999999999999999999 ∧ ∀ H', Fr J H H' → Jar H' J (n + 100) → Q (.bl true) H'
theorem kb_is_way_thing_most_length_sums {fd : FuncData} {f : Addr} (F : L2.Fun K "is_way" "is_way" s_is_way f fd) : KBinds K fd ["sums", "length", "most", "thing"] ["thing", "most", "length", "sums"] gR4 gR4 := by
  obtain ⟨oc, od, kV, doc, pm, an, cdv, ct, osl, rfl, lk, hcd⟩ := F.ex
  refine ⟨fun s us ws _ h => ?_, rel_R4⟩
  obtain ⟨a, b, c, d, rfl, rfl⟩ := R4_inv h
  exact .of_eq rfl
-- 0:jar 1:some 2:size 3:top 4:sums_here 5:deep 6:before 7:turn 8:other_some 9:copy_here 10:told 11:odd 12:spot 13:bad 14:thing_here
theorem ok_right {f fd : _} (T : Top K mg) (F : L2.Fun K "_law_right" "_law_right" s__law_right f fd)
    (G__law_dip : DefOk P w K mg base CX0 1 "_law_dip" T.f__law_dip T.fd__law_dip ["jar", "many"] spDip)
    (G__law_sums : DefOk P w K mg base CX0 1 "_law_sums" T.f__law_sums T.fd__law_sums ["numbers_here", "size"] (spSums K))
    (G__law_changed : DefOk P w K mg base CX0 2 "_law_changed" T.f__law_changed T.fd__law_changed ["jar", "some", "size"] (spChanged K))
    (G__law_due : DefOk P w K mg base CX0 2 "_law_due" T.f__law_due T.fd__law_due ["some", "sums_here", "size", "top"] (spDue K))
    (G_is_way : DefOk P w K mg base CX0 6 "is_way" T.f_is_way T.fd_is_way ["sums", "length", "most", "thing"] (spIsWay K)) :
    FnG P w K mg base CX0 7 f fd ["jar", "some", "size", "top"] (spRight K) := by
  have kb_is_way_thing_most_length_sums := kb_is_way_thing_most_length_sums T.F_is_way
  refine okG F sc__law_right (fun vs H Q E h => ?_) (fun cdv A outer s H vs Q E hr gu h => ?_)
  · obtain ⟨J, a, ns, k, t, n, rfl, _⟩ := h
    rfl
  · obtain ⟨J, a, ns, k, t, n, rfl, hJ, hn, hA, k1, k8, kn, n67, hb, t0, tm, q⟩ := h
    refine ⟨_, (pss_cons (ps_asg (pe_tup (pa_cons (Ws.pc G__law_sums hr (pa_cons (pv 1) (pa_cons (pv 2) pa_nil))) (pa_cons (pe_lst (pa_cons (pv 1) pa_nil)) pa_nil))) (pgT (K := K) (n := 2) (by rfl) (pgs_cons (pg_name (i := 4) sc__law_right.nd rfl (.inr rfl)) (pgs_cons (pg_name (i := 5) sc__law_right.nd rfl (.inl rfl)) pgs_nil))))
      (pss_cons (ps_set (i := 6) sc__law_right.nd rfl (.inl rfl) (pe_callB (reprL (K := K) gu hr.units) (by rfl) T.z_repr (by decide +kernel) (pa_cons (pe_lst (pa_cons (pv 1) (pa_cons (pv 4) pa_nil))) pa_nil)))
      (pss_cons (ps_for PassesOwn.never rfl (pi_range1 (by rfl) T.z_range (pa_cons pe_int pa_nil)) (pg_name (i := 7) sc__law_right.nd rfl (.inl rfl))
      (Evl.pss_cut (ps_set (i := 8) sc__law_right.nd rfl (.inl rfl) (pe_ifExp (pt_cmpR op_gt (pv 7) pe_int (nomark _)) (Ws.pc G__law_changed hr (pa_cons (pv 0) (pa_cons (pv 1) (pa_cons (pv 2) pa_nil)))) (pe_callTy (listL (K := K)) (by rfl) T.z_list (by decide +kernel) (pa_cons (pv 1) pa_nil))))
      (pss_cons (ps_set (i := 9) sc__law_right.nd rfl (.inl rfl) (pe_callTy (listL (K := K)) (by rfl) T.z_list (by decide +kernel) (pa_cons (pv 8) pa_nil)))
      (pss_cons (ps_set (i := 10) sc__law_right.nd rfl (.inl rfl) (Ws.pckw G_is_way hr kb_is_way_thing_most_length_sums (pk_cons (pv 8) (pk_cons (pv 3) (pk_cons (pv 2) (pk_cons (pv 4) pk_nil))))))
      (pss_cons (ps_if (pt_cmpR op_ne (pe_callB (reprL (K := K) gu hr.units) (by rfl) T.z_repr (by decide +kernel) (pa_cons (pv 10) pa_nil)) (pe_callB (reprL (K := K) gu hr.units) (by rfl) T.z_repr (by decide +kernel) (pa_cons (Ws.pc G__law_due hr (pa_cons (pv 8) (pa_cons (pv 4) (pa_cons (pv 2) (pa_cons (pv 3) pa_nil))))) pa_nil)) (nomark _))
      (pss_one (ps_ret pe_bl))
      pss_nil)
      (pss_one (ps_if (pt_cmpR (neL (K := K) hr.units) (pv 8) (pv 9) (nomark _))
      (pss_one (ps_ret pe_bl))
      pss_nil)))))))
      (pss_cons (ps_for PassesOwn.never rfl (pi_range1 (by rfl) T.z_range (pa_cons pe_int pa_nil)) (pg_name (i := 7) sc__law_right.nd rfl (.inl rfl))
      (pss_one (ps_set (i := 5) sc__law_right.nd rfl (.inl rfl) (pe_lst (pa_cons (pv 5) pa_nil)))))
      (pss_cons (ps_set (i := 11) sc__law_right.nd rfl (.inl rfl) (pe_lst (pa_cons pe_non (pa_cons pe_int (pa_cons pe_bl (pa_cons pe_str (pa_cons pe_dnewK (pa_cons (pe_tup pa_nil) (pa_cons (pe_lst pa_nil) (pa_cons (pe_callTy (tupL (K := K)) (by rfl) T.z_tuple (by decide +kernel) (pa_cons (pv 1) pa_nil)) (pa_cons (pe_lst (pa_cons (pv 1) pa_nil)) (pa_cons (pe_op op_cat (pv 1) (pe_lst (pa_cons pe_non pa_nil))) (pa_cons (pe_op op_rep (pe_lst (pa_cons pe_str pa_nil)) (pe_callB (lenL (K := K)) (by rfl) T.z_len (by decide +kernel) (pa_cons (pv 1) pa_nil))) (pa_cons (pv 5) (pa_cons (pe_exc1 PySem.F.excBase_ValueError T.x_InvalidWay T.g_InvalidWay T.k_InvalidWay (by rfl) pe_str) pa_nil)))))))))))))))
      (pss_cons (ps_set (i := 12) sc__law_right.nd rfl (.inl rfl) (Ws.pc G__law_dip hr (pa_cons (pv 0) (pa_cons (pe_callB (lenL (K := K)) (by rfl) T.z_len (by decide +kernel) (pa_cons (pv 1) pa_nil)) pa_nil))))
      (pss_cons (ps_for PassesOwn.never rfl (piL (K := K) (pe_lst (pa_cons pe_non (pa_cons pe_str (pa_cons (pe_lst (pa_cons (pe_ix (ixL (K := K)) (pv 1) (pv 12) (fun _ _ => rfl)) pa_nil)) (pa_cons (pe_tup (pa_cons (pe_ix (ixL (K := K)) (pv 1) (pv 12) (fun _ _ => rfl)) pa_nil)) (pa_cons (pe_cmpR op_eq (pe_ix (ixL (K := K)) (pv 1) (pv 12) (fun _ _ => rfl)) pe_int (nomark _)) pa_nil))))))) (pg_name (i := 13) sc__law_right.nd rfl (.inl rfl))
      (pss_one (ps_expr (bmK (K := K) (pe_bm PySem.F.plainAttrs_list PySem.F.slot_list_append PySem.F.type_list_append mt_append (pv 11) (pa_cons (pe_op op_cat (pe_op op_cat (pe_slice (slL (K := K)) (pv 1) po_none (po_some (pv 12))) (pe_lst (pa_cons (pv 13) pa_nil))) (pe_slice (slL (K := K)) (pv 1) (po_some (pe_op op_add (pv 12) pe_int)) po_none)) pa_nil))))))
      (pss_cons (ps_setLc (i := 10) (own := [("thing_here", 14)]) (g := gName 14) (tt := tYes) (by rfl) sc__law_right.nd rfl rfl (sw_true rfl rfl rfl (by decide +kernel)) (piL (K := K) (pe_op op_cat (pv 11) (pe_lst (pa_cons (pe_op op_rep (pe_lst (pa_cons pe_int pa_nil)) pe_int) pa_nil)))) (blkOk_by (N := ["jar", "some", "size", "top", "sums_here", "deep", "before", "turn", "other_some", "copy_here", "told", "odd", "spot", "bad", "thing_here"]) (sc := defScope s__law_right) (by decide +kernel)) (fun _ _ _ _ _ => pg_name (i := 14) sc__law_right.nd rfl (Or.inl rfl)) (fun _ _ _ _ _ => pts_nil) (fun _ _ _ _ _ => (pe_callB (reprL (K := K) gu hr.units) (by rfl) T.z_repr (by decide +kernel) (pa_cons (Ws.pc G_is_way hr (pa_cons (pv 4) (pa_cons (pv 2) (pa_cons (pv 3) (pa_cons (pv 14) pa_nil))))) pa_nil))))
      (pss_one (ps_ret (pe_and (pe_cmpR (eqL (K := K) hr.units) (pv 10) (pe_op op_rep (pe_lst (pa_cons pe_str pa_nil)) (pe_op op_add (pe_callB (lenL (K := K)) (by rfl) T.z_len (by decide +kernel) (pa_cons (pv 11) pa_nil)) pe_int)) (nomark _)) (pe_one (pe_cmpR op_eq (pe_callB (reprL (K := K) gu hr.units) (by rfl) T.z_repr (by decide +kernel) (pa_cons (pe_lst (pa_cons (pv 1) (pa_cons (pv 4) pa_nil))) pa_nil)) (pv 6) (nomark _)))))))))))))), ?_⟩
    obtain ⟨na, ha⟩ := cut_some hA
    have wl : (wsums ns k.toNat).length = ns.length + 1 - k.toNat := wsums_len ns k.toNat
    have mS : Sml (wsums ns k.toNat) := Sml.btw (wsums_btw (B := 2 ^ 200) (by decide) hb (by omega)) (by decide +kernel) (by decide +kernel)
    have mN : Sml ns := Sml.btw hb (by decide +kernel) (by decide +kernel)
    have rp := shw_two mN mS (by omega) (by omega)
    have eN : ((wsums ns k.toNat).length : Int) + k - 1 = ns.length := by omega
    have ws1 : 1 ≤ (wsums ns k.toNat).length := by omega
    have ws2 : k + ((wsums ns k.toNat).length : Int) ≤ 68 := by omega
    generalize hss : wsums ns k.toNat = ss at *
    walk_at "rds"
    refine ⟨a, ns, k, rfl, SqL.of ha, k1, kn, by omega, fun H1 u s1 fu hu => ?_⟩
    rw [hss] at hu
    have nu : u ≠ J := hJ.out fu
    walk_at "rds"
    refine ⟨by show 1 ≤ sizeLine; decide, fun dp hdp => ?_⟩
    have ndp : dp ≠ J := (hJ.same s1).out hdp
    refine lay (upd H1 dp (.lst [.ref a])) rfl hdp fun H2 s2 g2 => ?_
    walk_at "rds"
    refine ⟨by show 2 ≤ sizeLine; decide, fun p hp => ?_⟩
    refine lay (upd H2 p (.tup [.ref u, .ref dp])) rfl hp fun H3 s3 g3 => ?_
    walk_at "rds"
    refine ⟨p, _, rfl, SqT.of g3, rfl, _, _, rfl, _, _, rfl, rfl, ?_⟩
    walk_at "rds"
    refine ⟨by show 2 ≤ sizeLine; decide, fun b hb1 => ?_⟩
    refine lay (upd H3 b (.lst [.ref a, .ref u])) rfl hb1 fun H4 s4 g4 => ?_
    have s14 := (s2.trans s3).trans s4
    have a4 : H4 a = some (.lst (ns.map V.int)) := s14 _ _ (s1 _ _ ha)
    have u4 : H4 u = some (.lst (ss.map V.int)) := s14 _ _ hu
    refine ⟨_, .list [dI ns, dI ss], rfl, .lst (SqL.of g4) (.cons (Dp.ints (SqL.of a4)) (.cons (Dp.ints (SqL.of u4)) .nil)), rp, ?_⟩
    have J4 : Jar H4 J n := (hJ.same s1).same s14
    have d4 : H4 dp = some (.lst [.ref a]) := s4 _ _ (s3 _ _ g2)
    have s04 := s1.trans s14
    walk_at "rds"
    refine ⟨by decide, by decide, for_range (fun i σ H' => ∃ x7 x8 x9 x10 x11 x12 x13 x14, σ = [some (.ref J), some (.ref a), some (.int k), some (.int t), some (.ref u), some (.ref dp), some (.str (PyData.list [dI ns, dI ss]).shown), x7, x8, x9, x10, x11, x12, x13, x14] ∧ Fr J H4 H' ∧ Jar H' J (n + 5 * i)) ?_ ?_ ?_⟩
    · exact ⟨_, _, _, _, _, _, _, _, rfl, Fr.refl, J4.mono (by omega)⟩
    · rintro i σ H' hi ⟨x7, x8, x9, x10, x11, x12, x13, x14, rfl, f1, J1⟩
      have hi6 : i < 6 := hi
      have a5 := f1.get na a4
      have u5 := f1.get nu u4
      refine ⟨fun σ H5 => ∃ o ms x9 x10 x11 x12 x13 x14, σ = [some (.ref J), some (.ref a), some (.int k), some (.int t), some (.ref u), some (.ref dp), some (.str (PyData.list [dI ns, dI ss]).shown), some (.int (0 + (i : Int))), some (.ref o), x9, x10, x11, x12, x13, x14] ∧ Fr J H' H5 ∧ Jar H5 J (n + 5 * i + 3) ∧ H5 o = some (.lst ((ms : List Int).map V.int)) ∧ ms.length ≤ 68, ?_, ?_⟩
      · walk_at "rds"
        refine ite2 (fun z => ?_) (fun z => ?_)
        · walk_at "rds"
          refine ⟨J, a, ns, k, n + 5 * i, rfl, J1, by omega, SqL.of (by rw [cut_ne na]; exact a5), by omega, n67, k1, fun H5 o ms f2 J2 ho h5 l5 => ?_⟩
          exact ⟨_, _, _, _, _, _, _, _, rfl, f2, J2, h5, l5⟩
        · walk_at "rds"
          refine ⟨a, _, rfl, SqL.of a5, fun o ho => ?_⟩
          exact ⟨_, _, _, _, _, _, _, _, rfl, Fr.of (Same.new ho), (J1.new ho).mono (by omega), upd_same, by omega⟩
      · rintro σ H5 ⟨o, ms, x9, x10, x11, x12, x13, x14, rfl, f2, J2, h5, l5⟩
        have f12 := f1.trans f2
        have u6 := f12.get nu u4
        walk_at "rds"
        refine ⟨o, _, rfl, SqL.of h5, fun c hc => ?_⟩
        refine lay (upd H5 c (.lst (ms.map V.int))) rfl hc fun H6 s6 g6 => ?_
        walk_at "rds"
        refine ⟨u, ss, k, t, .ref o, rfl, SqL.of (s6 _ _ u6), ws1, k1, k8, ws2, t0, tm, .inl ⟨o, ms, rfl, SqL.of (s6 _ _ h5), by omega, fun H7 s7 => ?_⟩⟩
        walk_at "rds"
        refine ⟨_, .bool (isw ss k t ms), rfl, .bl _, shw_bool _, ?_⟩
        walk_at "rds"
        refine ⟨o, u, ms, ss, k, t, rfl, SqL.of (s7 _ _ (s6 _ _ h5)), SqL.of (s7 _ _ (s6 _ _ u6)), ws1, k1, by omega, fun H8 s8 => ?_⟩
        walk_at "rds"
        refine ⟨_, .bool (isw ss k t ms), rfl, .bl _, shw_bool _, ?_⟩
        walk_at "rds"
        refine iteNS rfl ?_
        have s58 := (s6.trans s7).trans s8
        walk_at "rds"
        refine ⟨dI ms, dI ms, Dp.ints (SqL.of (s58 _ _ h5)), Dp.ints (SqL.of (s8 _ _ (s7 _ _ g6))), shaped_ints _, shaped_ints _, ?_⟩
        rw [eqv_ints, decide_eq_true rfl]
        walk_at "rds"
        exact ⟨_, _, _, _, _, _, _, _, rfl, f12.trans (Fr.of s58), (J2.same s58).mono (by omega)⟩
    · rintro σ H' ⟨x7, x8, x9, x10, x11, x12, x13, x14, rfl, f1, J1⟩
      have J1' : Jar H' J (n + 30) := J1.mono (by show n + 5 * ((6 : Nat) : Int) ≤ _; omega)
      walk_at "rds"
      refine ⟨by decide, by decide, for_range (fun i σ H5 => ∃ x7 dq y zs, σ = [some (.ref J), some (.ref a), some (.int k), some (.int t), some (.ref u), some (.ref dq), some (.str (PyData.list [dI ns, dI ss]).shown), x7, x8, x9, x10, x11, x12, x13, x14] ∧ Fr J H4 H5 ∧ Jar H5 J (n + 30) ∧ dq ≠ J ∧ H5 dq = some (.lst [.ref y]) ∧ y ≠ J ∧ H5 y = some (.lst zs)) ?_ ?_ ?_⟩
      · exact ⟨_, dp, a, _, rfl, f1, J1', ndp, f1.get ndp d4, na, f1.get na a4⟩
      · rintro i σ H5 hi ⟨x7, dq, y, zs, rfl, f2, J2, nq, h5, ny, hy⟩
        walk_at "rds"
        refine ⟨by show 1 ≤ sizeLine; decide, fun r hr1 => ?_⟩
        refine lay (upd H5 r (.lst [.ref dq])) rfl hr1 fun H6 s6 g6 => ?_
        exact ⟨_, r, dq, _, rfl, f2.trans (Fr.of s6), J2.same s6, J2.out hr1, g6, nq, s6 _ _ h5⟩
      · rintro σ G0 ⟨x7, dq, y, zs, rfl, f2, J2, nq, h5, ny, hy⟩
        have a0 := f2.get na a4
        have u0 := f2.get nu u4
        walk_at "rds"
        refine fun o1 h1 => ?_
        refine lay (upd G0 o1 (.dK [])) rfl h1 fun G1 s1 g1 => ?_
        walk_at "rds"
        refine ⟨by show 0 ≤ sizeLine; decide, fun o2 h2 => ?_⟩
        refine lay (upd G1 o2 (.tup [])) rfl h2 fun G2 s2 g2 => ?_
        walk_at "rds"
        refine ⟨by show 0 ≤ sizeLine; decide, fun o3 h3 => ?_⟩
        refine lay (upd G2 o3 (.lst [])) rfl h3 fun G3 s3 g3 => ?_
        have s03 := (s1.trans s2).trans s3
        walk_at "rds"
        refine ⟨a, _, rfl, SqL.of (s03 _ _ a0), fun o4 h4 => ?_⟩
        refine lay (upd G3 o4 (.tup (ns.map V.int))) rfl h4 fun G4 s4 g4 => ?_
        walk_at "rds"
        refine ⟨by show 1 ≤ sizeLine; decide, fun o5 h5' => ?_⟩
        refine lay (upd G4 o5 (.lst [.ref a])) rfl h5' fun G5 s5 g5 => ?_
        walk_at "rds"
        refine ⟨by show 1 ≤ sizeLine; decide, fun o6 h6 => ?_⟩
        refine lay (upd G5 o6 (.lst [.non])) rfl h6 fun G6 s6 g6 => ?_
        have s06 := ((s03.trans s4).trans s5).trans s6
        refine ⟨a, o6, _, _, rfl, rfl, s06 _ _ a0, g6, ?_, fun o7 h7 => ?_⟩
        · rw [List.length_map]
          exact Nat.le_of_lt (small1000 (by show ns.length + 1 ≤ 1000; omega))
        refine lay (upd G6 o7 (.lst (ns.map V.int ++ [V.non]))) rfl h7 fun G7 s7 g7 => ?_
        walk_at "rds"
        refine ⟨by show 1 ≤ sizeLine; decide, fun o8 h8 => ?_⟩
        refine lay (upd G7 o8 (.lst [.str "0"])) rfl h8 fun G8 s8 g8 => ?_
        have s08 := (s06.trans s7).trans s8
        walk_at "rds"
        refine ⟨a, _, rfl, SqL.of (s08 _ _ a0), ?_⟩
        rw [List.length_map]
        refine ⟨o8, _, _, rfl, rfl, g8, by omega, by omega, ?_, fun o9 h9 => ?_⟩
        · show 1 * ((ns.length : Int)).toNat ≤ sizeLine
          exact Nat.le_of_lt (small1000 (by omega))
        rw [flat_rep]
        refine lay (upd G8 o9 (.lst (List.replicate ((ns.length : Int)).toNat (.str "0")))) rfl h9 fun G9 s9 g9 => ?_
        walk_at "rds"
        refine fun o10 h10 => ?_
        refine lay (upd G9 o10 (ExO (.ref T.C_InvalidWay) o10)) rfl h10 fun GB s10 g10 => ?_
        walk_at "rds"
        refine ⟨by show 13 ≤ sizeLine; decide, fun O hO => ?_⟩
        have s8B := s9.trans s10
        have s0B := s08.trans s8B
        have J0 : Jar GB J (n + 30) := J2.same s0B
        have nO : O ≠ J := J0.out hO
        -- all of them are no rows of so many integers
        have fresh : ∀ {G : Hp} {o : Addr}, Same G0 G → G o = none → o ≠ J := fun s e => (J2.same s).out e
        have up : ∀ {G : Hp} {b : Addr} {o : HO}, Same G GB → b ≠ J → G b = some o → cut J GB b = some o := fun s nb e => by rw [cut_ne nb]; exact s _ _ e
        have s7B : Same G7 GB := s8.trans s8B
        have s5B : Same G5 GB := (s6.trans s7).trans s7B
        have s4B : Same G4 GB := s5.trans s5B
        have s3B : Same G3 GB := s4.trans s4B
        have s2B : Same G2 GB := s3.trans s3B
        have s1B : Same G1 GB := s2.trans s2B
        have aB : cut J GB a = some (.lst (ns.map V.int)) := up s0B na a0
        have uB : cut J GB u = some (.lst (ss.map V.int)) := up s0B nu u0
        have bad13 : ∀ x ∈ [V.non, .int 1, .bl true, .str "", .ref o1, .ref o2, .ref o3, .ref o4, .ref o5, .ref o7, .ref o9, .ref dq, .ref o10], Bad K (cut J GB) (ss.length + k - 1) x := by
          intro x hx
          simp only [List.mem_cons, List.not_mem_nil, or_false] at hx
          rcases hx with rfl | rfl | rfl | rfl | rfl | rfl | rfl | rfl | rfl | rfl | rfl | rfl | rfl
          · exact .inr (.inl ⟨_, .non, by decide⟩)
          · exact .inr (.inl ⟨_, .int 1, by decide⟩)
          · exact .inr (.inl ⟨_, .bl true, by decide⟩)
          · exact .inr (.inl ⟨_, .str "", by decide⟩)
          · exact .inr (.inl ⟨_, .dK (up s1B (fresh (Same.refl _) h1) g1), by decide⟩)
          · exact .inr (.inl ⟨_, .tup (SqT.of (up s2B (fresh s1 h2) g2)), by decide⟩)
          · exact .inl ⟨o3, [], rfl, up s3B (fresh (s1.trans s2) h3) g3, by decide, fun y hy => absurd hy List.not_mem_nil, .inl (by show (0 : Int) ≠ _; omega)⟩
          · exact .inr (.inl ⟨_, .tup (SqT.of (up s4B (fresh s03 h4) g4)), by decide⟩)
          · exact .inl ⟨o5, [.ref a], rfl, up s5B (fresh (s03.trans s4) h5') g5, by show 1 ≤ 50000; decide, fun y hy => .inr (by rw [List.mem_singleton.mp hy]; exact Odd.lst aB), .inr ⟨_, List.mem_singleton.mpr rfl, rfl⟩⟩
          · refine .inl ⟨o7, _, rfl, up s7B (fresh s06 h7) g7, by rw [List.length_append, List.length_map]; show ns.length + 1 ≤ _; omega, fun y hy => ?_, .inr ⟨.non, List.mem_append_right _ (List.mem_singleton.mpr rfl), rfl⟩⟩
            rcases List.mem_append.mp hy with z | z
            · obtain ⟨v, _, rfl⟩ := List.mem_map.mp z
              exact .inl rfl
            · rw [List.mem_singleton.mp z]
              exact .inr Odd.non
          · refine .inl ⟨o9, _, rfl, up s10 (fresh s08 h9) g9, by rw [List.length_replicate]; omega, fun y hy => ?_, .inr ⟨.str "0", ?_, rfl⟩⟩
            · rw [(List.mem_replicate.mp hy).2]
              exact .inr (Odd.str _)
            · exact List.mem_replicate.mpr ⟨by omega, rfl⟩
          · exact .inl ⟨dq, [.ref y], rfl, up s0B nq h5, by show 1 ≤ 50000; decide, fun z hz => .inr (by rw [List.mem_singleton.mp hz]; exact Odd.lst (up s0B ny hy)), .inr ⟨_, List.mem_singleton.mpr rfl, rfl⟩⟩
          · exact .inr (.inr ⟨o10, _, rfl, up (Same.refl _) (fresh (s08.trans s9) h10) g10⟩)
        generalize hL : [V.non, .int 1, .bl true, .str "", .ref o1, .ref o2, .ref o3, .ref o4, .ref o5, .ref o7, .ref o9, .ref dq, .ref o10] = os at bad13 ⊢
        have l13 : os.length = 13 := by rw [← hL]; rfl
        refine lay (upd GB O (.lst os)) rfl hO fun GO sO gO => ?_
        walk_at "rds"
        refine ⟨a, _, rfl, SqL.of (sO _ _ (s0B _ _ a0)), ?_⟩
        rw [List.length_map]
        walk_at "rds"
        refine ⟨J, ns.length, n + 30, rfl, J0.same sO, by omega, by omega, Int.lt_of_le_of_lt (b := 67) (by omega) (by decide +kernel), fun Hd sp fd Jd sp0 sp1 => ?_⟩
        have sC : Same (cut J GB) (cut O (cut J Hd)) := fun b o e => by
          obtain ⟨n1, e1⟩ := cut_some e
          have n2 : b ≠ O := ne_of_none e1 hO
          rw [cut_ne n2]
          exact fd b o (by rw [cut_ne n1]; exact sO _ _ e1)
        have aC := sC _ _ aB
        have uC := sC _ _ uB
        have hOd := fd.get nO gO
        have fsp : sp.toNat < ns.length := by omega
        have esp : ns[sp.toNat]? = some ns[sp.toNat] := List.getElem?_eq_getElem fsp
        generalize ns[sp.toNat] = v at esp
        walk_at "rds"
        refine ⟨a, _, _, _, rfl, rfl, SqL.of (cut_two_some aC), at_int (j := sp.toNat) (by omega) esp, ?_⟩
        walk_at "rds"
        refine ⟨by show 1 ≤ sizeLine; decide, fun l1 hl1 => ?_⟩
        have l1J : l1 ≠ J := Jd.out hl1
        have l1O : l1 ≠ O := (ne_of_none hOd hl1).symm
        refine lay (upd Hd l1 (.lst [.int v])) rfl hl1 fun D1 t1 d1 => ?_
        walk_at "rds"
        refine ⟨a, _, _, _, rfl, rfl, SqL.of (t1 _ _ (cut_two_some aC)), at_int (j := sp.toNat) (by omega) esp, ?_⟩
        walk_at "rds"
        refine ⟨by show 1 ≤ sizeLine; decide, fun l2 hl2 => ?_⟩
        have l2J : l2 ≠ J := (Jd.same t1).out hl2
        have l2O : l2 ≠ O := (ne_of_none (t1 _ _ hOd) hl2).symm
        refine lay (upd D1 l2 (.tup [.int v])) rfl hl2 fun D2 t2 d2 => ?_
        have t12 := t1.trans t2
        walk_at "rds"
        refine ⟨a, _, _, _, rfl, rfl, SqL.of (t12 _ _ (cut_two_some aC)), at_int (j := sp.toNat) (by omega) esp, ?_⟩
        walk_at "rds"
        refine ⟨by show 5 ≤ sizeLine; decide, fun L hL5 => ?_⟩
        have LJ : L ≠ J := (Jd.same t12).out hL5
        have LO : L ≠ O := (ne_of_none (t12 _ _ hOd) hL5).symm
        refine lay (upd D2 L (.lst [.non, .str "0", .ref l1, .ref l2, .bl (decide (V.int v = V.int 1))])) rfl hL5 fun D3 t3 d3 => ?_
        have t13 := t12.trans t3
        have c13 : Same (cut O (cut J Hd)) (cut O (cut J D3)) := cut_two t13
        have L3 : cut O (cut J D3) L = some (.lst [.non, .str "0", .ref l1, .ref l2, .bl (decide (V.int v = V.int 1))]) := cut_two_of d3 LO LJ
        have odd5 : ∀ x ∈ [V.non, .str "0", .ref l1, .ref l2, .bl (decide (V.int v = V.int 1))], whole x = false ∧ Odd K (cut O (cut J D3)) x := by
          intro x hx
          simp only [List.mem_cons, List.not_mem_nil, or_false] at hx
          rcases hx with rfl | rfl | rfl | rfl | rfl
          · exact ⟨rfl, Odd.non⟩
          · exact ⟨rfl, Odd.str _⟩
          · exact ⟨rfl, Odd.lst (cut_two_of (t3 _ _ (t2 _ _ d1)) l1O l1J)⟩
          · exact ⟨rfl, Odd.tup (cut_two_of (t3 _ _ d2) l2O l2J)⟩
          · exact ⟨rfl, Odd.bl _⟩
        generalize hX : [V.non, .str "0", .ref l1, .ref l2, .bl (decide (V.int v = V.int 1))] = xs5 at L3 odd5 d3
        have lx : xs5.length = 5 := by rw [← hX]; rfl
        walk_at "rds"
        refine ⟨⟨_, SqL.of d3⟩, for_list (K := K) (a := L) (xs := xs5) (fun i σ' H' => ∃ os x13, σ' = [some (.ref J), some (.ref a), some (.int k), some (.int t), some (.ref u), some (.ref dq), some (.str (PyData.list [dI ns, dI ss]).shown), x7, x8, x9, x10, some (.ref O), some (.int sp), x13, x14] ∧ Same (cut O (cut J D3)) (cut O (cut J H')) ∧ Jar H' J (n + 31) ∧ H' O = some (.lst os) ∧ os.length = 13 + i ∧ ∀ x ∈ os, Bad K (cut O (cut J H')) (ss.length + k - 1) x) ?_ ?_ ?_ ?_⟩
        · exact ⟨os, _, rfl, Same.refl _, (Jd.same t13).mono (by omega), t13 _ _ hOd, l13, fun x hx => (bad13 x hx).up (sC.trans c13)⟩
        · rintro i σ' H' _ ⟨_, _, _, sE, _⟩
          exact SqL.of (cut_two_some (sE _ _ L3))
        · rintro i x σ' H' hx ⟨os, x13, rfl, sE, JE, hOE, lE, bE⟩
          obtain ⟨wx, ox⟩ := odd5 x (List.mem_of_getElem? hx)
          have iE : i < 5 := by
            have := (List.getElem?_eq_some_iff.mp hx).1
            omega
          have aE := cut_two_some (sE _ _ (c13 _ _ aC))
          walk_at "rds"
          refine ⟨.inl ⟨rfl, _, SqL.of hOE⟩, ?_⟩
          walk_at "rds"
          refine ⟨a, _, rfl, SqL.of aE, fun r1 q1 => ?_⟩
          obtain ⟨m1, e1, w1⟩ := cut_ints ns none (some sp)
          rw [e1]
          refine lay (upd H' r1 (.lst (m1.map V.int))) rfl q1 fun E1 v1 z1 => ?_
          walk_at "rds"
          refine ⟨by show 1 ≤ sizeLine; decide, fun r2 q2 => ?_⟩
          refine lay (upd E1 r2 (.lst [x])) rfl q2 fun E2 v2 z2 => ?_
          refine ⟨r1, r2, _, _, rfl, rfl, v2 _ _ z1, z2, ?_, fun r3 q3 => ?_⟩
          · rw [List.length_map]
            exact Nat.le_of_lt (small1000 (by show m1.length + 1 ≤ 1000; omega))
          refine lay (upd E2 r3 (.lst (m1.map V.int ++ [x]))) rfl q3 fun E3 v3 z3 => ?_
          have v13 := (v1.trans v2).trans v3
          walk_at "rds"
          refine ⟨a, _, rfl, SqL.of (v13 _ _ aE), fun r4 q4 => ?_⟩
          obtain ⟨m2, e2, w2⟩ := cut_ints ns (some (sp + 1)) none
          rw [e2]
          refine lay (upd E3 r4 (.lst (m2.map V.int))) rfl q4 fun E4 v4 z4 => ?_
          refine ⟨r3, r4, _, _, rfl, rfl, v4 _ _ z3, z4, ?_, fun r5 q5 => ?_⟩
          · rw [List.length_append, List.length_map, List.length_map]
            exact Nat.le_of_lt (small1000 (by show m1.length + 1 + m2.length ≤ 1000; omega))
          have JE4 : Jar E4 J (n + 31) := (JE.same v13).same v4
          have hO4 : E4 O = some (.lst os) := v4 _ _ (v13 _ _ hOE)
          have r5J : r5 ≠ J := JE4.out q5
          have r5O : r5 ≠ O := (ne_of_none hO4 q5).symm
          refine lay (upd E4 r5 (.lst (m1.map V.int ++ [x] ++ m2.map V.int))) rfl q5 fun E5 v5 z5 => ?_
          have v15 := (v13.trans v4).trans v5
          have cE : Same (cut O (cut J H')) (cut O (cut J E5)) := cut_two v15
          walk_at "rds"
          refine ⟨O, _, .ref r5, rfl, rfl, v5 _ _ hO4, small1000 (by omega), ?_⟩
          walk_at "rds"
          refine ⟨_, _, rfl, ?_, (JE4.same v5).ex nO, upd_same, by rw [List.length_append, lE]; rfl, ?_⟩
          · rw [cut_two_put]
            exact sE.trans cE
          · intro y hy
            rw [cut_two_put]
            rcases List.mem_append.mp hy with z | z
            · exact (bE y z).up cE
            · rw [List.mem_singleton.mp z]
              refine .inl ⟨r5, _, rfl, cut_two_of z5 r5O r5J, ?_, fun y hy => ?_, .inr ⟨x, List.mem_append_left _ (List.mem_append_right _ (List.mem_singleton.mpr rfl)), wx⟩⟩
              · rw [List.length_append, List.length_append, List.length_map, List.length_map]
                show m1.length + 1 + m2.length ≤ _
                omega
              · rcases List.mem_append.mp hy with z | z
                · rcases List.mem_append.mp z with z | z
                  · obtain ⟨v, _, rfl⟩ := List.mem_map.mp z
                    exact .inl rfl
                  · rw [List.mem_singleton.mp z]
                    exact .inr (ox.up (sE.trans cE))
                · obtain ⟨v, _, rfl⟩ := List.mem_map.mp z
                  exact .inl rfl
        · rintro σ' H' ⟨os, x13, rfl, sE, JE, hOE, lE, bE⟩
          rw [lx] at lE
          have cE := c13.trans sE
          have aE := cut_two_some (cE _ _ aC)
          have uE := cut_two_some (cE _ _ uC)
          walk_at "rds"
          refine ⟨by show 1 ≤ sizeLine; decide, fun y1 r1 => ?_⟩
          refine lay (upd H' y1 (.lst [.int 0])) rfl r1 fun E1 v1 z1 => ?_
          walk_at "rds"
          refine ⟨y1, _, _, rfl, rfl, z1, by decide, by decide, by show 1 * 3990 ≤ sizeLine; decide, fun y2 r2 => ?_⟩
          rw [flat_rep]
          refine lay (upd E1 y2 (.lst (List.replicate (3990 : Int).toNat (.int 0)))) rfl r2 fun E2 v2 z2 => ?_
          walk_at "rds"
          refine ⟨by show 1 ≤ sizeLine; decide, fun y3 r3 => ?_⟩
          refine lay (upd E2 y3 (.lst [.ref y2])) rfl r3 fun E3 v3 z3 => ?_
          have v13 := (v1.trans v2).trans v3
          refine ⟨O, y3, _, _, rfl, rfl, v13 _ _ hOE, z3, by rw [lE]; show 18 + 1 ≤ sizeLine; decide, fun OL r4 => ?_⟩
          refine lay (upd E3 OL (.lst (os ++ [V.ref y2]))) rfl r4 fun E4 v4 z4 => ?_
          have v14 := v13.trans v4
          have y2J : y2 ≠ J := (JE.same v1).out r2
          have y2O : y2 ≠ O := (ne_of_none (v1 _ _ hOE) r2).symm
          have all19 : ∀ x ∈ os ++ [V.ref y2], Bad K E4 (ss.length + k - 1) x := by
            intro x hx
            rcases List.mem_append.mp hx with z | z
            · exact ((bE x z).up (cut_two v14)).up (Same.trans cut_sub cut_sub)
            · rw [List.mem_singleton.mp z]
              refine .inl ⟨y2, _, rfl, v4 _ _ (v3 _ _ z2), by rw [List.length_replicate]; decide, fun w hw => .inl (by rw [(List.mem_replicate.mp hw).2]; rfl), .inl ?_⟩
              rw [List.length_replicate]
              show ((3990 : Nat) : Int) ≠ _
              omega
          generalize hOL : os ++ [V.ref y2] = ol at all19 z4
          have l19 : ol.length = 19 := by rw [← hOL, List.length_append, lE]; rfl
          have u4' := v14 _ _ uE
          walk_at "rds"
          refine ⟨⟨_, SqL.of z4⟩, fun D hD => ?_⟩
          refine lc_list (K := K) (a := OL) (xs := ol) (fun i H3 => Same E4 H3 ∧ H3 D = some (.lst (List.replicate i (.str (PyData.bool false).shown)))) ?_ ?_ ?_ ?_
          · exact ⟨Same.new hD, upd_same⟩
          · rintro i H3 _ ⟨s3, _⟩
            exact SqL.of (s3 _ _ z4)
          · rintro i x H3 hx ⟨s3, h3⟩
            refine ⟨rfl, ?_⟩
            walk_at "rds"
            refine ⟨u, ss, k, t, x, rfl, SqL.of (s3 _ _ u4'), ws1, k1, k8, ws2, t0, tm, .inr ⟨(all19 x (List.mem_of_getElem? hx)).up s3, fun H5 s5 => ?_⟩⟩
            refine ⟨_, .bool false, rfl, .bl _, shw_bool _, ?_⟩
            have i19 : i < 19 := by
              have := (List.getElem?_eq_some_iff.mp hx).1
              omega
            refine ⟨_, s5 _ _ h3, by rw [List.length_replicate]; exact small1000 (by omega), Same.mut (s3.trans s5) hD, ?_⟩
            rw [upd_same, List.replicate_succ']
          · rintro H3 ⟨s3, h3⟩
            rw [l19] at h3
            have sE4 := v14.trans s3
            walk_at "rds"
            refine ⟨by show 1 ≤ sizeLine; decide, fun y5 r5 => ?_⟩
            refine lay (upd H3 y5 (.lst [.str "False"])) rfl r5 fun E5 v5 z5 => ?_
            walk_at "rds"
            refine ⟨O, _, rfl, SqL.of (v5 _ _ (sE4 _ _ hOE)), ?_⟩
            rw [lE]
            walk_at "rds"
            refine ⟨y5, _, _, rfl, rfl, z5, by decide, by decide, by show 1 * 19 ≤ sizeLine; decide, fun y6 r6 => ?_⟩
            rw [flat_rep]
            have v6 : Same E5 (upd E5 y6 (.lst (List.replicate ((((13 + 5 : Nat) : Int) + 1)).toNat (V.str "False")))) := Same.new r6
            have sh : SeqAt.shaped (.list (List.replicate 19 (.str (PyData.bool false).shown))) = true := by decide +kernel
            have eF : (PyData.bool false).shown = "False" := by
              rw [PyData.shown_bool]
              rfl
            refine ⟨.list (List.replicate 19 (.str (PyData.bool false).shown)), .list (List.replicate 19 (.str (PyData.bool false).shown)), .lst (SqL.of (v6 _ _ (v5 _ _ h3))) (DpAll.same (.str _) 19), ?_, sh, sh, ?_⟩
            · rw [eF]
              exact .lst (SqL.of upd_same) (DpAll.same (.str _) 19)
            rw [eqv_self sh]
            have sEnd := (sE4.trans v5).trans v6
            generalize hEnd : upd E5 y6 (.lst (List.replicate ((((13 + 5 : Nat) : Int) + 1)).toNat (V.str "False"))) = E6 at sEnd ⊢
            walk_at "rds"
            refine ⟨by show 2 ≤ sizeLine; decide, fun y7 r7 => ?_⟩
            refine lay (upd E6 y7 (.lst [.ref a, .ref u])) rfl r7 fun E7 v7 z7 => ?_
            have sE7 := sEnd.trans v7
            refine ⟨_, .list [dI ns, dI ss], rfl, .lst (SqL.of z7) (.cons (Dp.ints (SqL.of (sE7 _ _ aE))) (.cons (Dp.ints (SqL.of (sE7 _ _ uE))) .nil)), rp, ?_⟩
            walk_at "rds"
            have eT : decide (V.str (PyData.list [dI ns, dI ss]).shown = V.str (PyData.list [dI ns, dI ss]).shown) = true := decide_eq_true rfl
            rw [eT]
            have fEnd : Fr J H E7 := by
              have f0 : Fr J H GB := ((Fr.of s04).trans f2).trans (Fr.of s0B)
              have fO : H O = none := f0.free hO nO
              have f3 : Fr J H Hd := by
                refine Fr.over f0 fO ?_
                exact fun b o e => sC b o (cut_some e).2
              exact Fr.over f3 fO (cE.trans (cut_two sE7))
            exact q E7 fEnd ((JE.same sE7).mono (by omega))

def spLaw (K : PySem.W.Frag) : Sp := fun vs H Q _ => ∃ (a : Addr) (ns : List Int), vs = [.ref a] ∧ SqL K H a (ns.map V.int) ∧ ns.length ≤ 63 ∧ ∀ H', Q (.bl true) H'
-- 0:script 1:k 2:jar 3:turn 4:size 5:many 6:top 7:told
theorem ok_law {f fd : _} (T : Top K mg) (F : L2.Fun K "law" "law" s_law f fd) : FnG P w K mg base CX0 8 f fd ["script"] (spLaw K) := by
  have G__law_dip : DefOk P w K mg base CX0 1 "_law_dip" T.f__law_dip T.fd__law_dip ["jar", "many"] spDip := ⟨ok_dip T T.F__law_dip, T.g__law_dip, T.F__law_dip.kp, T.b__law_dip⟩
  have G__law_jar : DefOk P w K mg base CX0 1 "_law_jar" T.f__law_jar T.fd__law_jar ["script", "k"] (spJar K) := ⟨ok_jar T T.F__law_jar, T.g__law_jar, T.F__law_jar.kp, T.b__law_jar⟩
  have G__law_sums : DefOk P w K mg base CX0 1 "_law_sums" T.f__law_sums T.fd__law_sums ["numbers_here", "size"] (spSums K) := ⟨ok_sums T T.F__law_sums, T.g__law_sums, T.F__law_sums.kp, T.b__law_sums⟩
  have G__law_days : DefOk P w K mg base CX0 2 "_law_days" T.f__law_days T.fd__law_days ["jar", "many", "top"] spDays := ⟨ok_days T T.F__law_days G__law_dip, T.g__law_days, T.F__law_days.kp, T.b__law_days⟩
  have G__law_top : DefOk P w K mg base CX0 2 "_law_top" T.f__law_top T.fd__law_top ["jar"] spTop := ⟨ok_top T T.F__law_top G__law_dip, T.g__law_top, T.F__law_top.kp, T.b__law_top⟩
  have G__law_high : DefOk P w K mg base CX0 3 "_law_high" T.f__law_high T.fd__law_high ["jar", "parts"] spHigh := ⟨ok_high T T.F__law_high G__law_top, T.g__law_high, T.F__law_high.kp, T.b__law_high⟩
  have G__law_size : DefOk P w K mg base CX0 2 "_law_size" T.f__law_size T.fd__law_size ["jar", "most_days"] spSize := ⟨ok_size T T.F__law_size G__law_dip, T.g__law_size, T.F__law_size.kp, T.b__law_size⟩
  have G_is_integer : DefOk P w K mg base CX0 1 "is_integer" T.f_is_integer T.fd_is_integer ["thing"] (spIsInt K) := ⟨ok_is_integer T T.F_is_integer, T.g_is_integer, T.F_is_integer.kp, T.b_is_integer⟩
  have G_is_within : DefOk P w K mg base CX0 2 "is_within" T.f_is_within T.fd_is_within ["thing", "low", "high"] (spWithin K) := ⟨ok_is_within T T.F_is_within G_is_integer, T.g_is_within, T.F_is_within.kp, T.b_is_within⟩
  have G_is_row : DefOk P w K mg base CX0 2 "is_row" T.f_is_row T.fd_is_row ["thing", "many"] (spIsRow2 K) := ⟨ok_is_row T T.F_is_row G_is_integer, T.g_is_row, T.F_is_row.kp, T.b_is_row⟩
  have G_is_row_within : DefOk P w K mg base CX0 3 "is_row_within" T.f_is_row_within T.fd_is_row_within ["thing", "count", "low", "high"] (spRowInX K) := ⟨ok_is_row_within T T.F_is_row_within G_is_within, T.g_is_row_within, T.F_is_row_within.kp, T.b_is_row_within⟩
  have G_check_row_of_sums : DefOk P w K mg base CX0 3 "check_row_of_sums" T.f_check_row_of_sums T.fd_check_row_of_sums ["sums"] (spRowOfSums K) := ⟨ok_check_row_of_sums T T.F_check_row_of_sums G_is_row, T.g_check_row_of_sums, T.F_check_row_of_sums.kp, T.b_check_row_of_sums⟩
  have G_check_sums : DefOk P w K mg base CX0 4 "check_sums" T.f_check_sums T.fd_check_sums ["sums", "length"] (spSumsOk K) := ⟨ok_check_sums T T.F_check_sums G_check_row_of_sums G_is_within, T.g_check_sums, T.F_check_sums.kp, T.b_check_sums⟩
  have G_check_most : DefOk P w K mg base CX0 3 "check_most" T.f_check_most T.fd_check_most ["most"] spMostOk := ⟨ok_check_most T T.F_check_most G_is_within, T.g_check_most, T.F_check_most.kp, T.b_check_most⟩
  have G_check_told : DefOk P w K mg base CX0 5 "check_told" T.f_check_told T.fd_check_told ["sums", "length", "most"] (spToldOk K) := ⟨ok_check_told T T.F_check_told G_check_sums G_check_most, T.g_check_told, T.F_check_told.kp, T.b_check_told⟩
  have G_row_sums : DefOk P w K mg base CX0 1 "row_sums" T.f_row_sums T.fd_row_sums ["numbers", "length"] (spRowSums K) := ⟨ok_row_sums T T.F_row_sums, T.g_row_sums, T.F_row_sums.kp, T.b_row_sums⟩
  have G_is_way : DefOk P w K mg base CX0 6 "is_way" T.f_is_way T.fd_is_way ["sums", "length", "most", "thing"] (spIsWay K) := ⟨ok_is_way T T.F_is_way G_check_told G_is_row_within G_row_sums, T.g_is_way, T.F_is_way.kp, T.b_is_way⟩
  have G__law_changed : DefOk P w K mg base CX0 2 "_law_changed" T.f__law_changed T.fd__law_changed ["jar", "some", "size"] (spChanged K) := ⟨ok_changed T T.F__law_changed G__law_dip, T.g__law_changed, T.F__law_changed.kp, T.b__law_changed⟩
  have G__law_due : DefOk P w K mg base CX0 2 "_law_due" T.f__law_due T.fd__law_due ["some", "sums_here", "size", "top"] (spDue K) := ⟨ok_due T T.F__law_due G__law_sums, T.g__law_due, T.F__law_due.kp, T.b__law_due⟩
  have G__law_right : DefG P w K mg base CX0 7 "_law_right" T.f__law_right T.fd__law_right ["jar", "some", "size", "top"] (spRight K) := ⟨ok_right T T.F__law_right G__law_dip G__law_sums G__law_changed G__law_due G_is_way, T.g__law_right, T.F__law_right.kp, T.b__law_right⟩
  have e30 : ((10 : Int) ^ 30) = 1000000000000000000000000000000 := by decide +kernel
  have e28 : ((10 : Int) ^ (28 : Int).toNat) = 10000000000000000000000000000 := by decide +kernel
  have e200 : (2 : Int) ^ 200 = 1606938044258990275541962092341162602522202993782792835301376 := by decide +kernel
  refine okG F sc_law (fun vs H Q E h => ?_) (fun cdv A outer s H vs Q E hr gu h => ?_)
  · obtain ⟨a, ns, rfl, _⟩ := h
    rfl
  · obtain ⟨a, ns, rfl, hS, n63, q⟩ := h
    refine ⟨_, (pss_cons (ps_for PassesOwn.never rfl (pi_range1 (by rfl) T.z_range (pa_cons (pe_callB (call_max2 rfl) (by rfl) T.z_max (by decide +kernel) (pa_cons pe_int (pa_cons (pe_callB (call_min2 rfl) (by rfl) T.z_min (by decide +kernel) (pa_cons pe_int (pa_cons (pe_callB (lenL (K := K)) (by rfl) T.z_len (by decide +kernel) (pa_cons (pv 0) pa_nil)) pa_nil))) pa_nil))) pa_nil)) (pg_name (i := 1) sc_law.nd rfl (.inl rfl))
      (pss_cons (ps_set (i := 2) sc_law.nd rfl (.inl rfl) (Ws.pc G__law_jar hr (pa_cons (pv 0) (pa_cons (pv 1) pa_nil))))
      (pss_one (ps_for PassesOwn.never rfl (pi_range1 (by rfl) T.z_range (pa_cons pe_int pa_nil)) (pg_name (i := 3) sc_law.nd rfl (.inl rfl))
      (pss_cons (ps_asg (Ws.pc G__law_size hr (pa_cons (pv 2) (pa_cons pe_int pa_nil))) (pgT (K := K) (n := 2) (by rfl) (pgs_cons (pg_name (i := 4) sc_law.nd rfl (.inl rfl)) (pgs_cons (pg_name (i := 5) sc_law.nd rfl (.inl rfl)) pgs_nil))))
      (pss_cons (ps_set (i := 6) sc_law.nd rfl (.inl rfl) (Ws.pc G__law_high hr (pa_cons (pv 2) (pa_cons pe_int pa_nil))))
      (pss_one (ps_if (pt_not (pt_val (Ws.pg G__law_right hr gu (pa_cons (pv 2) (pa_cons (Ws.pc G__law_days hr (pa_cons (pv 2) (pa_cons (pv 5) (pa_cons (pv 6) pa_nil)))) (pa_cons (pv 4) (pa_cons (pv 6) pa_nil)))))))
      (pss_one (ps_ret pe_bl))
      pss_nil))))))))
      (pss_cons (ps_set (i := 2) sc_law.nd rfl (.inl rfl) (Ws.pc G__law_jar hr (pa_cons (pv 0) (pa_cons pe_int pa_nil))))
      (pss_cons (ps_for PassesOwn.never rfl (piT (K := K) (pe_tup (pa_cons pe_int (pa_cons pe_int (pa_cons (pe_op op_add pe_int (Ws.pc G__law_dip hr (pa_cons (pv 2) (pa_cons pe_int pa_nil)))) pa_nil))))) (pg_name (i := 4) sc_law.nd rfl (.inl rfl))
      (pss_cons (ps_if (pt_not (pt_val (Ws.pg G__law_right hr gu (pa_cons (pv 2) (pa_cons (Ws.pc G__law_days hr (pa_cons (pv 2) (pa_cons pe_int (pa_cons (pe_op Ws.op_powG pe_int pe_int) pa_nil)))) (pa_cons (pv 4) (pa_cons (pe_op Ws.op_powG pe_int pe_int) pa_nil)))))))
      (pss_one (ps_ret pe_bl))
      pss_nil)
      (pss_one (ps_if (pt_not (pt_val (Ws.pg G__law_right hr gu (pa_cons (pv 2) (pa_cons (Ws.pc G__law_days hr (pa_cons (pv 2) (pa_cons (pe_op op_add pe_int (Ws.pc G__law_dip hr (pa_cons (pv 2) (pa_cons pe_int pa_nil)))) (pa_cons pe_int pa_nil)))) (pa_cons (pv 4) (pa_cons pe_int pa_nil)))))))
      (pss_one (ps_ret pe_bl))
      pss_nil))))
      (pss_cons (ps_set (i := 7) sc_law.nd rfl (.inl rfl) (pe_lst (pa_cons (Ws.pc G_is_way hr (pa_cons (pe_lst (pa_cons pe_int (pa_cons pe_int (pa_cons pe_int pa_nil)))) (pa_cons pe_int (pa_cons pe_int (pa_cons (pe_lst (pa_cons pe_int (pa_cons pe_int (pa_cons pe_int (pa_cons pe_int (pa_cons pe_int pa_nil)))))) pa_nil))))) (pa_cons (Ws.pc G_is_way hr (pa_cons (pe_lst (pa_cons pe_int (pa_cons pe_int (pa_cons pe_int pa_nil)))) (pa_cons pe_int (pa_cons pe_int (pa_cons (pe_lst (pa_cons pe_int (pa_cons pe_int (pa_cons pe_int (pa_cons pe_int (pa_cons pe_int pa_nil)))))) pa_nil))))) pa_nil))))
      (pss_one (ps_ret (pe_and (pe_cmpR (eqL (K := K) hr.units) (pv 7) (pe_lst (pa_cons pe_bl (pa_cons pe_bl pa_nil))) (nomark _)) (pe_and (pe_cmpR op_is_bl (Ws.pc G_is_way hr (pa_cons (pe_lst (pa_cons (pe_un un_neg pe_int) pa_nil)) (pa_cons pe_int (pa_cons pe_int (pa_cons (pe_lst (pa_cons (pe_un un_neg pe_int) pa_nil)) pa_nil))))) pe_bl (nomark _)) (pe_one (pe_cmpR op_is_bl (Ws.pc G_is_way hr (pa_cons (pe_lst (pa_cons pe_int pa_nil)) (pa_cons pe_int (pa_cons pe_int (pa_cons (pe_lst (pa_cons pe_int (pa_cons pe_int pa_nil))) pa_nil))))) pe_bl (nomark _))))))))))), ?_⟩
    walk_at "rds"
    refine ⟨a, _, rfl, hS, ?_⟩
    rw [List.length_map]
    walk_at "rds"
    refine ⟨by split <;> split <;> omega, by split <;> split <;> omega, for_range (fun i σ H' => ∃ x1 x2 x3 x4 x5 x6 x7, σ = [some (.ref a), x1, x2, x3, x4, x5, x6, x7] ∧ Same H H') ?_ ?_ ?_⟩
    · exact ⟨_, _, _, _, _, _, _, rfl, Same.refl H⟩
    · rintro i σ H' hi ⟨x1, x2, x3, x4, x5, x6, x7, rfl, s1⟩
      have i5 : i < 64 := by
        revert hi
        split <;> split <;> omega
      walk_at "rds"
      refine ⟨a, ns, _, rfl, Same.seq s1 hS, by omega, by omega, fun H1 J s2 nJ J1 => ?_⟩
      walk_at "rds"
      refine ⟨by decide, by decide, for_range (fun t σ H2 => ∃ x3 x4 x5 x6 x7, σ = [some (.ref a), some (.int (0 + (i : Int))), some (.ref J), x3, x4, x5, x6, x7] ∧ Fr J H1 H2 ∧ Jar H2 J (1000 * t)) ?_ ?_ ?_⟩
      · exact ⟨_, _, _, _, _, rfl, Fr.refl, J1.mono (by omega)⟩
      · rintro t σ H2 ht ⟨x3, x4, x5, x6, x7, rfl, f1, J2⟩
        have t3 : t < 3 := ht
        walk_at "rds"
        refine ⟨J, 24, 1000 * t, rfl, J2, by omega, by decide, by decide, fun H3 p k c f2 J3 np hp k1 k8 kc c24 => ?_⟩
        walk_at "rds"
        refine ⟨p, _, rfl, SqT.of hp, rfl, _, _, rfl, _, _, rfl, rfl, ?_⟩
        walk_at "rds"
        refine ⟨J, 10, 1000 * t + 2, rfl, J3, by omega, by decide, by decide, fun H4 m f3 J4 m0 m1 mq => ?_⟩
        rw [e30] at m1
        walk_at "rds"
        refine ⟨J, c, m, 1000 * t + 4, rfl, J4.mono (by omega), by omega, by omega, by omega, m0, by rw [e200]; omega, fun H6 D ms f6 J6 nD hD ml mb => ?_⟩
        have nDJ : D ≠ J := J4.out nD
        walk_at "rds"
        refine ⟨J, D, ms, k, m, 1000 * t + 4 + 2 * c + 1, rfl, J6, by omega, by rw [cut_ne nDJ]; exact hD, k1, k8, by omega, by omega, fun z hz => by have := mb z hz; rw [e200]; omega, m0, by omega, fun H9 f9 J9 => ?_⟩
        walk_at "rds"
        exact ⟨_, _, _, _, _, rfl, ((f1.trans f2).trans (f3.trans f6)).trans f9, J9.mono (by omega)⟩
      · rintro σ H2 ⟨x3, x4, x5, x6, x7, rfl, f1, J2⟩
        exact ⟨_, _, _, _, _, _, _, rfl, Same.over (s1.trans s2) (Same.free s1 nJ) f1⟩
    · rintro σ H' ⟨x1, x2, x3, x4, x5, x6, x7, rfl, s1⟩
      walk_at "rds"
      refine ⟨a, ns, _, rfl, Same.seq s1 hS, by decide, by decide, fun H1 J s2 nJ J1 => ?_⟩
      walk_at "rds"
      refine ⟨J, 8, 0, rfl, J1, by omega, by decide, by decide +kernel, fun H2 e f2 J2 e0 e8 => ?_⟩
      walk_at "rds"
      refine ⟨by show 3 ≤ sizeLine; decide, fun p hp => ?_⟩
      have np : p ≠ J := J2.out hp
      walk_at "rds"
      refine ⟨⟨_, SqT.of upd_same⟩, for_tup (K := K) (a := p) (xs := [.int 8, .int 1, .int (1 + e)]) (fun i σ H3 => ∃ x1 x3 x4 x5 x6 x7, σ = [some (.ref a), x1, some (.ref J), x3, x4, x5, x6, x7] ∧ Fr J H1 H3 ∧ Jar H3 J (1000 * i + 2) ∧ H3 p = some (.tup [.int 8, .int 1, .int (1 + e)])) ?_ ?_ ?_ ?_⟩
      · exact ⟨_, _, _, _, _, _, rfl, f2.trans (Fr.of (Same.new hp)), (J2.new hp).mono (by omega), upd_same⟩
      · rintro i σ H3 _ ⟨_, _, _, _, _, _, _, _, _, h⟩
        exact SqT.of h
      · rintro i x σ H3 hx ⟨x1, x3, x4, x5, x6, x7, rfl, f3, J3, h3⟩
        obtain ⟨z, rfl, hz, i3⟩ := tup3_int hx
        have z1 : 1 ≤ z := by omega
        have z8 : z ≤ 8 := by omega
        walk_at "rds"
        refine ⟨⟨by decide, by decide, by decide +kernel⟩, ?_⟩
        walk_at "rds"
        refine ⟨J, 67, _, 1000 * i + 2, rfl, J3, by omega, by decide, by decide, by decide +kernel, by decide +kernel, fun H4 D ms f4 J4 nD hD ml mb => ?_⟩
        have nDJ : D ≠ J := J3.out nD
        have ml2 : ms.length = 67 := ml
        walk_at "rds"
        refine ⟨⟨by decide, by decide, by decide +kernel⟩, ?_⟩
        walk_at "rds"
        refine ⟨J, D, ms, z, _, 1000 * i + 2 + 2 * 67 + 1, rfl, J4, by omega, by rw [cut_ne nDJ]; exact hD, z1, z8, by omega, by omega, fun y hy => by have := mb y hy; rw [e28] at this; rw [e200]; omega, by rw [e28]; omega, by rw [e28]; omega, fun H5 f5 J5 => ?_⟩
        walk_at "rds"
        refine ⟨J, 42, 1000 * i + 2 + 2 * 67 + 1 + 100, rfl, J5, by omega, by decide, by decide +kernel, fun H6 g f6 J6 g0 g1 => ?_⟩
        walk_at "rds"
        refine ⟨J, 25 + g, 29, 1000 * i + 2 + 2 * 67 + 1 + 100 + 1, rfl, J6, by omega, by omega, by omega, by decide, by decide +kernel, fun H7 D2 os f7 J7 nD2 hD2 ol ob => ?_⟩
        have nDJ2 : D2 ≠ J := J6.out nD2
        walk_at "rds"
        refine ⟨J, D2, os, z, 29, 1000 * i + 2 + 2 * 67 + 1 + 100 + 1 + 2 * (25 + g) + 1, rfl, J7, by omega, by rw [cut_ne nDJ2]; exact hD2, z1, z8, by omega, by omega, fun y hy => by have := ob y hy; rw [e200]; omega, by omega, by omega, fun H8 f8 J8 => ?_⟩
        walk_at "rds"
        have f38 := (f4.trans f5).trans ((f6.trans f7).trans f8)
        exact ⟨_, _, _, _, _, _, rfl, f3.trans f38, J8.mono (by omega), f38.get np h3⟩
      · rintro σ H3 ⟨x1, x3, x4, x5, x6, x7, rfl, f3, J3, h3⟩
        walk_at "rds"
        refine ⟨by show 3 ≤ sizeLine; decide, fun p1 hp1 => ?_⟩
        refine lay (upd H3 p1 (.lst [.int 6, .int 7, .int 5])) rfl hp1 fun H4 t1 g1 => ?_
        walk_at "rds"
        refine ⟨by show 5 ≤ sizeLine; decide, fun p2 hp2 => ?_⟩
        refine lay (upd H4 p2 (.lst [.int 2, .int 2, .int 2, .int 3, .int 0])) rfl hp2 fun H5 t2 g2 => ?_
        refine ⟨p1, [6, 7, 5], 3, 9, .ref p2, rfl, SqL.of (t2 _ _ g1), by decide, by decide, by decide, by decide, by decide, by decide, .inl ⟨p2, [2, 2, 2, 3, 0], rfl, SqL.of g2, by decide, fun H6 t3 => ?_⟩⟩
        walk_at "rds"
        refine ⟨by show 3 ≤ sizeLine; decide, fun p3 hp3 => ?_⟩
        refine lay (upd H6 p3 (.lst [.int 6, .int 7, .int 5])) rfl hp3 fun H7 t4 g3 => ?_
        walk_at "rds"
        refine ⟨by show 5 ≤ sizeLine; decide, fun p4 hp4 => ?_⟩
        refine lay (upd H7 p4 (.lst [.int 2, .int 2, .int 2, .int 3, .int 0])) rfl hp4 fun H8 t5 g4 => ?_
        refine ⟨p3, [6, 7, 5], 3, 2, .ref p4, rfl, SqL.of (t5 _ _ g3), by decide, by decide, by decide, by decide, by decide, by decide, .inl ⟨p4, [2, 2, 2, 3, 0], rfl, SqL.of g4, by decide, fun H9 t6 => ?_⟩⟩
        have b1 : isw [6, 7, 5] 3 9 [2, 2, 2, 3, 0] = true := by decide +kernel
        have b2 : isw [6, 7, 5] 3 2 [2, 2, 2, 3, 0] = false := by decide +kernel
        have b3 : isw [-1] 1 9 [-1] = false := by decide +kernel
        have b4 : isw [0] 2 0 [0, 0] = true := by decide +kernel
        rw [b1, b2]
        walk_at "rds"
        refine ⟨by show 2 ≤ sizeLine; decide, fun p5 hp5 => ?_⟩
        refine lay (upd H9 p5 (.lst [.bl true, .bl false])) rfl hp5 fun G1 u1 g5 => ?_
        walk_at "rds"
        refine ⟨by show 2 ≤ sizeLine; decide, fun p6 hp6 => ?_⟩
        refine lay (upd G1 p6 (.lst [.bl true, .bl false])) rfl hp6 fun G2 u2 g6 => ?_
        have sh : SeqAt.shaped (.list [.bool true, .bool false]) = true := by decide +kernel
        refine ⟨.list [.bool true, .bool false], .list [.bool true, .bool false], .lst (SqL.of (u2 _ _ g5)) (.cons (.bl _) (.cons (.bl _) .nil)), .lst (SqL.of g6) (.cons (.bl _) (.cons (.bl _) .nil)), sh, sh, ?_⟩
        rw [eqv_self sh]
        walk_at "rds"
        refine ⟨by show 1 ≤ sizeLine; decide, fun p7 hp7 => ?_⟩
        refine lay (upd G2 p7 (.lst [.int (-1)])) rfl hp7 fun G3 u3 g7 => ?_
        walk_at "rds"
        refine ⟨by show 1 ≤ sizeLine; decide, fun p8 hp8 => ?_⟩
        refine lay (upd G3 p8 (.lst [.int (-1)])) rfl hp8 fun G4 u4 g8 => ?_
        refine ⟨p7, [-1], 1, 9, .ref p8, rfl, SqL.of (u4 _ _ g7), by decide, by decide, by decide, by decide, by decide, by decide, .inl ⟨p8, [-1], rfl, SqL.of g8, by decide, fun G5 u5 => ?_⟩⟩
        rw [b3]
        walk_at "rds"
        refine ⟨by show 1 ≤ sizeLine; decide, fun p9 hp9 => ?_⟩
        refine lay (upd G5 p9 (.lst [.int 0])) rfl hp9 fun G6 u6 g9 => ?_
        walk_at "rds"
        refine ⟨by show 2 ≤ sizeLine; decide, fun p10 hp10 => ?_⟩
        refine lay (upd G6 p10 (.lst [.int 0, .int 0])) rfl hp10 fun G7 u7 g10 => ?_
        refine ⟨p9, [0], 2, 0, .ref p10, rfl, SqL.of (u7 _ _ g9), by decide, by decide, by decide, by decide, by decide, by decide, .inl ⟨p10, [0, 0], rfl, SqL.of g10, by decide, fun G8 u8 => ?_⟩⟩
        rw [b4]
        walk_at "rds"
        exact q _

end
theorem all_mk {l : PySem.W.OpenLaw} {w : World} {K : PySem.W.Frag} {h : Heap} {mg : Str → Option Value} {fa : Addr} (X : K.In h) (G : h.Ns mainGlobals mg) (hfa : mg "law" = some (.ref fa))
    {f0 : Addr} {od0 an0 : Option Addr} {sl0 : Array (Option Value)} {oc0 kV0 dc0 pm0 cd0 ct0 : Value}
    {f1 : Addr} {od1 an1 : Option Addr} {sl1 : Array (Option Value)} {oc1 kV1 dc1 pm1 cd1 ct1 : Value}
    {f2 : Addr} {od2 an2 : Option Addr} {sl2 : Array (Option Value)} {oc2 kV2 dc2 pm2 cd2 ct2 : Value}
    {f3 : Addr} {od3 an3 : Option Addr} {sl3 : Array (Option Value)} {oc3 kV3 dc3 pm3 cd3 ct3 : Value}
    {f4 : Addr} {od4 an4 : Option Addr} {sl4 : Array (Option Value)} {oc4 kV4 dc4 pm4 cd4 ct4 : Value}
    {f5 : Addr} {od5 an5 : Option Addr} {sl5 : Array (Option Value)} {oc5 kV5 dc5 pm5 cd5 ct5 : Value}
    {f6 : Addr} {od6 an6 : Option Addr} {sl6 : Array (Option Value)} {oc6 kV6 dc6 pm6 cd6 ct6 : Value}
    {f7 : Addr} {od7 an7 : Option Addr} {sl7 : Array (Option Value)} {oc7 kV7 dc7 pm7 cd7 ct7 : Value}
    {f8 : Addr} {od8 an8 : Option Addr} {sl8 : Array (Option Value)} {oc8 kV8 dc8 pm8 cd8 ct8 : Value}
    {f9 : Addr} {od9 an9 : Option Addr} {sl9 : Array (Option Value)} {oc9 kV9 dc9 pm9 cd9 ct9 : Value}
    {f10 : Addr} {od10 an10 : Option Addr} {sl10 : Array (Option Value)} {oc10 kV10 dc10 pm10 cd10 ct10 : Value}
    {f11 : Addr} {od11 an11 : Option Addr} {sl11 : Array (Option Value)} {oc11 kV11 dc11 pm11 cd11 ct11 : Value}
    {f12 : Addr} {od12 an12 : Option Addr} {sl12 : Array (Option Value)} {oc12 kV12 dc12 pm12 cd12 ct12 : Value}
    {f13 : Addr} {od13 an13 : Option Addr} {sl13 : Array (Option Value)} {oc13 kV13 dc13 pm13 cd13 ct13 : Value}
    {f14 : Addr} {od14 an14 : Option Addr} {sl14 : Array (Option Value)} {oc14 kV14 dc14 pm14 cd14 ct14 : Value}
    {f15 : Addr} {od15 an15 : Option Addr} {sl15 : Array (Option Value)} {oc15 kV15 dc15 pm15 cd15 ct15 : Value}
    {f16 : Addr} {od16 an16 : Option Addr} {sl16 : Array (Option Value)} {oc16 kV16 dc16 pm16 cd16 ct16 : Value}
    {f17 : Addr} {od17 an17 : Option Addr} {sl17 : Array (Option Value)} {oc17 kV17 dc17 pm17 cd17 ct17 : Value}
    {f18 : Addr} {od18 an18 : Option Addr} {sl18 : Array (Option Value)} {oc18 kV18 dc18 pm18 cd18 ct18 : Value}
    {f19 : Addr} {od19 an19 : Option Addr} {sl19 : Array (Option Value)} {oc19 kV19 dc19 pm19 cd19 ct19 : Value}
    {f20 : Addr} {od20 an20 : Option Addr} {sl20 : Array (Option Value)} {oc20 kV20 dc20 pm20 cd20 ct20 : Value}
    {C_InvalidWay : Addr}
    {u_GREATEST_COUNT : Tok}
    {u_GREATEST_LENGTH : Tok}
    {u_GREATEST_MOST : Tok}
    (a0 : PySem.W.nsIn K mainGlobals "is_integer" = some (some (.ref f0)))
    (l0 : K.lookup f0 = some ⟨oc0, od0, .func (PySem.W.fnOf "is_integer" "is_integer" (defArgs s_is_integer) (defBody s_is_integer) (defScope s_is_integer) .none kV0 dc0 pm0 an0 cd0 ct0), sl0⟩)
    (c0 : PySem.W.codeIn K cd0 "is_integer" = true)
    (k0 : PySem.W.keepIn K (.ref f0) = true)
    (a1 : PySem.W.nsIn K mainGlobals "is_within" = some (some (.ref f1)))
    (l1 : K.lookup f1 = some ⟨oc1, od1, .func (PySem.W.fnOf "is_within" "is_within" (defArgs s_is_within) (defBody s_is_within) (defScope s_is_within) .none kV1 dc1 pm1 an1 cd1 ct1), sl1⟩)
    (c1 : PySem.W.codeIn K cd1 "is_within" = true)
    (k1 : PySem.W.keepIn K (.ref f1) = true)
    (a2 : PySem.W.nsIn K mainGlobals "is_row" = some (some (.ref f2)))
    (l2 : K.lookup f2 = some ⟨oc2, od2, .func (PySem.W.fnOf "is_row" "is_row" (defArgs s_is_row) (defBody s_is_row) (defScope s_is_row) .none kV2 dc2 pm2 an2 cd2 ct2), sl2⟩)
    (c2 : PySem.W.codeIn K cd2 "is_row" = true)
    (k2 : PySem.W.keepIn K (.ref f2) = true)
    (a3 : PySem.W.nsIn K mainGlobals "is_row_within" = some (some (.ref f3)))
    (l3 : K.lookup f3 = some ⟨oc3, od3, .func (PySem.W.fnOf "is_row_within" "is_row_within" (defArgs s_is_row_within) (defBody s_is_row_within) (defScope s_is_row_within) .none kV3 dc3 pm3 an3 cd3 ct3), sl3⟩)
    (c3 : PySem.W.codeIn K cd3 "is_row_within" = true)
    (k3 : PySem.W.keepIn K (.ref f3) = true)
    (a4 : PySem.W.nsIn K mainGlobals "check_row_of_sums" = some (some (.ref f4)))
    (l4 : K.lookup f4 = some ⟨oc4, od4, .func (PySem.W.fnOf "check_row_of_sums" "check_row_of_sums" (defArgs s_check_row_of_sums) (defBody s_check_row_of_sums) (defScope s_check_row_of_sums) .none kV4 dc4 pm4 an4 cd4 ct4), sl4⟩)
    (c4 : PySem.W.codeIn K cd4 "check_row_of_sums" = true)
    (k4 : PySem.W.keepIn K (.ref f4) = true)
    (a5 : PySem.W.nsIn K mainGlobals "check_sums" = some (some (.ref f5)))
    (l5 : K.lookup f5 = some ⟨oc5, od5, .func (PySem.W.fnOf "check_sums" "check_sums" (defArgs s_check_sums) (defBody s_check_sums) (defScope s_check_sums) .none kV5 dc5 pm5 an5 cd5 ct5), sl5⟩)
    (c5 : PySem.W.codeIn K cd5 "check_sums" = true)
    (k5 : PySem.W.keepIn K (.ref f5) = true)
    (a6 : PySem.W.nsIn K mainGlobals "check_most" = some (some (.ref f6)))
    (l6 : K.lookup f6 = some ⟨oc6, od6, .func (PySem.W.fnOf "check_most" "check_most" (defArgs s_check_most) (defBody s_check_most) (defScope s_check_most) .none kV6 dc6 pm6 an6 cd6 ct6), sl6⟩)
    (c6 : PySem.W.codeIn K cd6 "check_most" = true)
    (k6 : PySem.W.keepIn K (.ref f6) = true)
    (a7 : PySem.W.nsIn K mainGlobals "row_sums" = some (some (.ref f7)))
    (l7 : K.lookup f7 = some ⟨oc7, od7, .func (PySem.W.fnOf "row_sums" "row_sums" (defArgs s_row_sums) (defBody s_row_sums) (defScope s_row_sums) .none kV7 dc7 pm7 an7 cd7 ct7), sl7⟩)
    (c7 : PySem.W.codeIn K cd7 "row_sums" = true)
    (k7 : PySem.W.keepIn K (.ref f7) = true)
    (a8 : PySem.W.nsIn K mainGlobals "is_way" = some (some (.ref f8)))
    (l8 : K.lookup f8 = some ⟨oc8, od8, .func (PySem.W.fnOf "is_way" "is_way" (defArgs s_is_way) (defBody s_is_way) (defScope s_is_way) .none kV8 dc8 pm8 an8 cd8 ct8), sl8⟩)
    (c8 : PySem.W.codeIn K cd8 "is_way" = true)
    (k8 : PySem.W.keepIn K (.ref f8) = true)
    (a9 : PySem.W.nsIn K mainGlobals "check_told" = some (some (.ref f9)))
    (l9 : K.lookup f9 = some ⟨oc9, od9, .func (PySem.W.fnOf "check_told" "check_told" (defArgs s_check_told) (defBody s_check_told) (defScope s_check_told) .none kV9 dc9 pm9 an9 cd9 ct9), sl9⟩)
    (c9 : PySem.W.codeIn K cd9 "check_told" = true)
    (k9 : PySem.W.keepIn K (.ref f9) = true)
    (a10 : PySem.W.nsIn K mainGlobals "_law_jar" = some (some (.ref f10)))
    (l10 : K.lookup f10 = some ⟨oc10, od10, .func (PySem.W.fnOf "_law_jar" "_law_jar" (defArgs s__law_jar) (defBody s__law_jar) (defScope s__law_jar) .none kV10 dc10 pm10 an10 cd10 ct10), sl10⟩)
    (c10 : PySem.W.codeIn K cd10 "_law_jar" = true)
    (k10 : PySem.W.keepIn K (.ref f10) = true)
    (a11 : PySem.W.nsIn K mainGlobals "_law_dip" = some (some (.ref f11)))
    (l11 : K.lookup f11 = some ⟨oc11, od11, .func (PySem.W.fnOf "_law_dip" "_law_dip" (defArgs s__law_dip) (defBody s__law_dip) (defScope s__law_dip) .none kV11 dc11 pm11 an11 cd11 ct11), sl11⟩)
    (c11 : PySem.W.codeIn K cd11 "_law_dip" = true)
    (k11 : PySem.W.keepIn K (.ref f11) = true)
    (a12 : PySem.W.nsIn K mainGlobals "_law_sums" = some (some (.ref f12)))
    (l12 : K.lookup f12 = some ⟨oc12, od12, .func (PySem.W.fnOf "_law_sums" "_law_sums" (defArgs s__law_sums) (defBody s__law_sums) (defScope s__law_sums) .none kV12 dc12 pm12 an12 cd12 ct12), sl12⟩)
    (c12 : PySem.W.codeIn K cd12 "_law_sums" = true)
    (k12 : PySem.W.keepIn K (.ref f12) = true)
    (a13 : PySem.W.nsIn K mainGlobals "_law_days" = some (some (.ref f13)))
    (l13 : K.lookup f13 = some ⟨oc13, od13, .func (PySem.W.fnOf "_law_days" "_law_days" (defArgs s__law_days) (defBody s__law_days) (defScope s__law_days) .none kV13 dc13 pm13 an13 cd13 ct13), sl13⟩)
    (c13 : PySem.W.codeIn K cd13 "_law_days" = true)
    (k13 : PySem.W.keepIn K (.ref f13) = true)
    (a14 : PySem.W.nsIn K mainGlobals "_law_top" = some (some (.ref f14)))
    (l14 : K.lookup f14 = some ⟨oc14, od14, .func (PySem.W.fnOf "_law_top" "_law_top" (defArgs s__law_top) (defBody s__law_top) (defScope s__law_top) .none kV14 dc14 pm14 an14 cd14 ct14), sl14⟩)
    (c14 : PySem.W.codeIn K cd14 "_law_top" = true)
    (k14 : PySem.W.keepIn K (.ref f14) = true)
    (a15 : PySem.W.nsIn K mainGlobals "_law_high" = some (some (.ref f15)))
    (l15 : K.lookup f15 = some ⟨oc15, od15, .func (PySem.W.fnOf "_law_high" "_law_high" (defArgs s__law_high) (defBody s__law_high) (defScope s__law_high) .none kV15 dc15 pm15 an15 cd15 ct15), sl15⟩)
    (c15 : PySem.W.codeIn K cd15 "_law_high" = true)
    (k15 : PySem.W.keepIn K (.ref f15) = true)
    (a16 : PySem.W.nsIn K mainGlobals "_law_size" = some (some (.ref f16)))
    (l16 : K.lookup f16 = some ⟨oc16, od16, .func (PySem.W.fnOf "_law_size" "_law_size" (defArgs s__law_size) (defBody s__law_size) (defScope s__law_size) .none kV16 dc16 pm16 an16 cd16 ct16), sl16⟩)
    (c16 : PySem.W.codeIn K cd16 "_law_size" = true)
    (k16 : PySem.W.keepIn K (.ref f16) = true)
    (a17 : PySem.W.nsIn K mainGlobals "_law_changed" = some (some (.ref f17)))
    (l17 : K.lookup f17 = some ⟨oc17, od17, .func (PySem.W.fnOf "_law_changed" "_law_changed" (defArgs s__law_changed) (defBody s__law_changed) (defScope s__law_changed) .none kV17 dc17 pm17 an17 cd17 ct17), sl17⟩)
    (c17 : PySem.W.codeIn K cd17 "_law_changed" = true)
    (k17 : PySem.W.keepIn K (.ref f17) = true)
    (a18 : PySem.W.nsIn K mainGlobals "_law_due" = some (some (.ref f18)))
    (l18 : K.lookup f18 = some ⟨oc18, od18, .func (PySem.W.fnOf "_law_due" "_law_due" (defArgs s__law_due) (defBody s__law_due) (defScope s__law_due) .none kV18 dc18 pm18 an18 cd18 ct18), sl18⟩)
    (c18 : PySem.W.codeIn K cd18 "_law_due" = true)
    (k18 : PySem.W.keepIn K (.ref f18) = true)
    (a19 : PySem.W.nsIn K mainGlobals "_law_right" = some (some (.ref f19)))
    (l19 : K.lookup f19 = some ⟨oc19, od19, .func (PySem.W.fnOf "_law_right" "_law_right" (defArgs s__law_right) (defBody s__law_right) (defScope s__law_right) .none kV19 dc19 pm19 an19 cd19 ct19), sl19⟩)
    (c19 : PySem.W.codeIn K cd19 "_law_right" = true)
    (k19 : PySem.W.keepIn K (.ref f19) = true)
    (a20 : PySem.W.nsIn K mainGlobals "law" = some (some (.ref f20)))
    (l20 : K.lookup f20 = some ⟨oc20, od20, .func (PySem.W.fnOf "law" "law" (defArgs s_law) (defBody s_law) (defScope s_law) .none kV20 dc20 pm20 an20 cd20 ct20), sl20⟩)
    (c20 : PySem.W.codeIn K cd20 "law" = true)
    (k20 : PySem.W.keepIn K (.ref f20) = true)
    (g_InvalidWay : PySem.W.nsIn K mainGlobals "InvalidWay" = some (some (.ref C_InvalidWay)))
    (x_InvalidWay : PySem.W.excIn K C_InvalidWay [.type "ValueError", .type "Exception", .type "BaseException", .type "object"] "ValueError.__new__" = true)
    (k_InvalidWay : PySem.W.keepIn K (.ref C_InvalidWay) = true)
    (z_abs : PySem.W.nsIn K mainGlobals "abs" = some none)
    (z_all : PySem.W.nsIn K mainGlobals "all" = some none)
    (z_bool : PySem.W.nsIn K mainGlobals "bool" = some none)
    (z_int : PySem.W.nsIn K mainGlobals "int" = some none)
    (z_isinstance : PySem.W.nsIn K mainGlobals "isinstance" = some none)
    (z_len : PySem.W.nsIn K mainGlobals "len" = some none)
    (z_list : PySem.W.nsIn K mainGlobals "list" = some none)
    (z_max : PySem.W.nsIn K mainGlobals "max" = some none)
    (z_min : PySem.W.nsIn K mainGlobals "min" = some none)
    (z_range : PySem.W.nsIn K mainGlobals "range" = some none)
    (z_repr : PySem.W.nsIn K mainGlobals "repr" = some none)
    (z_sum : PySem.W.nsIn K mainGlobals "sum" = some none)
    (z_tuple : PySem.W.nsIn K mainGlobals "tuple" = some none)
    (z_type : PySem.W.nsIn K mainGlobals "type" = some none)
    (v_GREATEST_COUNT : PySem.W.nsIn K mainGlobals "GREATEST_COUNT" = some (some (.int 67 u_GREATEST_COUNT)))
    (v_GREATEST_LENGTH : PySem.W.nsIn K mainGlobals "GREATEST_LENGTH" = some (some (.int 8 u_GREATEST_LENGTH)))
    (v_GREATEST_MOST : PySem.W.nsIn K mainGlobals "GREATEST_MOST" = some (some (.int 999999999999999999999999999999 u_GREATEST_MOST))) :
    ∃ fd : FuncData, (∀ (s : Shared) (v : Value), BindsTo s fd ⟨[v], []⟩ [("script", v)]) ∧ ∀ base : Heap, K.In base → base.Ns mainGlobals mg → FnG l.prog w K mg base CX0 8 fa fd ["script"] (spLaw K) := by
  have e := hfa.symm.trans (PySem.W.mg_of X G a20)
  cases e
  have F0 := fun_mk (st := s_is_integer) l0 c0 k0
  have F1 := fun_mk (st := s_is_within) l1 c1 k1
  have F2 := fun_mk (st := s_is_row) l2 c2 k2
  have F3 := fun_mk (st := s_is_row_within) l3 c3 k3
  have F4 := fun_mk (st := s_check_row_of_sums) l4 c4 k4
  have F5 := fun_mk (st := s_check_sums) l5 c5 k5
  have F6 := fun_mk (st := s_check_most) l6 c6 k6
  have F7 := fun_mk (st := s_row_sums) l7 c7 k7
  have F8 := fun_mk (st := s_is_way) l8 c8 k8
  have F9 := fun_mk (st := s_check_told) l9 c9 k9
  have F10 := fun_mk (st := s__law_jar) l10 c10 k10
  have F11 := fun_mk (st := s__law_dip) l11 c11 k11
  have F12 := fun_mk (st := s__law_sums) l12 c12 k12
  have F13 := fun_mk (st := s__law_days) l13 c13 k13
  have F14 := fun_mk (st := s__law_top) l14 c14 k14
  have F15 := fun_mk (st := s__law_high) l15 c15 k15
  have F16 := fun_mk (st := s__law_size) l16 c16 k16
  have F17 := fun_mk (st := s__law_changed) l17 c17 k17
  have F18 := fun_mk (st := s__law_due) l18 c18 k18
  have F19 := fun_mk (st := s__law_right) l19 c19 k19
  have F20 := fun_mk (st := s_law) l20 c20 k20
  have T : Top K mg := ⟨_, _, F0, F0.binds (fun _ _ _ _ _ _ us hl => match us, hl with | [_], _ => rfl), PySem.W.mg_of X G a0,
    _, _, F1, F1.binds (fun _ _ _ _ _ _ us hl => match us, hl with | [_, _, _], _ => rfl), PySem.W.mg_of X G a1,
    _, _, F2, F2.binds (fun _ _ _ _ _ _ us hl => match us, hl with | [_, _], _ => rfl), PySem.W.mg_of X G a2,
    _, _, F3, F3.binds (fun _ _ _ _ _ _ us hl => match us, hl with | [_, _, _, _], _ => rfl), PySem.W.mg_of X G a3,
    _, _, F4, F4.binds (fun _ _ _ _ _ _ us hl => match us, hl with | [_], _ => rfl), PySem.W.mg_of X G a4,
    _, _, F5, F5.binds (fun _ _ _ _ _ _ us hl => match us, hl with | [_, _], _ => rfl), PySem.W.mg_of X G a5,
    _, _, F6, F6.binds (fun _ _ _ _ _ _ us hl => match us, hl with | [_], _ => rfl), PySem.W.mg_of X G a6,
    _, _, F7, F7.binds (fun _ _ _ _ _ _ us hl => match us, hl with | [_, _], _ => rfl), PySem.W.mg_of X G a7,
    _, _, F8, F8.binds (fun _ _ _ _ _ _ us hl => match us, hl with | [_, _, _, _], _ => rfl), PySem.W.mg_of X G a8,
    _, _, F9, F9.binds (fun _ _ _ _ _ _ us hl => match us, hl with | [_, _, _], _ => rfl), PySem.W.mg_of X G a9,
    _, _, F10, F10.binds (fun _ _ _ _ _ _ us hl => match us, hl with | [_, _], _ => rfl), PySem.W.mg_of X G a10,
    _, _, F11, F11.binds (fun _ _ _ _ _ _ us hl => match us, hl with | [_, _], _ => rfl), PySem.W.mg_of X G a11,
    _, _, F12, F12.binds (fun _ _ _ _ _ _ us hl => match us, hl with | [_, _], _ => rfl), PySem.W.mg_of X G a12,
    _, _, F13, F13.binds (fun _ _ _ _ _ _ us hl => match us, hl with | [_, _, _], _ => rfl), PySem.W.mg_of X G a13,
    _, _, F14, F14.binds (fun _ _ _ _ _ _ us hl => match us, hl with | [_], _ => rfl), PySem.W.mg_of X G a14,
    _, _, F15, F15.binds (fun _ _ _ _ _ _ us hl => match us, hl with | [_, _], _ => rfl), PySem.W.mg_of X G a15,
    _, _, F16, F16.binds (fun _ _ _ _ _ _ us hl => match us, hl with | [_, _], _ => rfl), PySem.W.mg_of X G a16,
    _, _, F17, F17.binds (fun _ _ _ _ _ _ us hl => match us, hl with | [_, _, _], _ => rfl), PySem.W.mg_of X G a17,
    _, _, F18, F18.binds (fun _ _ _ _ _ _ us hl => match us, hl with | [_, _, _, _], _ => rfl), PySem.W.mg_of X G a18,
    _, _, F19, F19.binds (fun _ _ _ _ _ _ us hl => match us, hl with | [_, _, _, _], _ => rfl), PySem.W.mg_of X G a19,
    _, _, F20, F20.binds (fun _ _ _ _ _ _ us hl => match us, hl with | [_], _ => rfl), PySem.W.mg_of X G a20,
    _, PySem.W.mg_of X G g_InvalidWay, x_InvalidWay, k_InvalidWay,
    PySem.W.mg_none_of X G z_abs,
    PySem.W.mg_none_of X G z_all,
    PySem.W.mg_none_of X G z_bool,
    PySem.W.mg_none_of X G z_int,
    PySem.W.mg_none_of X G z_isinstance,
    PySem.W.mg_none_of X G z_len,
    PySem.W.mg_none_of X G z_list,
    PySem.W.mg_none_of X G z_max,
    PySem.W.mg_none_of X G z_min,
    PySem.W.mg_none_of X G z_range,
    PySem.W.mg_none_of X G z_repr,
    PySem.W.mg_none_of X G z_sum,
    PySem.W.mg_none_of X G z_tuple,
    PySem.W.mg_none_of X G z_type,
    ⟨_, PySem.W.mg_of X G v_GREATEST_COUNT⟩,
    ⟨_, PySem.W.mg_of X G v_GREATEST_LENGTH⟩,
    ⟨_, PySem.W.mg_of X G v_GREATEST_MOST⟩⟩
  exact ⟨PySem.W.fnOf "law" "law" (defArgs s_law) (defBody s_law) (defScope s_law) .none kV20 dc20 pm20 an20 cd20 ct20, fun s v => .of_eq rfl, fun base _ _ => (ok_law (P := l.prog) (w := w) (base := base) T F20)⟩
end K04
open PySem PySem.W PyProof.Rows in
set_option maxRecDepth 100000 in
set_option maxHeartbeats 0 in
theorem PySem.Challenge.cw_weeksums_k04_ways_judged_holds : PySem.Challenge.rw_weeksums_k04_ways_judged.Holds := by
  w_on; o_law; k_head; (case hw => w_witness2)
  k_fill
  refine Ws.walkG (l := PySem.Challenge.rw_weeksums_k04_ways_judged) (n := 63) (k := 8) (x := "script") (CX := fun _ => L2.CX0) (sp := fun w => K04.spLaw _) rfl (by decide) rfl ⟨rfl, by decide, by decide⟩ (fun w h Y => PySem.W.kIn_of Y) ?F (fun _ _ a ns hl _ hS => ⟨a, ns, rfl, hS, hl, fun _ => rfl⟩) (fun _ _ _ _ _ h => h)
  case F =>
    intro w mg fa h KX G hmg
    refine' K04.all_mk KX G hmg ?a0 ?l0 ?c0 ?k0 ?a1 ?l1 ?c1 ?k1 ?a2 ?l2 ?c2 ?k2 ?a3 ?l3 ?c3 ?k3 ?a4 ?l4 ?c4 ?k4 ?a5 ?l5 ?c5 ?k5 ?a6 ?l6 ?c6 ?k6 ?a7 ?l7 ?c7 ?k7 ?a8 ?l8 ?c8 ?k8 ?a9 ?l9 ?c9 ?k9 ?a10 ?l10 ?c10 ?k10 ?a11 ?l11 ?c11 ?k11 ?a12 ?l12 ?c12 ?k12 ?a13 ?l13 ?c13 ?k13 ?a14 ?l14 ?c14 ?k14 ?a15 ?l15 ?c15 ?k15 ?a16 ?l16 ?c16 ?k16 ?a17 ?l17 ?c17 ?k17 ?a18 ?l18 ?c18 ?k18 ?a19 ?l19 ?c19 ?k19 ?a20 ?l20 ?c20 ?k20 ?g_InvalidWay ?x_InvalidWay ?k_InvalidWay ?z_abs ?z_all ?z_bool ?z_int ?z_isinstance ?z_len ?z_list ?z_max ?z_min ?z_range ?z_repr ?z_sum ?z_tuple ?z_type ?v_GREATEST_COUNT ?v_GREATEST_LENGTH ?v_GREATEST_MOST
    (case a0 => k_is)
    (case l0 => k_is)
    (case c0 => k_is)
    (case k0 => k_is)
    (case a1 => k_is)
    (case l1 => k_is)
    (case c1 => k_is)
    (case k1 => k_is)
    (case a2 => k_is)
    (case l2 => k_is)
    (case c2 => k_is)
    (case k2 => k_is)
    (case a3 => k_is)
    (case l3 => k_is)
    (case c3 => k_is)
    (case k3 => k_is)
    (case a4 => k_is)
    (case l4 => k_is)
    (case c4 => k_is)
    (case k4 => k_is)
    (case a5 => k_is)
    (case l5 => k_is)
    (case c5 => k_is)
    (case k5 => k_is)
    (case a6 => k_is)
    (case l6 => k_is)
    (case c6 => k_is)
    (case k6 => k_is)
    (case a7 => k_is)
    (case l7 => k_is)
    (case c7 => k_is)
    (case k7 => k_is)
    (case a8 => k_is)
    (case l8 => k_is)
    (case c8 => k_is)
    (case k8 => k_is)
    (case a9 => k_is)
    (case l9 => k_is)
    (case c9 => k_is)
    (case k9 => k_is)
    (case a10 => k_is)
    (case l10 => k_is)
    (case c10 => k_is)
    (case k10 => k_is)
    (case a11 => k_is)
    (case l11 => k_is)
    (case c11 => k_is)
    (case k11 => k_is)
    (case a12 => k_is)
    (case l12 => k_is)
    (case c12 => k_is)
    (case k12 => k_is)
    (case a13 => k_is)
    (case l13 => k_is)
    (case c13 => k_is)
    (case k13 => k_is)
    (case a14 => k_is)
    (case l14 => k_is)
    (case c14 => k_is)
    (case k14 => k_is)
    (case a15 => k_is)
    (case l15 => k_is)
    (case c15 => k_is)
    (case k15 => k_is)
    (case a16 => k_is)
    (case l16 => k_is)
    (case c16 => k_is)
    (case k16 => k_is)
    (case a17 => k_is)
    (case l17 => k_is)
    (case c17 => k_is)
    (case k17 => k_is)
    (case a18 => k_is)
    (case l18 => k_is)
    (case c18 => k_is)
    (case k18 => k_is)
    (case a19 => k_is)
    (case l19 => k_is)
    (case c19 => k_is)
    (case k19 => k_is)
    (case a20 => k_is)
    (case l20 => k_is)
    (case c20 => k_is)
    (case k20 => k_is)
    (case g_InvalidWay => k_is)
    (case x_InvalidWay => k_exc)
    (case k_InvalidWay => k_is)
    (case z_abs => k_is)
    (case z_all => k_is)
    (case z_bool => k_is)
    (case z_int => k_is)
    (case z_isinstance => k_is)
    (case z_len => k_is)
    (case z_list => k_is)
    (case z_max => k_is)
    (case z_min => k_is)
    (case z_range => k_is)
    (case z_repr => k_is)
    (case z_sum => k_is)
    (case z_tuple => k_is)
    (case z_type => k_is)
    (case v_GREATEST_COUNT => k_is)
    (case v_GREATEST_LENGTH => k_is)
    (case v_GREATEST_MOST => k_is)

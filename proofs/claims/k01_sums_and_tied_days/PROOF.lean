import PyProof.Rows.All
import Wide.All
import OpenK.AllK
import Wide.FinOn
import HandS.ForMost
import HandS.Wide
import HandS.RaiseMore
import PyProof.ReprRoads
import HandS.Ends
import HandS.Conv
import HandS.IsInst
import HandS.SortInts
import HandS.Evl
import HandS.More
import PySem.Challenge.RW_weeksums_k01_sums_and_tied_days
set_option Elab.async false
set_option linter.all false
set_option maxRecDepth 100000
set_option maxHeartbeats 4000000
namespace Ws
open PySem PySem.Spec PyProof.Rows L2
/-! ### great powers -/
/-- a power of an int of less than a million bits, the exponent up to 60 -/
def PowOk (i j : Int) : Prop := 0 ≤ j ∧ j ≤ 60 ∧ i.natAbs.log2 < 2000000
theorem bits_le (i : Int) : Builtin.Int.intBits i ≤ i.natAbs.log2 + 1 := by
  unfold Builtin.Int.intBits
  split <;> omega
theorem op_powG {X : Cx} : OpR X (binaryOp .Pow) (rI PowOk fun i j => .int (i ^ j.toNat)) :=
  opI fun i j t u s Q E hc q => by
    obtain ⟨h0, h1, h2⟩ := hc
    refine PyProof.Rows.pow_int h0 ?_ q
    have hb := bits_le i
    have h3 : (Builtin.Int.intBits i : Int) ≤ 2000000 := by omega
    have h4 : (Builtin.Int.intBits i : Int) * j ≤ 2000000 * 60 :=
      Int.le_trans (Int.mul_le_mul_of_nonneg_right h3 h0) (Int.mul_le_mul_of_nonneg_left h1 (by decide))
    exact Int.le_trans h4 (by decide)
end Ws

set_option Elab.async false
set_option linter.all false
set_option maxRecDepth 100000
set_option maxHeartbeats 4000000
namespace Ws
open PySem PySem.Spec PyProof.Rows L2
/-! ### contracts of defs that hold where no printing of a list is under way -/
structure FnG (P : Program) (w : World) (K : PySem.W.Frag) (mg : Str → Option Value) (base : Heap)
    (CX : CXT) (k : Nat) (f : Addr) (fd : FuncData) (ps : List Str) (sp : Sp) : Prop where
  cnt : ∀ vs H Q E, sp vs H Q E → vs.length = ps.length
  go : ∀ (A : Around) (out : List Env) (s : Shared) (H : Hp) (ar : Args) (us : List Value) (vs : List V) (Q : VK) (E : XK),
    Room k A → A.guards = some [] → Env0 P w K mg base A out s H → BindsTo s fd ar (ps.zip us) → Vals vs us →
    sp vs H Q E → codeAny (model P w) A (.call (.ref f) ar) (CR CX out P w H s Q E) s
section
variable {P : Program} {w : World} {K : PySem.W.Frag} {mg : Str → Option Value} {base : Heap} {CX : CXT}
  {k : Nat} {f : Addr} {fd : FuncData} {ps : List Str} {sp : Sp}
theorem FnG.of (F : FnOk P w K mg base CX k f fd ps sp) : FnG P w K mg base CX k f fd ps sp :=
  ⟨F.len, fun A out s H ar us vs Q E hr _ he hb hv hs => F.run A out s H ar us vs Q E hr he hb hv hs⟩
theorem FnG.up {j : Nat} (F : FnG P w K mg base CX j f fd ps sp) (h : j ≤ k) : FnG P w K mg base CX k f fd ps sp :=
  ⟨F.cnt, fun A out s H ar us vs Q E hr => F.go A out s H ar us vs Q E (hr.mono h)⟩
/-- a def of the text by its body, the guards told -/
theorem fnG_of {nm qual : Str} {params : Arguments} {body : List Stmt} {scope : Scope} {dV kV doc pm cdv ct oc : Value}
    {an od : Option Addr} {osl : Array (Option Value)} {N : List Str}
    (lk : K.lookup f = some ⟨oc, od, .func (PySem.W.fnOf nm qual params body scope dV kV doc pm an cdv ct), osl⟩)
    (hcd : PySem.W.codeIn K cdv qual = true) (S : FnScope N ps scope)
    (cnt : ∀ vs H Q E, sp vs H Q E → vs.length = ps.length)
    (hbody : ∀ (A : Around) (out : List Env) (s : Shared) (H : Hp) (vs : List V) (Q : VK) (E : XK),
      Room k (A.deeper (envOfC qual scope s.heap.objs.size f cdv)) → A.guards = some [] → sp vs H Q E →
      ∃ t, PSs (cxOf CX P w K mg base N qual scope f cdv A out s H E) body t ∧
        t { nx := fun _ H' => Q .non H', rt := Q } (start N vs) H) :
    FnG P w K mg base CX (k + 1) f (PySem.W.fnOf nm qual params body scope dV kV doc pm an cdv ct) ps sp := by
  refine ⟨cnt, ?_⟩
  intro A out s H ar us vs Q E hr hg e0 hb hv hsp
  have n1 : vs.length = ps.length := cnt _ _ _ _ hsp
  have inK : K.In s.heap := e0.mod.kin.keeps fun b o q => (e0.bs b o q).1
  have free : s.heap.NoLimit := e0.mod.nolimit.keeps fun b o q => (e0.bs b o q).1
  have kinds : ∀ y ∈ ps.zip us, scope.names.lookup y.1 = some .local ∨
      (scope.names.lookup y.1 = some .cell ∧
        ((cellsFrom (s.heap.objs.size + 1) scope.names []).lookup y.1).isSome = true) := by
    rintro ⟨n, v⟩ hy
    have hm : n ∈ ps := (List.of_mem_zip hy).1
    cases S.par n hm with
    | inl q => exact Or.inl q
    | inr q => exact Or.inr ⟨q, PySem.W.cellsFrom_some _ _ _ (Or.inl q)⟩
  have rcd : s.heap.CodeRec cdv qual := PySem.W.codeRec_of inK hcd
  refine codeAny_call_function hr.depth (inK _ _ lk) rfl S.co S.gen rfl rcd ?_
  refine hb _ _ _ _ (wpAny_newFunctionEnv_cells S.kind kinds ?_)
  intro env ee s1 x
  subst ee
  refine ⟨free.keeps x.toInCall.keep, codeAny_func ?_⟩
  obtain ⟨t, ht, hq⟩ := hbody A out s H vs Q E (hr.deeper _) hg hsp
  have I := inv_start (CX := CX) (P := P) (E := E) (cd := cdv) (f := f) S hr.hd e0 n1 hv x
  have r1 := ht.run [] s1 (start N vs) H _ I hq
  refine wpAny_mono r1 ?_ (fun e s' hs => hs)
  intro fl s' hs
  cases fl with
  | brk =>
    obtain ⟨_, _, _, q⟩ := hs
    exact q.elim
  | cont =>
    obtain ⟨_, _, _, q⟩ := hs
    exact q.elim
  | next =>
    obtain ⟨σ', H', J, q⟩ := hs
    exact ⟨.non, H', J.os, J.bare, J.base, J.hok, rfl, q⟩
  | ret u =>
    obtain ⟨v, σ', H', J, rv, q⟩ := hs
    exact ⟨v, H', J.os, J.bare, J.base, J.hok, rv, q⟩
end
section
variable {P : Program} {w : World} {K : PySem.W.Frag} {mg : Str → Option Value} {base : Heap}
/-- THE RULE for a def of the text, where nothing leaves it -/
theorem okG {x qual : Str} {st : Stmt} {f : Addr} {fd : FuncData} {N ps : List Str} {k : Nat} {sp : Sp}
    (F : L2.Fun K x qual st f fd) (S : FnScope N ps (defScope st))
    (cnt : ∀ vs H Q E, sp vs H Q E → vs.length = ps.length)
    (hbody : ∀ (cdv : Value) (A : Around) (out : List Env) (s : Shared) (H : Hp) (vs : List V) (Q : VK) (E : XK),
      Room k (A.deeper (envOfC qual (defScope st) s.heap.objs.size f cdv)) → A.guards = some [] → sp vs H Q E →
      ∃ t, PSs (cxOf CX0 P w K mg base N qual (defScope st) f cdv A out s H E).nox (defBody st) t ∧
        t { nx := fun _ H' => Q .non H', rt := Q } (start N vs) H) :
    FnG P w K mg base CX0 (k + 1) f fd ps sp := by
  obtain ⟨oc, od, kV, doc, pm, an, cdv, ct, osl, rfl, lk, hcd⟩ := F.ex
  refine fnG_of lk hcd S cnt ?_
  intro A out s H vs Q E hr hg hsp
  obtain ⟨t, h, q⟩ := hbody cdv A out s H vs Q E hr hg hsp
  exact ⟨t, PSs.nox h, q⟩
end
section
variable {X : Cx} {CX : CXT} {k : Nat} {f : Addr} {fd : FuncData} {ps ks : List Str} {sp : Sp} {E : XK} {x : Str}
  {p pos : Pos} {e : Expr} {es : List Expr} {kws : List Keyword} {t tk : TA}
/-- a call of such a def, as it is bound -/
theorem callG {pins : List (Addr × Obj)} {σ : L2.St} {H : Hp} {s : Shared} {Q : VK} {us ws : List Value} {vs : List V} {kw : List (Str × Value)}
    (F : FnG X.prog X.w X.K X.mg X.base CX k f fd ps sp) (hr : Room k X.A) (hg : X.A.guards = some []) (hx : Passes CX X E)
    (I : Inv X pins σ H s) (hb : ws.length = ps.length → BindsTo s fd ⟨us, kw⟩ (ps.zip ws)) (r : Vals vs ws) (h : sp vs H Q E) :
    wpAny (model X.prog X.w) X.A (call (.ref f) us kw) (EP X pins σ Q) X.xe s := by
  have n1 : ws.length = ps.length := by
    have n2 := F.cnt _ _ _ _ h
    have n3 := r.length
    omega
  have c := F.go X.A X.stack s H ⟨us, kw⟩ ws vs Q E hr hg I.env0 (hb n1) r h
  refine wpAny_call (codeAny_mono c ?_)
  intro res s' hq
  cases res with
  | error ex => exact hx pins σ H s ex s' I hq
  | ok fl =>
    cases fl with
    | ret u => exact Inv.after I hq
    | next => exact hq.elim
    | brk => exact hq.elim
    | cont => exact hq.elim
theorem pe_callGd (F : FnG X.prog X.w X.K X.mg X.base CX k f fd ps sp) (hr : Room k X.A) (gu : X.A.guards = some [])
    (hg : Gl X x) (hm : X.mg x = some (.ref f)) (hk : PySem.W.keepIn X.K (.ref f) = true) (hb : Binds X.K fd ps [])
    (hx : Passes CX X E) (ha : PA X (e :: es) t) (hdb : (x == ("__debug__" : Str)) = false := by decide)
    (he : starEach (e :: es) X.env = (false, eval e X.env) :: starEach es X.env := by rfl)
    (hpl : (backTo pos (starEach es X.env)).any (·.1) = false := by rfl) :
    PE X (.Call (.Name x p) (e :: es) [] pos) (tCall sp [] E t) := by
  constructor
  intro pins s σ H Q I h
  refine wpAny_Call_Name_kw (ld_glob I hg hm ?_ hdb)
  refine PySem.W.callWith_K (h₀ := X.base) I.ok.mod.kin hk ?_ he hpl
  refine thn (ha.run pos pins s σ H _ I h) ?_
  intro us s1 hh
  obtain ⟨vs, H1, I1, r, q⟩ := hh
  refine ⟨I1.kIn, ?_⟩
  have q' : sp vs H1 Q E := by
    have z : vs ++ ([] : List V) = vs := List.append_nil vs
    rw [← z]
    exact q
  refine callG F hr gu hx I1 (fun n => ?_) r q'
  have hb1 := hb s1 us I1.kIn (by rw [List.append_nil]; exact n)
  rw [List.append_nil] at hb1
  exact hb1
end
section
variable {X : Cx} {CX : CXT} {k : Nat} {f : Addr} {fd : FuncData} {ps ks : List Str} {sp : Sp} {E : XK} {x : Str}
  {p pos : Pos} {kws : List Keyword} {tk : TA} {g : List Value → List Value → List Value} {gV : List V → List V → List V}
/-- f(a = .., b = ..): keywords alone -/
theorem pe_callKW (F : FnOk X.prog X.w X.K X.mg X.base CX k f fd ps sp) (hr : Room k X.A) (hg : Gl X x)
    (hm : X.mg x = some (.ref f)) (hk : PySem.W.keepIn X.K (.ref f) = true) (hb : KBinds X.K fd ps ks g gV) (hx : Passes CX X E)
    (hkw : PK X kws tk) (hall : (backToKw pos (keywordEach kws X.env)).all (·.1.isSome) = true := by rfl)
    (hks : (backToKw pos (keywordEach kws X.env)).filterMap (·.1) = ks := by rfl)
    (hdb : (x == ("__debug__" : Str)) = false := by decide)
    (hpl : ((backTo pos (starEach [] X.env)).any (·.1) || (backToKw pos (keywordEach kws X.env)).any (·.1.isNone)) = false := by rfl) :
    PE X (.Call (.Name x p) [] kws pos) (tCallK sp gV E tNil tk) := by
  constructor
  intro pins s σ H Q I h
  refine wpAny_Call_Name_kw (ld_glob I hg hm ?_ hdb)
  refine PySem.W.callWith_KW0 (h₀ := X.base) I.ok.mod.kin hk hall ?_ hpl
  refine thn (hkw.run pos pins s σ H _ I h) ?_
  intro ws s1 hh
  obtain ⟨zs, H1, I1, rz, q⟩ := hh
  refine ⟨I1.kIn, ?_⟩
  rw [hks]
  exact run_fnk (us := []) F hr hb hx I1 .nil rz q
end
end Ws

set_option Elab.async false
set_option linter.all false
set_option maxRecDepth 100000
set_option maxHeartbeats 4000000
namespace Ws
open PySem PySem.Spec PyProof.Rows L2
/-! ### what a caller has of a def -/
structure DefOk (P : Program) (w : World) (K : PySem.W.Frag) (mg : Str → Option Value) (base : Heap) (CX : CXT) (k : Nat)
    (x : Str) (f : Addr) (fd : FuncData) (ps : List Str) (sp : Sp) : Prop where
  ok : FnOk P w K mg base CX k f fd ps sp
  g : mg x = some (.ref f)
  kp : PySem.W.keepIn K (.ref f) = true
  b : Binds K fd ps []
structure DefG (P : Program) (w : World) (K : PySem.W.Frag) (mg : Str → Option Value) (base : Heap) (CX : CXT) (k : Nat)
    (x : Str) (f : Addr) (fd : FuncData) (ps : List Str) (sp : Sp) : Prop where
  ok : FnG P w K mg base CX k f fd ps sp
  g : mg x = some (.ref f)
  kp : PySem.W.keepIn K (.ref f) = true
  b : Binds K fd ps []
section
variable {X : Cx} {k j : Nat} {f : Addr} {fd : FuncData} {ps ks : List Str} {sp : Sp} {x : Str}
  {p pos : Pos} {e : Expr} {es : List Expr} {kws : List Keyword} {t tk : TA}
theorem pc (D : DefOk X.prog X.w X.K X.mg X.base CX0 k x f fd ps sp) (hr : Room j X.A) (ha : PA X (e :: es) t)
    (hkj : k ≤ j := by decide) (hg : Gl X x := by rfl) (hdb : (x == ("__debug__" : Str)) = false := by decide)
    (he : starEach (e :: es) X.env = (false, eval e X.env) :: starEach es X.env := by rfl)
    (hpl : (backTo pos (starEach es X.env)).any (·.1) = false := by rfl) :
    PE X (.Call (.Name x p) (e :: es) [] pos) (tCall sp [] E0 t) :=
  pe_call D.ok (hr.mono hkj) hg D.g D.kp D.b .nil pass0 ha hdb he hpl
theorem pg (D : DefG X.prog X.w X.K X.mg X.base CX0 k x f fd ps sp) (hr : Room j X.A) (gu : X.A.guards = some []) (ha : PA X (e :: es) t)
    (hkj : k ≤ j := by decide) (hg : Gl X x := by rfl) (hdb : (x == ("__debug__" : Str)) = false := by decide)
    (he : starEach (e :: es) X.env = (false, eval e X.env) :: starEach es X.env := by rfl)
    (hpl : (backTo pos (starEach es X.env)).any (·.1) = false := by rfl) :
    PE X (.Call (.Name x p) (e :: es) [] pos) (tCall sp [] E0 t) :=
  pe_callGd D.ok (hr.mono hkj) gu hg D.g D.kp D.b pass0 ha hdb he hpl
variable {g : List Value → List Value → List Value} {gV : List V → List V → List V}
theorem pckw (D : DefOk X.prog X.w X.K X.mg X.base CX0 k x f fd ps sp) (hr : Room j X.A) (hb : KBinds X.K fd ps ks g gV) (hkw : PK X kws tk)
    (hkj : k ≤ j := by decide) (hg : Gl X x := by rfl)
    (hall : (backToKw pos (keywordEach kws X.env)).all (·.1.isSome) = true := by rfl)
    (hks : (backToKw pos (keywordEach kws X.env)).filterMap (·.1) = ks := by rfl)
    (hdb : (x == ("__debug__" : Str)) = false := by decide)
    (hpl : ((backTo pos (starEach [] X.env)).any (·.1) || (backToKw pos (keywordEach kws X.env)).any (·.1.isNone)) = false := by rfl) :
    PE X (.Call (.Name x p) [] kws pos) (tCallK sp gV E0 tNil tk) :=
  pe_callKW D.ok (hr.mono hkj) hg D.g D.kp hb pass0 hkw hall hks hdb hpl
end
/-! ### repr of data -/
section
mutual
theorem Dp.plain {K : PySem.W.Frag} {H : Hp} : ∀ (d : PyData) (v : V), Dp K H v d → d.hasDict = false
  | .none, _, _ => by simp only [PyData.hasDict]
  | .bool _, _, _ => by simp only [PyData.hasDict]
  | .int _, _, _ => by simp only [PyData.hasDict]
  | .str _, _, _ => by simp only [PyData.hasDict]
  | .list ds, _, h => by
    cases h with
    | lst hs ha =>
      simp only [PyData.hasDict]
      exact DpAll.plain ds _ ha
  | .tuple ds, _, h => by
    cases h with
    | tup hs ha =>
      simp only [PyData.hasDict]
      exact DpAll.plain ds _ ha
  | .dict _, _, h => by cases h
theorem DpAll.plain {K : PySem.W.Frag} {H : Hp} : ∀ (ds : List PyData) (vs : List V), DpAll K H vs ds → PyData.hasDictAll ds = false
  | [], _, _ => by simp only [PyData.hasDictAll]
  | d :: ds, _, h => by
    cases h with
    | cons h1 h2 =>
      simp only [PyData.hasDictAll, Dp.plain d _ h1, DpAll.plain ds _ h2]
      rfl
end
variable {X : Cx}
/-- what may be printed -/
def Shw (d : PyData) : Prop := d.showable = true ∧ d.shown.length ≤ sizeLine ∧ d.depth ≤ 60
def rRepr (K : PySem.W.Frag) : List V → Hp → VK → Prop := fun xs H Q => ∃ x d, xs = [x] ∧ Dp K H x d ∧ Shw d ∧ Q (.str d.shown) H
theorem call_reprD (hg : X.A.guards = some []) (hu : X.A.units + 64 < cLine) : CallR X (.builtin "repr") (rRepr X.K) := by
  intro pins s σ H xs us Q I r h
  obtain ⟨x, d, rfl, hd, ⟨hs, hz, hp⟩, q⟩ := h
  obtain ⟨u, rfl, ru⟩ := vals1 r
  have nd : d.hasDict = false := Dp.plain d x hd
  cases d with
  | none =>
    cases hd
    cases ru
    rw [PyData.shown_none] at q
    exact PySem.P.repr_of_none ⟨.str _, H, I.tok _, ⟨_, rfl⟩, q⟩
  | bool b =>
    cases hd
    cases ru
    rw [PyData.shown_bool] at q
    refine PySem.P.repr_of_bool ⟨.str _, H, I.tok _, ⟨s.toks, ?_⟩, q⟩
    cases b <;> rfl
  | int i =>
    cases hd
    obtain ⟨t, rfl⟩ := ru
    rw [PyData.shown_int] at q
    have h1 : i.natAbs.log2 < 1920 := by simpa [PyData.showable] using hs
    exact PySem.P.repr_of_int h1 ⟨.str _, H, I.tok _, ⟨_, rfl⟩, q⟩
  | str y =>
    cases hd
    obtain ⟨t, rfl⟩ := ru
    rw [PyData.shown_str] at q hz
    exact PySem.P.repr_of_str ⟨.str _, H, I.tok _, ⟨_, rfl⟩, q⟩ hz
  | list ds =>
    obtain ⟨as, rd⟩ := Dp.reads I _ x u hd ru
    cases hd
    cases ru
    refine repr_of_reads' rd hs (fun z => by rw [nd] at z; cases z) hg (by omega) (fun _ _ z => z) (fun h' w' tk hk => ?_) hz
    exact ⟨.str _, H, I.kept hk, ⟨_, rfl⟩, q⟩
  | tuple ds =>
    obtain ⟨as, rd⟩ := Dp.reads I _ x u hd ru
    cases hd
    cases ru
    refine repr_of_reads' rd hs (fun z => by rw [nd] at z; cases z) hg (by omega) (fun _ _ z => z) (fun h' w' tk hk => ?_) hz
    exact ⟨.str _, H, I.kept hk, ⟨_, rfl⟩, q⟩
  | dict kvs => cases hd
end
/-! ### list(range(a, b, c)) -/
section
variable {X : Cx} {a b c : Expr} {ta : TA}
def rgC (i c : Int) (n : Nat) : List V := (List.range n).map fun m => V.int (i + (m : Nat) * c)
theorem rgC_len (i c : Int) (n : Nat) : (rgC i c n).length = n := by
  unfold rgC
  rw [List.length_map, List.length_range]
def tLstR3 (ta : TA) : TE := fun σ H Q => ta σ H fun vs H1 => ∃ (i j k : Int) (n : Nat), vs = [.int i, .int j, .int k] ∧ RgC i j k n ∧ n ≤ 100000 ∧
  ∀ q, H1 q = none → Q (.ref q) (upd H1 q (.lst (rgC i k n)))
theorem pe_listR3 {p1 p2 q1 q2 : Pos} (hc : X.calm = true) (hgl : Gl X "list") (hml : X.mg "list" = none) (hg : Gl X "range") (hm : X.mg "range" = none)
    (ha : PA X [a, b, c] ta) (hs : starEach [a, b, c] X.env = (false, eval a X.env) :: starEach [b, c] X.env := by rfl)
    (hpl : (backTo q2 (starEach [b, c] X.env)).any (·.1) = false := by rfl)
    (na : starEach [Expr.Call (.Name "range" q1) [a, b, c] [] q2] X.env = (false, eval (Expr.Call (.Name "range" q1) [a, b, c] [] q2) X.env) :: starEach [] X.env := by rfl) :
    PE X (.Call (.Name "list" p1) [.Call (.Name "range" q1) [a, b, c] [] q2] [] p2) (tLstR3 ta) := by
  constructor
  intro pins s σ H Q I h
  refine Call_ (ld_blt I hgl hml boot_list (PyProof.Rows.callWith_type1 (args_cons ?_ na) na))
  refine Call_ (ld_blt I hg hm boot_range (PyProof.Rows.callWith_type1 (thn (ha.run q2 pins s σ H _ I h) ?_) hs hpl))
  intro us s1 hh
  obtain ⟨vs, H1, I1, r1, i, j, m, n, e, ok, hn, q⟩ := hh
  subst e
  obtain ⟨u1, us1, rfl, t1, rfl, r2⟩ : ∃ u1 us1, us = u1 :: us1 ∧ ∃ t, u1 = Value.int i t ∧ Vals [.int j, .int m] us1 := by
    cases r1 with
    | cons r rr => exact ⟨_, _, rfl, r.choose, r.choose_spec, rr⟩
  obtain ⟨u2, u3, rfl, ⟨t2, rfl⟩, ⟨t3, rfl⟩⟩ := vals2 r2
  obtain ⟨c0, c1, c2, c3⟩ := ok
  refine call_range_3 c0 (args_nil ?_) (.inl (PyProof.noPylong_small c1))
  have I2 : Inv X pins σ H1 { s1 with heap := s1.heap.push { cls := .type "range", data := .fields #[.int i t1, .int j t2, .int m t3] } } :=
    I1.kept (t' := s1.toks) fun b o e => Heap.get?_push_of_some _ e
  refine call_list_range (n := n) (I2.ok.hd hc) (IsRange.new ..) c2 c3 (by omega) ?_
  intro h' tk acc c' hk e' hi
  have el : acc.toList.length = n := by
    rw [Array.length_toList]
    exact hi.1
  have hv : Vals (rgC i m n) acc.toList := by
    unfold rgC
    rw [← el]
    refine vals_of_get acc.toList _ ?_
    intro z u hz
    obtain ⟨t, rfl⟩ := hi.2 z u (by rw [← hz, Array.getElem?_toList])
    exact ⟨t, rfl⟩
  have ob : ∀ G : Hp, ObjOk X.prog X.w G h' _ (.lst (rgC i m n)) := fun G =>
    ⟨by rw [rgC_len, sizeLine_eq]; omega, acc.toList, c', hv, by rw [Array.toArray_toList]; exact e'⟩
  exact ⟨.ref _, _, I2.laid hk (Nat.le_refl _) (ob _), rfl, q _ (I2.hok.fresh (Nat.le_refl _))⟩
end
end Ws

set_option Elab.async false
set_option linter.all false
set_option maxRecDepth 100000
set_option maxHeartbeats 4000000
namespace Ws
open PySem PySem.Spec PyProof.Rows L2
section
variable {P : Program} {w : World} {K : PySem.W.Frag} {mg mb : Str → Option Value} {k : Nat} {fa a : Addr} {fd : FuncData} {x : Str} {sp : Sp}
  {s1 : Shared} {vs : List Value} {ns : List Int}
/-- the law's call, from a heap that tracks the script or nothing -/
theorem law_from (KX : K.In s1.heap) (hns : s1.heap.Ns mainGlobals mg) (hb : s1.heap.Ns builtinsNs mb)
    (hbb : ∀ x : Str, x ≠ "__name__" → mb x = bootBuiltins x) (lim : s1.heap.NoLimit) (hg : s1.gens = #[])
    (ha : s1.heap.get? a = some { cls := .type "list", data := .seq vs.toArray }) (hr : Room k callerA)
    (F : ∀ base : Heap, K.In base → base.Ns mainGlobals mg → FnG P w K mg base CX0 k fa fd [x] sp)
    (hbind : ∀ (s : Shared) (u : Value), BindsTo s fd ⟨[u], []⟩ [(x, u)])
    (H : Hp) (hO : Only H) (hQ : sp [.ref a] H (fun v _ => v = .bl true) (fun _ _ _ => False)) (hok : HOk P w H s1.heap)
    (hA : ∀ b, H b ≠ none → b = a) (hK : H a ≠ none → K.lookup a = none) :
    codeAny (model P w) callerA (.call (.ref fa) ⟨[.ref a], []⟩)
      (fun r s' => r = .ok (.ret (.bool true)) ∧ PySem.OldK s1.heap s'.heap ∧ s'.os = s1.os ∧ AllBare s'.gens) s1 := by
  have inB : ∀ {b : Addr} {o : Obj}, s1.heap.get? b = some o → H b = none → (hidT s1.heap H).get? b = some o :=
    fun q n => hidT_get q n
  -- a namespace is no list
  have dictOut : ∀ {b : Addr} {o : Obj} {es : Array DictEntry} {ep : Nat}, s1.heap.get? b = some o → o.data = .dict es ep → H b = none := by
    intro b o es ep q dd
    by_cases z : H b = none
    · exact z
    · have eb := hA b z
      subst eb
      rw [ha] at q
      cases q
      cases (show Data.seq vs.toArray _ = Data.dict es ep from dd)
  have nsB : ∀ {b : Addr} {m : Str → Option Value}, s1.heap.Ns b m → (hidT s1.heap H).Ns b m := by
    rintro b m ⟨o, es, ep, q, dd, r⟩
    exact ⟨o, es, ep, inB q (dictOut q dd), dd, r⟩
  have kB : K.In (hidT s1.heap H) := by
    intro b o q
    refine inB (KX b o q) ?_
    by_cases z : H b = none
    · exact z
    · have eb := hA b z
      subst eb
      rw [hK z] at q
      cases q
  have limB : (hidT s1.heap H).NoLimit := by
    obtain ⟨mc, h1, h2⟩ := lim
    exact ⟨mc, nsB h1, h2⟩
  have e0 : Env0 P w K mg (hidT s1.heap H) callerA [] s1 H := by
    refine ⟨rfl, ⟨kB, nsB hns, ⟨mb, nsB hb, hbb⟩, limB⟩, fun b o q => of_hidT q, Nat.le_of_eq (hidT_size _ _), trivial, ?_, hok, .of_eq hg⟩
    intro b q
    cases (show b ∈ ([] : List Addr) from q)
  have c := (F _ kB (nsB hns)).go callerA [] s1 H ⟨[.ref a], []⟩ [.ref a] [.ref a] _ _ hr rfl e0 (hbind s1 (.ref a)) (.cons rfl .nil) hQ
  refine codeAny_mono c ?_
  intro r s' h
  cases r with
  | error e => exact h.elim
  | ok fl =>
    cases fl with
    | next => exact h.elim
    | brk => exact h.elim
    | cont => exact h.elim
    | ret u =>
      obtain ⟨v, H', os, bare, un, hok', rv, q⟩ := h
      have qv : v = .bl true := q
      subst qv
      obtain rfl : u = Value.bool true := rv
      refine ⟨rfl, PySem.OldK.of_keep ?_, os, bare⟩
      intro b o q
      cases z : H b with
      | none =>
        refine un.keep b o q z ?_ ?_
        · intro y
          cases (show b ∈ ([] : List Addr) from y)
        · intro y
          cases y
      | some u =>
        cases hO b with
        | inl y => rw [z] at y; cases y
        | inr y =>
          obtain ⟨ob, xs, y⟩ := y
          have y2 := un.frzs b ob _ y
          have g1 : s1.heap.get? b = some ob := (hok b _ y).1
          have g2 : s'.heap.get? b = some ob := (hok' b _ y2).1
          rw [q] at g1
          cases g1
          exact g2
theorem law_to (KX : K.In s1.heap) (hns : s1.heap.Ns mainGlobals mg) (hb : s1.heap.Ns builtinsNs mb)
    (hbb : ∀ x : Str, x ≠ "__name__" → mb x = bootBuiltins x) (lim : s1.heap.NoLimit) (hg : s1.gens = #[])
    (ha : s1.heap.get? a = some { cls := .type "list", data := .seq vs.toArray }) (hi : IntsAre vs ns) (hl : ns.length ≤ sizeLine) (hr : Room k callerA)
    (F : ∀ base : Heap, K.In base → base.Ns mainGlobals mg → FnG P w K mg base CX0 k fa fd [x] sp)
    (hbind : ∀ (s : Shared) (u : Value), BindsTo s fd ⟨[u], []⟩ [(x, u)])
    (hsp : ∀ H : Hp, Only H → SqL K H a (ns.map V.int) → sp [.ref a] H (fun v _ => v = .bl true) (fun _ _ _ => False)) :
    codeAny (model P w) callerA (.call (.ref fa) ⟨[.ref a], []⟩)
      (fun r s' => r = .ok (.ret (.bool true)) ∧ PySem.OldK s1.heap s'.heap ∧ s'.os = s1.os ∧ AllBare s'.gens) s1 := by
  have rv : Vals (ns.map V.int) vs := vals_of_ints hi
  have n1 : vs.length = ns.length := hi.length
  cases hk : K.lookup a with
  | some o =>
    have q := KX a o hk
    rw [ha] at q
    cases q
    have sq : SqL K (fun _ => none) a (ns.map V.int) := by
      refine Or.inr ⟨_, vs.toArray, _, hk, rfl, rfl, rfl, ?_, ?_⟩
      · rw [List.size_toArray, n1]
        exact hl
      · simpa using rv
    refine law_from KX hns hb hbb lim hg ha hr F hbind (fun _ => none) (fun _ => .inl rfl) (hsp _ (fun _ => .inl rfl) sq) ?_ ?_ ?_
    · intro b u z
      cases (show (none : Option HO) = some u from z)
    · intro b z
      exact absurd rfl z
    · intro z
      exact absurd rfl z
  | none =>
    let o1 : Obj := { cls := .type "list", data := .seq vs.toArray }
    let H0 : Hp := fun b => if b = a then some (.frz o1 (.lst (ns.map V.int))) else none
    have at1 : H0 a = some (.frz o1 (.lst (ns.map V.int))) := if_pos rfl
    have out1 : ∀ b, b ≠ a → H0 b = none := fun b n => if_neg n
    have only : Only H0 := by
      intro b
      by_cases z : b = a
      · rw [z]
        exact .inr ⟨_, _, at1⟩
      · exact .inl (out1 b z)
    refine law_from KX hns hb hbb lim hg ha hr F hbind H0 only (hsp _ only (.inl (.inr ⟨o1, at1⟩))) ?_ ?_ (fun _ => hk)
    · intro b u z
      by_cases y : b = a
      · subst y
        rw [at1] at z
        cases z
        refine ⟨ha, ?_, vs, _, rv, ha⟩
        rw [List.length_map]
        exact hl
      · rw [out1 b y] at z
        cases z
    · intro b z
      by_cases y : b = a
      · exact y
      · exact absurd (out1 b y) z
end
/-- the goal that the head leaves, from the guarded promise of the law -/
theorem walkG {l : PySem.W.OpenLaw} {n k : Nat} {q : Program} {loose : List Str} {XP : (Str → Option Value) → Heap → Prop} {YP : World → Heap → Prop}
    {d : DefRec} {K : Params → PySem.W.Frag} {CX : World → CXT} {sp : World → Sp} {x : Str}
    (hn : l.most = some n) (hn2 : n ≤ sizeLine) (hdf : d.params.defaults = []) (hr : Room k callerA)
    (hY : ∀ (w : World) (h : Heap), YP w h → (K w.params).In h)
    (F : ∀ (w : World) (mg : Str → Option Value) (fa : Addr) (h : Heap), (K w.params).In h → h.Ns mainGlobals mg → mg d.name = some (.ref fa) →
      ∃ fd : FuncData, (∀ (s : Shared) (u : Value), BindsTo s fd ⟨[u], []⟩ [(x, u)]) ∧
        ∀ base : Heap, (K w.params).In base → base.Ns mainGlobals mg → FnG l.prog w (K w.params) mg base CX0 k fa fd [x] (sp w))
    (hsp : ∀ (w : World) (H : Hp) (a : Addr) (ns : List Int), ns.length ≤ n → Only H → SqL (K w.params) H a (ns.map V.int) →
      sp w [.ref a] H (fun v _ => v = .bl true) fun _ _ _ => False)
    (_hCX : ∀ (w : World) (H : Hp) (s : Shared) (e : Value) (s' : Shared), CX w [] H s (fun _ _ _ => False) e s' → CX w [] H s (fun _ _ _ => False) e s') :
    PySem.W.WalkO q loose XP YP l.row.toRowW d [] (fun f vs => PySem.call f vs) := by
  refine Att.attach_call hn hdf ?_
  intro w s0 s1 mg mb fa o pm cd doc a vs ns G Y ho hd hcd hmg hobj hints hlen hg
  have KX := hY w _ Y
  obtain ⟨fd, hb, hF⟩ := F w mg fa _ KX G.T.g hmg
  exact law_to KX G.T.g G.T.b G.T.builtins G.T.nolimit hg hobj hints (Nat.le_trans hlen hn2) hr hF hb (fun H hO hS => hsp w H a ns hlen hO hS)
end Ws

set_option Elab.async false
set_option linter.all false
set_option maxRecDepth 100000
set_option maxHeartbeats 4000000
namespace Ws
open PySem PySem.Spec PyProof.Rows L2
/-! ### heaps: all but one object that changes -/
def cut (J : Addr) (H : Hp) : Hp := fun b => if b = J then none else H b
theorem cut_at {J : Addr} {H : Hp} : cut J H J = none := if_pos rfl
theorem cut_ne {J b : Addr} {H : Hp} (h : b ≠ J) : cut J H b = H b := if_neg h
theorem cut_some {J b : Addr} {H : Hp} {o : HO} (h : cut J H b = some o) : b ≠ J ∧ H b = some o := by
  by_cases e : b = J
  · rw [e, cut_at] at h
    cases h
  · rw [cut_ne e] at h
    exact ⟨e, h⟩
theorem cut_sub {J : Addr} {H : Hp} : Same (cut J H) H := fun _ _ h => (cut_some h).2
theorem cut_mono {J : Addr} {H H' : Hp} (s : Same H H') : Same (cut J H) (cut J H') := fun b o h => by
  obtain ⟨n, e⟩ := cut_some h
  rw [cut_ne n]
  exact s b o e
/-- all but the object at J stands as it stood -/
def Fr (J : Addr) (H H' : Hp) : Prop := Same (cut J H) (cut J H')
theorem Fr.refl {J : Addr} {H : Hp} : Fr J H H := Same.refl _
theorem Fr.trans {J : Addr} {H H1 H2 : Hp} (a : Fr J H H1) (b : Fr J H1 H2) : Fr J H H2 := Same.trans a b
theorem Fr.of {J : Addr} {H H' : Hp} (s : Same H H') : Fr J H H' := cut_mono s
theorem Fr.put {J : Addr} {H H' : Hp} {o : HO} (s : Fr J H H') : Fr J H (upd H' J o) := fun b u h => by
  have h1 := s b u h
  obtain ⟨n, e⟩ := cut_some h1
  rw [cut_ne n, upd_ne n]
  exact e
theorem cut_none {J p : Addr} {H : Hp} (h : H p = none) : cut J H p = none := by
  unfold cut
  split
  · rfl
  · exact h
theorem Fr.free {J p : Addr} {H H' : Hp} (s : Fr J H H') (h : H' p = none) (n : p ≠ J) : H p = none := by
  cases z : H p with
  | none => rfl
  | some o =>
    have e := s p o (by rw [cut_ne n]; exact z)
    rw [cut_ne n, h] at e
    cases e
theorem Fr.mut {J p : Addr} {H H' : Hp} {o : HO} (s : Fr J H H') (h : H p = none) : Fr J H (upd H' p o) := fun b u e => by
  have e2 := s b u e
  have n : b ≠ p := ne_of_none e (cut_none h)
  have m := (cut_some e2).1
  rw [cut_ne m] at e2 ⊢
  rw [upd_ne n]
  exact e2
theorem Fr.get {J p : Addr} {H H' : Hp} {o : HO} (s : Fr J H H') (n : p ≠ J) (h : H p = some o) : H' p = some o := (cut_some (s p o (by rw [cut_ne n]; exact h))).2
theorem Same.new {H : Hp} {p : Addr} {o : HO} (h : H p = none) : Same H (upd H p o) := fun b u e => by
  rw [upd_ne (ne_of_none e h)]
  exact e
/-- an object that H does not know may change -/
theorem Same.mut {H H' : Hp} {p : Addr} {o : HO} (s : Same H H') (h : H p = none) : Same H (upd H' p o) := fun b u e => by
  rw [upd_ne (ne_of_none e h)]
  exact s b u e
theorem SqL.up {K : PySem.W.Frag} {J a : Addr} {H H' : Hp} {xs : List V} (s : Fr J H H') (h : SqL K (cut J H) a xs) : SqL K (cut J H') a xs := Same.seq s h
theorem SqL.in {K : PySem.W.Frag} {J a : Addr} {H : Hp} {xs : List V} (h : SqL K (cut J H) a xs) : SqL K H a xs := Same.seq cut_sub h
/-! ### the jar of drawn digits -/
/-- the jar at J: what is left of the cell, the mixing number, how often it was mixed (at most n times) -/
def Jar (H : Hp) (J : Addr) (n : Int) : Prop := ∃ a b c : Int, H J = some (.lst [.int a, .int b, .int c]) ∧ 0 ≤ a ∧ 0 ≤ b ∧ b < 2 ^ 300 ∧ 0 ≤ c ∧ c ≤ n
theorem Jar.mono {H : Hp} {J : Addr} {n m : Int} (h : Jar H J n) (l : n ≤ m) : Jar H J m := by
  obtain ⟨a, b, c, h1, h2, h3, h4, h5, h6⟩ := h
  exact ⟨a, b, c, h1, h2, h3, h4, h5, by omega⟩
theorem Jar.same {H H' : Hp} {J : Addr} {n : Int} (h : Jar H J n) (s : Same H H') : Jar H' J n := by
  obtain ⟨a, b, c, h1, h2⟩ := h
  exact ⟨a, b, c, s _ _ h1, h2⟩
theorem Jar.new {H : Hp} {J p : Addr} {n : Int} {o : HO} (h : Jar H J n) (hp : H p = none) : Jar (upd H p o) J n := h.same (Same.new hp)
theorem Jar.ex {H : Hp} {J p : Addr} {n : Int} {o : HO} (h : Jar H J n) (hp : p ≠ J) : Jar (upd H p o) J n := by
  obtain ⟨a, b, c, h1, h2⟩ := h
  exact ⟨a, b, c, by rw [upd_ne hp.symm]; exact h1, h2⟩
theorem Jar.out {H : Hp} {J p : Addr} {n : Int} (h : Jar H J n) (hp : H p = none) : p ≠ J := by
  obtain ⟨a, b, c, h1, _⟩ := h
  exact (ne_of_none h1 hp).symm
theorem at0 {α : Type} {a b c : α} : atI [a, b, c] 0 = some a := rfl
theorem at1 {α : Type} {a b c : α} : atI [a, b, c] 1 = some b := rfl
theorem at2 {α : Type} {a b c : α} : atI [a, b, c] 2 = some c := rfl
theorem lt_log {i : Int} {n : Nat} (hn : 0 < n) (h0 : 0 ≤ i) (h : i < 2 ^ n) : i.natAbs.log2 < n := by
  refine PySem.Flt.log2_lt_of hn ?_
  have e : ((2 ^ n : Nat) : Int) = (2 : Int) ^ n := by rw [Int.natCast_pow]; rfl
  omega
theorem powOk {i j : Int} {n : Nat} (h0 : 0 ≤ i) (h : i < 2 ^ n) (hn : 0 < n) (hb : n ≤ 2000000) (j0 : 0 ≤ j) (j1 : j ≤ 60) : PowOk i j := ⟨j0, j1, by
  have := lt_log hn h0 h
  omega⟩
theorem mulOk {i j : Int} {n m : Nat} (h0 : 0 ≤ i) (h : i < 2 ^ n) (hn : 0 < n) (j0 : 0 ≤ j) (hj : j < 2 ^ m) (hm : 0 < m) (hb : n + m ≤ 1000000) : CMulW i j := by
  have a := lt_log hn h0 h
  have b := lt_log hm j0 hj
  unfold CMulW
  omega
theorem divOk {i j : Int} {n : Nat} (h0 : 0 < j) (h : j < 2 ^ n) (hn : 0 < n) (hb : n ≤ 9000) : CDivW i j := ⟨h0, by
  have := lt_log hn (by omega) h
  omega⟩
/-- one digit -/
def spDip : Sp := fun vs H Q _ => ∃ (J : Addr) (m n : Int), vs = [.ref J, .int m] ∧ Jar H J n ∧ n ≤ 1000000000 ∧ 0 < m ∧ m < 2 ^ 8000 ∧
  ∀ H' d, Fr J H H' → Jar H' J (n + 1) → 0 ≤ d → d < m → Q (.int d) H'
end Ws

set_option Elab.async false
set_option linter.all false
set_option maxRecDepth 100000
set_option maxHeartbeats 4000000
namespace Ws
open PySem PySem.Spec PyProof.Rows L2
def spJar (K : PySem.W.Frag) : Sp := fun vs H Q _ => ∃ (a : Addr) (ns : List Int) (k : Int), vs = [.ref a, .int k] ∧ SqL K H a (ns.map V.int) ∧ 0 ≤ k ∧ k ≤ 1000 ∧
  ∀ H' p, Same H H' → H p = none → Jar H' p 0 → Q (.ref p) H'
/-! ### sums over a window -/
def wsums (ns : List Int) (k : Nat) : List Int := (List.range (ns.length + 1 - k)).map fun j => ((ns.drop j).take k).sum
theorem wsums_len (ns : List Int) (k : Nat) : (wsums ns k).length = ns.length + 1 - k := by
  unfold wsums
  rw [List.length_map, List.length_range]
theorem wsums_get {ns : List Int} {k j : Nat} (h : j < ns.length + 1 - k) : (wsums ns k)[j]? = some (((ns.drop j).take k).sum) := by
  unfold wsums
  rw [List.getElem?_map, List.getElem?_range h]
  rfl
theorem take_next {α : Type} {l : List α} {i : Nat} {x : α} (h : l[i]? = some x) : l.take (i + 1) = l.take i ++ [x] := by
  rw [List.take_add_one, h]
  rfl
theorem sum_snoc (l : List Int) (x : Int) : (l ++ [x]).sum = l.sum + x := by
  rw [List.sum_append_int]
  simp
theorem win_next {ns : List Int} {i t : Nat} {x : Int} (h : ns[i + t]? = some x) : ((ns.drop i).take (t + 1)).sum = ((ns.drop i).take t).sum + x := by
  have e : (ns.drop i)[t]? = some x := by
    rw [List.getElem?_drop]
    exact h
  rw [take_next e, sum_snoc]
theorem map_take_snoc {ns : List Int} {i : Nat} {x : Int} (h : ns[i]? = some x) : (ns.take (i + 1)).map V.int = (ns.take i).map V.int ++ [V.int x] := by
  rw [take_next h, List.map_append]
  rfl
theorem at_int {ns : List Int} {z : Int} {j : Nat} {x : Int} (e : z = (j : Int)) (h : ns[j]? = some x) : atI (ns.map V.int) z = some (.int x) := by
  refine at_of e ?_
  rw [List.getElem?_map, h]
  rfl
def spSums (K : PySem.W.Frag) : Sp := fun vs H Q _ => ∃ (a : Addr) (ns : List Int) (k : Int), vs = [.ref a, .int k] ∧ SqL K H a (ns.map V.int) ∧
  1 ≤ k ∧ k ≤ ns.length ∧ ns.length ≤ 1000 ∧
  ∀ H' p, Same H H' → H p = none → H' p = some (.lst ((wsums ns k.toNat).map V.int)) → Q (.ref p) H'
/-! ### drawn numbers -/
/-- all ints of a list within bounds -/
def Btw (lo hi : Int) (ns : List Int) : Prop := ∀ x ∈ ns, lo ≤ x ∧ x ≤ hi
theorem Btw.nil {lo hi : Int} : Btw lo hi [] := fun _ h => by cases h
theorem Btw.snoc {lo hi : Int} {ns : List Int} {x : Int} (h : Btw lo hi ns) (h0 : lo ≤ x) (h1 : x ≤ hi) : Btw lo hi (ns ++ [x]) := fun y hy => by
  rcases List.mem_append.mp hy with z | z
  · exact h y z
  · rw [List.mem_singleton.mp z]
    exact ⟨h0, h1⟩
def spDays : Sp := fun vs H Q _ => ∃ (J : Addr) (m t n : Int), vs = [.ref J, .int m, .int t] ∧ Jar H J n ∧ n ≤ 900000000 ∧ 0 ≤ m ∧ m ≤ 1000 ∧ 0 ≤ t ∧ t < 2 ^ 200 ∧
  ∀ H' p ns, Fr J H H' → Jar H' J (n + 2 * m + 1) → H p = none → H' p = some (.lst (ns.map V.int)) → ns.length = m.toNat → Btw 0 t ns → Q (.ref p) H'
def spTop : Sp := fun vs H Q _ => ∃ (J : Addr) (n : Int), vs = [.ref J] ∧ Jar H J n ∧ n ≤ 900000000 ∧
  ∀ H' t, Fr J H H' → Jar H' J (n + 2) → 0 ≤ t → t < 10 ^ 30 → Q (.int t) H'
def spHigh : Sp := fun vs H Q _ => ∃ (J : Addr) (q n : Int), vs = [.ref J, .int q] ∧ Jar H J n ∧ n ≤ 900000000 ∧ 1 ≤ q ∧ q ≤ 1000 ∧
  ∀ H' t, Fr J H H' → Jar H' J (n + 2) → 0 ≤ t → t < 10 ^ 30 → (t ≤ 10 ^ 6 ∨ t * q < 10 ^ 30) → Q (.int t) H'
def spSize : Sp := fun vs H Q _ => ∃ (J : Addr) (m n : Int), vs = [.ref J, .int m] ∧ Jar H J n ∧ n ≤ 900000000 ∧ 8 ≤ m ∧ m ≤ 1000 ∧
  ∀ H' p (k c : Int), Fr J H H' → Jar H' J (n + 2) → H p = none → H' p = some (.tup [.int k, .int c]) → 1 ≤ k → k ≤ 8 → k ≤ c → c ≤ m → Q (.ref p) H'
end Ws

set_option Elab.async false
set_option linter.all false
set_option maxRecDepth 100000
set_option maxHeartbeats 4000000
namespace Ws
open PySem PySem.Spec PyProof.Rows L2
/-! ### rules that speak of the written part by its own name -/
section
variable {X : Cx} {K : PySem.W.Frag}
theorem ixL (h : X.K = K := by rfl) : IxR X (rIxL K) := by
  subst h
  exact ix_list
theorem ixT (h : X.K = K := by rfl) : IxR X (rIxT K) := by
  subst h
  exact ix_tup
def rLen1 (K : PySem.W.Frag) : List V → Hp → VK → Prop := fun xs H Q => ∃ p ys, xs = [.ref p] ∧ SqL K H p ys ∧ Q (.int ys.length) H
theorem lenL (h : X.K = K := by rfl) : CallR X (.builtin "len") (rLen1 K) := by
  subst h
  intro pins s σ H xs us Q I r q
  obtain ⟨p, ys, e, h1, q⟩ := q
  exact call_len_seq pins s σ H xs us Q I r ⟨p, ys, e, .inl h1, q⟩
theorem sumL (hc : X.calm = true) (h : X.K = K := by rfl) : CallR X (.builtin "sum") (rSum K) := by
  subst h
  exact cr_sum hc
theorem allL (hc : X.calm = true) (h : X.K = K := by rfl) : CallR X (.builtin "all") (rAll K) := by
  subst h
  exact cr_all hc
theorem anyL (hc : X.calm = true) (h : X.K = K := by rfl) : CallR X (.builtin "any") (rAny K) := by
  subst h
  exact cr_any hc
theorem maxL (hc : X.calm = true) (h : X.K = K := by rfl) : CallR X (.builtin "max") (rMax K) := by
  subst h
  exact cr_max hc
theorem minL (hc : X.calm = true) (h : X.K = K := by rfl) : CallR X (.builtin "min") (rMin K) := by
  subst h
  exact cr_min hc
theorem sortL (h : X.K = K := by rfl) : CallR X (.builtin "sorted") (rSortedI K) := by
  subst h
  exact cr_sortedI
theorem reprL (hg : X.A.guards = some []) (hu : X.A.units + 64 < cLine) (h : X.K = K := by rfl) : CallR X (.builtin "repr") (rRepr K) := by
  subst h
  exact call_reprD hg hu
def rList1 (K : PySem.W.Frag) : List V → Hp → VK → Prop := fun xs H Q => ∃ p ys, xs = [.ref p] ∧ SqL K H p ys ∧ ∀ l, H l = none → Q (.ref l) (upd H l (.lst ys))
theorem listL (h : X.K = K := by rfl) : CallR X (.type "list") (rList1 K) := by
  subst h
  intro pins s σ H xs us Q I r q
  obtain ⟨p, ys, e, h1, q⟩ := q
  exact call_list_of pins s σ H xs us Q I r ⟨p, ys, e, .inl h1, q⟩
def rTup1 (K : PySem.W.Frag) : List V → Hp → VK → Prop := fun xs H Q => ∃ p ys, xs = [.ref p] ∧ SqL K H p ys ∧ ∀ l, H l = none → Q (.ref l) (upd H l (.tup ys))
theorem tupL (h : X.K = K := by rfl) : CallR X (.type "tuple") (rTup1 K) := by
  subst h
  intro pins s σ H xs us Q I r q
  obtain ⟨p, ys, e, h1, q⟩ := q
  exact call_tuple_of pins s σ H xs us Q I r ⟨p, ys, e, .inl ⟨h1, q⟩⟩
def rInt1 : List V → Hp → VK → Prop := fun xs H Q => ∃ i, xs = [.int i] ∧ Q (.int i) H
theorem intI : CallR X (.type "int") rInt1 := by
  intro pins s σ H xs us Q I r q
  exact call_int1 pins s σ H xs us Q I r (.inl q)
def rIntB : List V → Hp → VK → Prop := fun xs H Q => ∃ k, xs = [.bl k] ∧ Q (.int (if k then 1 else 0)) H
theorem intB : CallR X (.type "int") rIntB := by
  intro pins s σ H xs us Q I r q
  exact call_int1 pins s σ H xs us Q I r (.inr q)
theorem typL (h : X.K = K := by rfl) : CallR X (.type "type") (rTyp K) := by
  subst h
  exact call_type1
theorem isiL (h : X.K = K := by rfl) : CallR X (.builtin "isinstance") (rIsi K) := by
  subst h
  exact call_isi
theorem slL (h : X.K = K := by rfl) : SlR X (rSlL K) := by
  subst h
  exact sl_list
theorem slT (h : X.K = K := by rfl) : SlR X (rSlT K) := by
  subst h
  exact sl_tup
theorem eqL (hu : X.A.units + 64 < cLine) (h : X.K = K := by rfl) : OpR X (compareOp .Eq) (rEqD K) := by
  subst h
  exact op_eqD hu
theorem neL (hu : X.A.units + 64 < cLine) (h : X.K = K := by rfl) : OpR X (compareOp .NotEq) (rNeD K) := by
  subst h
  exact op_neD hu
theorem inL (h : X.K = K := by rfl) : OpR X (compareOp .In) (rIn K false) := by
  subst h
  exact op_in_seq
theorem niL (h : X.K = K := by rfl) : OpR X (compareOp .NotIn) (rIn K true) := by
  subst h
  exact op_notIn_seq
theorem piL {tg l : Expr} {tl : TE} (hl : PE X l tl) (h : X.K = K := by rfl) : PI X tg l (iList K tl) := by
  subst h
  exact pi_list hl
theorem piT {tg l : Expr} {tl : TE} (hl : PE X l tl) (h : X.K = K := by rfl) : PI X tg l (iTup K tl) := by
  subst h
  exact pi_tup hl
theorem pgT {es : List Expr} {k : Nat} {t : TGs} {n : Nat} {pos : Pos} (hc : X.calm = true) (ht : PGs X es t) (h : X.K = K := by rfl)
    (hn : (assignEach es X.env).length = n := by rfl) (hst : (assignEach es X.env).findIdx? (·.1) = none := by rfl) : PG X (.Tuple es k pos) (gTup K n t) := by
  subst h
  exact pg_tup hc ht hn hst
theorem bmK {e : Expr} {ty : String} {r : V → List V → Hp → VK → Prop} {to : TE} {ta : TA} (b : PE X e (tBM X.K ty r to ta)) (h : X.K = K := by rfl) : PE X e (tBM K ty r to ta) := by
  subst h
  exact b
theorem bm0K {e : Expr} {ty : String} {r : V → List V → Hp → VK → Prop} {to : TE} (b : PE X e (tBM0 X.K ty r to)) (h : X.K = K := by rfl) : PE X e (tBM0 K ty r to) := by
  subst h
  exact b
end
end Ws

set_option Elab.async false
set_option linter.all false
set_option maxRecDepth 100000
set_option maxHeartbeats 4000000
namespace Ws
open PySem PySem.Spec PyProof.Rows L2
/-! ### whether a thing is an integer -/
def whole : V → Bool
  | .int _ => true
  | _ => false
/-- the type of x answers so -/
def Ti (K : PySem.W.Frag) (H : Hp) (x : V) (b : Bool) : Prop := ∃ (t : Value) (c d : Bool), TyX K H x t ∧ PySem.W.kitOne K t (.type "int") = some c ∧
  (c = true → PySem.W.kitOne K t (.type "bool") = some d) ∧ b = (c && !d)
theorem Ti.int {K : PySem.W.Frag} {H : Hp} (i : Int) : Ti K H (.int i) true :=
  ⟨_, true, false, .base (.int i), kit_ty (by decide +kernel), fun _ => kit_ty (by decide +kernel), rfl⟩
theorem Ti.bl {K : PySem.W.Frag} {H : Hp} (i : Bool) : Ti K H (.bl i) false :=
  ⟨_, true, true, .base (.bl i), kit_ty (by decide +kernel), fun _ => kit_ty (by decide +kernel), rfl⟩
theorem Ti.no {K : PySem.W.Frag} {H : Hp} {x : V} {t : Value} (h : TyX K H x t) (e : PySem.W.kitOne K t (.type "int") = some false) : Ti K H x false :=
  ⟨t, false, false, h, e, (fun z => by cases z), rfl⟩
theorem Ti.non {K : PySem.W.Frag} {H : Hp} : Ti K H .non false := Ti.no (.base .non) (kit_ty (by decide +kernel))
theorem Ti.str {K : PySem.W.Frag} {H : Hp} (x : Str) : Ti K H (.str x) false := Ti.no (.base (.str x)) (kit_ty (by decide +kernel))
def spIsInt (K : PySem.W.Frag) : Sp := fun vs H Q _ => ∃ (x : V) (b : Bool), vs = [x] ∧ Ti K H x b ∧ Q (.bl b) H
def spWithin (K : PySem.W.Frag) : Sp := fun vs H Q _ => (∃ i lo hi : Int, vs = [.int i, .int lo, .int hi] ∧ Q (.bl (decide (lo ≤ i) && decide (i ≤ hi))) H) ∨
  ∃ (x : V) (lo hi : Int), vs = [x, .int lo, .int hi] ∧ Ti K H x false ∧ Q (.bl false) H
/-- a list of which each item is known to be an integer or not; else another thing -/
def spIsRow (K : PySem.W.Frag) : Sp := fun vs H Q _ => (∃ (a : Addr) (xs : List V), vs = [.ref a] ∧ SqL K H a xs ∧ xs.length ≤ 1000 ∧ (∀ x ∈ xs, ∀ H', Same H H' → Ti K H' x (whole x)) ∧
    ∀ H', Same H H' → Q (.bl (decide (1 ≤ xs.length) && decide (xs.length ≤ 67) && xs.all whole)) H') ∨
  ∃ (x : V) (t : String), vs = [x] ∧ TyB K H x t ∧ t ≠ "list" ∧ Q (.bl false) H
theorem all_int (ns : List Int) : (ns.map V.int).all whole = true := by
  rw [List.all_eq_true]
  intro x hx
  obtain ⟨i, _, rfl⟩ := List.mem_map.mp hx
  rfl
theorem ti_ints {K : PySem.W.Frag} {H : Hp} {ns : List Int} : ∀ x ∈ ns.map V.int, ∀ H', Same H H' → Ti K H' x (whole x) := by
  intro x hx H' _
  obtain ⟨i, _, rfl⟩ := List.mem_map.mp hx
  exact Ti.int i
/-! ### valid arguments alone -/
def spNumsOk (K : PySem.W.Frag) : Sp := fun vs H Q _ => ∃ (a : Addr) (ns : List Int) (k : Int), vs = [.ref a, .int k] ∧ SqL K H a (ns.map V.int) ∧
  1 ≤ k ∧ k ≤ 8 ∧ k ≤ ns.length ∧ ns.length ≤ 67 ∧ ∀ H', Same H H' → Q .non H'
def spSumsOk (K : PySem.W.Frag) : Sp := fun vs H Q _ => ∃ (a : Addr) (ss : List Int) (k : Int), vs = [.ref a, .int k] ∧ SqL K H a (ss.map V.int) ∧
  1 ≤ ss.length ∧ 1 ≤ k ∧ k ≤ 8 ∧ k + ss.length ≤ 68 ∧ ∀ H', Same H H' → Q .non H'
def spDayOk : Sp := fun vs H Q _ => ∃ d n : Int, vs = [.int d, .int n] ∧ 0 ≤ d ∧ d < n ∧ Q .non H
def spSumsOf (K : PySem.W.Frag) : Sp := fun vs H Q _ => ∃ (a : Addr) (ns : List Int) (k : Int), vs = [.ref a, .int k] ∧ SqL K H a (ns.map V.int) ∧
  1 ≤ k ∧ k ≤ 8 ∧ k ≤ ns.length ∧ ns.length ≤ 67 ∧
  ∀ H' p, Same H H' → H p = none → H' p = some (.lst ((wsums ns k.toNat).map V.int)) → Q (.ref p) H'
def spRowSums (K : PySem.W.Frag) : Sp := fun vs H Q _ => ∃ (a : Addr) (ns : List Int) (k : Int), vs = [.ref a, .int k] ∧ SqL K H a (ns.map V.int) ∧
  1 ≤ k ∧ k ≤ 8 ∧ k ≤ ns.length ∧ ns.length ≤ 1000 ∧
  ∀ H' p, Same H H' → H p = none → H' p = some (.lst ((wsums ns k.toNat).map V.int)) → Q (.ref p) H'
def spDaysOf (K : PySem.W.Frag) : Sp := fun vs H Q _ => ∃ (a : Addr) (ss : List Int) (k : Int), vs = [.ref a, .int k] ∧ SqL K H a (ss.map V.int) ∧
  1 ≤ ss.length ∧ 1 ≤ k ∧ k ≤ 8 ∧ k + ss.length ≤ 68 ∧ ∀ H', Same H H' → Q (.int (ss.length + k - 1)) H'
/-- the days of one remainder below n -/
def tied (r k n : Int) : List Int := (List.range ((n - r - 1) / k + 1).toNat).map fun m => r + (m : Nat) * k
def spTied (K : PySem.W.Frag) : Sp := fun vs H Q _ => ∃ (a : Addr) (ss : List Int) (k d : Int), vs = [.ref a, .int k, .int d] ∧ SqL K H a (ss.map V.int) ∧
  1 ≤ ss.length ∧ 1 ≤ k ∧ k ≤ 8 ∧ k + ss.length ≤ 68 ∧ 0 ≤ d ∧ d < ss.length + k - 1 ∧
  ∀ H' p, Same H H' → H p = none → H' p = some (.lst ((tied (d % k) k (ss.length + k - 1)).map V.int)) → Q (.ref p) H'
theorem cut_window (ns : List Int) (i k : Nat) : cutV (ns.map V.int) (some (i : Int)) (some ((i + k : Nat) : Int)) = ((ns.drop i).take k).map V.int := by
  unfold cutV
  rw [HT.sIx_nat, HT.sIx_nat, List.length_map, List.map_take, List.map_drop]
  by_cases h : i ≤ ns.length
  · rw [Nat.min_eq_left h]
    by_cases h2 : i + k ≤ ns.length
    · rw [Nat.min_eq_left h2]
      congr 1
      omega
    · rw [Nat.min_eq_right (by omega)]
      rw [List.take_of_length_le (i := ns.length - i), List.take_of_length_le (i := k)]
      · rw [List.length_drop, List.length_map]; omega
      · rw [List.length_drop, List.length_map]; omega
  · have e1 : min i ns.length = ns.length := by omega
    have e2 : min (i + k) ns.length = ns.length := by omega
    rw [e1, e2, Nat.sub_self, List.drop_of_length_le (i := i) (by rw [List.length_map]; omega)]
    simp
theorem rg_tied {r k n : Int} (h0 : 0 ≤ r) (hr : r < n) (hn : n ≤ 1000) (hk : 1 ≤ k) (hk8 : k ≤ 8) : RgC r n k ((n - r - 1) / k + 1).toNat := by
  have e : (0 : Int) ≤ (n - r - 1) / k := Int.ediv_nonneg (by omega) (by omega)
  refine ⟨by omega, by omega, ?_, ?_⟩
  · have hb : (n - r - 1) / k ≤ n - r - 1 := Int.ediv_le_self k (by omega)
    have h1 : (n - r - 1) / k * k ≤ n - r - 1 := Int.ediv_mul_le _ (by omega)
    have fit : ∀ x : Int, -100000 ≤ x → x ≤ 100000 → Builtin.Range.rangeFitsLong x = true := fun x a b => by
      unfold Builtin.Range.rangeFitsLong
      simp only [Bool.and_eq_true, decide_eq_true_eq]
      omega
    unfold Builtin.Range.small
    have es : Builtin.Range.rangeSize r n k = (n - r - 1) / k + 1 := by
      unfold Builtin.Range.rangeSize
      rw [if_pos (by omega), if_pos hr]
    rw [es, fit r (by omega) (by omega), fit n (by omega) (by omega), fit k (by omega) (by omega), fit _ (by omega) (by omega), if_pos (show k > 0 by omega), fit _ (by omega) (by omega)]
    simp
  · unfold Builtin.Range.rangeSize
    rw [if_pos (by omega), if_pos hr]
    omega
theorem rgC_tied (r k n : Int) : rgC r k ((n - r - 1) / k + 1).toNat = (tied r k n).map V.int := by
  unfold rgC tied
  rw [List.map_map]
  rfl
end Ws

set_option Elab.async false
set_option linter.all false
set_option maxRecDepth 100000
set_option maxHeartbeats 4000000
namespace Ws
open PySem PySem.Spec PyProof.Rows L2
/-! ### data that stand in a heap -/
mutual
theorem Dp.up {K : PySem.W.Frag} {H H' : Hp} (s : Same H H') : ∀ (d : PyData) (v : V), Dp K H v d → Dp K H' v d
  | .none, _, h => by cases h; exact .non
  | .bool _, _, h => by cases h; exact .bl _
  | .int _, _, h => by cases h; exact .int _
  | .str _, _, h => by cases h; exact .str _
  | .list ds, _, h => by
    cases h with
    | lst hs ha => exact .lst (Same.seq s hs) (DpAll.up s ds _ ha)
  | .tuple ds, _, h => by
    cases h with
    | tup hs ha => exact .tup (Evl.ex_t s hs) (DpAll.up s ds _ ha)
  | .dict _, _, h => by cases h
theorem DpAll.up {K : PySem.W.Frag} {H H' : Hp} (s : Same H H') : ∀ (ds : List PyData) (vs : List V), DpAll K H vs ds → DpAll K H' vs ds
  | [], _, h => by cases h; exact .nil
  | d :: ds, _, h => by
    cases h with
    | cons h1 h2 => exact .cons (Dp.up s d _ h1) (DpAll.up s ds _ h2)
end
theorem DpAll.ints {K : PySem.W.Frag} {H : Hp} : ∀ ns : List Int, DpAll K H (ns.map V.int) (ns.map PyData.int)
  | [] => .nil
  | n :: r => .cons (.int n) (DpAll.ints r)
theorem DpAll.strs {K : PySem.W.Frag} {H : Hp} : ∀ ns : List Str, DpAll K H (ns.map V.str) (ns.map PyData.str)
  | [] => .nil
  | n :: r => .cons (.str n) (DpAll.strs r)
abbrev dI (ns : List Int) : PyData := .list (ns.map PyData.int)
theorem Dp.ints {K : PySem.W.Frag} {H : Hp} {a : Addr} {ns : List Int} (h : SqL K H a (ns.map V.int)) : Dp K H (.ref a) (dI ns) := .lst h (DpAll.ints ns)
/-! ### how long a text of data is -/
mutual
def cst : PyData → Nat
  | .none => 8
  | .bool _ => 8
  | .int i => i.natAbs.log2 + 3
  | .str x => (reprText x).length
  | .list xs => cstA xs + 4
  | .tuple xs => cstA xs + 4
  | .dict _ => 0
def cstA : List PyData → Nat
  | [] => 0
  | x :: xs => cst x + 2 + cstA xs
end
theorem str_len_of (s : String) (h : s.length ≤ 8) : (Str.ofString s).length ≤ 8 := by
  rw [PySem.ofString_length]
  exact h
mutual
theorem shown_cst : ∀ d : PyData, d.hasDict = false → d.shown.length ≤ cst d
  | .none, _ => by
    rw [PyData.shown_none]
    show _ ≤ 8
    decide +kernel
  | .bool b, _ => by
    rw [PyData.shown_bool]
    show _ ≤ 8
    cases b <;> decide +kernel
  | .int i, _ => by
    rw [PyData.shown_int]
    show (Str.ofString (toString i)).length ≤ i.natAbs.log2 + 3
    rw [PySem.ofString_length]
    have := int_text_length_le (a := i) (k := i.natAbs.log2 + 1) (by omega) (by omega)
    omega
  | .str x, _ => by
    rw [PyData.shown_str]
    exact Nat.le_refl _
  | .list xs, h => by
    have h1 : PyData.hasDictAll xs = false := by simpa only [PyData.hasDict] using h
    have h2 := shownAll_cst xs h1
    have h3 := listText_len_le (PyData.shownAll xs)
    rw [PyData.shown_list, ← listText_eq_join]
    rw [PyData.shownAll_length] at h3
    show _ ≤ cstA xs + 4
    omega
  | .tuple xs, h => by
    have h1 : PyData.hasDictAll xs = false := by simpa only [PyData.hasDict] using h
    have h2 := shownAll_cst xs h1
    have h3 := tupleText_len_le (PyData.shownAll xs)
    have e : (PyData.tuple xs).shown = tupleText (PyData.shownAll xs) := by simp only [PyData.shown]
    rw [e]
    rw [PyData.shownAll_length] at h3
    show _ ≤ cstA xs + 4
    omega
  | .dict _, h => by simp [PyData.hasDict] at h
theorem shownAll_cst : ∀ xs : List PyData, PyData.hasDictAll xs = false → ((PyData.shownAll xs).map (·.length)).sum + 2 * xs.length ≤ cstA xs
  | [], _ => by
    rw [PyData.shownAll_nil]
    exact Nat.le_refl _
  | x :: xs, h => by
    have h1 : PyData.hasDict x = false ∧ PyData.hasDictAll xs = false := by simpa only [PyData.hasDictAll, Bool.or_eq_false_iff] using h
    have a := shown_cst x h1.1
    have b := shownAll_cst xs h1.2
    rw [PyData.shownAll_cons, List.map_cons, List.sum_cons, List.length_cons]
    show _ ≤ cst x + 2 + cstA xs
    omega
end
theorem shw_of {d : PyData} (h1 : d.showable = true) (h2 : d.hasDict = false) (h3 : cst d ≤ 10000000) (h4 : d.depth ≤ 60) : Shw d :=
  ⟨h1, Nat.le_trans (shown_cst d h2) (Nat.le_trans h3 (by rw [sizeLine_eq]; decide)), h4⟩
theorem hasDict_ints : ∀ ns : List Int, PyData.hasDictAll (ns.map PyData.int) = false
  | [] => by simp only [List.map_nil, PyData.hasDictAll]
  | n :: r => by
    rw [List.map_cons]
    simp only [PyData.hasDictAll, PyData.hasDict, hasDict_ints r]
    rfl
theorem depth_ints : ∀ ns : List Int, PyData.depthAll (ns.map PyData.int) = 0
  | [] => by simp only [List.map_nil, PyData.depthAll]
  | n :: r => by
    rw [List.map_cons]
    simp only [PyData.depthAll, PyData.depth, depth_ints r]
    rfl
theorem cst_ints {B : Nat} : ∀ ns : List Int, (∀ n ∈ ns, n.natAbs.log2 < B) → cstA (ns.map PyData.int) ≤ ns.length * (B + 5)
  | [], _ => Nat.zero_le _
  | n :: r, h => by
    have a := cst_ints r fun m hm => h m (List.mem_cons_of_mem _ hm)
    have b := h n List.mem_cons_self
    rw [List.map_cons, List.length_cons, Nat.add_mul, Nat.one_mul]
    show n.natAbs.log2 + 3 + 2 + cstA (r.map PyData.int) ≤ _
    omega
/-- all ints of a list below 2 ^ 1000 in size -/
def Sml (ns : List Int) : Prop := ∀ n ∈ ns, n.natAbs.log2 < 1000
theorem shw_ints {ns : List Int} (h : Sml ns) (hl : ns.length ≤ 1000) : Shw (dI ns) := by
  refine shw_of ?_ ?_ ?_ ?_
  · simp only [PyData.showable]
    exact PyData.showableAll_ints ns fun n hn => Nat.lt_trans (h n hn) (by decide)
  · simp only [PyData.hasDict]
    exact hasDict_ints ns
  · have := cst_ints ns h
    have e : ns.length * (1000 + 5) ≤ 1000 * 1005 := Nat.mul_le_mul hl (Nat.le_refl _)
    show cstA (ns.map PyData.int) + 4 ≤ _
    omega
  · show PyData.depthAll (ns.map PyData.int) + 1 ≤ 60
    rw [depth_ints]
    decide
theorem shw_int {n : Int} (h : n.natAbs.log2 < 1000) : Shw (.int n) := by
  refine shw_of ?_ rfl ?_ (by show 0 ≤ 60; decide)
  · simp only [PyData.showable]
    exact decide_eq_true (Nat.lt_trans h (by decide))
  · show n.natAbs.log2 + 3 ≤ _
    omega
theorem log_of {n : Int} {B : Nat} (hB : 0 < B) (h0 : -(2 ^ B) < n) (h1 : n < 2 ^ B) : n.natAbs.log2 < B := by
  refine PySem.Flt.log2_lt_of hB ?_
  have e : ((2 ^ B : Nat) : Int) = (2 : Int) ^ B := by rw [Int.natCast_pow]; rfl
  omega
theorem Sml.btw {lo hi : Int} {ns : List Int} (h : Btw lo hi ns) (h0 : -(2 ^ 1000) < lo) (h1 : hi < 2 ^ 1000) : Sml ns := fun n hn => by
  have := h n hn
  exact log_of (by decide) (by omega) (by omega)
/-! ### lists of ints compared -/
theorem eqvAll_ints : ∀ ns ms : List Int, PyData.eqvAll (ns.map PyData.int) (ms.map PyData.int) = decide (ns = ms)
  | [], [] => by simp [PyData.eqvAll]
  | [], m :: s => by simp [PyData.eqvAll]
  | n :: r, [] => by simp [PyData.eqvAll]
  | n :: r, m :: s => by
    rw [List.map_cons, List.map_cons, PyData.eqvAll, PyData.eqv, eqvAll_ints r s]
    rw [Bool.eq_iff_iff]
    simp
theorem eqv_ints (ns ms : List Int) : PyData.eqv (dI ns) (dI ms) = decide (ns = ms) := by
  rw [dI, dI, PyData.eqv, eqvAll_ints]
theorem shaped_ints (ns : List Int) : SeqAt.shaped (dI ns) = true := by
  unfold SeqAt.shaped
  have h1 : PyData.canLayAll0 (ns.map PyData.int) = true := by
    induction ns with
    | nil => simp [PyData.canLayAll0]
    | cons n r ih =>
      rw [List.map_cons]
      simp [PyData.canLayAll0, PyData.canLay0, ih]
  have h2 : (dI ns).depth = 1 := by
    show PyData.depthAll (ns.map PyData.int) + 1 = 1
    rw [depth_ints]
  have h3 : (dI ns).canLay0 = true := by simpa only [PyData.canLay0] using h1
  rw [h3, h2]
  rfl
end Ws

set_option Elab.async false
set_option linter.all false
set_option maxRecDepth 100000
set_option maxHeartbeats 4000000
namespace Ws
open PySem PySem.Spec PyProof.Rows L2
/-! ### mathematics of classes -/
theorem emod_le_self {d k : Int} (h : 0 ≤ d) (hk : 0 < k) : d % k ≤ d := by
  have h1 := Int.mul_ediv_add_emod d k
  have h2 : 0 ≤ k * (d / k) := Int.mul_nonneg (by omega) (Int.ediv_nonneg h (by omega))
  omega
theorem asc_ext : ∀ {xs ys : List Int}, xs.Pairwise (· < ·) → ys.Pairwise (· < ·) → (∀ z, z ∈ xs ↔ z ∈ ys) → xs = ys
  | [], [], _, _, _ => rfl
  | [], y :: s, _, _, h => by
    have := (h y).mpr List.mem_cons_self
    cases this
  | x :: r, [], _, _, h => by
    have := (h x).mp List.mem_cons_self
    cases this
  | x :: r, y :: s, hx, hy, h => by
    have hx1 := List.pairwise_cons.mp hx
    have hy1 := List.pairwise_cons.mp hy
    have e : x = y := by
      have a := (h x).mp List.mem_cons_self
      have b := (h y).mpr List.mem_cons_self
      rcases List.mem_cons.mp a with a | a
      · exact a
      · rcases List.mem_cons.mp b with b | b
        · exact b.symm
        · have := hx1.1 y b
          have := hy1.1 x a
          omega
    subst e
    have : r = s := by
      refine asc_ext hx1.2 hy1.2 fun z => ⟨fun a => ?_, fun a => ?_⟩
      · rcases List.mem_cons.mp ((h z).mp (List.mem_cons_of_mem _ a)) with b | b
        · have := hx1.1 z a
          omega
        · exact b
      · rcases List.mem_cons.mp ((h z).mpr (List.mem_cons_of_mem _ a)) with b | b
        · have := hy1.1 z a
          omega
        · exact b
    rw [this]
theorem pw_range_map {n : Nat} {f : Nat → Int} (h : ∀ i j, i < j → f i < f j) : ((List.range n).map f).Pairwise (· < ·) := by
  rw [List.pairwise_map]
  exact List.Pairwise.imp (fun q => h _ _ q) List.pairwise_lt_range
theorem tied_asc {r k n : Int} (hk : 1 ≤ k) : (tied r k n).Pairwise (· < ·) := by
  refine pw_range_map fun i j h => ?_
  have : ((i : Int) + 1) * k ≤ j * k := Int.mul_le_mul_of_nonneg_right (by omega) (by omega)
  rw [Int.add_mul] at this
  omega
theorem mem_tied {r k n z : Int} (h0 : 0 ≤ r) (hr : r < k) (hk : 1 ≤ k) (hn : r < n) : z ∈ tied r k n ↔ 0 ≤ z ∧ z < n ∧ z % k = r := by
  unfold tied
  rw [List.mem_map]
  have hd : (0 : Int) ≤ (n - r - 1) / k := Int.ediv_nonneg (by omega) (by omega)
  constructor
  · rintro ⟨m, hm, rfl⟩
    have hm2 := List.mem_range.mp hm
    have h1 : (m : Int) ≤ (n - r - 1) / k := by omega
    have h2 : (m : Int) * k ≤ (n - r - 1) / k * k := Int.mul_le_mul_of_nonneg_right h1 (by omega)
    have h3 : (n - r - 1) / k * k ≤ n - r - 1 := Int.ediv_mul_le _ (by omega)
    have h4 : 0 ≤ (m : Int) * k := Int.mul_nonneg (by omega) (by omega)
    refine ⟨by omega, by omega, ?_⟩
    rw [Int.add_mul_emod_self_right, Int.emod_eq_of_lt h0 hr]
  · rintro ⟨z0, zn, zr⟩
    have h1 := Int.mul_ediv_add_emod z k
    have h2 : 0 ≤ z / k := Int.ediv_nonneg z0 (by omega)
    refine ⟨(z / k).toNat, List.mem_range.mpr ?_, ?_⟩
    · have h3 : z / k * k ≤ n - r - 1 := by
        rw [Int.mul_comm]
        omega
      have h4 : z / k ≤ (n - r - 1) / k := (Int.le_ediv_iff_mul_le (by omega)).mpr h3
      omega
    · have h5 : ((z / k).toNat : Int) = z / k := by omega
      rw [h5, Int.mul_comm]
      omega
/-- the list of all days below n that a test takes -/
def picked (n : Nat) (p : Int → Bool) : List Int := ((List.range n).map fun (m : Nat) => (m : Int)).filter p
theorem picked_asc (n : Nat) (p : Int → Bool) : (picked n p).Pairwise (· < ·) := by
  unfold picked
  exact List.Pairwise.filter _ (pw_range_map (f := fun m => (m : Int)) fun i j h => Int.ofNat_lt.mpr h)
theorem mem_picked {n : Nat} {p : Int → Bool} {z : Int} : z ∈ picked n p ↔ 0 ≤ z ∧ z < n ∧ p z = true := by
  unfold picked
  rw [List.mem_filter, List.mem_map]
  constructor
  · rintro ⟨⟨m, hm, rfl⟩, h⟩
    have := List.mem_range.mp hm
    exact ⟨by omega, by omega, h⟩
  · rintro ⟨h0, h1, h2⟩
    exact ⟨⟨z.toNat, List.mem_range.mpr (by omega), by omega⟩, h2⟩
theorem picked_yes {i : Nat} {p : Int → Bool} (h : p (i : Int) = true) : picked (i + 1) p = picked i p ++ [(i : Int)] := by
  unfold picked
  rw [List.range_succ, List.map_append, List.filter_append]
  simp [h]
theorem picked_no {i : Nat} {p : Int → Bool} (h : p (i : Int) = false) : picked (i + 1) p = picked i p := by
  unfold picked
  rw [List.range_succ, List.map_append, List.filter_append]
  simp [h]
theorem picked_len (n : Nat) (p : Int → Bool) : (picked n p).length ≤ n := by
  unfold picked
  refine Nat.le_trans (List.length_filter_le _ _) ?_
  rw [List.length_map, List.length_range]
  exact Nat.le_refl _
theorem picked_tied {d k : Int} {n : Nat} (hk : 1 ≤ k) (d0 : 0 ≤ d) (dn : d < n) : picked n (fun m => decide ((m - d) % k = 0)) = tied (d % k) k n := by
  have r0 : 0 ≤ d % k := Int.emod_nonneg _ (by omega)
  have r1 : d % k < k := Int.emod_lt_of_pos _ (by omega)
  have r2 : d % k ≤ d := emod_le_self d0 (by omega)
  refine asc_ext (picked_asc _ _) (tied_asc hk) fun z => ?_
  rw [mem_picked, mem_tied r0 r1 hk (by omega), decide_eq_true_iff]
  refine and_congr_right fun _ => and_congr_right fun _ => ?_
  rw [← Int.emod_eq_emod_iff_emod_sub_eq_zero]
theorem sum_btw {lo hi : Int} (h0 : lo ≤ 0) (h1 : 0 ≤ hi) : ∀ {ns : List Int}, Btw lo hi ns → lo * ns.length ≤ ns.sum ∧ ns.sum ≤ hi * ns.length
  | [], _ => by simp
  | n :: r, h => by
    have a := sum_btw h0 h1 (ns := r) fun x hx => h x (List.mem_cons_of_mem _ hx)
    have b := h n List.mem_cons_self
    rw [List.sum_cons, List.length_cons, Int.natCast_add, Int.mul_add, Int.mul_add]
    omega
theorem btw_sub {lo hi : Int} {ns ms : List Int} (h : Btw lo hi ns) (s : ∀ x ∈ ms, x ∈ ns) : Btw lo hi ms := fun x hx => h x (s x hx)
/-- sums of at most 8 numbers stay within eight times the bounds -/
theorem wsums_btw {B : Int} {ns : List Int} {k : Nat} (hB : 0 ≤ B) (h : Btw (-B) B ns) (hk : k ≤ 8) : Btw (-(8 * B)) (8 * B) (wsums ns k) := by
  intro x hx
  unfold wsums at hx
  obtain ⟨j, _, rfl⟩ := List.mem_map.mp hx
  have hs : Btw (-B) B ((ns.drop j).take k) := btw_sub h fun y hy => List.mem_of_mem_drop (List.mem_of_mem_take hy)
  have a := sum_btw (by omega) hB hs
  have hl : ((ns.drop j).take k).length ≤ 8 := by
    rw [List.length_take]
    omega
  have c : B * ((ns.drop j).take k).length ≤ B * 8 := Int.mul_le_mul_of_nonneg_left (by omega) hB
  have d : -B * ((ns.drop j).take k).length = -(B * ((ns.drop j).take k).length) := Int.neg_mul _ _
  rw [d] at a
  omega
/-! ### calls by keywords -/
def gS2 {α : Type} : List α → List α → List α
  | [], [a, b] => [b, a]
  | _, _ => []
def gI2 {α : Type} : List α → List α → List α
  | [], [a, b] => [a, b]
  | _, _ => []
theorem rel_S2 {vs zs : List V} {us ws : List Value} (r : Vals vs us) (q : Vals zs ws) : Vals (gS2 vs zs) (gS2 us ws) := by
  cases r with
  | cons _ _ => exact .nil
  | nil =>
    cases q with
    | nil => exact .nil
    | cons a q =>
      cases q with
      | nil => exact .nil
      | cons b q =>
        cases q with
        | nil => exact .cons b (.cons a .nil)
        | cons _ _ => exact .nil
theorem rel_I2 {vs zs : List V} {us ws : List Value} (r : Vals vs us) (q : Vals zs ws) : Vals (gI2 vs zs) (gI2 us ws) := by
  cases r with
  | cons _ _ => exact .nil
  | nil =>
    cases q with
    | nil => exact .nil
    | cons a q =>
      cases q with
      | nil => exact .nil
      | cons b q =>
        cases q with
        | nil => exact .cons a (.cons b .nil)
        | cons _ _ => exact .nil
/-- three keywords in the opposite sequence -/
def gR3 {α : Type} : List α → List α → List α
  | [], [a, b, c] => [c, b, a]
  | _, _ => []
theorem rel_R3 {vs zs : List V} {us ws : List Value} (r : Vals vs us) (q : Vals zs ws) : Vals (gR3 vs zs) (gR3 us ws) := by
  cases r with
  | cons _ _ => exact .nil
  | nil =>
    cases q with
    | nil => exact .nil
    | cons a q =>
      cases q with
      | nil => exact .nil
      | cons b q =>
        cases q with
        | nil => exact .nil
        | cons c q =>
          cases q with
          | nil => exact .cons c (.cons b (.cons a .nil))
          | cons _ _ => exact .nil
theorem S2_inv {α : Type} {us ws : List α} (h : (gS2 us ws).length = 2) : ∃ a b, us = [] ∧ ws = [a, b] := by
  match us, ws, h with
  | [], [a, b], _ => exact ⟨a, b, rfl, rfl⟩
theorem R3_inv {α : Type} {us ws : List α} (h : (gR3 us ws).length = 3) : ∃ a b c, us = [] ∧ ws = [a, b, c] := by
  match us, ws, h with
  | [], [a, b, c], _ => exact ⟨a, b, c, rfl, rfl⟩
end Ws
namespace Ws
open PySem PySem.Spec PyProof.Rows L2
theorem eqv_self {d : PyData} (h : SeqAt.shaped d = true) : PyData.eqv d d = true := SeqAt.eqv_refl d (SeqAt.canLay_of_shaped h)
/-- behind a jar that is new -/
theorem Same.over {J : Addr} {H H1 H2 : Hp} (s : Same H H1) (h : H J = none) (f : Fr J H1 H2) : Same H H2 := fun b o e => by
  have n : b ≠ J := ne_of_none e h
  exact f.get n (s b o e)
theorem int_at {ns : List Int} {i : Nat} {x : V} (h : (ns.map V.int)[i]? = some x) : ∃ y, ns[i]? = some y ∧ x = .int y := by
  rw [List.getElem?_map] at h
  cases e : ns[i]? with
  | none => rw [e] at h; cases h
  | some y => rw [e] at h; exact ⟨y, rfl, (Option.some.inj h).symm⟩
theorem tup3_int {x : V} {a b c : Int} {i : Nat} (h : [V.int a, V.int b, V.int c][i]? = some x) : ∃ s, x = .int s ∧ (s = a ∨ s = b ∨ s = c) ∧ i < 3 := by
  match i, h with
  | 0, h => exact ⟨a, (Option.some.inj h).symm, .inl rfl, by decide⟩
  | 1, h => exact ⟨b, (Option.some.inj h).symm, .inr (.inl rfl), by decide⟩
  | 2, h => exact ⟨c, (Option.some.inj h).symm, .inr (.inr rfl), by decide⟩
theorem Jar.ne {H H' : Hp} {J p : Addr} {n : Int} (h : Jar H J n) (hp : H p = none) : p ≠ J := h.out hp
end Ws

set_option Elab.async false
set_option linter.all false
set_option maxRecDepth 100000
set_option maxHeartbeats 4000000
namespace K01
open PySem PySem.Spec PyProof.Rows L2 Ws
def topS (i : Nat) : Stmt := PySem.Challenge.pw_weeksums_k01_sums_and_tied_days.main.body.getD i (.Pass ⟨0, 0, 0, 0⟩)
abbrev s_is_integer : Stmt := topS 9
theorem sc_is_integer : FnScope ["thing"] ["thing"] (defScope s_is_integer) := ⟨rfl, rfl, rfl, by decide +kernel, rfl, by decide +kernel, by decide +kernel⟩
abbrev s_is_within : Stmt := topS 10
theorem sc_is_within : FnScope ["thing", "low", "high"] ["thing", "low", "high"] (defScope s_is_within) := ⟨rfl, rfl, rfl, by decide +kernel, rfl, by decide +kernel, by decide +kernel⟩
abbrev s_is_row : Stmt := topS 11
theorem sc_is_row : FnScope ["thing", "item"] ["thing"] (defScope s_is_row) := ⟨rfl, rfl, rfl, by decide +kernel, rfl, by decide +kernel, by decide +kernel⟩
abbrev s_check_numbers : Stmt := topS 12
theorem sc_check_numbers : FnScope ["numbers", "length"] ["numbers", "length"] (defScope s_check_numbers) := ⟨rfl, rfl, rfl, by decide +kernel, rfl, by decide +kernel, by decide +kernel⟩
abbrev s_check_sums : Stmt := topS 13
theorem sc_check_sums : FnScope ["sums", "length"] ["sums", "length"] (defScope s_check_sums) := ⟨rfl, rfl, rfl, by decide +kernel, rfl, by decide +kernel, by decide +kernel⟩
abbrev s_check_day : Stmt := topS 14
theorem sc_check_day : FnScope ["day", "count"] ["day", "count"] (defScope s_check_day) := ⟨rfl, rfl, rfl, by decide +kernel, rfl, by decide +kernel, by decide +kernel⟩
abbrev s_sums_of : Stmt := topS 16
theorem sc_sums_of : FnScope ["numbers", "length"] ["numbers", "length"] (defScope s_sums_of) := ⟨rfl, rfl, rfl, by decide +kernel, rfl, by decide +kernel, by decide +kernel⟩
abbrev s_days_of : Stmt := topS 17
theorem sc_days_of : FnScope ["sums", "length"] ["sums", "length"] (defScope s_days_of) := ⟨rfl, rfl, rfl, by decide +kernel, rfl, by decide +kernel, by decide +kernel⟩
abbrev s_tied_days : Stmt := topS 18
theorem sc_tied_days : FnScope ["sums", "length", "day", "count"] ["sums", "length", "day"] (defScope s_tied_days) := ⟨rfl, rfl, rfl, by decide +kernel, rfl, by decide +kernel, by decide +kernel⟩
abbrev s_row_sums : Stmt := topS 19
theorem sc_row_sums : FnScope ["numbers", "length", "day"] ["numbers", "length"] (defScope s_row_sums) := ⟨rfl, rfl, rfl, by decide +kernel, rfl, by decide +kernel, by decide +kernel⟩
abbrev s__law_jar : Stmt := topS 21
theorem sc__law_jar : FnScope ["script", "k", "cell_here"] ["script", "k"] (defScope s__law_jar) := ⟨rfl, rfl, rfl, by decide +kernel, rfl, by decide +kernel, by decide +kernel⟩
abbrev s__law_dip : Stmt := topS 22
theorem sc__law_dip : FnScope ["jar", "many", "digit", "mixed"] ["jar", "many"] (defScope s__law_dip) := ⟨rfl, rfl, rfl, by decide +kernel, rfl, by decide +kernel, by decide +kernel⟩
abbrev s__law_sums : Stmt := topS 23
theorem sc__law_sums : FnScope ["numbers_here", "size", "found", "place_here", "total", "spot"] ["numbers_here", "size"] (defScope s__law_sums) := ⟨rfl, rfl, rfl, by decide +kernel, rfl, by decide +kernel, by decide +kernel⟩
abbrev s__law_days : Stmt := topS 24
theorem sc__law_days : FnScope ["jar", "many", "top", "way_here", "found", "turn", "one"] ["jar", "many", "top"] (defScope s__law_days) := ⟨rfl, rfl, rfl, by decide +kernel, rfl, by decide +kernel, by decide +kernel⟩
abbrev s__law_top : Stmt := topS 25
theorem sc__law_top : FnScope ["jar", "way_here"] ["jar"] (defScope s__law_top) := ⟨rfl, rfl, rfl, by decide +kernel, rfl, by decide +kernel, by decide +kernel⟩
abbrev s__law_high : Stmt := topS 26
theorem sc__law_high : FnScope ["jar", "parts", "top"] ["jar", "parts"] (defScope s__law_high) := ⟨rfl, rfl, rfl, by decide +kernel, rfl, by decide +kernel, by decide +kernel⟩
abbrev s__law_size : Stmt := topS 27
theorem sc__law_size : FnScope ["jar", "most_days", "size"] ["jar", "most_days"] (defScope s__law_size) := ⟨rfl, rfl, rfl, by decide +kernel, rfl, by decide +kernel, by decide +kernel⟩
abbrev s__law_right : Stmt := topS 28
theorem sc__law_right : FnScope ["jar", "numbers_here", "size", "before", "due", "told", "turn", "spot", "alike", "one"] ["jar", "numbers_here", "size"] (defScope s__law_right) := ⟨rfl, rfl, rfl, by decide +kernel, rfl, by decide +kernel, by decide +kernel⟩
abbrev s_law : Stmt := topS 29
theorem sc_law : FnScope ["script", "k", "jar", "turn", "size", "many", "top", "less", "some", "told", "one"] ["script"] (defScope s_law) := ⟨rfl, rfl, rfl, by decide +kernel, rfl, by decide +kernel, by decide +kernel⟩
/-- what the top has written -/
structure Top (K : PySem.W.Frag) (mg : Str → Option Value) where
  f_is_integer : Addr
  fd_is_integer : FuncData
  F_is_integer : L2.Fun K "is_integer" "is_integer" s_is_integer f_is_integer fd_is_integer
  b_is_integer : Binds K fd_is_integer ["thing"] []
  g_is_integer : mg "is_integer" = some (.ref f_is_integer)
  f_is_within : Addr
  fd_is_within : FuncData
  F_is_within : L2.Fun K "is_within" "is_within" s_is_within f_is_within fd_is_within
  b_is_within : Binds K fd_is_within ["thing", "low", "high"] []
  g_is_within : mg "is_within" = some (.ref f_is_within)
  f_is_row : Addr
  fd_is_row : FuncData
  F_is_row : L2.Fun K "is_row" "is_row" s_is_row f_is_row fd_is_row
  b_is_row : Binds K fd_is_row ["thing"] []
  g_is_row : mg "is_row" = some (.ref f_is_row)
  f_check_numbers : Addr
  fd_check_numbers : FuncData
  F_check_numbers : L2.Fun K "check_numbers" "check_numbers" s_check_numbers f_check_numbers fd_check_numbers
  b_check_numbers : Binds K fd_check_numbers ["numbers", "length"] []
  g_check_numbers : mg "check_numbers" = some (.ref f_check_numbers)
  f_check_sums : Addr
  fd_check_sums : FuncData
  F_check_sums : L2.Fun K "check_sums" "check_sums" s_check_sums f_check_sums fd_check_sums
  b_check_sums : Binds K fd_check_sums ["sums", "length"] []
  g_check_sums : mg "check_sums" = some (.ref f_check_sums)
  f_check_day : Addr
  fd_check_day : FuncData
  F_check_day : L2.Fun K "check_day" "check_day" s_check_day f_check_day fd_check_day
  b_check_day : Binds K fd_check_day ["day", "count"] []
  g_check_day : mg "check_day" = some (.ref f_check_day)
  f_sums_of : Addr
  fd_sums_of : FuncData
  F_sums_of : L2.Fun K "sums_of" "sums_of" s_sums_of f_sums_of fd_sums_of
  b_sums_of : Binds K fd_sums_of ["numbers", "length"] []
  g_sums_of : mg "sums_of" = some (.ref f_sums_of)
  f_days_of : Addr
  fd_days_of : FuncData
  F_days_of : L2.Fun K "days_of" "days_of" s_days_of f_days_of fd_days_of
  b_days_of : Binds K fd_days_of ["sums", "length"] []
  g_days_of : mg "days_of" = some (.ref f_days_of)
  f_tied_days : Addr
  fd_tied_days : FuncData
  F_tied_days : L2.Fun K "tied_days" "tied_days" s_tied_days f_tied_days fd_tied_days
  b_tied_days : Binds K fd_tied_days ["sums", "length", "day"] []
  g_tied_days : mg "tied_days" = some (.ref f_tied_days)
  f_row_sums : Addr
  fd_row_sums : FuncData
  F_row_sums : L2.Fun K "row_sums" "row_sums" s_row_sums f_row_sums fd_row_sums
  b_row_sums : Binds K fd_row_sums ["numbers", "length"] []
  g_row_sums : mg "row_sums" = some (.ref f_row_sums)
  f__law_jar : Addr
  fd__law_jar : FuncData
  F__law_jar : L2.Fun K "_law_jar" "_law_jar" s__law_jar f__law_jar fd__law_jar
  b__law_jar : Binds K fd__law_jar ["script", "k"] []
  g__law_jar : mg "_law_jar" = some (.ref f__law_jar)
  f__law_dip : Addr
  fd__law_dip : FuncData
  F__law_dip : L2.Fun K "_law_dip" "_law_dip" s__law_dip f__law_dip fd__law_dip
  b__law_dip : Binds K fd__law_dip ["jar", "many"] []
  g__law_dip : mg "_law_dip" = some (.ref f__law_dip)
  f__law_sums : Addr
  fd__law_sums : FuncData
  F__law_sums : L2.Fun K "_law_sums" "_law_sums" s__law_sums f__law_sums fd__law_sums
  b__law_sums : Binds K fd__law_sums ["numbers_here", "size"] []
  g__law_sums : mg "_law_sums" = some (.ref f__law_sums)
  f__law_days : Addr
  fd__law_days : FuncData
  F__law_days : L2.Fun K "_law_days" "_law_days" s__law_days f__law_days fd__law_days
  b__law_days : Binds K fd__law_days ["jar", "many", "top"] []
  g__law_days : mg "_law_days" = some (.ref f__law_days)
  f__law_top : Addr
  fd__law_top : FuncData
  F__law_top : L2.Fun K "_law_top" "_law_top" s__law_top f__law_top fd__law_top
  b__law_top : Binds K fd__law_top ["jar"] []
  g__law_top : mg "_law_top" = some (.ref f__law_top)
  f__law_high : Addr
  fd__law_high : FuncData
  F__law_high : L2.Fun K "_law_high" "_law_high" s__law_high f__law_high fd__law_high
  b__law_high : Binds K fd__law_high ["jar", "parts"] []
  g__law_high : mg "_law_high" = some (.ref f__law_high)
  f__law_size : Addr
  fd__law_size : FuncData
  F__law_size : L2.Fun K "_law_size" "_law_size" s__law_size f__law_size fd__law_size
  b__law_size : Binds K fd__law_size ["jar", "most_days"] []
  g__law_size : mg "_law_size" = some (.ref f__law_size)
  f__law_right : Addr
  fd__law_right : FuncData
  F__law_right : L2.Fun K "_law_right" "_law_right" s__law_right f__law_right fd__law_right
  b__law_right : Binds K fd__law_right ["jar", "numbers_here", "size"] []
  g__law_right : mg "_law_right" = some (.ref f__law_right)
  f_law : Addr
  fd_law : FuncData
  F_law : L2.Fun K "law" "law" s_law f_law fd_law
  b_law : Binds K fd_law ["script"] []
  g_law : mg "law" = some (.ref f_law)
  z_abs : mg "abs" = none
  z_all : mg "all" = none
  z_bool : mg "bool" = none
  z_int : mg "int" = none
  z_isinstance : mg "isinstance" = none
  z_len : mg "len" = none
  z_list : mg "list" = none
  z_max : mg "max" = none
  z_min : mg "min" = none
  z_range : mg "range" = none
  z_repr : mg "repr" = none
  z_sum : mg "sum" = none
  z_type : mg "type" = none
  c_GREATEST_COUNT : ∃ u, mg "GREATEST_COUNT" = some (.int 67 u)
  c_GREATEST_LENGTH : ∃ u, mg "GREATEST_LENGTH" = some (.int 8 u)
section
variable {P : Program} {w : World} {K : PySem.W.Frag} {mg : Str → Option Value} {base : Heap}
local macro_rules | `(tactic| walk_at "rd") => `(tactic| first
  | refine ⟨_, rfl, ?_⟩
  | refine ⟨_, _, rfl, rfl, ?_⟩
  | refine ⟨_, _, rfl, ?_⟩
  | refine ⟨rfl, ?_⟩
  | fail "rd")
local macro_rules | `(tactic| walk_at "rds") => `(tactic| repeat' (walk_at "rd"))

-- 0:script 1:k 2:cell_here
theorem ok_jar {f : Addr} {fd : FuncData} (T : Top K mg) (F : L2.Fun K "_law_jar" "_law_jar" s__law_jar f fd) : FnOk P w K mg base CX0 1 f fd ["script", "k"] (spJar K) := by
  refine F.ok sc__law_jar (fun vs H Q E h => ?_) (fun cdv A outer s H vs Q E hr h => ?_)
  · obtain ⟨a, ns, k, rfl, _⟩ := h
    rfl
  · obtain ⟨a, ns, k, rfl, hS, k0, k1, q⟩ := h
    refine ⟨_, (Evl.pss_cut (ps_set (i := 2) sc__law_jar.nd rfl (.inl rfl) (pe_ifExp (pt_cmpR op_lt (pv 1) (pe_callB (lenL (K := K)) (by rfl) T.z_len (by decide +kernel) (pa_cons (pv 0) pa_nil)) (nomark _)) (pe_callB call_abs (by rfl) T.z_abs (by decide +kernel) (pa_cons (pe_ix (ixL (K := K)) (pv 0) (pv 1) (fun _ _ => rfl)) pa_nil)) pe_int))
      (pss_one (ps_ret (pe_lst (pa_cons (pe_callB (call_max2 rfl) (by rfl) T.z_max (by decide +kernel) (pa_cons pe_int (pa_cons (pe_op op_sub (pv 2) (pe_op Ws.op_powG pe_int pe_int)) pa_nil))) (pa_cons (pe_op op_add (pe_op op_mulW (pe_op op_mod (pe_callTy intI (by rfl) T.z_int (by decide +kernel) (pa_cons (pv 2) pa_nil)) (pe_op op_add (pe_op Ws.op_powG pe_int pe_int) pe_int)) pe_int) (pe_op op_mulW pe_int (pv 1))) (pa_cons pe_int pa_nil))))))), ?_⟩
    refine ⟨fun σ H' => ∃ x : Int, 0 ≤ x ∧ σ = [some (.ref a), some (.int k), some (.int x)] ∧ H' = H, ?_, ?_⟩
    · walk_at "rds"
      refine ⟨a, _, rfl, hS, ?_⟩
      walk_at "rds"
      refine ite2 (fun z => ?_) (fun z => ?_)
      · have hk : k < ns.length := by
          have z2 := of_decide_eq_true z
          rw [List.length_map] at z2
          exact z2
        have hk2 : k.toNat < ns.length := by omega
        walk_at "rds"
        refine ⟨a, _, _, _, rfl, rfl, hS, at_int (j := k.toNat) (by omega) (List.getElem?_eq_getElem hk2), ?_⟩
        walk_at "rds"
        refine ⟨_, ?_, rfl, rfl⟩
        split <;> omega
      · exact ⟨0, Int.le_refl 0, rfl, rfl⟩
    · rintro σ H' ⟨x, x0, rfl, rfl⟩
      walk_at "rds"
      refine ⟨⟨by decide, by decide, by decide +kernel⟩, ?_⟩
      walk_at "rds"
      refine ⟨⟨by decide, by decide, by decide +kernel⟩, ?_⟩
      walk_at "rds"
      refine ⟨(by show (0 : Int) < _; decide +kernel), ?_⟩
      have y0 : 0 ≤ x % (10 ^ (43 : Int).toNat + 57) := Int.emod_nonneg _ (by decide +kernel)
      have y1 : x % (10 ^ (43 : Int).toNat + 57) < 2 ^ 200 := Int.lt_trans (Int.emod_lt_of_pos _ (by decide +kernel)) (by decide +kernel)
      walk_at "rds"
      refine ⟨mulOk (n := 200) (m := 7) y0 y1 (by decide) (by decide) (by decide) (by decide) (by decide), ?_⟩
      walk_at "rds"
      refine ⟨mulOk (n := 20) (m := 10) (by decide) (by decide) (by decide) k0 (by omega) (by decide) (by decide), ?_⟩
      walk_at "rds"
      refine ⟨by show 3 ≤ sizeLine; decide, fun p hp => ?_⟩
      refine q _ p (Same.new hp) hp ⟨_, _, _, upd_same, ?_, ?_, ?_, Int.le_refl 0, Int.le_refl 0⟩
      · split <;> omega
      · omega
      · omega

-- 0:jar 1:many 2:digit 3:mixed
theorem ok_dip {f : Addr} {fd : FuncData} (T : Top K mg) (F : L2.Fun K "_law_dip" "_law_dip" s__law_dip f fd) : FnOk P w K mg base CX0 1 f fd ["jar", "many"] spDip := by
  refine F.ok sc__law_dip (fun vs H Q E h => ?_) (fun cdv A outer s H vs Q E hr h => ?_)
  · obtain ⟨J, m, n, rfl, _⟩ := h
    rfl
  · obtain ⟨J, m, n, rfl, ⟨a, b, c, hJ, ha, hb, hb2, hc, hcn⟩, hn, hm, hm2, k⟩ := h
    refine ⟨_, (pss_cons (ps_if (pt_cmpR op_gt (pe_ix (ixL (K := K)) (pv 0) pe_int (fun _ _ => rfl)) pe_int (nomark _))
      (pss_cons (ps_set (i := 2) sc__law_dip.nd rfl (.inl rfl) (pe_op op_mod (pe_callTy intI (by rfl) T.z_int (by decide +kernel) (pa_cons (pe_ix (ixL (K := K)) (pv 0) pe_int (fun _ _ => rfl)) pa_nil)) (pv 1)))
      (pss_cons (ps_asg (pe_op op_fdivW (pe_ix (ixL (K := K)) (pv 0) pe_int (fun _ _ => rfl)) (pv 1)) (pg_sub (pv 0) pe_int set_list))
      (pss_one (ps_ret (pv 2)))))
      pss_nil)
      (pss_cons (ps_asg (pe_op op_add (pe_ix (ixL (K := K)) (pv 0) pe_int (fun _ _ => rfl)) pe_int) (pg_sub (pv 0) pe_int set_list))
      (pss_cons (ps_set (i := 3) sc__law_dip.nd rfl (.inl rfl) (pe_op op_mod (pe_callTy intI (by rfl) T.z_int (by decide +kernel) (pa_cons (pe_op Ws.op_powG (pe_op op_add (pe_ix (ixL (K := K)) (pv 0) pe_int (fun _ _ => rfl)) (pe_op op_mulW pe_int (pe_ix (ixL (K := K)) (pv 0) pe_int (fun _ _ => rfl)))) pe_int) pa_nil)) (pe_op op_add (pe_op Ws.op_powG pe_int pe_int) pe_int)))
      (pss_cons (ps_set (i := 3) sc__law_dip.nd rfl (.inl rfl) (pe_op op_mod (pe_callTy intI (by rfl) T.z_int (by decide +kernel) (pa_cons (pe_op Ws.op_powG (pe_op op_add (pv 3) (pe_op op_mulW pe_int (pe_ix (ixL (K := K)) (pv 0) pe_int (fun _ _ => rfl)))) pe_int) pa_nil)) (pe_op op_add (pe_op Ws.op_powG pe_int pe_int) pe_int)))
      (pss_one (ps_ret (pe_op op_mod (pe_callTy intI (by rfl) T.z_int (by decide +kernel) (pa_cons (pe_op op_fdivW (pv 3) pe_int) pa_nil)) (pv 1)))))))), ?_⟩
    -- if jar[0] > 0
    walk_at "rds"
    refine ⟨J, _, _, _, rfl, rfl, SqL.of hJ, at0, ?_⟩
    walk_at "rds"
    refine ite2 (fun z => ?_) (fun z => ?_)
    · have a0 : 0 < a := of_decide_eq_true z
      walk_at "rds"
      refine ⟨J, _, _, _, rfl, rfl, SqL.of hJ, at0, ?_⟩
      walk_at "rds"
      refine ⟨hm, ?_⟩
      walk_at "rds"
      refine ⟨J, _, _, _, rfl, rfl, SqL.of hJ, at0, ?_⟩
      walk_at "rds"
      refine ⟨divOk hm hm2 (by decide) (by decide), ?_⟩
      walk_at "rds"
      refine ⟨J, _, _, _, rfl, rfl, hJ, rfl, ?_⟩
      walk_at "rds"
      refine k _ _ (Fr.put Fr.refl) ⟨a / m, b, c, upd_same, Int.ediv_nonneg ha (by omega), hb, hb2, hc, by omega⟩ (Int.emod_nonneg _ (by omega)) (Int.emod_lt_of_pos _ hm)
    · walk_at "rds"
      refine ⟨J, _, _, _, rfl, rfl, SqL.of hJ, at2, ?_⟩
      walk_at "rds"
      refine ⟨J, _, _, _, rfl, rfl, hJ, rfl, ?_⟩
      have hJ2 : (upd H J (.lst [.int a, .int b, .int (c + 1)])) J = some (.lst [.int a, .int b, .int (c + 1)]) := upd_same
      walk_at "rds"
      refine ⟨J, _, _, _, rfl, rfl, SqL.of hJ2, at1, ?_⟩
      walk_at "rds"
      refine ⟨J, _, _, _, rfl, rfl, SqL.of hJ2, at2, ?_⟩
      walk_at "rds"
      refine ⟨mulOk (n := 26) (m := 31) (by decide) (by decide) (by decide) (by omega) (by omega) (by decide) (by decide), ?_⟩
      walk_at "rds"
      refine ⟨powOk (n := 400) (by omega) (by omega) (by decide) (by decide) (by decide) (by decide), ?_⟩
      walk_at "rds"
      refine ⟨⟨by decide, by decide, by decide +kernel⟩, ?_⟩
      walk_at "rds"
      refine ⟨(by show (0 : Int) < _; decide +kernel), ?_⟩
      generalize hx : ((b + 60000049 * (c + 1)) ^ (3 : Int).toNat % (10 ^ (47 : Int).toNat + 91)) = x
      have x0 : 0 ≤ x := hx ▸ Int.emod_nonneg _ (by decide +kernel)
      have x1 : x < 2 ^ 300 := hx ▸ Int.lt_trans (Int.emod_lt_of_pos _ (by decide +kernel)) (by decide +kernel)
      walk_at "rds"
      refine ⟨J, _, _, _, rfl, rfl, SqL.of hJ2, at2, ?_⟩
      walk_at "rds"
      refine ⟨mulOk (n := 26) (m := 31) (by decide) (by decide) (by decide) (by omega) (by omega) (by decide) (by decide), ?_⟩
      walk_at "rds"
      refine ⟨powOk (n := 400) (by omega) (by omega) (by decide) (by decide) (by decide) (by decide), ?_⟩
      walk_at "rds"
      refine ⟨⟨by decide, by decide, by decide +kernel⟩, ?_⟩
      walk_at "rds"
      refine ⟨(by show (0 : Int) < _; decide +kernel), ?_⟩
      generalize ((x + 35000021 * (c + 1)) ^ (3 : Int).toNat % (10 ^ (46 : Int).toNat + 79)) = y
      walk_at "rds"
      refine ⟨divOk (n := 31) (by decide) (by decide) (by decide) (by decide), ?_⟩
      walk_at "rds"
      refine ⟨hm, ?_⟩
      refine k _ _ (Fr.put Fr.refl) ⟨a, b, c + 1, upd_same, ha, hb, hb2, by omega, by omega⟩ (Int.emod_nonneg _ (by omega)) (Int.emod_lt_of_pos _ hm)

-- 0:numbers_here 1:size 2:found 3:place_here 4:total 5:spot
theorem ok_sums {f : Addr} {fd : FuncData} (T : Top K mg) (F : L2.Fun K "_law_sums" "_law_sums" s__law_sums f fd) : FnOk P w K mg base CX0 1 f fd ["numbers_here", "size"] (spSums K) := by
  refine F.ok sc__law_sums (fun vs H Q E h => ?_) (fun cdv A outer s H vs Q E hr h => ?_)
  · obtain ⟨a, ns, k, rfl, _⟩ := h
    rfl
  · obtain ⟨a, ns, k, rfl, hS, k1, k2, hn, q⟩ := h
    refine ⟨_, (pss_cons (ps_set (i := 2) sc__law_sums.nd rfl (.inl rfl) (pe_lst pa_nil))
      (pss_cons (ps_for PassesOwn.never rfl (pi_range1 (by rfl) T.z_range (pa_cons (pe_op op_add (pe_op op_sub (pe_callB (lenL (K := K)) (by rfl) T.z_len (by decide +kernel) (pa_cons (pv 0) pa_nil)) (pv 1)) pe_int) pa_nil)) (pg_name (i := 3) sc__law_sums.nd rfl (.inl rfl))
      (pss_cons (ps_set (i := 4) sc__law_sums.nd rfl (.inl rfl) pe_int)
      (pss_cons (ps_for PassesOwn.never rfl (pi_range1 (by rfl) T.z_range (pa_cons (pv 1) pa_nil)) (pg_name (i := 5) sc__law_sums.nd rfl (.inl rfl))
      (pss_one (ps_set (i := 4) sc__law_sums.nd rfl (.inl rfl) (pe_op op_add (pv 4) (pe_ix (ixL (K := K)) (pv 0) (pe_op op_add (pv 3) (pv 5)) (fun _ _ => rfl))))))
      (pss_one (ps_expr (bmK (K := K) (pe_bm PySem.F.plainAttrs_list PySem.F.slot_list_append PySem.F.type_list_append mt_append (pv 2) (pa_cons (pv 4) pa_nil))))))))
      (pss_one (ps_ret (pv 2))))), ?_⟩
    refine ⟨Nat.zero_le _, fun o ho => ?_⟩
    have s0 : Same H (upd H o (.lst [])) := Same.new ho
    walk_at "rds"
    refine ⟨a, _, rfl, Same.seq s0 hS, ?_⟩
    walk_at "rds"
    have eL : (ns.map V.int).length = ns.length := List.length_map ..
    refine ⟨by rw [eL]; omega, by rw [eL]; omega, for_range (fun i σ H' => ∃ x3 x4 x5, σ = [some (.ref a), some (.int k), some (.ref o), x3, x4, x5] ∧ Same H H' ∧ H' o = some (.lst (((wsums ns k.toNat).take i).map V.int))) ?_ ?_ ?_⟩
    · exact ⟨none, none, none, rfl, s0, upd_same⟩
    · rintro i σ H' hi ⟨x3, x4, x5, rfl, s1, h1⟩
      have hi2 : i < ns.length + 1 - k.toNat := by rw [eL] at hi; omega
      walk_at "rds"
      refine ⟨by omega, by omega, for_range (fun t σ H2 => ∃ x5, σ = [some (.ref a), some (.int k), some (.ref o), some (.int (0 + (i : Int))), some (.int ((ns.drop i).take t).sum), x5] ∧ H2 = H') ?_ ?_ ?_⟩
      · exact ⟨x5, rfl, rfl⟩
      · rintro t σ H2 ht ⟨y5, rfl, rfl⟩
        have ht2 : i + t < ns.length := by omega
        walk_at "rds"
        refine ⟨a, _, _, _, rfl, rfl, Same.seq s1 hS, at_int (j := i + t) (by omega) (List.getElem?_eq_getElem ht2), ?_⟩
        walk_at "rds"
        refine ⟨some (.int (0 + (t : Int))), ?_, rfl⟩
        rw [win_next (List.getElem?_eq_getElem ht2)]
        rfl
      · rintro σ H2 ⟨y5, rfl, rfl⟩
        walk_at "rds"
        refine ⟨.inl ⟨rfl, _, SqL.of h1⟩, ?_⟩
        walk_at "rds"
        refine ⟨o, _, _, rfl, rfl, h1, ?_, ?_⟩
        · rw [List.length_map, List.length_take, wsums_len]
          exact Nat.lt_of_le_of_lt (Nat.min_le_left _ _) (small1000 (by omega))
        · refine ⟨_, _, _, rfl, Same.mut s1 ho, ?_⟩
          rw [upd_same, map_take_snoc (wsums_get hi2)]
    · rintro σ H' ⟨x3, x4, x5, rfl, s1, h1⟩
      walk_at "rds"
      refine q H' o s1 ho ?_
      rw [h1, List.take_of_length_le]
      rw [wsums_len, eL]
      omega

-- 0:jar 1:many 2:top 3:way_here 4:found 5:turn 6:one
theorem ok_days {f fd : _} (T : Top K mg) (F : L2.Fun K "_law_days" "_law_days" s__law_days f fd) (G__law_dip : DefOk P w K mg base CX0 1 "_law_dip" T.f__law_dip T.fd__law_dip ["jar", "many"] spDip) :
    FnOk P w K mg base CX0 2 f fd ["jar", "many", "top"] spDays := by
  refine F.ok sc__law_days (fun vs H Q E h => ?_) (fun cdv A outer s H vs Q E hr h => ?_)
  · obtain ⟨J, m, t, n, rfl, _⟩ := h
    rfl
  · obtain ⟨J, m, t, n, rfl, hJ, hn, m0, m1, t0, t1, q⟩ := h
    refine ⟨_, (pss_cons (ps_set (i := 3) sc__law_days.nd rfl (.inl rfl) (Ws.pc G__law_dip hr (pa_cons (pv 0) (pa_cons pe_int pa_nil))))
      (pss_cons (ps_setLc (i := 4) (own := [("turn", 5)]) (g := gName 5) (tt := tYes) (by rfl) sc__law_days.nd rfl rfl (sw_true rfl rfl rfl (by decide +kernel)) (pi_range1 (by rfl) T.z_range (pa_cons (pv 1) pa_nil)) (blkOk_by (N := ["jar", "many", "top", "way_here", "found", "turn", "one"]) (sc := defScope s__law_days) (by decide +kernel)) (fun _ _ _ _ _ => pg_name (i := 5) sc__law_days.nd rfl (Or.inl rfl)) (fun _ _ _ _ _ => pts_nil) (fun _ _ _ _ _ => (Ws.pc G__law_dip hr (pa_cons (pv 0) (pa_cons (pe_op op_add (pv 2) pe_int) pa_nil)))))
      (Evl.pss_cut (ps_if (pt_cmpR op_eq (pv 3) pe_int (nomark _))
      (pss_one (ps_setLc (i := 4) (own := [("one", 6)]) (g := gName 6) (tt := tYes) (by rfl) sc__law_days.nd rfl rfl (sw_true rfl rfl rfl (by decide +kernel)) (piL (K := K) (pv 4)) (blkOk_by (N := ["jar", "many", "top", "way_here", "found", "turn", "one"]) (sc := defScope s__law_days) (by decide +kernel)) (fun _ _ _ _ _ => pg_name (i := 6) sc__law_days.nd rfl (Or.inl rfl)) (fun _ _ _ _ _ => pts_nil) (fun _ _ _ _ _ => (pe_ix (ixL (K := K)) (pe_lst (pa_cons pe_int (pa_cons (pv 2) (pa_cons (pv 6) pa_nil)))) (Ws.pc G__law_dip hr (pa_cons (pv 0) (pa_cons pe_int pa_nil))) (fun _ _ => rfl)))))
      pss_nil)
      (pss_one (ps_ret (pv 4)))))), ?_⟩
    walk_at "rds"
    refine ⟨J, 3, n, rfl, hJ, by omega, by decide, by decide +kernel, fun H1 d1 s1 J1 _ _ => ?_⟩
    walk_at "rds"
    refine ⟨by omega, by omega, fun D hD => ?_⟩
    have nD : D ≠ J := J1.out hD
    have fD : H D = none := s1.free hD nD
    refine lc_range (lo := 0) (n := m.toNat) (fun i H' => ∃ ns, Fr J H H' ∧ Jar H' J (n + 1 + i) ∧ H' D = some (.lst (ns.map V.int)) ∧ ns.length = i ∧ Btw 0 t ns) ?_ ?_ ?_
    · exact ⟨[], s1.trans (Fr.of (Same.new hD)), (J1.new hD).mono (by omega), upd_same, rfl, Btw.nil⟩
    · rintro i H' hi ⟨ns, s2, J2, hD2, hl, hb⟩
      refine ⟨rfl, ?_⟩
      walk_at "rds"
      refine ⟨J, t + 1, n + 1 + i, rfl, J2, by omega, by omega, by omega, fun H2 d s3 J3 d0 d2 => ?_⟩
      refine ⟨_, s3.get nD hD2, ?_, ns ++ [d], (s2.trans s3).mut fD, (J3.ex nD).mono (by omega), ?_, by rw [List.length_append, hl]; rfl, hb.snoc d0 (by omega)⟩
      · rw [List.length_map, hl]
        exact small1000 (by omega)
      · rw [upd_same, List.map_append]
        rfl
    · rintro H' ⟨ns, s2, J2, hD2, hl, hb⟩
      refine ⟨fun σ H2 => ∃ p ns x5 x6, σ = [some (.ref J), some (.int m), some (.int t), some (.int d1), some (.ref p), x5, x6] ∧ Fr J H H2 ∧ Jar H2 J (n + 2 * m + 1) ∧ H p = none ∧ H2 p = some (.lst (ns.map V.int)) ∧ ns.length = m.toNat ∧ Btw 0 t ns, ?_, ?_⟩
      · walk_at "rds"
        refine ite2 (fun _ => ?_) (fun _ => ?_)
        · walk_at "rds"
          refine ⟨⟨_, SqL.of hD2⟩, fun D2 hn2 => ?_⟩
          have nD2 : D2 ≠ J := J2.out hn2
          have fD2 : H D2 = none := s2.free hn2 nD2
          have neD : D ≠ D2 := ne_of_none hD2 hn2
          refine lc_list (K := K) (a := D) (xs := ns.map V.int) (fun i H3 => ∃ ms, Fr J H' H3 ∧ Jar H3 J (n + 1 + m + i) ∧ H3 D2 = some (.lst (ms.map V.int)) ∧ ms.length = i ∧ Btw 0 t ms) ?_ ?_ ?_ ?_
          · exact ⟨[], Fr.of (Same.new hn2), (J2.new hn2).mono (by omega), upd_same, rfl, Btw.nil⟩
          · rintro i H3 _ ⟨ms, s4, _⟩
            exact SqL.of (s4.get nD hD2)
          · rintro i x H3 hx ⟨ms, s4, J4, hD4, hl4, hb4⟩
            obtain ⟨y, hy, rfl⟩ : ∃ y, ns[i]? = some y ∧ x = .int y := by
              rw [List.getElem?_map] at hx
              cases e : ns[i]? with
              | none => rw [e] at hx; cases hx
              | some y => rw [e] at hx; exact ⟨y, rfl, (Option.some.inj hx).symm⟩
            have hi : i < ns.length := (List.getElem?_eq_some_iff.mp hy).1
            have by1 := hb y (List.mem_of_getElem? hy)
            refine ⟨rfl, ?_⟩
            walk_at "rds"
            refine ⟨by show 3 ≤ sizeLine; decide, fun p hp => ?_⟩
            have np : p ≠ J := J4.out hp
            have ne4 : p ≠ D2 := (ne_of_none hD4 hp).symm
            walk_at "rds"
            refine ⟨J, 3, n + 1 + m + i, rfl, J4.new hp, by omega, by decide, by decide +kernel, fun H5 d s5 J5 d0 d3 => ?_⟩
            have hD5 := s5.get nD2 (by rw [upd_ne ne4.symm]; exact hD4)
            have s6 : Fr J H' H5 := (s4.trans (Fr.of (Same.new hp))).trans s5
            have go : ∀ z : Int, 0 ≤ z → z ≤ t → atI [V.int 0, V.int t, V.int y] d = some (.int z) → ∃ p_1 xs i_1 v, V.ref p = .ref p_1 ∧ V.int d = .int i_1 ∧ SqL K H5 p_1 xs ∧ atI xs i_1 = some v ∧ ∃ acc, H5 D2 = some (HO.lst acc) ∧ acc.length < sizeLine ∧
                ∃ ms, Fr J H' (upd H5 D2 (HO.lst (acc ++ [v]))) ∧ Jar (upd H5 D2 (HO.lst (acc ++ [v]))) J (n + 1 + m + ((i + 1 : Nat) : Int)) ∧ upd H5 D2 (HO.lst (acc ++ [v])) D2 = some (HO.lst (List.map V.int ms)) ∧ ms.length = i + 1 ∧ Btw 0 t ms := by
              intro z z0 z1 hz
              refine ⟨p, _, d, .int z, rfl, rfl, SqL.of (s5.get np upd_same), hz, _, hD5, ?_, ms ++ [z], s6.mut hn2, (J5.ex nD2).mono (by omega), ?_, by rw [List.length_append, hl4]; rfl, hb4.snoc z0 z1⟩
              · rw [List.length_map, hl4]
                exact small1000 (by omega)
              · rw [upd_same, List.map_append]
                rfl
            have d012 : d = 0 ∨ d = 1 ∨ d = 2 := by omega
            rcases d012 with e | e | e
            · exact go 0 (Int.le_refl 0) t0 (by rw [e]; rfl)
            · exact go t t0 (Int.le_refl t) (by rw [e]; rfl)
            · exact go y by1.1 by1.2 (by rw [e]; rfl)
          · rintro H3 ⟨ms, s4, J4, hD4, hl4, hb4⟩
            rw [List.length_map, hl] at J4 hl4
            exact ⟨D2, ms, _, _, rfl, s2.trans s4, J4.mono (by omega), fD2, hD4, hl4, hb4⟩
        · exact ⟨D, ns, _, _, rfl, s2, J2.mono (by omega), fD, hD2, hl, hb⟩
      · rintro σ H2 ⟨p, ms, x5, x6, rfl, s4, J4, f4, h4, l4, b4⟩
        walk_at "rds"
        exact q H2 p ms s4 J4 f4 h4 l4 b4

-- 0:jar 1:way_here
theorem ok_top {f fd : _} (T : Top K mg) (F : L2.Fun K "_law_top" "_law_top" s__law_top f fd) (G__law_dip : DefOk P w K mg base CX0 1 "_law_dip" T.f__law_dip T.fd__law_dip ["jar", "many"] spDip) :
    FnOk P w K mg base CX0 2 f fd ["jar"] spTop := by
  refine F.ok sc__law_top (fun vs H Q E h => ?_) (fun cdv A outer s H vs Q E hr h => ?_)
  · obtain ⟨J, n, rfl, _⟩ := h
    rfl
  · obtain ⟨J, n, rfl, hJ, hn, q⟩ := h
    refine ⟨_, (pss_cons (ps_set (i := 1) sc__law_top.nd rfl (.inl rfl) (Ws.pc G__law_dip hr (pa_cons (pv 0) (pa_cons pe_int pa_nil))))
      (pss_cons (ps_if (pt_cmpR op_eq (pv 1) pe_int (nomark _))
      (pss_one (ps_ret (pe_op op_sub (pe_op op_sub (pe_op Ws.op_powG pe_int pe_int) pe_int) (Ws.pc G__law_dip hr (pa_cons (pv 0) (pa_cons (pe_op Ws.op_powG pe_int pe_int) pa_nil))))))
      pss_nil)
      (pss_one (ps_ret (Ws.pc G__law_dip hr (pa_cons (pv 0) (pa_cons (pe_ix (ixL (K := K)) (pe_lst (pa_cons pe_int (pa_cons pe_int pa_nil))) (pv 1) (fun _ _ => rfl)) pa_nil))))))), ?_⟩
    walk_at "rds"
    refine ⟨J, 3, n, rfl, hJ, by omega, by decide, by decide +kernel, fun H1 d1 s1 J1 d0 d3 => ?_⟩
    walk_at "rds"
    refine ite2 (fun _ => ?_) (fun z => ?_)
    · walk_at "rds"
      refine ⟨⟨by decide, by decide, by decide +kernel⟩, ?_⟩
      walk_at "rds"
      refine ⟨⟨by decide, by decide, by decide +kernel⟩, ?_⟩
      walk_at "rds"
      refine ⟨J, _, n + 1, rfl, J1, by omega, by decide +kernel, by decide +kernel, fun H2 d2 s2 J2 e0 e1 => ?_⟩
      walk_at "rds"
      have e2 : d2 < 10 ^ 30 := e1
      exact q H2 _ (s1.trans s2) (J2.mono (by omega)) (show (0 : Int) ≤ 10 ^ 30 - 1 - d2 by omega) (show (10 : Int) ^ 30 - 1 - d2 < 10 ^ 30 by omega)
    · have z2 : d1 ≠ 2 := fun e => z (by rw [e]; rfl)
      walk_at "rds"
      refine ⟨by show 2 ≤ sizeLine; decide, fun p hp => ?_⟩
      have np : p ≠ J := J1.out hp
      have go : ∀ m : Int, 1 ≤ m → m ≤ 30 → atI [V.int 4, V.int 30] d1 = some (.int m) → ∃ p_1 xs i v, V.ref p = .ref p_1 ∧ V.int d1 = .int i ∧ SqL K (upd H1 p (.lst [.int 4, .int 30])) p_1 xs ∧ atI xs i = some v ∧ spDip ([V.ref J, v] ++ []) (upd H1 p (.lst [.int 4, .int 30])) Q E0 := by
        intro m m1 m2 hm
        refine ⟨p, _, d1, .int m, rfl, rfl, SqL.of upd_same, hm, J, m, n + 1, rfl, J1.new hp, by omega, by omega, by omega, fun H2 d2 s2 J2 e0 e1 => ?_⟩
        exact q H2 _ ((s1.trans (Fr.of (Same.new hp))).trans s2) (J2.mono (by omega)) e0 (by omega)
      walk_at "rds"
      have d01 : d1 = 0 ∨ d1 = 1 := by omega
      rcases d01 with e | e
      · exact go 4 (by decide) (by decide) (by rw [e]; rfl)
      · exact go 30 (by decide) (by decide) (by rw [e]; rfl)

-- 0:jar 1:parts 2:top
theorem ok_high {f fd : _} (T : Top K mg) (F : L2.Fun K "_law_high" "_law_high" s__law_high f fd) (G__law_top : DefOk P w K mg base CX0 2 "_law_top" T.f__law_top T.fd__law_top ["jar"] spTop) :
    FnOk P w K mg base CX0 3 f fd ["jar", "parts"] spHigh := by
  refine F.ok sc__law_high (fun vs H Q E h => ?_) (fun cdv A outer s H vs Q E hr h => ?_)
  · obtain ⟨J, q, n, rfl, _⟩ := h
    rfl
  · obtain ⟨J, p, n, rfl, hJ, hn, p1, p2, q⟩ := h
    refine ⟨_, (pss_cons (ps_set (i := 2) sc__law_high.nd rfl (.inl rfl) (Ws.pc G__law_top hr (pa_cons (pv 0) pa_nil)))
      (pss_one (ps_ret (pe_ifExp (pt_cmpR op_gt (pv 2) (pe_op Ws.op_powG pe_int pe_int) (nomark _)) (pe_op op_fdivW (pv 2) (pv 1)) (pv 2))))), ?_⟩
    walk_at "rds"
    refine ⟨J, n, rfl, hJ, by omega, fun H1 t s1 J1 t0 t1 => ?_⟩
    walk_at "rds"
    refine ⟨⟨by decide, by decide, by decide +kernel⟩, ?_⟩
    walk_at "rds"
    refine ite2 (fun _ => ?_) (fun z => ?_)
    · walk_at "rds"
      refine ⟨divOk (n := 10) (by omega) (by omega) (by decide) (by decide), ?_⟩
      have h1 : 0 ≤ t / p := Int.ediv_nonneg t0 (by omega)
      have h2 : t / p * p ≤ t := Int.ediv_mul_le t (by omega)
      have h3 : t / p ≤ t := Int.ediv_le_self p t0
      exact q H1 _ s1 J1 h1 (by omega) (Or.inr (by omega))
    · walk_at "rds"
      have z2 : t ≤ 10 ^ 6 := by
        have z3 : ¬ (10 ^ 6 < t) := fun y => z (decide_eq_true y)
        omega
      exact q H1 _ s1 J1 t0 t1 (Or.inl z2)

-- 0:jar 1:most_days 2:size
theorem ok_size {f fd : _} (T : Top K mg) (F : L2.Fun K "_law_size" "_law_size" s__law_size f fd) (G__law_dip : DefOk P w K mg base CX0 1 "_law_dip" T.f__law_dip T.fd__law_dip ["jar", "many"] spDip) :
    FnOk P w K mg base CX0 2 f fd ["jar", "most_days"] spSize := by
  refine F.ok sc__law_size (fun vs H Q E h => ?_) (fun cdv A outer s H vs Q E hr h => ?_)
  · obtain ⟨J, m, n, rfl, _⟩ := h
    rfl
  · obtain ⟨J, m, n, rfl, hJ, hn, m1, m2, q⟩ := h
    refine ⟨_, (pss_cons (ps_set (i := 2) sc__law_size.nd rfl (.inl rfl) (pe_op op_add pe_int (Ws.pc G__law_dip hr (pa_cons (pv 0) (pa_cons pe_int pa_nil)))))
      (pss_one (ps_ret (pe_tup (pa_cons (pv 2) (pa_cons (pe_op op_add (pv 2) (Ws.pc G__law_dip hr (pa_cons (pv 0) (pa_cons (pe_op op_add (pe_op op_sub (pv 1) (pv 2)) pe_int) pa_nil)))) pa_nil)))))), ?_⟩
    walk_at "rds"
    refine ⟨J, 8, n, rfl, hJ, by omega, by decide, by decide +kernel, fun H1 d s1 J1 d0 d1 => ?_⟩
    walk_at "rds"
    refine ⟨J, _, n + 1, rfl, J1, by omega, by omega, by omega, fun H2 e s2 J2 e0 e1 => ?_⟩
    walk_at "rds"
    refine ⟨by show 2 ≤ sizeLine; decide, fun p hp => ?_⟩
    have s3 := s1.trans s2
    exact q _ p (1 + d) (1 + d + e) (s3.trans (Fr.of (Same.new hp))) ((J2.new hp).mono (by omega)) (s3.free hp (J2.out hp)) upd_same (by omega) (by omega) (by omega) (by omega)

-- 0:thing
theorem ok_is_integer {f fd : _} (T : Top K mg) (F : L2.Fun K "is_integer" "is_integer" s_is_integer f fd) : FnOk P w K mg base CX0 1 f fd ["thing"] (spIsInt K) := by
  refine F.ok sc_is_integer (fun vs H Q E h => ?_) (fun cdv A outer s H vs Q E hr h => ?_)
  · obtain ⟨x, b, rfl, _⟩ := h
    rfl
  · obtain ⟨x, b, rfl, ⟨t, c, d, ht, hc, hd, rfl⟩, q⟩ := h
    refine ⟨_, (pss_one (ps_ret (pe_and (pe_callB (isiL (K := K)) (by rfl) T.z_isinstance (by decide +kernel) (pa_cons (pv 0) (pa_cons (pe_bltn (v := .ty "int") (by rfl) T.z_int (by decide +kernel) rfl) pa_nil))) (pe_one (pe_not (pe_callB (isiL (K := K)) (by rfl) T.z_isinstance (by decide +kernel) (pa_cons (pv 0) (pa_cons (pe_bltn (v := .ty "bool") (by rfl) T.z_bool (by decide +kernel) rfl) pa_nil)))))))), ?_⟩
    walk_at "rds"
    refine ⟨x, _, t, _, c, rfl, .ty "int", ht, hc, ?_⟩
    walk_at "rds"
    cases c with
    | false => exact iteF q
    | true =>
      refine iteT ?_
      walk_at "rds"
      refine ⟨x, _, t, _, d, rfl, .ty "bool", ht, hd rfl, ?_⟩
      walk_at "rds"
      exact q
-- 0:thing 1:low 2:high
theorem ok_is_within {f fd : _} (T : Top K mg) (F : L2.Fun K "is_within" "is_within" s_is_within f fd) (G_is_integer : DefOk P w K mg base CX0 1 "is_integer" T.f_is_integer T.fd_is_integer ["thing"] (spIsInt K)) :
    FnOk P w K mg base CX0 2 f fd ["thing", "low", "high"] (spWithin K) := by
  refine F.ok sc_is_within (fun vs H Q E h => ?_) (fun cdv A outer s H vs Q E hr h => ?_)
  · rcases h with ⟨i, lo, hi, rfl, _⟩ | ⟨x, lo, hi, rfl, _⟩ <;> rfl
  · refine ⟨_, (pss_one (ps_ret (pe_and (Ws.pc G_is_integer hr (pa_cons (pv 0) pa_nil)) (pe_one (pe_chain op_le op_le (pv 1) (pv 0) (pv 2)))))), ?_⟩
    rcases h with ⟨i, lo, hi, rfl, q⟩ | ⟨x, lo, hi, rfl, hx, q⟩
    · walk_at "rds"
      refine ⟨_, true, rfl, Ti.int i, ?_⟩
      walk_at "rds"
      refine ite2 (fun z => ?_) (fun z => ?_)
      · rw [show decide (lo ≤ i) = true from z] at q
        walk_at "rds"
        exact q
      · rw [show decide (lo ≤ i) = false from Bool.eq_false_iff.mpr z] at q
        exact q
    · walk_at "rds"
      refine ⟨x, false, rfl, hx, ?_⟩
      walk_at "rds"
      exact iteF q
-- 0:thing 1:item
theorem ok_is_row {f fd : _} (T : Top K mg) (F : L2.Fun K "is_row" "is_row" s_is_row f fd) (G_is_integer : DefOk P w K mg base CX0 1 "is_integer" T.f_is_integer T.fd_is_integer ["thing"] (spIsInt K)) :
    FnOk P w K mg base CX0 2 f fd ["thing"] (spIsRow K) := by
  refine F.ok sc_is_row (fun vs H Q E h => ?_) (fun cdv A outer s H vs Q E hr h => ?_)
  · rcases h with ⟨a, xs, rfl, _⟩ | ⟨x, t, rfl, _⟩ <;> rfl
  · refine ⟨_, (pss_cons (ps_if (PW.pt (pw_or (pt_cmpR op_isNotTy (pe_callTy (typL (K := K)) (by rfl) T.z_type (by decide +kernel) (pa_cons (pv 0) pa_nil)) (pe_bltn (v := .ty "list") (by rfl) T.z_list (by decide +kernel) rfl) (nomark _)) (pw_or1 (pt_not (pt_chain op_le op_le pe_int (pe_callB (lenL (K := K)) (by rfl) T.z_len (by decide +kernel) (pa_cons (pv 0) pa_nil)) (pe_glob (v := .int 67) rfl T.c_GREATEST_COUNT.choose_spec ⟨_, rfl⟩))))))
      (pss_one (ps_ret pe_bl))
      pss_nil)
      (pss_one (ps_ret (pe_callB (allL (K := K) rfl) (by rfl) T.z_all (by decide +kernel) (pa_cons (pe_lc (own := [("item", 1)]) (g := gName 1) (tt := tYes) (by rfl) sc_is_row.nd (piL (K := K) (pv 0)) (blkOk_by (N := ["thing", "item"]) (sc := defScope s_is_row) (by decide +kernel)) (fun _ _ _ _ _ => pg_name (i := 1) sc_is_row.nd rfl (Or.inl rfl)) (fun _ _ _ _ _ => pts_nil) (fun _ _ _ _ _ => (Ws.pc G_is_integer hr (pa_cons (pv 1) pa_nil)))) pa_nil))))), ?_⟩
    rcases h with ⟨a, xs, rfl, hS, hz, hx, q⟩ | ⟨x, t, rfl, ht, hn, q⟩
    · walk_at "rds"
      refine ⟨.ref a, "list", rfl, .lst hS, ?_⟩
      walk_at "rds"
      refine ⟨a, xs, rfl, hS, ?_⟩
      walk_at "rds"
      have fin : ∀ H', Same H H' → (decide (1 ≤ xs.length) && decide (xs.length ≤ 67)) = false → Q (.bl false) H' := fun H' s1 z => by
        have q1 := q H' s1
        rw [z] at q1
        exact q1
      refine ite2 (fun z1 => ?_) (fun z1 => ?_)
      · walk_at "rds"
        have y1 : decide (1 ≤ xs.length) = true := by
          have := of_decide_eq_true z1
          exact decide_eq_true (by omega)
        refine ite2 (fun z2 => ?_) (fun z2 => ?_)
        · refine fin H (Same.refl H) ?_
          rw [y1]
          have z3 : ¬ ((xs.length : Int) ≤ 67) := fun y => by
            rw [decide_eq_true y] at z2
            cases z2
          have z4 : decide (xs.length ≤ 67) = false := decide_eq_false (by omega)
          rw [z4]
          rfl
        · have y2 : decide (xs.length ≤ 67) = true := by
            have z3 : decide ((xs.length : Int) ≤ 67) = true := by
              cases e : decide ((xs.length : Int) ≤ 67) with
              | true => rfl
              | false =>
                rw [e] at z2
                exact absurd rfl z2
            have := of_decide_eq_true z3
            exact decide_eq_true (by omega)
          walk_at "rds"
          refine ⟨⟨_, hS⟩, fun D hD => ?_⟩
          refine lc_list (K := K) (a := a) (xs := xs) (fun i H3 => Same H H3 ∧ H3 D = some (.lst (((xs.take i).map whole).map V.bl))) ?_ ?_ ?_ ?_
          · exact ⟨Same.new hD, upd_same⟩
          · rintro i H3 _ ⟨s3, _⟩
            exact Same.seq s3 hS
          · rintro i x H3 hi ⟨s3, h3⟩
            refine ⟨rfl, ?_⟩
            walk_at "rds"
            refine ⟨x, _, rfl, hx x (List.mem_of_getElem? hi) H3 s3, _, h3, ?_, Same.mut s3 hD, ?_⟩
            · rw [List.length_map, List.length_map, List.length_take]
              exact Nat.lt_of_le_of_lt (Nat.min_le_right _ _) (small1000 (by omega))
            · rw [upd_same, take_next hi, List.map_append, List.map_append]
              rfl
          · rintro H3 ⟨s3, h3⟩
            rw [List.take_length] at h3
            refine ⟨D, _, rfl, SqL.of h3, ?_⟩
            have q1 := q H3 s3
            rw [y1, y2] at q1
            rw [List.all_map]
            exact q1
      · walk_at "rds"
        refine fin H (Same.refl H) ?_
        have z3 : ¬ ((1 : Int) ≤ xs.length) := fun y => z1 (decide_eq_true y)
        have z4 : decide (1 ≤ xs.length) = false := decide_eq_false (by omega)
        rw [z4]
        rfl
    · walk_at "rds"
      refine ⟨x, t, rfl, ht, ?_⟩
      walk_at "rds"
      have e : decide (t = "list") = false := decide_eq_false hn
      show (if (!decide (t = "list")) = true then _ else _)
      rw [e]
      refine iteT ?_
      walk_at "rds"
      exact q

-- 0:numbers 1:length 2:day
theorem ok_row_sums {f fd : _} (T : Top K mg) (F : L2.Fun K "row_sums" "row_sums" s_row_sums f fd) : FnOk P w K mg base CX0 1 f fd ["numbers", "length"] (spRowSums K) := by
  refine F.ok sc_row_sums (fun vs H Q E h => ?_) (fun cdv A outer s H vs Q E hr h => ?_)
  · obtain ⟨a, ns, k, rfl, _⟩ := h
    rfl
  · obtain ⟨a, ns, k, rfl, hS, k1, k8, kn, hn, q⟩ := h
    refine ⟨_, (pss_one (ps_ret (pe_lc (own := [("day", 2)]) (g := gName 2) (tt := tYes) (by rfl) sc_row_sums.nd (pi_range1 (by rfl) T.z_range (pa_cons (pe_op op_add (pe_op op_sub (pe_callB (lenL (K := K)) (by rfl) T.z_len (by decide +kernel) (pa_cons (pv 0) pa_nil)) (pv 1)) pe_int) pa_nil)) (blkOk_by (N := ["numbers", "length", "day"]) (sc := defScope s_row_sums) (by decide +kernel)) (fun _ _ _ _ _ => pg_name (i := 2) sc_row_sums.nd rfl (Or.inl rfl)) (fun _ _ _ _ _ => pts_nil) (fun _ _ _ _ _ => (pe_callB (sumL (K := K) rfl) (by rfl) T.z_sum (by decide +kernel) (pa_cons (pe_slice (slL (K := K)) (pv 0) (po_some (pv 2)) (po_some (pe_op op_add (pv 2) (pv 1)))) pa_nil)))))), ?_⟩
    walk_at "rds"
    refine ⟨a, _, rfl, hS, ?_⟩
    walk_at "rds"
    have eL : (ns.map V.int).length = ns.length := List.length_map ..
    refine ⟨by rw [eL]; omega, by rw [eL]; omega, fun D hD => ?_⟩
    refine lc_range (lo := 0) (n := ((ns.map V.int).length - k + 1 : Int).toNat) (fun i H3 => Same H H3 ∧ H3 D = some (.lst (((wsums ns k.toNat).take i).map V.int))) ?_ ?_ ?_
    · exact ⟨Same.new hD, upd_same⟩
    · rintro i H3 hi ⟨s3, h3⟩
      have hi2 : i < ns.length + 1 - k.toNat := by rw [eL] at hi; omega
      refine ⟨rfl, ?_⟩
      walk_at "rds"
      refine ⟨a, _, rfl, Same.seq s3 hS, fun p hp => ?_⟩
      have ecut : cutV (ns.map V.int) (some (0 + (i : Int))) (some (0 + (i : Int) + k)) = ((ns.drop i).take k.toNat).map V.int := by
        have e1 : (0 : Int) + (i : Int) = ((i : Nat) : Int) := by omega
        have e2 : ((i : Nat) : Int) + k = ((i + k.toNat : Nat) : Int) := by omega
        rw [e1, e2]
        exact cut_window ns i k.toNat
      have neD : D ≠ p := ne_of_none h3 hp
      refine ⟨p, _, rfl, SqL.of (by rw [upd_same, ecut]), _, (by rw [upd_ne neD]; exact h3), ?_, Same.mut (s3.trans (Same.new hp)) hD, ?_⟩
      · rw [List.length_map, List.length_take, wsums_len]
        exact Nat.lt_of_le_of_lt (Nat.min_le_left _ _) (small1000 (by omega))
      · rw [upd_same, map_take_snoc (wsums_get hi2)]
    · rintro H3 ⟨s3, h3⟩
      refine q H3 D s3 hD ?_
      rw [h3, List.take_of_length_le]
      rw [wsums_len, eL]
      omega

-- 0:numbers 1:length
theorem ok_check_numbers {f fd : _} (T : Top K mg) (F : L2.Fun K "check_numbers" "check_numbers" s_check_numbers f fd)
    (G_is_row : DefOk P w K mg base CX0 2 "is_row" T.f_is_row T.fd_is_row ["thing"] (spIsRow K))
    (G_is_within : DefOk P w K mg base CX0 2 "is_within" T.f_is_within T.fd_is_within ["thing", "low", "high"] (spWithin K)) :
    FnOk P w K mg base CX0 3 f fd ["numbers", "length"] (spNumsOk K) := by
  refine F.ok sc_check_numbers (fun vs H Q E h => ?_) (fun cdv A outer s H vs Q E hr h => ?_)
  · obtain ⟨a, ns, k, rfl, _⟩ := h
    rfl
  · obtain ⟨a, ns, k, rfl, hS, k1, k8, kn, hn, q⟩ := h
    refine ⟨_, (pss_cons (ps_if (pt_not (pt_val (Ws.pc G_is_row hr (pa_cons (pv 0) pa_nil))))
      (pss_one ps_never)
      pss_nil)
      (pss_one (ps_if (pt_not (pt_val (Ws.pc G_is_within hr (pa_cons (pv 1) (pa_cons pe_int (pa_cons (pe_callB (call_min2 rfl) (by rfl) T.z_min (by decide +kernel) (pa_cons (pe_glob (v := .int 8) rfl T.c_GREATEST_LENGTH.choose_spec ⟨_, rfl⟩) (pa_cons (pe_callB (lenL (K := K)) (by rfl) T.z_len (by decide +kernel) (pa_cons (pv 0) pa_nil)) pa_nil))) pa_nil))))))
      (pss_one ps_never)
      pss_nil))), ?_⟩
    have eL : (ns.map V.int).length = ns.length := List.length_map ..
    walk_at "rds"
    refine .inl ⟨a, _, rfl, hS, by omega, ti_ints, fun H1 s1 => ?_⟩
    rw [eL, all_int, decide_eq_true (show 1 ≤ ns.length by omega), decide_eq_true hn]
    walk_at "rds"
    refine ⟨a, _, rfl, Same.seq s1 hS, ?_⟩
    walk_at "rds"
    refine .inl ⟨_, _, _, rfl, ?_⟩
    rw [eL, decide_eq_true k1, decide_eq_true (show k ≤ (if (ns.length : Int) < 8 then (ns.length : Int) else 8) by split <;> omega)]
    walk_at "rds"
    exact q H1 s1

-- 0:sums 1:length
theorem ok_check_sums {f fd : _} (T : Top K mg) (F : L2.Fun K "check_sums" "check_sums" s_check_sums f fd)
    (G_is_row : DefOk P w K mg base CX0 2 "is_row" T.f_is_row T.fd_is_row ["thing"] (spIsRow K))
    (G_is_within : DefOk P w K mg base CX0 2 "is_within" T.f_is_within T.fd_is_within ["thing", "low", "high"] (spWithin K)) :
    FnOk P w K mg base CX0 3 f fd ["sums", "length"] (spSumsOk K) := by
  refine F.ok sc_check_sums (fun vs H Q E h => ?_) (fun cdv A outer s H vs Q E hr h => ?_)
  · obtain ⟨a, ns, k, rfl, _⟩ := h
    rfl
  · obtain ⟨a, ns, k, rfl, hS, n1, k1, k8, kn, q⟩ := h
    refine ⟨_, (pss_cons (ps_if (pt_not (pt_val (Ws.pc G_is_row hr (pa_cons (pv 0) pa_nil))))
      (pss_one ps_never)
      pss_nil)
      (pss_one (ps_if (pt_not (pt_val (Ws.pc G_is_within hr (pa_cons (pv 1) (pa_cons pe_int (pa_cons (pe_callB (call_min2 rfl) (by rfl) T.z_min (by decide +kernel) (pa_cons (pe_glob (v := .int 8) rfl T.c_GREATEST_LENGTH.choose_spec ⟨_, rfl⟩) (pa_cons (pe_op op_sub (pe_op op_add (pe_glob (v := .int 67) rfl T.c_GREATEST_COUNT.choose_spec ⟨_, rfl⟩) pe_int) (pe_callB (lenL (K := K)) (by rfl) T.z_len (by decide +kernel) (pa_cons (pv 0) pa_nil))) pa_nil))) pa_nil))))))
      (pss_one ps_never)
      pss_nil))), ?_⟩
    have eL : (ns.map V.int).length = ns.length := List.length_map ..
    walk_at "rds"
    refine .inl ⟨a, _, rfl, hS, by omega, ti_ints, fun H1 s1 => ?_⟩
    rw [eL, all_int, decide_eq_true n1, decide_eq_true (show ns.length ≤ 67 by omega)]
    walk_at "rds"
    refine ⟨a, _, rfl, Same.seq s1 hS, ?_⟩
    walk_at "rds"
    refine .inl ⟨_, _, _, rfl, ?_⟩
    rw [eL, decide_eq_true k1, decide_eq_true (show k ≤ (if (67 + 1 - (ns.length : Int)) < 8 then (67 + 1 - (ns.length : Int)) else 8) by split <;> omega)]
    walk_at "rds"
    exact q H1 s1

-- 0:day 1:count
theorem ok_check_day {f fd : _} (T : Top K mg) (F : L2.Fun K "check_day" "check_day" s_check_day f fd)
    (G_is_within : DefOk P w K mg base CX0 2 "is_within" T.f_is_within T.fd_is_within ["thing", "low", "high"] (spWithin K)) :
    FnOk P w K mg base CX0 3 f fd ["day", "count"] spDayOk := by
  refine F.ok sc_check_day (fun vs H Q E h => ?_) (fun cdv A outer s H vs Q E hr h => ?_)
  · obtain ⟨d, n, rfl, _⟩ := h
    rfl
  · obtain ⟨d, n, rfl, d0, d1, q⟩ := h
    refine ⟨_, (pss_one (ps_if (pt_not (pt_val (Ws.pc G_is_within hr (pa_cons (pv 0) (pa_cons pe_int (pa_cons (pe_op op_sub (pv 1) pe_int) pa_nil))))))
      (pss_one ps_never)
      pss_nil)), ?_⟩
    walk_at "rds"
    refine .inl ⟨_, _, _, rfl, ?_⟩
    rw [decide_eq_true d0, decide_eq_true (show d ≤ n - 1 by omega)]
    walk_at "rds"
    exact q

-- 0:numbers 1:length
theorem ok_sums_of {f fd : _} (T : Top K mg) (F : L2.Fun K "sums_of" "sums_of" s_sums_of f fd)
    (G_check_numbers : DefOk P w K mg base CX0 3 "check_numbers" T.f_check_numbers T.fd_check_numbers ["numbers", "length"] (spNumsOk K))
    (G_row_sums : DefOk P w K mg base CX0 1 "row_sums" T.f_row_sums T.fd_row_sums ["numbers", "length"] (spRowSums K)) :
    FnOk P w K mg base CX0 4 f fd ["numbers", "length"] (spSumsOf K) := by
  refine F.ok sc_sums_of (fun vs H Q E h => ?_) (fun cdv A outer s H vs Q E hr h => ?_)
  · obtain ⟨a, ns, k, rfl, _⟩ := h
    rfl
  · obtain ⟨a, ns, k, rfl, hS, k1, k8, kn, hn, q⟩ := h
    refine ⟨_, (pss_cons (ps_expr (Ws.pc G_check_numbers hr (pa_cons (pv 0) (pa_cons (pv 1) pa_nil))))
      (pss_one (ps_ret (Ws.pc G_row_sums hr (pa_cons (pv 0) (pa_cons (pv 1) pa_nil)))))), ?_⟩
    walk_at "rds"
    refine ⟨a, ns, k, rfl, hS, k1, k8, kn, hn, fun H1 s1 => ?_⟩
    walk_at "rds"
    refine ⟨a, ns, k, rfl, Same.seq s1 hS, k1, k8, kn, by omega, fun H2 p s2 hp h2 => ?_⟩
    exact q H2 p (s1.trans s2) (Same.free s1 hp) h2

-- 0:sums 1:length
theorem ok_days_of {f fd : _} (T : Top K mg) (F : L2.Fun K "days_of" "days_of" s_days_of f fd)
    (G_check_sums : DefOk P w K mg base CX0 3 "check_sums" T.f_check_sums T.fd_check_sums ["sums", "length"] (spSumsOk K)) :
    FnOk P w K mg base CX0 4 f fd ["sums", "length"] (spDaysOf K) := by
  refine F.ok sc_days_of (fun vs H Q E h => ?_) (fun cdv A outer s H vs Q E hr h => ?_)
  · obtain ⟨a, ns, k, rfl, _⟩ := h
    rfl
  · obtain ⟨a, ns, k, rfl, hS, n1, k1, k8, kn, q⟩ := h
    refine ⟨_, (pss_cons (ps_expr (Ws.pc G_check_sums hr (pa_cons (pv 0) (pa_cons (pv 1) pa_nil))))
      (pss_one (ps_ret (pe_op op_sub (pe_op op_add (pe_callB (lenL (K := K)) (by rfl) T.z_len (by decide +kernel) (pa_cons (pv 0) pa_nil)) (pv 1)) pe_int)))), ?_⟩
    walk_at "rds"
    refine ⟨a, ns, k, rfl, hS, n1, k1, k8, kn, fun H1 s1 => ?_⟩
    walk_at "rds"
    refine ⟨a, _, rfl, Same.seq s1 hS, ?_⟩
    walk_at "rds"
    rw [List.length_map]
    exact q H1 s1

-- 0:sums 1:length 2:day 3:count
theorem ok_tied_days {f fd : _} (T : Top K mg) (F : L2.Fun K "tied_days" "tied_days" s_tied_days f fd)
    (G_days_of : DefOk P w K mg base CX0 4 "days_of" T.f_days_of T.fd_days_of ["sums", "length"] (spDaysOf K))
    (G_check_day : DefOk P w K mg base CX0 3 "check_day" T.f_check_day T.fd_check_day ["day", "count"] spDayOk) :
    FnOk P w K mg base CX0 5 f fd ["sums", "length", "day"] (spTied K) := by
  refine F.ok sc_tied_days (fun vs H Q E h => ?_) (fun cdv A outer s H vs Q E hr h => ?_)
  · obtain ⟨a, ns, k, d, rfl, _⟩ := h
    rfl
  · obtain ⟨a, ns, k, d, rfl, hS, n1, k1, k8, kn, d0, d1, q⟩ := h
    refine ⟨_, (pss_cons (ps_set (i := 3) sc_tied_days.nd rfl (.inl rfl) (Ws.pc G_days_of hr (pa_cons (pv 0) (pa_cons (pv 1) pa_nil))))
      (pss_cons (ps_expr (Ws.pc G_check_day hr (pa_cons (pv 2) (pa_cons (pv 3) pa_nil))))
      (pss_one (ps_ret (Ws.pe_listR3 rfl (by rfl) T.z_list (by rfl) T.z_range (pa_cons (pe_op op_mod (pv 2) (pv 1)) (pa_cons (pv 3) (pa_cons (pv 1) pa_nil)))))))), ?_⟩
    walk_at "rds"
    refine ⟨a, ns, k, rfl, hS, n1, k1, k8, kn, fun H1 s1 => ?_⟩
    walk_at "rds"
    refine ⟨d0, d1, ?_⟩
    walk_at "rds"
    refine ⟨by show (0 : Int) < k; omega, ?_⟩
    walk_at "rds"
    have r0 : 0 ≤ d % k := Int.emod_nonneg _ (by omega)
    have r1 : d % k ≤ d := emod_le_self d0 (by omega)
    have rn : ((ns.length + k - 1 - d % k - 1) / k + 1).toNat ≤ 100000 := by
      have := Int.ediv_le_self k (show 0 ≤ (ns.length + k - 1 - d % k - 1 : Int) by omega)
      omega
    refine ⟨_, _, _, _, rfl, rg_tied r0 (by omega) (by omega) k1 k8, rn, fun p hp => ?_⟩
    refine q _ p (s1.trans (Same.new hp)) (Same.free s1 hp) ?_
    rw [upd_same, rgC_tied]

def spRight (K : PySem.W.Frag) : Sp := fun vs H Q _ => ∃ (J a : Addr) (ns : List Int) (k n : Int), vs = [.ref J, .ref a, .int k] ∧ Jar H J n ∧ n ≤ 900000000 ∧ SqL K (cut J H) a (ns.map V.int) ∧
  1 ≤ k ∧ k ≤ 8 ∧ k ≤ ns.length ∧ ns.length ≤ 67 ∧ Btw (-(2 ^ 200)) (2 ^ 200) ns ∧ ∀ H', Fr J H H' → Jar H' J (n + 3) → Q (.bl true) H'
theorem kb_sums_of_length_numbers {fd : FuncData} {f : Addr} (F : L2.Fun K "sums_of" "sums_of" s_sums_of f fd) : KBinds K fd ["numbers", "length"] ["length", "numbers"] gS2 gS2 := by
  obtain ⟨oc, od, kV, doc, pm, an, cdv, ct, osl, rfl, lk, hcd⟩ := F.ex
  refine ⟨fun s us ws _ h => ?_, rel_S2⟩
  obtain ⟨a, b, rfl, rfl⟩ := S2_inv h
  exact .of_eq rfl
theorem kb_days_of_length_sums {fd : FuncData} {f : Addr} (F : L2.Fun K "days_of" "days_of" s_days_of f fd) : KBinds K fd ["sums", "length"] ["length", "sums"] gS2 gS2 := by
  obtain ⟨oc, od, kV, doc, pm, an, cdv, ct, osl, rfl, lk, hcd⟩ := F.ex
  refine ⟨fun s us ws _ h => ?_, rel_S2⟩
  obtain ⟨a, b, rfl, rfl⟩ := S2_inv h
  exact .of_eq rfl
theorem kb_tied_days_day_length_sums {fd : FuncData} {f : Addr} (F : L2.Fun K "tied_days" "tied_days" s_tied_days f fd) : KBinds K fd ["sums", "length", "day"] ["day", "length", "sums"] gR3 gR3 := by
  obtain ⟨oc, od, kV, doc, pm, an, cdv, ct, osl, rfl, lk, hcd⟩ := F.ex
  refine ⟨fun s us ws _ h => ?_, rel_R3⟩
  obtain ⟨a, b, c, rfl, rfl⟩ := R3_inv h
  exact .of_eq rfl
-- 0:jar 1:numbers_here 2:size 3:before 4:due 5:told 6:turn 7:spot 8:alike 9:one
theorem ok_right {f fd : _} (T : Top K mg) (F : L2.Fun K "_law_right" "_law_right" s__law_right f fd)
    (G__law_dip : DefOk P w K mg base CX0 1 "_law_dip" T.f__law_dip T.fd__law_dip ["jar", "many"] spDip)
    (G__law_sums : DefOk P w K mg base CX0 1 "_law_sums" T.f__law_sums T.fd__law_sums ["numbers_here", "size"] (spSums K))
    (G_sums_of : DefOk P w K mg base CX0 4 "sums_of" T.f_sums_of T.fd_sums_of ["numbers", "length"] (spSumsOf K))
    (G_days_of : DefOk P w K mg base CX0 4 "days_of" T.f_days_of T.fd_days_of ["sums", "length"] (spDaysOf K))
    (G_tied_days : DefOk P w K mg base CX0 5 "tied_days" T.f_tied_days T.fd_tied_days ["sums", "length", "day"] (spTied K)) :
    FnG P w K mg base CX0 6 f fd ["jar", "numbers_here", "size"] (spRight K) := by
  have kb_sums_of_length_numbers := kb_sums_of_length_numbers T.F_sums_of
  have kb_days_of_length_sums := kb_days_of_length_sums T.F_days_of
  have kb_tied_days_day_length_sums := kb_tied_days_day_length_sums T.F_tied_days
  refine okG F sc__law_right (fun vs H Q E h => ?_) (fun cdv A outer s H vs Q E hr gu h => ?_)
  · obtain ⟨J, a, ns, k, n, rfl, _⟩ := h
    rfl
  · obtain ⟨J, a, ns, k, n, rfl, hJ, hn, hS, k1, k8, kn, n67, hB, q⟩ := h
    refine ⟨_, (pss_cons (ps_par (i := 3) (j := 4) (by rfl) sc__law_right.nd rfl rfl (by decide) rfl rfl (pa_cons (pe_callTy (listL (K := K)) (by rfl) T.z_list (by decide +kernel) (pa_cons (pv 1) pa_nil)) (pa_cons (Ws.pc G__law_sums hr (pa_cons (pv 1) (pa_cons (pv 2) pa_nil))) pa_nil)) (by rfl))
      (pss_cons (ps_set (i := 5) sc__law_right.nd rfl (.inl rfl) (Ws.pckw G_sums_of hr kb_sums_of_length_numbers (pk_cons (pv 2) (pk_cons (pv 1) pk_nil))))
      (pss_cons (ps_if (PW.pt (pw_or (pt_cmpR op_ne (pe_callB (reprL (K := K) gu hr.units) (by rfl) T.z_repr (by decide +kernel) (pa_cons (pv 5) pa_nil)) (pe_callB (reprL (K := K) gu hr.units) (by rfl) T.z_repr (by decide +kernel) (pa_cons (pv 4) pa_nil)) (nomark _)) (pw_or1 (pt_cmpR (neL (K := K) hr.units) (pv 1) (pv 3) (nomark _)))))
      (pss_one (ps_ret pe_bl))
      pss_nil)
      (pss_cons (ps_expr (bmK (K := K) (pe_bm PySem.F.plainAttrs_list PySem.F.slot_list_append PySem.F.type_list_append mt_append (pv 5) (pa_cons pe_non pa_nil))))
      (pss_cons (ps_if (pt_cmpR (neL (K := K) hr.units) (Ws.pc G_sums_of hr (pa_cons (pv 1) (pa_cons (pv 2) pa_nil))) (pv 4) (nomark _))
      (pss_one (ps_ret pe_bl))
      pss_nil)
      (pss_cons (ps_if (pt_cmpR op_ne (pe_callB (reprL (K := K) gu hr.units) (by rfl) T.z_repr (by decide +kernel) (pa_cons (Ws.pckw G_days_of hr kb_days_of_length_sums (pk_cons (pv 2) (pk_cons (pv 4) pk_nil))) pa_nil)) (pe_callB (reprL (K := K) gu hr.units) (by rfl) T.z_repr (by decide +kernel) (pa_cons (pe_callB (lenL (K := K)) (by rfl) T.z_len (by decide +kernel) (pa_cons (pv 1) pa_nil)) pa_nil)) (nomark _))
      (pss_one (ps_ret pe_bl))
      pss_nil)
      (pss_cons (ps_for PassesOwn.never rfl (pi_range1 (by rfl) T.z_range (pa_cons pe_int pa_nil)) (pg_name (i := 6) sc__law_right.nd rfl (.inl rfl))
      (pss_cons (ps_set (i := 7) sc__law_right.nd rfl (.inr rfl) (Ws.pc G__law_dip hr (pa_cons (pv 0) (pa_cons (pe_callB (lenL (K := K)) (by rfl) T.z_len (by decide +kernel) (pa_cons (pv 1) pa_nil)) pa_nil))))
      (pss_cons (ps_setLc (i := 8) (own := [("one", 9)]) (g := gName 9) (by rfl) sc__law_right.nd rfl rfl (sw_true rfl rfl rfl (by decide +kernel)) (pi_range1 (by rfl) T.z_range (pa_cons (pe_callB (lenL (K := K)) (by rfl) T.z_len (by decide +kernel) (pa_cons (pv 1) pa_nil)) pa_nil)) (blkOk_by (N := ["jar", "numbers_here", "size", "before", "due", "told", "turn", "spot", "alike", "one"]) (sc := defScope s__law_right) (by decide +kernel)) (fun _ _ _ _ _ => pg_name (i := 9) sc__law_right.nd rfl (Or.inl rfl)) (fun _ _ _ _ _ => (pts_one (pt_cmpR op_eq (pe_op op_mod (pe_callTy intI (by rfl) T.z_int (by decide +kernel) (pa_cons (pe_op op_sub (pv 9) (pv 7)) pa_nil)) (pv 2)) pe_int (nomark _)))) (fun _ _ _ _ _ => (pv 9)))
      (pss_cons (ps_set (i := 5) sc__law_right.nd rfl (.inl rfl) (Ws.pckw G_tied_days hr kb_tied_days_day_length_sums (pk_cons (pv 7) (pk_cons (pv 2) (pk_cons (pv 4) pk_nil)))))
      (pss_cons (ps_if (pt_cmpR op_ne (pe_callB (reprL (K := K) gu hr.units) (by rfl) T.z_repr (by decide +kernel) (pa_cons (pv 5) pa_nil)) (pe_callB (reprL (K := K) gu hr.units) (by rfl) T.z_repr (by decide +kernel) (pa_cons (pv 8) pa_nil)) (nomark _))
      (pss_one (ps_ret pe_bl))
      pss_nil)
      (pss_cons (ps_expr (bmK (K := K) (pe_bm PySem.F.plainAttrs_list PySem.F.slot_list_append PySem.F.type_list_append mt_append (pv 5) (pa_cons pe_non pa_nil))))
      (pss_one (ps_if (pt_cmpR (neL (K := K) hr.units) (Ws.pc G_tied_days hr (pa_cons (pv 4) (pa_cons (pv 2) (pa_cons (pv 7) pa_nil)))) (pv 8) (nomark _))
      (pss_one (ps_ret pe_bl))
      pss_nil))))))))
      (pss_one (ps_ret (pe_cmpR (eqL (K := K) hr.units) (pv 4) (Ws.pc G__law_sums hr (pa_cons (pv 1) (pa_cons (pv 2) pa_nil))) (nomark _))))))))))), ?_⟩
    have hA : SqL K H a (ns.map V.int) := SqL.in hS
    have wl : (wsums ns k.toNat).length = ns.length + 1 - k.toNat := wsums_len ns k.toNat
    have wS : Sml (wsums ns k.toNat) := Sml.btw (wsums_btw (B := 2 ^ 200) (by decide) hB (by omega)) (by decide +kernel) (by decide +kernel)
    walk_at "rds"
    refine ⟨a, _, rfl, hA, fun b hb => ?_⟩
    have nb : b ≠ J := hJ.out hb
    have s1 : Same H (upd H b (.lst (ns.map V.int))) := Same.new hb
    walk_at "rds"
    refine ⟨a, ns, k, rfl, Same.seq s1 hA, k1, kn, by omega, fun H2 u s2 hu h2 => ?_⟩
    have hb2 := s2 b _ upd_same
    have s02 := s1.trans s2
    have nu : u ≠ J := (hJ.same s1).out hu
    have fu : H u = none := Same.free s1 hu
    walk_at "rds"
    refine ⟨a, ns, k, rfl, Same.seq s02 hA, k1, k8, kn, n67, fun H3 t s3 ht h3 => ?_⟩
    walk_at "rds"
    refine ⟨_, dI (wsums ns k.toNat), rfl, Dp.ints (SqL.of h3), shw_ints wS (by omega), ?_⟩
    walk_at "rds"
    refine ⟨_, dI (wsums ns k.toNat), rfl, Dp.ints (SqL.of (s3 u _ h2)), shw_ints wS (by omega), ?_⟩
    walk_at "rds"
    refine iteNS rfl ?_
    walk_at "rds"
    refine ⟨dI ns, dI ns, Dp.ints (Same.seq (s02.trans s3) hA), Dp.ints (SqL.of (s3 b _ hb2)), shaped_ints _, shaped_ints _, ?_⟩
    rw [eqv_ints, decide_eq_true rfl]
    walk_at "rds"
    refine ⟨.inl ⟨rfl, _, SqL.of h3⟩, ?_⟩
    walk_at "rds"
    refine ⟨t, _, _, rfl, rfl, h3, ?_, ?_⟩
    · rw [List.length_map, wl]
      exact small1000 (by omega)
    have s4 : Same H2 (upd H3 t (.lst ((wsums ns k.toNat).map V.int ++ [.non]))) := Same.mut s3 ht
    walk_at "rds"
    refine ⟨a, ns, k, rfl, Same.seq (s02.trans s4) hA, k1, k8, kn, n67, fun H5 t2 s5 ht2 h5 => ?_⟩
    have s25 := s4.trans s5
    walk_at "rds"
    refine ⟨dI (wsums ns k.toNat), dI (wsums ns k.toNat), Dp.ints (SqL.of h5), Dp.ints (SqL.of (s25 u _ h2)), shaped_ints _, shaped_ints _, ?_⟩
    rw [eqv_ints, decide_eq_true rfl]
    walk_at "rds"
    refine ⟨u, _, k, rfl, SqL.of (s25 u _ h2), by omega, k1, k8, by omega, fun H6 s6 => ?_⟩
    have s26 := s25.trans s6
    have s06 := s02.trans s26
    have eC : ((wsums ns k.toNat).length : Int) + k - 1 = ns.length := by omega
    rw [eC]
    have lC : ((ns.length : Nat) : Int).natAbs.log2 < 1000 := log_of (by decide) (by omega) (by omega)
    walk_at "rds"
    refine ⟨_, .int ns.length, rfl, .int _, shw_int lC, ?_⟩
    walk_at "rds"
    refine ⟨a, _, rfl, Same.seq s06 hA, ?_⟩
    rw [List.length_map]
    walk_at "rds"
    refine ⟨_, .int ns.length, rfl, .int _, shw_int lC, ?_⟩
    walk_at "rds"
    refine iteNS rfl ?_
    walk_at "rds"
    refine ⟨by decide, by decide, for_range (fun i σ H' => ∃ x5 x6 x7 x8 x9, σ = [some (.ref J), some (.ref a), some (.int k), some (.ref b), some (.ref u), x5, x6, x7, x8, x9] ∧ Fr J H H' ∧ Jar H' J (n + i) ∧ H' u = some (.lst ((wsums ns k.toNat).map V.int))) ?_ ?_ ?_⟩
    · exact ⟨_, _, _, _, _, rfl, Fr.of s06, (hJ.same s06).mono (by omega), s26 u _ h2⟩
    · rintro i σ H' hi ⟨x5, x6, x7, x8, x9, rfl, f1, J1, u1⟩
      have hi3 : i < 3 := hi
      have hA1 : SqL K H' a (ns.map V.int) := SqL.in (SqL.up f1 hS)
      walk_at "rds"
      refine ⟨a, _, rfl, hA1, ?_⟩
      rw [List.length_map]
      walk_at "rds"
      refine ⟨J, ns.length, n + i, rfl, J1, by omega, by omega, by omega, fun H7 d f2 J2 d0 d1 => ?_⟩
      have f12 := f1.trans f2
      have u2 := f2.get nu u1
      have hA2 : SqL K H7 a (ns.map V.int) := SqL.in (SqL.up f12 hS)
      walk_at "rds"
      refine ⟨a, _, rfl, hA2, ?_⟩
      rw [List.length_map]
      walk_at "rds"
      refine ⟨by omega, by omega, fun D hD => ?_⟩
      have nD : D ≠ J := J2.out hD
      refine lc_range (lo := 0) (n := ns.length) (fun j H8 => Same H7 H8 ∧ H8 D = some (.lst ((picked j (fun m => decide ((m - d) % k = 0))).map V.int))) ?_ ?_ ?_
      · exact ⟨Same.new hD, upd_same⟩
      · rintro j H8 hj ⟨s8, h8⟩
        refine ⟨rfl, ?_⟩
        walk_at "rds"
        refine ⟨by show 0 < k; omega, ?_⟩
        walk_at "rds"
        have ej : (0 : Int) + (j : Int) = (j : Int) := by omega
        rw [ej]
        refine ite2 (fun z => ?_) (fun z => ?_)
        · have z2 : ((j : Int) - d) % k = 0 := V.int.inj (of_decide_eq_true z)
          walk_at "rds"
          refine ⟨_, h8, ?_, Same.mut s8 hD, ?_⟩
          · rw [List.length_map]
            exact Nat.lt_of_le_of_lt (picked_len _ _) (small1000 (by omega))
          · rw [upd_same, picked_yes (decide_eq_true z2), List.map_append]
            rfl
        · have z2 : ¬ ((j : Int) - d) % k = 0 := fun y => z (decide_eq_true (congrArg V.int y))
          refine ⟨s8, ?_⟩
          rw [picked_no (decide_eq_false z2)]
          exact h8
      · rintro H8 ⟨s8, h8⟩
        rw [picked_tied k1 d0 d1] at h8
        have eN : (ns.length : Int) = (wsums ns k.toNat).length + k - 1 := by omega
        have tS : Btw 0 100 (tied (d % k) k ns.length) := fun x hx => by
          have := (mem_tied (Int.emod_nonneg d (by omega)) (Int.emod_lt_of_pos d (by omega)) k1 (by have := emod_le_self d0 (show 0 < k by omega); omega)).mp hx
          omega
        have tM : Sml (tied (d % k) k ns.length) := Sml.btw tS (by decide +kernel) (by decide +kernel)
        have tL : (tied (d % k) k ns.length).length ≤ 1000 := by
          rw [← picked_tied k1 d0 d1]
          exact Nat.le_trans (picked_len _ _) (by omega)
        walk_at "rds"
        refine ⟨u, wsums ns k.toNat, k, d, rfl, SqL.of (s8 u _ u2), by omega, k1, k8, by omega, d0, by omega, fun H9 t9 s9 ht9 h9 => ?_⟩
        rw [← eN] at h9
        walk_at "rds"
        refine ⟨_, dI (tied (d % k) k ns.length), rfl, Dp.ints (SqL.of h9), shw_ints tM tL, ?_⟩
        walk_at "rds"
        refine ⟨_, dI (tied (d % k) k ns.length), rfl, Dp.ints (SqL.of (s9 D _ h8)), shw_ints tM tL, ?_⟩
        walk_at "rds"
        refine iteNS rfl ?_
        walk_at "rds"
        refine ⟨.inl ⟨rfl, _, SqL.of h9⟩, ?_⟩
        walk_at "rds"
        refine ⟨t9, _, _, rfl, rfl, h9, ?_, ?_⟩
        · rw [List.length_map]
          exact small1000 tL
        have s10 : Same H8 (upd H9 t9 (.lst ((tied (d % k) k ns.length).map V.int ++ [.non]))) := Same.mut s9 ht9
        walk_at "rds"
        refine ⟨u, wsums ns k.toNat, k, d, rfl, SqL.of (s10 u _ (s8 u _ u2)), by omega, k1, k8, by omega, d0, by omega, fun H11 t11 s11 ht11 h11 => ?_⟩
        rw [← eN] at h11
        have s12 := s10.trans s11
        walk_at "rds"
        refine ⟨dI (tied (d % k) k ns.length), dI (tied (d % k) k ns.length), Dp.ints (SqL.of h11), Dp.ints (SqL.of (s12 D _ h8)), shaped_ints _, shaped_ints _, ?_⟩
        rw [eqv_ints, decide_eq_true rfl]
        have s13 := s8.trans s12
        walk_at "rds"
        exact ⟨_, _, _, _, _, rfl, f12.trans (Fr.of s13), (J2.same s13).mono (by omega), s13 u _ u2⟩
    · rintro σ H' ⟨x5, x6, x7, x8, x9, rfl, f1, J1, u1⟩
      walk_at "rds"
      refine ⟨a, ns, k, rfl, SqL.in (SqL.up f1 hS), k1, kn, by omega, fun H2 v s2 hv h2 => ?_⟩
      walk_at "rds"
      refine ⟨dI (wsums ns k.toNat), dI (wsums ns k.toNat), Dp.ints (SqL.of (s2 u _ u1)), Dp.ints (SqL.of h2), shaped_ints _, shaped_ints _, ?_⟩
      rw [eqv_ints, decide_eq_true rfl]
      exact q H2 (f1.trans (Fr.of s2)) (J1.same s2)
def spLaw (K : PySem.W.Frag) : Sp := fun vs H Q _ => ∃ (a : Addr) (ns : List Int), vs = [.ref a] ∧ SqL K H a (ns.map V.int) ∧ ns.length ≤ 63 ∧ ∀ H', Q (.bl true) H'
-- 0:script 1:k 2:jar 3:turn 4:size 5:many 6:top 7:less 8:some 9:told 10:one
theorem ok_law {f fd : _} (T : Top K mg) (F : L2.Fun K "law" "law" s_law f fd) : FnG P w K mg base CX0 7 f fd ["script"] (spLaw K) := by
  have G__law_dip : DefOk P w K mg base CX0 1 "_law_dip" T.f__law_dip T.fd__law_dip ["jar", "many"] spDip := ⟨ok_dip T T.F__law_dip, T.g__law_dip, T.F__law_dip.kp, T.b__law_dip⟩
  have G__law_jar : DefOk P w K mg base CX0 1 "_law_jar" T.f__law_jar T.fd__law_jar ["script", "k"] (spJar K) := ⟨ok_jar T T.F__law_jar, T.g__law_jar, T.F__law_jar.kp, T.b__law_jar⟩
  have G__law_sums : DefOk P w K mg base CX0 1 "_law_sums" T.f__law_sums T.fd__law_sums ["numbers_here", "size"] (spSums K) := ⟨ok_sums T T.F__law_sums, T.g__law_sums, T.F__law_sums.kp, T.b__law_sums⟩
  have G__law_days : DefOk P w K mg base CX0 2 "_law_days" T.f__law_days T.fd__law_days ["jar", "many", "top"] spDays := ⟨ok_days T T.F__law_days G__law_dip, T.g__law_days, T.F__law_days.kp, T.b__law_days⟩
  have G__law_top : DefOk P w K mg base CX0 2 "_law_top" T.f__law_top T.fd__law_top ["jar"] spTop := ⟨ok_top T T.F__law_top G__law_dip, T.g__law_top, T.F__law_top.kp, T.b__law_top⟩
  have G__law_high : DefOk P w K mg base CX0 3 "_law_high" T.f__law_high T.fd__law_high ["jar", "parts"] spHigh := ⟨ok_high T T.F__law_high G__law_top, T.g__law_high, T.F__law_high.kp, T.b__law_high⟩
  have G__law_size : DefOk P w K mg base CX0 2 "_law_size" T.f__law_size T.fd__law_size ["jar", "most_days"] spSize := ⟨ok_size T T.F__law_size G__law_dip, T.g__law_size, T.F__law_size.kp, T.b__law_size⟩
  have G_is_integer : DefOk P w K mg base CX0 1 "is_integer" T.f_is_integer T.fd_is_integer ["thing"] (spIsInt K) := ⟨ok_is_integer T T.F_is_integer, T.g_is_integer, T.F_is_integer.kp, T.b_is_integer⟩
  have G_is_within : DefOk P w K mg base CX0 2 "is_within" T.f_is_within T.fd_is_within ["thing", "low", "high"] (spWithin K) := ⟨ok_is_within T T.F_is_within G_is_integer, T.g_is_within, T.F_is_within.kp, T.b_is_within⟩
  have G_is_row : DefOk P w K mg base CX0 2 "is_row" T.f_is_row T.fd_is_row ["thing"] (spIsRow K) := ⟨ok_is_row T T.F_is_row G_is_integer, T.g_is_row, T.F_is_row.kp, T.b_is_row⟩
  have G_check_numbers : DefOk P w K mg base CX0 3 "check_numbers" T.f_check_numbers T.fd_check_numbers ["numbers", "length"] (spNumsOk K) := ⟨ok_check_numbers T T.F_check_numbers G_is_row G_is_within, T.g_check_numbers, T.F_check_numbers.kp, T.b_check_numbers⟩
  have G_check_sums : DefOk P w K mg base CX0 3 "check_sums" T.f_check_sums T.fd_check_sums ["sums", "length"] (spSumsOk K) := ⟨ok_check_sums T T.F_check_sums G_is_row G_is_within, T.g_check_sums, T.F_check_sums.kp, T.b_check_sums⟩
  have G_check_day : DefOk P w K mg base CX0 3 "check_day" T.f_check_day T.fd_check_day ["day", "count"] spDayOk := ⟨ok_check_day T T.F_check_day G_is_within, T.g_check_day, T.F_check_day.kp, T.b_check_day⟩
  have G_row_sums : DefOk P w K mg base CX0 1 "row_sums" T.f_row_sums T.fd_row_sums ["numbers", "length"] (spRowSums K) := ⟨ok_row_sums T T.F_row_sums, T.g_row_sums, T.F_row_sums.kp, T.b_row_sums⟩
  have G_sums_of : DefOk P w K mg base CX0 4 "sums_of" T.f_sums_of T.fd_sums_of ["numbers", "length"] (spSumsOf K) := ⟨ok_sums_of T T.F_sums_of G_check_numbers G_row_sums, T.g_sums_of, T.F_sums_of.kp, T.b_sums_of⟩
  have G_days_of : DefOk P w K mg base CX0 4 "days_of" T.f_days_of T.fd_days_of ["sums", "length"] (spDaysOf K) := ⟨ok_days_of T T.F_days_of G_check_sums, T.g_days_of, T.F_days_of.kp, T.b_days_of⟩
  have G_tied_days : DefOk P w K mg base CX0 5 "tied_days" T.f_tied_days T.fd_tied_days ["sums", "length", "day"] (spTied K) := ⟨ok_tied_days T T.F_tied_days G_days_of G_check_day, T.g_tied_days, T.F_tied_days.kp, T.b_tied_days⟩
  have G__law_right : DefG P w K mg base CX0 6 "_law_right" T.f__law_right T.fd__law_right ["jar", "numbers_here", "size"] (spRight K) := ⟨ok_right T T.F__law_right G__law_dip G__law_sums G_sums_of G_days_of G_tied_days, T.g__law_right, T.F__law_right.kp, T.b__law_right⟩
  refine okG F sc_law (fun vs H Q E h => ?_) (fun cdv A outer s H vs Q E hr gu h => ?_)
  · obtain ⟨a, ns, rfl, _⟩ := h
    rfl
  · obtain ⟨a, ns, rfl, hS, n63, q⟩ := h
    refine ⟨_, (pss_cons (ps_for PassesOwn.never rfl (pi_range1 (by rfl) T.z_range (pa_cons (pe_callB (call_max2 rfl) (by rfl) T.z_max (by decide +kernel) (pa_cons pe_int (pa_cons (pe_callB (call_min2 rfl) (by rfl) T.z_min (by decide +kernel) (pa_cons pe_int (pa_cons (pe_callB (lenL (K := K)) (by rfl) T.z_len (by decide +kernel) (pa_cons (pv 0) pa_nil)) pa_nil))) pa_nil))) pa_nil)) (pg_name (i := 1) sc_law.nd rfl (.inl rfl))
      (pss_cons (ps_set (i := 2) sc_law.nd rfl (.inl rfl) (Ws.pc G__law_jar hr (pa_cons (pv 0) (pa_cons (pv 1) pa_nil))))
      (pss_one (ps_for PassesOwn.never rfl (pi_range1 (by rfl) T.z_range (pa_cons pe_int pa_nil)) (pg_name (i := 3) sc_law.nd rfl (.inl rfl))
      (pss_cons (ps_asg (Ws.pc G__law_size hr (pa_cons (pv 2) (pa_cons pe_int pa_nil))) (pgT (K := K) (n := 2) (by rfl) (pgs_cons (pg_name (i := 4) sc_law.nd rfl (.inl rfl)) (pgs_cons (pg_name (i := 5) sc_law.nd rfl (.inl rfl)) pgs_nil))))
      (pss_cons (ps_set (i := 6) sc_law.nd rfl (.inl rfl) (Ws.pc G__law_high hr (pa_cons (pv 2) (pa_cons pe_int pa_nil))))
      (Evl.pss_cut (ps_set (i := 7) sc_law.nd rfl (.inr rfl) (pe_ix (ixL (K := K)) (pe_lst (pa_cons pe_int (pa_cons (pv 6) (pa_cons (pe_op op_fdivW (pv 6) pe_int) pa_nil)))) (Ws.pc G__law_dip hr (pa_cons (pv 2) (pa_cons pe_int pa_nil))) (fun _ _ => rfl)))
      (pss_cons (ps_setLc (i := 8) (own := [("one", 10)]) (g := gName 10) (tt := tYes) (by rfl) sc_law.nd rfl rfl (sw_true rfl rfl rfl (by decide +kernel)) (piL (K := K) (Ws.pc G__law_days hr (pa_cons (pv 2) (pa_cons (pv 5) (pa_cons (pv 6) pa_nil))))) (blkOk_by (N := ["script", "k", "jar", "turn", "size", "many", "top", "less", "some", "told", "one"]) (sc := defScope s_law) (by decide +kernel)) (fun _ _ _ _ _ => pg_name (i := 10) sc_law.nd rfl (Or.inl rfl)) (fun _ _ _ _ _ => pts_nil) (fun _ _ _ _ _ => (pe_op op_sub (pv 10) (pv 7))))
      (pss_one (ps_if (pt_not (pt_val (Ws.pg G__law_right hr gu (pa_cons (pv 2) (pa_cons (pv 8) (pa_cons (pv 4) pa_nil))))))
      (pss_one (ps_ret pe_bl))
      pss_nil))))))))))
      (pss_cons (ps_set (i := 2) sc_law.nd rfl (.inl rfl) (Ws.pc G__law_jar hr (pa_cons (pv 0) (pa_cons pe_int pa_nil))))
      (pss_cons (ps_for PassesOwn.never rfl (piT (K := K) (pe_tup (pa_cons pe_int (pa_cons pe_int (pa_cons (pe_op op_add pe_int (Ws.pc G__law_dip hr (pa_cons (pv 2) (pa_cons pe_int pa_nil)))) pa_nil))))) (pg_name (i := 4) sc_law.nd rfl (.inl rfl))
      (pss_cons (ps_if (pt_not (pt_val (Ws.pg G__law_right hr gu (pa_cons (pv 2) (pa_cons (Ws.pc G__law_days hr (pa_cons (pv 2) (pa_cons pe_int (pa_cons (pe_op Ws.op_powG pe_int pe_int) pa_nil)))) (pa_cons (pv 4) pa_nil))))))
      (pss_one (ps_ret pe_bl))
      pss_nil)
      (pss_one (ps_if (pt_not (pt_val (Ws.pg G__law_right hr gu (pa_cons (pv 2) (pa_cons (Ws.pc G__law_days hr (pa_cons (pv 2) (pa_cons (pe_op op_add pe_int (Ws.pc G__law_dip hr (pa_cons (pv 2) (pa_cons pe_int pa_nil)))) (pa_cons pe_int pa_nil)))) (pa_cons (pv 4) pa_nil))))))
      (pss_one (ps_ret pe_bl))
      pss_nil))))
      (pss_cons (ps_set (i := 9) sc_law.nd rfl (.inl rfl) (pe_lst (pa_cons (Ws.pc G_sums_of hr (pa_cons (pe_lst (pa_cons pe_int (pa_cons pe_int (pa_cons pe_int (pa_cons pe_int (pa_cons pe_int pa_nil)))))) (pa_cons pe_int pa_nil))) (pa_cons (Ws.pc G_sums_of hr (pa_cons (pe_lst (pa_cons pe_int pa_nil)) (pa_cons pe_int pa_nil))) (pa_cons (Ws.pc G_sums_of hr (pa_cons (pe_lst (pa_cons pe_int (pa_cons (pe_un un_neg pe_int) (pa_cons pe_int pa_nil)))) (pa_cons pe_int pa_nil))) (pa_cons (Ws.pc G_days_of hr (pa_cons (pe_lst (pa_cons pe_int (pa_cons pe_int (pa_cons pe_int pa_nil)))) (pa_cons pe_int pa_nil))) pa_nil))))))
      (pss_one (ps_ret (pe_and (pe_cmpR (eqL (K := K) hr.units) (pv 9) (pe_lst (pa_cons (pe_lst (pa_cons pe_int (pa_cons pe_int (pa_cons pe_int pa_nil)))) (pa_cons (pe_lst (pa_cons pe_int pa_nil)) (pa_cons (pe_lst (pa_cons pe_int (pa_cons pe_int pa_nil))) (pa_cons pe_int pa_nil))))) (nomark _)) (pe_one (pe_cmpR (eqL (K := K) hr.units) (Ws.pc G_tied_days hr (pa_cons (pe_lst (pa_cons pe_int (pa_cons pe_int (pa_cons pe_int pa_nil)))) (pa_cons pe_int (pa_cons pe_int pa_nil)))) (pe_lst (pa_cons pe_int (pa_cons pe_int pa_nil))) (nomark _)))))))))), ?_⟩
    walk_at "rds"
    refine ⟨a, _, rfl, hS, ?_⟩
    rw [List.length_map]
    walk_at "rds"
    refine ⟨by split <;> split <;> omega, by split <;> split <;> omega, for_range (fun i σ H' => ∃ x1 x2 x3 x4 x5 x6 x7 x8 x9 x10, σ = [some (.ref a), x1, x2, x3, x4, x5, x6, x7, x8, x9, x10] ∧ Same H H') ?_ ?_ ?_⟩
    · exact ⟨_, _, _, _, _, _, _, _, _, _, rfl, Same.refl H⟩
    · rintro i σ H' hi ⟨x1, x2, x3, x4, x5, x6, x7, x8, x9, x10, rfl, s1⟩
      have i5 : i < 64 := by
        revert hi
        split <;> split <;> omega
      walk_at "rds"
      refine ⟨a, ns, _, rfl, Same.seq s1 hS, by omega, by omega, fun H1 J s2 nJ J1 => ?_⟩
      walk_at "rds"
      refine ⟨by decide, by decide, for_range (fun t σ H2 => ∃ x3 x4 x5 x6 x7 x8 x9 x10, σ = [some (.ref a), some (.int (0 + (i : Int))), some (.ref J), x3, x4, x5, x6, x7, x8, x9, x10] ∧ Fr J H1 H2 ∧ Jar H2 J (1000 * t)) ?_ ?_ ?_⟩
      · exact ⟨_, _, _, _, _, _, _, _, rfl, Fr.refl, J1.mono (by omega)⟩
      · rintro t σ H2 ht ⟨x3, x4, x5, x6, x7, x8, x9, x10, rfl, f1, J2⟩
        have t3 : t < 3 := ht
        walk_at "rds"
        refine ⟨J, 24, 1000 * t, rfl, J2, by omega, by decide, by decide, fun H3 p k c f2 J3 np hp k1 k8 kc c24 => ?_⟩
        walk_at "rds"
        refine ⟨p, _, rfl, SqT.of hp, rfl, _, _, rfl, _, _, rfl, rfl, ?_⟩
        walk_at "rds"
        refine ⟨J, 10, 1000 * t + 2, rfl, J3, by omega, by decide, by decide, fun H4 m f3 J4 m0 m1 mq => ?_⟩
        refine ⟨fun σ' H5 => ∃ (l : Int) (x3 x8 x9 x10 : _), σ' = [some (.ref a), some (.int (0 + (i : Int))), some (.ref J), x3, some (.int k), some (.int c), some (.int m), some (.int l), x8, x9, x10] ∧ 0 ≤ l ∧ l ≤ m ∧ Fr J H1 H5 ∧ Jar H5 J (1000 * t + 5), ?_, ?_⟩
        · walk_at "rds"
          refine ⟨divOk (n := 4) (by decide) (by decide) (by decide) (by decide), ?_⟩
          walk_at "rds"
          refine ⟨by show 3 ≤ sizeLine; decide, fun g hg => ?_⟩
          have ng : g ≠ J := J4.out hg
          walk_at "rds"
          refine ⟨J, 3, 1000 * t + 4, rfl, (J4.new hg).mono (by omega), by omega, by decide, by decide +kernel, fun H6 d f4 J6 d0 d1 => ?_⟩
          have g6 := f4.get ng upd_same
          have f5 := ((f1.trans (f2.trans f3)).trans (Fr.of (Same.new hg))).trans f4
          have h2 : 0 ≤ m / 2 := Int.ediv_nonneg m0 (by decide)
          have h3 : m / 2 ≤ m := Int.ediv_le_self 2 m0
          have d012 : d = 0 ∨ d = 1 ∨ d = 2 := by omega
          rcases d012 with e | e | e
          · exact ⟨g, _, d, .int 0, rfl, rfl, SqL.of g6, by rw [e]; rfl, 0, _, _, _, _, rfl, Int.le_refl 0, m0, f5, J6.mono (by omega)⟩
          · exact ⟨g, _, d, .int m, rfl, rfl, SqL.of g6, by rw [e]; rfl, m, _, _, _, _, rfl, m0, Int.le_refl m, f5, J6.mono (by omega)⟩
          · exact ⟨g, _, d, .int (m / 2), rfl, rfl, SqL.of g6, by rw [e]; rfl, m / 2, _, _, _, _, rfl, h2, h3, f5, J6.mono (by omega)⟩
        · rintro σ' H5 ⟨l, y3, y8, y9, y10, rfl, l0, lm, f5, J5⟩
          walk_at "rds"
          refine ⟨J, c, m, 1000 * t + 5, rfl, J5, by omega, by omega, by omega, m0, by omega, fun H6 D ms f6 J6 nD hD ml mb => ?_⟩
          have nDJ : D ≠ J := by
            intro e
            rw [e] at nD
            obtain ⟨_, _, _, z, _⟩ := J5
            rw [nD] at z
            cases z
          walk_at "rds"
          refine ⟨⟨_, SqL.of hD⟩, fun D2 hD2 => ?_⟩
          refine lc_list (K := K) (a := D) (xs := ms.map V.int) (fun r H7 => Same H6 H7 ∧ H7 D2 = some (.lst (((ms.map (fun x => x - l)).take r).map V.int))) ?_ ?_ ?_ ?_
          · exact ⟨Same.new hD2, upd_same⟩
          · rintro r H7 _ ⟨s7, _⟩
            exact SqL.of (s7 D _ hD)
          · rintro r x H7 hx ⟨s7, h7⟩
            obtain ⟨y, hy, rfl⟩ := int_at hx
            refine ⟨rfl, ?_⟩
            walk_at "rds"
            refine ⟨_, h7, ?_, Same.mut s7 hD2, ?_⟩
            · rw [List.length_map, List.length_take, List.length_map]
              exact Nat.lt_of_le_of_lt (Nat.min_le_right _ _) (small1000 (by omega))
            · rw [upd_same, map_take_snoc (x := y - l) (by rw [List.getElem?_map, hy]; rfl)]
          · rintro H7 ⟨s7, h7⟩
            rw [List.length_map, List.take_of_length_le (by rw [List.length_map]; exact Nat.le_refl _)] at h7
            have nD2 : D2 ≠ J := J6.out hD2
            walk_at "rds"
            refine ⟨J, D2, ms.map (fun x => x - l), k, 1000 * t + 5 + 2 * c + 1, rfl, J6.same s7, by omega, SqL.of (by rw [cut_ne nD2]; exact h7), k1, k8, by rw [List.length_map]; omega, by rw [List.length_map]; omega, ?_, fun H8 f8 J8 => ?_⟩
            · intro z hz
              obtain ⟨y, hy, rfl⟩ := List.mem_map.mp hz
              have := mb y hy
              omega
            · walk_at "rds"
              exact ⟨_, _, _, _, _, _, _, _, rfl, (f5.trans f6).trans ((Fr.of s7).trans f8), J8.mono (by omega)⟩
      · rintro σ H2 ⟨x3, x4, x5, x6, x7, x8, x9, x10, rfl, f1, J2⟩
        exact ⟨_, _, _, _, _, _, _, _, _, _, rfl, Same.over (s1.trans s2) (Same.free s1 nJ) f1⟩
    · rintro σ H' ⟨x1, x2, x3, x4, x5, x6, x7, x8, x9, x10, rfl, s1⟩
      walk_at "rds"
      refine ⟨a, ns, _, rfl, Same.seq s1 hS, by decide, by decide, fun H1 J s2 nJ J1 => ?_⟩
      walk_at "rds"
      refine ⟨J, 8, 0, rfl, J1, by omega, by decide, by decide +kernel, fun H2 e f2 J2 e0 e8 => ?_⟩
      walk_at "rds"
      refine ⟨by show 3 ≤ sizeLine; decide, fun p hp => ?_⟩
      have np : p ≠ J := J2.out hp
      walk_at "rds"
      refine ⟨⟨_, SqT.of upd_same⟩, for_tup (K := K) (a := p) (xs := [.int 1, .int 8, .int (1 + e)]) (fun i σ H3 => ∃ x1 x3 x4 x5 x6 x7 x8 x9 x10, σ = [some (.ref a), x1, some (.ref J), x3, x4, x5, x6, x7, x8, x9, x10] ∧ Fr J H1 H3 ∧ Jar H3 J (1000 * i + 2) ∧ H3 p = some (.tup [.int 1, .int 8, .int (1 + e)])) ?_ ?_ ?_ ?_⟩
      · exact ⟨_, _, _, _, _, _, _, _, _, rfl, f2.trans (Fr.of (Same.new hp)), (J2.new hp).mono (by omega), upd_same⟩
      · rintro i σ H3 _ ⟨_, _, _, _, _, _, _, _, _, _, _, _, h⟩
        exact SqT.of h
      · rintro i x σ H3 hx ⟨x1, x3, x4, x5, x6, x7, x8, x9, x10, rfl, f3, J3, h3⟩
        obtain ⟨z, rfl, hz, i3⟩ := tup3_int hx
        have z1 : 1 ≤ z := by omega
        have z8 : z ≤ 8 := by omega
        walk_at "rds"
        refine ⟨⟨by decide, by decide, by decide +kernel⟩, ?_⟩
        walk_at "rds"
        refine ⟨J, 67, _, 1000 * i + 2, rfl, J3, by omega, by decide, by decide, by decide +kernel, by decide +kernel, fun H4 D ms f4 J4 nD hD ml mb => ?_⟩
        have nDJ : D ≠ J := J3.out nD
        have ml2 : ms.length = 67 := ml
        walk_at "rds"
        refine ⟨J, D, ms, z, 1000 * i + 2 + 2 * 67 + 1, rfl, J4, by omega, SqL.of (by rw [cut_ne nDJ]; exact hD), z1, z8, by omega, by omega, ?_, fun H5 f5 J5 => ?_⟩
        · intro y hy
          have := mb y hy
          have e28 : ((10 : Int) ^ (28 : Int).toNat) ≤ 2 ^ 200 := by decide +kernel
          omega
        walk_at "rds"
        refine ⟨J, 42, 1000 * i + 2 + 2 * 67 + 1 + 3, rfl, J5, by omega, by decide, by decide +kernel, fun H6 g f6 J6 g0 g1 => ?_⟩
        walk_at "rds"
        refine ⟨J, 25 + g, 99, 1000 * i + 2 + 2 * 67 + 1 + 3 + 1, rfl, J6, by omega, by omega, by omega, by decide, by decide +kernel, fun H7 D2 os f7 J7 nD2 hD2 ol ob => ?_⟩
        have nDJ2 : D2 ≠ J := J6.out nD2
        walk_at "rds"
        refine ⟨J, D2, os, z, 1000 * i + 2 + 2 * 67 + 1 + 3 + 1 + 2 * (25 + g) + 1, rfl, J7, by omega, SqL.of (by rw [cut_ne nDJ2]; exact hD2), z1, z8, by omega, by omega, ?_, fun H8 f8 J8 => ?_⟩
        · intro y hy
          have := ob y hy
          omega
        walk_at "rds"
        have f38 := (f4.trans f5).trans ((f6.trans f7).trans f8)
        exact ⟨_, _, _, _, _, _, _, _, _, rfl, f3.trans f38, J8.mono (by omega), f38.get np h3⟩
      · rintro σ H3 ⟨x1, x3, x4, x5, x6, x7, x8, x9, x10, rfl, f3, J3, h3⟩
        walk_at "rds"
        refine ⟨by show 5 ≤ sizeLine; decide, fun p1 hp1 => ?_⟩
        walk_at "rds"
        refine ⟨p1, [0, 2, 4, 1, 0], 3, rfl, SqL.of upd_same, by decide, by decide, by decide, by decide, fun H5 r1 t1 n1 g1 => ?_⟩
        have e1 : wsums [0, 2, 4, 1, 0] (3 : Int).toNat = [6, 7, 5] := by decide
        rw [e1] at g1
        walk_at "rds"
        refine ⟨by show 1 ≤ sizeLine; decide, fun p2 hp2 => ?_⟩
        walk_at "rds"
        refine ⟨p2, [5], 1, rfl, SqL.of upd_same, by decide, by decide, by decide, by decide, fun H6 r2 t2 n2 g2 => ?_⟩
        have e2 : wsums [5] (1 : Int).toNat = [5] := by decide
        rw [e2] at g2
        walk_at "rds"
        refine ⟨by show 3 ≤ sizeLine; decide, fun p3 hp3 => ?_⟩
        walk_at "rds"
        refine ⟨p3, [1, -1, 2], 2, rfl, SqL.of upd_same, by decide, by decide, by decide, by decide, fun H7 r3 t3 n3 g3 => ?_⟩
        have e3 : wsums [1, -1, 2] (2 : Int).toNat = [0, 1] := by decide
        rw [e3] at g3
        walk_at "rds"
        refine ⟨by show 3 ≤ sizeLine; decide, fun p4 hp4 => ?_⟩
        walk_at "rds"
        refine ⟨p4, [6, 7, 5], 3, rfl, SqL.of upd_same, by decide, by decide, by decide, by decide, fun H8 t4 => ?_⟩
        have u2 : Same H5 H6 := (Same.new hp2).trans t2
        have u3 : Same H6 H7 := (Same.new hp3).trans t3
        have u4 : Same H7 H8 := (Same.new hp4).trans t4
        walk_at "rds"
        refine ⟨by show 4 ≤ sizeLine; decide, fun pt hpt => ?_⟩
        walk_at "rds"
        refine ⟨by show 3 ≤ sizeLine; decide, fun q1 hq1 => ?_⟩
        walk_at "rds"
        refine ⟨by show 1 ≤ sizeLine; decide, fun q2 hq2 => ?_⟩
        walk_at "rds"
        refine ⟨by show 2 ≤ sizeLine; decide, fun q3 hq3 => ?_⟩
        walk_at "rds"
        refine ⟨by show 4 ≤ sizeLine; decide, fun q4 hq4 => ?_⟩
        have v1 := Same.new (o := .lst [.ref r1, .ref r2, .ref r3, .int (([6, 7, 5] : List Int).length + 3 - 1)]) hpt
        have v2 := (Same.new (o := .lst [.int 6, .int 7, .int 5]) hq1)
        have v3 := (Same.new (o := .lst [.int 5]) hq2)
        have v4 := (Same.new (o := .lst [.int 0, .int 1]) hq3)
        have v5 := (Same.new (o := .lst [.ref q1, .ref q2, .ref q3, .int 5]) hq4)
        have w5 := v5
        have w4 := v4.trans w5
        have w3 := v3.trans w4
        have w2 := v2.trans w3
        have w1 := v1.trans w2
        have sh : SeqAt.shaped (.list [dI [6, 7, 5], dI [5], dI [0, 1], .int 5]) = true := by decide +kernel
        refine ⟨.list [dI [6, 7, 5], dI [5], dI [0, 1], .int 5], .list [dI [6, 7, 5], dI [5], dI [0, 1], .int 5], ?_, ?_, sh, sh, ?_⟩
        · refine .lst (SqL.of (w2 pt _ upd_same)) (.cons (Dp.ints (SqL.of (w1 r1 _ (u4 r1 _ (u3 r1 _ (u2 r1 _ g1)))))) (.cons (Dp.ints (SqL.of (w1 r2 _ (u4 r2 _ (u3 r2 _ g2))))) (.cons (Dp.ints (SqL.of (w1 r3 _ (u4 r3 _ g3)))) (.cons (.int _) .nil))))
        · refine .lst (SqL.of upd_same) (.cons (Dp.ints (SqL.of (w3 q1 _ upd_same))) (.cons (Dp.ints (SqL.of (w4 q2 _ upd_same))) (.cons (Dp.ints (SqL.of (w5 q3 _ upd_same))) (.cons (.int _) .nil))))
        rw [eqv_self sh]
        walk_at "rds"
        refine ⟨by show 3 ≤ sizeLine; decide, fun p5 hp5 => ?_⟩
        walk_at "rds"
        refine ⟨p5, [6, 7, 5], 3, 3, rfl, SqL.of upd_same, by decide, by decide, by decide, by decide, by decide, by decide, fun H9 r9 t9 n9 g9 => ?_⟩
        have e9 : tied ((3 : Int) % 3) 3 ((([6, 7, 5] : List Int).length : Int) + 3 - 1) = [0, 3] := by decide
        rw [e9] at g9
        walk_at "rds"
        refine ⟨by show 2 ≤ sizeLine; decide, fun p6 hp6 => ?_⟩
        have x6 := Same.new (o := .lst [.int 0, .int 3]) hp6
        refine ⟨dI [0, 3], dI [0, 3], Dp.ints (SqL.of (x6 r9 _ g9)), Dp.ints (SqL.of upd_same), shaped_ints _, shaped_ints _, ?_⟩
        rw [eqv_self (shaped_ints _)]
        exact q _
end
theorem all_mk {l : PySem.W.OpenLaw} {w : World} {K : PySem.W.Frag} {h : Heap} {mg : Str → Option Value} {fa : Addr} (X : K.In h) (G : h.Ns mainGlobals mg) (hfa : mg "law" = some (.ref fa))
    {f0 : Addr} {od0 an0 : Option Addr} {sl0 : Array (Option Value)} {oc0 kV0 dc0 pm0 cd0 ct0 : Value}
    {f1 : Addr} {od1 an1 : Option Addr} {sl1 : Array (Option Value)} {oc1 kV1 dc1 pm1 cd1 ct1 : Value}
    {f2 : Addr} {od2 an2 : Option Addr} {sl2 : Array (Option Value)} {oc2 kV2 dc2 pm2 cd2 ct2 : Value}
    {f3 : Addr} {od3 an3 : Option Addr} {sl3 : Array (Option Value)} {oc3 kV3 dc3 pm3 cd3 ct3 : Value}
    {f4 : Addr} {od4 an4 : Option Addr} {sl4 : Array (Option Value)} {oc4 kV4 dc4 pm4 cd4 ct4 : Value}
    {f5 : Addr} {od5 an5 : Option Addr} {sl5 : Array (Option Value)} {oc5 kV5 dc5 pm5 cd5 ct5 : Value}
    {f6 : Addr} {od6 an6 : Option Addr} {sl6 : Array (Option Value)} {oc6 kV6 dc6 pm6 cd6 ct6 : Value}
    {f7 : Addr} {od7 an7 : Option Addr} {sl7 : Array (Option Value)} {oc7 kV7 dc7 pm7 cd7 ct7 : Value}
    {f8 : Addr} {od8 an8 : Option Addr} {sl8 : Array (Option Value)} {oc8 kV8 dc8 pm8 cd8 ct8 : Value}
    {f9 : Addr} {od9 an9 : Option Addr} {sl9 : Array (Option Value)} {oc9 kV9 dc9 pm9 cd9 ct9 : Value}
    {f10 : Addr} {od10 an10 : Option Addr} {sl10 : Array (Option Value)} {oc10 kV10 dc10 pm10 cd10 ct10 : Value}
    {f11 : Addr} {od11 an11 : Option Addr} {sl11 : Array (Option Value)} {oc11 kV11 dc11 pm11 cd11 ct11 : Value}
    {f12 : Addr} {od12 an12 : Option Addr} {sl12 : Array (Option Value)} {oc12 kV12 dc12 pm12 cd12 ct12 : Value}
    {f13 : Addr} {od13 an13 : Option Addr} {sl13 : Array (Option Value)} {oc13 kV13 dc13 pm13 cd13 ct13 : Value}
    {f14 : Addr} {od14 an14 : Option Addr} {sl14 : Array (Option Value)} {oc14 kV14 dc14 pm14 cd14 ct14 : Value}
    {f15 : Addr} {od15 an15 : Option Addr} {sl15 : Array (Option Value)} {oc15 kV15 dc15 pm15 cd15 ct15 : Value}
    {f16 : Addr} {od16 an16 : Option Addr} {sl16 : Array (Option Value)} {oc16 kV16 dc16 pm16 cd16 ct16 : Value}
    {f17 : Addr} {od17 an17 : Option Addr} {sl17 : Array (Option Value)} {oc17 kV17 dc17 pm17 cd17 ct17 : Value}
    {f18 : Addr} {od18 an18 : Option Addr} {sl18 : Array (Option Value)} {oc18 kV18 dc18 pm18 cd18 ct18 : Value}
    {u_GREATEST_COUNT : Tok}
    {u_GREATEST_LENGTH : Tok}
    (a0 : PySem.W.nsIn K mainGlobals "is_integer" = some (some (.ref f0)))
    (l0 : K.lookup f0 = some ⟨oc0, od0, .func (PySem.W.fnOf "is_integer" "is_integer" (defArgs s_is_integer) (defBody s_is_integer) (defScope s_is_integer) .none kV0 dc0 pm0 an0 cd0 ct0), sl0⟩)
    (c0 : PySem.W.codeIn K cd0 "is_integer" = true)
    (k0 : PySem.W.keepIn K (.ref f0) = true)
    (a1 : PySem.W.nsIn K mainGlobals "is_within" = some (some (.ref f1)))
    (l1 : K.lookup f1 = some ⟨oc1, od1, .func (PySem.W.fnOf "is_within" "is_within" (defArgs s_is_within) (defBody s_is_within) (defScope s_is_within) .none kV1 dc1 pm1 an1 cd1 ct1), sl1⟩)
    (c1 : PySem.W.codeIn K cd1 "is_within" = true)
    (k1 : PySem.W.keepIn K (.ref f1) = true)
    (a2 : PySem.W.nsIn K mainGlobals "is_row" = some (some (.ref f2)))
    (l2 : K.lookup f2 = some ⟨oc2, od2, .func (PySem.W.fnOf "is_row" "is_row" (defArgs s_is_row) (defBody s_is_row) (defScope s_is_row) .none kV2 dc2 pm2 an2 cd2 ct2), sl2⟩)
    (c2 : PySem.W.codeIn K cd2 "is_row" = true)
    (k2 : PySem.W.keepIn K (.ref f2) = true)
    (a3 : PySem.W.nsIn K mainGlobals "check_numbers" = some (some (.ref f3)))
    (l3 : K.lookup f3 = some ⟨oc3, od3, .func (PySem.W.fnOf "check_numbers" "check_numbers" (defArgs s_check_numbers) (defBody s_check_numbers) (defScope s_check_numbers) .none kV3 dc3 pm3 an3 cd3 ct3), sl3⟩)
    (c3 : PySem.W.codeIn K cd3 "check_numbers" = true)
    (k3 : PySem.W.keepIn K (.ref f3) = true)
    (a4 : PySem.W.nsIn K mainGlobals "check_sums" = some (some (.ref f4)))
    (l4 : K.lookup f4 = some ⟨oc4, od4, .func (PySem.W.fnOf "check_sums" "check_sums" (defArgs s_check_sums) (defBody s_check_sums) (defScope s_check_sums) .none kV4 dc4 pm4 an4 cd4 ct4), sl4⟩)
    (c4 : PySem.W.codeIn K cd4 "check_sums" = true)
    (k4 : PySem.W.keepIn K (.ref f4) = true)
    (a5 : PySem.W.nsIn K mainGlobals "check_day" = some (some (.ref f5)))
    (l5 : K.lookup f5 = some ⟨oc5, od5, .func (PySem.W.fnOf "check_day" "check_day" (defArgs s_check_day) (defBody s_check_day) (defScope s_check_day) .none kV5 dc5 pm5 an5 cd5 ct5), sl5⟩)
    (c5 : PySem.W.codeIn K cd5 "check_day" = true)
    (k5 : PySem.W.keepIn K (.ref f5) = true)
    (a6 : PySem.W.nsIn K mainGlobals "sums_of" = some (some (.ref f6)))
    (l6 : K.lookup f6 = some ⟨oc6, od6, .func (PySem.W.fnOf "sums_of" "sums_of" (defArgs s_sums_of) (defBody s_sums_of) (defScope s_sums_of) .none kV6 dc6 pm6 an6 cd6 ct6), sl6⟩)
    (c6 : PySem.W.codeIn K cd6 "sums_of" = true)
    (k6 : PySem.W.keepIn K (.ref f6) = true)
    (a7 : PySem.W.nsIn K mainGlobals "days_of" = some (some (.ref f7)))
    (l7 : K.lookup f7 = some ⟨oc7, od7, .func (PySem.W.fnOf "days_of" "days_of" (defArgs s_days_of) (defBody s_days_of) (defScope s_days_of) .none kV7 dc7 pm7 an7 cd7 ct7), sl7⟩)
    (c7 : PySem.W.codeIn K cd7 "days_of" = true)
    (k7 : PySem.W.keepIn K (.ref f7) = true)
    (a8 : PySem.W.nsIn K mainGlobals "tied_days" = some (some (.ref f8)))
    (l8 : K.lookup f8 = some ⟨oc8, od8, .func (PySem.W.fnOf "tied_days" "tied_days" (defArgs s_tied_days) (defBody s_tied_days) (defScope s_tied_days) .none kV8 dc8 pm8 an8 cd8 ct8), sl8⟩)
    (c8 : PySem.W.codeIn K cd8 "tied_days" = true)
    (k8 : PySem.W.keepIn K (.ref f8) = true)
    (a9 : PySem.W.nsIn K mainGlobals "row_sums" = some (some (.ref f9)))
    (l9 : K.lookup f9 = some ⟨oc9, od9, .func (PySem.W.fnOf "row_sums" "row_sums" (defArgs s_row_sums) (defBody s_row_sums) (defScope s_row_sums) .none kV9 dc9 pm9 an9 cd9 ct9), sl9⟩)
    (c9 : PySem.W.codeIn K cd9 "row_sums" = true)
    (k9 : PySem.W.keepIn K (.ref f9) = true)
    (a10 : PySem.W.nsIn K mainGlobals "_law_jar" = some (some (.ref f10)))
    (l10 : K.lookup f10 = some ⟨oc10, od10, .func (PySem.W.fnOf "_law_jar" "_law_jar" (defArgs s__law_jar) (defBody s__law_jar) (defScope s__law_jar) .none kV10 dc10 pm10 an10 cd10 ct10), sl10⟩)
    (c10 : PySem.W.codeIn K cd10 "_law_jar" = true)
    (k10 : PySem.W.keepIn K (.ref f10) = true)
    (a11 : PySem.W.nsIn K mainGlobals "_law_dip" = some (some (.ref f11)))
    (l11 : K.lookup f11 = some ⟨oc11, od11, .func (PySem.W.fnOf "_law_dip" "_law_dip" (defArgs s__law_dip) (defBody s__law_dip) (defScope s__law_dip) .none kV11 dc11 pm11 an11 cd11 ct11), sl11⟩)
    (c11 : PySem.W.codeIn K cd11 "_law_dip" = true)
    (k11 : PySem.W.keepIn K (.ref f11) = true)
    (a12 : PySem.W.nsIn K mainGlobals "_law_sums" = some (some (.ref f12)))
    (l12 : K.lookup f12 = some ⟨oc12, od12, .func (PySem.W.fnOf "_law_sums" "_law_sums" (defArgs s__law_sums) (defBody s__law_sums) (defScope s__law_sums) .none kV12 dc12 pm12 an12 cd12 ct12), sl12⟩)
    (c12 : PySem.W.codeIn K cd12 "_law_sums" = true)
    (k12 : PySem.W.keepIn K (.ref f12) = true)
    (a13 : PySem.W.nsIn K mainGlobals "_law_days" = some (some (.ref f13)))
    (l13 : K.lookup f13 = some ⟨oc13, od13, .func (PySem.W.fnOf "_law_days" "_law_days" (defArgs s__law_days) (defBody s__law_days) (defScope s__law_days) .none kV13 dc13 pm13 an13 cd13 ct13), sl13⟩)
    (c13 : PySem.W.codeIn K cd13 "_law_days" = true)
    (k13 : PySem.W.keepIn K (.ref f13) = true)
    (a14 : PySem.W.nsIn K mainGlobals "_law_top" = some (some (.ref f14)))
    (l14 : K.lookup f14 = some ⟨oc14, od14, .func (PySem.W.fnOf "_law_top" "_law_top" (defArgs s__law_top) (defBody s__law_top) (defScope s__law_top) .none kV14 dc14 pm14 an14 cd14 ct14), sl14⟩)
    (c14 : PySem.W.codeIn K cd14 "_law_top" = true)
    (k14 : PySem.W.keepIn K (.ref f14) = true)
    (a15 : PySem.W.nsIn K mainGlobals "_law_high" = some (some (.ref f15)))
    (l15 : K.lookup f15 = some ⟨oc15, od15, .func (PySem.W.fnOf "_law_high" "_law_high" (defArgs s__law_high) (defBody s__law_high) (defScope s__law_high) .none kV15 dc15 pm15 an15 cd15 ct15), sl15⟩)
    (c15 : PySem.W.codeIn K cd15 "_law_high" = true)
    (k15 : PySem.W.keepIn K (.ref f15) = true)
    (a16 : PySem.W.nsIn K mainGlobals "_law_size" = some (some (.ref f16)))
    (l16 : K.lookup f16 = some ⟨oc16, od16, .func (PySem.W.fnOf "_law_size" "_law_size" (defArgs s__law_size) (defBody s__law_size) (defScope s__law_size) .none kV16 dc16 pm16 an16 cd16 ct16), sl16⟩)
    (c16 : PySem.W.codeIn K cd16 "_law_size" = true)
    (k16 : PySem.W.keepIn K (.ref f16) = true)
    (a17 : PySem.W.nsIn K mainGlobals "_law_right" = some (some (.ref f17)))
    (l17 : K.lookup f17 = some ⟨oc17, od17, .func (PySem.W.fnOf "_law_right" "_law_right" (defArgs s__law_right) (defBody s__law_right) (defScope s__law_right) .none kV17 dc17 pm17 an17 cd17 ct17), sl17⟩)
    (c17 : PySem.W.codeIn K cd17 "_law_right" = true)
    (k17 : PySem.W.keepIn K (.ref f17) = true)
    (a18 : PySem.W.nsIn K mainGlobals "law" = some (some (.ref f18)))
    (l18 : K.lookup f18 = some ⟨oc18, od18, .func (PySem.W.fnOf "law" "law" (defArgs s_law) (defBody s_law) (defScope s_law) .none kV18 dc18 pm18 an18 cd18 ct18), sl18⟩)
    (c18 : PySem.W.codeIn K cd18 "law" = true)
    (k18 : PySem.W.keepIn K (.ref f18) = true)
    (z_abs : PySem.W.nsIn K mainGlobals "abs" = some none)
    (z_all : PySem.W.nsIn K mainGlobals "all" = some none)
    (z_bool : PySem.W.nsIn K mainGlobals "bool" = some none)
    (z_int : PySem.W.nsIn K mainGlobals "int" = some none)
    (z_isinstance : PySem.W.nsIn K mainGlobals "isinstance" = some none)
    (z_len : PySem.W.nsIn K mainGlobals "len" = some none)
    (z_list : PySem.W.nsIn K mainGlobals "list" = some none)
    (z_max : PySem.W.nsIn K mainGlobals "max" = some none)
    (z_min : PySem.W.nsIn K mainGlobals "min" = some none)
    (z_range : PySem.W.nsIn K mainGlobals "range" = some none)
    (z_repr : PySem.W.nsIn K mainGlobals "repr" = some none)
    (z_sum : PySem.W.nsIn K mainGlobals "sum" = some none)
    (z_type : PySem.W.nsIn K mainGlobals "type" = some none)
    (v_GREATEST_COUNT : PySem.W.nsIn K mainGlobals "GREATEST_COUNT" = some (some (.int 67 u_GREATEST_COUNT)))
    (v_GREATEST_LENGTH : PySem.W.nsIn K mainGlobals "GREATEST_LENGTH" = some (some (.int 8 u_GREATEST_LENGTH))) :
    ∃ fd : FuncData, (∀ (s : Shared) (v : Value), BindsTo s fd ⟨[v], []⟩ [("script", v)]) ∧ ∀ base : Heap, K.In base → base.Ns mainGlobals mg → FnG l.prog w K mg base CX0 7 fa fd ["script"] (spLaw K) := by
  have e := hfa.symm.trans (PySem.W.mg_of X G a18)
  cases e
  have F0 := fun_mk (st := s_is_integer) l0 c0 k0
  have F1 := fun_mk (st := s_is_within) l1 c1 k1
  have F2 := fun_mk (st := s_is_row) l2 c2 k2
  have F3 := fun_mk (st := s_check_numbers) l3 c3 k3
  have F4 := fun_mk (st := s_check_sums) l4 c4 k4
  have F5 := fun_mk (st := s_check_day) l5 c5 k5
  have F6 := fun_mk (st := s_sums_of) l6 c6 k6
  have F7 := fun_mk (st := s_days_of) l7 c7 k7
  have F8 := fun_mk (st := s_tied_days) l8 c8 k8
  have F9 := fun_mk (st := s_row_sums) l9 c9 k9
  have F10 := fun_mk (st := s__law_jar) l10 c10 k10
  have F11 := fun_mk (st := s__law_dip) l11 c11 k11
  have F12 := fun_mk (st := s__law_sums) l12 c12 k12
  have F13 := fun_mk (st := s__law_days) l13 c13 k13
  have F14 := fun_mk (st := s__law_top) l14 c14 k14
  have F15 := fun_mk (st := s__law_high) l15 c15 k15
  have F16 := fun_mk (st := s__law_size) l16 c16 k16
  have F17 := fun_mk (st := s__law_right) l17 c17 k17
  have F18 := fun_mk (st := s_law) l18 c18 k18
  have T : Top K mg := ⟨_, _, F0, F0.binds (fun _ _ _ _ _ _ us hl => match us, hl with | [_], _ => rfl), PySem.W.mg_of X G a0,
    _, _, F1, F1.binds (fun _ _ _ _ _ _ us hl => match us, hl with | [_, _, _], _ => rfl), PySem.W.mg_of X G a1,
    _, _, F2, F2.binds (fun _ _ _ _ _ _ us hl => match us, hl with | [_], _ => rfl), PySem.W.mg_of X G a2,
    _, _, F3, F3.binds (fun _ _ _ _ _ _ us hl => match us, hl with | [_, _], _ => rfl), PySem.W.mg_of X G a3,
    _, _, F4, F4.binds (fun _ _ _ _ _ _ us hl => match us, hl with | [_, _], _ => rfl), PySem.W.mg_of X G a4,
    _, _, F5, F5.binds (fun _ _ _ _ _ _ us hl => match us, hl with | [_, _], _ => rfl), PySem.W.mg_of X G a5,
    _, _, F6, F6.binds (fun _ _ _ _ _ _ us hl => match us, hl with | [_, _], _ => rfl), PySem.W.mg_of X G a6,
    _, _, F7, F7.binds (fun _ _ _ _ _ _ us hl => match us, hl with | [_, _], _ => rfl), PySem.W.mg_of X G a7,
    _, _, F8, F8.binds (fun _ _ _ _ _ _ us hl => match us, hl with | [_, _, _], _ => rfl), PySem.W.mg_of X G a8,
    _, _, F9, F9.binds (fun _ _ _ _ _ _ us hl => match us, hl with | [_, _], _ => rfl), PySem.W.mg_of X G a9,
    _, _, F10, F10.binds (fun _ _ _ _ _ _ us hl => match us, hl with | [_, _], _ => rfl), PySem.W.mg_of X G a10,
    _, _, F11, F11.binds (fun _ _ _ _ _ _ us hl => match us, hl with | [_, _], _ => rfl), PySem.W.mg_of X G a11,
    _, _, F12, F12.binds (fun _ _ _ _ _ _ us hl => match us, hl with | [_, _], _ => rfl), PySem.W.mg_of X G a12,
    _, _, F13, F13.binds (fun _ _ _ _ _ _ us hl => match us, hl with | [_, _, _], _ => rfl), PySem.W.mg_of X G a13,
    _, _, F14, F14.binds (fun _ _ _ _ _ _ us hl => match us, hl with | [_], _ => rfl), PySem.W.mg_of X G a14,
    _, _, F15, F15.binds (fun _ _ _ _ _ _ us hl => match us, hl with | [_, _], _ => rfl), PySem.W.mg_of X G a15,
    _, _, F16, F16.binds (fun _ _ _ _ _ _ us hl => match us, hl with | [_, _], _ => rfl), PySem.W.mg_of X G a16,
    _, _, F17, F17.binds (fun _ _ _ _ _ _ us hl => match us, hl with | [_, _, _], _ => rfl), PySem.W.mg_of X G a17,
    _, _, F18, F18.binds (fun _ _ _ _ _ _ us hl => match us, hl with | [_], _ => rfl), PySem.W.mg_of X G a18,
    PySem.W.mg_none_of X G z_abs,
    PySem.W.mg_none_of X G z_all,
    PySem.W.mg_none_of X G z_bool,
    PySem.W.mg_none_of X G z_int,
    PySem.W.mg_none_of X G z_isinstance,
    PySem.W.mg_none_of X G z_len,
    PySem.W.mg_none_of X G z_list,
    PySem.W.mg_none_of X G z_max,
    PySem.W.mg_none_of X G z_min,
    PySem.W.mg_none_of X G z_range,
    PySem.W.mg_none_of X G z_repr,
    PySem.W.mg_none_of X G z_sum,
    PySem.W.mg_none_of X G z_type,
    ⟨_, PySem.W.mg_of X G v_GREATEST_COUNT⟩,
    ⟨_, PySem.W.mg_of X G v_GREATEST_LENGTH⟩⟩
  exact ⟨PySem.W.fnOf "law" "law" (defArgs s_law) (defBody s_law) (defScope s_law) .none kV18 dc18 pm18 an18 cd18 ct18, fun s v => .of_eq rfl, fun base _ _ => (ok_law (P := l.prog) (w := w) (base := base) T F18)⟩
end K01
open PySem PySem.W PyProof.Rows in
set_option maxRecDepth 100000 in
set_option maxHeartbeats 0 in
theorem PySem.Challenge.cw_weeksums_k01_sums_and_tied_days_holds : PySem.Challenge.rw_weeksums_k01_sums_and_tied_days.Holds := by
  w_on; o_law; k_head; (case hw => w_witness2)
  k_fill
  refine Ws.walkG (l := PySem.Challenge.rw_weeksums_k01_sums_and_tied_days) (n := 63) (k := 7) (x := "script") (CX := fun _ => L2.CX0) (sp := fun w => K01.spLaw _) rfl (by decide) rfl ⟨rfl, by decide, by decide⟩ (fun w h Y => PySem.W.kIn_of Y) ?F (fun _ _ a ns hl _ hS => ⟨a, ns, rfl, hS, hl, fun _ => rfl⟩) (fun _ _ _ _ _ h => h)
  case F =>
    intro w mg fa h KX G hmg
    refine' K01.all_mk KX G hmg ?a0 ?l0 ?c0 ?k0 ?a1 ?l1 ?c1 ?k1 ?a2 ?l2 ?c2 ?k2 ?a3 ?l3 ?c3 ?k3 ?a4 ?l4 ?c4 ?k4 ?a5 ?l5 ?c5 ?k5 ?a6 ?l6 ?c6 ?k6 ?a7 ?l7 ?c7 ?k7 ?a8 ?l8 ?c8 ?k8 ?a9 ?l9 ?c9 ?k9 ?a10 ?l10 ?c10 ?k10 ?a11 ?l11 ?c11 ?k11 ?a12 ?l12 ?c12 ?k12 ?a13 ?l13 ?c13 ?k13 ?a14 ?l14 ?c14 ?k14 ?a15 ?l15 ?c15 ?k15 ?a16 ?l16 ?c16 ?k16 ?a17 ?l17 ?c17 ?k17 ?a18 ?l18 ?c18 ?k18 ?z_abs ?z_all ?z_bool ?z_int ?z_isinstance ?z_len ?z_list ?z_max ?z_min ?z_range ?z_repr ?z_sum ?z_type ?v_GREATEST_COUNT ?v_GREATEST_LENGTH
    (case a0 => k_is)
    (case l0 => k_is)
    (case c0 => k_is)
    (case k0 => k_is)
    (case a1 => k_is)
    (case l1 => k_is)
    (case c1 => k_is)
    (case k1 => k_is)
    (case a2 => k_is)
    (case l2 => k_is)
    (case c2 => k_is)
    (case k2 => k_is)
    (case a3 => k_is)
    (case l3 => k_is)
    (case c3 => k_is)
    (case k3 => k_is)
    (case a4 => k_is)
    (case l4 => k_is)
    (case c4 => k_is)
    (case k4 => k_is)
    (case a5 => k_is)
    (case l5 => k_is)
    (case c5 => k_is)
    (case k5 => k_is)
    (case a6 => k_is)
    (case l6 => k_is)
    (case c6 => k_is)
    (case k6 => k_is)
    (case a7 => k_is)
    (case l7 => k_is)
    (case c7 => k_is)
    (case k7 => k_is)
    (case a8 => k_is)
    (case l8 => k_is)
    (case c8 => k_is)
    (case k8 => k_is)
    (case a9 => k_is)
    (case l9 => k_is)
    (case c9 => k_is)
    (case k9 => k_is)
    (case a10 => k_is)
    (case l10 => k_is)
    (case c10 => k_is)
    (case k10 => k_is)
    (case a11 => k_is)
    (case l11 => k_is)
    (case c11 => k_is)
    (case k11 => k_is)
    (case a12 => k_is)
    (case l12 => k_is)
    (case c12 => k_is)
    (case k12 => k_is)
    (case a13 => k_is)
    (case l13 => k_is)
    (case c13 => k_is)
    (case k13 => k_is)
    (case a14 => k_is)
    (case l14 => k_is)
    (case c14 => k_is)
    (case k14 => k_is)
    (case a15 => k_is)
    (case l15 => k_is)
    (case c15 => k_is)
    (case k15 => k_is)
    (case a16 => k_is)
    (case l16 => k_is)
    (case c16 => k_is)
    (case k16 => k_is)
    (case a17 => k_is)
    (case l17 => k_is)
    (case c17 => k_is)
    (case k17 => k_is)
    (case a18 => k_is)
    (case l18 => k_is)
    (case c18 => k_is)
    (case k18 => k_is)
    (case z_abs => k_is)
    (case z_all => k_is)
    (case z_bool => k_is)
    (case z_int => k_is)
    (case z_isinstance => k_is)
    (case z_len => k_is)
    (case z_list => k_is)
    (case z_max => k_is)
    (case z_min => k_is)
    (case z_range => k_is)
    (case z_repr => k_is)
    (case z_sum => k_is)
    (case z_type => k_is)
    (case v_GREATEST_COUNT => k_is)
    (case v_GREATEST_LENGTH => k_is)

import PyProof.Rows.All
import Wide.All
import OpenK.AllK
import Wide.FinOn
import PyProof.EqAt
import PyProof.EqKinds
import PyProof.TupleCall
import HandS.ForMost
import HandS.Wide
import HandS.Gcd
import HandS.IsInst
import HandS.RaiseMore
import HandS.TupAny
import HandS.TupMul
import HandS.Conv
import HandS.Style
import HandS.Flow
import HandS.Evl
import KE.GoesMore
import KE.KDictZip
import HandS.Rev
import HandS.Star
import HandS.Words
import HandS.Zip
import HandS.Walk
import KE.GoesEnum
import KE.DataEq
import PySem.Challenge.RW_ballgrids_k01_whole_numbers
set_option Elab.async false
set_option linter.all false
set_option maxRecDepth 100000
set_option maxHeartbeats 2000000
namespace My
open PySem PySem.Spec PyProof.Rows L2
abbrev St := L2.St
/-! ### defs that know that no repr is under way -/
structure FnG (P : Program) (w : World) (K : PySem.W.Frag) (mg : Str → Option Value) (base : Heap) (Z : CXT) (k : Nat)
    (f : Addr) (fd : FuncData) (ps : List Str) (sp : Sp) : Prop where
  many : ∀ vs H Q E, sp vs H Q E → vs.length = ps.length
  does : ∀ (B : Around) (out : List Env) (t : Shared) (H : Hp) (given : Args) (us : List Value) (vs : List V) (Q : VK) (E : XK),
    Room k B → B.guards = some [] → Env0 P w K mg base B out t H → BindsTo t fd given (ps.zip us) → Vals vs us →
    sp vs H Q E → codeAny (model P w) B (.call (.ref f) given) (CR Z out P w H t Q E) t
section
variable {P : Program} {w : World} {K : PySem.W.Frag} {mg : Str → Option Value} {base : Heap} {Z : CXT} {k : Nat}
    {f : Addr} {fd : FuncData} {ps : List Str} {sp : Sp}
theorem FnG.of (F : FnOk P w K mg base Z k f fd ps sp) : FnG P w K mg base Z k f fd ps sp :=
  ⟨F.len, fun B out t H given us vs Q E r _ e b v h => F.run B out t H given us vs Q E r e b v h⟩
theorem deep_guards {A : Around} {env : Env} (h : A.guards = some []) : (A.deeper env).guards = some [] := by
  first
    | exact h
    | (simpa [Around.deeper] using h)
/-- a def of the text by its body, where no repr is under way -/
theorem fn_g {name qual : Str} {params : Arguments} {body : List Stmt} {scope : Scope} {dV kV doc pm cdv ct oc : Value}
    {an od : Option Addr} {osl : Array (Option Value)} {N : List Str}
    (lk : K.lookup f = some ⟨oc, od, .func (PySem.W.fnOf name qual params body scope dV kV doc pm an cdv ct), osl⟩)
    (hcd : PySem.W.codeIn K cdv qual = true) (S : FnScope N ps scope) (hlen : ∀ vs H Q E, sp vs H Q E → vs.length = ps.length)
    (hb : ∀ (B : Around) (out : List Env) (t : Shared) (H : Hp) (vs : List V) (Q : VK) (E : XK),
      Room k (B.deeper (envOfC qual scope t.heap.objs.size f cdv)) →
      (B.deeper (envOfC qual scope t.heap.objs.size f cdv)).guards = some [] → sp vs H Q E →
      ∃ r, PSs (cxOf Z P w K mg base N qual scope f cdv B out t H E) body r ∧
        r { nx := fun _ H' => Q .non H', rt := Q } (start N vs) H) :
    FnG P w K mg base Z (k + 1) f (PySem.W.fnOf name qual params body scope dV kV doc pm an cdv ct) ps sp := by
  refine ⟨hlen, fun B out t H given us vs Q E room gd e0 bnd rel wish => ?_⟩
  have size := hlen _ _ _ _ wish
  have inK : K.In t.heap := e0.mod.kin.keeps fun b o e => (e0.bs b o e).1
  have noLim : t.heap.NoLimit := e0.mod.nolimit.keeps fun b o e => (e0.bs b o e).1
  have kinds : ∀ y ∈ ps.zip us, scope.names.lookup y.1 = some .local ∨
      (scope.names.lookup y.1 = some .cell ∧ ((cellsFrom (t.heap.objs.size + 1) scope.names []).lookup y.1).isSome = true) :=
    fun ⟨n, v⟩ hy => by
      rcases S.par n (List.of_mem_zip hy).1 with z | z
      · exact .inl z
      · exact .inr ⟨z, PySem.W.cellsFrom_some _ _ _ (.inl z)⟩
  refine codeAny_call_function room.depth (inK _ _ lk) rfl S.co S.gen rfl (PySem.W.codeRec_of inK hcd) (bnd _ _ _ _ ?_)
  refine wpAny_newFunctionEnv_cells S.kind kinds fun env0 he0 t1 made => ?_
  subst he0
  refine ⟨noLim.keeps made.toInCall.keep, codeAny_func ?_⟩
  obtain ⟨r, hr, hq⟩ := hb B out t H vs Q E (room.deeper _) (deep_guards gd) wish
  have J0 : Inv (cxOf Z P w K mg base N qual scope f cdv B out t H E) [] (start N vs) H t1 := inv_start S room.hd e0 size rel made
  refine wpAny_mono (hr.run [] t1 (start N vs) H _ J0 hq) (fun flow t2 hs => ?_) fun _ _ hs => hs
  have done : ∀ {σ' : St} {H' : Hp} {v : V} {u : Value},
      Inv (cxOf Z P w K mg base N qual scope f cdv B out t H E) [] σ' H' t2 → RelV v u → Q v H' → CE out P w H t Q u t2 :=
    fun {σ' H' v u} J rv q => ⟨v, H', J.os, J.bare, J.base, J.hok, rv, q⟩
  cases flow with
  | ret u => obtain ⟨v, σ', H', J, rv, q⟩ := hs; exact done J rv q
  | next => obtain ⟨σ', H', J, q⟩ := hs; exact done (v := V.non) (u := Value.none) J rfl q
  | brk => obtain ⟨_, _, _, q⟩ := hs; exact False.elim q
  | cont => obtain ⟨_, _, _, q⟩ := hs; exact False.elim q
/-- the same for a def as it stands behind the top; nothing is raised out of it -/
theorem fun_g {x qual : Str} {st : Stmt} {N : List Str} (F : Fun K x qual st f fd) (S : FnScope N ps (defScope st))
    (hlen : ∀ vs H Q E, sp vs H Q E → vs.length = ps.length)
    (hb : ∀ (cdv : Value) (B : Around) (out : List Env) (t : Shared) (H : Hp) (vs : List V) (Q : VK) (E : XK),
      Room k (B.deeper (envOfC qual (defScope st) t.heap.objs.size f cdv)) →
      (B.deeper (envOfC qual (defScope st) t.heap.objs.size f cdv)).guards = some [] → sp vs H Q E →
      ∃ r, PSs (cxOf CX0 P w K mg base N qual (defScope st) f cdv B out t H E).nox (defBody st) r ∧
        r { nx := fun _ H' => Q .non H', rt := Q } (start N vs) H) : FnG P w K mg base CX0 (k + 1) f fd ps sp := by
  obtain ⟨oc, od, kV, doc, pm, an, cdv, ct, osl, rfl, lk, hcd⟩ := F.ex
  refine fn_g lk hcd S hlen fun B out t H vs Q E room gd wish => ?_
  obtain ⟨r, hr, q⟩ := hb cdv B out t H vs Q E room gd wish
  exact ⟨r, hr.nox, q⟩
end
section
variable {X : Cx} {Z : CXT} {k : Nat} {f : Addr} {fd : FuncData} {ps : List Str} {sp : Sp} {dvs : List V} {ds : List Value} {E : XK}
    {x : Str} {p pos : Pos} {e : Expr} {es : List Expr} {t : TA}
/-- f(e, ..) of such a def -/
theorem pe_callG (F : FnG X.prog X.w X.K X.mg X.base Z k f fd ps sp) (room : Room k X.A) (gd : X.A.guards = some [])
    (hg : Gl X x) (hm : X.mg x = some (.ref f)) (hk : PySem.W.keepIn X.K (.ref f) = true) (hb : Binds X.K fd ps ds)
    (hd : Vals dvs ds) (hx : Passes Z X E) (ha : PA X (e :: es) t) (hdb : (x == ("__debug__" : Str)) = false := by decide)
    (he : starEach (e :: es) X.env = (false, eval e X.env) :: starEach es X.env := by rfl)
    (hpl : (backTo pos (starEach es X.env)).any (·.1) = false := by rfl) :
    PE X (.Call (.Name x p) (e :: es) [] pos) (tCall sp dvs E t) := by
  refine ⟨fun pins s σ H Q I h => wpAny_Call_Name_kw (ld_glob I hg hm ?_ hdb)⟩
  refine PySem.W.callWith_K (h₀ := X.base) I.ok.mod.kin hk
    (thn (ha.run pos pins s σ H _ I h) fun us s1 ⟨vs, H1, I1, rel, wish⟩ => ⟨I1.kIn, ?_⟩) he hpl
  have rel2 : Vals (vs ++ dvs) (us ++ ds) := rel.append hd
  have size : (us ++ ds).length = ps.length := by rw [← rel2.length]; exact F.many _ _ _ _ wish
  refine wpAny_call (codeAny_mono (F.does X.A X.stack s1 H1 ⟨us, []⟩ _ _ Q E room gd I1.env0 (hb s1 us I1.kIn size) rel2 wish)
    fun r s' hq => ?_)
  cases r with
  | error ex => exact hx pins σ H1 s1 ex s' I1 hq
  | ok fl =>
    cases fl with
    | ret u => exact I1.after hq
    | next => exact False.elim hq
    | brk => exact False.elim hq
    | cont => exact False.elim hq
/-- repr of data -/
def rReprD (K : PySem.W.Frag) : List V → Hp → VK → Prop := fun xs H Q => ∃ (v : V) (d : PyData), xs = [v] ∧ Dp K H v d ∧
  d.showable = true ∧ d.hasDict = false ∧ d.depth + 1 ≤ 64 ∧ d.shown.length ≤ sizeLine ∧ (∀ i, d = .int i → i.natAbs.log2 < 1920) ∧ Q (.str d.shown) H
theorem call_reprD (hu : X.A.units + 64 < cLine) (gd : X.A.guards = some []) : CallR X (.builtin "repr") (rReprD X.K) := by
  intro pins s σ H xs us Q I r h
  obtain ⟨v, d, rfl, dp, sh, hd, dep, sz, hi, q⟩ := h
  obtain ⟨u, rfl, ru⟩ := vals1 r
  cases dp with
  | non =>
    have ru' : u = Value.none := ru
    subst ru'
    exact PySem.P.repr_of_none ⟨.str _, H, I.tok _, ⟨_, rfl⟩, q⟩
  | bl b =>
    have ru' : u = Value.bool b := ru
    subst ru'
    exact PySem.P.repr_of_bool ⟨.str _, H, I.tok _, ⟨_, rfl⟩, q⟩
  | int i =>
    obtain ⟨t, rfl⟩ := ru
    exact PySem.P.repr_of_int (hi i rfl) ⟨.str _, H, I.tok _, ⟨_, rfl⟩, q⟩
  | str z =>
    obtain ⟨t, rfl⟩ := ru
    exact PySem.P.repr_of_str ⟨.str _, H, I.tok _, ⟨_, rfl⟩, q⟩ sz
  | lst hs ha =>
    rename_i a ys ds
    have ru' : u = Value.ref a := ru
    subst ru'
    obtain ⟨as, rd⟩ := Dp.reads I (PyData.list ds) (.ref a) (.ref a) (Dp.lst hs ha) rfl
    exact PySem.repr_of_reads' rd sh (fun z => by rw [hd] at z; cases z) gd (by omega) (fun b o e => e)
      (fun h' w tk keep => ⟨.str _, H, I.kept keep, ⟨_, rfl⟩, q⟩) sz
  | tup hs ha =>
    rename_i a ys ds
    have ru' : u = Value.ref a := ru
    subst ru'
    obtain ⟨as, rd⟩ := Dp.reads I (PyData.tuple ds) (.ref a) (.ref a) (Dp.tup hs ha) rfl
    exact PySem.repr_of_reads' rd sh (fun z => by rw [hd] at z; cases z) gd (by omega) (fun b o e => e)
      (fun h' w tk keep => ⟨.str _, H, I.kept keep, ⟨_, rfl⟩, q⟩) sz
/-! ### powers of greater bases -/
def CPowW (i j : Int) : Prop := 0 ≤ j ∧ (Builtin.Int.intBits i : Int) * j ≤ 2 ^ 27
theorem op_powW : OpR X (binaryOp .Pow) (rI CPowW fun i j => .int (i ^ j.toNat)) :=
  opI fun _ _ _ _ _ _ _ hc q => PyProof.Rows.pow_int hc.1 hc.2 q
/-! ### // by any divisor below 2 ^ 9000 -/
def CDivA (_ j : Int) : Prop := j ≠ 0 ∧ j.natAbs.log2 < 9000
theorem op_fdivA : OpR X (binaryOp .FloorDiv) (rI CDivA fun i j => .int (i.fdiv j)) :=
  opI fun _ _ _ _ _ _ _ hc q => PyProof.Rows.floordiv_int hc.1 q (.inl (PyProof.noPylong_of_log2 hc.2))
end
end My

set_option maxHeartbeats 2000000
namespace My
open PySem PySem.Spec PyProof.Rows L2 PySem.W
/-- the law's own call, from a def that knows that no repr is under way -/
theorem law_g {P : Program} {w : World} {K : PySem.W.Frag} {mg mb : Str → Option Value} {k : Nat} {fa a : Addr} {fd : FuncData}
    {x : Str} {sp : Sp} {t : Shared} {vs : List Value} {ns : List Int} (inK : K.In t.heap) (names : t.heap.Ns mainGlobals mg)
    (own : t.heap.Ns builtinsNs mb) (boot : ∀ x : Str, x ≠ "__name__" → mb x = bootBuiltins x) (noLim : t.heap.NoLimit)
    (noGen : t.gens = #[]) (ob : t.heap.get? a = some { cls := .type "list", data := .seq vs.toArray }) (hints : IntsAre vs ns)
    (short : ns.length ≤ sizeLine) (room : Room k callerA)
    (F : ∀ base : Heap, K.In base → base.Ns mainGlobals mg → FnG P w K mg base CX0 k fa fd [x] sp)
    (bnd : ∀ (s : Shared) (u : Value), BindsTo s fd ⟨[u], []⟩ [(x, u)])
    (wish : ∀ H : Hp, Only H → SqL K H a (ns.map V.int) → sp [.ref a] H (fun v _ => v = .bl true) fun _ _ _ => False) :
    codeAny (model P w) callerA (.call (.ref fa) ⟨[.ref a], []⟩)
      (fun r s' => r = .ok (.ret (.bool true)) ∧ OldK t.heap s'.heap ∧ s'.os = t.os ∧ AllBare s'.gens) t := by
  have rel := vals_ints hints
  have size := hints.length
  have main : ∀ H : Hp, Only H → SqL K H a (ns.map V.int) → HOk P w H t.heap → (∀ b, H b ≠ none → b = a) →
      (H a ≠ none → K.lookup a = none) → codeAny (model P w) callerA (.call (.ref fa) ⟨[.ref a], []⟩)
      (fun r s' => r = .ok (.ret (.bool true)) ∧ OldK t.heap s'.heap ∧ s'.os = t.os ∧ AllBare s'.gens) t := by
    intro H only seq hok one apart
    have back : ∀ {b : Addr} {o : Obj}, t.heap.get? b = some o → H b = none → (hidT t.heap H).get? b = some o :=
      fun e n => hidT_get e n
    have notA : ∀ {b : Addr} {o : Obj} {es : Array DictEntry} {ep : Nat}, t.heap.get? b = some o → o.data = .dict es ep → H b = none := by
      intro b o es ep e d
      cases q : H b with
      | none => rfl
      | some u =>
        obtain rfl : b = a := one b (by rw [q]; simp)
        rw [ob] at e
        cases e
        have d' : Data.seq vs.toArray _ = Data.dict es ep := d
        cases d'
    have spaces : ∀ {b : Addr} {m : Str → Option Value}, t.heap.Ns b m → (hidT t.heap H).Ns b m := by
      rintro b m ⟨o, es, ep, e, d, r⟩
      exact ⟨o, es, ep, back e (notA e d), d, r⟩
    have inB : K.In (hidT t.heap H) := fun b o e => back (inK b o e) (by
      cases q : H b with
      | none => rfl
      | some u =>
        obtain rfl : b = a := one b (by rw [q]; simp)
        rw [apart (by rw [q]; simp)] at e
        cases e)
    have module : Mod K mg (hidT t.heap H) :=
      ⟨inB, spaces names, ⟨mb, spaces own, boot⟩, let ⟨mc, h1, h2⟩ := noLim; ⟨mc, spaces h1, h2⟩⟩
    have e0 : Env0 P w K mg (hidT t.heap H) callerA [] t H :=
      ⟨rfl, module, fun b o e => of_hidT e, Nat.le_of_eq (hidT_size _ _), trivial,
        fun b hb => absurd (show b ∈ ([] : List Addr) from hb) (by simp), hok, .of_eq noGen⟩
    refine codeAny_mono ((F _ inB (spaces names)).does callerA [] t H ⟨[.ref a], []⟩ [.ref a] [.ref a] _ _ room rfl e0
      (bnd t (.ref a)) (.cons rfl .nil) (wish H only seq)) fun r s' h => ?_
    cases r with
    | error e => exact False.elim h
    | ok fl =>
      cases fl with
      | next => exact False.elim h
      | brk => exact False.elim h
      | cont => exact False.elim h
      | ret u =>
        obtain ⟨v, H', os, bare, un, hok', r', q⟩ := h
        obtain rfl : v = .bl true := q
        obtain rfl : u = Value.bool true := r'
        refine ⟨rfl, OldK.of_keep fun b o e => ?_, os, bare⟩
        cases q : H b with
        | none => exact un.keep b o e q (by intro z; exact absurd (show b ∈ ([] : List Addr) from z) (by simp)) (by simp)
        | some u =>
          rcases only b with z | ⟨ob', xs, z⟩
          · rw [q] at z
            cases z
          · have z2 := un.frzs b ob' _ z
            obtain ⟨e1, _⟩ := hok b _ z
            obtain ⟨e2, _⟩ := hok' b _ z2
            rw [e] at e1
            cases e1
            exact e2
  cases hk : K.lookup a with
  | some o =>
    have e := inK a o hk
    rw [ob] at e
    cases e
    refine main (fun _ => none) (fun _ => .inl rfl)
      (.inr ⟨_, vs.toArray, _, hk, rfl, rfl, rfl, by rw [List.size_toArray, size]; exact short, by simpa using rel⟩)
      (fun b u z => by have z' : (none : Option HO) = some u := z; cases z') (fun b z => absurd rfl z) fun z => absurd rfl z
  | none =>
    refine main (fun b => if b = a then some (.frz { cls := .type "list", data := .seq vs.toArray } (.lst (ns.map V.int))) else none)
      (fun b => ?_) (.inl (.inr ⟨_, if_pos rfl⟩)) (fun b u z => ?_) (fun b z => ?_) fun _ => hk
    · by_cases hb : b = a
      · exact .inr ⟨_, _, if_pos hb⟩
      · exact .inl (if_neg hb)
    · by_cases hb : b = a
      · have z' := (if_pos hb).symm.trans z
        cases z'
        subst hb
        exact ⟨ob, by rw [List.length_map]; exact short, vs, _, rel, ob⟩
      · have z' := (if_neg hb).symm.trans z
        cases z'
    · by_cases hb : b = a
      · exact hb
      · exact absurd (if_neg hb) z
/-- the end of a law's row -/
theorem walk_g {l : PySem.W.OpenLaw} {n k : Nat} {q : Program} {loose : List Str} {XP : (Str → Option Value) → Heap → Prop}
    {YP : World → Heap → Prop} {d : DefRec} {K : Params → PySem.W.Frag} {sp : PySem.W.Frag → Sp} {x : Str}
    (hn : l.most = some n) (hn2 : n ≤ sizeLine) (hdf : d.params.defaults = []) (room : Room k callerA)
    (hY : ∀ (w : World) (h : Heap), YP w h → (K w.params).In h)
    (F : ∀ (w : World) (mg : Str → Option Value) (fa : Addr) (h : Heap), (K w.params).In h → h.Ns mainGlobals mg →
      mg d.name = some (.ref fa) → ∃ fd : FuncData, (∀ (s : Shared) (u : Value), BindsTo s fd ⟨[u], []⟩ [(x, u)]) ∧
        ∀ base : Heap, (K w.params).In base → base.Ns mainGlobals mg →
          FnG l.prog w (K w.params) mg base CX0 k fa fd [x] (sp (K w.params)))
    (wish : ∀ (K : PySem.W.Frag) (H : Hp) (a : Addr) (ns : List Int), ns.length ≤ n → Only H → SqL K H a (ns.map V.int) →
      sp K [.ref a] H (fun v _ => v = .bl true) fun _ _ _ => False) :
    PySem.W.WalkO q loose XP YP l.row.toRowW d [] (fun f vs => PySem.call f vs) := by
  refine Att.attach_call hn hdf fun w s₀ t mg mb fa o pm cd doc a vs ns G Y ho hd hcd hmg hobj hints hlen hg => ?_
  have inK := hY w _ Y
  obtain ⟨fd, hb, hF⟩ := F w mg fa _ inK G.T.g hmg
  exact law_g inK G.T.g G.T.b G.T.builtins G.T.nolimit hg hobj hints (Nat.le_trans hlen hn2) room hF hb
    fun H hO hS => wish _ H a ns hlen hO hS
end My

set_option maxHeartbeats 2000000
namespace My
open PySem PySem.Spec PyProof.Rows L2
/-! ### data: what a value is, with the empty dict too -/
mutual
inductive Jd (K : PySem.W.Frag) (H : Hp) : V → PyData → Prop
  | non : Jd K H .non .none
  | bl (b : Bool) : Jd K H (.bl b) (.bool b)
  | int (i : Int) : Jd K H (.int i) (.int i)
  | str (x : Str) : Jd K H (.str x) (.str x)
  | lst {a : Addr} {xs : List V} {ds : List PyData} : SqL K H a xs → JdAll K H xs ds → Jd K H (.ref a) (.list ds)
  | tup {a : Addr} {xs : List V} {ds : List PyData} : SqT K H a xs → JdAll K H xs ds → Jd K H (.ref a) (.tuple ds)
  | dct {a : Addr} : H a = some (.dK []) → Jd K H (.ref a) (.dict [])
inductive JdAll (K : PySem.W.Frag) (H : Hp) : List V → List PyData → Prop
  | nil : JdAll K H [] []
  | cons {v : V} {vs : List V} {d : PyData} {ds : List PyData} : Jd K H v d → JdAll K H vs ds → JdAll K H (v :: vs) (d :: ds)
end
section
variable {K : PySem.W.Frag} {H H' : Hp}
theorem same_l {a : Addr} {xs : List V} (e : Same H H') (h : SqL K H a xs) : SqL K H' a xs := Evl.ex_l e h
theorem same_t {a : Addr} {xs : List V} (e : Same H H') (h : SqT K H a xs) : SqT K H' a xs := Evl.ex_t e h
mutual
theorem Jd.mono (e : Same H H') : ∀ (d : PyData) (v : V), Jd K H v d → Jd K H' v d
  | .none, _, h => by cases h; exact .non
  | .bool b, _, h => by cases h; exact .bl b
  | .int i, _, h => by cases h; exact .int i
  | .str x, _, h => by cases h; exact .str x
  | .list ds, _, h => by cases h with | lst s a => exact .lst (same_l e s) (JdAll.mono e ds _ a)
  | .tuple ds, _, h => by cases h with | tup s a => exact .tup (same_t e s) (JdAll.mono e ds _ a)
  | .dict _, _, h => by cases h with | dct s => exact .dct (e _ _ s)
theorem JdAll.mono (e : Same H H') : ∀ (ds : List PyData) (vs : List V), JdAll K H vs ds → JdAll K H' vs ds
  | [], _, h => by cases h; exact .nil
  | d :: ds, _, h => by cases h with | cons a b => exact .cons (Jd.mono e d _ a) (JdAll.mono e ds _ b)
end
def tyD : PyData → String
  | .none => "NoneType" | .bool _ => "bool" | .int _ => "int" | .str _ => "str" | .list _ => "list" | .tuple _ => "tuple" | .dict _ => "dict"
theorem tyx_l {a : Addr} {xs : List V} (h : SqL K H a xs) : TyX K H (.ref a) (.type "list") := by
  rcases h with (h | ⟨o, h⟩) | ⟨o, its, n, hl, hc, _⟩
  · exact .base (.lst h)
  · exact .base (.frz h)
  · exact .kList hl hc
theorem tyx_t {a : Addr} {xs : List V} (h : SqT K H a xs) : TyX K H (.ref a) (.type "tuple") := by
  rcases h with (h | ⟨o, h⟩) | ⟨o, its, n, hl, hc, _⟩
  · exact .base (.tup h)
  · exact .fTuple h
  · exact .kTuple hl hc
theorem Jd.ty {v : V} {d : PyData} (h : Jd K H v d) : TyX K H v (.type (tyD d)) := by
  cases h with
  | non => exact .base .non
  | bl b => exact .base (.bl b)
  | int i => exact .base (.int i)
  | str x => exact .base (.str x)
  | lst s a => exact tyx_l s
  | tup s a => exact tyx_t s
  | dct s => exact .base (.dK s)
/-! no dict within -/
mutual
def flatD : PyData → Bool
  | .list ds => flatDs ds
  | .tuple ds => flatDs ds
  | .dict _ => false
  | _ => true
def flatDs : List PyData → Bool
  | [] => true
  | d :: ds => flatD d && flatDs ds
end
mutual
theorem Jd.dp : ∀ (d : PyData) (v : V), flatD d = true → Jd K H v d → Dp K H v d
  | .none, _, _, h => by cases h; exact .non
  | .bool b, _, _, h => by cases h; exact .bl b
  | .int i, _, _, h => by cases h; exact .int i
  | .str x, _, _, h => by cases h; exact .str x
  | .list ds, _, f, h => by cases h with | lst s a => exact .lst s (JdAll.dp ds _ (by simpa [flatD] using f) a)
  | .tuple ds, _, f, h => by cases h with | tup s a => exact .tup s (JdAll.dp ds _ (by simpa [flatD] using f) a)
  | .dict _, _, f, h => by simp [flatD] at f
theorem JdAll.dp : ∀ (ds : List PyData) (vs : List V), flatDs ds = true → JdAll K H vs ds → DpAll K H vs ds
  | [], _, _, h => by cases h; exact .nil
  | d :: ds, _, f, h => by
    cases h with
    | cons a b =>
      simp only [flatDs, Bool.and_eq_true] at f
      exact .cons (Jd.dp d _ f.1 a) (JdAll.dp ds _ f.2 b)
end
theorem JdAll.length : ∀ {vs : List V} {ds : List PyData}, JdAll K H vs ds → vs.length = ds.length
  | _, _, .nil => rfl
  | _, _, .cons _ t => by simp [JdAll.length t]
theorem JdAll.get : ∀ {vs : List V} {ds : List PyData} {i : Nat} {v : V}, JdAll K H vs ds → vs[i]? = some v → ∃ d, ds[i]? = some d ∧ Jd K H v d
  | _, _, _, _, .nil, h => by simp at h
  | _, _, 0, _, .cons a _, h => by simp at h; subst h; exact ⟨_, rfl, a⟩
  | _, _, i + 1, _, .cons _ t, h => by
    obtain ⟨d, h1, h2⟩ := JdAll.get (i := i) t (by simpa using h)
    exact ⟨d, by simpa using h1, h2⟩
theorem JdAll.append : ∀ {vs ws : List V} {ds es : List PyData}, JdAll K H vs ds → JdAll K H ws es → JdAll K H (vs ++ ws) (ds ++ es)
  | _, _, _, _, .nil, h => h
  | _, _, _, _, .cons a t, h => .cons a (JdAll.append t h)
theorem jd_ints : ∀ ns : List Int, JdAll K H (ns.map V.int) (ns.map PyData.int)
  | [] => .nil
  | n :: ns => .cons (.int n) (jd_ints ns)
/-! ### expressions that make data, leaving all that is known -/
def MkD (K : PySem.W.Frag) (te : TE) (σ : St) (H : Hp) (d : PyData) : Prop :=
  ∀ H1, Same H H1 → ∀ Q : VK, (∀ v H2, Same H1 H2 → Jd K H2 v d → Q v H2) → te σ H1 Q
def MkA (K : PySem.W.Frag) (ta : TA) (σ : St) (H : Hp) (ds : List PyData) : Prop :=
  ∀ H1, Same H H1 → ∀ Q : List V → Hp → Prop, (∀ vs H2, Same H1 H2 → JdAll K H2 vs ds → Q vs H2) → ta σ H1 Q
variable {σ : St} {te ta tb : TE} {tA : TA} {d : PyData} {ds : List PyData}
theorem mk_var {i : Nat} {v : V} (h : σ[i]? = some (some v)) (j : Jd K H v d) : MkD K (tVar i) σ H d :=
  fun H1 e Q q => ⟨v, h, q v H1 (Same.refl _) (Jd.mono e d v j)⟩
theorem mk_c {v : V} (j : ∀ H, Jd K H v d) : MkD K (tC v) σ H d := fun H1 _ Q q => q v H1 (Same.refl _) (j H1)
theorem mk_int {i : Int} : MkD K (tC (.int i)) σ H (.int i) := mk_c fun _ => .int i
theorem mk_bool {b : Bool} : MkD K (tC (.bl b)) σ H (.bool b) := mk_c fun _ => .bl b
theorem mk_non : MkD K (tC .non) σ H .none := mk_c fun _ => .non
theorem mk_str {x : Str} : MkD K (tC (.str x)) σ H (.str x) := mk_c fun _ => .str x
theorem mka_nil : MkA K tNil σ H [] := fun H1 _ Q q => q [] H1 (Same.refl _) .nil
theorem mka_cons (h : MkD K te σ H d) (r : MkA K tA σ H ds) : MkA K (tCons te tA) σ H (d :: ds) := fun H1 e Q q =>
  h H1 e _ fun v H2 e2 j => r H2 (e.trans e2) _ fun vs H3 e3 js => q _ H3 (e2.trans e3) (.cons (Jd.mono e3 d v j) js)
theorem same_new {p : Addr} {o : HO} (h : H p = none) : Same H (upd H p o) := fun b u e => by
  rw [upd_ne (ne_of_none e h)]
  exact e
theorem mk_tup (h : MkA K tA σ H ds) (z : ds.length ≤ 100000) : MkD K (tTup tA) σ H (.tuple ds) := fun H1 e Q q =>
  h H1 e _ fun vs H2 e2 js => ⟨by rw [js.length]; exact Evl.sz_of z, fun p hp => q _ _ (e2.trans (same_new hp))
    (.tup (Or.inl (Or.inl upd_same)) (JdAll.mono (same_new hp) _ _ js))⟩
theorem mk_lst (h : MkA K tA σ H ds) (z : ds.length ≤ 100000) : MkD K (tLst tA) σ H (.list ds) := fun H1 e Q q =>
  h H1 e _ fun vs H2 e2 js => ⟨by rw [js.length]; exact Evl.sz_of z, fun p hp => q _ _ (e2.trans (same_new hp))
    (.lst (Or.inl (Or.inl upd_same)) (JdAll.mono (same_new hp) _ _ js))⟩
theorem mk_op {C : Int → Int → Prop} {g : Int → Int → Int} {i j : Int} (ha : MkD K ta σ H (.int i)) (hb : MkD K tb σ H (.int j)) (hc : C i j) :
    MkD K (tOp (rI C fun i j => .int (g i j)) ta tb) σ H (.int (g i j)) := fun H1 e Q q =>
  ha H1 e _ fun v H2 e2 jv => hb H2 (e.trans e2) _ fun w H3 e3 jw => by
    cases jv
    cases jw
    exact ⟨i, j, rfl, rfl, hc, q _ H3 (e2.trans e3) (.int _)⟩
theorem mk_op0 {g : Int → Int → Int} {i j : Int} (ha : MkD K ta σ H (.int i)) (hb : MkD K tb σ H (.int j)) :
    MkD K (tOp (rI0 fun i j => .int (g i j)) ta tb) σ H (.int (g i j)) := fun H1 e Q q =>
  ha H1 e _ fun v H2 e2 jv => hb H2 (e.trans e2) _ fun w H3 e3 jw => by
    cases jv
    cases jw
    exact ⟨i, j, rfl, rfl, q _ H3 (e2.trans e3) (.int _)⟩
theorem mk_neg {i : Int} (ha : MkD K ta σ H (.int i)) : MkD K (tUn (rU fun i => .int (-i)) ta) σ H (.int (-i)) := fun H1 e Q q =>
  ha H1 e _ fun v H2 e2 jv => by
    cases jv
    exact ⟨i, rfl, q _ H2 e2 (.int _)⟩
theorem MkD.now {Q : VK} (h : MkD K te σ H d) (q : ∀ v H2, Same H H2 → Jd K H2 v d → Q v H2) : te σ H Q := h H (Same.refl _) Q q
theorem if_pos_of {c : Bool} {A B : Prop} (hc : c = true) (h : A) : if c = true then A else B := by
  rw [if_pos hc]
  exact h
theorem if_neg_of {c : Bool} {A B : Prop} (hc : c = false) (h : B) : if c = true then A else B := by
  rw [hc, if_neg Bool.false_ne_true]
  exact h
/-! ### isinstance of data -/
def isT (d : PyData) (n : String) : Option Bool := kitB (tyD d) n
theorem isi_of {v : V} {d : PyData} {n : String} {b : Bool} {Q : VK} (j : Jd K H v d) (e : kitB (tyD d) n = some b) (q : Q (.bl b) H) :
    rIsi K [v, .ty n] H Q := ⟨v, .ty n, _, _, b, rfl, .ty n, j.ty, kit_ty e, q⟩
end
/-! ### a drawer of numbers: a list of three -/
def Bag (H : Hp) (b : Addr) : Prop := ∃ x y z : Int, H b = some (.lst [.int x, .int y, .int z]) ∧ 0 ≤ x ∧ 0 ≤ y ∧ y < 2305843009213693951
/-- all but the drawer stays -/
def But (b : Addr) (H H' : Hp) : Prop := ∀ a o, H a = some o → a ≠ b → H' a = some o
theorem But.refl (b : Addr) (H : Hp) : But b H H := fun _ _ h _ => h
theorem But.trans {b : Addr} {H H1 H2 : Hp} (x : But b H H1) (y : But b H1 H2) : But b H H2 := fun a o h n => y a o (x a o h n) n
theorem But.of {b : Addr} {H H' : Hp} (e : Same H H') : But b H H' := fun a o h _ => e a o h
theorem But.put {b : Addr} {H : Hp} {o : HO} : But b H (upd H b o) := fun a u h n => by rw [upd_ne n]; exact h
theorem But.l {K : PySem.W.Frag} {b a : Addr} {H H' : Hp} {xs : List V} (e : But b H H') (n : a ≠ b) (h : SqL K H a xs) : SqL K H' a xs := by
  rcases h with (h | ⟨o, h⟩) | h
  · exact Or.inl (Or.inl (e a _ h n))
  · exact Or.inl (Or.inr ⟨o, e a _ h n⟩)
  · exact Or.inr h
theorem But.t {K : PySem.W.Frag} {b a : Addr} {H H' : Hp} {xs : List V} (e : But b H H') (bag : Bag H b) (h : SqT K H a xs) : SqT K H' a xs := by
  obtain ⟨x, y, z, hb, _⟩ := bag
  rcases h with (h | ⟨o, h⟩) | h
  · exact Or.inl (Or.inl (e a _ h (ne_of h hb (by intro q; cases q))))
  · exact Or.inl (Or.inr ⟨o, e a _ h (ne_of h hb (by intro q; cases q))⟩)
  · exact Or.inr h
theorem Bag.same {H H' : Hp} {b : Addr} (e : Same H H') (h : Bag H b) : Bag H' b := by
  obtain ⟨x, y, z, hb, r⟩ := h
  exact ⟨x, y, z, e _ _ hb, r⟩
theorem Bag.ne {H : Hp} {b a : Addr} (h : Bag H b) (n : H a = none) : a ≠ b := by
  obtain ⟨x, y, z, hb, r⟩ := h
  exact (ne_of_none hb n).symm
end My

set_option maxHeartbeats 2000000
namespace My
open PySem PySem.Spec PyProof.Rows L2
section
variable {K : PySem.W.Frag} {σ : St} {H : Hp} {te t0 : TE} {vs : List Nat} {i : Nat} {Q : VK}
theorem take_next {α : Type} {l : List α} {k : Nat} {y : α} (h : l[k]? = some y) : l.take (k + 1) = l.take k ++ [y] := by
  rw [List.take_succ, h]
  rfl
theorem yes_of {σ : St} {H : Hp} {A B : Hp → Prop} (h : A H) : tYes σ H (fun b H3 => if b = true then A H3 else B H3) := by
  unfold tYes
  exact iteT h
/-- [e for x in t], each e a known value, all that is known stays -/
theorem comp_t {a : Addr} {xs : List V} (ys : List V) (hl : ys.length = xs.length) (hz : xs.length < 100000) (hT : SqT K H a xs)
    (hw : ∀ x, wipe ((wipe σ vs).set i (some x)) vs = wipe σ vs)
    (hel : ∀ (k : Nat) x y H1, xs[k]? = some x → ys[k]? = some y → Same H H1 → ∀ Q' : VK, (∀ H2, Same H1 H2 → Q' y H2) → te ((wipe σ vs).set i (some x)) H1 Q')
    (q : ∀ D H', Same H H' → H D = none → H' D = some (.lst ys) → Q (.ref D) H') (h0 : ∀ Q' : VK, Q' (.ref a) H → t0 σ H Q') :
    tLc (iTup K t0) (gName i) tYes te vs σ H Q := by
  refine h0 _ ⟨a, rfl, ⟨_, hT⟩, fun D hD => ?_⟩
  refine lc_tup (K := K) (a := a) (xs := xs) (fun k H' => Same H H' ∧ H' D = some (.lst (ys.take k))) ⟨same_new hD, upd_same⟩ (fun k H' _ h => same_t h.1 hT) ?_ ?_
  · rintro k x H1 hx ⟨e1, hL⟩
    have hk : k < xs.length := (List.getElem?_eq_some_iff.mp hx).1
    obtain ⟨y, hy⟩ : ∃ y, ys[k]? = some y := ⟨_, List.getElem?_eq_getElem (by omega)⟩
    refine ⟨hw x, ?_⟩
    refine yes_of (hel k x y H1 hx hy e1 _ fun H2 e2 => ⟨_, e2 _ _ hL, ?_, ?_, ?_⟩)
    · rw [List.length_take]
      exact Evl.sz_lt (by omega)
    · intro b u e
      rw [upd_ne (ne_of_none e hD)]
      exact e2 _ _ (e1 _ _ e)
    · rw [upd_same, take_next hy]
  · rintro H1 ⟨e1, hL⟩
    rw [← hl, List.take_length] at hL
    exact q D H1 e1 hD hL
theorem comp_l {a : Addr} {xs : List V} (ys : List V) (hl : ys.length = xs.length) (hz : xs.length < 100000) (hT : SqL K H a xs)
    (hw : ∀ x, wipe ((wipe σ vs).set i (some x)) vs = wipe σ vs)
    (hel : ∀ (k : Nat) x y H1, xs[k]? = some x → ys[k]? = some y → Same H H1 → ∀ Q' : VK, (∀ H2, Same H1 H2 → Q' y H2) → te ((wipe σ vs).set i (some x)) H1 Q')
    (q : ∀ D H', Same H H' → H D = none → H' D = some (.lst ys) → Q (.ref D) H') (h0 : ∀ Q' : VK, Q' (.ref a) H → t0 σ H Q') :
    tLc (iList K t0) (gName i) tYes te vs σ H Q := by
  refine h0 _ ⟨a, rfl, ⟨_, hT⟩, fun D hD => ?_⟩
  refine lc_list (K := K) (a := a) (xs := xs) (fun k H' => Same H H' ∧ H' D = some (.lst (ys.take k))) ⟨same_new hD, upd_same⟩ (fun k H' _ h => same_l h.1 hT) ?_ ?_
  · rintro k x H1 hx ⟨e1, hL⟩
    have hk : k < xs.length := (List.getElem?_eq_some_iff.mp hx).1
    obtain ⟨y, hy⟩ : ∃ y, ys[k]? = some y := ⟨_, List.getElem?_eq_getElem (by omega)⟩
    refine ⟨hw x, ?_⟩
    refine yes_of (hel k x y H1 hx hy e1 _ fun H2 e2 => ⟨_, e2 _ _ hL, ?_, ?_, ?_⟩)
    · rw [List.length_take]
      exact Evl.sz_lt (by omega)
    · intro b u e
      rw [upd_ne (ne_of_none e hD)]
      exact e2 _ _ (e1 _ _ e)
    · rw [upd_same, take_next hy]
  · rintro H1 ⟨e1, hL⟩
    rw [← hl, List.take_length] at hL
    exact q D H1 e1 hD hL
/-- [e for k in range(n)], the drawer turned by each e: what is made keeps Pv -/
theorem comp_b {b : Addr} {n : Nat} (hz : n < 100000) (bag : Bag H b) (Ok : V → Prop) (lo : Int)
    (hw : ∀ x, wipe ((wipe σ vs).set i (some x)) vs = wipe σ vs)
    (hel : ∀ (k : Nat) H1, k < n → But b H H1 → Bag H1 b → ∀ Q' : VK, (∀ y H2, Ok y → But b H1 H2 → Bag H2 b → Q' y H2) → te ((wipe σ vs).set i (some (.int (lo + k)))) H1 Q')
    (q : ∀ D ys H', But b H H' → Bag H' b → D ≠ b → H D = none → ys.length = n → (∀ y ∈ ys, Ok y) → H' D = some (.lst ys) → Q (.ref D) H') :
    ∀ D, H D = none → ∃ W : Nat → Nat → Hp → Prop, (∃ m, W 0 m (upd H D (.lst []))) ∧ ∀ k m H1, W k m H1 →
      ((Itr lo n).stop k H1 ∧ Q (.ref D) H1) ∨ ((Itr lo n).go k H1 ∧ ∃ Nx : Hp → Prop, (∀ H', Nx H' → ∃ m', m' < m ∧ W (k + 1) m' H') ∧
        ∀ x H', (Itr lo n).yld k H1 x H' → gName i x (wipe σ vs) H' fun σ2 H2 => wipe σ2 vs = wipe σ vs ∧ tYes σ2 H2 fun b H3 =>
          if b = true then te σ2 H3 fun y H4 => ∃ acc, H4 D = some (.lst acc) ∧ acc.length < sizeLine ∧ Nx (upd H4 D (.lst (acc ++ [y]))) else Nx H3) := by
  intro D hD
  have hDb : D ≠ b := bag.ne hD
  refine lc_range (lo := lo) (n := n) (fun k H' => But b H H' ∧ Bag H' b ∧ ∃ ys : List V, ys.length = k ∧ (∀ y ∈ ys, Ok y) ∧ H' D = some (.lst ys))
    ⟨But.of (same_new hD), bag.same (same_new hD), [], rfl, fun y h => absurd h List.not_mem_nil, upd_same⟩ ?_ ?_
  · rintro k H1 hk ⟨e1, b1, ys, hy, ok, hL⟩
    refine ⟨hw _, ?_⟩
    refine yes_of (hel k H1 hk e1 b1 _ fun y H2 oy e2 b2 => ⟨ys, e2 _ _ hL hDb, Evl.sz_lt (by omega), ?_, ?_, ys ++ [y], ?_, ?_, upd_same⟩)
    · intro c u e n
      rw [upd_ne (ne_of_none e hD)]
      exact e2 _ _ (e1 _ _ e n) n
    · obtain ⟨x, y', z, hb, r⟩ := b2
      exact ⟨x, y', z, by rw [upd_ne (Ne.symm hDb)]; exact hb, r⟩
    · rw [List.length_append, hy]
      rfl
    · intro z hz'
      rcases List.mem_append.mp hz' with h | h
      · exact ok z h
      · rw [List.mem_singleton.mp h]
        exact oy
  · rintro H1 ⟨e1, b1, ys, hy, ok, hL⟩
    exact q D ys H1 e1 b1 hDb hD hy ok hL
/-- [e for k in range(m)], the drawer turned by each e -/
theorem comp_r {b : Addr} {m : Int} {ta : TA} (h1 : 0 ≤ m) (h2 : m < 100000) (bag : Bag H b) (Ok : V → Prop)
    (hw : ∀ x, wipe ((wipe σ vs).set i (some x)) vs = wipe σ vs)
    (hel : ∀ (k : Nat) H1, (k : Int) < m → But b H H1 → Bag H1 b → ∀ Q' : VK, (∀ y H2, Ok y → But b H1 H2 → Bag H2 b → Q' y H2) → te ((wipe σ vs).set i (some (.int (0 + k)))) H1 Q')
    (q : ∀ D ys H', But b H H' → Bag H' b → D ≠ b → H D = none → (ys.length : Int) = m → (∀ y ∈ ys, Ok y) → H' D = some (.lst ys) → Q (.ref D) H')
    (h0 : ∀ Q' : List V → Hp → Prop, Q' [.int m] H → ta σ H Q') :
    tLc (iRng1 ta) (gName i) tYes te vs σ H Q := by
  refine h0 _ ⟨m, rfl, by omega, by omega, ?_⟩
  refine comp_b (b := b) (n := m.toNat) (by omega) bag Ok 0 hw (fun k H1 hk => hel k H1 (by omega)) fun D ys H' e1 b1 n1 hD hl => q D ys H' e1 b1 n1 hD (by omega)
end
theorem Bag.upd {H : Hp} {b p : Addr} {o : HO} (h : Bag H b) (n : H p = none) : Bag (upd H p o) b := h.same (same_new n)
end My

set_option maxHeartbeats 400000
namespace My
open PySem PySem.Spec PyProof.Rows L2
section
variable {K : PySem.W.Frag} {σ : St} {H : Hp} {te ta tb : TE} {tA : TA} {ds es : List PyData}
def MkL (K : PySem.W.Frag) (te : TE) (σ : St) (H : Hp) (ds : List PyData) : Prop :=
  ∀ H1, Same H H1 → ∀ Q : VK, (∀ p vs H2, Same H1 H2 → H1 p = none → H2 p = some (.lst vs) → JdAll K H2 vs ds → Q (.ref p) H2) → te σ H1 Q
theorem mkl_lst (h : MkA K tA σ H ds) (z : ds.length ≤ 100000) : MkL K (tLst tA) σ H ds := fun H1 e Q q =>
  h H1 e _ fun vs H2 e2 js => ⟨by rw [js.length]; exact Evl.sz_of z, fun p hp => q p vs _ (e2.trans (same_new hp)) (e2.free hp) upd_same (JdAll.mono (same_new hp) _ _ js)⟩
theorem mkl_cat {i : Nat} {p : Addr} {vs : List V} (hv : σ[i]? = some (some (.ref p))) (hp : H p = some (.lst vs)) (j : JdAll K H vs ds) (hb : MkL K tb σ H es)
    (z : ds.length + es.length ≤ 100000) : MkL K (tOp rCat (tVar i) tb) σ H (ds ++ es) := fun H1 e Q q =>
  ⟨_, hv, hb H1 e _ fun r ws H2 e2 hr hw js => ⟨p, r, vs, ws, rfl, rfl, e2 _ _ (e _ _ hp), hw,
    by rw [j.length, js.length]; exact Evl.sz_of z,
    fun u hu => q u _ _ (e2.trans (same_new hu)) (e2.free hu) upd_same
      (JdAll.append (JdAll.mono (e.trans (e2.trans (same_new hu))) _ _ j) (JdAll.mono (same_new hu) _ _ js))⟩⟩
theorem MkL.now {Q : VK} (h : MkL K te σ H ds) (q : ∀ p vs H2, Same H H2 → H p = none → H2 p = some (.lst vs) → JdAll K H2 vs ds → Q (.ref p) H2) : te σ H Q := h H (Same.refl _) Q q
theorem mk_dct : MkD K tDNewK σ H (.dict []) := fun H1 e Q q p hp => q _ _ (same_new hp) (.dct upd_same)
theorem mk_lst' (h : MkL K te σ H ds) : MkD K te σ H (.list ds) := fun H1 e Q q =>
  h H1 e _ fun p vs H2 e2 _ hp js => q _ _ e2 (.lst (Or.inl (Or.inl hp)) js)
theorem st_mkl {i : Nat} {D : Ends} (h : MkL K te σ H ds) (q : ∀ p vs H2, Same H H2 → H p = none → H2 p = some (.lst vs) → JdAll K H2 vs ds → D.nx (σ.set i (some (.ref p))) H2) :
    tAsg te (gName i) D σ H := h H (Same.refl _) _ q
/-! ### the same, what they are left open -/
def MkI (K : PySem.W.Frag) (te : TE) (σ : St) (H : Hp) : Prop := ∃ i, MkD K te σ H (.int i)
def MkX (K : PySem.W.Frag) (te : TE) (σ : St) (H : Hp) : Prop := ∃ d, MkD K te σ H d
def MkXA (K : PySem.W.Frag) (tA : TA) (σ : St) (H : Hp) (n : Nat) : Prop := ∃ ds, MkA K tA σ H ds ∧ ds.length = n
def MkXL (K : PySem.W.Frag) (te : TE) (σ : St) (H : Hp) (n : Nat) : Prop := ∃ ds, MkL K te σ H ds ∧ ds.length = n
theorem mi_int {i : Int} : MkI K (tC (.int i)) σ H := ⟨i, mk_int⟩
theorem mi_var {j : Nat} {i : Int} (h : σ[j]? = some (some (.int i))) : MkI K (tVar j) σ H := ⟨i, mk_var h (.int i)⟩
theorem mi_op0 {g : Int → Int → Int} (ha : MkI K ta σ H) (hb : MkI K tb σ H) : MkI K (tOp (rI0 fun i j => .int (g i j)) ta tb) σ H := by
  obtain ⟨i, ha⟩ := ha
  obtain ⟨j, hb⟩ := hb
  exact ⟨_, mk_op0 ha hb⟩
theorem mi_opc {C : Int → Int → Prop} {g : Int → Int → Int} {i : Int} (hb : MkI K tb σ H) (hc : ∀ j, C i j) : MkI K (tOp (rI C fun i j => .int (g i j)) (tC (.int i)) tb) σ H := by
  obtain ⟨j, hb⟩ := hb
  exact ⟨_, mk_op mk_int hb (hc j)⟩
theorem mi_opk {C : Int → Int → Prop} {g : Int → Int → Int} {i j : Int} (hc : C i j) : MkI K (tOp (rI C fun i j => .int (g i j)) (tC (.int i)) (tC (.int j))) σ H := ⟨_, mk_op mk_int mk_int hc⟩
theorem mi_neg (ha : MkI K ta σ H) : MkI K (tUn (rU fun i => .int (-i)) ta) σ H := by
  obtain ⟨i, ha⟩ := ha
  exact ⟨_, mk_neg ha⟩
theorem MkI.x (h : MkI K te σ H) : MkX K te σ H := let ⟨i, h⟩ := h; ⟨_, h⟩
theorem mx_bool {b : Bool} : MkX K (tC (.bl b)) σ H := ⟨_, mk_bool⟩
theorem mx_non : MkX K (tC .non) σ H := ⟨_, mk_non⟩
theorem mx_str {x : Str} : MkX K (tC (.str x)) σ H := ⟨_, mk_str⟩
theorem mx_dct : MkX K tDNewK σ H := ⟨_, mk_dct⟩
theorem mxa_nil : MkXA K tNil σ H 0 := ⟨[], mka_nil, rfl⟩
theorem mxa_cons {n : Nat} (h : MkX K te σ H) (r : MkXA K tA σ H n) : MkXA K (tCons te tA) σ H (n + 1) := by
  obtain ⟨d, h⟩ := h
  obtain ⟨ds, r, e⟩ := r
  exact ⟨d :: ds, mka_cons h r, by rw [List.length_cons, e]⟩
theorem mx_tup {n : Nat} (h : MkXA K tA σ H n) (z : n ≤ 100000) : MkX K (tTup tA) σ H := by
  obtain ⟨ds, h, e⟩ := h
  exact ⟨_, mk_tup h (by omega)⟩
theorem mx_lst {n : Nat} (h : MkXA K tA σ H n) (z : n ≤ 100000) : MkX K (tLst tA) σ H := by
  obtain ⟨ds, h, e⟩ := h
  exact ⟨_, mk_lst h (by omega)⟩
theorem mxl_lst {n : Nat} (h : MkXA K tA σ H n) (z : n ≤ 100000) : MkXL K (tLst tA) σ H n := by
  obtain ⟨ds, h, e⟩ := h
  exact ⟨_, mkl_lst h (by omega), e⟩
theorem mxl_cat {n : Nat} {i : Nat} {p : Addr} {vs : List V} (hv : σ[i]? = some (some (.ref p))) (hp : H p = some (.lst vs)) (j : JdAll K H vs ds) (hb : MkXL K tb σ H n)
    (z : ds.length + n ≤ 100000) : MkXL K (tOp rCat (tVar i) tb) σ H (ds.length + n) := by
  obtain ⟨es, hb, e⟩ := hb
  exact ⟨_, mkl_cat hv hp j hb (by omega), by rw [List.length_append, e]⟩
theorem st_mkx {n i : Nat} {D : Ends} (h : MkXL K te σ H n) (q : ∀ p vs ds H2, Same H H2 → H p = none → H2 p = some (.lst vs) → JdAll K H2 vs ds → ds.length = n → D.nx (σ.set i (some (.ref p))) H2) :
    tAsg te (gName i) D σ H := by
  obtain ⟨ds, h, e⟩ := h
  exact st_mkl h fun p vs H2 a b c d => q p vs ds H2 a b c d e
end
end My

set_option maxHeartbeats 1000000
namespace My
open PySem PySem.Spec PyProof.Rows L2
theorem tuple_mul0 (l : Addr) (its : Array Value) (m : Nat) (dc : Option Addr) (sl : Array (Option Value)) (u : Tok) (c1 : (its.isEmpty || (0 : Int) == 1) = false) :
    Meets (Builtin.«tuple.__mul__» ⟨[.ref l, .int 0 u], []⟩) (fun _ R s =>
      s.heap.get? l = some { cls := .type "tuple", dict := dc, data := .seq its m, slots := sl } ∧
      R (.ok (.ret (Value.ref s.heap.objs.size))) { s with heap := s.heap.push { cls := Value.type "tuple", data := Data.seq #[] }, toks := s.toks }) :=
  .of_wp fun prog w A R s h => by
    obtain ⟨hp, g, d, tk, os⟩ := s
    obtain ⟨hl, h⟩ := h
    have f1 := AutoSeq1.idx_int
    wp_walk using wpAny_loadPart' hl
    repeat (first
      | (refine wpAny_ite_false (decide_eq_false (by decide)) ?_; wp_walk using wpAny_loadPart' hl)
      | (refine wpAny_ite_false (decide_eq_false (by rw [c1]; exact Bool.false_ne_true)) ?_; wp_walk using wpAny_loadPart' hl)
      | (refine wpAny_ite_true (decide_eq_true (by simp)) ?_; wp_walk using wpAny_loadPart' hl))
    exact ⟨_, rfl, h⟩
/-- a tuple, no times -/
def rRepZ (K : PySem.W.Frag) : R2 := fun x y H Q => ∃ l xs, x = .ref l ∧ y = .int 0 ∧ SqT K H l xs ∧ xs ≠ [] ∧ ∀ p, H p = none → Q (.ref p) (upd H p (.tup []))
def rRepB (K : PySem.W.Frag) : R2 := fun x y H Q => rRepT K x y H Q ∨ rRepZ K x y H Q
section
variable {X : Cx}
theorem op_repZ : OpR X (binaryOp .Mult) (rRepZ X.K) := by
  intro pins s σ H x y v u Q I rx ry h
  obtain ⟨l, xs, rfl, rfl, hT, some1, q⟩ := h
  cases rx
  obtain ⟨t, rfl⟩ := ry
  obtain ⟨its, r, ⟨⟨cls, dc, data, sl⟩, ho, hc, n, hd⟩, hs⟩ := I.tuple hT
  simp only at hc hd
  subst hc hd
  have full : its.toArray.isEmpty = false := by
    cases r with
    | nil => exact absurd rfl some1
    | cons a b => rfl
  have c1 : (its.toArray.isEmpty || (0 : Int) == 1) = false := by rw [full]; rfl
  refine wpAny_binaryOp_repeat_ref (T := "tuple") (U := "int") (by decide) ⟨_, ho, rfl⟩ (fun s' => typeIs_int s' 0 t)
    noFill_tuple_mul F.fills_int_mul F.slot_int_rmul repeat_tuple F.slot_int_index.lookup ?_
  refine call_meets F.slot_int_rmul (typeIs_int s 0 t) F.entry_int_rmul (F.args_int_rmul_2 _ _) (int_rmul_tuple 0 t l its.toArray n dc sl) ⟨ho, rfl, ⟨_, ho, rfl⟩, ?_⟩
  refine call_meets F.slot_tuple_mul ⟨_, ho, rfl⟩ F.entry_tuple_mul (F.args_tuple_mul_2 _ _) (tuple_mul0 l its.toArray n dc sl t c1) ⟨ho, ?_⟩
  refine ⟨.ref s.heap.objs.size, _, I.laid (t' := s.toks) (o := .tup []) (fun b ob q => Heap.get?_push_of_some _ q) (Nat.le_refl _) ?_, rfl,
    q _ (I.hok.fresh (Nat.le_refl _))⟩
  exact ⟨Nat.zero_le _, [], .nil, IsTup.new _ _⟩
theorem op_repB : OpR X (binaryOp .Mult) (rRepB X.K) := by
  intro pins s σ H x y v u Q I rx ry h
  rcases h with h | h
  · exact op_repT pins s σ H x y v u Q I rx ry h
  · exact op_repZ pins s σ H x y v u Q I rx ry h
end
theorem But.none {b : Addr} {H H' : Hp} (e : But b H H') {p : Addr} (n : H' p = none) (bag' : Bag H' b) : H p = none := by
  cases h : H p with
  | none => rfl
  | some o =>
    by_cases hp : p = b
    · subst hp
      obtain ⟨x, y, z, hb, _⟩ := bag'
      rw [hb] at n
      cases n
    · rw [e p o h hp] at n
      cases n
section
variable {K : PySem.W.Frag} {σ : St} {H : Hp} {te t0 : TE} {vs : List Nat} {i : Nat} {Q : VK}
/-- [e for k in range(m)], the drawer turned by m and by each e -/
theorem comp_rb {b : Addr} {ta : TA} (Pm : Int → Prop) (Ok : V → Prop)
    (hw : ∀ x, wipe ((wipe σ vs).set i (some x)) vs = wipe σ vs)
    (hel : ∀ (x : V) H1, But b H H1 → Bag H1 b → ∀ Q' : VK, (∀ y H2, Ok y → But b H1 H2 → Bag H2 b → Q' y H2) → te ((wipe σ vs).set i (some x)) H1 Q')
    (q : ∀ D ys H', But b H H' → Bag H' b → D ≠ b → H D = none → Pm (ys.length : Int) → (∀ y ∈ ys, Ok y) → H' D = some (.lst ys) → Q (.ref D) H')
    (h0 : ∀ Q' : List V → Hp → Prop, (∀ m H2, 0 ≤ m → m < 100000 → Pm m → But b H H2 → Bag H2 b → Q' [.int m] H2) → ta σ H Q') :
    tLc (iRng1 ta) (gName i) tYes te vs σ H Q := by
  refine h0 _ fun m H2 h1 h2 pm e2 b2 => ⟨m, rfl, by omega, by omega, ?_⟩
  refine comp_b (b := b) (n := m.toNat) (by omega) b2 Ok 0 hw (fun k H1 hk e1 b1 => hel _ H1 (e2.trans e1) b1) fun D ys H' e1 b1 n1 hD hl => ?_
  refine q D ys H' (e2.trans e1) b1 n1 (e2.none hD b2) ?_
  have e : (ys.length : Int) = m := by omega
  rw [e]
  exact pm
end
theorem oks_ints {z : Nat} : ∀ ys : List V, (∀ y ∈ ys, ∃ n : Int, y = .int n ∧ n.natAbs ≤ z) → ∃ ns : List Int, ys = ns.map V.int ∧ ∀ n ∈ ns, n.natAbs ≤ z
  | [], _ => ⟨[], rfl, fun _ h => absurd h List.not_mem_nil⟩
  | y :: ys, h => by
    obtain ⟨n, rfl, hn⟩ := h y List.mem_cons_self
    obtain ⟨ns, rfl, hs⟩ := oks_ints ys fun y' hy => h y' (List.mem_cons_of_mem _ hy)
    refine ⟨n :: ns, rfl, fun m hm => ?_⟩
    rcases List.mem_cons.mp hm with h | h
    · rw [h]
      exact hn
    · exact hs m h
theorem rep_zero (k : Nat) : (List.replicate k [V.int 0]).flatten = (List.replicate k (0 : Int)).map V.int := by
  induction k with
  | zero => rfl
  | succ k ih => rw [List.replicate_succ, List.flatten_cons, ih, List.replicate_succ]; rfl
end My

set_option maxHeartbeats 1000000
namespace ZN
open PySem PySem.Spec PyProof.Rows
theorem typeCall_zip (vs : List Value) : checkTypeCall "zip" ⟨vs, []⟩ = pure () := by kernel_rfl
theorem newCall_zip : ∀ vs : List Value, checkBuiltinCall "zip.__new__" ⟨.type "zip" :: vs, []⟩ = pure ()
  | [] => by kernel_rfl
  | _ :: _ => by kernel_rfl
theorem args_init (obj : Value) (vs : List Value) : argsOk "object.__init__" ⟨obj :: vs, []⟩ := by unfold argsOk; kernel_rfl

def refs (n k : Nat) : List Value := (List.range' n k).map .ref
theorem refs_zero (n : Nat) : refs n 0 = [] := rfl
theorem refs_succ (n k : Nat) : refs n (k + 1) = .ref n :: refs (n + 1) k := by simp [refs, List.range'_succ]
theorem refs_length (n k : Nat) : (refs n k).length = k := by simp [refs]
theorem refs_get {n k j : Nat} (h : j < k) : (refs n k)[j]? = some (.ref (n + j)) := by
  simp [refs, List.getElem?_range', h]

def itObj (t : Addr) : Obj := { cls := .type "tuple_iterator", data := .fields #[.ref t, .int 0 0] }
def pushIts : Heap → List Addr → Heap
  | h, [] => h
  | h, t :: ts => pushIts (h.push (itObj t)) ts
theorem pushIts_size : ∀ (ts : List Addr) (h : Heap), (pushIts h ts).objs.size = h.objs.size + ts.length
  | [], h => rfl
  | t :: ts, h => by
    show (pushIts (h.push (itObj t)) ts).objs.size = _
    rw [pushIts_size ts, Heap.size_push, List.length_cons]; omega
theorem pushIts_old : ∀ (ts : List Addr) (h : Heap) (b : Addr) (o : Obj), h.get? b = some o → (pushIts h ts).get? b = some o
  | [], _, _, _, e => e
  | t :: ts, h, b, o, e => pushIts_old ts _ b o (Heap.get?_push_of_some _ e)
theorem pushIts_it : ∀ (ts : List Addr) (h : Heap) (j : Nat) (t : Addr), ts[j]? = some t → (pushIts h ts).get? (h.objs.size + j) = some (itObj t)
  | [], _, _, _, e => nomatch e
  | t :: ts, h, 0, u, e => by
    obtain rfl : t = u := by simpa using e
    exact pushIts_old ts _ _ _ (Heap.get?_push_size _ rfl)
  | t :: ts, h, j + 1, u, e => by
    have := pushIts_it ts (h.push (itObj t)) j u (by simpa using e)
    rw [Heap.size_push] at this
    rw [show h.objs.size + (j + 1) = h.objs.size + 1 + j by omega]
    exact this

section
variable {prog : Program} {w : World} {A : Around} {E : Value → Shared → Prop} {s : Shared}
theorem iterAll_tups {Q : List Value → Shared → Prop} (ts : List Addr) (ht : ∀ t ∈ ts, ∃ xs, s.heap.IsTuple t xs)
    (h : Q (refs s.heap.objs.size ts.length) { s with heap := pushIts s.heap ts }) :
    wpAny (model prog w) A (Builtin.SmallTypes.iterAll (ts.map .ref)) Q E s := by
  unfold Builtin.SmallTypes.iterAll
  refine wpAny_bind (wpAny_forIn_list _ (fun rest b s' => ∃ ts', rest = ts'.map Value.ref ∧ (∀ t ∈ ts', ∃ xs, s'.heap.IsTuple t xs) ∧
    Q (b.toList ++ refs s'.heap.objs.size ts'.length) { s' with heap := pushIts s'.heap ts' }) _ (fun x rest b s' I => ?_) (fun b s' I => ?_) _ _ ⟨ts, rfl, ht, by simpa using h⟩)
  · obtain ⟨ts', e, ht', q⟩ := I
    cases ts' with
    | nil => cases e
    | cons t ts' =>
      simp only [List.map_cons, List.cons.injEq] at e
      obtain ⟨rfl, rfl⟩ := e
      obtain ⟨xs, hx⟩ := ht' t List.mem_cons_self
      refine wpAny_bind (wpAny_holding (wpAny_pyIter_tuple hx (wpAny_pure ⟨ts', rfl, fun u hu => ?_, ?_⟩)))
      · obtain ⟨ys, hy⟩ := ht' u (List.mem_cons_of_mem _ hu)
        exact ⟨ys, hy.push _⟩
      · rw [List.length_cons, refs_succ] at q
        show Q ((b.push (.ref s'.heap.objs.size)).toList ++ refs (s'.heap.push (itObj t)).objs.size ts'.length) _
        rw [Heap.size_push, Array.toList_push, List.append_assoc]
        exact q
  · obtain ⟨ts', e, _, q⟩ := I
    cases ts' with
    | nil =>
      refine wpAny_pure ?_
      rw [List.length_nil, refs_zero, List.append_nil] at q
      exact q
    | cons t ts' => cases e

/-- the record of a zip over k iterators that begin at n -/
def zipObj (n k : Nat) (f0 f1 : Value) : Obj := { cls := .type "zip", dict := none, data := .fields #[f0, f1, .bool false, .ref (n + k), .ref (n + k + 1)], slots := #[] }
def tupObj (vs : List Value) : Obj := { cls := .type "tuple", data := .seq vs.toArray }
theorem begins {Q : Value → Shared → Prop} (ts : List Addr) (hz : ts.length ≤ sizeLine) (ht : ∀ t ∈ ts, ∃ xs, s.heap.IsTuple t xs)
    (h : ∀ h', h'.get? (s.heap.objs.size + ts.length + 2) = some (zipObj s.heap.objs.size ts.length .none (.bool false)) →
      h'.get? (s.heap.objs.size + ts.length) = some (tupObj (refs s.heap.objs.size ts.length)) →
      (∃ vs, vs.length = ts.length ∧ h'.get? (s.heap.objs.size + ts.length + 1) = some (tupObj vs)) →
      (∀ j t, ts[j]? = some t → h'.get? (s.heap.objs.size + j) = some (itObj t)) →
      h'.objs.size = s.heap.objs.size + ts.length + 3 → (∀ c o, s.heap.get? c = some o → h'.get? c = some o) →
      Q (.ref (s.heap.objs.size + ts.length + 2)) { s with heap := h' }) :
    wpAny (model prog w) A (call (.type "zip") (ts.map .ref)) Q E s := by
  have hsub := sub_zip
  have sz := pushIts_size ts s.heap
  refine callType_new F.called_zip (by decide) (typeCall_zip _) (newCall_zip _) (fun obj => args_init obj _) F.entry_zip_new
    (S := fun _ R s' => s' = s ∧ R (.ok (.ret (.ref (s.heap.objs.size + ts.length + 2)))) { s with heap :=
      (((pushIts s.heap ts).push (tupObj (refs s.heap.objs.size ts.length))).push (tupObj ((refs s.heap.objs.size ts.length).map fun _ => .none))).push (zipObj s.heap.objs.size ts.length .none (.bool false)) })
    (.of_wp fun prog w A R s' hs => ?_) ⟨rfl, ?_⟩
  · obtain ⟨rfl, hR⟩ := hs
    have q1 : ∀ {A' : Around} {E : Value → Shared → Prop} {Q : List Value → Shared → Prop}, Q (refs s'.heap.objs.size ts.length) { s' with heap := pushIts s'.heap ts } → wpAny (model prog w) A' (Builtin.SmallTypes.iterAll (ts.map .ref)) Q E s' := fun q => iterAll_tups ts ht q
    have sz1 : ∀ o, ((pushIts s'.heap ts).push o).objs.size = s'.heap.objs.size + ts.length + 1 := fun o => by rw [Heap.size_push, sz]
    have sz2 : ∀ o o', (((pushIts s'.heap ts).push o).push o').objs.size = s'.heap.objs.size + ts.length + 2 := fun o o' => by rw [Heap.size_push, sz1]
    unfold Builtin.«zip.__new__»
    refine wpAny_bind (wpAny_of_eq (a := (Value.type "zip", ts.map Value.ref)) (by first | rfl | kernel_rfl) ?_)
    dsimp only
    refine wpAny_bind (q1 ?_)
    refine wpAny_bind (wpAny_newTuple ?_ (by rw [refs_length]; exact hz))
    refine wpAny_bind (wpAny_newTuple ?_ (by rw [List.length_map, refs_length]; exact hz))
    refine wpAny_bind ?_
    dsimp only
    show wpAny _ _ (newObj (.type "zip") (.fields #[.none, .bool false, .bool false, .ref _, .ref _])) _ _ _
    refine wpAny_newObj_type ?_
    refine wpAny_pure ⟨_, rfl, ?_⟩
    dsimp only
    simp only [Heap.size_push, sz]
    exact hR
  · have sz1 : ∀ o, ((pushIts s.heap ts).push o).objs.size = s.heap.objs.size + ts.length + 1 := fun o => by rw [Heap.size_push, sz]
    have sz2 : ∀ o o', (((pushIts s.heap ts).push o).push o').objs.size = s.heap.objs.size + ts.length + 2 := fun o o' => by rw [Heap.size_push, sz1]
    refine ⟨⟨zipObj s.heap.objs.size ts.length .none (.bool false), ?_, rfl⟩, h _ ?_ ?_ ⟨(refs s.heap.objs.size ts.length).map fun _ => .none, by rw [List.length_map, refs_length], ?_⟩ ?_ ?_ ?_⟩
    · show Heap.get? _ _ = _
      rw [← sz2 (tupObj (refs s.heap.objs.size ts.length)) (tupObj ((refs s.heap.objs.size ts.length).map fun _ => .none))]
      exact Heap.get?_push_size _ rfl
    · rw [← sz2 (tupObj (refs s.heap.objs.size ts.length)) (tupObj ((refs s.heap.objs.size ts.length).map fun _ => .none))]
      exact Heap.get?_push_size _ rfl
    · refine Heap.get?_push_of_some _ (Heap.get?_push_of_some _ ?_)
      rw [← sz]
      exact Heap.get?_push_size _ rfl
    · refine Heap.get?_push_of_some _ ?_
      rw [← sz1 (tupObj (refs s.heap.objs.size ts.length))]
      exact Heap.get?_push_size _ rfl
    · exact fun j t e => Heap.get?_push_of_some _ (Heap.get?_push_of_some _ (Heap.get?_push_of_some _ (pushIts_it ts _ j t e)))
    · rw [Heap.size_push, sz2]
    · exact fun c o e => Heap.get?_push_of_some _ (Heap.get?_push_of_some _ (Heap.get?_push_of_some _ (pushIts_old ts _ c o e)))
end
end ZN

set_option maxHeartbeats 1000000
namespace ZN
open PySem PySem.Spec PyProof.Rows
/-- the iterators over the tuples ts begin at n; the one with the place j has gone p j turns; xss j is what the tuple with this place has -/
structure Its (h : Heap) (n : Nat) (ts : List Addr) (xss : Nat → Array Value) (p : Nat → Nat) : Prop where
  it : ∀ (j : Nat) (t : Addr), ts[j]? = some t → h.IsTupleIter (n + j) t (p j)
  src : ∀ (j : Nat) (t : Addr), ts[j]? = some t → h.IsTuple t (xss j)
  old : ∀ t ∈ ts, t < n
theorem Its.far {h h' : Heap} {n : Nat} {ts : List Addr} {xss : Nat → Array Value} {p : Nat → Nat} {b : Nat} (I : Its h n ts xss p) (hs : Heap.ExtBut b h h') (hb : n + ts.length ≤ b) : Its h' n ts xss p where
  it := fun j t e => (I.it j t e).extBut hs (Nat.ne_of_lt (by have := (List.getElem?_eq_some_iff.mp e).1; omega))
  src := fun j t e => (I.src j t e).extBut hs (Nat.ne_of_lt (Nat.lt_of_lt_of_le (I.old t (List.mem_of_getElem? e)) (Nat.le_trans (Nat.le_add_right _ _) hb)))
  old := I.old
theorem Its.push {h : Heap} {n : Nat} {ts : List Addr} {xss : Nat → Array Value} {p : Nat → Nat} (I : Its h n ts xss p) (o : Obj) : Its (h.push o) n ts xss p where
  it := fun j t e => (I.it j t e).at fun _ q => Heap.get?_push_of_some _ q
  src := fun j t e => (I.src j t e).push _
  old := I.old
section
variable {prog : Program} {w : World} {A : Around} {E : Value → Shared → Prop} {s : Shared}
/-- one draw -/
theorem Its.draw {n i j : Nat} {ts : List Addr} {xss : Nat → Array Value} {x : Value} {Q : Value → Shared → Prop} (I : Its s.heap n ts xss fun m => if m < j then i + 1 else i) (hj : j < ts.length) (hx : (xss j)[i]? = some x)
    (hQ : ∀ h', Its h' n ts xss (fun m => if m < j + 1 then i + 1 else i) → Heap.SameBut (n + j) s.heap h' → Q x { s with heap := h' }) :
    wpAny (model prog w) A (Builtin.SmallTypes.nextOf (.ref (n + j))) Q E s := by
  have e : ts[j]? = some ts[j] := List.getElem?_eq_getElem hj
  have i1 := I.it j _ e
  rw [if_neg (Nat.lt_irrefl j)] at i1
  refine wpAny_nextOf_tuple_item i1 (I.src j _ e) hx fun h' hit sb => hQ h' ⟨fun m t em => ?_, fun m t em => ?_, I.old⟩ sb
  · by_cases hm : m = j
    · subst hm
      obtain rfl : ts[m] = t := by rw [e] at em; exact Option.some.inj em
      rw [if_pos (Nat.lt_succ_self _)]
      exact hit
    · have := (I.it m t em).extBut sb.extBut (fun q => hm (Nat.add_left_cancel q))
      by_cases h2 : m < j
      · rw [if_pos h2] at this; rw [if_pos (Nat.lt_succ_of_lt h2)]; exact this
      · rw [if_neg h2] at this; rw [if_neg fun q => (Nat.lt_or_eq_of_le (Nat.le_of_lt_succ q)).elim h2 hm]; exact this
  · exact (I.src m t em).extBut sb.extBut (Nat.ne_of_lt (Nat.lt_of_lt_of_le (I.old t (List.mem_of_getElem? em)) (Nat.le_add_right _ _)))

/-- a zip whose tuple at T is out -/
def Held (h : Heap) (n k T : Nat) (f : Bool) : Prop := h.get? (n + k + 2) = some (zipObj n k (rawInt T) (.bool f))
theorem isFree_held {n k T : Nat} {f : Bool} {oT : Obj} {Q : Bool → Shared → Prop} (hz : Held s.heap n k T f) (hT : s.heap.get? T = some oT)
    (h : ∀ h', Held h' n k T true → Heap.SameBut (n + k + 2) s.heap h' → Q false { s with heap := h' }) : wpAny (model prog w) A (Builtin.SmallTypes.ownedTupleIsFree (.ref (n + k + 2))) Q E s :=
  wpAny_tupleHeld_zip (TI := n + k) (TO := n + k + 1) hz hT h
theorem next_held {n i T : Nat} {f : Bool} {oT : Obj} {ts : List Addr} {xss : Nat → Array Value} {cs : List Value} {Q : Value → Shared → Prop} (hz : Held s.heap n ts.length T f) (hT : s.heap.get? T = some oT)
    (hTI : s.heap.get? (n + ts.length) = some (tupObj (refs n ts.length))) (I : Its s.heap n ts xss fun _ => i) (hk : 0 < ts.length) (hcl : cs.length = ts.length) (hc : ∀ j, j < ts.length → (xss j)[i]? = cs[j]?)
    (hsz : ts.length ≤ sizeLine)
    (hQ : ∀ h', Held h' n ts.length T true → Its h' n ts xss (fun _ => i + 1) → h'.get? s.heap.objs.size = some (tupObj cs) → h'.objs.size = s.heap.objs.size + 1 →
      (∀ c o, (c < n ∨ n + ts.length ≤ c) → c ≠ n + ts.length + 2 → s.heap.get? c = some o → h'.get? c = some o) → Q (.ref s.heap.objs.size) { s with heap := h' }) :
    wpAny (model prog w) A (Builtin.«zip.__next__» ⟨[.ref (n + ts.length + 2)], []⟩) (fun fin s' => ∃ v, fin = .done (.ret v) ∧ Q v s') E s := by
  have hz' : s.heap.get? (n + ts.length + 2) = some (zipObj n ts.length (rawInt T) (.bool f)) := hz
  show wpAny _ _ (field (.ref (n + ts.length + 2)) 2 >>= _) _ _ _
  refine wpAny_bind (wpAny_field hz' rfl (x := .bool false) rfl ?_)
  show wpAny _ _ (field (.ref (n + ts.length + 2)) 3 >>= _) _ _ _
  refine wpAny_bind (wpAny_field hz' rfl (x := .ref (n + ts.length)) rfl ?_)
  refine wpAny_bind (wpAny_seqItems hTI rfl ?_)
  have hne : (refs n ts.length).toArray.isEmpty = false := by
    rw [show ts.length = (ts.length - 1) + 1 by omega, refs_succ]; rfl
  dsimp only
  rw [if_neg (by rw [hne]; decide)]
  refine wpAny_bind (isFree_held hz hT fun h₁ hz₁ hs₁ => ?_)
  simp only [Bool.false_eq_true, if_false]
  refine wpAny_bind ?_
  rw [← Array.forIn_toList]
  refine wpAny_forIn_list _ (fun rest b s' => ∃ j h', j ≤ ts.length ∧ rest = refs (n + j) (ts.length - j) ∧ b = (none, (cs.take j).toArray) ∧ s' = { s with heap := h' } ∧
    Its h' n ts xss (fun m => if m < j then i + 1 else i) ∧ Held h' n ts.length T true ∧ h'.objs.size = s.heap.objs.size ∧
    ∀ c o, (c < n ∨ n + ts.length ≤ c) → c ≠ n + ts.length + 2 → s.heap.get? c = some o → h'.get? c = some o) _ (fun x rest b s' J => ?_) (fun b s' J => ?_) _ _
    ⟨0, h₁, Nat.zero_le _, by simp, by simp, rfl, ?_, hz₁, hs₁.1, fun c o _ c2 q => hs₁.extBut _ _ c2 q⟩
  · obtain ⟨j, h', hj, er, rfl, rfl, I', hz', hs', hk'⟩ := J
    have hjl : j < ts.length := by
      rcases Nat.lt_or_eq_of_le hj with q | q
      · exact q
      · rw [q, Nat.sub_self, refs_zero] at er; cases er
    rw [show ts.length - j = (ts.length - (j + 1)) + 1 by omega, refs_succ] at er
    simp only [List.cons.injEq] at er
    obtain ⟨rfl, rfl⟩ := er
    have hjc : j < cs.length := by omega
    have ex : (xss j)[i]? = some cs[j] := by rw [hc j hjl]; exact List.getElem?_eq_getElem hjc
    refine wpAny_bind (wpAny_holding ?_)
    show wpAny _ _ (Builtin.SmallTypes.nextOf (.ref (n + j)) >>= _) _ _ _
    refine wpAny_bind (I'.draw (s := { s with heap := h' }) hjl ex fun h2 I2 sb => wpAny_pure (wpAny_pure ?_))
    refine ⟨j + 1, h2, hjl, by rw [Nat.add_assoc], ?_, rfl, I2, ?_, sb.1.trans hs', fun c o c1 c2 q => sb.extBut _ _ ?_ (hk' c o c1 c2 q)⟩
    · rw [List.take_succ, List.getElem?_eq_getElem hjc]; simp
    · exact sb.extBut _ _ (Nat.ne_of_gt (by omega)) hz'
    · rcases c1 with c1 | c1
      · exact Nat.ne_of_lt (by omega)
      · exact Nat.ne_of_gt (by omega)
  · obtain ⟨j, h', hj, er, rfl, rfl, I', hz', hs', hk'⟩ := J
    have e : j = ts.length := by
      rcases Nat.lt_or_eq_of_le hj with q | q
      · rw [show ts.length - j = (ts.length - (j + 1)) + 1 by omega, refs_succ] at er; cases er
      · exact q
    subst e
    dsimp only
    rw [List.take_of_length_le (by omega)]
    refine wpAny_bind (wpAny_newTuple ?_ (by rw [hcl]; exact hsz))
    refine wpAny_pure ⟨_, rfl, ?_⟩
    dsimp only
    rw [hs']
    have hT' : (h'.push (tupObj cs)).get? s.heap.objs.size = some (tupObj cs) := by rw [← hs']; exact Heap.get?_push_size _ rfl
    have := hQ (h'.push (tupObj cs)) (Heap.get?_push_of_some _ hz') (Its.push ⟨fun j t e => ?_, I'.src, I'.old⟩ _) hT' (by rw [Heap.size_push, hs']) fun c o c1 c2 q => Heap.get?_push_of_some _ (hk' c o c1 c2 q)
    · exact this
    · have := I'.it j t e
      rw [if_pos (List.getElem?_eq_some_iff.mp e).1] at this
      exact this
  · have I0 := I.far (b := n + ts.length + 2) hs₁.extBut (by omega)
    exact ⟨fun j t e => by have := I0.it j t e; simpa using this, I0.src, I0.old⟩
theorem end_held {n i T : Nat} {f : Bool} {oT : Obj} {ts : List Addr} {xss : Nat → Array Value} {Q : Fin → Shared → Prop} (hh : A.handled = none) (hz : Held s.heap n ts.length T f) (hT : s.heap.get? T = some oT)
    (hTI : s.heap.get? (n + ts.length) = some (tupObj (refs n ts.length))) (I : Its s.heap n ts xss fun _ => i) (hk : 0 < ts.length) (hc : (xss 0)[i]? = none)
    (hE : ∀ h' e, (∀ c o, (c < n ∨ n + ts.length ≤ c) → c ≠ n + ts.length + 2 → s.heap.get? c = some o → h'.get? c = some o) → (∃ o, h'.get? e = some o ∧ o.cls = .type "StopIteration") → E (.ref e) { s with heap := h' }) :
    wpAny (model prog w) A (Builtin.«zip.__next__» ⟨[.ref (n + ts.length + 2)], []⟩) Q E s := by
  have hz' : s.heap.get? (n + ts.length + 2) = some (zipObj n ts.length (rawInt T) (.bool f)) := hz
  show wpAny _ _ (field (.ref (n + ts.length + 2)) 2 >>= _) _ _ _
  refine wpAny_bind (wpAny_field hz' rfl (x := .bool false) rfl ?_)
  show wpAny _ _ (field (.ref (n + ts.length + 2)) 3 >>= _) _ _ _
  refine wpAny_bind (wpAny_field hz' rfl (x := .ref (n + ts.length)) rfl ?_)
  refine wpAny_bind (wpAny_seqItems hTI rfl ?_)
  have hne : (refs n ts.length).toArray.isEmpty = false := by
    rw [show ts.length = (ts.length - 1) + 1 by omega, refs_succ]; rfl
  dsimp only
  rw [if_neg (by rw [hne]; decide)]
  refine wpAny_bind (isFree_held hz hT fun h₁ hz₁ hs₁ => ?_)
  simp only [Bool.false_eq_true, if_false]
  refine wpAny_bind ?_
  rw [← Array.forIn_toList]
  have I0 := I.far (b := n + ts.length + 2) hs₁.extBut (by omega)
  have e0 : ts[0]? = some ts[0] := List.getElem?_eq_getElem hk
  have er : (refs n ts.length).toArray.toList = .ref n :: refs (n + 1) (ts.length - 1) := by
    rw [show ts.length = (ts.length - 1) + 1 by omega, refs_succ]; simp
  rw [er]
  simp only [List.forIn_cons]
  refine wpAny_bind (wpAny_bind (wpAny_holding ?_))
  show wpAny _ _ (Builtin.SmallTypes.nextOf (.ref n) >>= _) _ _ _
  refine wpAny_bind (wpAny_nextOf_tuple_end (s := { s with heap := h₁ }) hh (I0.it 0 _ e0) (I0.src 0 _ e0) hc fun h₂ e hs₂ he => hE h₂ e (fun c o c1 c2 q => hs₂ _ _ ?_ (hs₁.extBut _ _ c2 q)) he)
  rcases c1 with c1 | c1
  · exact Nat.ne_of_lt (by omega)
  · exact Nat.ne_of_gt (by omega)

theorem updateSeq_tup {T : Addr} {vs : List Value} {x : Value} {k : Nat} {Q : Unit → Shared → Prop} (hT : s.heap.get? T = some (tupObj vs)) (hz : vs.length ≤ sizeLine)
    (h : ∀ h', h'.get? T = some (tupObj (vs.set k x)) → Heap.SameBut T s.heap h' → Q () { s with heap := h' }) :
    wpAny (model prog w) A (updateSeq T (·.setIfInBounds k x)) Q E s := by
  refine wpAny_updateSeq hT rfl (h _ ?_ (Heap.SameBut.update ..)) (by simpa using hz) (by simp; exact Nat.le_succ_of_le hz)
  rw [Heap.get?_update_self _ hT rfl]
  simp [Obj.mapSeq, tupObj]
/-- the first turn -/
theorem next_first {n i : Nat} {ts : List Addr} {xss : Nat → Array Value} {cs : List Value} {Q : Value → Shared → Prop} (hz : s.heap.get? (n + ts.length + 2) = some (zipObj n ts.length .none (.bool false)))
    (hTI : s.heap.get? (n + ts.length) = some (tupObj (refs n ts.length))) (hTO : ∃ vs, vs.length = ts.length ∧ s.heap.get? (n + ts.length + 1) = some (tupObj vs))
    (I : Its s.heap n ts xss fun _ => i) (hk : 0 < ts.length) (hcl : cs.length = ts.length) (hc : ∀ j, j < ts.length → (xss j)[i]? = cs[j]?) (hsz : ts.length ≤ sizeLine)
    (hQ : ∀ h', Held h' n ts.length s.heap.objs.size false → Its h' n ts xss (fun _ => i + 1) → h'.get? s.heap.objs.size = some (tupObj cs) → h'.objs.size = s.heap.objs.size + 1 →
      (∀ c o, (c < n ∨ n + ts.length ≤ c) → c ≠ n + ts.length + 2 → c ≠ n + ts.length + 1 → s.heap.get? c = some o → h'.get? c = some o) → Q (.ref s.heap.objs.size) { s with heap := h' }) :
    wpAny (model prog w) A (Builtin.«zip.__next__» ⟨[.ref (n + ts.length + 2)], []⟩) (fun fin s' => ∃ v, fin = .done (.ret v) ∧ Q v s') E s := by
  show wpAny _ _ (field (.ref (n + ts.length + 2)) 2 >>= _) _ _ _
  refine wpAny_bind (wpAny_field hz rfl (x := .bool false) rfl ?_)
  show wpAny _ _ (field (.ref (n + ts.length + 2)) 3 >>= _) _ _ _
  refine wpAny_bind (wpAny_field hz rfl (x := .ref (n + ts.length)) rfl ?_)
  refine wpAny_bind (wpAny_seqItems hTI rfl ?_)
  have hne : (refs n ts.length).toArray.isEmpty = false := by
    rw [show ts.length = (ts.length - 1) + 1 by omega, refs_succ]; rfl
  dsimp only
  rw [if_neg (by rw [hne]; decide)]
  refine wpAny_bind ?_
  unfold Builtin.SmallTypes.ownedTupleIsFree
  refine wpAny_bind (wpAny_field hz rfl (x := .none) rfl (wpAny_pure ?_))
  simp only [if_true]
  refine wpAny_bind (wpAny_rule ?_)
  refine wpAny_bind (wpAny_field hz rfl (x := .ref (n + ts.length + 1)) rfl ?_)
  refine wpAny_bind (wpAny_setField_rec hz (by simp) fun h₁ hz₁ hs₁ => ?_)
  replace hz₁ : h₁.get? (n + ts.length + 2) = some (zipObj n ts.length .ellipsis (.bool false)) := hz₁
  refine wpAny_bind ?_
  obtain ⟨vs0, hv0, hT0⟩ := hTO
  have oth : ∀ c : Nat, c < n ∨ n + ts.length ≤ c → ∀ j, j < ts.length → c ≠ n + j := fun c c1 j hj => by
    rcases c1 with c1 | c1
    · exact Nat.ne_of_lt (by omega)
    · exact Nat.ne_of_gt (by omega)
  refine wpAny_forIn_list _ (fun rest b s' => ∃ j h' vs, j ≤ ts.length ∧ rest = (refs (n + j) (ts.length - j)).zipIdx j ∧ b = (none, ()) ∧ s' = { s with heap := h' } ∧ vs.length = ts.length ∧ vs.take j = cs.take j ∧
    Its h' n ts xss (fun m => if m < j then i + 1 else i) ∧ h'.get? (n + ts.length + 2) = some (zipObj n ts.length .ellipsis (.bool false)) ∧ h'.get? (n + ts.length + 1) = some (tupObj vs) ∧ h'.objs.size = s.heap.objs.size ∧
    ∀ c o, (c < n ∨ n + ts.length ≤ c) → c ≠ n + ts.length + 2 → c ≠ n + ts.length + 1 → s.heap.get? c = some o → h'.get? c = some o) _ (fun x rest b s' J => ?_) (fun b s' J => ?_) _ _
    ⟨0, h₁, vs0, Nat.zero_le _, by simp, rfl, rfl, hv0, by simp, ?_, hz₁, hs₁.extBut _ _ (Nat.ne_of_lt (by omega)) hT0, hs₁.1, fun c o _ c2 _ q => hs₁.extBut _ _ c2 q⟩
  · obtain ⟨j, h', vs, hj, er, rfl, rfl, hvl, htk, I', hz', hT', hs', hk'⟩ := J
    have hjl : j < ts.length := by
      rcases Nat.lt_or_eq_of_le hj with q | q
      · exact q
      · rw [q, Nat.sub_self, refs_zero] at er; cases er
    rw [show ts.length - j = (ts.length - (j + 1)) + 1 by omega, refs_succ, List.zipIdx_cons] at er
    simp only [List.cons.injEq] at er
    obtain ⟨rfl, rfl⟩ := er
    have hjc : j < cs.length := by omega
    have ex : (xss j)[i]? = some cs[j] := by rw [hc j hjl]; exact List.getElem?_eq_getElem hjc
    refine wpAny_bind (wpAny_onRaise ?_)
    show wpAny _ _ (Builtin.SmallTypes.nextOf (.ref (n + j)) >>= _) _ _ _
    refine wpAny_bind (I'.draw (s := { s with heap := h' }) hjl ex fun h2 I2 sb => wpAny_pure ?_)
    have hT2 : h2.get? (n + ts.length + 1) = some (tupObj vs) := sb.extBut _ _ (oth _ (.inr (by omega)) j hjl) hT'
    dsimp only
    refine wpAny_bind (wpAny_seqItems (s := { s with heap := h2 }) hT2 rfl ?_)
    dsimp only
    refine wpAny_bind (updateSeq_tup (s := { s with heap := h2 }) hT2 (by omega) fun h3 hT3 sb3 => ?_)
    refine wpAny_bind (wpAny_letGo (wpAny_pure ?_))
    refine ⟨j + 1, h3, vs.set j cs[j], hjl, by rw [Nat.add_assoc], rfl, rfl, by rw [List.length_set]; exact hvl, ?_, I2.far (b := n + ts.length + 1) sb3.extBut (by omega), ?_, hT3, sb3.1.trans (sb.1.trans hs'), fun c o c1 c2 c3 q => sb3.extBut _ _ c3 (sb.extBut _ _ (oth c c1 j hjl) (hk' c o c1 c2 c3 q))⟩
    · rw [List.take_succ, List.take_succ, List.take_set_of_le (Nat.le_refl _), htk, List.getElem?_set_self (by omega), List.getElem?_eq_getElem hjc]
    · exact sb3.extBut _ _ (Nat.ne_of_gt (by omega)) (sb.extBut _ _ (oth _ (.inr (by omega)) j hjl) hz')
  · obtain ⟨j, h', vs, hj, er, rfl, rfl, hvl, htk, I', hz', hT', hs', hk'⟩ := J
    have e : j = ts.length := by
      rcases Nat.lt_or_eq_of_le hj with q | q
      · rw [show ts.length - j = (ts.length - (j + 1)) + 1 by omega, refs_succ, List.zipIdx_cons] at er; cases er
      · exact q
    subst e
    rw [List.take_of_length_le (by omega), List.take_of_length_le (by omega)] at htk
    subst htk
    dsimp only
    refine wpAny_bind (wpAny_seqItems (s := { s with heap := h' }) hT' rfl ?_)
    dsimp only
    refine wpAny_bind (wpAny_newTuple ?_ (by rw [hcl]; exact hsz))
    have hp : (h'.push (tupObj vs)).get? (n + ts.length + 2) = some (zipObj n ts.length .ellipsis (.bool false)) := Heap.get?_push_of_some _ hz'
    have ht : (h'.push (tupObj vs)).get? s.heap.objs.size = some (tupObj vs) := by rw [← hs']; exact Heap.get?_push_size _ rfl
    have hlt : n + ts.length + 2 < s.heap.objs.size := by rw [← hs']; exact Heap.lt_size hz'
    show wpAny _ _ (Builtin.SmallTypes.ownedTupleHandOut (.ref (n + ts.length + 2)) (.ref h'.objs.size) >>= _) _ _ { s with heap := h'.push (tupObj vs) }
    rw [hs']
    refine wpAny_bind ?_
    unfold Builtin.SmallTypes.ownedTupleHandOut
    refine wpAny_bind (wpAny_setField_rec (s := { s with heap := h'.push (tupObj vs) }) hp (by simp) fun h₇ hz₇ hs₇ => ?_)
    refine wpAny_setField_rec (s := { s with heap := h₇ }) hz₇ (by simp) fun h₈ hz₈ hs₈ => ?_
    refine wpAny_pure ⟨_, rfl, ?_⟩
    replace hs₇ : Heap.SameBut (n + ts.length + 2) (h'.push (tupObj vs)) h₇ := hs₇
    replace hs₈ : Heap.SameBut (n + ts.length + 2) h₇ h₈ := hs₈
    have up : ∀ c o, c ≠ n + ts.length + 2 → (h'.push (tupObj vs)).get? c = some o → h₈.get? c = some o := fun c o c1 e => hs₈.extBut _ _ c1 (hs₇.extBut _ _ c1 e)
    have I8 : Its h₈ n ts xss (fun _ => i + 1) := by
      have I1 := ((I'.push (tupObj vs)).far (b := n + ts.length + 2) hs₇.extBut (by omega)).far (b := n + ts.length + 2) hs₈.extBut (by omega)
      refine ⟨fun j t e => ?_, I1.src, I1.old⟩
      have := I1.it j t e
      rw [if_pos (List.getElem?_eq_some_iff.mp e).1] at this
      exact this
    exact hQ h₈ hz₈ I8 (up _ _ (Nat.ne_of_gt hlt) ht) (by rw [hs₈.1, hs₇.1, Heap.size_push, hs']) fun c o c1 c2 c3 q => up c o c2 (Heap.get?_push_of_some _ (hk' c o c1 c2 c3 q))
  · have I0 := I.far (b := n + ts.length + 2) hs₁.extBut (by omega)
    exact ⟨fun j t e => by have := I0.it j t e; simpa using this, I0.src, I0.old⟩
end
end ZN

set_option maxHeartbeats 1000000
namespace ZN
open PySem PySem.Spec PyProof.Rows
theorem no_len : typeLookup (.type "zip") "__len__" = pure none := by rw [typeLookup_type, builtinLookup_eq_fast]; kernel_rfl
theorem no_hint : typeLookup (.type "zip") "__length_hint__" = pure none := by rw [typeLookup_type, builtinLookup_eq_fast]; kernel_rfl
/-- a zip of n tuples behind i turns, all its cells -/
structure Zst (h : Heap) (n : Nat) (ts : List Addr) (xss : Nat → Array Value) (i S : Nat) : Prop where
  its : Its h n ts xss fun _ => i
  TI : h.get? (n + ts.length) = some (tupObj (refs n ts.length))
  cell : (i = 0 ∧ h.get? (n + ts.length + 2) = some (zipObj n ts.length .none (.bool false)) ∧ ∃ vs, vs.length = ts.length ∧ h.get? (n + ts.length + 1) = some (tupObj vs)) ∨
    ∃ T f oT, Held h n ts.length T f ∧ h.get? T = some oT ∧ T ≠ S ∧ n + ts.length + 3 ≤ T
theorem Zst.typeIs {s : Shared} {n i S : Nat} {ts : List Addr} {xss : Nat → Array Value} (Z : Zst s.heap n ts xss i S) : s.TypeIs (.ref (n + ts.length + 2)) "zip" := by
  rcases Z.cell with ⟨_, h, _⟩ | ⟨_, _, _, h, _⟩
  · exact ⟨_, h, rfl⟩
  · exact ⟨_, h, rfl⟩
theorem Zst.far {h h' : Heap} {n i S : Nat} {ts : List Addr} {xss : Nat → Array Value} (Z : Zst h n ts xss i S) (hS : n + ts.length + 3 ≤ S) (hs : Heap.ExtBut S h h') : Zst h' n ts xss i S where
  its := Z.its.far hs (by omega)
  TI := hs _ _ (Nat.ne_of_lt (by omega)) Z.TI
  cell := by
    rcases Z.cell with ⟨h0, h1, vs, h2, h3⟩ | ⟨T, f, oT, h1, h2, h3, h4⟩
    · exact .inl ⟨h0, hs _ _ (Nat.ne_of_lt (by omega)) h1, vs, h2, hs _ _ (Nat.ne_of_lt (by omega)) h3⟩
    · exact .inr ⟨T, f, oT, hs _ _ (Nat.ne_of_lt (by omega)) h1, hs _ _ h3 h2, h3, h4⟩
section
variable {prog : Program} {w : World} {A : Around} {E : Value → Shared → Prop} {s : Shared}
theorem Zst.next {n i S : Nat} {ts : List Addr} {xss : Nat → Array Value} {cs : List Value} {Q : Option Value → Shared → Prop} (Z : Zst s.heap n ts xss i S) (hS : S < s.heap.objs.size) (hS3 : n + ts.length + 3 ≤ S)
    (hk : 0 < ts.length) (hcl : cs.length = ts.length) (hc : ∀ j, j < ts.length → (xss j)[i]? = cs[j]?) (hsz : ts.length ≤ sizeLine)
    (hQ : ∀ h', Zst h' n ts xss (i + 1) S → h'.get? s.heap.objs.size = some (tupObj cs) → h'.objs.size = s.heap.objs.size + 1 →
      (∀ c o, (c < n ∨ n + ts.length + 3 ≤ c) → s.heap.get? c = some o → h'.get? c = some o) → Q (some (.ref s.heap.objs.size)) { s with heap := h' }) :
    wpAny (model prog w) A (pyNext (.ref (n + ts.length + 2))) Q E s := by
  have hTy := Z.typeIs
  unfold pyNext
  rcases Z.cell with ⟨_, h1, h2⟩ | ⟨T, f, oT, h1, h2, h3, h4⟩
  · refine wpAny_bind (wpAny_attempt (wpAny_callSpecial?_slot (name := Str.ofString "__next__") hTy F.slot_zip_next
      (wpAny_call_entry F.slot_zip_next hTy F.entry_zip_next
        (next_first h1 Z.TI h2 Z.its hk hcl hc hsz fun h' a1 a2 a3 a4 a5 => wpAny_pure (hQ h' ⟨a2, a5 _ _ (.inr (Nat.le_refl _)) (Nat.ne_of_lt (by omega)) (Nat.ne_of_lt (by omega)) Z.TI, .inr ⟨_, _, _, a1, a3, Nat.ne_of_gt hS, by omega⟩⟩ a3 a4 fun c o c1 q =>
          a5 c o (c1.imp id fun z => by omega) ?_ ?_ q)) (F.args_zip_next_1 _))))
    · rcases c1 with c1 | c1
      · exact Nat.ne_of_lt (by omega)
      · exact Nat.ne_of_gt (by omega)
    · rcases c1 with c1 | c1
      · exact Nat.ne_of_lt (by omega)
      · exact Nat.ne_of_gt (by omega)
  · refine wpAny_bind (wpAny_attempt (wpAny_callSpecial?_slot (name := Str.ofString "__next__") hTy F.slot_zip_next
      (wpAny_call_entry F.slot_zip_next hTy F.entry_zip_next
        (next_held h1 h2 Z.TI Z.its hk hcl hc hsz fun h' a1 a2 a3 a4 a5 => wpAny_pure (hQ h' ⟨a2, a5 _ _ (.inr (Nat.le_refl _)) (Nat.ne_of_lt (by omega)) Z.TI,
          .inr ⟨T, true, oT, a1, a5 _ _ (.inr (by omega)) (Nat.ne_of_gt (by omega)) h2, h3, h4⟩⟩ a3 a4 fun c o c1 q => a5 c o (c1.imp id fun z => by omega) ?_ q)) (F.args_zip_next_1 _))))
    rcases c1 with c1 | c1
    · exact Nat.ne_of_lt (by omega)
    · exact Nat.ne_of_gt (by omega)
theorem Zst.over {n i S : Nat} {ts : List Addr} {xss : Nat → Array Value} {Q : Option Value → Shared → Prop} (hh : A.handled = none) (Z : Zst s.heap n ts xss i S) (h0 : 0 < i)
    (hk : 0 < ts.length) (hc : (xss 0)[i]? = none)
    (hQ : ∀ h', (∀ c o, (c < n ∨ n + ts.length + 3 ≤ c) → s.heap.get? c = some o → h'.get? c = some o) → Q none { s with heap := h' }) :
    wpAny (model prog w) A (pyNext (.ref (n + ts.length + 2))) Q E s := by
  have hTy := Z.typeIs
  unfold pyNext
  rcases Z.cell with ⟨e, _⟩ | ⟨T, f, oT, h1, h2, h3, h4⟩
  · omega
  · refine wpAny_bind (wpAny_attempt (wpAny_callSpecial?_slot (name := Str.ofString "__next__") hTy F.slot_zip_next
      (wpAny_call_entry F.slot_zip_next hTy F.entry_zip_next (end_held hh h1 h2 Z.TI Z.its hk hc fun h' e hk he => ?_) (F.args_zip_next_1 _))))
    obtain ⟨o, ho, hc⟩ := he
    refine wpAny_bind (wpAny_isInstance (T := "StopIteration") (b := true) ⟨o, ho, hc⟩ isSubtype_stop ?_)
    refine wpAny_pure (hQ _ fun c o c1 q => hk c o (c1.imp id fun z => by omega) ?_ q)
    rcases c1 with c1 | c1
    · exact Nat.ne_of_lt (by omega)
    · exact Nat.ne_of_gt (by omega)

/-- what the columns have become -/
structure Cols (h : Heap) (lo S : Nat) (as : List Addr) (cols : Nat → List Value) : Prop where
  has : ∀ (j : Nat) (a : Addr), as[j]? = some a → h.get? a = some (tupObj (cols j))
  nd : as.Nodup
  hi : ∀ a ∈ as, lo ≤ a ∧ a ≠ S
theorem loop {n S W : Nat} {ts : List Addr} {xss : Nat → Array Value} {cols : Nat → List Value} (hh : A.in1.handled = none) (hS3 : n + ts.length + 3 ≤ S) (hk : 0 < ts.length) (hsz : ts.length ≤ sizeLine) (hW : W ≤ sizeLine) (hW0 : 0 < W)
    (hcl : ∀ i, i < W → (cols i).length = ts.length) (hc : ∀ i, i < W → ∀ j, j < ts.length → (xss j)[i]? = (cols i)[j]?) (hend : (xss 0)[W]? = none) :
    ∀ (m i : Nat) (s : Shared) (as : List Addr) (c : Nat) (R : Result → Shared → Prop), i + m = W → Zst s.heap n ts xss i S → s.heap.get? S = some { cls := .type "list", dict := none, data := .seq (as.map Value.ref).toArray c, slots := #[] } → as.length = i →
      Cols s.heap (n + ts.length + 3) S as cols →
      (∀ h' as' c', (∀ b o, b < n → s.heap.get? b = some o → h'.get? b = some o) → h'.get? S = some { cls := .type "list", dict := none, data := .seq (as'.map Value.ref).toArray c', slots := #[] } → as'.length = W → Cols h' (n + ts.length + 3) S as' cols →
        R (.ok (.ret (.ref S))) { s with heap := h' }) →
      codeAny (model prog w) A (.builtin "list.extend.loop" ⟨[.ref S, .ref (n + ts.length + 2), .ref S], []⟩) R s := by
  intro m
  induction m with
  | zero =>
    intro i s as c R hi Z hS hl C hR
    obtain rfl : i = W := by omega
    refine codeAny_builtin F.entry_extend_loop ?_
    rw [Around.under_plainId F.plain_extend_loop _]
    show wpAny _ A.in1 (pyNext (.ref (n + ts.length + 2)) >>= _) _ _ s
    refine wpAny_bind (Z.over hh hW0 hk hend fun h' k => ?_)
    exact wpAny_pure (hR h' as c (fun b o hb q => k b o (.inl hb) q) (k _ _ (.inr hS3) hS) hl ⟨fun j a e => k _ _ (.inr (C.hi a (List.mem_of_getElem? e)).1) (C.has j a e), C.nd, C.hi⟩)
  | succ m ih =>
    intro i s as c R hi Z hS hl C hR
    have hlt : i < W := by omega
    refine codeAny_builtin F.entry_extend_loop ?_
    rw [Around.under_plainId F.plain_extend_loop _]
    show wpAny _ A.in1 (pyNext (.ref (n + ts.length + 2)) >>= _) _ _ s
    refine wpAny_bind (Z.next (Heap.lt_size hS) hS3 hk (hcl i hlt) (hc i hlt) hsz fun h' Z' hT hsize k => ?_)
    have hS' := k _ _ (.inr hS3) hS
    have hSz : S < s.heap.objs.size := Heap.lt_size hS
    show wpAny _ A.in1 (updateSeq S (·.push (.ref s.heap.objs.size)) >>= _) _ _ { s with heap := h' }
    refine wpAny_bind ?_
    have hsize' : as.length ≤ sizeLine := by omega
    obtain ⟨c2, e2⟩ : ∃ c2, (h'.update S (Obj.mapSeq fun x => x.push (.ref s.heap.objs.size))).get? S = some { cls := .type "list", dict := none, data := .seq ((as ++ [s.heap.objs.size]).map Value.ref).toArray c2, slots := #[] } := by
      have e : ((as ++ [s.heap.objs.size]).map Value.ref).toArray = ((as.map Value.ref).toArray).push (.ref s.heap.objs.size) := by simp
      rw [e]
      exact ⟨_, Heap.get?_update_self _ hS' rfl⟩
    refine wpAny_updateSeq (s := { s with heap := h' }) hS' rfl (wpAny_pure ⟨plainId_quiet F.plain_extend_loop _, ih (i + 1) _ (as ++ [s.heap.objs.size]) c2 _ (by omega) (Z'.far hS3 (Heap.SameBut.update ..).extBut) e2 (by simp [hl]) ?_ fun h2 as' c' k2 hS2 hl2 C2 => ?_⟩)
      (by simpa using hsize') (by simp; omega)
    · have fr : ∀ c o, c ≠ S → h'.get? c = some o → (h'.update S (Obj.mapSeq fun x => x.push (.ref s.heap.objs.size))).get? c = some o := fun c o hc q => (Heap.get?_update_other _ _ (Ne.symm hc)).trans q
      refine ⟨fun j a e => ?_, ?_, fun a ha => ?_⟩
      · rw [List.getElem?_append] at e
        split at e
        · exact fr _ _ (C.hi a (List.mem_of_getElem? e)).2 (k _ _ (.inr (C.hi a (List.mem_of_getElem? e)).1) (C.has j a e))
        · rename_i hj
          have hj0 : j - as.length = 0 := by
            rcases Nat.eq_zero_or_pos (j - as.length) with q | q
            · exact q
            · rw [List.getElem?_eq_none (by simp; omega)] at e; cases e
          rw [hj0] at e
          obtain rfl : s.heap.objs.size = a := by simpa using e
          obtain rfl : j = i := by omega
          exact fr _ _ (Nat.ne_of_gt hSz) hT
      · rw [List.nodup_append]
        refine ⟨C.nd, by simp, fun a ha b hb q => ?_⟩
        obtain rfl : b = s.heap.objs.size := by simpa using hb
        subst q
        obtain ⟨j, hj⟩ := List.getElem?_of_mem ha
        exact Nat.lt_irrefl _ (Heap.lt_size (C.has j _ hj))
      · rcases List.mem_append.mp ha with ha | ha
        · exact C.hi a ha
        · obtain rfl : a = s.heap.objs.size := by simpa using ha
          exact ⟨by omega, Nat.ne_of_gt hSz⟩
    · refine hR h2 as' c' (fun b o hb q => k2 b o hb ?_) hS2 hl2 C2
      exact (Heap.get?_update_other _ _ (Nat.ne_of_gt (by omega))).trans (k b o (.inl hb) q)
end
end ZN

set_option maxHeartbeats 1000000
namespace ZN
open PySem PySem.Spec PyProof.Rows
section
variable {prog : Program} {w : World} {A : Around} {E : Value → Shared → Prop} {s : Shared}
/-- what a run over a zip of n tuples leaves -/
def Left (h h' : Heap) (n k W : Nat) (cols : Nat → List Value) (as : List Addr) : Prop :=
  (∀ b o, b < n → h.get? b = some o → h'.get? b = some o) ∧ as.length = W ∧ (∀ (j : Nat) (a : Addr), as[j]? = some a → h'.get? a = some (tupObj (cols j))) ∧ as.Nodup ∧ ∀ a ∈ as, n + k + 3 ≤ a
theorem collect_zip {n W : Nat} {ts : List Addr} {xss : Nat → Array Value} {cols : Nat → List Value} {Q : List Value → Shared → Prop} (hh : A.handled = none) (Z : Zst s.heap n ts xss 0 s.heap.objs.size)
    (hfr : s.heap.get? (n + ts.length + 2) = some (zipObj n ts.length .none (.bool false))) (hz : n + ts.length + 3 ≤ s.heap.objs.size) (hk : 0 < ts.length) (hsz : ts.length ≤ sizeLine) (hW : W ≤ sizeLine) (hW0 : 0 < W)
    (hcl : ∀ i, i < W → (cols i).length = ts.length) (hc : ∀ i, i < W → ∀ j, j < ts.length → (xss j)[i]? = (cols i)[j]?) (hend : (xss 0)[W]? = none)
    (hQ : ∀ h' as, Left s.heap h' n ts.length W cols as → Q (as.map Value.ref) { s with heap := h' }) : wpAny (model prog w) A (collect (.ref (n + ts.length + 2))) Q E s := by
  have hSz : s.heap.objs.size ≠ n + ts.length + 2 := Nat.ne_of_gt (by omega)
  unfold collect
  refine wpAny_bind (wpAny_runValue (codeAny_builtin F.entry_proto_collect ?_))
  rw [Around.under_plainId F.plain_proto_collect _]
  show wpAny _ A.in1 (newList [] >>= fun l => again (.builtin "list.__iadd__" ⟨[l, .ref (n + ts.length + 2)], []⟩)) _ _ s
  refine wpAny_bind (wpAny_newObj_type ?_)
  refine wpAny_pure ⟨plainId_quiet F.plain_list_iadd _, codeAny_builtin F.entry_list_iadd ?_⟩
  rw [Around.under_plainId F.plain_list_iadd _]
  have Z1 : Zst (s.heap.push { cls := .type "list", data := .seq ([] : List Value).toArray }) n ts xss 0 s.heap.objs.size :=
    Z.far hz fun b o _ e => Heap.get?_push_of_some _ e
  have hT : ({ s with heap := s.heap.push { cls := .type "list", data := .seq ([] : List Value).toArray } } : Shared).TypeIs (.ref (n + ts.length + 2)) "zip" :=
    Zst.typeIs (s := { s with heap := s.heap.push { cls := .type "list", data := .seq ([] : List Value).toArray } }) Z1
  show wpAny _ A.in1 (Builtin.List.listExtendWith (.ref s.heap.objs.size) (.ref (n + ts.length + 2)) (.ref s.heap.objs.size)) _ _ _
  unfold Builtin.List.listExtendWith
  refine wpAny_bind (wpAny_typeOf hT ?_)
  have h1 : Builtin.List.listSameRef (.ref s.heap.objs.size) (.ref (n + ts.length + 2)) = false := by simp [Builtin.List.listSameRef, hSz]
  have h2 : (Value.type "zip" == Value.type "list") = false := by decide
  have h3 : (Value.type "zip" == Value.type "tuple") = false := by decide
  simp only [h1, h2, h3, Bool.or_false, Bool.false_eq_true, if_false]
  have hz0 : IsZip (s.heap.push { cls := .type "list", data := .seq ([] : List Value).toArray }) (n + ts.length + 2) (n + ts.length) (n + ts.length + 1) .none := Heap.get?_push_of_some _ hfr
  refine wpAny_bind (wpAny_pyIter_zip (s := { s with heap := s.heap.push { cls := .type "list", data := .seq ([] : List Value).toArray } }) hz0 ?_)
  refine wpAny_bind (wpAny_holding ?_)
  unfold Builtin.List.listLengthHint
  refine wpAny_bind (wpAny_specialOf hT no_len ?_)
  show wpAny _ A.in1 (specialOf (Value.ref (n + ts.length + 2)) (Str.ofString "__length_hint__") >>= _) _ _ _
  refine wpAny_bind (wpAny_specialOf hT no_hint ?_)
  refine wpAny_pure ?_
  show wpAny _ A.in1 (rule "list.extend.makes-room" >>= fun _ => Builtin.List.listTouch (.ref s.heap.objs.size) >>= fun _ =>
    again (.builtin "list.extend.loop" ⟨[.ref s.heap.objs.size, .ref (n + ts.length + 2), .ref s.heap.objs.size], []⟩)) _ _ _
  refine wpAny_bind (wpAny_rule ?_)
  have hS₁ : (s.heap.push { cls := .type "list", data := .seq ([] : List Value).toArray }).get? s.heap.objs.size = some { cls := .type "list", data := .seq ([] : List Value).toArray } := Heap.get?_push_size _ rfl
  refine wpAny_bind ?_
  show wpAny _ A.in1 (updateSeq s.heap.objs.size (·.push .none) >>= fun _ => updateSeq s.heap.objs.size (·.pop)) _ _ _
  refine wpAny_bind (wpAny_updateSeq hS₁ rfl ?_)
  have hS₂ := Heap.get?_update_self (Obj.mapSeq (·.push Value.none)) hS₁ rfl
  refine wpAny_updateSeq hS₂ rfl ?_
  have hS₃ := Heap.get?_update_self (Obj.mapSeq (·.pop)) hS₂ rfl
  have oth : Heap.ExtBut s.heap.objs.size (s.heap.push { cls := .type "list", data := .seq ([] : List Value).toArray })
      (((s.heap.push { cls := .type "list", data := .seq ([] : List Value).toArray }).update s.heap.objs.size (Obj.mapSeq (·.push Value.none))).update s.heap.objs.size (Obj.mapSeq (·.pop))) :=
    fun b o hb e => (Heap.get?_update_other _ _ (Ne.symm hb)).trans ((Heap.get?_update_other _ _ (Ne.symm hb)).trans e)
  refine wpAny_pure ⟨plainId_quiet F.plain_extend_loop _, loop hh hz hk hsz hW hW0 hcl hc hend W 0 _ [] _ _ (Nat.zero_add _) (Z1.far hz oth) hS₃ rfl ⟨fun j a e => (nomatch e), List.nodup_nil, fun a ha => (nomatch ha)⟩ fun h' as' c' hm hS' hl C => ?_⟩
  show wpAny _ A (load s.heap.objs.size >>= _) _ _ { s with heap := h' }
  refine wpAny_bind (wpAny_load (s := { s with heap := h' }) hS' ?_)
  refine wpAny_pure ?_
  have q := hQ h' as' ⟨fun b o hb q => hm b o hb (oth b o (Nat.ne_of_lt (by omega)) (Heap.get?_push_of_some _ q)), hl, C.has, C.nd, fun a ha => (C.hi a ha).1⟩
  first
  | exact q
  | simpa using q
theorem code_tuple_zip {n W : Nat} {ts : List Addr} {xss : Nat → Array Value} {cols : Nat → List Value} {Q₁ : Value → Shared → Prop} (hh : A.handled = none) (Z : Zst s.heap n ts xss 0 s.heap.objs.size)
    (hfr : s.heap.get? (n + ts.length + 2) = some (zipObj n ts.length .none (.bool false))) (hz : n + ts.length + 3 ≤ s.heap.objs.size) (hk : 0 < ts.length) (hsz : ts.length ≤ sizeLine) (hW : W ≤ sizeLine) (hW0 : 0 < W)
    (hcl : ∀ i, i < W → (cols i).length = ts.length) (hc : ∀ i, i < W → ∀ j, j < ts.length → (xss j)[i]? = (cols i)[j]?) (hend : (xss 0)[W]? = none)
    (hQ : ∀ h' as, Left s.heap h' n ts.length W cols as → Q₁ (.ref h'.objs.size) { s with heap := h'.push (tupObj (as.map Value.ref)) }) :
    codeAny (model prog w) A (.call (.builtin "tuple.__new__") ⟨[.type "tuple", .ref (n + ts.length + 2)], []⟩) (wants Q₁ E) s := by
  refine codeAny_of_tree ?_
  show wpAny _ A.in1 (do checkBuiltinCall "tuple.__new__" ⟨[.type "tuple", .ref (n + ts.length + 2)], []⟩; again (.builtin "tuple.__new__" ⟨[.type "tuple", .ref (n + ts.length + 2)], []⟩)) _ _ s
  refine wpAny_bind (wpAny_of_eq (F.newCall_tuple_1 _) (wpAny_pure ⟨plainId_quiet F.plain_tuple_new _, codeAny_builtin F.entry_tuple_new ?_⟩))
  rw [Around.under_plainId F.plain_tuple_new _]
  have hsub := sub_tuple_self
  have hinit := init_tuple_lookup
  have hmh := madeHere_tuple
  have hTI : s.TypeIs (.ref (n + ts.length + 2)) "zip" := Z.typeIs
  have hh1 : A.in1.handled = none := hh
  wp_walk using wpAny_typeOf hTI, collect_zip (A := A.in1) hh1 Z hfr hz hk hsz hW hW0 hcl hc hend
  intro h' as hl
  show wpAny _ _ (Builtin.Tuple.tupleExact (as.map Value.ref).toArray >>= fun v => ret v) _ _ _
  unfold Builtin.Tuple.tupleExact
  refine wpAny_bind (wpAny_newObj_type ?_ (by show (as.map Value.ref).toArray.size ≤ sizeLine; rw [List.size_toArray, List.length_map, hl.2.1]; exact hW))
  refine wpAny_pure ?_
  exact hQ h' as hl
theorem call_tuple_zip {n W : Nat} {ts : List Addr} {xss : Nat → Array Value} {cols : Nat → List Value} {Q : Value → Shared → Prop} (hh : A.handled = none) (Z : Zst s.heap n ts xss 0 s.heap.objs.size)
    (hfr : s.heap.get? (n + ts.length + 2) = some (zipObj n ts.length .none (.bool false))) (hz : n + ts.length + 3 ≤ s.heap.objs.size) (hk : 0 < ts.length) (hsz : ts.length ≤ sizeLine) (hW : W ≤ sizeLine) (hW0 : 0 < W)
    (hcl : ∀ i, i < W → (cols i).length = ts.length) (hc : ∀ i, i < W → ∀ j, j < ts.length → (xss j)[i]? = (cols i)[j]?) (hend : (xss 0)[W]? = none)
    (hQ : ∀ h' as, Left s.heap h' n ts.length W cols as → Q (.ref h'.objs.size) { s with heap := h'.push (tupObj (as.map Value.ref)) }) :
    wpAny (model prog w) A (call (.type "tuple") [.ref (n + ts.length + 2)]) Q E s := by
  refine callType_codes (Q₁ := fun obj s₁ => s₁.TypeIs obj "tuple" ∧ Q obj s₁) F.called_tuple (F.typeCall_tuple_1 _) F.entry_object_init
    (code_tuple_zip (A := A.in1) hh Z hfr hz hk hsz hW hW0 hcl hc hend fun h' as hl => ⟨⟨_, Heap.get?_push_size _ rfl, rfl⟩, hQ h' as hl⟩) fun obj s₁ h₁ => ?_
  exact ⟨h₁.1, F.args_object_init_2 obj _, object_init_meets F.called_tuple.init.lookup F.called_tuple.made (by decide) prog w A.in1 _ s₁ ⟨h₁.1, rfl, h₁.2⟩⟩
end
end ZN

set_option maxHeartbeats 1000000
namespace ZN
open PySem PySem.Spec PyProof.Rows L2
theorem callWith_typeS {M : Model} {A : Around} {E : Value → Shared → Prop} {s : Shared} {env : Env} {e : Expr} {p pos : Pos} {T : String} {Q : Value → Shared → Prop}
    (h : wpAny M A (eval e env) (fun v s₁ => PySem.W.StarOf M A E v (fun vs s₂ => wpAny M A (call (.type T) vs) Q E s₂) s₁) E s)
    (he : starEach [.Starred e p] env = [(true, eval e env)] := by rfl) :
    wpAny M A (callWith pos (.type T) [] (backTo pos (starEach [.Starred e p] env)) []) Q E s := by
  rw [he]
  unfold callWith
  refine wpAny_bind (wpAny_holding (wpAny_mono (PySem.W.ks_lone (Q := fun a s₂ => wpAny M A (call (.type T) ([] ++ a.pos) a.kw) Q E s₂) h) (fun a s₁ h₁ => wpAny_bind (wpAny_standAt ?_)) fun _ _ x => x))
  refine wpAny_bind (wpAny_pure ?_)
  exact wpAny_bind (wpAny_mono (wpAny_operating h₁) (fun r s₂ hr => wpAny_bind (wpAny_holding (wpAny_point (wpAny_pure hr)))) fun _ _ x => x)

/-- the column i -/
def colOf (rows : List (List V)) (i : Nat) : List V := rows.map fun r => r.getD i .non
/-- the values ls are tuples with these rows -/
def RowsAt (K : PySem.W.Frag) (H : Hp) (ls : List V) (rows : List (List V)) : Prop :=
  ls.length = rows.length ∧ ∀ (j : Nat) (r : List V), rows[j]? = some r → ∃ t, ls[j]? = some (.ref t) ∧ SqT K H t r
/-- a tuple of new tuples -/
def tZip (K : PySem.W.Frag) (te : TE) : TE := fun σ H Q => te σ H fun y H1 => ∃ (a : Addr) (ls : List V) (rows : List (List V)) (W : Nat), y = V.ref a ∧ (SqT K H1 a ls ∨ SqL K H1 a ls) ∧
  RowsAt K H1 ls rows ∧ rows ≠ [] ∧ 0 < W ∧ (∀ r ∈ rows, r.length = W) ∧
  ∀ (q : Addr) (as : List Addr) (H2 : Hp), Same H1 H2 → H1 q = none → H2 q = some (.tup (as.map V.ref)) → as.length = W → (∀ (j : Nat) (a : Addr), as[j]? = some a → H1 a = none ∧ H2 a = some (.tup (colOf rows j))) → Q (.ref q) H2

theorem vals_refs : ∀ as : List Addr, Vals (as.map V.ref) (as.map Value.ref)
  | [] => .nil
  | _ :: as => .cons rfl (vals_refs as)
theorem vals_of : ∀ {xs : List V} {us : List Value}, xs.length = us.length → (∀ (j : Nat) (x : V) (u : Value), xs[j]? = some x → us[j]? = some u → RelV x u) → Vals xs us
  | [], [], _, _ => .nil
  | x :: xs, u :: us, hl, h => .cons (h 0 x u rfl rfl) (vals_of (by simpa using hl) fun j x u e1 e2 => h (j + 1) x u (by simpa using e1) (by simpa using e2))
  | [], _ :: _, hl, _ => by simp at hl
  | _ :: _, [], hl, _ => by simp at hl
theorem vals_ref_of : ∀ {ls : List V} {us : List Value}, Vals ls us → (∀ v ∈ ls, ∃ t, v = V.ref t) → ∃ ts : List Addr, ls = ts.map V.ref ∧ us = ts.map Value.ref
  | _, _, .nil, _ => ⟨[], rfl, rfl⟩
  | _, _, .cons r rs, h => by
    obtain ⟨t, e⟩ := h _ List.mem_cons_self
    obtain ⟨ts, e1, e2⟩ := vals_ref_of rs fun v hv => h v (List.mem_cons_of_mem _ hv)
    subst e
    cases r
    exact ⟨t :: ts, by rw [e1]; rfl, by rw [e2]; rfl⟩
section
variable {X : Cx}
/-- the abstract heap with the new tuples -/
def layT (H : Hp) (as : List Addr) (cols : Nat → List V) : Hp := fun b => if b ∈ as then some (.tup (cols (as.idxOf b))) else H b
theorem pe_zip {e : Expr} {te : TE} {p p2 ps pos pos2 : Pos} (hc : X.calm = true) (hg : Gl X "tuple") (hm : X.mg "tuple" = none) (hg2 : Gl X "zip") (hm2 : X.mg "zip" = none) (he : PE X e te)
    (hs : starEach [.Starred e ps] X.env = [(true, eval e X.env)] := by rfl)
    (hs2 : starEach [.Call (.Name "zip" p2) [.Starred e ps] [] pos2] X.env = (false, eval (.Call (.Name "zip" p2) [.Starred e ps] [] pos2) X.env) :: starEach [] X.env := by rfl) :
    PE X (.Call (.Name "tuple" p) [.Call (.Name "zip" p2) [.Starred e ps] [] pos2] [] pos) (tZip X.K te) := by
  refine ⟨fun pins s σ H Q I h => ?_⟩
  refine Call_ (ld_blt I hg hm boot_tuple (PyProof.Rows.callWith_type1 (args_cons (Call_ (ld_blt I hg2 hm2 PyProof.Rows.boot_zip (callWith_typeS (thn (he.run pins s σ H _ I h) fun u s1 ⟨v, H1, I1, r1, q1⟩ => ?_) hs))) hs2) hs2 rfl))
  obtain ⟨a, ls, rows, W, ev, hx, ⟨hl, hr⟩, hne, hW0, hw, q⟩ := q1
  subst ev
  obtain rfl : u = Value.ref a := r1
  refine StX.star_any I1 hx fun us s2 I2 rv => ?_
  obtain ⟨ts, rfl, rfl⟩ := vals_ref_of rv fun v hv => by
    obtain ⟨j, hj⟩ := List.getElem?_of_mem hv
    have hjr : j < rows.length := by rw [← hl]; exact (List.getElem?_eq_some_iff.mp hj).1
    obtain ⟨t, et, _⟩ := hr j rows[j] (List.getElem?_eq_getElem hjr)
    rw [hj] at et
    exact ⟨t, Option.some.inj et⟩
  rw [List.length_map] at hl
  have hk : 0 < ts.length := by rw [hl]; exact List.length_pos_iff.mpr hne
  have hsrc : ∀ j : Nat, ∃ its : List Value, ∀ (t : Addr) (r : List V), ts[j]? = some t → rows[j]? = some r → Vals r its ∧ IsTup s2.heap t its.toArray ∧ r.length ≤ sizeLine := fun j => by
    cases er : rows[j]? with
    | none => exact ⟨[], fun t r _ e => nomatch e⟩
    | some r =>
      obtain ⟨t, et, ht⟩ := hr j r er
      obtain ⟨its, rv, pt, hz⟩ := I2.tuple ht
      refine ⟨its, fun t' r' e1 e2 => ?_⟩
      rw [List.getElem?_map, e1] at et
      cases et; cases e2
      exact ⟨rv, pt, hz⟩
  obtain ⟨f, hf⟩ := Classical.axiomOfChoice hsrc
  have rowj : ∀ j, j < ts.length → ∃ t r, ts[j]? = some t ∧ rows[j]? = some r := fun j hj => ⟨_, _, List.getElem?_eq_getElem hj, List.getElem?_eq_getElem (by rw [← hl]; exact hj)⟩
  have flen : ∀ j, j < ts.length → (f j).length = W := fun j hj => by
    obtain ⟨t, r, e1, e2⟩ := rowj j hj
    rw [← (hf j t r e1 e2).1.length]
    exact hw r (List.mem_of_getElem? e2)
  have hWz : W ≤ sizeLine := by
    obtain ⟨t, r, e1, e2⟩ := rowj 0 hk
    rw [← hw r (List.mem_of_getElem? e2)]
    exact (hf 0 t r e1 e2).2.2
  have hsz : ts.length ≤ sizeLine := by
    rcases hx with hx | hx
    · obtain ⟨_, _, _, z⟩ := I1.tuple hx; simpa using z
    · obtain ⟨_, _, _, z⟩ := I1.list hx; simpa using z
  have htup : ∀ (j : Nat) (t : Addr), ts[j]? = some t → IsTup s2.heap t (f j).toArray := fun j t e => by
    obtain ⟨t', r, e1, e2⟩ := rowj j (List.getElem?_eq_some_iff.mp e).1
    rw [e] at e1; cases e1
    exact (hf j t r e e2).2.1
  refine begins ts hsz (fun t ht => by obtain ⟨j, hj⟩ := List.getElem?_of_mem ht; exact ⟨_, htup j t hj⟩) fun h' hzip hTI hTO hits hsize hkk => args_nil ?_
  have hfin : ∀ j, j < ts.length → (f j).toArray[W]? = none := fun j hj => by simp [flen j hj]
  refine call_tuple_zip (s := { s2 with heap := h' }) (n := s2.heap.objs.size) (W := W) (ts := ts) (xss := fun j => (f j).toArray) (cols := fun i => (List.range ts.length).map fun j => (f j).getD i .none) (I2.ok.hd hc)
    ⟨⟨fun j t e => ⟨_, hits j t e, rfl, rfl⟩, fun j t e => let ⟨o, ho, r⟩ := htup j t e; ⟨o, hkk _ _ ho, r⟩, fun t ht => by
      obtain ⟨j, hj⟩ := List.getElem?_of_mem ht
      obtain ⟨o, ho, _⟩ := htup j t hj
      exact Heap.lt_size ho⟩, hTI, .inl ⟨rfl, hzip, hTO⟩⟩ hzip (Nat.le_of_eq hsize.symm) hk hsz hWz hW0 (fun i _ => by simp) (fun i hi j hj => ?_) (hfin 0 hk) fun h2 as hleft => ?_
  · have hi' : i < (f j).length := by rw [flen j hj]; exact hi
    simp [hj, hi']
  · obtain ⟨k2, hasl, hhas, hnd, hlo⟩ := hleft
    have kk : ∀ b o, s2.heap.get? b = some o → (h2.push (tupObj (as.map Value.ref))).get? b = some o := fun b o e =>
      Heap.get?_push_of_some _ (k2 b o (Heap.lt_size e) (hkk b o e))
    have fresh : ∀ b, s2.heap.objs.size ≤ b → H1 b = none := fun b hb => I2.hok.fresh hb
    have aslt : ∀ b ∈ as, b < h2.objs.size := fun b hb => by
      obtain ⟨j, hj⟩ := List.getElem?_of_mem hb
      exact Heap.lt_size (hhas j b hj)
    have aslo : ∀ b ∈ as, s2.heap.objs.size ≤ b := fun b hb => Nat.le_trans (by omega) (hlo b hb)
    have hlast : ∃ b, b ∈ as := by
      cases as with
      | nil => simp at hasl; omega
      | cons b _ => exact ⟨b, List.mem_cons_self⟩
    have hq : s2.heap.objs.size ≤ h2.objs.size := by
      obtain ⟨b, hb⟩ := hlast
      exact Nat.le_of_lt (Nat.lt_of_le_of_lt (aslo b hb) (aslt b hb))
    have hqa : h2.objs.size ∉ as := fun hb => Nat.lt_irrefl _ (aslt _ hb)
    let HT : Hp := layT H1 as (colOf rows)
    have eT : ∀ b, b ∉ as → HT b = H1 b := fun b hb => if_neg hb
    have eA : ∀ (j : Nat) (b : Addr), as[j]? = some b → HT b = some (.tup (colOf rows j)) := fun j b e => by
      obtain ⟨hj, rfl⟩ := List.getElem?_eq_some_iff.mp e
      show (if as[j] ∈ as then some (HO.tup (colOf rows (as.idxOf as[j]))) else H1 as[j]) = _
      rw [if_pos (List.getElem_mem hj), List.Nodup.idxOf_getElem hnd j hj]
    have same1 : Same H1 HT := fun b o e => by rw [eT b fun hb => by rw [fresh b (aslo b hb)] at e; cases e]; exact e
    have hTq : HT h2.objs.size = none := by rw [eT _ hqa]; exact fresh _ hq
    let H2 : Hp := upd HT h2.objs.size (.tup (as.map V.ref))
    have same2 : Same H1 H2 := fun b o e => by
      show upd HT h2.objs.size _ b = _
      rw [upd_ne (fun q => by subst q; rw [fresh _ hq] at e; cases e)]
      exact same1 b o e
    have e2 : ∀ b, b < s2.heap.objs.size → H2 b = H1 b := fun b hb => by
      show upd HT h2.objs.size _ b = _
      rw [upd_ne (Nat.ne_of_lt (Nat.lt_of_lt_of_le hb hq)), eT b fun m => Nat.lt_irrefl _ (Nat.lt_of_lt_of_le hb (aslo b m))]
    have un : Un X.fs [] H1 H2 s2.heap (h2.push (tupObj (as.map Value.ref))) :=
      ⟨fun b o q _ _ _ => kk b o q, fun b o q _ _ _ => ⟨o.slots, kk b o q⟩, fun b o q n _ => by rw [e2 b (Heap.lt_size q)]; exact n, fun b o q _ => ⟨o, kk b o q⟩,
        fun b xs q => same2 b _ q, fun b o u q => same2 b _ q, fun b ps q => ⟨#[], by rw [same2 b _ q]; simp⟩⟩
    have hok : HOk X.prog X.w H2 (h2.push (tupObj (as.map Value.ref))) := fun b u e => by
      by_cases hb : b = h2.objs.size
      · subst hb
        have e' : u = .tup (as.map V.ref) := by
          have : H2 h2.objs.size = some (.tup (as.map V.ref)) := upd_same
          rw [this] at e; exact (Option.some.inj e).symm
        subst e'
        exact ⟨by rw [List.length_map, hasl]; exact hWz, as.map Value.ref, vals_refs as, _, Heap.get?_push_size _ rfl, rfl, _, rfl⟩
      · by_cases hm : b ∈ as
        · obtain ⟨j, hj⟩ := List.getElem?_of_mem hm
          have e' : u = .tup (colOf rows j) := by
            have : H2 b = some (.tup (colOf rows j)) := (upd_ne hb).trans (eA j b hj)
            rw [this] at e; exact (Option.some.inj e).symm
          subst e'
          have hjW : j < W := by rw [← hasl]; exact (List.getElem?_eq_some_iff.mp hj).1
          refine ⟨by simp only [colOf, List.length_map]; rw [← hl]; exact hsz, _, ?_, _, Heap.get?_push_of_some _ (hhas j b hj), rfl, _, rfl⟩
          refine vals_of (by simp [colOf, hl]) fun m x v ex ev => ?_
          simp only [colOf, List.getElem?_map, Option.map_eq_some_iff] at ex
          obtain ⟨r, er, rfl⟩ := ex
          have hm2 : m < ts.length := by rw [hl]; exact (List.getElem?_eq_some_iff.mp er).1
          obtain ⟨t, r', et, er'⟩ := rowj m hm2
          rw [er] at er'; cases er'
          have rv2 := (hf m t r et er).1
          have hr2 : r[j]? = some (r.getD j .non) := by
            have : j < r.length := by rw [hw r (List.mem_of_getElem? er)]; exact hjW
            simp [this]
          obtain ⟨u2, hu2, rr⟩ := rv2.get hr2
          have : v = u2 := by
            simp [hm2] at ev
            rw [← ev, hu2]; rfl
          subst this
          exact rr
        · have e1 : H1 b = some u := by
            have : H2 b = H1 b := (upd_ne hb).trans (eT b hm)
            rw [this] at e; exact e
          exact (I2.hok b u e1).stay (fun c o _ q => kk c o q) (fun c q => same2 c _ q) fun c xs q => same2 c _ q
    have I3 := I2.un (t' := s2.toks) un hok
    exact ⟨.ref h2.objs.size, H2, I3, rfl, q h2.objs.size as H2 same2 (fresh _ hq) upd_same hasl fun j b e => ⟨fresh b (aslo b (List.mem_of_getElem? e)), (upd_ne (fun z => hqa (by rw [← z]; exact List.mem_of_getElem? e))).trans (eA j b e)⟩⟩
end
end ZN

set_option maxHeartbeats 1000000
namespace ZN
open PySem PySem.Spec PyProof.Rows L2
/-! ### zip(x, y), enumerate(x): lists and tuples in any mix (k: a tuple) -/
def SqK (k : Bool) (K : PySem.W.Frag) (H : Hp) (a : Addr) (xs : List V) : Prop := if k = true then SqT K H a xs else SqL K H a xs
def ItK (k : Bool) (h : Heap) (it a : Addr) (i : Nat) : Prop := if k = true then h.IsTupleIter it a i else h.IsListIter it a i
def SeK (k : Bool) (h : Heap) (a : Addr) (xs : Array Value) : Prop := if k = true then h.IsTuple a xs else h.IsList a xs
def itObjK (k : Bool) (a : Addr) : Obj := if k = true then { cls := .type "tuple_iterator", data := .fields #[.ref a, .int 0 0] } else { cls := .type "list_iterator", data := .fields #[.ref a, .int 0 0] }
theorem itK_obj {k : Bool} {h : Heap} {it a : Addr} (e : h.get? it = some (itObjK k a)) : ItK k h it a 0 := by
  cases k
  · exact ⟨_, e, rfl, rfl⟩
  · exact ⟨_, e, rfl, rfl⟩
theorem beginsK (k : Bool) (a : Addr) (xs : Array Value) : Begins (.ref a) (itObjK k a) fun h => SeK k h a xs := by
  cases k
  · exact begins_list a xs
  · exact begins_tuple a xs
theorem drawsK {prog : Program} {w : World} {A : Around} (k : Bool) (hh : A.handled = none) (it a : Addr) (hne : a ≠ it) (xs : Array Value) :
    Draws prog w A it [it, a] xs.size (fun i v => xs[i]? = some v) (fun i h => ItK k h it a i ∧ SeK k h a xs) := by
  cases k
  · exact Draws.list hh it a hne xs
  · exact Draws.tuple hh it a hne xs
theorem ItK.at {k : Bool} {h h' : Heap} {it a : Addr} {i : Nat} (x : ItK k h it a i) (e : ∀ o, h.get? it = some o → h'.get? it = some o) : ItK k h' it a i := by
  cases k
  · exact Heap.IsListIter.at x e
  · exact Heap.IsTupleIter.at x e
theorem ItK.live {k : Bool} {h : Heap} {it a : Addr} {i : Nat} (x : ItK k h it a i) : ∃ o, h.get? it = some o ∧ ∀ v, o.data ≠ .cell v := by
  cases k
  · obtain ⟨o, e, _, d⟩ := x
    exact ⟨o, e, fun v q => by rw [d] at q; cases q⟩
  · obtain ⟨o, e, _, d⟩ := x
    exact ⟨o, e, fun v q => by rw [d] at q; cases q⟩
section
variable {X : Cx} {pins : List (Addr × Obj)} {σ : L2.St} {H : Hp} {s : Shared} {a : Addr} {xs ys : List V} {k : Bool}
theorem seqK (I : Inv X pins σ H s) (h : SqK k X.K H a xs) : ∃ its : List Value, Vals xs its ∧ SeK k s.heap a its.toArray ∧ a < s.heap.objs.size := by
  cases k
  · obtain ⟨its, r, p, _⟩ := I.list h
    exact ⟨its, r, p.isList, p.lt⟩
  · obtain ⟨its, r, p, _⟩ := I.tuple h
    exact ⟨its, r, p, p.lt⟩
theorem injK (I : Inv X pins σ H s) (h : SqK k X.K H a xs) (h2 : SqK k X.K H a ys) : xs = ys := by
  cases k
  · exact I.list_inj h h2
  · exact I.tuple_inj h h2
end
def Itz2 (K : PySem.W.Frag) (k1 k2 : Bool) (a b : Addr) : It :=
  ⟨fun i H => ∃ (xs ys : List V) (x y : V), SqK k1 K H a xs ∧ SqK k2 K H b ys ∧ xs[i]? = some x ∧ ys[i]? = some y,
    fun i H v H' => ∃ T x y, v = .ref T ∧ H T = none ∧ H' = upd H T (.tup [x, y]) ∧ (∀ xs, SqK k1 K H a xs → xs[i]? = some x) ∧ ∀ ys, SqK k2 K H b ys → ys[i]? = some y,
    fun i H => ∃ xs ys : List V, SqK k1 K H a xs ∧ SqK k2 K H b ys ∧ (xs.length = i ∨ ys.length = i) ∧ i ≤ xs.length ∧ i ≤ ys.length⟩
theorem turn_zip2 {P : Program} {w : World} {K : PySem.W.Frag} {elts : List Expr} {kk : Nat} {tpos : Pos} {k1 k2 : Bool} {a b z TI TO i1 i2 : Addr} (S : ZipSep2 z TI TO i1 i2 [i1, a] [i2, b]) (hai : a ≠ i1) (hbi : b ≠ i2) :
    Turn P w K (.Tuple elts kk tpos) (Itz2 K k1 k2 a b) [z, TI, TO, i1, i2] z (fun i h => IsZip h z TI TO .none ∧ IsTupOf2 h TI (.ref i1) (.ref i2) ∧ (∃ x y, IsTupOf2 h TO x y) ∧ ItK k1 h i1 a i ∧ ItK k2 h i2 b i) where
  mem := by simp
  obj := fun i h st c hc => by
    obtain ⟨hz, hTI, ⟨x, y, hTO⟩, h1, h2⟩ := st
    have e' : c = z ∨ c = TI ∨ c = TO ∨ c = i1 ∨ c = i2 := by simpa using hc
    rcases e' with q | q | q | q | q
    · rw [q]; exact ⟨_, hz, fun v q => nomatch q⟩
    · rw [q]; exact ⟨_, hTI, fun v q => nomatch q⟩
    · rw [q]; exact ⟨_, hTO, fun v q => nomatch q⟩
    · rw [q]; exact h1.live
    · rw [q]; exact h2.live
  keep := fun i h h' st k => by
    obtain ⟨hz, hTI, ⟨x, y, hTO⟩, h1, h2⟩ := st
    exact ⟨k z (by simp) _ hz, k TI (by simp) _ hTI, ⟨x, y, k TO (by simp) _ hTO⟩, h1.at fun o q => k i1 (by simp) o q, h2.at fun o q => k i2 (by simp) o q⟩
  item := by
    intro X hP hw hK hc i pins s σ H E I hf st hg
    subst hP hw hK
    obtain ⟨hz, hTI, ⟨x0, y0, hTO⟩, h1, h2⟩ := st
    obtain ⟨xs, ys, x, y, hqx, hqy, hx, hy⟩ := hg
    obtain ⟨its, rv, p, la⟩ := seqK I hqx
    obtain ⟨its2, rv2, p2, lb⟩ := seqK I hqy
    obtain ⟨u, hu, ru⟩ := rv.get hx
    obtain ⟨u2, hu2, ru2⟩ := rv2.get hy
    have hzl : z < s.heap.objs.size := Heap.lt_size hz
    have hh : X.A.in1.handled = none := I.ok.hd hc
    refine wpAny_pyNext_zipD2_item S (drawsK k1 hh i1 a hai its.toArray) (drawsK k2 hh i2 b hbi its2.toArray) hz hTI hTO ⟨h1, p⟩ ⟨h2, p2⟩ (by simpa using (List.getElem?_eq_some_iff.mp hu).1) (by simpa using (List.getElem?_eq_some_iff.mp hu2).1) fun x1 x2 h' tk e1 e2 z' TO' st1 st2 hT hsz hk => ?_
    obtain rfl : u = x1 := by
      have : its[i]? = some x1 := by simpa using e1
      rw [hu] at this; exact Option.some.inj this
    obtain rfl : u2 = x2 := by
      have : its2[i]? = some x2 := by simpa using e2
      rw [hu2] at this; exact Option.some.inj this
    refine ⟨_, rfl, wpAny_letOwnedTupleGo_zip (s := { s with heap := h', toks := tk }) z' fun h'' z'' sb => ?_⟩
    have hT2 : h''.get? s.heap.objs.size = some { cls := .type "tuple", data := .seq #[u, u2] } := (sb.2 _ (Nat.ne_of_gt hzl)).trans hT
    have new : ObjOk X.prog X.w (upd H s.heap.objs.size (.tup [x, y])) h'' s.heap.objs.size (.tup [x, y]) :=
      ⟨by show 2 ≤ sizeLine; decide, [u, u2], .cons ru (.cons ru2 .nil), ⟨_, hT2, rfl, _, rfl⟩⟩
    have I1 : Inv X pins σ (upd H s.heap.objs.size (.tup [x, y])) { s with heap := h'', toks := tk } :=
      I.turnedNew (t' := tk) (ch := [z, TI, TO, i1, i2]) (fun c o hb q => (sb.2 c (fun q' => hb (by simp [q']))).trans (hk c o (fun q' => hb (by simp [q'])) (fun q' => hb (by simp [q'])) (fun q' => hb (by simp [q'])) (fun q' => hb (by simp [q'])) q)) hf (Nat.le_refl _) new
    refine ⟨.ref s.heap.objs.size, _, I1, rfl, ⟨_, x, y, rfl, I.hok.fresh (Nat.le_refl _), rfl, fun l hl => by rw [injK I hl hqx]; exact hx, fun l hl => by rw [injK I hl hqy]; exact hy⟩, ⟨z'', ?_, ⟨u, u2, ?_⟩, ?_, ?_⟩, fun c hcm => ?_⟩
    · exact (sb.2 _ S.TIz).trans (hk _ _ S.TIz S.TITO S.TIi1 S.TIi2 hTI)
    · exact (sb.2 _ S.TOz).trans TO'
    · exact st1.1.at fun o q => (sb.2 _ S.zi1.symm).trans q
    · exact st2.1.at fun o q => (sb.2 _ S.zi2.symm).trans q
    · have hlt : c < s.heap.objs.size := by
        have e' : c = z ∨ c = TI ∨ c = TO ∨ c = i1 ∨ c = i2 := by simpa using hcm
        rcases e' with q | q | q | q | q
        · rw [q]; exact hzl
        · rw [q]; exact Heap.lt_size hTI
        · rw [q]; exact Heap.lt_size hTO
        · rw [q]; obtain ⟨_, e1, _⟩ := h1.live; exact Heap.lt_size e1
        · rw [q]; obtain ⟨_, e1, _⟩ := h2.live; exact Heap.lt_size e1
      rw [upd_ne (Nat.ne_of_lt hlt)]
      exact (hf c hcm).1
  done := by
    intro X hP hw hK hc i pins s σ H E I hf st hg
    subst hP hw hK
    obtain ⟨hz, hTI, ⟨x0, y0, hTO⟩, h1, h2⟩ := st
    obtain ⟨xs, ys, hqx, hqy, hend, hle1, hle2⟩ := hg
    obtain ⟨its, rv, p, _⟩ := seqK I hqx
    obtain ⟨its2, rv2, p2, _⟩ := seqK I hqy
    have l1 := rv.length
    have l2 := rv2.length
    have hh : X.A.in1.handled = none := I.ok.hd hc
    exact wpAny_pyNext_zipD2_end S (drawsK k1 hh i1 a hai its.toArray) (drawsK k2 hh i2 b hbi its2.toArray) hz hTI hTO ⟨h1, p⟩ ⟨h2, p2⟩ (by simp; omega) (by simp; omega) (by simp; omega) fun h' tk hk => ⟨rfl, I.turnedL (t' := tk) (ch := [z, TI, TO, i1, i2]) (fun c o hb q =>
      hk c o (fun q' => hb (by simp [q'])) (fun q' => hb (by simp [q'])) (fun q' => hb (by simp [q'])) (fun q' => hb (by simp [q'])) q) hf⟩
  self := fun A i s Q E st h => wpAny_pyIter_zip st.1 h
def iZip2 (K : PySem.W.Frag) (ta : TA) : TI := fun σ H R => ta σ H fun vs H1 => ∃ k1 k2 a b xs ys, vs = [.ref a, .ref b] ∧ SqK k1 K H1 a xs ∧ SqK k2 K H1 b ys ∧ R (Itz2 K k1 k2 a b) H1
theorem pi_zip2 {X : Cx} {e e2 : Expr} {ta : TA} {p pos tpos : Pos} {elts : List Expr} {kk : Nat} (hg : Gl X "zip") (hm : X.mg "zip" = none) (ha : PA X [e, e2] ta)
    (hs : starEach [e, e2] X.env = (false, eval e X.env) :: starEach [e2] X.env := by rfl) (hpl : (backTo pos (starEach [e2] X.env)).any (·.1) = false := by rfl) :
    PI X (.Tuple elts kk tpos) (.Call (.Name "zip" p) [e, e2] [] pos) (iZip2 X.K ta) := by
  refine ⟨fun pins s σ H R I h => ?_⟩
  refine Call_ (ld_blt I hg hm PyProof.Rows.boot_zip (PyProof.Rows.callWith_type1 (thn (ha.run pos pins s σ H _ I h) fun us s1 ⟨vs, H1, I1, r1, q1⟩ => ?_) hs hpl))
  obtain ⟨k1, k2, a, b, xs, ys, ex, hqx, hqy, q⟩ := q1
  subst ex
  cases r1 with
  | cons r rr =>
    cases rr with
    | cons r' rr =>
      cases rr
      cases r
      cases r'
      obtain ⟨its, rv, p1, la⟩ := seqK I1 hqx
      obtain ⟨its2, rv2, p2, lb⟩ := seqK I1 hqy
      refine zip_begins2 (beginsK k1 a its.toArray) (beginsK k2 b its2.toArray) p1 p2 fun h' hz hTI hTO h1 h2 hsz hk => wpAny_pyIter_zip hz ?_
      have I2 : Inv X pins σ H1 { s1 with heap := h' } := I1.kept (t' := s1.toks) hk
      refine ⟨s1.heap.objs.size + 4, [s1.heap.objs.size + 4, s1.heap.objs.size + 2, s1.heap.objs.size + 3, s1.heap.objs.size, s1.heap.objs.size + 1], _, _, H1, rfl, I2,
        turn_zip2 (k1 := k1) (k2 := k2) (a := a) (b := b) (zip_sep2 (fun c hc => (List.mem_singleton.mp hc).symm ▸ la) (fun c hc => (List.mem_singleton.mp hc).symm ▸ lb)) (Nat.ne_of_lt la) (Nat.ne_of_lt (Nat.lt_succ_of_lt lb)),
        ⟨hz, hTI, ⟨_, _, hTO⟩, itK_obj h1, itK_obj h2⟩, fun c hcm => ?_, q⟩
      have e' : c = s1.heap.objs.size + 4 ∨ c = s1.heap.objs.size + 2 ∨ c = s1.heap.objs.size + 3 ∨ c = s1.heap.objs.size ∨ c = s1.heap.objs.size + 1 := by simpa using hcm
      have hle : s1.heap.objs.size ≤ c := by
        rcases e' with z | z | z | z | z
        · rw [z]; exact Nat.le_add_right _ _
        · rw [z]; exact Nat.le_add_right _ _
        · rw [z]; exact Nat.le_add_right _ _
        · rw [z]; exact Nat.le_refl _
        · rw [z]; exact Nat.le_add_right _ _
      exact I1.fpOk hle (I1.hok.fresh hle)
theorem walk_zip2 {K : PySem.W.Frag} {k1 k2 : Bool} {a b : Addr} {xs ys : List V} {n : Nat} (hn : n = min xs.length ys.length) :
    Walk (Itz2 K k1 k2 a b) n (fun H => SqK k1 K H a xs ∧ SqK k2 K H b ys) (YPair (fun i => xs[i]?) (fun i => ys[i]?)) := by
  subst hn
  refine ⟨fun i _ hi q => ?_, fun _ q => ⟨xs, ys, q.1, q.2, by omega, by omega, by omega⟩, fun i H v H' _ q y => ?_⟩
  · have h1 : i < xs.length := by omega
    have h2 : i < ys.length := by omega
    exact ⟨xs, ys, xs[i], ys[i], q.1, q.2, by simp [h1], by simp [h2]⟩
  · obtain ⟨T, x, z, h1, h2, h3, h4, h5⟩ := y
    exact ⟨T, x, z, h1, h2, h3, h4 xs q.1, h5 ys q.2⟩

/-! ### enumerate(x) -/
theorem meets_enumerate_newT (l : Addr) (items : Array Value) (n : Nat) (dct : Option Addr) (sl : Array (Option Value)) :
    Meets (Builtin.«enumerate.__new__» ⟨[.type "enumerate", .ref l], []⟩) (fun _ R s => s.heap.get? l = some { cls := .type "tuple", dict := dct, data := .seq items n, slots := sl } ∧
      R (.ok (.ret (.ref (s.heap.push { cls := .type "tuple_iterator", data := .fields #[.ref l, .int 0 0] }).objs.size)))
        { s with heap := (s.heap.push { cls := .type "tuple_iterator", data := .fields #[.ref l, .int 0 0] }).push { cls := .type "enumerate", data := .fields #[.none, .bool false, .ref s.heap.objs.size, rawInt 0, .none, .none] } }) :=
  .of_wp fun prog w A R s h => by
    obtain ⟨hp, g, d, tk, os⟩ := s; obtain ⟨hl, h⟩ := h
    have hsub := sub_enumerate
    have hL : Heap.IsTuple (Shared.heap ⟨hp, g, d, tk, os⟩) l items := ⟨_, hl, rfl, n, rfl⟩
    wp_walk using AutoSeq1.wpAny_loadPart' hl
    refine wpAny_stack_any fun st => wpAny_pure ?_
    split
    · rename_i c _ _ _ _ _
      cases (c == Value.type "enumerate")
      · wp_walk using AutoSeq1.wpAny_loadPart' hl, wpAny_pyIter_tuple hL
        exact ⟨_, rfl, h⟩
      · wp_walk using AutoSeq1.wpAny_loadPart' hl, wpAny_pyIter_tuple hL
        exact ⟨_, rfl, h⟩
    · wp_walk using AutoSeq1.wpAny_loadPart' hl, wpAny_pyIter_tuple hL
      exact ⟨_, rfl, h⟩
section
variable {prog : Program} {w : World} {A : Around} {E : Value → Shared → Prop} {s : Shared}
theorem call_enumerateK {k : Bool} {l : Addr} {items : Array Value} {Q : Value → Shared → Prop} (hL : SeK k s.heap l items)
    (h : ∀ h', IsEnum h' (s.heap.objs.size + 1) s.heap.objs.size 0 .none → ItK k h' s.heap.objs.size l 0 → h'.objs.size = s.heap.objs.size + 2 →
      (∀ b o, s.heap.get? b = some o → h'.get? b = some o) → Q (.ref (s.heap.objs.size + 1)) { s with heap := h' }) :
    wpAny (model prog w) A (call (.type "enumerate") [.ref l]) Q E s := by
  cases k
  · exact call_enumerate_list hL h
  · obtain ⟨⟨c, dct, dt, sl⟩, hl, hc, n, hd⟩ := hL
    replace hc : c = .type "tuple" := hc
    replace hd : dt = .seq items n := hd
    subst hc hd
    refine callType_new F.called_enumerate (by decide) (F.typeCall_enumerate_1 _) (F.newCall_enumerate_1 _) (fun obj => F.args_object_init_2 obj _) F.entry_enumerate_new
      (meets_enumerate_newT l items n dct sl) ⟨hl, ?_⟩
    have hz : (s.heap.push { cls := .type "tuple_iterator", data := .fields #[.ref l, .int 0 0] }).objs.size = s.heap.objs.size + 1 := Heap.size_push ..
    show _ ∧ _
    rw [hz]
    have he : IsEnum ((s.heap.push { cls := .type "tuple_iterator", data := .fields #[.ref l, .int 0 0] }).push
        { cls := .type "enumerate", data := .fields #[.none, .bool false, .ref s.heap.objs.size, rawInt 0, .none, .none] }) (s.heap.objs.size + 1) s.heap.objs.size 0 .none := by
      have := Heap.get?_push_size (s.heap.push { cls := .type "tuple_iterator", data := .fields #[.ref l, .int 0 0] })
        (o := { cls := .type "enumerate", data := .fields #[.none, .bool false, .ref s.heap.objs.size, rawInt 0, .none, .none] }) rfl
      rw [hz] at this; exact this
    refine ⟨⟨_, he, rfl⟩, h _ he ⟨_, Heap.get?_push_of_some _ (Heap.get?_push_size _ rfl), rfl, rfl⟩ (by rw [Heap.size_push, hz]) fun b o x => Heap.get?_push_of_some _ (Heap.get?_push_of_some _ x)⟩
end
def IteK (K : PySem.W.Frag) (k : Bool) (a : Addr) : It :=
  ⟨fun i H => ∃ (xs : List V) (x : V), SqK k K H a xs ∧ xs[i]? = some x, fun i H v H' => ∃ T x, v = .ref T ∧ H T = none ∧ H' = upd H T (.tup [.int (i : Nat), x]) ∧ ∀ xs, SqK k K H a xs → xs[i]? = some x, fun i H => ∃ xs : List V, SqK k K H a xs ∧ xs.length = i⟩
theorem turn_enumK {P : Program} {w : World} {K : PySem.W.Frag} {elts : List Expr} {kk : Nat} {tpos : Pos} (k : Bool) (a e it : Addr) (hae : a ≠ e) (hai : a ≠ it) :
    Turn P w K (.Tuple elts kk tpos) (IteK K k a) [e, it] e (fun i h => (∃ old, IsEnum h e it ((i : Nat) : Int) old) ∧ ItK k h it a i ∧ e ≠ it) where
  mem := by simp
  obj := fun i h st b hb => by
    obtain ⟨⟨old, he⟩, hi, _⟩ := st
    have e' : b = e ∨ b = it := by simpa using hb
    rcases e' with z | z
    · rw [z]; exact ⟨_, he, fun v q => nomatch q⟩
    · rw [z]; exact hi.live
  keep := fun i h h' st k => let ⟨⟨old, he⟩, hi, hne⟩ := st; ⟨⟨old, k e (by simp) _ he⟩, hi.at fun o q => k it (by simp) o q, hne⟩
  item := by
    intro X hP hw hK hc i pins s σ H E I hf st hg
    subst hP hw hK
    obtain ⟨⟨old, he⟩, hit, hne⟩ := st
    obtain ⟨xs, x, hq, hx⟩ := hg
    obtain ⟨its, rv, p, _⟩ := seqK I hq
    obtain ⟨u, hu, ru⟩ := rv.get hx
    have hel : e < s.heap.objs.size := Heap.lt_size he
    have hil : it < s.heap.objs.size := by obtain ⟨_, q, _⟩ := hit.live; exact Heap.lt_size q
    have hh : X.A.in1.handled = none := I.ok.hd hc
    refine wpAny_pyNext_enum_itemD (drawsK k hh it a hai its.toArray) he ⟨hit, p⟩ (by simpa using (List.getElem?_eq_some_iff.mp hu).1) hne (by simp [hne, Ne.symm hae]) fun x1 h' tk e1 ho st1 hT hsz hk => ?_
    obtain rfl : u = x1 := by
      have : its[i]? = some x1 := by simpa using e1
      rw [hu] at this; exact Option.some.inj this
    refine ⟨_, rfl, wpAny_letOwnedTupleGo_enum (s := { s with heap := h', toks := tk + 1 }) ho fun h'' he' sb => ?_⟩
    have hT2 : h''.get? s.heap.objs.size = some { cls := .type "tuple", data := .seq #[.int i tk, u] } := (sb.2 _ (Nat.ne_of_gt hel)).trans hT
    have new : ObjOk X.prog X.w (upd H s.heap.objs.size (.tup [.int (i : Nat), x])) h'' s.heap.objs.size (.tup [.int (i : Nat), x]) :=
      ⟨by show 2 ≤ sizeLine; decide, [.int i tk, u], .cons ⟨_, rfl⟩ (.cons ru .nil), ⟨_, hT2, rfl, _, rfl⟩⟩
    have I1 : Inv X pins σ (upd H s.heap.objs.size (.tup [.int (i : Nat), x])) { s with heap := h'', toks := tk + 1 } :=
      I.turnedNew (ch := [e, it]) (fun b ob hb q => (sb.2 b (fun z => hb (by simp [z]))).trans (hk b ob (fun z => hb (by simp [z])) (fun z => hb (by simp [z])) q)) hf (Nat.le_refl _) new
    refine ⟨.ref s.heap.objs.size, _, I1, rfl, ⟨_, x, rfl, I.hok.fresh (Nat.le_refl _), rfl, fun ys hy => by rw [injK I hy hq]; exact hx⟩, ⟨⟨u, ?_⟩, st1.1.at fun o q => (sb.2 it (Ne.symm hne)).trans q, hne⟩, fun b hb => ?_⟩
    · have e1 : ((i + 1 : Nat) : Int) = (i : Int) + 1 := by omega
      rw [e1]; exact he'
    · have hb' : b < s.heap.objs.size := by
        have e' : b = e ∨ b = it := by simpa using hb
        rcases e' with z | z
        · rw [z]; exact hel
        · rw [z]; exact hil
      rw [upd_ne (Nat.ne_of_lt hb')]
      exact (hf b hb).1
  done := by
    intro X hP hw hK hc i pins s σ H E I hf st hg
    subst hP hw hK
    obtain ⟨⟨old, he⟩, hit, hne⟩ := st
    obtain ⟨xs, hq, hx⟩ := hg
    obtain ⟨its, rv, p, _⟩ := seqK I hq
    obtain ⟨f0, f1, f2, f3, f4, f5⟩ := hf it (by simp)
    have hh : X.A.in1.handled = none := I.ok.hd hc
    have hl := rv.length
    have ei : i = its.toArray.size := by simp; omega
    subst ei
    exact wpAny_pyNext_enum_endD (drawsK k hh it a hai its.toArray) he ⟨hit, p⟩ fun h' eb => ⟨rfl, I.turned (t' := s.toks) (fun b o hb q => eb b o hb q) f0 f1 f3 f4 f5⟩
  self := fun A i s Q E st h => let ⟨⟨_, he⟩, _⟩ := st; wpAny_pyIter_enum he h
def iEnumK (K : PySem.W.Frag) (ta : TA) : TI := fun σ H R => ta σ H fun vs H1 => ∃ k a xs, vs = [.ref a] ∧ SqK k K H1 a xs ∧ R (IteK K k a) H1
theorem pi_enumK {X : Cx} {e : Expr} {ta : TA} {p pos tpos : Pos} {elts : List Expr} {kk : Nat} (hg : Gl X "enumerate") (hm : X.mg "enumerate" = none) (ha : PA X [e] ta) (hs : starEach [e] X.env = [(false, eval e X.env)] := by rfl) :
    PI X (.Tuple elts kk tpos) (.Call (.Name "enumerate" p) [e] [] pos) (iEnumK X.K ta) := by
  refine ⟨fun pins s σ H R I h => ?_⟩
  refine Call_ (ld_blt I hg hm boot_enumerate (PyProof.Rows.callWith_type1 (thn (ha.run pos pins s σ H _ I h) fun us s1 ⟨vs, H1, I1, r1, q1⟩ => ?_) hs rfl))
  obtain ⟨k, a, xs, ex, hq, q⟩ := q1
  subst ex
  cases r1 with
  | cons r rr =>
    cases rr
    cases r
    obtain ⟨its, rv, p', la⟩ := seqK I1 hq
    refine call_enumerateK p' fun h' he hit hsz hk => wpAny_pyIter_enum he ?_
    have I2 : Inv X pins σ H1 { s1 with heap := h' } := I1.kept (t' := s1.toks) hk
    refine ⟨s1.heap.objs.size + 1, [s1.heap.objs.size + 1, s1.heap.objs.size], _, _, H1, rfl, I2, turn_enumK k a (s1.heap.objs.size + 1) s1.heap.objs.size (Nat.ne_of_lt (Nat.lt_succ_of_lt la)) (Nat.ne_of_lt la), ⟨⟨.none, he⟩, hit, Nat.succ_ne_self _⟩, fun b hb => ?_, q⟩
    have e' : b = s1.heap.objs.size + 1 ∨ b = s1.heap.objs.size := by simpa using hb
    have hle : s1.heap.objs.size ≤ b := by
      rcases e' with z | z
      · rw [z]; exact Nat.le_add_right _ _
      · rw [z]; exact Nat.le_refl _
    exact I1.fpOk hle (I1.hok.fresh hle)
theorem walk_enumK {K : PySem.W.Frag} {k : Bool} {a : Addr} {xs : List V} : Walk (IteK K k a) xs.length (fun H => SqK k K H a xs) (YPair (fun i => some (.int (i : Nat))) (fun i => xs[i]?)) := by
  refine ⟨fun i _ hi q => ⟨xs, xs[i], q, by simp [hi]⟩, fun _ q => ⟨xs, q, rfl⟩, fun i H v H' _ q y => ?_⟩
  obtain ⟨T, x, h1, h2, h3, h4⟩ := y
  exact ⟨T, .int (i : Nat), x, h1, h2, h3, rfl, h4 xs q⟩
end ZN

set_option maxHeartbeats 400000
namespace My
open PySem PySem.Spec PyProof.Rows L2
section
variable {K : PySem.W.Frag} {σ : St} {H : Hp} {te : TE} {vs : List Nat} {Q : VK}
theorem upd_self {H : Hp} {a : Addr} {o : HO} (h : H a = some o) : upd H a o = H := by
  funext b
  by_cases e : b = a
  · subst e; rw [upd_same, h]
  · rw [upd_ne e]
theorem same_upd {H H' : Hp} {D : Addr} {u : HO} (e : Same H H') : Same (upd H D u) (upd H' D u) := fun b o q => by
  by_cases hb : b = D
  · subst hb; rw [upd_same] at q ⊢; exact q
  · rw [upd_ne hb] at q ⊢; exact e b o q
/-- a comprehension over anything that is walked, with a test: what is made is told as data -/
theorem comp_jd {J : It} {n : Nat} {G : Hp → Prop} {Y : Nat → Hp → V → Hp → Prop} {wi : TI} {g : TG} {tt : TT} (w : Walk J n G Y) (sel : Nat → Bool) (dk : Nat → PyData) (hz : n < 100000)
    (hG : ∀ H', Same H H' → G H') (h0 : ∀ R : It → Hp → Prop, R J H → wi σ H R)
    (hel : ∀ (k : Nat) (x : V) (D : Addr) (acc : List V) (H1 H2 : Hp) (A : VK) (B : Hp → Prop), k < n → Same H H1 → H D = none → H1 D = some (.lst acc) → Y k H1 x H2 →
      (sel k = true → ∀ y H5, Same H1 H5 → (∀ u, Jd K (upd H5 D u) y (dk k)) → A y H5) → (sel k = false → ∀ H4, Same H1 H4 → B H4) →
      g x (wipe σ vs) H2 fun σ2 H3 => wipe σ2 vs = wipe σ vs ∧ tt σ2 H3 fun b H4 => if b = true then te σ2 H4 A else B H4)
    (q : ∀ D ys H', Same H H' → H D = none → H' D = some (.lst ys) → JdAll K H' ys (((List.range n).filter sel).map dk) → Q (.ref D) H') :
    tLc wi g tt te vs σ H Q := by
  refine h0 _ fun D hD => ?_
  refine lc_it w (fun k H' => k ≤ n ∧ Same H H' ∧ ∃ ys, H' D = some (.lst ys) ∧ ys.length ≤ k ∧ ∀ u, JdAll K (upd H' D u) ys (((List.range k).filter sel).map dk))
    ⟨Nat.zero_le _, same_new hD, [], upd_same, Nat.le_refl _, fun u => .nil⟩ (fun k H' _ h => hG H' h.2.1) ?_ ?_
  · rintro k x H1 H2 hk ⟨_, e1, ys, hL, hlen, hj⟩ hy
    refine hel k x D ys H1 H2 _ _ hk e1 hD hL hy (fun hs y H5 e5 hJ => ?_) (fun hs H4 e4 => ?_)
    · refine ⟨ys, e5 _ _ hL, Evl.sz_lt (by omega), hk, ?_, ys ++ [y], upd_same, by simp; omega, fun u => ?_⟩
      · intro b u e
        rw [upd_ne (ne_of_none e hD)]
        exact e5 _ _ (e1 _ _ e)
      · rw [upd_upd, List.range_succ, List.filter_append, List.map_append]
        refine JdAll.append (JdAll.mono (same_upd e5) _ _ (hj u)) ?_
        have e : ([k].filter sel) = [k] := by simp [hs]
        rw [e]
        exact .cons (hJ u) .nil
    · refine ⟨hk, e1.trans e4, ys, e4 _ _ hL, by omega, fun u => ?_⟩
      rw [List.range_succ, List.filter_append, List.map_append]
      have e : ([k].filter sel) = [] := by simp [hs]
      rw [e, List.map_nil, List.append_nil]
      exact JdAll.mono (same_upd e4) _ _ (hj u)
  · rintro H1 ⟨_, e1, ys, hL, _, hj⟩
    have := hj (.lst ys)
    rw [upd_self hL] at this
    exact q D ys H1 e1 hD hL this
end
end My

set_option maxHeartbeats 400000
namespace My
open PySem PySem.Spec PyProof.Rows L2
section
variable {K : PySem.W.Frag} {σ : St} {H : Hp} {te : TE} {vs : List Nat} {Q : VK} {J : It} {n i j : Nat} {G : Hp → Prop} {wi : TI} {tt : TT}
theorem filter_all {α : Type} (l : List α) : l.filter (fun _ => true) = l := List.filter_eq_self.2 fun _ _ => rfl
/-- over pairs: two names -/
theorem comp_pair_if {fx fy : Nat → Option V} (w : Walk J n G (YPair fx fy)) (sel : Nat → Bool) (dk : Nat → PyData) (hz : n < 100000)
    (hG : ∀ H', Same H H' → G H') (h0 : ∀ R : It → Hp → Prop, R J H → wi σ H R) (hw : ∀ x y, wipe (((wipe σ vs).set i (some x)).set j (some y)) vs = wipe σ vs)
    (hel : ∀ (k : Nat) (x y : V) (D : Addr) (acc : List V) (H1 : Hp) (A : VK) (B : Hp → Prop), k < n → Same H H1 → H D = none → H1 D = some (.lst acc) → fx k = some x → fy k = some y →
      (sel k = true → ∀ v H5, Same H1 H5 → (∀ u, Jd K (upd H5 D u) v (dk k)) → A v H5) → (sel k = false → ∀ H4, Same H1 H4 → B H4) →
      tt (((wipe σ vs).set i (some x)).set j (some y)) H1 fun b H4 => if b = true then te (((wipe σ vs).set i (some x)).set j (some y)) H4 A else B H4)
    (q : ∀ D ys H', Same H H' → H D = none → H' D = some (.lst ys) → JdAll K H' ys (((List.range n).filter sel).map dk) → Q (.ref D) H') :
    tLc wi (gTup K 2 (gCons (gName i) (gCons (gName j) gNil))) tt te vs σ H Q := by
  refine comp_jd w sel dk hz hG h0 (fun k v D acc H1 H2 A B hk e1 hD hL hy hA hB => ?_) q
  obtain ⟨T, x, y, rfl, hT, rfl, hx, hy⟩ := hy
  have e2 : Same H1 (upd H1 T (.tup [x, y])) := same_new hT
  refine ⟨T, [x, y], rfl, .inl (.inl upd_same), rfl, _, _, rfl, _, _, rfl, rfl, hw x y, ?_⟩
  exact hel k x y D acc _ A B hk (e1.trans e2) hD (e2 _ _ hL) hx hy (fun s v H5 e5 => hA s v H5 (e2.trans e5)) fun s H4 e4 => hB s H4 (e2.trans e4)
theorem comp_pair {fx fy : Nat → Option V} (w : Walk J n G (YPair fx fy)) (dk : Nat → PyData) (hz : n < 100000)
    (hG : ∀ H', Same H H' → G H') (h0 : ∀ R : It → Hp → Prop, R J H → wi σ H R) (hw : ∀ x y, wipe (((wipe σ vs).set i (some x)).set j (some y)) vs = wipe σ vs)
    (hel : ∀ (k : Nat) (x y : V) (D : Addr) (acc : List V) (H1 : Hp) (A : VK), k < n → Same H H1 → H D = none → H1 D = some (.lst acc) → fx k = some x → fy k = some y →
      (∀ v H5, Same H1 H5 → (∀ u, Jd K (upd H5 D u) v (dk k)) → A v H5) → te (((wipe σ vs).set i (some x)).set j (some y)) H1 A)
    (q : ∀ D ys H', Same H H' → H D = none → H' D = some (.lst ys) → JdAll K H' ys ((List.range n).map dk) → Q (.ref D) H') :
    tLc wi (gTup K 2 (gCons (gName i) (gCons (gName j) gNil))) tYes te vs σ H Q :=
  comp_pair_if w (fun _ => true) dk hz hG h0 hw (fun k x y D acc H1 A B hk e1 hD hL hx hy hA _ => yes_of (hel k x y D acc H1 A hk e1 hD hL hx hy (hA rfl)))
    fun D ys H' a b c d => q D ys H' a b c (filter_all (List.range n) ▸ d)
/-- over single things: one name -/
theorem comp_one_if {xs : List V} (w : Walk J n G (YAt xs)) (sel : Nat → Bool) (dk : Nat → PyData) (hz : n < 100000)
    (hG : ∀ H', Same H H' → G H') (h0 : ∀ R : It → Hp → Prop, R J H → wi σ H R) (hw : ∀ x, wipe ((wipe σ vs).set i (some x)) vs = wipe σ vs)
    (hel : ∀ (k : Nat) (x : V) (D : Addr) (acc : List V) (H1 : Hp) (A : VK) (B : Hp → Prop), k < n → Same H H1 → H D = none → H1 D = some (.lst acc) → xs[k]? = some x →
      (sel k = true → ∀ v H5, Same H1 H5 → (∀ u, Jd K (upd H5 D u) v (dk k)) → A v H5) → (sel k = false → ∀ H4, Same H1 H4 → B H4) →
      tt ((wipe σ vs).set i (some x)) H1 fun b H4 => if b = true then te ((wipe σ vs).set i (some x)) H4 A else B H4)
    (q : ∀ D ys H', Same H H' → H D = none → H' D = some (.lst ys) → JdAll K H' ys (((List.range n).filter sel).map dk) → Q (.ref D) H') :
    tLc wi (gName i) tt te vs σ H Q := by
  refine comp_jd w sel dk hz hG h0 (fun k v D acc H1 H2 A B hk e1 hD hL hy hA hB => ?_) q
  obtain ⟨rfl, hx⟩ := hy
  exact ⟨hw v, hel k v D acc _ A B hk e1 hD hL hx hA hB⟩
theorem comp_one {xs : List V} (w : Walk J n G (YAt xs)) (dk : Nat → PyData) (hz : n < 100000)
    (hG : ∀ H', Same H H' → G H') (h0 : ∀ R : It → Hp → Prop, R J H → wi σ H R) (hw : ∀ x, wipe ((wipe σ vs).set i (some x)) vs = wipe σ vs)
    (hel : ∀ (k : Nat) (x : V) (D : Addr) (acc : List V) (H1 : Hp) (A : VK), k < n → Same H H1 → H D = none → H1 D = some (.lst acc) → xs[k]? = some x →
      (∀ v H5, Same H1 H5 → (∀ u, Jd K (upd H5 D u) v (dk k)) → A v H5) → te ((wipe σ vs).set i (some x)) H1 A)
    (q : ∀ D ys H', Same H H' → H D = none → H' D = some (.lst ys) → JdAll K H' ys ((List.range n).map dk) → Q (.ref D) H') :
    tLc wi (gName i) tYes te vs σ H Q :=
  comp_one_if w (fun _ => true) dk hz hG h0 hw (fun k x D acc H1 A B hk e1 hD hL hx hA _ => yes_of (hel k x D acc H1 A hk e1 hD hL hx (hA rfl)))
    fun D ys H' a b c d => q D ys H' a b c (filter_all (List.range n) ▸ d)
/-- over range -/
theorem comp_rng_if {f : Nat → V} (w : Walk J n G (YFn f)) (sel : Nat → Bool) (dk : Nat → PyData) (hz : n < 100000)
    (hG : ∀ H', Same H H' → G H') (h0 : ∀ R : It → Hp → Prop, R J H → wi σ H R) (hw : ∀ x, wipe ((wipe σ vs).set i (some x)) vs = wipe σ vs)
    (hel : ∀ (k : Nat) (D : Addr) (acc : List V) (H1 : Hp) (A : VK) (B : Hp → Prop), k < n → Same H H1 → H D = none → H1 D = some (.lst acc) →
      (sel k = true → ∀ v H5, Same H1 H5 → (∀ u, Jd K (upd H5 D u) v (dk k)) → A v H5) → (sel k = false → ∀ H4, Same H1 H4 → B H4) →
      tt ((wipe σ vs).set i (some (f k))) H1 fun b H4 => if b = true then te ((wipe σ vs).set i (some (f k))) H4 A else B H4)
    (q : ∀ D ys H', Same H H' → H D = none → H' D = some (.lst ys) → JdAll K H' ys (((List.range n).filter sel).map dk) → Q (.ref D) H') :
    tLc wi (gName i) tt te vs σ H Q := by
  refine comp_jd w sel dk hz hG h0 (fun k v D acc H1 H2 A B hk e1 hD hL hy hA hB => ?_) q
  obtain ⟨rfl, rfl⟩ := hy
  exact ⟨hw _, hel k D acc _ A B hk e1 hD hL hA hB⟩
theorem comp_rng {f : Nat → V} (w : Walk J n G (YFn f)) (dk : Nat → PyData) (hz : n < 100000)
    (hG : ∀ H', Same H H' → G H') (h0 : ∀ R : It → Hp → Prop, R J H → wi σ H R) (hw : ∀ x, wipe ((wipe σ vs).set i (some x)) vs = wipe σ vs)
    (hel : ∀ (k : Nat) (D : Addr) (acc : List V) (H1 : Hp) (A : VK), k < n → Same H H1 → H D = none → H1 D = some (.lst acc) →
      (∀ v H5, Same H1 H5 → (∀ u, Jd K (upd H5 D u) v (dk k)) → A v H5) → te ((wipe σ vs).set i (some (f k))) H1 A)
    (q : ∀ D ys H', Same H H' → H D = none → H' D = some (.lst ys) → JdAll K H' ys ((List.range n).map dk) → Q (.ref D) H') :
    tLc wi (gName i) tYes te vs σ H Q :=
  comp_rng_if w (fun _ => true) dk hz hG h0 hw (fun k D acc H1 A B hk e1 hD hL hA _ => yes_of (hel k D acc H1 A hk e1 hD hL (hA rfl)))
    fun D ys H' a b c d => q D ys H' a b c (filter_all (List.range n) ▸ d)
theorem jd_ints_inv : ∀ (ns : List Int) (ys : List V), JdAll K H ys (ns.map PyData.int) → ys = ns.map V.int
  | [], _, h => by cases h; rfl
  | n :: ns, _, h => by
    cases h with
    | cons a b => cases a; rw [jd_ints_inv ns _ b]; rfl
end
/-- the sum of products -/
def dotL (xs ys : List Int) : Int := (List.zipWith (· * ·) xs ys).sum
theorem zip_data (xs ys : List Int) : (List.range (min xs.length ys.length)).map (fun k => PyData.int (xs.getD k 0 * ys.getD k 0)) = (List.zipWith (· * ·) xs ys).map PyData.int := by
  apply List.ext_getElem
  · simp
  · intro k h1 h2
    simp only [List.length_map, List.length_range] at h1
    have ha : k < xs.length := by omega
    have hb : k < ys.length := by omega
    simp [ha, hb]
/-- integers of this many bits at most can be multiplied -/
def Wd (x : Int) : Prop := x.natAbs < 2 ^ 400000
theorem Wd.mul {x y : Int} (a : Wd x) (b : Wd y) : CMulW x y := wide_mul a b (by decide) (by decide) (by decide)
end My
namespace My
open PySem PySem.Spec PyProof.Rows L2 ZN
/-! ### matrices: a tuple (k) or a list of tuples of integers -/
def irow (r : List Int) : List V := r.map V.int
def MtAt (K : PySem.W.Frag) (H : Hp) (k : Bool) (v : V) (M : List (List Int)) : Prop := ∃ a ls, v = .ref a ∧ SqK k K H a ls ∧ RowsAt K H ls (M.map irow)
def trM (W : Nat) (M : List (List Int)) : List (List Int) := (List.range W).map fun i => M.map fun r => r.getD i 0
section
variable {K : PySem.W.Frag} {H H' : Hp} {k : Bool} {v : V} {M : List (List Int)}
theorem same_k {a : Addr} {xs : List V} (e : Same H H') (h : SqK k K H a xs) : SqK k K H' a xs := by
  cases k
  · exact same_l e h
  · exact same_t e h
theorem rows_mono {ls : List V} {rows : List (List V)} (e : Same H H') (h : RowsAt K H ls rows) : RowsAt K H' ls rows :=
  ⟨h.1, fun j r hj => let ⟨t, h1, h2⟩ := h.2 j r hj; ⟨t, h1, same_t e h2⟩⟩
theorem MtAt.mono (e : Same H H') (h : MtAt K H k v M) : MtAt K H' k v M :=
  let ⟨a, ls, h1, h2, h3⟩ := h; ⟨a, ls, h1, same_k e h2, rows_mono e h3⟩
theorem MtAt.sq (h : MtAt K H k v M) : ∃ a ls, v = .ref a ∧ SqK k K H a ls ∧ ls.length = M.length ∧ ∀ (j : Nat) (r : List Int), M[j]? = some r → ∃ t, ls[j]? = some (.ref t) ∧ SqT K H t (irow r) := by
  obtain ⟨a, ls, h1, h2, h3, h4⟩ := h
  exact ⟨a, ls, h1, h2, by simpa using h3, fun j r hj => h4 j (irow r) (by rw [List.getElem?_map, hj]; rfl)⟩
theorem irow_getD {r : List Int} {j : Nat} (h : j < r.length) : (irow r).getD j .non = .int (r.getD j 0) := by
  simp [irow, h]
theorem colOf_irow {W j : Nat} (hW : ∀ r ∈ M, r.length = W) (hj : j < W) : colOf (M.map irow) j = irow (M.map fun r => r.getD j 0) := by
  unfold colOf irow
  rw [List.map_map, List.map_map]
  refine List.map_congr_left fun r hr => ?_
  exact irow_getD (by rw [hW r hr]; exact hj)
theorem trM_get {W j : Nat} (hj : j < W) : (trM W M)[j]? = some (M.map fun r => r.getD j 0) := by
  simp [trM, hj]
/-- what a call of turned(x) asks and gives -/
theorem zip_read {te : TE} {σ : St} {Q : VK} {H0 : Hp} {W : Nat} (h0 : ∀ R : VK, R v H → te σ H0 R) (h : MtAt K H k v M) (hne : M ≠ []) (hW0 : 0 < W) (hW : ∀ r ∈ M, r.length = W)
    (q : ∀ v' H', Same H H' → MtAt K H' true v' (trM W M) → Q v' H') : tZip K te σ H0 Q := by
  obtain ⟨a, ls, rfl, hs, hr⟩ := h
  refine h0 _ ⟨a, ls, M.map irow, W, rfl, ?_, hr, by simpa using hne, hW0, fun r hm => ?_, fun p as H2 e hp h2 hl hc => ?_⟩
  · cases k
    · exact .inr hs
    · exact .inl hs
  · obtain ⟨r', hr', rfl⟩ := List.mem_map.mp hm
    simpa [irow] using hW r' hr'
  · refine q _ H2 e ⟨p, as.map V.ref, rfl, .inl (.inl h2), by simp [trM, hl], fun j r hj => ?_⟩
    rw [List.getElem?_map, Option.map_eq_some_iff] at hj
    obtain ⟨r0, h3, rfl⟩ := hj
    have hjW : j < W := by
      have := (List.getElem?_eq_some_iff.mp h3).1
      simpa [trM] using this
    rw [trM_get hjW] at h3
    cases h3
    have hja : j < as.length := by omega
    have ea : as[j]? = some as[j] := List.getElem?_eq_getElem hja
    refine ⟨as[j], by rw [List.getElem?_map, ea]; rfl, .inl (.inl ?_)⟩
    rw [(hc j _ ea).2, colOf_irow hW hjW]
end
end My
namespace My
open PySem PySem.Spec PyProof.Rows L2 ZN
section
variable {K : PySem.W.Frag} {H H' : Hp}
def rowD (r : List Int) : PyData := .tuple (r.map .int)
theorem jd_row {v : V} {r : List Int} (h : Jd K H v (rowD r)) : ∃ t, v = .ref t ∧ SqT K H t (irow r) := by
  cases h with
  | tup hs hj => exact ⟨_, rfl, by rw [jd_ints_inv _ _ hj] at hs; exact hs⟩
theorem row_jd {t : Addr} {r : List Int} (h : SqT K H t (irow r)) : Jd K H (.ref t) (rowD r) := .tup h (jd_ints r)
theorem jd_rows : ∀ {M : List (List Int)} {ls : List V}, JdAll K H ls (M.map rowD) → RowsAt K H ls (M.map irow)
  | [], _, h => by cases h; exact ⟨rfl, fun j r e => by simp at e⟩
  | r :: M, _, h => by
    cases h with
    | cons a b =>
      obtain ⟨t, rfl, ht⟩ := jd_row a
      obtain ⟨h1, h2⟩ := jd_rows b
      refine ⟨by simp only [List.map_cons, List.length_cons] at h1 ⊢; omega, fun j r' e => ?_⟩
      cases j with
      | zero => simp at e; subst e; exact ⟨t, rfl, ht⟩
      | succ j => exact (h2 j r' (by simpa using e)).imp fun t h => ⟨by simpa using h.1, h.2⟩
theorem sq_upd {t D : Addr} {u : HO} {xs : List V} {acc : List V} (n : H' t = none) (hD : H' D = some (.lst acc)) (h : H t = some (.tup xs)) : SqT K (upd H D u) t xs := by
  refine .inl (.inl ?_)
  rw [upd_ne (fun e => by subst e; rw [hD] at n; cases n)]
  exact h
end
def mulM (W : Nat) (A B : List (List Int)) : List (List Int) := A.map fun r => (trM W B).map fun c => dotL r c
end My
namespace My
open L2
theorem pe_eq {X : Cx} {e : PySem.Expr} {te te' : TE} (h : PE X e te') (q : te' = te) : PE X e te := q ▸ h
end My
namespace My
open PySem PySem.Spec PyProof.Rows L2 ZN
theorem range_getD {α β : Type} (f : α → β) (d : α) (l : List α) : (List.range l.length).map (fun m => f (l.getD m d)) = l.map f := by
  apply List.ext_getElem
  · simp
  · intro k h1 h2
    simp only [List.length_map, List.length_range] at h1
    simp [h1]
theorem range_getD' {α β : Type} (f : α → β) (d : α) (l : List α) (n : Nat) (h : n = l.length) : (List.range n).map (fun m => f (l.getD m d)) = l.map f := by
  subst h; exact range_getD f d l
/-- a new tuple made of a list of integers: told as data, the list at D aside -/
theorem row_new {K : PySem.W.Frag} {H1 : Hp} {D l : Addr} {u : HO} {acc : List V} {ns : List Int} (hD : H1 D = some (.lst acc)) (hl : H1 l = none) : Jd K (upd (upd H1 l (.tup (irow ns))) D u) (.ref l) (rowD ns) := by
  refine row_jd (.inl (.inl ?_))
  rw [upd_ne (fun e => by subst e; rw [hD] at hl; cases hl), upd_same]
end My
namespace My
theorem trM_all {Pz : Int → Prop} {W : Nat} {N : List (List Int)} (hW : ∀ r ∈ N, r.length = W) (h : ∀ r ∈ N, ∀ x ∈ r, Pz x) : ∀ c ∈ trM W N, ∀ x ∈ c, Pz x := by
  intro c hc x hx
  simp only [trM, List.mem_map, List.mem_range] at hc
  obtain ⟨i, hi, rfl⟩ := hc
  obtain ⟨r, hr, rfl⟩ := List.mem_map.mp hx
  have hir : i < r.length := by rw [hW r hr]; exact hi
  have e : r.getD i 0 = r[i] := by simp [hir]
  rw [e]
  exact h r hr _ (List.getElem_mem hir)
theorem trM_length {W : Nat} {N : List (List Int)} : (trM W N).length = W := by simp [trM]
theorem trM_row {W : Nat} {N : List (List Int)} : ∀ c ∈ trM W N, c.length = N.length := by
  intro c hc
  simp only [trM, List.mem_map, List.mem_range] at hc
  obtain ⟨i, hi, rfl⟩ := hc
  simp
theorem mulM_length {W : Nat} {A B : List (List Int)} : (mulM W A B).length = A.length := by simp [mulM]
theorem mulM_row {W : Nat} {A B : List (List Int)} : ∀ r ∈ mulM W A B, r.length = W := by
  intro r hr
  simp only [mulM, List.mem_map] at hr
  obtain ⟨r0, h0, rfl⟩ := hr
  simp [trM]
end My
namespace My
open PySem PySem.Spec PyProof.Rows L2 ZN
def RwAt (K : PySem.W.Frag) (H : Hp) (k : Bool) (v : V) (r : List Int) : Prop := ∃ a, v = .ref a ∧ SqK k K H a (irow r)
theorem RwAt.mono {K : PySem.W.Frag} {H H' : Hp} {k : Bool} {v : V} {r : List Int} (e : Same H H') (h : RwAt K H k v r) : RwAt K H' k v r := let ⟨a, h1, h2⟩ := h; ⟨a, h1, same_k e h2⟩
def imgL (M : List (List Int)) (r : List Int) : List Int := M.map fun l => dotL l r
def valL (M : List (List Int)) (r : List Int) : Int := dotL (imgL M r) r
def ledM (n : Nat) (T U : List (List Int)) : List (List Int) := mulM n (trM n U) (mulM n T U)
def movM (n : Nat) (T U : List (List Int)) : List (List Int) := mulM n U (mulM n T (trM n U))
/-- n rows of n integers -/
structure Sq (n : Nat) (M : List (List Int)) : Prop where
  len : M.length = n
  row : ∀ r ∈ M, r.length = n
  pos : 0 < n
  few : n < 100000
def AllW (M : List (List Int)) : Prop := ∀ r ∈ M, ∀ x ∈ r, Wd x
theorem Sq.ne {n : Nat} {M : List (List Int)} (s : Sq n M) : M ≠ [] := fun e => by
  have := s.len; have := s.pos; subst e; simp at *; omega
theorem Sq.lt {n : Nat} {M : List (List Int)} (s : Sq n M) : M.length < 100000 := s.len ▸ s.few
theorem Sq.rlt {n : Nat} {M : List (List Int)} (s : Sq n M) : ∀ r ∈ M, r.length < 100000 := fun r h => (s.row r h) ▸ s.few
theorem Sq.tr {n : Nat} {M : List (List Int)} (s : Sq n M) : Sq n (trM n M) := ⟨trM_length, fun r h => (trM_row r h).trans s.len, s.pos, s.few⟩
theorem Sq.mul {n : Nat} {A B : List (List Int)} (a : Sq n A) : Sq n (mulM n A B) := ⟨mulM_length.trans a.len, mulM_row, a.pos, a.few⟩
theorem AllW.tr {n : Nat} {M : List (List Int)} (s : Sq n M) (h : AllW M) : AllW (trM n M) := trM_all s.row h
end My

namespace M01
/-- the greatest divisor, number by number -/
def gcdL (ns : List Int) : Int := ns.foldl (fun f n => ((Nat.gcd f.natAbs n.natAbs : Nat) : Int)) 0
theorem gcdL_two (t b : Int) : gcdL [t, b] = ((Nat.gcd t.natAbs b.natAbs : Nat) : Int) := by
  show ((Nat.gcd (((Nat.gcd (0 : Int).natAbs t.natAbs : Nat) : Int)).natAbs b.natAbs : Nat) : Int) = _
  simp
theorem gcdL_snoc (ns : List Int) (n : Int) : gcdL (ns ++ [n]) = ((Nat.gcd (gcdL ns).natAbs n.natAbs : Nat) : Int) := by
  unfold gcdL
  rw [List.foldl_append]
  rfl
theorem gcdL_nonneg (ns : List Int) : 0 ≤ gcdL ns := by
  unfold gcdL
  suffices ∀ (l : List Int) (z : Int), 0 ≤ z → 0 ≤ l.foldl (fun f n => ((Nat.gcd f.natAbs n.natAbs : Nat) : Int)) z from this ns 0 (by omega)
  intro l
  induction l with
  | nil => intro z h; exact h
  | cons a l ih => intro z h; exact ih _ (Int.natCast_nonneg _)
def shareOf (t b : Int) : Int := if b < 0 then -(gcdL [t, b]) else gcdL [t, b]
def low (t b : Int) : Int × Int := (t.fdiv (shareOf t b), b.fdiv (shareOf t b))
theorem share_abs (t b : Int) : (shareOf t b).natAbs = Nat.gcd t.natAbs b.natAbs := by
  unfold shareOf
  rw [gcdL_two]
  split <;> omega
theorem gcd_pos {t b : Int} (h : b ≠ 0) : 0 < Nat.gcd t.natAbs b.natAbs := Nat.gcd_pos_of_pos_right _ (by omega)
theorem share_ne {t b : Int} (h : b ≠ 0) : shareOf t b ≠ 0 := by
  have h1 := share_abs t b
  have h2 := gcd_pos (t := t) h
  omega
theorem share_le {t b : Int} (h : b ≠ 0) : (shareOf t b).natAbs ≤ b.natAbs := by
  rw [share_abs]
  exact Nat.le_of_dvd (by omega) (Nat.gcd_dvd_right _ _)
theorem share_dvd_t (t b : Int) : shareOf t b ∣ t := by
  rw [← Int.natAbs_dvd_natAbs, share_abs]
  exact Nat.gcd_dvd_left _ _
theorem share_dvd_b (t b : Int) : shareOf t b ∣ b := by
  rw [← Int.natAbs_dvd_natAbs, share_abs]
  exact Nat.gcd_dvd_right _ _
theorem fdiv_mul {a s : Int} (h : s ∣ a) : a.fdiv s * s = a := Int.fdiv_mul_cancel h
theorem low_t (t b : Int) : (low t b).1 * shareOf t b = t := fdiv_mul (share_dvd_t t b)
theorem low_b (t b : Int) : (low t b).2 * shareOf t b = b := fdiv_mul (share_dvd_b t b)
theorem low_pos {t b : Int} (h : b ≠ 0) : 0 < (low t b).2 := by
  have e := low_b t b
  have g := gcd_pos (t := t) h
  have hs : (b < 0 → shareOf t b < 0) ∧ (0 < b → 0 < shareOf t b) := by
    unfold shareOf
    rw [gcdL_two]
    constructor
    · intro c
      rw [if_pos c]
      omega
    · intro c
      rw [if_neg (by omega)]
      omega
  rcases Int.lt_or_gt_of_ne h with c | c
  · have s := hs.1 c
    rcases Int.lt_or_le 0 (low t b).2 with k | k
    · exact k
    · have : 0 ≤ (low t b).2 * shareOf t b := Int.mul_nonneg_of_nonpos_of_nonpos k (by omega)
      omega
  · have s := hs.2 c
    rcases Int.lt_or_le 0 (low t b).2 with k | k
    · exact k
    · have : (low t b).2 * shareOf t b ≤ 0 := Int.mul_nonpos_of_nonpos_of_nonneg k (by omega)
      omega
theorem low_gcd {t b : Int} (h : b ≠ 0) : Nat.gcd (low t b).1.natAbs (low t b).2.natAbs = 1 := by
  have e1 := congrArg Int.natAbs (low_t t b)
  have e2 := congrArg Int.natAbs (low_b t b)
  rw [Int.natAbs_mul, share_abs] at e1 e2
  have g := gcd_pos (t := t) h
  have q : Nat.gcd ((low t b).1.natAbs * Nat.gcd t.natAbs b.natAbs) ((low t b).2.natAbs * Nat.gcd t.natAbs b.natAbs) = Nat.gcd t.natAbs b.natAbs := by
    rw [e1, e2]
  rw [Nat.gcd_mul_right] at q
  exact Nat.eq_of_mul_eq_mul_right g (by rw [q, Nat.one_mul])
theorem low_le_t (t b : Int) (h : b ≠ 0) : (low t b).1.natAbs ≤ t.natAbs := by
  have e1 := congrArg Int.natAbs (low_t t b)
  rw [Int.natAbs_mul, share_abs] at e1
  have g := gcd_pos (t := t) h
  rw [← e1]
  exact Nat.le_mul_of_pos_right _ g
theorem low_le_b (t b : Int) (h : b ≠ 0) : (low t b).2.natAbs ≤ b.natAbs := by
  have e1 := congrArg Int.natAbs (low_b t b)
  rw [Int.natAbs_mul, share_abs] at e1
  have g := gcd_pos (t := t) h
  rw [← e1]
  exact Nat.le_mul_of_pos_right _ g
theorem unique {p q p' q' : Int} (hq : 0 < q) (hq' : 0 < q') (g : Nat.gcd p.natAbs q.natAbs = 1) (g' : Nat.gcd p'.natAbs q'.natAbs = 1) (e : p * q' = p' * q) : p = p' ∧ q = q' := by
  have en := congrArg Int.natAbs e
  rw [Int.natAbs_mul, Int.natAbs_mul] at en
  have d1 : q.natAbs ∣ q'.natAbs := by
    have : q.natAbs ∣ p.natAbs * q'.natAbs := en ▸ Nat.dvd_mul_left _ _
    exact Nat.Coprime.dvd_of_dvd_mul_left (show Nat.Coprime q.natAbs p.natAbs from by unfold Nat.Coprime; rw [Nat.gcd_comm]; exact g) this
  have d2 : q'.natAbs ∣ q.natAbs := by
    have : q'.natAbs ∣ p'.natAbs * q.natAbs := en ▸ Nat.dvd_mul_left _ _
    exact Nat.Coprime.dvd_of_dvd_mul_left (show Nat.Coprime q'.natAbs p'.natAbs from by unfold Nat.Coprime; rw [Nat.gcd_comm]; exact g') this
  have eq : q = q' := by
    have := Nat.dvd_antisymm d1 d2
    omega
  subst eq
  exact ⟨Int.eq_of_mul_eq_mul_right (by omega) e, rfl⟩
theorem low_of {t b p q : Int} (hb : b ≠ 0) (hq : 0 < q) (g : Nat.gcd p.natAbs q.natAbs = 1) (e : t * q = p * b) : low t b = (p, q) := by
  have h1 := low_t t b
  have h2 := low_b t b
  have hs := share_ne (t := t) hb
  have x : (low t b).1 * q = p * (low t b).2 := by
    apply Int.eq_of_mul_eq_mul_right hs
    rw [Int.mul_right_comm, h1, e, Int.mul_assoc, h2]
  obtain ⟨a, c⟩ := unique (low_pos hb) hq (low_gcd hb) g x
  exact Prod.ext a c
theorem low_eq {t b t' b' : Int} (hb : b ≠ 0) (hb' : b' ≠ 0) (e : t * b' = t' * b) : low t b = low t' b' := by
  have h1 := low_t t' b'
  have h2 := low_b t' b'
  have hs := share_ne (t := t') hb'
  have x : t * (low t' b').2 = (low t' b').1 * b := by
    apply Int.eq_of_mul_eq_mul_right hs
    rw [Int.mul_assoc, h2, Int.mul_right_comm, h1, e]
  exact low_of hb (low_pos hb') (low_gcd hb') x
/-- what low makes, as a fraction -/
theorem low_cross (t b : Int) : t * (low t b).2 = (low t b).1 * b := by
  have h1 := low_t t b
  have h2 := low_b t b
  generalize (low t b).1 = p at *
  generalize (low t b).2 = q at *
  generalize shareOf t b = s at *
  subst h1
  rw [← h2]
  grind
end M01

namespace M01
def cmp (x y : Int) : Int := (if y < x then 1 else 0) - (if x < y then 1 else 0)
theorem back_plus {a b c d : Int} (hb : 0 < b) (hd : 0 < d) (g : Nat.gcd a.natAbs b.natAbs = 1) :
    low ((low (a * d - c * b) (b * d)).1 * d + c * (low (a * d - c * b) (b * d)).2) ((low (a * d - c * b) (b * d)).2 * d) = (a, b) := by
  have bd : b * d ≠ 0 := Int.ne_of_gt (Int.mul_pos hb hd)
  have k := low_cross (a * d - c * b) (b * d)
  have yp := low_pos (t := a * d - c * b) bd
  generalize (low (a * d - c * b) (b * d)).1 = x at *
  generalize (low (a * d - c * b) (b * d)).2 = y at *
  refine low_of (Int.ne_of_gt (Int.mul_pos yp hd)) hb g ?_
  grind
theorem back_minus {a b c d : Int} (hb : 0 < b) (hd : 0 < d) (g : Nat.gcd c.natAbs d.natAbs = 1) :
    low ((low (a * d + c * b) (b * d)).1 * b - a * (low (a * d + c * b) (b * d)).2) ((low (a * d + c * b) (b * d)).2 * b) = (c, d) := by
  have bd : b * d ≠ 0 := Int.ne_of_gt (Int.mul_pos hb hd)
  have k := low_cross (a * d + c * b) (b * d)
  have yp := low_pos (t := a * d + c * b) bd
  generalize (low (a * d + c * b) (b * d)).1 = x at *
  generalize (low (a * d + c * b) (b * d)).2 = y at *
  refine low_of (Int.ne_of_gt (Int.mul_pos yp hb)) hd g ?_
  grind
theorem cmp_eq {x y x' y' : Int} (h1 : (y < x) ↔ (y' < x')) (h2 : (x < y) ↔ (x' < y')) : cmp x y = cmp x' y' := by
  unfold cmp
  by_cases a : y < x <;> by_cases b : x < y <;> simp only [a, b, if_true, if_false, h1.mp, h2.mp] <;> (try rw [if_pos (h1.mp a)]) <;> (try rw [if_neg (fun z => a (h1.mpr z))]) <;> (try rw [if_pos (h2.mp b)]) <;> (try rw [if_neg (fun z => b (h2.mpr z))])
theorem sign_of {n p y e : Int} (hy : 0 < y) (he : 0 < e) (k : n * y = p * e) : (0 < p ↔ 0 < n) ∧ (p < 0 ↔ n < 0) := by
  constructor
  · constructor
    · intro h
      have h1 : 0 < n * y := by rw [k]; exact Int.mul_pos h he
      rcases Int.lt_or_le 0 n with z | z
      · exact z
      · have := Int.mul_nonpos_of_nonpos_of_nonneg z (Int.le_of_lt hy)
        omega
    · intro h
      have h1 : 0 < p * e := by rw [← k]; exact Int.mul_pos h hy
      rcases Int.lt_or_le 0 p with z | z
      · exact z
      · have := Int.mul_nonpos_of_nonpos_of_nonneg z (Int.le_of_lt he)
        omega
  · constructor
    · intro h
      have h1 : n * y < 0 := by rw [k]; exact Int.mul_neg_of_neg_of_pos h he
      rcases Int.lt_or_le n 0 with z | z
      · exact z
      · have := Int.mul_nonneg z (Int.le_of_lt hy)
        omega
    · intro h
      have h1 : p * e < 0 := by rw [← k]; exact Int.mul_neg_of_neg_of_pos h hy
      rcases Int.lt_or_le p 0 with z | z
      · exact z
      · have := Int.mul_nonneg z (Int.le_of_lt he)
        omega
theorem cmp_low {a b c d : Int} (hb : 0 < b) (hd : 0 < d) :
    cmp ((low (a * d - c * b) (b * d)).1 * 1) (0 * (low (a * d - c * b) (b * d)).2) = cmp (a * d) (c * b) := by
  have bd := Int.mul_pos hb hd
  have k := low_cross (a * d - c * b) (b * d)
  have yp := low_pos (t := a * d - c * b) (Int.ne_of_gt bd)
  have s := sign_of yp bd k
  rw [Int.mul_one, Int.zero_mul]
  refine cmp_eq ?_ ?_
  · rw [s.1]
    omega
  · rw [s.2]
    omega
theorem cmp_cases (x y : Int) : cmp x y = if x = y then 0 else if y < x then 1 else -1 := by
  unfold cmp
  split <;> split <;> split <;> omega
theorem cmp_swap (x y : Int) : cmp y x = -(cmp x y) := by
  unfold cmp
  omega
theorem cmp_small (x y : Int) : cmp x y = -1 ∨ cmp x y = 0 ∨ cmp x y = 1 := by
  unfold cmp
  split <;> split <;> omega
theorem gcdL_zeros (ns : List Int) (k : Nat) : gcdL (ns ++ List.replicate k 0) = gcdL ns := by
  induction k with
  | zero => simp
  | succ k ih =>
    rw [List.replicate_succ', ← List.append_assoc, gcdL_snoc, ih]
    have := gcdL_nonneg ns
    simp
    omega
theorem low_zero {b : Int} (h : b ≠ 0) : low 0 b = (0, 1) := low_of h (by decide) (by decide) (by simp)
end M01

set_option maxHeartbeats 2000000
namespace K01
open PySem PySem.Spec PyProof.Rows L2 My
abbrev St := L2.St
def top (i : Nat) : Stmt := PySem.Challenge.pw_ballgrids_k01_whole_numbers.main.body.getD i (.Pass ⟨0, 0, 0, 0⟩)
abbrev s_is_whole : Stmt := top 8
abbrev names_is_whole : List Str := ["value"]
theorem sc_is_whole : FnScope names_is_whole ["value"] (defScope s_is_whole) := ⟨rfl, rfl, rfl, by decide +kernel, rfl, by decide +kernel, by decide +kernel⟩
abbrev s_is_integer : Stmt := top 9
abbrev names_is_integer : List Str := ["value"]
theorem sc_is_integer : FnScope names_is_integer ["value"] (defScope s_is_integer) := ⟨rfl, rfl, rfl, by decide +kernel, rfl, by decide +kernel, by decide +kernel⟩
abbrev s_are_integers : Stmt := top 10
abbrev names_are_integers : List Str := ["value", "least", "most", "number"]
theorem sc_are_integers : FnScope names_are_integers ["value", "least", "most"] (defScope s_are_integers) := ⟨rfl, rfl, rfl, by decide +kernel, rfl, by decide +kernel, by decide +kernel⟩
abbrev s_is_ratio : Stmt := top 11
abbrev names_is_ratio : List Str := ["value"]
theorem sc_is_ratio : FnScope names_is_ratio ["value"] (defScope s_is_ratio) := ⟨rfl, rfl, rfl, by decide +kernel, rfl, by decide +kernel, by decide +kernel⟩
abbrev s_divisor_of : Stmt := top 12
abbrev names_divisor_of : List Str := ["numbers", "found", "number"]
theorem sc_divisor_of : FnScope names_divisor_of ["numbers"] (defScope s_divisor_of) := ⟨rfl, rfl, rfl, by decide +kernel, rfl, by decide +kernel, by decide +kernel⟩
abbrev s_ratio_of : Stmt := top 13
abbrev names_ratio_of : List Str := ["top", "bottom", "divisor"]
theorem sc_ratio_of : FnScope names_ratio_of ["top", "bottom"] (defScope s_ratio_of) := ⟨rfl, rfl, rfl, by decide +kernel, rfl, by decide +kernel, by decide +kernel⟩
abbrev s_common_divisor : Stmt := top 14
abbrev names_common_divisor : List Str := ["numbers"]
theorem sc_common_divisor : FnScope names_common_divisor ["numbers"] (defScope s_common_divisor) := ⟨rfl, rfl, rfl, by decide +kernel, rfl, by decide +kernel, by decide +kernel⟩
abbrev s_lowest : Stmt := top 15
abbrev names_lowest : List Str := ["top", "bottom"]
theorem sc_lowest : FnScope names_lowest ["top", "bottom"] (defScope s_lowest) := ⟨rfl, rfl, rfl, by decide +kernel, rfl, by decide +kernel, by decide +kernel⟩
abbrev s_need_ratios : Stmt := top 16
abbrev names_need_ratios : List Str := ["one", "other", "value"]
theorem sc_need_ratios : FnScope names_need_ratios ["one", "other"] (defScope s_need_ratios) := ⟨rfl, rfl, rfl, by decide +kernel, rfl, by decide +kernel, by decide +kernel⟩
abbrev s_compare : Stmt := top 17
abbrev names_compare : List Str := ["one", "other", "left", "right"]
theorem sc_compare : FnScope names_compare ["one", "other"] (defScope s_compare) := ⟨rfl, rfl, rfl, by decide +kernel, rfl, by decide +kernel, by decide +kernel⟩
abbrev s_plus : Stmt := top 18
abbrev names_plus : List Str := ["one", "other"]
theorem sc_plus : FnScope names_plus ["one", "other"] (defScope s_plus) := ⟨rfl, rfl, rfl, by decide +kernel, rfl, by decide +kernel, by decide +kernel⟩
abbrev s_minus : Stmt := top 19
abbrev names_minus : List Str := ["one", "other"]
theorem sc_minus : FnScope names_minus ["one", "other"] (defScope s_minus) := ⟨rfl, rfl, rfl, by decide +kernel, rfl, by decide +kernel, by decide +kernel⟩
abbrev s_times : Stmt := top 20
abbrev names_times : List Str := ["one", "other"]
theorem sc_times : FnScope names_times ["one", "other"] (defScope s_times) := ⟨rfl, rfl, rfl, by decide +kernel, rfl, by decide +kernel, by decide +kernel⟩
abbrev s__law_bag : Stmt := top 22
abbrev names__law_bag : List Str := ["_law_script", "_law_spot", "_law_cell", "_law_great", "_law_mixed"]
theorem sc__law_bag : FnScope names__law_bag ["_law_script", "_law_spot"] (defScope s__law_bag) := ⟨rfl, rfl, rfl, by decide +kernel, rfl, by decide +kernel, by decide +kernel⟩
abbrev s__law_grab : Stmt := top 23
abbrev names__law_grab : List Str := ["_law_bag_here", "_law_total", "_law_found", "_law_one", "_law_two"]
theorem sc__law_grab : FnScope names__law_grab ["_law_bag_here", "_law_total"] (defScope s__law_grab) := ⟨rfl, rfl, rfl, by decide +kernel, rfl, by decide +kernel, by decide +kernel⟩
abbrev s__law_one_of : Stmt := top 24
abbrev names__law_one_of : List Str := ["_law_bag_here", "_law_items"]
theorem sc__law_one_of : FnScope names__law_one_of ["_law_bag_here", "_law_items"] (defScope s__law_one_of) := ⟨rfl, rfl, rfl, by decide +kernel, rfl, by decide +kernel, by decide +kernel⟩
abbrev s__law_divisor : Stmt := top 25
abbrev names__law_divisor : List Str := ["_law_numbers", "_law_found", "_law_number", "_law_other"]
theorem sc__law_divisor : FnScope names__law_divisor ["_law_numbers"] (defScope s__law_divisor) := ⟨rfl, rfl, rfl, by decide +kernel, rfl, by decide +kernel, by decide +kernel⟩
abbrev s__law_whole : Stmt := top 26
abbrev names__law_whole : List Str := ["_law_bag_here", "_law_high"]
theorem sc__law_whole : FnScope names__law_whole ["_law_bag_here", "_law_high"] (defScope s__law_whole) := ⟨rfl, rfl, rfl, by decide +kernel, rfl, by decide +kernel, by decide +kernel⟩
abbrev s__law_is_short : Stmt := top 27
abbrev names__law_is_short : List Str := ["_law_value"]
theorem sc__law_is_short : FnScope names__law_is_short ["_law_value"] (defScope s__law_is_short) := ⟨rfl, rfl, rfl, by decide +kernel, rfl, by decide +kernel, by decide +kernel⟩
abbrev s__law_is_ratio : Stmt := top 28
abbrev names__law_is_ratio : List Str := ["_law_value"]
theorem sc__law_is_ratio : FnScope names__law_is_ratio ["_law_value"] (defScope s__law_is_ratio) := ⟨rfl, rfl, rfl, by decide +kernel, rfl, by decide +kernel, by decide +kernel⟩
abbrev s__law_ratio : Stmt := top 29
abbrev names__law_ratio : List Str := ["_law_bag_here", "_law_high", "_law_top", "_law_bottom", "_law_share"]
theorem sc__law_ratio : FnScope names__law_ratio ["_law_bag_here"] (defScope s__law_ratio) := ⟨rfl, rfl, rfl, by decide +kernel, rfl, by decide +kernel, by decide +kernel⟩
abbrev s__law_lowered_pair : Stmt := top 30
abbrev names__law_lowered_pair : List Str := ["_law_top", "_law_bottom", "_law_share"]
theorem sc__law_lowered_pair : FnScope names__law_lowered_pair ["_law_top", "_law_bottom"] (defScope s__law_lowered_pair) := ⟨rfl, rfl, rfl, by decide +kernel, rfl, by decide +kernel, by decide +kernel⟩
abbrev s__law_judged : Stmt := top 31
abbrev names__law_judged : List Str := ["_law_bag_here", "_law_top", "_law_bottom", "_law_values", "_law_value"]
theorem sc__law_judged : FnScope names__law_judged ["_law_bag_here"] (defScope s__law_judged) := ⟨rfl, rfl, rfl, by decide +kernel, rfl, by decide +kernel, by decide +kernel⟩
abbrev s__law_reckoned : Stmt := top 32
abbrev names__law_reckoned : List Str := ["_law_bag_here", "_law_one", "_law_other", "_law_a", "_law_b", "_law_c", "_law_d", "_law_due", "_law_told"]
theorem sc__law_reckoned : FnScope names__law_reckoned ["_law_bag_here"] (defScope s__law_reckoned) := ⟨rfl, rfl, rfl, by decide +kernel, rfl, by decide +kernel, by decide +kernel⟩
abbrev s__law_lowered : Stmt := top 33
abbrev names__law_lowered : List Str := ["_law_bag_here", "_law_high", "_law_share", "_law_numbers", "_law_turn", "_law_top", "_law_bottom"]
theorem sc__law_lowered : FnScope names__law_lowered ["_law_bag_here"] (defScope s__law_lowered) := ⟨rfl, rfl, rfl, by decide +kernel, rfl, by decide +kernel, by decide +kernel⟩
abbrev s_law : Stmt := top 34
abbrev names_law : List Str := ["_law_script", "_law_spot", "_law_bag_here", "_law_turn", "_law_told"]
theorem sc_law : FnScope names_law ["_law_script"] (defScope s_law) := ⟨rfl, rfl, rfl, by decide +kernel, rfl, by decide +kernel, by decide +kernel⟩
structure Adr where
  a_is_whole : Addr
  d_is_whole : FuncData
  a_is_integer : Addr
  d_is_integer : FuncData
  a_are_integers : Addr
  d_are_integers : FuncData
  a_is_ratio : Addr
  d_is_ratio : FuncData
  a_divisor_of : Addr
  d_divisor_of : FuncData
  a_ratio_of : Addr
  d_ratio_of : FuncData
  a_common_divisor : Addr
  d_common_divisor : FuncData
  a_lowest : Addr
  d_lowest : FuncData
  a_need_ratios : Addr
  d_need_ratios : FuncData
  a_compare : Addr
  d_compare : FuncData
  a_plus : Addr
  d_plus : FuncData
  a_minus : Addr
  d_minus : FuncData
  a_times : Addr
  d_times : FuncData
  a__law_bag : Addr
  d__law_bag : FuncData
  a__law_grab : Addr
  d__law_grab : FuncData
  a__law_one_of : Addr
  d__law_one_of : FuncData
  a__law_divisor : Addr
  d__law_divisor : FuncData
  a__law_whole : Addr
  d__law_whole : FuncData
  a__law_is_short : Addr
  d__law_is_short : FuncData
  a__law_is_ratio : Addr
  d__law_is_ratio : FuncData
  a__law_ratio : Addr
  d__law_ratio : FuncData
  a__law_lowered_pair : Addr
  d__law_lowered_pair : FuncData
  a__law_judged : Addr
  d__law_judged : FuncData
  a__law_reckoned : Addr
  d__law_reckoned : FuncData
  a__law_lowered : Addr
  d__law_lowered : FuncData
  a_law : Addr
  d_law : FuncData
  u_MAX_NUMBERS : Value
  u_TOO_LONG : Value
structure Txt (K : PySem.W.Frag) (mg : Str → Option Value) (A : Adr) : Prop where
  g_is_whole : mg "is_whole" = some (.ref A.a_is_whole)
  f_is_whole : Fun K "is_whole" "is_whole" s_is_whole A.a_is_whole A.d_is_whole
  g_is_integer : mg "is_integer" = some (.ref A.a_is_integer)
  f_is_integer : Fun K "is_integer" "is_integer" s_is_integer A.a_is_integer A.d_is_integer
  g_are_integers : mg "are_integers" = some (.ref A.a_are_integers)
  f_are_integers : Fun K "are_integers" "are_integers" s_are_integers A.a_are_integers A.d_are_integers
  g_is_ratio : mg "is_ratio" = some (.ref A.a_is_ratio)
  f_is_ratio : Fun K "is_ratio" "is_ratio" s_is_ratio A.a_is_ratio A.d_is_ratio
  g_divisor_of : mg "divisor_of" = some (.ref A.a_divisor_of)
  f_divisor_of : Fun K "divisor_of" "divisor_of" s_divisor_of A.a_divisor_of A.d_divisor_of
  g_ratio_of : mg "ratio_of" = some (.ref A.a_ratio_of)
  f_ratio_of : Fun K "ratio_of" "ratio_of" s_ratio_of A.a_ratio_of A.d_ratio_of
  g_common_divisor : mg "common_divisor" = some (.ref A.a_common_divisor)
  f_common_divisor : Fun K "common_divisor" "common_divisor" s_common_divisor A.a_common_divisor A.d_common_divisor
  g_lowest : mg "lowest" = some (.ref A.a_lowest)
  f_lowest : Fun K "lowest" "lowest" s_lowest A.a_lowest A.d_lowest
  g_need_ratios : mg "need_ratios" = some (.ref A.a_need_ratios)
  f_need_ratios : Fun K "need_ratios" "need_ratios" s_need_ratios A.a_need_ratios A.d_need_ratios
  g_compare : mg "compare" = some (.ref A.a_compare)
  f_compare : Fun K "compare" "compare" s_compare A.a_compare A.d_compare
  g_plus : mg "plus" = some (.ref A.a_plus)
  f_plus : Fun K "plus" "plus" s_plus A.a_plus A.d_plus
  g_minus : mg "minus" = some (.ref A.a_minus)
  f_minus : Fun K "minus" "minus" s_minus A.a_minus A.d_minus
  g_times : mg "times" = some (.ref A.a_times)
  f_times : Fun K "times" "times" s_times A.a_times A.d_times
  g__law_bag : mg "_law_bag" = some (.ref A.a__law_bag)
  f__law_bag : Fun K "_law_bag" "_law_bag" s__law_bag A.a__law_bag A.d__law_bag
  g__law_grab : mg "_law_grab" = some (.ref A.a__law_grab)
  f__law_grab : Fun K "_law_grab" "_law_grab" s__law_grab A.a__law_grab A.d__law_grab
  g__law_one_of : mg "_law_one_of" = some (.ref A.a__law_one_of)
  f__law_one_of : Fun K "_law_one_of" "_law_one_of" s__law_one_of A.a__law_one_of A.d__law_one_of
  g__law_divisor : mg "_law_divisor" = some (.ref A.a__law_divisor)
  f__law_divisor : Fun K "_law_divisor" "_law_divisor" s__law_divisor A.a__law_divisor A.d__law_divisor
  g__law_whole : mg "_law_whole" = some (.ref A.a__law_whole)
  f__law_whole : Fun K "_law_whole" "_law_whole" s__law_whole A.a__law_whole A.d__law_whole
  g__law_is_short : mg "_law_is_short" = some (.ref A.a__law_is_short)
  f__law_is_short : Fun K "_law_is_short" "_law_is_short" s__law_is_short A.a__law_is_short A.d__law_is_short
  g__law_is_ratio : mg "_law_is_ratio" = some (.ref A.a__law_is_ratio)
  f__law_is_ratio : Fun K "_law_is_ratio" "_law_is_ratio" s__law_is_ratio A.a__law_is_ratio A.d__law_is_ratio
  g__law_ratio : mg "_law_ratio" = some (.ref A.a__law_ratio)
  f__law_ratio : Fun K "_law_ratio" "_law_ratio" s__law_ratio A.a__law_ratio A.d__law_ratio
  g__law_lowered_pair : mg "_law_lowered_pair" = some (.ref A.a__law_lowered_pair)
  f__law_lowered_pair : Fun K "_law_lowered_pair" "_law_lowered_pair" s__law_lowered_pair A.a__law_lowered_pair A.d__law_lowered_pair
  g__law_judged : mg "_law_judged" = some (.ref A.a__law_judged)
  f__law_judged : Fun K "_law_judged" "_law_judged" s__law_judged A.a__law_judged A.d__law_judged
  g__law_reckoned : mg "_law_reckoned" = some (.ref A.a__law_reckoned)
  f__law_reckoned : Fun K "_law_reckoned" "_law_reckoned" s__law_reckoned A.a__law_reckoned A.d__law_reckoned
  g__law_lowered : mg "_law_lowered" = some (.ref A.a__law_lowered)
  f__law_lowered : Fun K "_law_lowered" "_law_lowered" s__law_lowered A.a__law_lowered A.d__law_lowered
  g_law : mg "law" = some (.ref A.a_law)
  f_law : Fun K "law" "law" s_law A.a_law A.d_law
  n_abs : mg "abs" = none
  n_all : mg "all" = none
  n_bool : mg "bool" = none
  n_int : mg "int" = none
  n_isinstance : mg "isinstance" = none
  n_len : mg "len" = none
  n_max : mg "max" = none
  n_min : mg "min" = none
  n_range : mg "range" = none
  n_repr : mg "repr" = none
  n_sum : mg "sum" = none
  n_tuple : mg "tuple" = none
  c_MAX_NUMBERS : mg "MAX_NUMBERS" = some A.u_MAX_NUMBERS
  v_MAX_NUMBERS : RelV (.int 100) A.u_MAX_NUMBERS
  c_TOO_LONG : mg "TOO_LONG" = some A.u_TOO_LONG
  v_TOO_LONG : RelV (.int (10 ^ 60)) A.u_TOO_LONG
  g_gcd : mg "gcd" = some (.builtin "math.gcd")
section
variable {K : PySem.W.Frag} {mg : Str → Option Value} {A : Adr}
theorem b_is_whole (T : Txt K mg A) : Binds K A.d_is_whole ["value"] [] := T.f_is_whole.binds fun _ _ _ _ _ _ us hl => match us, hl with | [_], _ => rfl
theorem b_is_integer (T : Txt K mg A) : Binds K A.d_is_integer ["value"] [] := T.f_is_integer.binds fun _ _ _ _ _ _ us hl => match us, hl with | [_], _ => rfl
theorem b_are_integers (T : Txt K mg A) : Binds K A.d_are_integers ["value", "least", "most"] [] := T.f_are_integers.binds fun _ _ _ _ _ _ us hl => match us, hl with | [_, _, _], _ => rfl
theorem b_is_ratio (T : Txt K mg A) : Binds K A.d_is_ratio ["value"] [] := T.f_is_ratio.binds fun _ _ _ _ _ _ us hl => match us, hl with | [_], _ => rfl
theorem b_divisor_of (T : Txt K mg A) : Binds K A.d_divisor_of ["numbers"] [] := T.f_divisor_of.binds fun _ _ _ _ _ _ us hl => match us, hl with | [_], _ => rfl
theorem b_ratio_of (T : Txt K mg A) : Binds K A.d_ratio_of ["top", "bottom"] [] := T.f_ratio_of.binds fun _ _ _ _ _ _ us hl => match us, hl with | [_, _], _ => rfl
theorem b_common_divisor (T : Txt K mg A) : Binds K A.d_common_divisor ["numbers"] [] := T.f_common_divisor.binds fun _ _ _ _ _ _ us hl => match us, hl with | [_], _ => rfl
theorem b_lowest (T : Txt K mg A) : Binds K A.d_lowest ["top", "bottom"] [] := T.f_lowest.binds fun _ _ _ _ _ _ us hl => match us, hl with | [_, _], _ => rfl
theorem b_need_ratios (T : Txt K mg A) : Binds K A.d_need_ratios ["one", "other"] [] := T.f_need_ratios.binds fun _ _ _ _ _ _ us hl => match us, hl with | [_, _], _ => rfl
theorem b_compare (T : Txt K mg A) : Binds K A.d_compare ["one", "other"] [] := T.f_compare.binds fun _ _ _ _ _ _ us hl => match us, hl with | [_, _], _ => rfl
theorem b_plus (T : Txt K mg A) : Binds K A.d_plus ["one", "other"] [] := T.f_plus.binds fun _ _ _ _ _ _ us hl => match us, hl with | [_, _], _ => rfl
theorem b_minus (T : Txt K mg A) : Binds K A.d_minus ["one", "other"] [] := T.f_minus.binds fun _ _ _ _ _ _ us hl => match us, hl with | [_, _], _ => rfl
theorem b_times (T : Txt K mg A) : Binds K A.d_times ["one", "other"] [] := T.f_times.binds fun _ _ _ _ _ _ us hl => match us, hl with | [_, _], _ => rfl
theorem b__law_bag (T : Txt K mg A) : Binds K A.d__law_bag ["_law_script", "_law_spot"] [] := T.f__law_bag.binds fun _ _ _ _ _ _ us hl => match us, hl with | [_, _], _ => rfl
theorem b__law_grab (T : Txt K mg A) : Binds K A.d__law_grab ["_law_bag_here", "_law_total"] [] := T.f__law_grab.binds fun _ _ _ _ _ _ us hl => match us, hl with | [_, _], _ => rfl
theorem b__law_one_of (T : Txt K mg A) : Binds K A.d__law_one_of ["_law_bag_here", "_law_items"] [] := T.f__law_one_of.binds fun _ _ _ _ _ _ us hl => match us, hl with | [_, _], _ => rfl
theorem b__law_divisor (T : Txt K mg A) : Binds K A.d__law_divisor ["_law_numbers"] [] := T.f__law_divisor.binds fun _ _ _ _ _ _ us hl => match us, hl with | [_], _ => rfl
theorem b__law_whole (T : Txt K mg A) : Binds K A.d__law_whole ["_law_bag_here", "_law_high"] [] := T.f__law_whole.binds fun _ _ _ _ _ _ us hl => match us, hl with | [_, _], _ => rfl
theorem b__law_is_short (T : Txt K mg A) : Binds K A.d__law_is_short ["_law_value"] [] := T.f__law_is_short.binds fun _ _ _ _ _ _ us hl => match us, hl with | [_], _ => rfl
theorem b__law_is_ratio (T : Txt K mg A) : Binds K A.d__law_is_ratio ["_law_value"] [] := T.f__law_is_ratio.binds fun _ _ _ _ _ _ us hl => match us, hl with | [_], _ => rfl
theorem b__law_ratio (T : Txt K mg A) : Binds K A.d__law_ratio ["_law_bag_here"] [] := T.f__law_ratio.binds fun _ _ _ _ _ _ us hl => match us, hl with | [_], _ => rfl
theorem b__law_lowered_pair (T : Txt K mg A) : Binds K A.d__law_lowered_pair ["_law_top", "_law_bottom"] [] := T.f__law_lowered_pair.binds fun _ _ _ _ _ _ us hl => match us, hl with | [_, _], _ => rfl
theorem b__law_judged (T : Txt K mg A) : Binds K A.d__law_judged ["_law_bag_here"] [] := T.f__law_judged.binds fun _ _ _ _ _ _ us hl => match us, hl with | [_], _ => rfl
theorem b__law_reckoned (T : Txt K mg A) : Binds K A.d__law_reckoned ["_law_bag_here"] [] := T.f__law_reckoned.binds fun _ _ _ _ _ _ us hl => match us, hl with | [_], _ => rfl
theorem b__law_lowered (T : Txt K mg A) : Binds K A.d__law_lowered ["_law_bag_here"] [] := T.f__law_lowered.binds fun _ _ _ _ _ _ us hl => match us, hl with | [_], _ => rfl
theorem b_law (T : Txt K mg A) : Binds K A.d_law ["_law_script"] [] := T.f_law.binds fun _ _ _ _ _ _ us hl => match us, hl with | [_], _ => rfl
end
end K01

set_option maxHeartbeats 2000000
namespace K01
open PySem PySem.Spec PyProof.Rows L2 My
section
variable {P : Program} {w : World} {K : PySem.W.Frag} {mg : Str → Option Value} {base : Heap} {A : Adr}
def whole : PyData → Bool
  | .int _ => true
  | _ => false
def isI : PyData → Bool
  | .int i => decide (-(10 ^ 60) < i) && decide (i < 10 ^ 60)
  | _ => false
def tupD : PyData → Bool
  | .tuple _ => true
  | _ => false
theorem kit_int (d : PyData) : kitB (tyD d) "int" = some (match d with | .int _ => true | .bool _ => true | _ => false) := by
  cases d <;> simp only [tyD, tupD] <;> decide +kernel
theorem kit_bool (d : PyData) : kitB (tyD d) "bool" = some (match d with | .bool _ => true | _ => false) := by
  cases d <;> simp only [tyD, tupD] <;> decide +kernel
theorem kit_tuple (d : PyData) : kitB (tyD d) "tuple" = some (tupD d) := by
  cases d <;> simp only [tyD, tupD] <;> decide +kernel
def sp_is_whole (K : PySem.W.Frag) : Sp := fun vs H Q _ => ∃ v d, vs = [v] ∧ Jd K H v d ∧ Q (.bl (whole d)) H
theorem ok_is_whole (T : Txt K mg A) : FnOk P w K mg base CX0 1 A.a_is_whole A.d_is_whole ["value"] (sp_is_whole K) := by
  refine T.f_is_whole.ok sc_is_whole (fun vs H Q E h => ?_) (fun cdv B out t H vs Q E hr h => ?_)
  · obtain ⟨v, d, rfl, _⟩ := h
    rfl
  · obtain ⟨v, d, rfl, j, q⟩ := h
    refine ⟨_, (pss_one (ps_ret (pe_and (pe_callB call_isi (by rfl) T.n_isinstance (by decide +kernel) (pa_cons (pv 0) (pa_cons (pe_bltn (v := .ty "int") (by rfl) T.n_int (by decide +kernel) rfl) pa_nil))) (pe_one (pe_not (pe_callB call_isi (by rfl) T.n_isinstance (by decide +kernel) (pa_cons (pv 0) (pa_cons (pe_bltn (v := .ty "bool") (by rfl) T.n_bool (by decide +kernel) rfl) pa_nil)))))))), ?_⟩
    refine ⟨_, rfl, ⟨_, _, _, _, _, rfl, .ty "int", j.ty, kit_ty (kit_int d), ⟨_, rfl, ?_⟩⟩⟩
    have q' : Q (.bl (whole d)) H := q
    cases d
    case int i => exact iteT ⟨_, rfl, ⟨_, _, _, _, _, rfl, .ty "bool", j.ty, kit_ty (kit_bool _), ⟨_, rfl, q'⟩⟩⟩
    case bool b => exact iteT ⟨_, rfl, ⟨_, _, _, _, _, rfl, .ty "bool", j.ty, kit_ty (kit_bool _), ⟨_, rfl, q'⟩⟩⟩
    all_goals exact iteF q'
def sp_is_integer (K : PySem.W.Frag) : Sp := fun vs H Q _ => ∃ v d, vs = [v] ∧ Jd K H v d ∧ Q (.bl (isI d)) H
theorem ok_is_integer (T : Txt K mg A) : FnOk P w K mg base CX0 2 A.a_is_integer A.d_is_integer ["value"] (sp_is_integer K) := by
  have G_is_whole : FnOk P w K mg base CX0 1 A.a_is_whole A.d_is_whole ["value"] (sp_is_whole K) := ok_is_whole T
  refine T.f_is_integer.ok sc_is_integer (fun vs H Q E h => ?_) (fun cdv B out t H vs Q E hr h => ?_)
  · obtain ⟨v, d, rfl, _⟩ := h
    rfl
  · obtain ⟨v, d, rfl, j, q⟩ := h
    refine ⟨_, (pss_one (ps_ret (pe_and (pe_call G_is_whole (hr.mono (by decide)) (by rfl) T.g_is_whole T.f_is_whole.kp (b_is_whole T) .nil pass0 (pa_cons (pv 0) pa_nil)) (pe_one (pe_chain op_lt op_lt (pe_un un_neg (pe_glob rfl T.c_TOO_LONG T.v_TOO_LONG)) (pv 0) (pe_glob rfl T.c_TOO_LONG T.v_TOO_LONG)))))), ?_⟩
    refine ⟨_, rfl, v, d, rfl, j, _, rfl, ?_⟩
    have q' : Q (.bl (isI d)) H := q
    cases d
    case int i =>
      cases j
      refine iteT ⟨_, rfl, _, rfl, _, _, rfl, rfl, _, rfl, ?_⟩
      by_cases c : -(10 ^ 60) < i
      · refine if_pos_of (decide_eq_true c) ⟨_, _, rfl, rfl, ?_⟩
        have e : isI (.int i) = decide (i < 10 ^ 60) := by
          show (decide _ && decide _) = _
          rw [decide_eq_true c, Bool.true_and]
        rw [e] at q'
        exact q'
      · refine if_neg_of (decide_eq_false c) ?_
        have e : isI (.int i) = false := by
          show (decide _ && decide _) = _
          rw [decide_eq_false c, Bool.false_and]
        rw [e] at q'
        exact q'
    all_goals exact iteF q'
end
end K01

set_option maxHeartbeats 2000000
namespace K01
open PySem PySem.Spec PyProof.Rows L2 My
section
variable {P : Program} {w : World} {K : PySem.W.Frag} {mg : Str → Option Value} {base : Heap} {A : Adr}
def intsD (lo hi : Int) : PyData → Bool
  | .tuple ds => (decide (lo ≤ (ds.length : Int)) && decide ((ds.length : Int) ≤ hi)) && ds.all isI
  | _ => false
def sp_are_integers (K : PySem.W.Frag) : Sp := fun vs H Q _ => ∃ v d lo hi, vs = [v, .int lo, .int hi] ∧ Jd K H v d ∧ hi < 100000 ∧ ∀ H', Same H H' → Q (.bl (intsD lo hi d)) H'
theorem ok_are_integers (T : Txt K mg A) : FnOk P w K mg base CX0 3 A.a_are_integers A.d_are_integers ["value", "least", "most"] (sp_are_integers K) := by
  refine T.f_are_integers.ok sc_are_integers (fun vs H Q E h => ?_) (fun cdv B out t H vs Q E hr h => ?_)
  · obtain ⟨v, d, lo, hi, rfl, _⟩ := h
    rfl
  · obtain ⟨v, d, lo, hi, rfl, j, hz, q⟩ := h
    refine ⟨_, (pss_cons (ps_if (PW.pt (pw_or (pt_not (pt_val (pe_callB call_isi (by rfl) T.n_isinstance (by decide +kernel) (pa_cons (pv 0) (pa_cons (pe_bltn (v := .ty "tuple") (by rfl) T.n_tuple (by decide +kernel) rfl) pa_nil))))) (pw_or1 (pt_not (pt_chain op_le op_le (pv 1) (pe_callB call_len_seq (by rfl) T.n_len (by decide +kernel) (pa_cons (pv 0) pa_nil)) (pv 2)))))) (pss_one (ps_ret pe_bl)) pss_nil)
      (pss_one (ps_ret (pe_callB (cr_all rfl) (by rfl) T.n_all (by decide +kernel) (pa_cons (pe_lc (own := [("number", 3)]) (g := (gName 3)) (tt := tYes)  rfl sc_are_integers.nd (pi_tup (pv 0)) (blkOk_by (own := [("number", 3)]) (N := names_are_integers) (sc := defScope s_are_integers) (by decide +kernel)) (fun _ _ _ _ _ => (pg_name (i := 3) sc_are_integers.nd rfl (Or.inl rfl))) (fun _ _ _ _ _ => pts_nil) (fun _ _ _ _ _ => by apply My.pe_eq; (case h => exact (pe_and (pe_callB call_isi (by rfl) T.n_isinstance (by decide +kernel) (pa_cons (pv 3) (pa_cons (pe_bltn (v := .ty "int") (by rfl) T.n_int (by decide +kernel) rfl) pa_nil))) (pe_and (pe_not (pe_callB call_isi (by rfl) T.n_isinstance (by decide +kernel) (pa_cons (pv 3) (pa_cons (pe_bltn (v := .ty "bool") (by rfl) T.n_bool (by decide +kernel) rfl) pa_nil)))) (pe_one (pe_chain op_lt op_lt (pe_un un_neg (pe_glob rfl T.c_TOO_LONG T.v_TOO_LONG)) (pv 3) (pe_glob rfl T.c_TOO_LONG T.v_TOO_LONG)))))); all_goals (first | exact rfl | (dsimp only [L2.Cx.blk, L2.Cx.nox, L2.cxOf]; done) | (dsimp only [L2.Cx.blk, L2.Cx.nox, L2.cxOf]; exact rfl)))) pa_nil))))), ?_⟩
    refine ⟨_, rfl, _, _, _, _, _, rfl, .ty "tuple", j.ty, kit_ty (kit_tuple d), ⟨_, rfl, ?_⟩⟩
    cases d with
    | tuple ds =>
      cases j with
      | tup hs ha =>
        rename_i a xs
        refine iteF ?_
        refine ⟨_, rfl, _, rfl, _, _, rfl, Or.inr hs, _, _, rfl, rfl, _, rfl, ?_⟩
        have hl := ha.length
        by_cases c1 : lo ≤ (xs.length : Int)
        · refine if_pos_of (decide_eq_true c1) ⟨_, rfl, _, _, rfl, rfl, _, rfl, ?_⟩
          by_cases c2 : (xs.length : Int) ≤ hi
          · rw [decide_eq_true c2]
            refine iteF ?_
            dsimp only [tNext, tRet, tCB, tCons]
            refine comp_t (K := K) (a := a) (xs := xs) (ds.map fun d => V.bl (isI d)) (by rw [List.length_map, hl]) (by omega) hs ?_ ?_ ?_ (fun Q' q' => ⟨_, rfl, q'⟩)
            · exact fun _ => rfl
            · rintro k x y H1 hx hy e1 Q' q'
              obtain ⟨d, hd, jd⟩ := ha.get hx
              rw [List.getElem?_map, hd] at hy
              cases hy
              have jd := Jd.mono e1 _ _ jd
              have q' : Q' (.bl (isI d)) H1 := q' _ (Same.refl _)
              refine ⟨_, rfl, ⟨_, _, _, _, _, rfl, .ty "int", jd.ty, kit_ty (kit_int d), ⟨_, rfl, ?_⟩⟩⟩
              cases d with
              | int i =>
                cases jd
                refine iteT ⟨_, rfl, ⟨_, _, _, _, _, rfl, .ty "bool", .base (.int _), kit_ty (kit_bool (.int i)), ⟨_, rfl, ⟨_, rfl, iteT ?_⟩⟩⟩⟩
                refine ⟨_, rfl, _, rfl, _, _, rfl, rfl, _, rfl, ?_⟩
                by_cases c : -(10 ^ 60) < i
                · refine if_pos_of (decide_eq_true c) ⟨_, _, rfl, rfl, ?_⟩
                  have e : isI (.int i) = decide (i < 10 ^ 60) := by
                    show (decide _ && decide _) = _
                    rw [decide_eq_true c, Bool.true_and]
                  rw [e] at q'
                  exact q'
                · refine if_neg_of (decide_eq_false c) ?_
                  have e : isI (.int i) = false := by
                    show (decide _ && decide _) = _
                    rw [decide_eq_false c, Bool.false_and]
                  rw [e] at q'
                  exact q'
              | bool b =>
                exact iteT ⟨_, rfl, ⟨_, _, _, _, _, rfl, .ty "bool", jd.ty, kit_ty (kit_bool _), ⟨_, rfl, ⟨_, rfl, iteF q'⟩⟩⟩⟩
              | _ => exact iteF q'
            · intro D H' e1 hD hL
              refine ⟨D, ds.map isI, rfl, Evl.sq_of (by rw [List.map_map]; exact hL), ?_⟩
              have e : intsD lo hi (.tuple ds) = (ds.map isI).all id := by
                show ((_ && _) && _) = _
                rw [← hl, decide_eq_true c1, decide_eq_true c2, List.all_map]
                rfl
              rw [← e]
              exact q H' e1
          · refine if_pos_of (by rw [decide_eq_false c2]; rfl) ?_
            have e : intsD lo hi (.tuple ds) = false := by
              show ((_ && _) && _) = _
              rw [← hl, decide_eq_false c2, Bool.and_false, Bool.false_and]
            have q' := q H (Same.refl _)
            rw [e] at q'
            exact q'
        · refine if_neg_of (decide_eq_false c1) ⟨_, rfl, iteT ?_⟩
          have e : intsD lo hi (.tuple ds) = false := by
            show ((_ && _) && _) = _
            rw [← hl, decide_eq_false c1, Bool.false_and, Bool.false_and]
          have q' := q H (Same.refl _)
          rw [e] at q'
          exact q'
    | _ => exact iteT (q H (Same.refl _))
end
end K01

set_option maxHeartbeats 2000000
namespace K01
open PySem PySem.Spec PyProof.Rows L2 My M01
section
variable {P : Program} {w : World} {K : PySem.W.Frag} {mg : Str → Option Value} {base : Heap} {A : Adr}
theorem gcdL_app1 : ∀ (ys xs : List Int), gcdL xs = 1 → gcdL (xs ++ ys) = 1
  | [], xs, h => by rw [List.append_nil]; exact h
  | y :: ys, xs, h => by
    have e : xs ++ y :: ys = (xs ++ [y]) ++ ys := by simp
    rw [e]
    refine gcdL_app1 ys (xs ++ [y]) ?_
    rw [gcdL_snoc, h]
    simp
def sp_divisor_of (K : PySem.W.Frag) : Sp := fun vs H Q _ => ∃ a ns, vs = [.ref a] ∧ SqT K H a (ns.map V.int) ∧ Q (.int (gcdL ns)) H
theorem ok_divisor_of (T : Txt K mg A) : FnOk P w K mg base CX0 1 A.a_divisor_of A.d_divisor_of ["numbers"] (sp_divisor_of K) := by
  refine T.f_divisor_of.ok sc_divisor_of (fun vs H Q E h => ?_) (fun cdv B out t H vs Q E hr h => ?_)
  · obtain ⟨a, ns, rfl, _⟩ := h
    rfl
  · obtain ⟨a, ns, rfl, hs, q⟩ := h
    refine ⟨_, (pss_cons (ps_set (i := 1) sc_divisor_of.nd rfl (Or.inl rfl) pe_int)
      (pss_cons (ps_for PassesOwn.never rfl (pi_tup (pv 0)) (pg_name (i := 2) sc_divisor_of.nd rfl (Or.inl rfl)) (pss_cons (ps_set (i := 1) sc_divisor_of.nd rfl (Or.inl rfl) (pe_callBfun cr_gcd (by rfl) T.g_gcd (pa_cons (pv 1) (pa_cons (pv 2) pa_nil))))
      (pss_one (ps_if (pt_cmpR op_eq (pv 1) pe_int (nomark _)) (pss_one (ps_ret pe_int)) pss_nil))))
      (pss_one (ps_ret (pv 1))))), ?_⟩
    refine ⟨_, rfl, a, rfl, ⟨_, hs⟩, for_tup (K := K) (a := a) (xs := ns.map V.int) (fun i σ H' => H' = H ∧ ∃ v : Option V, σ = [some (.ref a), some (.int (gcdL (ns.take i))), v])
      ⟨rfl, none, rfl⟩ (fun i σ H' _ h => by rw [h.1]; exact hs) ?_ ?_⟩
    · rintro i x σ H' hx ⟨rfl, v, rfl⟩
      rw [List.getElem?_map] at hx
      cases e : ns[i]? with
      | none => rw [e] at hx; cases hx
      | some n =>
        rw [e] at hx
        cases hx
        refine ⟨_, rfl, _, rfl, _, _, rfl, ?_⟩
        refine ⟨_, rfl, rfl, _, rfl, ?_⟩
        have en : (((gcdL (ns.take i)).natAbs.gcd n.natAbs : Nat) : Int) = gcdL (ns.take (i + 1)) := by rw [take_next e, gcdL_snoc]
        by_cases c : gcdL (ns.take (i + 1)) = 1
        · refine if_pos_of (decide_eq_true (congrArg V.int (en.trans c))) ?_
          have eg : gcdL ns = 1 := by
            have : gcdL ns = gcdL (ns.take (i + 1) ++ ns.drop (i + 1)) := by rw [List.take_append_drop]
            rw [this, gcdL_app1 _ _ c]
          rw [eg] at q
          exact q
        · refine if_neg_of (decide_eq_false fun z => c (en.symm.trans (V.int.inj z))) ?_
          refine ⟨rfl, some (.int n), ?_⟩
          rw [← en]
          rfl
    · rintro σ H' ⟨rfl, v, rfl⟩
      rw [List.length_map, List.take_length]
      exact ⟨_, rfl, q⟩
def ratD : PyData → Bool
  | .tuple [.int a, .int b] => isI (.int a) && isI (.int b) && decide (0 < b) && decide (gcdL [a, b] = 1)
  | _ => false
theorem ints_two {d : PyData} (h : intsD 2 2 d = true) : ∃ a b, d = .tuple [.int a, .int b] ∧ isI (.int a) = true ∧ isI (.int b) = true := by
  cases d with
  | tuple ds =>
    simp only [intsD, Bool.and_eq_true, decide_eq_true_eq] at h
    obtain ⟨⟨h1, h2⟩, h3⟩ := h
    match ds, h1, h2, h3 with
    | [], h1, _, _ => simp at h1
    | [_], h1, _, _ => simp at h1
    | [x, y], _, _, h3 =>
      simp only [List.all_cons, List.all_nil, Bool.and_true, Bool.and_eq_true] at h3
      cases x <;> simp [isI] at h3
      cases y <;> simp [isI] at h3
      exact ⟨_, _, rfl, by simp [isI]; omega, by simp [isI]; omega⟩
    | _ :: _ :: _ :: _, _, h2, _ => simp at h2; omega
  | _ => simp [intsD] at h
theorem not_ints_two {d : PyData} (h : intsD 2 2 d = false) : ratD d = false := by
  unfold ratD
  split
  · rename_i a b
    have e : (isI (.int a) && isI (.int b)) = false := by simpa [intsD] using h
    rw [e, Bool.false_and, Bool.false_and]
  · rfl
def sp_is_ratio (K : PySem.W.Frag) : Sp := fun vs H Q _ => ∃ v d, vs = [v] ∧ Jd K H v d ∧ ∀ H', Same H H' → Q (.bl (ratD d)) H'
theorem ok_is_ratio (T : Txt K mg A) : FnOk P w K mg base CX0 4 A.a_is_ratio A.d_is_ratio ["value"] (sp_is_ratio K) := by
  have G_are_integers : FnOk P w K mg base CX0 3 A.a_are_integers A.d_are_integers ["value", "least", "most"] (sp_are_integers K) := ok_are_integers T
  have G_divisor_of : FnOk P w K mg base CX0 1 A.a_divisor_of A.d_divisor_of ["numbers"] (sp_divisor_of K) := ok_divisor_of T
  refine T.f_is_ratio.ok sc_is_ratio (fun vs H Q E h => ?_) (fun cdv B out t H vs Q E hr h => ?_)
  · obtain ⟨v, d, rfl, _⟩ := h
    rfl
  · obtain ⟨v, d, rfl, j, q⟩ := h
    refine ⟨_, (pss_cons (ps_if (pt_not (pt_val (pe_call G_are_integers (hr.mono (by decide)) (by rfl) T.g_are_integers T.f_are_integers.kp (b_are_integers T) .nil pass0 (pa_cons (pv 0) (pa_cons pe_int (pa_cons pe_int pa_nil)))))) (pss_one (ps_ret pe_bl)) pss_nil)
      (pss_one (ps_ret (pe_and (pe_cmpR op_gt (pe_ix ix_tup (pv 0) pe_int (fun _ _ => rfl)) pe_int (nomark _)) (pe_one (pe_cmpR op_eq (pe_call G_divisor_of (hr.mono (by decide)) (by rfl) T.g_divisor_of T.f_divisor_of.kp (b_divisor_of T) .nil pass0 (pa_cons (pv 0) pa_nil)) pe_int (nomark _))))))), ?_⟩
    refine ⟨_, rfl, v, d, 2, 2, rfl, j, by omega, fun H1 e1 => ⟨_, rfl, ?_⟩⟩
    cases e : intsD 2 2 d with
    | false =>
      have q' := q H1 e1
      rw [not_ints_two e] at q'
      exact iteT q'
    | true =>
      refine iteF ?_
      obtain ⟨a, b, rfl, ia, ib⟩ := ints_two e
      cases j with
      | tup hs ha =>
        rename_i p xs
        have hx : xs = [a, b].map V.int := by
          cases ha with
          | cons j1 ha => cases ha with | cons j2 ha => cases ha; cases j1; cases j2; rfl
        subst hx
        have hs1 := same_t e1 hs
        refine ⟨_, rfl, p, _, _, _, rfl, rfl, hs1, rfl, _, _, rfl, rfl, _, rfl, ?_⟩
        have q' := q H1 e1
        have er : ratD (.tuple [.int a, .int b]) = (decide (0 < b) && decide (gcdL [a, b] = 1)) := by
          show (isI (.int a) && isI (.int b) && _ && _) = _
          rw [ia, ib]
          rfl
        rw [er] at q'
        by_cases c : 0 < b
        · refine if_pos_of (decide_eq_true c) ?_
          rw [decide_eq_true c, Bool.true_and] at q'
          refine ⟨_, rfl, p, [a, b], rfl, hs1, rfl, ?_⟩
          have ee : decide (V.int (gcdL [a, b]) = V.int 1) = decide (gcdL [a, b] = 1) := by
            by_cases g : gcdL [a, b] = 1
            · rw [g]; rfl
            · rw [decide_eq_false g, decide_eq_false (fun z => g (V.int.inj z))]
          rw [ee]
          exact q'
        · refine if_neg_of (decide_eq_false c) ?_
          rw [decide_eq_false c, Bool.false_and] at q'
          exact q'
theorem isI_lt {a : Int} (h : isI (.int a) = true) : a.natAbs < 2 ^ 200 := by
  simp only [isI, Bool.and_eq_true, decide_eq_true_eq] at h
  have e : (10 : Int) ^ 60 < 2 ^ 200 := by decide +kernel
  have h1 := h.1
  have h2 := h.2
  generalize (10 : Int) ^ 60 = z at *
  have e2 : ((2 ^ 200 : Nat) : Int) = (2 : Int) ^ 200 := by decide +kernel
  generalize (2 : Int) ^ 200 = y at *
  generalize (2 : Nat) ^ 200 = y' at *
  omega
def Two (H : Hp) (p : Addr) (r : Int × Int) : Prop := H p = some (.tup [.int r.1, .int r.2])
def sp_ratio_of (K : PySem.W.Frag) : Sp := fun vs H Q _ => ∃ t b, vs = [.int t, .int b] ∧ b ≠ 0 ∧ b.natAbs < 2 ^ 8000 ∧ ∀ p H', Same H H' → H p = none → Two H' p (low t b) → Q (.ref p) H'
theorem ok_ratio_of (T : Txt K mg A) : FnOk P w K mg base CX0 2 A.a_ratio_of A.d_ratio_of ["top", "bottom"] (sp_ratio_of K) := by
  have G_divisor_of : FnOk P w K mg base CX0 1 A.a_divisor_of A.d_divisor_of ["numbers"] (sp_divisor_of K) := ok_divisor_of T
  refine T.f_ratio_of.ok sc_ratio_of (fun vs H Q E h => ?_) (fun cdv B out t H vs Q E hr h => ?_)
  · obtain ⟨t, b, rfl, _⟩ := h
    rfl
  · obtain ⟨t, b, rfl, hb, hz, q⟩ := h
    refine ⟨_, (pss_cons (ps_set (i := 2) sc_ratio_of.nd rfl (Or.inl rfl) (pe_call G_divisor_of (hr.mono (by decide)) (by rfl) T.g_divisor_of T.f_divisor_of.kp (b_divisor_of T) .nil pass0 (pa_cons (pe_tup (pa_cons (pv 0) (pa_cons (pv 1) pa_nil))) pa_nil)))
      (pss_cons (ps_if (pt_cmpR op_lt (pv 1) pe_int (nomark _)) (pss_one (ps_set (i := 2) sc_ratio_of.nd rfl (Or.inl rfl) (pe_un un_neg (pv 2)))) pss_nil)
      (pss_one (ps_ret (pe_tup (pa_cons (pe_op op_fdivA (pv 0) (pv 2)) (pa_cons (pe_op op_fdivA (pv 1) (pv 2)) pa_nil))))))), ?_⟩
    have sn := share_ne (t := t) hb
    have sl : (shareOf t b).natAbs.log2 < 9000 := by
      have h1 := share_le (t := t) hb
      have h2 : (shareOf t b).natAbs < 2 ^ 8000 := Nat.lt_of_le_of_lt h1 hz
      have h3 := PySem.Flt.log2_lt_of (by omega : 0 < 8000) h2
      omega
    refine ⟨_, rfl, _, rfl, (by show 2 ≤ sizeLine; decide), fun p hp => ⟨p, [t, b], rfl, Or.inl (Or.inl upd_same), ?_⟩⟩
    refine ⟨_, rfl, _, _, rfl, rfl, _, rfl, ?_⟩
    by_cases c : b < 0
    · have es : shareOf t b = -(gcdL [t, b]) := if_pos c
      refine if_pos_of (decide_eq_true c) ⟨_, rfl, _, rfl, ?_⟩
      rw [es] at sn sl
      refine ⟨_, rfl, _, rfl, _, _, rfl, rfl, ⟨sn, sl⟩, _, rfl, _, rfl, _, _, rfl, rfl, ⟨sn, sl⟩, (by show 2 ≤ sizeLine; decide), fun p2 hp2 => ?_⟩
      refine q p2 _ ((same_new hp).trans (same_new hp2)) ((same_new hp).free hp2) ?_
      show upd _ p2 _ p2 = _
      rw [upd_same]
      unfold low
      rw [es]
    · have es : shareOf t b = gcdL [t, b] := if_neg c
      refine if_neg_of (decide_eq_false c) ?_
      rw [es] at sn sl
      refine ⟨_, rfl, _, rfl, _, _, rfl, rfl, ⟨sn, sl⟩, _, rfl, _, rfl, _, _, rfl, rfl, ⟨sn, sl⟩, (by show 2 ≤ sizeLine; decide), fun p2 hp2 => ?_⟩
      refine q p2 _ ((same_new hp).trans (same_new hp2)) ((same_new hp).free hp2) ?_
      show upd _ p2 _ p2 = _
      rw [upd_same]
      unfold low
      rw [es]
end
end K01

set_option maxHeartbeats 2000000
namespace K01
open PySem PySem.Spec PyProof.Rows L2 My M01
section
variable {P : Program} {w : World} {K : PySem.W.Frag} {mg : Str → Option Value} {base : Heap} {A : Adr}
theorem jd_tup {H : Hp} {a : Addr} {ns : List Int} (h : SqT K H a (ns.map V.int)) : Jd K H (.ref a) (.tuple (ns.map PyData.int)) := .tup h (jd_ints ns)
theorem intsD_of {lo hi : Int} {ns : List Int} (h1 : lo ≤ (ns.length : Int)) (h2 : (ns.length : Int) ≤ hi) (h3 : ∀ n ∈ ns, isI (.int n) = true) : intsD lo hi (.tuple (ns.map PyData.int)) = true := by
  show ((_ && _) && _) = _
  rw [List.length_map, decide_eq_true h1, decide_eq_true h2]
  simpa using h3
def sp_common_divisor (K : PySem.W.Frag) : Sp := fun vs H Q _ => ∃ a ns, vs = [.ref a] ∧ SqT K H a (ns.map V.int) ∧ 1 ≤ ns.length ∧ ns.length ≤ 100 ∧ (∀ n ∈ ns, isI (.int n) = true) ∧
  ∀ H', Same H H' → Q (.int (gcdL ns)) H'
theorem ok_common_divisor (T : Txt K mg A) : FnOk P w K mg base CX0 4 A.a_common_divisor A.d_common_divisor ["numbers"] (sp_common_divisor K) := by
  have G_are_integers : FnOk P w K mg base CX0 3 A.a_are_integers A.d_are_integers ["value", "least", "most"] (sp_are_integers K) := ok_are_integers T
  have G_divisor_of : FnOk P w K mg base CX0 1 A.a_divisor_of A.d_divisor_of ["numbers"] (sp_divisor_of K) := ok_divisor_of T
  refine T.f_common_divisor.ok sc_common_divisor (fun vs H Q E h => ?_) (fun cdv B out t H vs Q E hr h => ?_)
  · obtain ⟨a, ns, rfl, _⟩ := h
    rfl
  · obtain ⟨a, ns, rfl, hs, h1, h2, h3, q⟩ := h
    refine ⟨_, (pss_cons (ps_if (pt_not (pt_val (pe_call G_are_integers (hr.mono (by decide)) (by rfl) T.g_are_integers T.f_are_integers.kp (b_are_integers T) .nil pass0 (pa_cons (pv 0) (pa_cons pe_int (pa_cons (pe_glob rfl T.c_MAX_NUMBERS T.v_MAX_NUMBERS) pa_nil)))))) (pss_one ps_never) pss_nil)
      (pss_one (ps_ret (pe_call G_divisor_of (hr.mono (by decide)) (by rfl) T.g_divisor_of T.f_divisor_of.kp (b_divisor_of T) .nil pass0 (pa_cons (pv 0) pa_nil))))), ?_⟩
    refine ⟨_, rfl, _, _, 1, 100, rfl, jd_tup hs, by omega, fun H1 e1 => ⟨_, rfl, ?_⟩⟩
    rw [intsD_of (by omega) (by omega) h3]
    exact iteF ⟨_, rfl, a, ns, rfl, same_t e1 hs, q H1 e1⟩
def sp_lowest (K : PySem.W.Frag) : Sp := fun vs H Q _ => ∃ t b, vs = [.int t, .int b] ∧ isI (.int t) = true ∧ isI (.int b) = true ∧ b ≠ 0 ∧ ∀ p H', Same H H' → H p = none → Two H' p (low t b) → Q (.ref p) H'
theorem ok_lowest (T : Txt K mg A) : FnOk P w K mg base CX0 3 A.a_lowest A.d_lowest ["top", "bottom"] (sp_lowest K) := by
  have G_is_integer : FnOk P w K mg base CX0 2 A.a_is_integer A.d_is_integer ["value"] (sp_is_integer K) := ok_is_integer T
  have G_ratio_of : FnOk P w K mg base CX0 2 A.a_ratio_of A.d_ratio_of ["top", "bottom"] (sp_ratio_of K) := ok_ratio_of T
  refine T.f_lowest.ok sc_lowest (fun vs H Q E h => ?_) (fun cdv B out s0 H vs Q E hr h => ?_)
  · obtain ⟨t, b, rfl, _⟩ := h
    rfl
  · obtain ⟨t, b, rfl, it, ib, hb, q⟩ := h
    refine ⟨_, (pss_cons (ps_if (pt_not (pt_val (pe_call G_is_integer (hr.mono (by decide)) (by rfl) T.g_is_integer T.f_is_integer.kp (b_is_integer T) .nil pass0 (pa_cons (pv 0) pa_nil)))) (pss_one ps_never) pss_nil)
      (pss_cons (ps_if (PW.pt (pw_or (pt_not (pt_val (pe_call G_is_integer (hr.mono (by decide)) (by rfl) T.g_is_integer T.f_is_integer.kp (b_is_integer T) .nil pass0 (pa_cons (pv 1) pa_nil)))) (pw_or1 (pt_cmpR op_eq (pv 1) pe_int (nomark _))))) (pss_one ps_never) pss_nil)
      (pss_one (ps_ret (pe_call G_ratio_of (hr.mono (by decide)) (by rfl) T.g_ratio_of T.f_ratio_of.kp (b_ratio_of T) .nil pass0 (pa_cons (pv 0) (pa_cons (pv 1) pa_nil))))))), ?_⟩
    refine ⟨_, rfl, _, _, rfl, Jd.int t, _, rfl, ?_⟩
    rw [it]
    refine iteF ⟨_, rfl, _, _, rfl, Jd.int b, _, rfl, ?_⟩
    rw [ib]
    refine iteF ⟨_, rfl, rfl, _, rfl, ?_⟩
    rw [decide_eq_false (fun z => hb (V.int.inj z))]
    exact iteF ⟨_, rfl, _, rfl, t, b, rfl, hb, Nat.lt_of_lt_of_le (isI_lt ib) (Nat.pow_le_pow_right (by decide) (by decide)), q⟩
/-- a ratio stands at p -/
structure Rat (K : PySem.W.Frag) (H : Hp) (p : Addr) (a b : Int) : Prop where
  at_ : SqT K H p ([a, b].map V.int)
  ok : ratD (.tuple [.int a, .int b]) = true
theorem Rat.same {H H' : Hp} {p : Addr} {a b : Int} (e : Same H H') (h : Rat K H p a b) : Rat K H' p a b := ⟨same_t e h.at_, h.ok⟩
theorem Rat.jd {H : Hp} {p : Addr} {a b : Int} (h : Rat K H p a b) : Jd K H (.ref p) (.tuple [.int a, .int b]) := jd_tup h.at_
theorem ratD_iff {a b : Int} : ratD (.tuple [.int a, .int b]) = true ↔ isI (.int a) = true ∧ isI (.int b) = true ∧ 0 < b ∧ gcdL [a, b] = 1 := by
  show (isI (.int a) && isI (.int b) && decide (0 < b) && decide (gcdL [a, b] = 1)) = true ↔ _
  simp only [Bool.and_eq_true, decide_eq_true_eq, and_assoc]
def sp_need_ratios (K : PySem.W.Frag) : Sp := fun vs H Q _ => ∃ p q a b c d, vs = [.ref p, .ref q] ∧ Rat K H p a b ∧ Rat K H q c d ∧ ∀ H', Same H H' → Q .non H'
theorem ok_need_ratios (T : Txt K mg A) : FnOk P w K mg base CX0 5 A.a_need_ratios A.d_need_ratios ["one", "other"] (sp_need_ratios K) := by
  have G_is_ratio : FnOk P w K mg base CX0 4 A.a_is_ratio A.d_is_ratio ["value"] (sp_is_ratio K) := ok_is_ratio T
  refine T.f_need_ratios.ok sc_need_ratios (fun vs H Q E h => ?_) (fun cdv B out t H vs Q E hr h => ?_)
  · obtain ⟨p, q, a, b, c, d, rfl, _⟩ := h
    rfl
  · obtain ⟨p, q, a, b, c, d, rfl, r1, r2, k⟩ := h
    refine ⟨_, (pss_one (ps_for PassesOwn.never rfl (pi_tup (pe_tup (pa_cons (pv 0) (pa_cons (pv 1) pa_nil)))) (pg_name (i := 2) sc_need_ratios.nd rfl (Or.inl rfl)) (pss_one (ps_if (pt_not (pt_val (pe_call G_is_ratio (hr.mono (by decide)) (by rfl) T.g_is_ratio T.f_is_ratio.kp (b_is_ratio T) .nil pass0 (pa_cons (pv 2) pa_nil)))) (pss_one ps_never) pss_nil)))), ?_⟩
    refine ⟨_, rfl, _, rfl, (by show 2 ≤ sizeLine; decide), fun u hu => ⟨u, rfl, ⟨[.ref p, .ref q], Or.inl (Or.inl upd_same)⟩, ?_⟩⟩
    refine for_tup (K := K) (a := u) (xs := [.ref p, .ref q]) (fun i σ H' => Same (upd H u (.tup [.ref p, .ref q])) H' ∧ ∃ v : Option V, σ = [some (.ref p), some (.ref q), v])
      ⟨Same.refl _, none, rfl⟩ (fun i σ H' _ h => same_t h.1 (Or.inl (Or.inl upd_same))) ?_ ?_
    · rintro i x σ H' hx ⟨e1, v, rfl⟩
      have e0 : Same H H' := (same_new hu).trans e1
      have go : ∀ (z : Addr) (m n : Int), x = .ref z → Rat K H z m n → ∃ v d, x = v ∧ Jd K H' v d ∧ ratD d = true := fun z m n hz hr => ⟨_, _, hz, Jd.mono e0 _ _ hr.jd, hr.ok⟩
      have st : ∃ v d, x = v ∧ Jd K H' v d ∧ ratD d = true := by
        match i, hx with
        | 0, hx => cases hx; exact go p a b rfl r1
        | 1, hx => cases hx; exact go q c d rfl r2
        | n + 2, hx => simp at hx
      obtain ⟨v', d', rfl, j, ok⟩ := st
      refine ⟨_, rfl, _, _, rfl, j, fun H2 e2 => ⟨_, rfl, ?_⟩⟩
      rw [ok]
      exact iteF ⟨e1.trans e2, _, rfl⟩
    · rintro σ H' ⟨e1, v, rfl⟩
      exact k H' ((same_new hu).trans e1)
theorem mulw {a b : Int} (ha : isI (.int a) = true) (hb : isI (.int b) = true) : CMulW a b := wide_mul (isI_lt ha) (isI_lt hb) (by decide) (by decide) (by decide)
def sp_compare (K : PySem.W.Frag) : Sp := fun vs H Q _ => ∃ p q a b c d, vs = [.ref p, .ref q] ∧ Rat K H p a b ∧ Rat K H q c d ∧ ∀ H', Same H H' → Q (.int (cmp (a * d) (c * b))) H'
theorem ok_compare (T : Txt K mg A) : FnOk P w K mg base CX0 6 A.a_compare A.d_compare ["one", "other"] (sp_compare K) := by
  have G_need_ratios : FnOk P w K mg base CX0 5 A.a_need_ratios A.d_need_ratios ["one", "other"] (sp_need_ratios K) := ok_need_ratios T
  refine T.f_compare.ok sc_compare (fun vs H Q E h => ?_) (fun cdv B out t H vs Q E hr h => ?_)
  · obtain ⟨p, q, a, b, c, d, rfl, _⟩ := h
    rfl
  · obtain ⟨p, q, a, b, c, d, rfl, r1, r2, k⟩ := h
    refine ⟨_, (pss_cons (ps_expr (pe_call G_need_ratios (hr.mono (by decide)) (by rfl) T.g_need_ratios T.f_need_ratios.kp (b_need_ratios T) .nil pass0 (pa_cons (pv 0) (pa_cons (pv 1) pa_nil))))
      (pss_cons (ps_par (i := 2) (j := 3) (by rfl) sc_compare.nd rfl rfl (by decide) rfl rfl (pa_cons (pe_op op_mulW (pe_ix ix_tup (pv 0) pe_int (fun _ _ => rfl)) (pe_ix ix_tup (pv 1) pe_int (fun _ _ => rfl))) (pa_cons (pe_op op_mulW (pe_ix ix_tup (pv 1) pe_int (fun _ _ => rfl)) (pe_ix ix_tup (pv 0) pe_int (fun _ _ => rfl))) pa_nil)) (by rfl))
      (pss_one (ps_ret (pe_op op_sub (pe_callTy call_int1 (by rfl) T.n_int (by decide +kernel) (pa_cons (pe_cmpR op_gt (pv 2) (pv 3) (nomark _)) pa_nil)) (pe_callTy call_int1 (by rfl) T.n_int (by decide +kernel) (pa_cons (pe_cmpR op_lt (pv 2) (pv 3) (nomark _)) pa_nil))))))), ?_⟩
    obtain ⟨ia, ib, _, _⟩ := ratD_iff.mp r1.ok
    obtain ⟨ic, id, _, _⟩ := ratD_iff.mp r2.ok
    refine ⟨_, rfl, _, rfl, p, q, a, b, c, d, rfl, r1, r2, fun H1 e1 => ?_⟩
    have s1 := same_t e1 r1.at_
    have s2 := same_t e1 r2.at_
    refine ⟨_, rfl, p, _, _, _, rfl, rfl, s1, rfl, _, rfl, q, _, _, _, rfl, rfl, s2, rfl, _, _, rfl, rfl, mulw ia id, ?_⟩
    refine ⟨_, rfl, q, _, _, _, rfl, rfl, s2, rfl, _, rfl, p, _, _, _, rfl, rfl, s1, rfl, _, _, rfl, rfl, mulw ic ib, ?_⟩
    refine ⟨_, _, rfl, ?_⟩
    refine ⟨_, rfl, _, rfl, _, _, rfl, rfl, Or.inr ⟨_, rfl, _, rfl, _, rfl, _, _, rfl, rfl, Or.inr ⟨_, rfl, _, _, rfl, rfl, ?_⟩⟩⟩
    have q' := k H1 e1
    have e : ∀ x y : Int, ((if decide (y < x) = true then 1 else 0) - (if decide (x < y) = true then 1 else 0) : Int) = cmp x y := fun x y => by
      unfold cmp
      simp only [decide_eq_true_eq]
    show Q (V.int ((if decide (c * b < a * d) = true then 1 else 0) - (if decide (a * d < c * b) = true then 1 else 0))) H1
    rw [e]
    exact q'
def sp_plus (K : PySem.W.Frag) : Sp := fun vs H Q _ => ∃ p q a b c d, vs = [.ref p, .ref q] ∧ Rat K H p a b ∧ Rat K H q c d ∧ ∀ r H', Same H H' → H r = none → Two H' r (low (a * d + c * b) (b * d)) → Q (.ref r) H'
theorem prod_lt {b d : Int} (ib : isI (.int b) = true) (id : isI (.int d) = true) : (b * d).natAbs < 2 ^ 8000 :=
  Nat.lt_of_lt_of_le (wide_lt (isI_lt ib) (isI_lt id)) (Nat.pow_le_pow_right (by decide) (by decide))
theorem ok_plus (T : Txt K mg A) : FnOk P w K mg base CX0 6 A.a_plus A.d_plus ["one", "other"] (sp_plus K) := by
  have G_need_ratios : FnOk P w K mg base CX0 5 A.a_need_ratios A.d_need_ratios ["one", "other"] (sp_need_ratios K) := ok_need_ratios T
  have G_ratio_of : FnOk P w K mg base CX0 2 A.a_ratio_of A.d_ratio_of ["top", "bottom"] (sp_ratio_of K) := ok_ratio_of T
  refine T.f_plus.ok sc_plus (fun vs H Q E h => ?_) (fun cdv B out t H vs Q E hr h => ?_)
  · obtain ⟨p, q, a, b, c, d, rfl, _⟩ := h
    rfl
  · obtain ⟨p, q, a, b, c, d, rfl, r1, r2, k⟩ := h
    refine ⟨_, (pss_cons (ps_expr (pe_call G_need_ratios (hr.mono (by decide)) (by rfl) T.g_need_ratios T.f_need_ratios.kp (b_need_ratios T) .nil pass0 (pa_cons (pv 0) (pa_cons (pv 1) pa_nil))))
      (pss_one (ps_ret (pe_call G_ratio_of (hr.mono (by decide)) (by rfl) T.g_ratio_of T.f_ratio_of.kp (b_ratio_of T) .nil pass0 (pa_cons (pe_op op_add (pe_op op_mulW (pe_ix ix_tup (pv 0) pe_int (fun _ _ => rfl)) (pe_ix ix_tup (pv 1) pe_int (fun _ _ => rfl))) (pe_op op_mulW (pe_ix ix_tup (pv 1) pe_int (fun _ _ => rfl)) (pe_ix ix_tup (pv 0) pe_int (fun _ _ => rfl)))) (pa_cons (pe_op op_mulW (pe_ix ix_tup (pv 0) pe_int (fun _ _ => rfl)) (pe_ix ix_tup (pv 1) pe_int (fun _ _ => rfl))) pa_nil)))))), ?_⟩
    obtain ⟨ia, ib, pb, _⟩ := ratD_iff.mp r1.ok
    obtain ⟨ic, id, pd, _⟩ := ratD_iff.mp r2.ok
    refine ⟨_, rfl, _, rfl, p, q, a, b, c, d, rfl, r1, r2, fun H1 e1 => ?_⟩
    have s1 := same_t e1 r1.at_
    have s2 := same_t e1 r2.at_
    refine ⟨_, rfl, p, _, _, _, rfl, rfl, s1, rfl, _, rfl, q, _, _, _, rfl, rfl, s2, rfl, _, _, rfl, rfl, mulw ia id, ?_⟩
    refine ⟨_, rfl, q, _, _, _, rfl, rfl, s2, rfl, _, rfl, p, _, _, _, rfl, rfl, s1, rfl, _, _, rfl, rfl, mulw ic ib, _, _, rfl, rfl, ?_⟩
    refine ⟨_, rfl, p, _, _, _, rfl, rfl, s1, rfl, _, rfl, q, _, _, _, rfl, rfl, s2, rfl, _, _, rfl, rfl, mulw ib id, ?_⟩
    exact ⟨_, _, rfl, Int.ne_of_gt (Int.mul_pos pb pd), prod_lt ib id, fun r H' e hr two => k r H' (e1.trans e) (e1.free hr) two⟩
def sp_minus (K : PySem.W.Frag) : Sp := fun vs H Q _ => ∃ p q a b c d, vs = [.ref p, .ref q] ∧ Rat K H p a b ∧ Rat K H q c d ∧ ∀ r H', Same H H' → H r = none → Two H' r (low (a * d - c * b) (b * d)) → Q (.ref r) H'
theorem ok_minus (T : Txt K mg A) : FnOk P w K mg base CX0 6 A.a_minus A.d_minus ["one", "other"] (sp_minus K) := by
  have G_need_ratios : FnOk P w K mg base CX0 5 A.a_need_ratios A.d_need_ratios ["one", "other"] (sp_need_ratios K) := ok_need_ratios T
  have G_ratio_of : FnOk P w K mg base CX0 2 A.a_ratio_of A.d_ratio_of ["top", "bottom"] (sp_ratio_of K) := ok_ratio_of T
  refine T.f_minus.ok sc_minus (fun vs H Q E h => ?_) (fun cdv B out t H vs Q E hr h => ?_)
  · obtain ⟨p, q, a, b, c, d, rfl, _⟩ := h
    rfl
  · obtain ⟨p, q, a, b, c, d, rfl, r1, r2, k⟩ := h
    refine ⟨_, (pss_cons (ps_expr (pe_call G_need_ratios (hr.mono (by decide)) (by rfl) T.g_need_ratios T.f_need_ratios.kp (b_need_ratios T) .nil pass0 (pa_cons (pv 0) (pa_cons (pv 1) pa_nil))))
      (pss_one (ps_ret (pe_call G_ratio_of (hr.mono (by decide)) (by rfl) T.g_ratio_of T.f_ratio_of.kp (b_ratio_of T) .nil pass0 (pa_cons (pe_op op_sub (pe_op op_mulW (pe_ix ix_tup (pv 0) pe_int (fun _ _ => rfl)) (pe_ix ix_tup (pv 1) pe_int (fun _ _ => rfl))) (pe_op op_mulW (pe_ix ix_tup (pv 1) pe_int (fun _ _ => rfl)) (pe_ix ix_tup (pv 0) pe_int (fun _ _ => rfl)))) (pa_cons (pe_op op_mulW (pe_ix ix_tup (pv 0) pe_int (fun _ _ => rfl)) (pe_ix ix_tup (pv 1) pe_int (fun _ _ => rfl))) pa_nil)))))), ?_⟩
    obtain ⟨ia, ib, pb, _⟩ := ratD_iff.mp r1.ok
    obtain ⟨ic, id, pd, _⟩ := ratD_iff.mp r2.ok
    refine ⟨_, rfl, _, rfl, p, q, a, b, c, d, rfl, r1, r2, fun H1 e1 => ?_⟩
    have s1 := same_t e1 r1.at_
    have s2 := same_t e1 r2.at_
    refine ⟨_, rfl, p, _, _, _, rfl, rfl, s1, rfl, _, rfl, q, _, _, _, rfl, rfl, s2, rfl, _, _, rfl, rfl, mulw ia id, ?_⟩
    refine ⟨_, rfl, q, _, _, _, rfl, rfl, s2, rfl, _, rfl, p, _, _, _, rfl, rfl, s1, rfl, _, _, rfl, rfl, mulw ic ib, _, _, rfl, rfl, ?_⟩
    refine ⟨_, rfl, p, _, _, _, rfl, rfl, s1, rfl, _, rfl, q, _, _, _, rfl, rfl, s2, rfl, _, _, rfl, rfl, mulw ib id, ?_⟩
    exact ⟨_, _, rfl, Int.ne_of_gt (Int.mul_pos pb pd), prod_lt ib id, fun r H' e hr two => k r H' (e1.trans e) (e1.free hr) two⟩
def sp_times (K : PySem.W.Frag) : Sp := fun vs H Q _ => ∃ p q a b c d, vs = [.ref p, .ref q] ∧ Rat K H p a b ∧ Rat K H q c d ∧ ∀ r H', Same H H' → H r = none → Two H' r (low (a * c) (b * d)) → Q (.ref r) H'
theorem ok_times (T : Txt K mg A) : FnOk P w K mg base CX0 6 A.a_times A.d_times ["one", "other"] (sp_times K) := by
  have G_need_ratios : FnOk P w K mg base CX0 5 A.a_need_ratios A.d_need_ratios ["one", "other"] (sp_need_ratios K) := ok_need_ratios T
  have G_ratio_of : FnOk P w K mg base CX0 2 A.a_ratio_of A.d_ratio_of ["top", "bottom"] (sp_ratio_of K) := ok_ratio_of T
  refine T.f_times.ok sc_times (fun vs H Q E h => ?_) (fun cdv B out t H vs Q E hr h => ?_)
  · obtain ⟨p, q, a, b, c, d, rfl, _⟩ := h
    rfl
  · obtain ⟨p, q, a, b, c, d, rfl, r1, r2, k⟩ := h
    refine ⟨_, (pss_cons (ps_expr (pe_call G_need_ratios (hr.mono (by decide)) (by rfl) T.g_need_ratios T.f_need_ratios.kp (b_need_ratios T) .nil pass0 (pa_cons (pv 0) (pa_cons (pv 1) pa_nil))))
      (pss_one (ps_ret (pe_call G_ratio_of (hr.mono (by decide)) (by rfl) T.g_ratio_of T.f_ratio_of.kp (b_ratio_of T) .nil pass0 (pa_cons (pe_op op_mulW (pe_ix ix_tup (pv 0) pe_int (fun _ _ => rfl)) (pe_ix ix_tup (pv 1) pe_int (fun _ _ => rfl))) (pa_cons (pe_op op_mulW (pe_ix ix_tup (pv 0) pe_int (fun _ _ => rfl)) (pe_ix ix_tup (pv 1) pe_int (fun _ _ => rfl))) pa_nil)))))), ?_⟩
    obtain ⟨ia, ib, pb, _⟩ := ratD_iff.mp r1.ok
    obtain ⟨ic, id, pd, _⟩ := ratD_iff.mp r2.ok
    refine ⟨_, rfl, _, rfl, p, q, a, b, c, d, rfl, r1, r2, fun H1 e1 => ?_⟩
    have s1 := same_t e1 r1.at_
    have s2 := same_t e1 r2.at_
    refine ⟨_, rfl, p, _, _, _, rfl, rfl, s1, rfl, _, rfl, q, _, _, _, rfl, rfl, s2, rfl, _, _, rfl, rfl, mulw ia ic, ?_⟩
    refine ⟨_, rfl, p, _, _, _, rfl, rfl, s1, rfl, _, rfl, q, _, _, _, rfl, rfl, s2, rfl, _, _, rfl, rfl, mulw ib id, ?_⟩
    exact ⟨_, _, rfl, Int.ne_of_gt (Int.mul_pos pb pd), prod_lt ib id, fun r H' e hr two => k r H' (e1.trans e) (e1.free hr) two⟩
end
end K01

set_option maxHeartbeats 2000000
namespace K01
open PySem PySem.Spec PyProof.Rows L2 My M01
section
variable {P : Program} {w : World} {K : PySem.W.Frag} {mg : Str → Option Value} {base : Heap} {A : Adr}
def sp_bag (K : PySem.W.Frag) : Sp := fun vs H Q _ => ∃ (a : Addr) (ns : List Int) (s : Int), vs = [.ref a, .int s] ∧ SqL K H a (ns.map V.int) ∧ 0 ≤ s ∧ s < 100 ∧ ∀ p H', Same H H' → H p = none → Bag H' p → Q (.ref p) H'
theorem fmod_nn {x m : Int} (h : 0 < m) : 0 ≤ x.fmod m := by
  rw [Int.fmod_eq_emod_of_nonneg _ (by omega)]
  exact Int.emod_nonneg _ (by omega)
theorem fmod_lt {x m : Int} (h : 0 < m) : x.fmod m < m := by
  rw [Int.fmod_eq_emod_of_nonneg _ (by omega)]
  exact Int.emod_lt_of_pos _ h
def cutI (ns : List Int) : List Int := (ns.drop (HT.sIx ns.length 0 none)).take (HT.sIx ns.length ns.length (some 1) - HT.sIx ns.length 0 none)
theorem cutI_eq (ns : List Int) : cutV (ns.map V.int) none (some 1) = (cutI ns).map V.int := by
  unfold cutV cutI
  rw [List.length_map, ← List.map_drop, ← List.map_take]
theorem max0 (j : Int) : 0 ≤ (if j > 0 then j else 0) := by split <;> omega
theorem big_ne : ((10 ^ (45 : Int).toNat) ^ (13 : Int).toNat : Int) ≠ 0 := by decide +kernel
theorem ne_a : (2305843009213693723 : Int) ≠ 0 := by decide
theorem ne_b : (2305843009213693951 : Int) ≠ 0 := by decide
theorem ok__law_bag (T : Txt K mg A) : FnOk P w K mg base CX0 1 A.a__law_bag A.d__law_bag ["_law_script", "_law_spot"] (sp_bag K) := by
  refine T.f__law_bag.ok sc__law_bag (fun vs H Q E h => ?_) (fun cdv B out t H vs Q E hr h => ?_)
  · obtain ⟨a, ns, s, rfl, _⟩ := h
    rfl
  · obtain ⟨a, ns, s, rfl, hs, h0, h1, q⟩ := h
    refine ⟨_, (pss_cons (ps_set (i := 2) sc__law_bag.nd rfl (Or.inl rfl) (pe_ifExp (pt_cmpR op_lt (pv 1) (pe_callB call_len_seq (by rfl) T.n_len (by decide +kernel) (pa_cons (pv 0) pa_nil)) (nomark _)) (pe_ix ix_list (pv 0) (pv 1) (fun _ _ => rfl)) (pe_op op_add (pe_op op_add (pe_callB (cr_sum rfl) (by rfl) T.n_sum (by decide +kernel) (pa_cons (pe_slice sl_list (pv 0) po_none (po_some pe_int)) pa_nil)) (pe_op op_mul pe_int (pv 1))) pe_int)))
      (pss_cons (ps_set (i := 3) sc__law_bag.nd rfl (Or.inl rfl) (pe_op op_modN (pe_callTy call_int1 (by rfl) T.n_int (by decide +kernel) (pa_cons (pe_callB call_abs (by rfl) T.n_abs (by decide +kernel) (pa_cons (pv 2) pa_nil)) pa_nil)) (pe_op op_powW (pe_op op_powW pe_int pe_int) pe_int)))
      (pss_cons (ps_set (i := 4) sc__law_bag.nd rfl (Or.inl rfl) (pe_op op_add (pe_op op_add (pe_op op_add (pe_op op_mul (pe_op op_modN (pe_callTy call_int1 (by rfl) T.n_int (by decide +kernel) (pa_cons (pv 3) pa_nil)) pe_int) pe_int) (pe_op op_mul pe_int (pv 1))) (pe_op op_mul pe_int (pe_callTy call_int1 (by rfl) T.n_int (by decide +kernel) (pa_cons (pe_cmpR op_lt (pv 2) pe_int (nomark _)) pa_nil)))) pe_int))
      (pss_one (ps_ret (pe_lst (pa_cons (pe_callB (call_max2 rfl) (by rfl) T.n_max (by decide +kernel) (pa_cons pe_int (pa_cons (pe_op op_sub (pv 3) (pe_op op_powW pe_int pe_int)) pa_nil))) (pa_cons (pe_op op_modN (pe_callTy call_int1 (by rfl) T.n_int (by decide +kernel) (pa_cons (pv 4) pa_nil)) pe_int) (pa_cons pe_int pa_nil))))))))), ?_⟩
    refine ⟨_, rfl, _, rfl, a, _, rfl, Or.inl hs, _, _, rfl, rfl, _, rfl, ?_⟩
    have fin : ∀ (x y : Int) (H1 : Hp), Same H H1 → 0 ≤ x → ∀ p, H1 p = none → 0 ≤ y → y < 2305843009213693951 → Q (.ref p) (upd H1 p (.lst [.int x, .int y, .int 0])) := fun x y H1 e hx p hp hy hy2 =>
      q p _ (e.trans (same_new hp)) (e.free hp) ⟨x, y, 0, upd_same, hx, hy, hy2⟩
    refine ite2 (fun c1 => ?_) (fun c1 => ?_)
    · have c2 : s.toNat < ns.length := by
        have c3 := of_decide_eq_true c1
        rw [List.length_map] at c3
        omega
      have hx : (ns.map V.int)[s.toNat]? = some (.int ns[s.toNat]) := by
        rw [List.getElem?_map, List.getElem?_eq_getElem c2]
        rfl
      refine ⟨_, rfl, _, rfl, a, _, s, _, rfl, rfl, hs, at_of (by omega) hx, ?_⟩
      generalize ns[s.toNat] = c
      refine ⟨_, rfl, _, rfl, Or.inl ⟨_, rfl, _, _, rfl, rfl, ⟨by decide, by decide +kernel⟩, _, _, rfl, rfl, ⟨by decide, by decide +kernel⟩, _, _, rfl, rfl, big_ne, ?_⟩⟩
      refine ⟨_, rfl, Or.inl ⟨_, rfl, _, _, rfl, rfl, ne_a, _, _, rfl, rfl, Or.inr ⟨by decide, by decide⟩, ?_⟩⟩
      refine ⟨_, rfl, _, _, rfl, rfl, Or.inl ⟨by decide, by decide⟩, _, _, rfl, rfl, ?_⟩
      refine ⟨_, rfl, _, _, rfl, rfl, Or.inr ⟨_, rfl, _, _, rfl, rfl, Or.inl ⟨by decide, by decide⟩, _, _, rfl, rfl, _, _, rfl, rfl, ?_⟩⟩
      refine ⟨_, rfl, _, _, rfl, rfl, ⟨by decide, by decide +kernel⟩, _, _, rfl, rfl, _, _, rfl, ?_⟩
      refine ⟨_, rfl, Or.inl ⟨_, rfl, _, _, rfl, rfl, ne_b, (by show 3 ≤ sizeLine; decide), fun p hp => ?_⟩⟩
      exact fin _ _ H (Same.refl _) (max0 _) p hp (fmod_nn (by decide)) (fmod_lt (by decide))
    · refine ⟨_, rfl, 1, rfl, a, _, rfl, hs, fun p0 hp0 => ⟨p0, cutI ns, rfl, Evl.sq_of ?_, _, rfl, _, _, rfl, rfl, Or.inl ⟨by decide, by decide⟩, _, _, rfl, rfl, _, _, rfl, rfl, ?_⟩⟩
      · rw [upd_same, cutI_eq]
      refine ⟨_, rfl, _, rfl, Or.inl ⟨_, rfl, _, _, rfl, rfl, ⟨by decide, by decide +kernel⟩, _, _, rfl, rfl, ⟨by decide, by decide +kernel⟩, _, _, rfl, rfl, big_ne, ?_⟩⟩
      refine ⟨_, rfl, Or.inl ⟨_, rfl, _, _, rfl, rfl, ne_a, _, _, rfl, rfl, Or.inr ⟨by decide, by decide⟩, ?_⟩⟩
      refine ⟨_, rfl, _, _, rfl, rfl, Or.inl ⟨by decide, by decide⟩, _, _, rfl, rfl, ?_⟩
      refine ⟨_, rfl, _, _, rfl, rfl, Or.inr ⟨_, rfl, _, _, rfl, rfl, Or.inl ⟨by decide, by decide⟩, _, _, rfl, rfl, _, _, rfl, rfl, ?_⟩⟩
      refine ⟨_, rfl, _, _, rfl, rfl, ⟨by decide, by decide +kernel⟩, _, _, rfl, rfl, _, _, rfl, ?_⟩
      refine ⟨_, rfl, Or.inl ⟨_, rfl, _, _, rfl, rfl, ne_b, (by show 3 ≤ sizeLine; decide), fun p hp => ?_⟩⟩
      exact fin _ _ _ (same_new hp0) (max0 _) p hp (fmod_nn (by decide)) (fmod_lt (by decide))
end
end K01

set_option maxHeartbeats 2000000
namespace K01
open PySem PySem.Spec PyProof.Rows L2 My M01
section
variable {P : Program} {w : World} {K : PySem.W.Frag} {mg : Str → Option Value} {base : Heap} {A : Adr}
def sp_grab : Sp := fun vs H Q _ => ∃ (b : Addr) (n : Int), vs = [.ref b, .int n] ∧ Bag H b ∧ 0 < n ∧ n.natAbs.log2 < 9000 ∧
  ∀ r H', 0 ≤ r → r < n → But b H H' → Bag H' b → Q (.int r) H'
theorem fdiv_nn {x m : Int} (h0 : 0 ≤ x) (h : 0 < m) : 0 ≤ x.fdiv m := by
  rw [Int.fdiv_eq_ediv_of_nonneg _ (by omega)]
  exact Int.ediv_nonneg h0 (by omega)
theorem mul_ok {x m j : Int} (h : 0 < m) (h2 : m ≤ 2305843009213693951) : CMul (x.fmod m) j := by
  have h3 := fmod_nn (x := x) h
  have h4 := fmod_lt (x := x) h
  exact Or.inl ⟨by omega, by omega⟩
theorem ok__law_grab (T : Txt K mg A) : FnOk P w K mg base CX0 1 A.a__law_grab A.d__law_grab ["_law_bag_here", "_law_total"] sp_grab := by
  refine T.f__law_grab.ok sc__law_grab (fun vs H Q E h => ?_) (fun cdv B out t H vs Q E hr h => ?_)
  · obtain ⟨b, n, rfl, _⟩ := h
    rfl
  · obtain ⟨b, n, rfl, bag, hn, hz, q⟩ := h
    refine ⟨_, (pss_cons (ps_if (pt_cmpR op_gt (pe_ix ix_list (pv 0) pe_int (fun _ _ => rfl)) pe_int (nomark _)) (pss_cons (ps_set (i := 2) sc__law_grab.nd rfl (Or.inl rfl) (pe_op op_modN (pe_callTy call_int1 (by rfl) T.n_int (by decide +kernel) (pa_cons (pe_ix ix_list (pv 0) pe_int (fun _ _ => rfl)) pa_nil)) (pv 1)))
      (pss_cons (ps_asg (pe_op op_fdivA (pe_ix ix_list (pv 0) pe_int (fun _ _ => rfl)) (pv 1)) (pg_sub (pv 0) pe_int set_list))
      (pss_one (ps_ret (pv 2))))) pss_nil)
      (pss_cons (ps_asg (pe_op op_add (pe_ix ix_list (pv 0) pe_int (fun _ _ => rfl)) pe_int) (pg_sub (pv 0) pe_int set_list))
      (pss_cons (ps_set (i := 3) sc__law_grab.nd rfl (Or.inl rfl) (pe_op op_modN (pe_callTy call_int1 (by rfl) T.n_int (by decide +kernel) (pa_cons (pe_op op_add (pe_ix ix_list (pv 0) pe_int (fun _ _ => rfl)) (pe_op op_mul pe_int (pe_ix ix_list (pv 0) pe_int (fun _ _ => rfl)))) pa_nil)) pe_int))
      (pss_cons (ps_set (i := 4) sc__law_grab.nd rfl (Or.inl rfl) (pe_op op_add (pe_op op_mul (pe_op op_modN (pe_callTy call_int1 (by rfl) T.n_int (by decide +kernel) (pa_cons (pe_op op_mul (pv 3) (pv 3)) pa_nil)) pe_int) (pv 3)) (pe_op op_mul pe_int (pe_ix ix_list (pv 0) pe_int (fun _ _ => rfl)))))
      (pss_one (ps_ret (pe_op op_modN (pe_callTy call_int1 (by rfl) T.n_int (by decide +kernel) (pa_cons (pe_op op_fdivN (pe_op op_modN (pe_callTy call_int1 (by rfl) T.n_int (by decide +kernel) (pa_cons (pv 4) pa_nil)) pe_int) pe_int) pa_nil)) (pv 1)))))))), ?_⟩
    obtain ⟨x, y, z, hb, hx, hy, hy2⟩ := bag
    have sq : SqL K H b [.int x, .int y, .int z] := Evl.sq_of hb
    refine ⟨_, rfl, b, _, _, _, rfl, rfl, sq, rfl, _, _, rfl, rfl, _, rfl, ?_⟩
    refine ite2 (fun c1 => ?_) (fun c1 => ?_)
    · refine ⟨_, rfl, b, _, _, _, rfl, rfl, sq, rfl, Or.inl ⟨_, rfl, _, rfl, _, _, rfl, rfl, Int.ne_of_gt hn, ?_⟩⟩
      refine ⟨_, rfl, b, _, _, _, rfl, rfl, sq, rfl, _, rfl, _, _, rfl, rfl, ⟨Int.ne_of_gt hn, hz⟩, ?_⟩
      refine ⟨_, rfl, b, _, _, 0, rfl, rfl, hb, rfl, ?_⟩
      refine ⟨_, rfl, ?_⟩
      exact q _ _ (fmod_nn hn) (fmod_lt hn) But.put ⟨_, y, z, upd_same, fdiv_nn hx hn, hy, hy2⟩
    · refine ⟨_, rfl, b, _, _, _, rfl, rfl, sq, rfl, _, _, rfl, rfl, ?_⟩
      refine ⟨_, rfl, b, _, _, 2, rfl, rfl, hb, rfl, ?_⟩
      have sq2 : SqL K (upd H b (.lst ([V.int x, V.int y, V.int z].set 2 (.int (z + 1))))) b [.int x, .int y, .int (z + 1)] := Evl.sq_of upd_same
      refine ⟨_, rfl, b, _, _, _, rfl, rfl, sq2, rfl, _, rfl, b, _, _, _, rfl, rfl, sq2, rfl, _, _, rfl, rfl, Or.inl ⟨by decide, by decide⟩, _, _, rfl, rfl, Or.inl ⟨_, rfl, _, _, rfl, rfl, ne_b, ?_⟩⟩
      refine ⟨_, rfl, _, rfl, _, _, rfl, rfl, mul_ok (by decide) (by decide), Or.inl ⟨_, rfl, _, _, rfl, rfl, ne_a, _, rfl, _, _, rfl, rfl, mul_ok (by decide) (by decide), ?_⟩⟩
      refine ⟨_, rfl, b, _, _, _, rfl, rfl, sq2, rfl, _, _, rfl, rfl, Or.inl ⟨by decide, by decide⟩, _, _, rfl, rfl, ?_⟩
      refine ⟨_, rfl, Or.inl ⟨_, rfl, _, _, rfl, rfl, by exact (by decide : (2305843009213693921 : Int) ≠ 0), _, _, rfl, rfl, ⟨by decide, by decide⟩, Or.inl ⟨_, rfl, _, rfl, _, _, rfl, rfl, Int.ne_of_gt hn, ?_⟩⟩⟩
      exact q _ _ (fmod_nn hn) (fmod_lt hn) But.put ⟨x, y, z + 1, upd_same, hx, hy, hy2⟩
def sp_one_of (K : PySem.W.Frag) : Sp := fun vs H Q _ => ∃ (b p : Addr) (xs : List V), vs = [.ref b, .ref p] ∧ Bag H b ∧ p ≠ b ∧ SqL K H p xs ∧ xs ≠ [] ∧ xs.length < 1000 ∧
  ∀ v H', v ∈ xs → But b H H' → Bag H' b → Q v H'
theorem log_small {n : Nat} (h : n < 1000) : (n : Int).natAbs.log2 < 9000 := by
  have h1 := PySem.Flt.log2_lt_of (by omega : 0 < 10) (show (n : Int).natAbs < 2 ^ 10 by omega)
  omega
theorem ok__law_one_of (T : Txt K mg A) : FnOk P w K mg base CX0 2 A.a__law_one_of A.d__law_one_of ["_law_bag_here", "_law_items"] (sp_one_of K) := by
  have G__law_grab : FnOk P w K mg base CX0 1 A.a__law_grab A.d__law_grab ["_law_bag_here", "_law_total"] sp_grab := ok__law_grab T
  refine T.f__law_one_of.ok sc__law_one_of (fun vs H Q E h => ?_) (fun cdv B out t H vs Q E hr h => ?_)
  · obtain ⟨b, p, xs, rfl, _⟩ := h
    rfl
  · obtain ⟨b, p, xs, rfl, bag, hp, hs, hne, hz, q⟩ := h
    refine ⟨_, (pss_one (ps_ret (pe_ix ix_list (pv 1) (pe_call G__law_grab (hr.mono (by decide)) (by rfl) T.g__law_grab T.f__law_grab.kp (b__law_grab T) .nil pass0 (pa_cons (pv 0) (pa_cons (pe_callB call_len_seq (by rfl) T.n_len (by decide +kernel) (pa_cons (pv 1) pa_nil)) pa_nil))) (fun _ _ => rfl)))), ?_⟩
    have hl : 0 < xs.length := List.length_pos_iff.mpr hne
    refine ⟨_, rfl, _, rfl, _, rfl, p, xs, rfl, Or.inl hs, b, _, rfl, bag, by omega, log_small hz, fun r H' h0 h1 e bag' => ?_⟩
    have hk : r.toNat < xs.length := by omega
    exact ⟨p, xs, r, xs[r.toNat], rfl, rfl, e.l hp hs, at_of (by omega) (List.getElem?_eq_getElem hk), q _ _ (List.getElem_mem hk) e bag'⟩
end
end K01

set_option maxHeartbeats 2000000
namespace K01
open PySem PySem.Spec PyProof.Rows L2 My M01
section
variable {P : Program} {w : World} {K : PySem.W.Frag} {mg : Str → Option Value} {base : Heap} {A : Adr}
theorem ok__law_divisor (T : Txt K mg A) : FnOk P w K mg base CX0 1 A.a__law_divisor A.d__law_divisor ["_law_numbers"] (sp_divisor_of K) := by
  refine T.f__law_divisor.ok sc__law_divisor (fun vs H Q E h => ?_) (fun cdv B out t H vs Q E hr h => ?_)
  · obtain ⟨a, ns, rfl, _⟩ := h
    rfl
  · obtain ⟨a, ns, rfl, hs, q⟩ := h
    refine ⟨_, (pss_cons (ps_set (i := 1) sc__law_divisor.nd rfl (Or.inl rfl) pe_int)
      (pss_cons (ps_for PassesOwn.never rfl (pi_tup (pv 0)) (pg_name (i := 2) sc__law_divisor.nd rfl (Or.inl rfl)) (pss_cons (ps_set (i := 3) sc__law_divisor.nd rfl (Or.inl rfl) (pe_callB call_abs (by rfl) T.n_abs (by decide +kernel) (pa_cons (pv 2) pa_nil)))
      (pss_one (ps_while PassesOwn.never (pt_cmpR op_gt (pv 3) pe_int (nomark _)) (pss_one (ps_par (i := 1) (j := 3) (by rfl) sc__law_divisor.nd rfl rfl (by decide) rfl rfl (pa_cons (pv 3) (pa_cons (pe_op op_modN (pv 1) (pv 3)) pa_nil)) (by rfl)))))))
      (pss_one (ps_ret (pv 1))))), ?_⟩
    refine ⟨_, rfl, a, rfl, ⟨_, hs⟩, for_tup (K := K) (a := a) (xs := ns.map V.int) (fun i σ H' => H' = H ∧ ∃ v u : Option V, σ = [some (.ref a), some (.int (gcdL (ns.take i))), v, u])
      ⟨rfl, none, none, rfl⟩ (fun i σ H' _ h => by rw [h.1]; exact hs) ?_ ?_⟩
    · rintro i x σ H' hx ⟨rfl, v, u, rfl⟩
      rw [List.getElem?_map] at hx
      cases e : ns[i]? with
      | none => rw [e] at hx; cases hx
      | some n =>
        rw [e] at hx
        cases hx
        have g0 := gcdL_nonneg (ns.take i)
        refine ⟨_, rfl, _, rfl, ?_⟩
        refine while_by (fun σ H1 => H1 = H' ∧ ∃ f o : Int, 0 ≤ f ∧ 0 ≤ o ∧ ((Nat.gcd f.natAbs o.natAbs : Nat) : Int) = gcdL (ns.take (i + 1)) ∧ σ = [some (.ref a), some (.int f), some (.int n), some (.int o)])
          (fun σ _ => match σ with | [_, _, _, some (.int o)] => o.toNat | _ => 0) ?_ ?_ ?_
        · refine ⟨rfl, _, _, g0, ?_, ?_, rfl⟩
          · split <;> omega
          · rw [take_next e, gcdL_snoc]
            congr 2
            split <;> omega
        · rintro σ H1 ⟨rfl, f, o, f0, o0, hg, rfl⟩
          refine ⟨_, rfl, _, _, rfl, rfl, _, rfl, ?_⟩
          refine ite2 (fun c => ?_) (fun c => ?_)
          · have c' : 0 < o := of_decide_eq_true c
            refine ⟨_, rfl, _, rfl, _, rfl, _, _, rfl, rfl, Int.ne_of_gt c', _, _, rfl, ⟨rfl, o, f.fmod o, o0, fmod_nn c', ?_, rfl⟩, ?_⟩
            · rw [← hg]
              have e1 : f.fmod o = ((f.natAbs % o.natAbs : Nat) : Int) := by
                rw [Int.fmod_eq_emod_of_nonneg _ o0]
                rw [Int.natCast_emod]
                congr 1 <;> omega
              rw [e1, Int.natAbs_natCast, Nat.gcd_comm f.natAbs o.natAbs, Nat.gcd_rec o.natAbs f.natAbs, Nat.gcd_comm]
            · show (f.fmod o).toNat < o.toNat
              have h1 := fmod_nn (x := f) c'
              have h2 := fmod_lt (x := f) c'
              omega
          · have c' : ¬ 0 < o := fun z => c (decide_eq_true z)
            obtain rfl : o = 0 := by omega
            refine ⟨rfl, some (.int n), some (.int 0), ?_⟩
            rw [← hg]
            simp only [Int.natAbs_zero, Nat.gcd_zero_right]
            rw [Int.natAbs_of_nonneg f0]
        · rintro σ H1 Q1 Q2 k ⟨v, hv, i, j, h1, h2, b, h3, h4⟩
          exact ⟨v, hv, i, j, h1, h2, b, h3, k _ _ h4⟩
    · rintro σ H' ⟨rfl, v, u, rfl⟩
      rw [List.length_map, List.take_length]
      exact ⟨_, rfl, q⟩
def sp_whole : Sp := fun vs H Q _ => ∃ (b : Addr) (n : Int), vs = [.ref b, .int n] ∧ Bag H b ∧ 0 ≤ n ∧ n.natAbs < 2 ^ 200 ∧
  ∀ r H', -n ≤ r → r ≤ n → But b H H' → Bag H' b → Q (.int r) H'
theorem log_big {n : Int} {k : Nat} (h : n.natAbs < 2 ^ k) (h2 : k ≤ 8000) (h3 : 0 < k) : n.natAbs.log2 < 9000 := by
  have h1 := PySem.Flt.log2_lt_of h3 h
  omega
theorem ok__law_whole (T : Txt K mg A) : FnOk P w K mg base CX0 2 A.a__law_whole A.d__law_whole ["_law_bag_here", "_law_high"] sp_whole := by
  have G__law_grab : FnOk P w K mg base CX0 1 A.a__law_grab A.d__law_grab ["_law_bag_here", "_law_total"] sp_grab := ok__law_grab T
  refine T.f__law_whole.ok sc__law_whole (fun vs H Q E h => ?_) (fun cdv B out t H vs Q E hr h => ?_)
  · obtain ⟨b, n, rfl, _⟩ := h
    rfl
  · obtain ⟨b, n, rfl, bag, h0, hz, q⟩ := h
    refine ⟨_, (pss_one (ps_ret (pe_op op_sub (pe_call G__law_grab (hr.mono (by decide)) (by rfl) T.g__law_grab T.f__law_grab.kp (b__law_grab T) .nil pass0 (pa_cons (pv 0) (pa_cons (pe_op op_add (pe_op op_mul pe_int (pv 1)) pe_int) pa_nil))) (pv 1)))), ?_⟩
    have hz2 : (2 * n + 1).natAbs < 2 ^ 202 := by
      have : (2 : Nat) ^ 202 = 4 * 2 ^ 200 := by decide
      generalize (2 : Nat) ^ 200 = y at *
      omega
    refine ⟨_, rfl, _, rfl, _, _, rfl, rfl, Or.inl ⟨by decide, by decide⟩, _, _, rfl, rfl, b, _, rfl, bag, by omega, log_big hz2 (by decide) (by decide), fun r H' h1 h2 e bag' => ?_⟩
    exact ⟨_, rfl, _, _, rfl, rfl, q _ _ (by omega) (by omega) e bag'⟩
theorem abs_lt (i : Int) : decide ((if i < 0 then -i else i) < 10 ^ 60) = isI (.int i) := by
  have e : isI (.int i) = (decide (-(10 ^ 60) < i) && decide (i < 10 ^ 60)) := rfl
  rw [e, ← Bool.decide_and]
  congr 1
  generalize (10 : Int) ^ 60 = z
  apply propext
  split <;> constructor <;> intro h <;> omega
theorem ok__law_is_short (T : Txt K mg A) : FnOk P w K mg base CX0 1 A.a__law_is_short A.d__law_is_short ["_law_value"] (sp_is_integer K) := by
  refine T.f__law_is_short.ok sc__law_is_short (fun vs H Q E h => ?_) (fun cdv B out t H vs Q E hr h => ?_)
  · obtain ⟨v, d, rfl, _⟩ := h
    rfl
  · obtain ⟨v, d, rfl, j, q⟩ := h
    refine ⟨_, (pss_one (ps_ret (pe_and (pe_callB call_isi (by rfl) T.n_isinstance (by decide +kernel) (pa_cons (pv 0) (pa_cons (pe_bltn (v := .ty "int") (by rfl) T.n_int (by decide +kernel) rfl) pa_nil))) (pe_and (pe_not (pe_callB call_isi (by rfl) T.n_isinstance (by decide +kernel) (pa_cons (pv 0) (pa_cons (pe_bltn (v := .ty "bool") (by rfl) T.n_bool (by decide +kernel) rfl) pa_nil)))) (pe_one (pe_cmpR op_lt (pe_callB call_abs (by rfl) T.n_abs (by decide +kernel) (pa_cons (pv 0) pa_nil)) (pe_op op_pow pe_int pe_int) (nomark _))))))), ?_⟩
    refine ⟨_, rfl, _, _, _, _, _, rfl, .ty "int", j.ty, kit_ty (kit_int d), ⟨_, rfl, ?_⟩⟩
    have q' : Q (.bl (isI d)) H := q
    cases d
    case int i =>
      cases j
      refine iteT ⟨_, rfl, _, _, _, _, _, rfl, .ty "bool", (Jd.int i).ty, kit_ty (kit_bool _), ⟨_, rfl, _, rfl, iteT ?_⟩⟩
      refine ⟨_, rfl, _, rfl, _, _, rfl, rfl, ⟨by decide, by decide, by decide⟩, _, _, rfl, rfl, ?_⟩
      rw [← abs_lt] at q'
      exact q'
    case bool b =>
      cases j
      exact iteT ⟨_, rfl, _, _, _, _, _, rfl, .ty "bool", (Jd.bl b).ty, kit_ty (kit_bool _), ⟨_, rfl, _, rfl, iteF q'⟩⟩
    all_goals exact iteF q'
end
end K01

set_option maxHeartbeats 400000
namespace K01
open PySem PySem.Spec PyProof.Rows L2 My M01
section
variable {P : Program} {w : World} {K : PySem.W.Frag} {mg : Str → Option Value} {base : Heap} {A : Adr}
theorem ratD_len {ds : List PyData} (h : (ds.length : Int) ≠ 2) : ratD (.tuple ds) = false := by
  unfold ratD
  split
  · rename_i a b e
    cases e
    simp at h
  · rfl
theorem two_of {H : Hp} : ∀ {xs : List V} {ds : List PyData}, JdAll K H xs ds → (xs.length : Int) = 2 → ∃ x y d e, xs = [x, y] ∧ ds = [d, e] ∧ Jd K H x d ∧ Jd K H y e
  | _, _, .nil, h => by simp at h
  | _, _, .cons a .nil, h => by simp at h
  | _, _, .cons a (.cons b .nil), _ => ⟨_, _, _, _, rfl, rfl, a, b⟩
  | _, _, .cons a (.cons b (.cons c t)), h => by simp at h; omega
theorem ratD_no1 {d e : PyData} (ix : isI d = false) : ratD (.tuple [d, e]) = false := by
  unfold ratD
  split
  · rename_i a b z
    cases z
    rw [ix, Bool.false_and, Bool.false_and, Bool.false_and]
  · rfl
theorem ratD_no2 {d e : PyData} (ix : isI e = false) : ratD (.tuple [d, e]) = false := by
  unfold ratD
  split
  · rename_i a b z
    cases z
    rw [ix, Bool.and_false, Bool.false_and, Bool.false_and]
  · rfl
theorem isI_int {d : PyData} (h : isI d = true) : ∃ i, d = .int i := by
  cases d <;> simp [isI] at h
  exact ⟨_, rfl⟩
theorem ratD_nt {d : PyData} (h : tupD d = false) : ratD d = false := by
  cases d <;> first | rfl | (simp [tupD] at h)
theorem ok__law_is_ratio (T : Txt K mg A) : FnOk P w K mg base CX0 2 A.a__law_is_ratio A.d__law_is_ratio ["_law_value"] (sp_is_ratio K) := by
  have G__law_is_short : FnOk P w K mg base CX0 1 A.a__law_is_short A.d__law_is_short ["_law_value"] (sp_is_integer K) := ok__law_is_short T
  have G__law_divisor : FnOk P w K mg base CX0 1 A.a__law_divisor A.d__law_divisor ["_law_numbers"] (sp_divisor_of K) := ok__law_divisor T
  refine T.f__law_is_ratio.ok sc__law_is_ratio (fun vs H Q E h => ?_) (fun cdv B out t H vs Q E hr h => ?_)
  · obtain ⟨v, d, rfl, _⟩ := h
    rfl
  · obtain ⟨v, d, rfl, j, q⟩ := h
    refine ⟨_, (pss_cons (ps_if (PW.pt (pw_or (pt_not (pt_val (pe_callB call_isi (by rfl) T.n_isinstance (by decide +kernel) (pa_cons (pv 0) (pa_cons (pe_bltn (v := .ty "tuple") (by rfl) T.n_tuple (by decide +kernel) rfl) pa_nil))))) (pw_or (pt_cmpR op_ne (pe_callB call_len_seq (by rfl) T.n_len (by decide +kernel) (pa_cons (pv 0) pa_nil)) pe_int (nomark _)) (pw_or (pt_not (pt_val (pe_call G__law_is_short (hr.mono (by decide)) (by rfl) T.g__law_is_short T.f__law_is_short.kp (b__law_is_short T) .nil pass0 (pa_cons (pe_ix ix_tup (pv 0) pe_int (fun _ _ => rfl)) pa_nil)))) (pw_or1 (pt_not (pt_val (pe_call G__law_is_short (hr.mono (by decide)) (by rfl) T.g__law_is_short T.f__law_is_short.kp (b__law_is_short T) .nil pass0 (pa_cons (pe_ix ix_tup (pv 0) pe_int (fun _ _ => rfl)) pa_nil))))))))) (pss_one (ps_ret pe_bl)) pss_nil)
      (pss_one (ps_ret (pe_and (pe_cmpR op_gt (pe_ix ix_tup (pv 0) pe_int (fun _ _ => rfl)) pe_int (nomark _)) (pe_one (pe_cmpR op_eq (pe_call G__law_divisor (hr.mono (by decide)) (by rfl) T.g__law_divisor T.f__law_divisor.kp (b__law_divisor T) .nil pass0 (pa_cons (pv 0) pa_nil)) pe_int (nomark _))))))), ?_⟩
    have q' := q H (Same.refl _)
    refine ⟨_, rfl, _, _, _, _, _, rfl, .ty "tuple", j.ty, kit_ty (kit_tuple d), ⟨_, rfl, ?_⟩⟩
    cases d with
    | tuple ds =>
      cases j with
      | tup hs ha =>
        rename_i p xs
        have hl := ha.length
        refine iteF ?_
        refine ⟨_, rfl, p, xs, rfl, Or.inr hs, rfl, _, rfl, ?_⟩
        by_cases c : (xs.length : Int) = 2
        · rw [c]
          refine iteF ?_
          obtain ⟨x, y, d, e, hx2, hd2, jx, jy⟩ := two_of ha c
          subst hx2
          subst hd2
          · refine ⟨_, rfl, p, _, 0, _, rfl, rfl, hs, rfl, x, d, rfl, jx, _, rfl, ?_⟩
            cases ix : isI d with
            | false =>
              have er : ratD (.tuple [d, e]) = false := ratD_no1 ix
              rw [er] at q'
              exact iteT q'
            | true =>
              refine iteF ⟨_, rfl, p, _, 1, _, rfl, rfl, hs, rfl, y, e, rfl, jy, _, rfl, ?_⟩
              cases iy : isI e with
              | false =>
                have er : ratD (.tuple [d, e]) = false := ratD_no2 iy
                rw [er] at q'
                exact iteT q'
              | true =>
                refine iteF ?_
                obtain ⟨a, rfl⟩ := isI_int ix
                obtain ⟨b, rfl⟩ := isI_int iy
                cases jx
                cases jy
                have er : ratD (.tuple [.int a, .int b]) = (decide (0 < b) && decide (gcdL [a, b] = 1)) := by
                  show (isI (.int a) && isI (.int b) && _ && _) = _
                  rw [ix, iy]
                  rfl
                rw [er] at q'
                refine ⟨_, rfl, p, _, 1, _, rfl, rfl, hs, rfl, _, _, rfl, rfl, _, rfl, ?_⟩
                by_cases c : 0 < b
                · refine if_pos_of (decide_eq_true c) ?_
                  rw [decide_eq_true c, Bool.true_and] at q'
                  refine ⟨_, rfl, p, [a, b], rfl, hs, rfl, ?_⟩
                  have ee : decide (V.int (gcdL [a, b]) = V.int 1) = decide (gcdL [a, b] = 1) := by
                    by_cases g : gcdL [a, b] = 1
                    · rw [g]; rfl
                    · rw [decide_eq_false g, decide_eq_false (fun z => g (V.int.inj z))]
                  rw [ee]
                  exact q'
                · refine if_neg_of (decide_eq_false c) ?_
                  rw [decide_eq_false c, Bool.false_and] at q'
                  exact q'
        · rw [decide_eq_false (fun z => c (V.int.inj z))]
          rw [ratD_len (by rw [← hl]; exact c)] at q'
          exact iteT q'
    | _ =>
      rw [ratD_nt rfl] at q'
      exact iteT q'
end
end K01

set_option maxHeartbeats 400000
namespace K01
open PySem PySem.Spec PyProof.Rows L2 My M01
section
variable {P : Program} {w : World} {K : PySem.W.Frag} {mg : Str → Option Value} {base : Heap} {A : Adr}
/-- a drawn ratio -/
structure Drawn (H : Hp) (p : Addr) (a c : Int) : Prop where
  two : Two H p (a, c)
  top : -(10 ^ 20) ≤ a ∧ a ≤ 10 ^ 20
  bot : 0 < c ∧ c ≤ 10 ^ 20
  gcd : gcdL [a, c] = 1
def sp_ratio (K : PySem.W.Frag) : Sp := fun vs H Q _ => ∃ (b : Addr), vs = [.ref b] ∧ Bag H b ∧ ∀ p a c H', But b H H' → Bag H' b → H p = none → Drawn H' p a c → Q (.ref p) H'
theorem But.free {b : Addr} {H H' : Hp} (e : But b H H') (bag : Bag H b) {p : Addr} (n : H' p = none) (bag' : Bag H' b) : H p = none := by
  cases h : H p with
  | none => rfl
  | some o =>
    by_cases hp : p = b
    · subst hp
      obtain ⟨x, y, z, hb, _⟩ := bag'
      rw [hb] at n
      cases n
    · rw [e p o h hp] at n
      cases n
theorem ok__law_ratio (T : Txt K mg A) : FnOk P w K mg base CX0 3 A.a__law_ratio A.d__law_ratio ["_law_bag_here"] (sp_ratio K) := by
  have G__law_grab : FnOk P w K mg base CX0 1 A.a__law_grab A.d__law_grab ["_law_bag_here", "_law_total"] sp_grab := ok__law_grab T
  have G__law_one_of : FnOk P w K mg base CX0 2 A.a__law_one_of A.d__law_one_of ["_law_bag_here", "_law_items"] (sp_one_of K) := ok__law_one_of T
  have G__law_whole : FnOk P w K mg base CX0 2 A.a__law_whole A.d__law_whole ["_law_bag_here", "_law_high"] sp_whole := ok__law_whole T
  have G__law_divisor : FnOk P w K mg base CX0 1 A.a__law_divisor A.d__law_divisor ["_law_numbers"] (sp_divisor_of K) := ok__law_divisor T
  refine T.f__law_ratio.ok sc__law_ratio (fun vs H Q E h => ?_) (fun cdv B out t H vs Q E hr h => ?_)
  · obtain ⟨b, rfl, _⟩ := h
    rfl
  · obtain ⟨b, rfl, bag, q⟩ := h
    refine ⟨_, (pss_cons (ps_set (i := 1) sc__law_ratio.nd rfl (Or.inl rfl) (pe_call G__law_one_of (hr.mono (by decide)) (by rfl) T.g__law_one_of T.f__law_one_of.kp (b__law_one_of T) .nil pass0 (pa_cons (pv 0) (pa_cons (pe_lst (pa_cons pe_int (pa_cons pe_int (pa_cons pe_int (pa_cons (pe_op op_pow pe_int pe_int) pa_nil))))) pa_nil))))
      (pss_cons (ps_par (i := 2) (j := 3) (by rfl) sc__law_ratio.nd rfl rfl (by decide) rfl rfl (pa_cons (pe_call G__law_whole (hr.mono (by decide)) (by rfl) T.g__law_whole T.f__law_whole.kp (b__law_whole T) .nil pass0 (pa_cons (pv 0) (pa_cons (pv 1) pa_nil))) (pa_cons (pe_op op_add pe_int (pe_call G__law_grab (hr.mono (by decide)) (by rfl) T.g__law_grab T.f__law_grab.kp (b__law_grab T) .nil pass0 (pa_cons (pv 0) (pa_cons (pv 1) pa_nil)))) pa_nil)) (by rfl))
      (pss_cons (ps_set (i := 4) sc__law_ratio.nd rfl (Or.inl rfl) (pe_call G__law_divisor (hr.mono (by decide)) (by rfl) T.g__law_divisor T.f__law_divisor.kp (b__law_divisor T) .nil pass0 (pa_cons (pe_tup (pa_cons (pv 2) (pa_cons (pv 3) pa_nil))) pa_nil)))
      (pss_one (ps_ret (pe_tup (pa_cons (pe_op op_fdivA (pv 2) (pv 4)) (pa_cons (pe_op op_fdivA (pv 3) (pv 4)) pa_nil)))))))), ?_⟩
    refine ⟨_, rfl, _, _, rfl, rfl, ⟨by decide, by decide, by decide⟩, (by show 4 ≤ sizeLine; decide), fun p0 hp0 => ?_⟩
    refine ⟨b, p0, _, rfl, bag.upd hp0, bag.ne hp0, Evl.sq_of upd_same, by simp, by simp, fun v H1 hv e1 b1 => ?_⟩
    obtain ⟨n, rfl, n0, n1⟩ : ∃ n : Int, v = .int n ∧ 1 ≤ n ∧ n ≤ 10 ^ 20 := by
      simp only [List.mem_cons, List.not_mem_nil, or_false] at hv
      rcases hv with h | h | h | h <;> subst h <;> exact ⟨_, rfl, by decide +kernel, by decide +kernel⟩
    have nb : n.natAbs < 2 ^ 200 := by
      have e : (10 : Int) ^ 20 < 2 ^ 200 := by decide +kernel
      have e2 : ((2 ^ 200 : Nat) : Int) = (2 : Int) ^ 200 := by decide +kernel
      generalize (10 : Int) ^ 20 = z at *
      generalize (2 : Int) ^ 200 = y at *
      generalize (2 : Nat) ^ 200 = y' at *
      omega
    refine ⟨_, rfl, _, rfl, b, n, rfl, b1, by omega, nb, fun t H2 t0 t1 e2 b2 => ?_⟩
    refine ⟨_, rfl, _, rfl, b, n, rfl, b2, by omega, log_big nb (by decide) (by decide), fun g H3 g0 g1 e3 b3 => ⟨_, _, rfl, rfl, _, _, rfl, ?_⟩⟩
    have hb : (1 + g) ≠ 0 := by omega
    refine ⟨_, rfl, _, rfl, (by show 2 ≤ sizeLine; decide), fun p1 hp1 => ⟨p1, [t, 1 + g], rfl, Or.inl (Or.inl upd_same), ?_⟩⟩
    have es : shareOf t (1 + g) = gcdL [t, 1 + g] := if_neg (by omega)
    have sn := share_ne (t := t) hb
    have sl : (shareOf t (1 + g)).natAbs.log2 < 9000 := by
      have h1 := share_le (t := t) hb
      exact log_big (k := 200) (by omega) (by decide) (by decide)
    rw [es] at sn sl
    refine ⟨_, rfl, _, rfl, _, _, rfl, rfl, ⟨sn, sl⟩, _, rfl, _, rfl, _, _, rfl, rfl, ⟨sn, sl⟩, (by show 2 ≤ sizeLine; decide), fun p2 hp2 => ?_⟩
    have e4 : But b H (upd (upd H3 p1 (.tup [.int t, .int (1 + g)])) p2 (.tup [.int (t.fdiv (gcdL [t, 1 + g])), .int ((1 + g).fdiv (gcdL [t, 1 + g]))])) :=
      (((But.of (same_new hp0)).trans e1).trans (e2.trans e3)).trans (But.of ((same_new hp1).trans (same_new hp2)))
    have b4 : Bag (upd (upd H3 p1 (.tup [.int t, .int (1 + g)])) p2 (.tup [.int (t.fdiv (gcdL [t, 1 + g])), .int ((1 + g).fdiv (gcdL [t, 1 + g]))])) b := (b3.upd hp1).upd hp2
    have hpn : H p2 = none := by
      have h3 : H3 p2 = none := (same_new hp1).free hp2
      have h0 : (upd H p0 (.lst [.int 3, .int 12, .int 1000, .int (10 ^ (20 : Int).toNat)])) p2 = none := But.free (e1.trans (e2.trans e3)) (bag.upd hp0) h3 b3
      exact (same_new hp0).free h0
    have lt := low_le_t t (1 + g) hb
    have lb := low_le_b t (1 + g) hb
    have lp := low_pos (t := t) hb
    refine q p2 (low t (1 + g)).1 (low t (1 + g)).2 _ e4 b4 hpn ⟨?_, ?_, ?_, ?_⟩
    · show upd _ p2 _ p2 = _
      rw [upd_same]
      unfold low
      rw [es]
    · generalize (10 : Int) ^ 20 = z at *
      omega
    · generalize (10 : Int) ^ 20 = z at *
      omega
    · rw [gcdL_two, low_gcd hb]
      rfl
def sp_lowered_pair : Sp := fun vs H Q _ => ∃ t b, vs = [.int t, .int b] ∧ b ≠ 0 ∧ b.natAbs < 2 ^ 8000 ∧ ∀ p H', Same H H' → H p = none → Two H' p (low t b) → Q (.ref p) H'
theorem ok__law_lowered_pair (T : Txt K mg A) : FnOk P w K mg base CX0 2 A.a__law_lowered_pair A.d__law_lowered_pair ["_law_top", "_law_bottom"] sp_lowered_pair := by
  have G__law_divisor : FnOk P w K mg base CX0 1 A.a__law_divisor A.d__law_divisor ["_law_numbers"] (sp_divisor_of K) := ok__law_divisor T
  refine T.f__law_lowered_pair.ok sc__law_lowered_pair (fun vs H Q E h => ?_) (fun cdv B out s H vs Q E hr h => ?_)
  · obtain ⟨t, b, rfl, _⟩ := h
    rfl
  · obtain ⟨t, b, rfl, hb, hz, q⟩ := h
    refine ⟨_, (pss_cons (ps_set (i := 2) sc__law_lowered_pair.nd rfl (Or.inl rfl) (pe_op op_mulW (pe_call G__law_divisor (hr.mono (by decide)) (by rfl) T.g__law_divisor T.f__law_divisor.kp (b__law_divisor T) .nil pass0 (pa_cons (pe_tup (pa_cons (pv 0) (pa_cons (pv 1) pa_nil))) pa_nil)) (pe_ifExp (pt_cmpR op_gt (pv 1) pe_int (nomark _)) pe_int (pe_un un_neg pe_int))))
      (pss_one (ps_ret (pe_tup (pa_cons (pe_op op_fdivA (pv 0) (pv 2)) (pa_cons (pe_op op_fdivA (pv 1) (pv 2)) pa_nil)))))), ?_⟩
    refine ⟨_, rfl, _, rfl, (by show 2 ≤ sizeLine; decide), fun p hp => ⟨p, [t, b], rfl, Or.inl (Or.inl upd_same), ?_⟩⟩
    have sn := share_ne (t := t) hb
    have s2 := share_le (t := t) hb
    have sl : (shareOf t b).natAbs.log2 < 9000 := log_big (k := 8000) (by omega) (by decide) (by decide)
    have gl : (gcdL [t, b]).natAbs < 2 ^ 8000 := by
      rw [gcdL_two, ← share_abs, Int.natAbs_natCast]
      omega
    have mu : ∀ z : Int, z.natAbs < 2 ^ 2 → CMulW (gcdL [t, b]) z := fun z h => wide_mul gl h (by decide) (by decide) (by decide)
    refine ⟨_, rfl, _, _, rfl, rfl, _, rfl, ?_⟩
    refine ite2 (fun c => ?_) (fun c => ?_)
    · have es : shareOf t b = gcdL [t, b] * 1 := by
        have c' : 0 < b := of_decide_eq_true c
        rw [Int.mul_one]
        exact if_neg (by omega)
      rw [es] at sn sl
      refine ⟨_, _, rfl, rfl, mu 1 (by decide), ?_⟩
      refine ⟨_, rfl, _, rfl, _, _, rfl, rfl, ⟨sn, sl⟩, _, rfl, _, rfl, _, _, rfl, rfl, ⟨sn, sl⟩, (by show 2 ≤ sizeLine; decide), fun p2 hp2 => ?_⟩
      refine q p2 _ ((same_new hp).trans (same_new hp2)) ((same_new hp).free hp2) ?_
      show upd _ p2 _ p2 = _
      rw [upd_same]
      unfold low
      rw [es]
    · have es : shareOf t b = gcdL [t, b] * -1 := by
        have c' : ¬ 0 < b := fun z => c (decide_eq_true z)
        unfold shareOf
        rw [if_pos (by omega)]
        omega
      rw [es] at sn sl
      refine ⟨_, rfl, _, _, rfl, rfl, mu (-1) (by decide), ?_⟩
      refine ⟨_, rfl, _, rfl, _, _, rfl, rfl, ⟨sn, sl⟩, _, rfl, _, rfl, _, _, rfl, rfl, ⟨sn, sl⟩, (by show 2 ≤ sizeLine; decide), fun p2 hp2 => ?_⟩
      refine q p2 _ ((same_new hp).trans (same_new hp2)) ((same_new hp).free hp2) ?_
      show upd _ p2 _ p2 = _
      rw [upd_same]
      unfold low
      rw [es]
end
end K01

set_option maxHeartbeats 400000
namespace K01
open PySem PySem.Spec PyProof.Rows L2 My M01
local macro_rules | `(tactic| walk_at "mk") => `(tactic| (repeat' first
  | exact mxa_nil | exact mx_bool | exact mx_non | exact mx_str | exact mx_dct | exact mi_int | exact mi_var rfl
  | exact mi_opk ⟨by decide, by decide, by decide⟩
  | apply mxa_cons | apply mx_tup | apply mx_lst | apply mi_op0 | apply mi_neg
  | (refine mi_opc ?_ (fun _ => Or.inl ⟨by decide, by decide⟩))
  | apply MkI.x
  | decide))
section
variable {P : Program} {w : World} {K : PySem.W.Frag} {mg : Str → Option Value} {base : Heap} {A : Adr}
theorem two_list {H : Hp} {p : Addr} {x y : Bool} : Dp K (upd H p (.lst [.bl x, .bl y])) (.ref p) (.list [.bool x, .bool y]) :=
  .lst (Evl.sq_of upd_same) (.cons (.bl x) (.cons (.bl y) .nil))
theorem shown_two (x y : Bool) : (PyData.list [.bool x, .bool y]).shown.length ≤ sizeLine := by
  cases x <;> cases y <;> exact Nat.le_trans (by decide +kernel : _ ≤ 100) (by decide)
def sp_true : Sp := fun vs H Q _ => ∃ (b : Addr), vs = [.ref b] ∧ Bag H b ∧ ∀ H', But b H H' → Bag H' b → Q (.bl true) H'
theorem ok__law_judged (T : Txt K mg A) : FnG P w K mg base CX0 6 A.a__law_judged A.d__law_judged ["_law_bag_here"] sp_true := by
  have G__law_ratio : FnOk P w K mg base CX0 3 A.a__law_ratio A.d__law_ratio ["_law_bag_here"] (sp_ratio K) := ok__law_ratio T
  have G_is_integer : FnOk P w K mg base CX0 2 A.a_is_integer A.d_is_integer ["value"] (sp_is_integer K) := ok_is_integer T
  have G_is_ratio : FnOk P w K mg base CX0 4 A.a_is_ratio A.d_is_ratio ["value"] (sp_is_ratio K) := ok_is_ratio T
  have G__law_is_short : FnOk P w K mg base CX0 1 A.a__law_is_short A.d__law_is_short ["_law_value"] (sp_is_integer K) := ok__law_is_short T
  have G__law_is_ratio : FnOk P w K mg base CX0 2 A.a__law_is_ratio A.d__law_is_ratio ["_law_value"] (sp_is_ratio K) := ok__law_is_ratio T
  refine fun_g T.f__law_judged sc__law_judged (fun vs H Q E h => ?_) (fun cdv B out t H vs Q E hr hg h => ?_)
  · obtain ⟨b, rfl, _⟩ := h
    rfl
  · obtain ⟨b, rfl, bag, q⟩ := h
    refine ⟨_, (pss_cons (ps_asg (pe_call G__law_ratio (hr.mono (by decide)) (by rfl) T.g__law_ratio T.f__law_ratio.kp (b__law_ratio T) .nil pass0 (pa_cons (pv 0) pa_nil)) (pg_tup (by rfl) (pgs_cons (pg_name (i := 1) sc__law_judged.nd rfl (Or.inl rfl)) (pgs_cons (pg_name (i := 2) sc__law_judged.nd rfl (Or.inl rfl)) pgs_nil))))
      (pss_cons (ps_set (i := 3) sc__law_judged.nd rfl (Or.inl rfl) (pe_lst (pa_cons (pv 1) (pa_cons (pe_tup (pa_cons (pv 1) (pa_cons (pv 2) pa_nil))) (pa_cons (pe_tup (pa_cons (pv 2) (pa_cons (pv 1) pa_nil))) (pa_cons (pe_tup (pa_cons (pe_op op_mul pe_int (pv 1)) (pa_cons (pe_op op_mul pe_int (pv 2)) pa_nil))) (pa_cons (pe_tup (pa_cons (pe_un un_neg (pv 1)) (pa_cons (pe_un un_neg (pv 2)) pa_nil))) (pa_cons (pe_lst (pa_cons (pv 1) (pa_cons (pv 2) pa_nil))) (pa_cons (pe_tup (pa_cons (pv 1) pa_nil)) (pa_cons (pe_tup (pa_cons (pv 1) (pa_cons (pv 2) (pa_cons pe_int pa_nil)))) pa_nil))))))))))
      (pss_cons (ps_set (i := 3) sc__law_judged.nd rfl (Or.inl rfl) (pe_op op_cat (pv 3) (pe_lst (pa_cons pe_bl (pa_cons pe_bl (pa_cons pe_non (pa_cons pe_str (pa_cons (pe_tup (pa_cons pe_bl (pa_cons pe_int pa_nil))) (pa_cons (pe_tup (pa_cons pe_int (pa_cons pe_bl pa_nil))) (pa_cons (pe_tup (pa_cons pe_int (pa_cons pe_int pa_nil))) (pa_cons (pe_tup (pa_cons pe_int (pa_cons pe_int pa_nil))) (pa_cons (pe_tup (pa_cons pe_int (pa_cons pe_int pa_nil))) (pa_cons (pe_tup (pa_cons pe_int (pa_cons pe_int pa_nil))) (pa_cons pe_dnewK (pa_cons (pe_tup pa_nil) (pa_cons (pe_op op_pow pe_int pe_int) (pa_cons (pe_op op_sub (pe_op op_pow pe_int pe_int) pe_int) pa_nil)))))))))))))))))
      (pss_cons (ps_set (i := 3) sc__law_judged.nd rfl (Or.inl rfl) (pe_op op_cat (pv 3) (pe_lst (pa_cons (pe_op op_sub pe_int (pe_op op_pow pe_int pe_int)) (pa_cons (pe_un un_neg (pe_op op_pow pe_int pe_int)) (pa_cons (pe_tup (pa_cons (pe_op op_pow pe_int pe_int) (pa_cons pe_int pa_nil))) (pa_cons (pe_tup (pa_cons pe_int (pa_cons (pe_op op_pow pe_int pe_int) pa_nil))) (pa_cons (pe_tup (pa_cons (pe_op op_sub (pe_op op_pow pe_int pe_int) pe_int) (pa_cons pe_int pa_nil))) (pa_cons (pe_tup (pa_cons (pe_tup (pa_cons pe_int (pa_cons pe_int pa_nil))) (pa_cons pe_int pa_nil))) (pa_cons (pe_tup (pa_cons pe_str (pa_cons pe_int pa_nil))) (pa_cons (pe_tup (pa_cons pe_non (pa_cons pe_int pa_nil))) pa_nil)))))))))))
      (pss_cons (ps_for PassesOwn.never rfl (pi_list (pv 3)) (pg_name (i := 4) sc__law_judged.nd rfl (Or.inl rfl)) (pss_one (ps_if (pt_cmpR op_ne (pe_callB (My.call_reprD hr.units hg) (by rfl) T.n_repr (by decide +kernel) (pa_cons (pe_lst (pa_cons (pe_call G_is_integer (hr.mono (by decide)) (by rfl) T.g_is_integer T.f_is_integer.kp (b_is_integer T) .nil pass0 (pa_cons (pv 4) pa_nil)) (pa_cons (pe_call G_is_ratio (hr.mono (by decide)) (by rfl) T.g_is_ratio T.f_is_ratio.kp (b_is_ratio T) .nil pass0 (pa_cons (pv 4) pa_nil)) pa_nil))) pa_nil)) (pe_callB (My.call_reprD hr.units hg) (by rfl) T.n_repr (by decide +kernel) (pa_cons (pe_lst (pa_cons (pe_call G__law_is_short (hr.mono (by decide)) (by rfl) T.g__law_is_short T.f__law_is_short.kp (b__law_is_short T) .nil pass0 (pa_cons (pv 4) pa_nil)) (pa_cons (pe_call G__law_is_ratio (hr.mono (by decide)) (by rfl) T.g__law_is_ratio T.f__law_is_ratio.kp (b__law_is_ratio T) .nil pass0 (pa_cons (pv 4) pa_nil)) pa_nil))) pa_nil)) (nomark _)) (pss_one (ps_ret pe_bl)) pss_nil)))
      (pss_one (ps_ret pe_bl))))))), ?_⟩
    refine ⟨_, rfl, b, rfl, bag, fun p a c H1 e1 b1 hp dr => ?_⟩
    refine ⟨p, _, rfl, Or.inl (Or.inl dr.two), rfl, ?_⟩
    refine ⟨_, _, rfl, _, _, rfl, rfl, ?_⟩
    dsimp only [tSeq]
    refine st_mkx (K := K) (n := 8) (mxl_lst ?m1 (by decide)) ?k1
    case m1 => walk_at "mk"
    case k1 =>
      intro p1 vs1 ds1 H2 e2 _ hp1 j1 l1
      dsimp only [tSeq]
      refine st_mkx (K := K) (mxl_cat (n := 14) rfl hp1 j1 (mxl_lst ?m2 (by decide)) (by omega)) ?k2
      case m2 => walk_at "mk"
      case k2 =>
        intro p2 vs2 ds2 H3 e3 _ hp2 j2 l2
        dsimp only [tSeq]
        refine st_mkx (K := K) (mxl_cat (n := 8) rfl hp2 j2 (mxl_lst ?m3 (by decide)) (by omega)) ?k3
        case m3 => walk_at "mk"
        case k3 =>
          intro p3 vs3 ds3 H4 e4 n3 hp3 j3 l3
          dsimp only [tSeq]
          have n31 : H1 p3 = none := e2.free (e3.free n3)
          have e14 : Same H1 H4 := e2.trans (e3.trans e4)
          refine ⟨_, rfl, p3, rfl, ⟨_, Evl.sq_of hp3⟩, for_list (K := K) (a := p3) (xs := vs3) (fun i σ H' => Same H4 H' ∧ ∃ v : Option V, σ = [some (.ref b), some (.int a), some (.int c), some (.ref p3), v])
            ⟨Same.refl _, none, rfl⟩ (fun i σ H' _ h => Evl.sq_of (h.1 _ _ hp3)) ?_ ?_⟩
          · rintro i x σ H' hx ⟨e5, v, rfl⟩
            obtain ⟨d, _, jd⟩ := j3.get hx
            have jd' : Jd K H' x d := Jd.mono e5 _ _ jd
            refine ⟨_, rfl, x, d, rfl, jd', _, rfl, x, d, rfl, jd', fun H6 e6 => ⟨(by show 2 ≤ sizeLine; decide), fun p6 n6 => ?_⟩⟩
            refine ⟨_, _, rfl, two_list (x := isI d) (y := ratD d), rfl, rfl, by simp [PyData.depth, PyData.depthAll], shown_two _ _, (fun _ z => by cases z), ?_⟩
            have e6' : Same H' (upd H6 p6 (.lst [.bl (isI d), .bl (ratD d)])) := e6.trans (same_new n6)
            refine ⟨_, rfl, x, d, rfl, Jd.mono e6' _ _ jd', _, rfl, x, d, rfl, Jd.mono e6' _ _ jd', fun H7 e7 => ⟨(by show 2 ≤ sizeLine; decide), fun p7 n7 => ?_⟩⟩
            refine ⟨_, _, rfl, two_list (x := isI d) (y := ratD d), rfl, rfl, by simp [PyData.depth, PyData.depthAll], shown_two _ _, (fun _ z => by cases z), ?_⟩
            refine ⟨rfl, _, rfl, iteNS rfl ?_⟩
            exact ⟨(e5.trans e6').trans (e7.trans (same_new n7)), some x, rfl⟩
          · rintro σ H' ⟨e5, v, rfl⟩
            exact q H' ((e1.trans (But.of e14)).trans (But.of e5)) ((b1.same e14).same e5)
end
end K01

set_option maxHeartbeats 1000000
namespace K01
open PySem PySem.Spec PyProof.Rows L2 My M01
section
variable {P : Program} {w : World} {K : PySem.W.Frag} {mg : Str → Option Value} {base : Heap} {A : Adr}
theorem isI_of {n : Int} (h : n.natAbs < 10 ^ 60) : isI (.int n) = true := by
  have e : ((10 ^ 60 : Nat) : Int) = (10 : Int) ^ 60 := by decide +kernel
  show (decide _ && decide _) = true
  rw [Bool.and_eq_true, decide_eq_true_eq, decide_eq_true_eq]
  generalize (10 : Int) ^ 60 = z at *
  generalize (10 : Nat) ^ 60 = y at *
  omega
theorem prod_le {a d : Int} (ha : a.natAbs ≤ 10 ^ 20) (hd : d.natAbs ≤ 10 ^ 20) : (a * d).natAbs ≤ 10 ^ 40 := by
  rw [Int.natAbs_mul]
  exact Nat.le_trans (Nat.mul_le_mul ha hd) (by decide +kernel)
theorem rat_low {t b : Int} (hb : b ≠ 0) (ht : t.natAbs < 10 ^ 60) (hb2 : b.natAbs < 10 ^ 60) : ratD (.tuple [.int (low t b).1, .int (low t b).2]) = true := by
  refine ratD_iff.mpr ⟨isI_of (Nat.lt_of_le_of_lt (low_le_t t b hb) ht), isI_of (Nat.lt_of_le_of_lt (low_le_b t b hb) hb2), low_pos hb, ?_⟩
  rw [gcdL_two, low_gcd hb]
  rfl
structure Small (a c : Int) : Prop where
  top : a.natAbs ≤ 10 ^ 20
  bot : c.natAbs ≤ 10 ^ 20
  pos : 0 < c
  gcd : Nat.gcd a.natAbs c.natAbs = 1
theorem Drawn.small {H : Hp} {p : Addr} {a c : Int} (d : Drawn H p a c) : Small a c := by
  have e : ((10 ^ 20 : Nat) : Int) = (10 : Int) ^ 20 := by decide +kernel
  have h1 := d.top
  have h2 := d.bot
  refine ⟨?_, ?_, h2.1, ?_⟩
  · generalize (10 : Int) ^ 20 = z at *
    generalize (10 : Nat) ^ 20 = y at *
    omega
  · generalize (10 : Int) ^ 20 = z at *
    generalize (10 : Nat) ^ 20 = y at *
    omega
  · have h3 := d.gcd
    rw [gcdL_two] at h3
    omega
theorem Small.isA {a c : Int} (s : Small a c) : isI (.int a) = true := isI_of (Nat.lt_of_le_of_lt s.top (by decide +kernel))
theorem Small.isC {a c : Int} (s : Small a c) : isI (.int c) = true := isI_of (Nat.lt_of_le_of_lt s.bot (by decide +kernel))
theorem Small.rat {a c : Int} (s : Small a c) : ratD (.tuple [.int a, .int c]) = true := by
  refine ratD_iff.mpr ⟨s.isA, s.isC, s.pos, ?_⟩
  rw [gcdL_two, s.gcd]
  rfl
theorem two_but {b p : Addr} {H H' : Hp} {r : Int × Int} (e : But b H H') (bag : Bag H b) (h : Two H p r) : Two H' p r := by
  obtain ⟨x, y, z, hb, _⟩ := bag
  exact e _ _ h (ne_of h hb (by intro q; cases q))
theorem two_rat {p : Addr} {H : Hp} {a c : Int} (h : Two H p (a, c)) (r : ratD (.tuple [.int a, .int c]) = true) : Rat K H p a c := ⟨Or.inl (Or.inl h), r⟩
theorem two_dp {p : Addr} {H : Hp} {r : Int × Int} (h : Two H p r) : Dp K H (.ref p) (.tuple [.int r.1, .int r.2]) :=
  .tup (Or.inl (Or.inl h)) (.cons (.int _) (.cons (.int _) .nil))
theorem two_same {p : Addr} {H H' : Hp} {r : Int × Int} (e : Same H H') (h : Two H p r) : Two H' p r := e _ _ h
theorem shown_small {i : Int} (h : i = -1 ∨ i = 0 ∨ i = 1) : (PyData.int i).shown.length ≤ sizeLine := by
  rcases h with h | h | h <;> subst h <;> exact Nat.le_trans (by decide +kernel : _ ≤ 100) (by decide)
theorem show_small {i : Int} (h : i = -1 ∨ i = 0 ∨ i = 1) : (PyData.int i).showable = true := by
  rcases h with h | h | h <;> subst h <;> decide +kernel
theorem dep_small {i : Int} (h : i = -1 ∨ i = 0 ∨ i = 1) : (PyData.int i).depth + 1 ≤ 64 := by
  rcases h with h | h | h <;> subst h <;> decide +kernel
theorem log_small1 {i : Int} (h : i = -1 ∨ i = 0 ∨ i = 1) : i.natAbs.log2 < 1920 := by
  rcases h with h | h | h <;> subst h <;> decide
theorem add_lt {x y : Int} (hx : x.natAbs ≤ 10 ^ 40) (hy : y.natAbs ≤ 10 ^ 40) : (x + y).natAbs < 10 ^ 60 ∧ (x - y).natAbs < 10 ^ 60 := by
  have : (10 : Nat) ^ 40 + 10 ^ 40 < 10 ^ 60 := by decide +kernel
  generalize (10 : Nat) ^ 60 = z at *
  generalize (10 : Nat) ^ 40 = y at *
  omega
theorem three_dp {H : Hp} {p r1 r2 r3 : Addr} {x y z : Int × Int} (hp : H p = some (.lst [.ref r1, .ref r2, .ref r3])) (h1 : Two H r1 x) (h2 : Two H r2 y) (h3 : Two H r3 z) :
    Dp K H (.ref p) (.list [.tuple [.int x.1, .int x.2], .tuple [.int y.1, .int y.2], .tuple [.int z.1, .int z.2]]) :=
  .lst (Evl.sq_of hp) (.cons (two_dp h1) (.cons (two_dp h2) (.cons (two_dp h3) .nil)))
theorem ite_copy {b : Bool} {D : Ends} {σ : St} {H : Hp} {i j : Nat} {v w : V} (h1 : σ[j]? = some (some v)) (hi : σ[i]? = some (some w))
    (hn : ∀ u, (u = v ∨ u = w) → D.nx (σ.set i (some u)) H) : if b = true then tAsg (tVar j) (gName i) D σ H else tNext D σ H := by
  cases b with
  | true => exact iteT ⟨v, h1, hn v (Or.inl rfl)⟩
  | false =>
    have h := hn w (Or.inr rfl)
    have e : σ.set i (some w) = σ := by
      apply List.ext_getElem?
      intro k
      by_cases hk : i = k
      · subst hk
        rw [List.getElem?_set_self (List.getElem?_eq_some_iff.mp hi).1, hi]
      · rw [List.getElem?_set_ne hk]
    rw [e] at h
    exact iteF h
theorem three_shaped {x y z : Int × Int} : SeqAt.shaped (.list [.tuple [.int x.1, .int x.2], .tuple [.int y.1, .int y.2], .tuple [.int z.1, .int z.2]]) = true := rfl
theorem eqv_three {x y z : Int × Int} : PyData.eqv (.list [.tuple [.int x.1, .int x.2], .tuple [.int y.1, .int y.2], .tuple [.int z.1, .int z.2]]) (.list [.tuple [.int x.1, .int x.2], .tuple [.int y.1, .int y.2], .tuple [.int z.1, .int z.2]]) = true :=
  SeqAt.eqv_refl_plain _ rfl
theorem eqv_two {x : Int × Int} : PyData.eqv (.tuple [.int x.1, .int x.2]) (.tuple [.int x.1, .int x.2]) = true := SeqAt.eqv_refl_plain _ rfl
theorem due_reads {tx ty : TE} {x y : Int} {σ : St} {H : Hp} {i : Nat} {D : Ends} (hx : ∀ Q' : VK, Q' (.int x) H → tx σ H Q') (hy : ∀ Q' : VK, Q' (.int y) H → ty σ H Q')
    (q : D.nx (σ.set i (some (.int (cmp x y)))) H) :
    tAsg (tIf (tTest (tOp rEq tx ty)) (tC (.int 0)) (tIf (tTest (tOp (rI0 fun i j => .bl (decide (j < i))) tx ty)) (tC (.int 1)) (tUn (rU fun i => .int (-i)) (tC (.int 1))))) (gName i) D σ H := by
  rw [cmp_cases] at q
  refine hx _ (hy _ ⟨rfl, _, rfl, ?_⟩)
  by_cases c : x = y
  · rw [if_pos c] at q
    refine if_pos_of (decide_eq_true (congrArg V.int c)) q
  · rw [if_neg c] at q
    refine if_neg_of (decide_eq_false (fun z => c (V.int.inj z))) ?_
    refine hx _ (hy _ ⟨_, _, rfl, rfl, _, rfl, ?_⟩)
    by_cases c2 : y < x
    · rw [if_pos c2] at q
      exact if_pos_of (decide_eq_true c2) q
    · rw [if_neg c2] at q
      exact if_neg_of (decide_eq_false c2) ⟨1, rfl, q⟩
theorem ok__law_reckoned (T : Txt K mg A) : FnG P w K mg base CX0 7 A.a__law_reckoned A.d__law_reckoned ["_law_bag_here"] sp_true := by
  have G__law_ratio : FnOk P w K mg base CX0 3 A.a__law_ratio A.d__law_ratio ["_law_bag_here"] (sp_ratio K) := ok__law_ratio T
  have G__law_grab : FnOk P w K mg base CX0 1 A.a__law_grab A.d__law_grab ["_law_bag_here", "_law_total"] sp_grab := ok__law_grab T
  have G__law_lowered_pair : FnOk P w K mg base CX0 2 A.a__law_lowered_pair A.d__law_lowered_pair ["_law_top", "_law_bottom"] sp_lowered_pair := ok__law_lowered_pair T
  have G_compare : FnOk P w K mg base CX0 6 A.a_compare A.d_compare ["one", "other"] (sp_compare K) := ok_compare T
  have G_plus : FnOk P w K mg base CX0 6 A.a_plus A.d_plus ["one", "other"] (sp_plus K) := ok_plus T
  have G_minus : FnOk P w K mg base CX0 6 A.a_minus A.d_minus ["one", "other"] (sp_minus K) := ok_minus T
  have G_times : FnOk P w K mg base CX0 6 A.a_times A.d_times ["one", "other"] (sp_times K) := ok_times T
  refine fun_g T.f__law_reckoned sc__law_reckoned (fun vs H Q E h => ?_) (fun cdv B out t H vs Q E hr hg h => ?_)
  · obtain ⟨b, rfl, _⟩ := h
    rfl
  · obtain ⟨b0, rfl, bag, q⟩ := h
    refine ⟨_, (pss_cons (ps_par (i := 1) (j := 2) (by rfl) sc__law_reckoned.nd rfl rfl (by decide) rfl rfl (pa_cons (pe_call G__law_ratio (hr.mono (by decide)) (by rfl) T.g__law_ratio T.f__law_ratio.kp (b__law_ratio T) .nil pass0 (pa_cons (pv 0) pa_nil)) (pa_cons (pe_call G__law_ratio (hr.mono (by decide)) (by rfl) T.g__law_ratio T.f__law_ratio.kp (b__law_ratio T) .nil pass0 (pa_cons (pv 0) pa_nil)) pa_nil)) (by rfl))
      (pss_cons (ps_if (pt_cmpR op_eq (pe_call G__law_grab (hr.mono (by decide)) (by rfl) T.g__law_grab T.f__law_grab.kp (b__law_grab T) .nil pass0 (pa_cons (pv 0) (pa_cons pe_int pa_nil))) pe_int (nomark _)) (pss_one (ps_set (i := 2) sc__law_reckoned.nd rfl (Or.inl rfl) (pv 1))) pss_nil)
      (pss_cons (ps_asg (pe_tup (pa_cons (pv 1) (pa_cons (pv 2) pa_nil))) (pg_tup (by rfl) (pgs_cons (pg_tup (by rfl) (pgs_cons (pg_name (i := 3) sc__law_reckoned.nd rfl (Or.inl rfl)) (pgs_cons (pg_name (i := 4) sc__law_reckoned.nd rfl (Or.inl rfl)) pgs_nil))) (pgs_cons (pg_tup (by rfl) (pgs_cons (pg_name (i := 5) sc__law_reckoned.nd rfl (Or.inl rfl)) (pgs_cons (pg_name (i := 6) sc__law_reckoned.nd rfl (Or.inl rfl)) pgs_nil))) pgs_nil))))
      (pss_cons (ps_set (i := 7) sc__law_reckoned.nd rfl (Or.inl rfl) (pe_ifExp (pt_cmpR op_eq (pe_op op_mulW (pv 3) (pv 6)) (pe_op op_mulW (pv 5) (pv 4)) (nomark _)) pe_int (pe_ifExp (pt_cmpR op_gt (pe_op op_mulW (pv 3) (pv 6)) (pe_op op_mulW (pv 5) (pv 4)) (nomark _)) pe_int (pe_un un_neg pe_int))))
      (pss_cons (ps_if (PW.pt (pw_or (pt_cmpR op_ne (pe_callB (My.call_reprD hr.units hg) (by rfl) T.n_repr (by decide +kernel) (pa_cons (pe_call G_compare (hr.mono (by decide)) (by rfl) T.g_compare T.f_compare.kp (b_compare T) .nil pass0 (pa_cons (pv 1) (pa_cons (pv 2) pa_nil))) pa_nil)) (pe_callB (My.call_reprD hr.units hg) (by rfl) T.n_repr (by decide +kernel) (pa_cons (pv 7) pa_nil)) (nomark _)) (pw_or1 (pt_cmpR op_ne (pe_call G_compare (hr.mono (by decide)) (by rfl) T.g_compare T.f_compare.kp (b_compare T) .nil pass0 (pa_cons (pv 2) (pa_cons (pv 1) pa_nil))) (pe_un un_neg (pv 7)) (nomark _))))) (pss_one (ps_ret pe_bl)) pss_nil)
      (pss_cons (ps_set (i := 8) sc__law_reckoned.nd rfl (Or.inl rfl) (pe_lst (pa_cons (pe_call G_plus (hr.mono (by decide)) (by rfl) T.g_plus T.f_plus.kp (b_plus T) .nil pass0 (pa_cons (pv 1) (pa_cons (pv 2) pa_nil))) (pa_cons (pe_call G_minus (hr.mono (by decide)) (by rfl) T.g_minus T.f_minus.kp (b_minus T) .nil pass0 (pa_cons (pv 1) (pa_cons (pv 2) pa_nil))) (pa_cons (pe_call G_times (hr.mono (by decide)) (by rfl) T.g_times T.f_times.kp (b_times T) .nil pass0 (pa_cons (pv 1) (pa_cons (pv 2) pa_nil))) pa_nil)))))
      (pss_cons (ps_if (pt_cmpR (op_neD hr.units) (pv 8) (pe_lst (pa_cons (pe_call G__law_lowered_pair (hr.mono (by decide)) (by rfl) T.g__law_lowered_pair T.f__law_lowered_pair.kp (b__law_lowered_pair T) .nil pass0 (pa_cons (pe_op op_add (pe_op op_mulW (pv 3) (pv 6)) (pe_op op_mulW (pv 5) (pv 4))) (pa_cons (pe_op op_mulW (pv 4) (pv 6)) pa_nil))) (pa_cons (pe_call G__law_lowered_pair (hr.mono (by decide)) (by rfl) T.g__law_lowered_pair T.f__law_lowered_pair.kp (b__law_lowered_pair T) .nil pass0 (pa_cons (pe_op op_sub (pe_op op_mulW (pv 3) (pv 6)) (pe_op op_mulW (pv 5) (pv 4))) (pa_cons (pe_op op_mulW (pv 4) (pv 6)) pa_nil))) (pa_cons (pe_call G__law_lowered_pair (hr.mono (by decide)) (by rfl) T.g__law_lowered_pair T.f__law_lowered_pair.kp (b__law_lowered_pair T) .nil pass0 (pa_cons (pe_op op_mulW (pv 3) (pv 5)) (pa_cons (pe_op op_mulW (pv 4) (pv 6)) pa_nil))) pa_nil)))) (nomark _)) (pss_one (ps_ret pe_bl)) pss_nil)
      (pss_one (ps_ret (pe_and (pe_cmpR (op_eqD hr.units) (pe_call G_plus (hr.mono (by decide)) (by rfl) T.g_plus T.f_plus.kp (b_plus T) .nil pass0 (pa_cons (pe_ix ix_list (pv 8) pe_int (fun _ _ => rfl)) (pa_cons (pv 2) pa_nil))) (pv 1) (nomark _)) (pe_and (pe_cmpR (op_eqD hr.units) (pe_call G_minus (hr.mono (by decide)) (by rfl) T.g_minus T.f_minus.kp (b_minus T) .nil pass0 (pa_cons (pe_ix ix_list (pv 8) pe_int (fun _ _ => rfl)) (pa_cons (pv 1) pa_nil))) (pv 2) (nomark _)) (pe_one (pe_cmpR op_eq (pe_call G_compare (hr.mono (by decide)) (by rfl) T.g_compare T.f_compare.kp (b_compare T) .nil pass0 (pa_cons (pe_ix ix_list (pv 8) pe_int (fun _ _ => rfl)) (pa_cons (pe_tup (pa_cons pe_int (pa_cons pe_int pa_nil))) pa_nil))) (pv 7) (nomark _)))))))))))))), ?_⟩
    refine ⟨_, rfl, b0, rfl, bag, fun p1 a b H1 e1 b1 hp1 dr1 => ?_⟩
    refine ⟨_, rfl, b0, rfl, b1, fun p2 c d H2 e2 b2 hp2 dr2 => ⟨_, _, rfl, ?_⟩⟩
    have t1 : Two H2 p1 (a, b) := two_but e2 b1 dr1.two
    have s1 := dr1.small
    refine ⟨_, rfl, b0, 4, rfl, b2, by decide, by decide, fun r H3 _ _ e3 b3 => ⟨rfl, _, rfl, ?_⟩⟩
    have e13 : But b0 H H3 := e1.trans (e2.trans e3)
    have u1 : Two H3 p1 (a, b) := two_but e3 b2 t1
    have u2 : Two H3 p2 (c, d) := two_but e3 b2 dr2.two
    have s2 := dr2.small
    refine ite_copy (v := .ref p1) (w := .ref p2) rfl rfl ?_
    intro u hu
    obtain ⟨p2, c, d, rfl, u2, s2⟩ : ∃ (p2 : Addr) (c d : Int), u = .ref p2 ∧ Two H3 p2 (c, d) ∧ Small c d := by
      rcases hu with h | h
      · exact ⟨p1, a, b, h, u1, s1⟩
      · exact ⟨p2, c, d, h, u2, s2⟩
    clear t1 e1 b1 hp1 dr1 e2 b2 hp2 dr2 e3
    refine ⟨_, rfl, _, rfl, (by show 2 ≤ sizeLine; decide), fun p3 n3 => ?_⟩
    have w1 := two_same (same_new (o := .tup [.ref p1, .ref p2]) n3) u1
    have w2 := two_same (same_new (o := .tup [.ref p1, .ref p2]) n3) u2
    have b4 : Bag (upd H3 p3 (.tup [.ref p1, .ref p2])) b0 := b3.upd n3
    have e14 : But b0 H (upd H3 p3 (.tup [.ref p1, .ref p2])) := e13.trans (But.of (same_new n3))
    have w3 : (upd H3 p3 (.tup [.ref p1, .ref p2])) p3 = some (.tup [.ref p1, .ref p2]) := upd_same
    generalize upd H3 p3 (HO.tup [V.ref p1, V.ref p2]) = H4 at *
    refine ⟨p3, [.ref p1, .ref p2], rfl, Or.inl (Or.inl w3), rfl, ?_⟩
    refine ⟨_, _, rfl, p1, _, rfl, Or.inl (Or.inl w1), rfl, ?_⟩
    refine ⟨_, _, rfl, _, _, rfl, rfl, ?_⟩
    refine ⟨_, _, rfl, p2, _, rfl, Or.inl (Or.inl w2), rfl, ?_⟩
    refine ⟨_, _, rfl, _, _, rfl, rfl, rfl, ?_⟩
    have mad : CMulW a d := mulw s1.isA s2.isC
    have mcb : CMulW c b := mulw s2.isA s1.isC
    dsimp only [tSeq]
    refine due_reads (x := a * d) (y := c * b) (fun Q' h => ⟨_, rfl, _, rfl, _, _, rfl, rfl, mad, h⟩) (fun Q' h => ⟨_, rfl, _, rfl, _, _, rfl, rfl, mcb, h⟩) ?_
    have r1 : Rat K H4 p1 a b := two_rat w1 s1.rat
    have r2 : Rat K H4 p2 c d := two_rat w2 s2.rat
    have dl := cmp_small (a * d) (c * b)
    have dsw := cmp_swap (a * d) (c * b)
    refine ⟨_, rfl, _, rfl, p1, p2, a, b, c, d, rfl, r1, r2, fun H5 e5 => ?_⟩
    generalize hdue : cmp (a * d) (c * b) = due at *
    refine ⟨_, .int due, rfl, .int due, show_small dl, rfl, dep_small dl, shown_small dl, (fun i h => by cases h; exact log_small1 dl), ?_⟩
    refine ⟨_, rfl, _, .int due, rfl, .int due, show_small dl, rfl, dep_small dl, shown_small dl, (fun i h => by cases h; exact log_small1 dl), ?_⟩
    refine ⟨rfl, _, rfl, iteNS rfl ?_⟩
    refine ⟨_, rfl, _, rfl, p2, p1, c, d, a, b, rfl, r2.same e5, r1.same e5, fun H6 e6 => ?_⟩
    refine ⟨_, rfl, _, rfl, rfl, _, rfl, ?_⟩
    rw [dsw]
    refine iteNS rfl ?_
    have e16 : But b0 H H6 := e14.trans (But.of (e5.trans e6))
    have b6 : Bag H6 b0 := (b4.same e5).same e6
    have r61 : Rat K H6 p1 a b := (r1.same e5).same e6
    have r62 : Rat K H6 p2 c d := (r2.same e5).same e6
    have t61 : Two H6 p1 (a, b) := two_same (e5.trans e6) w1
    have t62 : Two H6 p2 (c, d) := two_same (e5.trans e6) w2
    clear r1 r2 e5 e6 b4 e14 w3 n3 w1 w2
    have pb := s1.pos
    have pd := s2.pos
    have bdn : b * d ≠ 0 := Int.ne_of_gt (Int.mul_pos pb pd)
    have lad := prod_le s1.top s2.bot
    have lcb := prod_le s2.top s1.bot
    have lbd := prod_le s1.bot s2.bot
    have bd60 : (b * d).natAbs < 10 ^ 60 := Nat.lt_of_le_of_lt lbd (by decide +kernel)
    have al := add_lt lad lcb
    have bd8 : (b * d).natAbs < 2 ^ 8000 := prod_lt s1.isC s2.isC
    refine ⟨_, rfl, _, rfl, p1, p2, a, b, c, d, rfl, r61, r62, fun q1 H7 e7 m1 x1 => ?_⟩
    refine ⟨_, rfl, _, rfl, p1, p2, a, b, c, d, rfl, r61.same e7, r62.same e7, fun q2 H8 e8 m2 x2 => ?_⟩
    refine ⟨_, rfl, _, rfl, p1, p2, a, b, c, d, rfl, (r61.same e7).same e8, (r62.same e7).same e8, fun q3 H9 e9 m3 x3 => ?_⟩
    refine ⟨(by show 3 ≤ sizeLine; decide), fun p4 n4 => ?_⟩
    have e69 : Same H6 (upd H9 p4 (.lst [.ref q1, .ref q2, .ref q3])) := (e7.trans (e8.trans e9)).trans (same_new n4)
    have x1' : Two (upd H9 p4 (.lst [.ref q1, .ref q2, .ref q3])) q1 _ := two_same ((e8.trans e9).trans (same_new n4)) x1
    have x2' : Two (upd H9 p4 (.lst [.ref q1, .ref q2, .ref q3])) q2 _ := two_same (e9.trans (same_new n4)) x2
    have x3' : Two (upd H9 p4 (.lst [.ref q1, .ref q2, .ref q3])) q3 _ := two_same (same_new n4) x3
    have x4 : (upd H9 p4 (.lst [.ref q1, .ref q2, .ref q3])) p4 = some (.lst [.ref q1, .ref q2, .ref q3]) := upd_same
    generalize upd H9 p4 (HO.lst [V.ref q1, V.ref q2, V.ref q3]) = HA at *
    clear e7 e8 e9 m1 m2 m3 n4 x1 x2 x3
    have ra1 := r61.same e69
    have ra2 := r62.same e69
    have ta1 := two_same e69 t61
    have ta2 := two_same e69 t62
    have eA : But b0 H HA := e16.trans (But.of e69)
    have bA : Bag HA b0 := b6.same e69
    -- told != [..]
    refine ⟨_, rfl, ?_⟩
    refine ⟨_, rfl, _, rfl, _, _, rfl, rfl, mad, _, rfl, _, rfl, _, _, rfl, rfl, mcb, _, _, rfl, rfl, _, rfl, _, rfl, _, _, rfl, rfl, mulw s1.isC s2.isC, _, _, rfl, bdn, bd8, fun y1 HB eB nB z1 => ?_⟩
    refine ⟨_, rfl, _, rfl, _, _, rfl, rfl, mad, _, rfl, _, rfl, _, _, rfl, rfl, mcb, _, _, rfl, rfl, _, rfl, _, rfl, _, _, rfl, rfl, mulw s1.isC s2.isC, _, _, rfl, bdn, bd8, fun y2 HC eC nC z2 => ?_⟩
    refine ⟨_, rfl, _, rfl, _, _, rfl, rfl, mulw s1.isA s2.isA, _, rfl, _, rfl, _, _, rfl, rfl, mulw s1.isC s2.isC, _, _, rfl, bdn, bd8, fun y3 HD eD nD z3 => ?_⟩
    refine ⟨(by show 3 ≤ sizeLine; decide), fun p5 n5 => ?_⟩
    have eAE : Same HA (upd HD p5 (.lst [.ref y1, .ref y2, .ref y3])) := (eB.trans (eC.trans eD)).trans (same_new n5)
    have dl1 := three_dp (K := K) (eAE _ _ x4) (two_same eAE x1') (two_same eAE x2') (two_same eAE x3')
    have dl2 := three_dp (K := K) (p := p5) upd_same (two_same ((eC.trans eD).trans (same_new n5)) z1) (two_same (eD.trans (same_new n5)) z2) (two_same (same_new n5) z3)
    refine ⟨_, _, dl1, dl2, three_shaped, three_shaped, _, rfl, ?_⟩
    rw [eqv_three]
    refine iteF ?_
    have eAE' := eAE
    have g4 := eAE _ _ x4
    have g1 := two_same eAE x1'
    have g2 := two_same eAE x2'
    have k1 := ra1.same eAE
    have k2 := ra2.same eAE
    have v1 := two_same eAE ta1
    have v2 := two_same eAE ta2
    have eE : But b0 H (upd HD p5 (.lst [.ref y1, .ref y2, .ref y3])) := eA.trans (But.of eAE)
    have bE : Bag (upd HD p5 (.lst [.ref y1, .ref y2, .ref y3])) b0 := bA.same eAE
    clear dl1 dl2 z1 z2 z3 eB eC eD nB nC nD n5 x4 x1' x2' x3' ra1 ra2 ta1 ta2 eAE eAE' eA bA
    generalize upd HD p5 (HO.lst [V.ref y1, V.ref y2, V.ref y3]) = HE at *
    have rr1 : Rat K HE q1 (low (a * d + c * b) (b * d)).1 (low (a * d + c * b) (b * d)).2 := two_rat g1 (rat_low bdn al.1 bd60)
    have rr2 : Rat K HE q2 (low (a * d - c * b) (b * d)).1 (low (a * d - c * b) (b * d)).2 := two_rat g2 (rat_low bdn al.2 bd60)
    have sq4 : SqL K HE p4 [.ref q1, .ref q2, .ref q3] := Evl.sq_of g4
    refine ⟨_, rfl, p4, _, 1, _, rfl, rfl, sq4, rfl, _, rfl, q2, p2, _, _, c, d, rfl, rr2, k2, fun q5 HF eF nF xF => ?_⟩
    rw [back_plus pb pd s1.gcd] at xF
    refine ⟨_, rfl, _, _, two_dp xF, two_dp (two_same eF v1), rfl, rfl, _, rfl, ?_⟩
    rw [eqv_two]
    refine iteT ?_
    refine ⟨_, rfl, p4, _, 0, _, rfl, rfl, same_l eF sq4, rfl, _, rfl, q1, p1, _, _, a, b, rfl, rr1.same eF, k1.same eF, fun q6 HG eG nG xG => ?_⟩
    rw [back_minus pb pd s2.gcd] at xG
    refine ⟨_, rfl, _, _, two_dp xG, two_dp (two_same eG (two_same eF v2)), rfl, rfl, _, rfl, ?_⟩
    rw [eqv_two]
    refine iteT ?_
    refine ⟨_, rfl, p4, _, 1, _, rfl, rfl, same_l eG (same_l eF sq4), rfl, (by show 2 ≤ sizeLine; decide), fun p7 n7 => ?_⟩
    have eH : Same HG (upd HG p7 (.tup [.int 0, .int 1])) := same_new n7
    have r01 : Rat K (upd HG p7 (.tup [.int 0, .int 1])) p7 0 1 := two_rat (a := 0) (c := 1) upd_same (by decide +kernel)
    refine ⟨q2, p7, _, _, 0, 1, rfl, ((rr2.same eF).same eG).same eH, r01, fun HI eI => ?_⟩
    rw [cmp_low pb pd, hdue]
    refine ⟨_, rfl, rfl, ?_⟩
    rw [decide_eq_true rfl]
    exact q HI (eE.trans (But.of (eF.trans (eG.trans (eH.trans eI))))) ((((bE.same eF).same eG).same eH).same eI)
end
end K01

set_option maxHeartbeats 1000000
namespace K01
open PySem PySem.Spec PyProof.Rows L2 My M01
section
variable {P : Program} {w : World} {K : PySem.W.Frag} {mg : Str → Option Value} {base : Heap} {A : Adr}
theorem lt200 {n : Nat} (h : n ≤ 10 ^ 55) : n < 2 ^ 200 := by
  have e : (10 : Nat) ^ 55 < 2 ^ 200 := by decide +kernel
  exact Nat.lt_of_le_of_lt h e
theorem share_le55 {s r : Int} (hs : s.natAbs ≤ 10 ^ 30) (hr : r.natAbs ≤ 10 ^ 25) : (s * r).natAbs ≤ 10 ^ 55 := by
  rw [Int.natAbs_mul]
  exact Nat.le_trans (Nat.mul_le_mul hs hr) (by decide +kernel)
theorem lt60 {n : Int} (h : n.natAbs ≤ 10 ^ 55) : isI (.int n) = true := isI_of (Nat.lt_of_le_of_lt h (by decide +kernel))
def Len (m : Int) : Prop := m = 1 ∨ m = 2 ∨ m = 3 ∨ m = 5 ∨ m = 100
theorem pad_reads {σ : St} {H : Hp} {i : Nat} {l : Addr} {ns : List Int} (len : Len ns.length) (hv : σ[i]? = some (some (.ref l))) (hT : SqT K H l (ns.map V.int)) :
    ∀ H1, Same H H1 → ∀ Q : VK, (∀ p H2, Same H1 H2 → SqT K H2 p ((ns ++ List.replicate (100 - ns.length) 0).map V.int) → Q (.ref p) H2) →
    tOp (rCatA K) (tVar i) (tOp (rRepB K) (tTup (tCons (tC (.int 0)) tNil)) (tOp (rI0 fun i j => .int (i - j)) (tC (.int 100))
      (tCB (fun xs H Q => ∃ p ys, xs = [.ref p] ∧ (SqL K H p ys ∨ SqT K H p ys) ∧ Q (.int ys.length) H) (tCons (tVar i) tNil)))) σ H1 Q := by
  intro H1 e Q q
  have hT1 := same_t e hT
  have l1 : 1 ≤ ns.length ∧ ns.length ≤ 100 := by unfold Len at len; omega
  refine ⟨_, hv, (by show 1 ≤ sizeLine; decide), fun p hp => ⟨_, hv, l, _, rfl, Or.inr (same_t (same_new hp) hT1), _, _, rfl, rfl, ?_⟩⟩
  have ne : ns.map V.int ≠ [] := by
    intro z
    have := congrArg List.length z
    simp at this
    rw [this] at l1
    simp at l1
  by_cases c : ns.length = 100
  · have c2 : (100 : Int) - ((ns.map V.int).length : Int) = 0 := by rw [List.length_map, c]; rfl
    show rRepB K (.ref p) (.int ((100 : Int) - ((ns.map V.int).length : Int))) _ _
    rw [c2]
    refine Or.inr ⟨p, [.int 0], rfl, rfl, Or.inl (Or.inl upd_same), by simp, fun p2 hp2 => ?_⟩
    refine ⟨l, p2, _, [], rfl, rfl, same_t (same_new hp2) (same_t (same_new hp) hT1), Or.inl (Or.inl upd_same), ?_, fun z => absurd z ne, fun _ _ => ?_, fun _ z => absurd rfl z⟩
    · rw [List.length_map]
      exact Evl.sz_of (by simp; omega)
    · refine q l _ ((same_new hp).trans (same_new hp2)) ?_
      rw [c]
      simpa using same_t (same_new hp2) (same_t (same_new hp) hT1)
  · have c2 : (100 : Int) - ((ns.map V.int).length : Int) = ((100 - ns.length : Nat) : Int) := by rw [List.length_map]; omega
    show rRepB K (.ref p) (.int ((100 : Int) - ((ns.map V.int).length : Int))) _ _
    rw [c2]
    have big : 2 ≤ 100 - ns.length := by unfold Len at len; omega
    refine Or.inl ⟨p, _, [.int 0], rfl, rfl, Or.inl (Or.inl upd_same), by simp, by omega, by omega, by simp, fun p2 hp2 => ?_⟩
    rw [Int.toNat_natCast, rep_zero]
    refine ⟨l, p2, _, _, rfl, rfl, same_t (same_new hp2) (same_t (same_new hp) hT1), Or.inl (Or.inl upd_same), ?_, fun z => absurd z ne, fun _ z => ?_, fun _ _ p3 hp3 => ?_⟩
    · rw [List.length_map, List.length_map, List.length_replicate]
      exact Evl.sz_of (by omega)
    · have := congrArg List.length z
      rw [List.length_map, List.length_replicate] at this
      simp at this
      omega
    · refine q p3 _ ((same_new hp).trans ((same_new hp2).trans (same_new hp3))) (Or.inl (Or.inl ?_))
      rw [upd_same, List.map_append]
theorem ok__law_lowered (T : Txt K mg A) : FnOk P w K mg base CX0 5 A.a__law_lowered A.d__law_lowered ["_law_bag_here"] sp_true := by
  have G__law_one_of : FnOk P w K mg base CX0 2 A.a__law_one_of A.d__law_one_of ["_law_bag_here", "_law_items"] (sp_one_of K) := ok__law_one_of T
  have G__law_whole : FnOk P w K mg base CX0 2 A.a__law_whole A.d__law_whole ["_law_bag_here", "_law_high"] sp_whole := ok__law_whole T
  have G__law_grab : FnOk P w K mg base CX0 1 A.a__law_grab A.d__law_grab ["_law_bag_here", "_law_total"] sp_grab := ok__law_grab T
  have G__law_divisor : FnOk P w K mg base CX0 1 A.a__law_divisor A.d__law_divisor ["_law_numbers"] (sp_divisor_of K) := ok__law_divisor T
  have G_common_divisor : FnOk P w K mg base CX0 4 A.a_common_divisor A.d_common_divisor ["numbers"] (sp_common_divisor K) := ok_common_divisor T
  have G_lowest : FnOk P w K mg base CX0 3 A.a_lowest A.d_lowest ["top", "bottom"] (sp_lowest K) := ok_lowest T
  have G__law_lowered_pair : FnOk P w K mg base CX0 2 A.a__law_lowered_pair A.d__law_lowered_pair ["_law_top", "_law_bottom"] sp_lowered_pair := ok__law_lowered_pair T
  have G__law_is_ratio : FnOk P w K mg base CX0 2 A.a__law_is_ratio A.d__law_is_ratio ["_law_value"] (sp_is_ratio K) := ok__law_is_ratio T
  refine T.f__law_lowered.ok sc__law_lowered (fun vs H Q E h => ?_) (fun cdv B out t H vs Q E hr h => ?_)
  · obtain ⟨b, rfl, _⟩ := h
    rfl
  · obtain ⟨b, rfl, bag, q⟩ := h
    refine ⟨_, (pss_cons (ps_set (i := 1) sc__law_lowered.nd rfl (Or.inr rfl) (pe_call G__law_one_of (hr.mono (by decide)) (by rfl) T.g__law_one_of T.f__law_one_of.kp (b__law_one_of T) .nil pass0 (pa_cons (pv 0) (pa_cons (pe_lst (pa_cons pe_int (pa_cons pe_int (pa_cons (pe_op op_pow pe_int pe_int) pa_nil)))) pa_nil))))
      (pss_cons (ps_set (i := 2) sc__law_lowered.nd rfl (Or.inr rfl) (pe_call G__law_one_of (hr.mono (by decide)) (by rfl) T.g__law_one_of T.f__law_one_of.kp (b__law_one_of T) .nil pass0 (pa_cons (pv 0) (pa_cons (pe_lst (pa_cons pe_int (pa_cons pe_int (pa_cons pe_int (pa_cons pe_int (pa_cons (pe_op op_pow pe_int pe_int) pa_nil)))))) pa_nil))))
      (pss_cons (ps_set (i := 3) sc__law_lowered.nd rfl (Or.inl rfl) (pe_callTy call_tuple_of (by rfl) T.n_tuple (by decide +kernel) (pa_cons (pe_lc (own := [("_law_turn", 4)]) (g := (gName 4)) (tt := tYes)  rfl sc__law_lowered.nd (pi_range1 (by rfl) T.n_range (pa_cons (pe_call G__law_one_of (hr.mono (by decide)) (by rfl) T.g__law_one_of T.f__law_one_of.kp (b__law_one_of T) .nil pass0 (pa_cons (pv 0) (pa_cons (pe_lst (pa_cons pe_int (pa_cons pe_int (pa_cons pe_int (pa_cons pe_int (pa_cons pe_int pa_nil)))))) pa_nil))) pa_nil)) (blkOk_by (own := [("_law_turn", 4)]) (N := names__law_lowered) (sc := defScope s__law_lowered) (by decide +kernel)) (fun _ _ _ _ _ => (pg_name (i := 4) sc__law_lowered.nd rfl (Or.inl rfl))) (fun _ _ _ _ _ => pts_nil) (fun _ _ _ _ _ => (pe_op op_mulW (pv 2) (pe_call G__law_whole (hr.mono (by decide)) (by rfl) T.g__law_whole T.f__law_whole.kp (b__law_whole T) .nil pass0 (pa_cons (pv 0) (pa_cons (pv 1) pa_nil)))))) pa_nil)))
      (pss_cons (ps_if (PW.pt (pw_or (pt_cmpR op_ne (pe_call G_common_divisor (hr.mono (by decide)) (by rfl) T.g_common_divisor T.f_common_divisor.kp (b_common_divisor T) .nil pass0 (pa_cons (pv 3) pa_nil)) (pe_call G__law_divisor (hr.mono (by decide)) (by rfl) T.g__law_divisor T.f__law_divisor.kp (b__law_divisor T) .nil pass0 (pa_cons (pv 3) pa_nil)) (nomark _)) (pw_or1 (pt_cmpR op_ne (pe_call G_common_divisor (hr.mono (by decide)) (by rfl) T.g_common_divisor T.f_common_divisor.kp (b_common_divisor T) .nil pass0 (pa_cons (pe_op op_catA (pv 3) (pe_op op_repB (pe_tup (pa_cons pe_int pa_nil)) (pe_op op_sub pe_int (pe_callB call_len_seq (by rfl) T.n_len (by decide +kernel) (pa_cons (pv 3) pa_nil))))) pa_nil)) (pe_call G__law_divisor (hr.mono (by decide)) (by rfl) T.g__law_divisor T.f__law_divisor.kp (b__law_divisor T) .nil pass0 (pa_cons (pv 3) pa_nil)) (nomark _))))) (pss_one (ps_ret pe_bl)) pss_nil)
      (pss_cons (ps_par (i := 5) (j := 6) (by rfl) sc__law_lowered.nd rfl rfl (by decide) rfl rfl (pa_cons (pe_op op_mulW (pv 2) (pe_call G__law_whole (hr.mono (by decide)) (by rfl) T.g__law_whole T.f__law_whole.kp (b__law_whole T) .nil pass0 (pa_cons (pv 0) (pa_cons (pv 1) pa_nil)))) (pa_cons (pe_op op_mulW (pe_op op_mulW (pv 2) (pe_op op_add pe_int (pe_call G__law_grab (hr.mono (by decide)) (by rfl) T.g__law_grab T.f__law_grab.kp (b__law_grab T) .nil pass0 (pa_cons (pv 0) (pa_cons (pv 1) pa_nil))))) (pe_call G__law_one_of (hr.mono (by decide)) (by rfl) T.g__law_one_of T.f__law_one_of.kp (b__law_one_of T) .nil pass0 (pa_cons (pv 0) (pa_cons (pe_lst (pa_cons pe_int (pa_cons (pe_un un_neg pe_int) pa_nil))) pa_nil)))) pa_nil)) (by rfl))
      (pss_one (ps_ret (pe_and (pe_cmpR (op_eqD hr.units) (pe_call G_lowest (hr.mono (by decide)) (by rfl) T.g_lowest T.f_lowest.kp (b_lowest T) .nil pass0 (pa_cons (pv 5) (pa_cons (pv 6) pa_nil))) (pe_call G__law_lowered_pair (hr.mono (by decide)) (by rfl) T.g__law_lowered_pair T.f__law_lowered_pair.kp (b__law_lowered_pair T) .nil pass0 (pa_cons (pv 5) (pa_cons (pv 6) pa_nil))) (nomark _)) (pe_and (pe_call G__law_is_ratio (hr.mono (by decide)) (by rfl) T.g__law_is_ratio T.f__law_is_ratio.kp (b__law_is_ratio T) .nil pass0 (pa_cons (pe_call G_lowest (hr.mono (by decide)) (by rfl) T.g_lowest T.f_lowest.kp (b_lowest T) .nil pass0 (pa_cons (pv 5) (pa_cons (pv 6) pa_nil))) pa_nil)) (pe_one (pe_cmpR (op_eqD hr.units) (pe_call G_lowest (hr.mono (by decide)) (by rfl) T.g_lowest T.f_lowest.kp (b_lowest T) .nil pass0 (pa_cons pe_int (pa_cons (pv 6) pa_nil))) (pe_tup (pa_cons pe_int (pa_cons pe_int pa_nil))) (nomark _)))))))))))), ?_⟩
    -- high
    refine ⟨_, rfl, _, _, rfl, rfl, ⟨by decide, by decide, by decide⟩, (by show 3 ≤ sizeLine; decide), fun p0 hp0 => ?_⟩
    refine ⟨b, p0, _, rfl, bag.upd hp0, bag.ne hp0, Evl.sq_of upd_same, by simp, by simp, fun v H1 hv e1 b1 => ?_⟩
    obtain ⟨n, rfl, n0, n1⟩ : ∃ n : Int, v = .int n ∧ 1 ≤ n ∧ n.natAbs ≤ 10 ^ 25 := by
      simp only [List.mem_cons, List.not_mem_nil, or_false] at hv
      rcases hv with h | h | h <;> subst h <;> exact ⟨_, rfl, by decide +kernel, by decide +kernel⟩
    have e01 : But b H H1 := (But.of (same_new hp0)).trans e1
    clear e1 hp0 hv
    -- share
    refine ⟨_, rfl, _, _, rfl, rfl, ⟨by decide, by decide, by decide⟩, (by show 5 ≤ sizeLine; decide), fun p2 hp2 => ?_⟩
    refine ⟨b, p2, _, rfl, b1.upd hp2, b1.ne hp2, Evl.sq_of upd_same, by simp, by simp, fun v H2 hv e2 b2 => ?_⟩
    obtain ⟨s, rfl, s0, s1⟩ : ∃ n : Int, v = .int n ∧ 1 ≤ n ∧ n.natAbs ≤ 10 ^ 30 := by
      simp only [List.mem_cons, List.not_mem_nil, or_false] at hv
      rcases hv with h | h | h | h | h <;> subst h <;> exact ⟨_, rfl, by decide +kernel, by decide +kernel⟩
    have e02 : But b H H2 := e01.trans ((But.of (same_new hp2)).trans e2)
    clear e2 hp2 hv e01 b1
    have nb : n.natAbs < 2 ^ 200 := lt200 (Nat.le_trans n1 (by decide +kernel))
    have sb : s.natAbs < 2 ^ 200 := lt200 (Nat.le_trans s1 (by decide +kernel))
    -- numbers
    change tSeq _ _ _ _ _
    dsimp only [tSeq, tAsg, tCB, tCons]
    refine comp_rb (b := b) Len (fun y => ∃ n : Int, y = .int n ∧ n.natAbs ≤ 10 ^ 55) ?_ ?_ ?_ ?_
    · exact fun _ => rfl
    · intro x H3 e3 b3 Q' k
      refine ⟨_, rfl, _, rfl, _, rfl, b, n, rfl, b3, by omega, nb, fun r H4 r0 r1 e4 b4 => ?_⟩
      have rb : r.natAbs ≤ n.natAbs := by omega
      exact ⟨_, _, rfl, rfl, wide_mul sb (Nat.lt_of_le_of_lt rb nb) (by decide) (by decide) (by decide), k _ _ ⟨_, rfl, share_le55 s1 (Nat.le_trans rb n1)⟩ e4 b4⟩
    · intro D ys H3 e3 b3 nD hD len oks hDy
      obtain ⟨ns, rfl, hns⟩ := oks_ints ys oks
      rw [List.length_map] at len
      refine ⟨D, _, rfl, Or.inl ⟨Evl.sq_of hDy, fun l hl => ?_⟩⟩
      have eN : But b H (upd H3 l (.tup (ns.map V.int))) := (e02.trans e3).trans (But.of (same_new hl))
      have bN : Bag (upd H3 l (.tup (ns.map V.int))) b := b3.upd hl
      have tN : SqT K (upd H3 l (.tup (ns.map V.int))) l (ns.map V.int) := Or.inl (Or.inl upd_same)
      clear hDy hl oks hD nD e3 b3 e02 b2
      generalize upd H3 l (HO.tup (ns.map V.int)) = HN at *
      have isn : ∀ m ∈ ns, isI (.int m) = true := fun m hm => lt60 (hns m hm)
      have l1 : 1 ≤ ns.length := by unfold Len at len; omega
      have l2 : ns.length ≤ 100 := by unfold Len at len; omega
      refine ⟨_, rfl, l, ns, rfl, tN, l1, l2, isn, fun H4 e4 => ⟨_, rfl, l, ns, rfl, same_t e4 tN, rfl, _, rfl, iteNS rfl ?_⟩⟩
      refine pad_reads (l := l) (ns := ns) len rfl (same_t e4 tN) H4 (Same.refl _) _ fun p4 H5 e5 t5 => ?_
      refine ⟨p4, _, rfl, t5, by rw [List.length_append]; omega, by rw [List.length_append, List.length_replicate]; omega, ?_, fun H6 e6 => ?_⟩
      · intro m hm
        rcases List.mem_append.mp hm with h | h
        · exact isn m h
        · rw [List.eq_of_mem_replicate h]
          decide +kernel
      refine ⟨_, rfl, l, ns, rfl, same_t e6 (same_t e5 (same_t e4 tN)), rfl, _, rfl, ?_⟩
      rw [gcdL_zeros]
      refine iteNS rfl ?_
      have eO : But b H H6 := eN.trans (But.of (e4.trans (e5.trans e6)))
      have bO : Bag H6 b := ((bN.same e4).same e5).same e6
      clear e4 e5 e6 t5 tN eN bN
      -- top, bottom
      refine ⟨_, rfl, _, rfl, _, rfl, b, n, rfl, bO, by omega, nb, fun r H7 r0 r1 e7 b7 => ?_⟩
      have rb : r.natAbs ≤ n.natAbs := by omega
      refine ⟨_, _, rfl, rfl, wide_mul sb (Nat.lt_of_le_of_lt rb nb) (by decide) (by decide) (by decide), ?_⟩
      refine ⟨_, rfl, _, rfl, _, rfl, b, n, rfl, b7, by omega, log_big nb (by decide) (by decide), fun g H8 g0 g1 e8 b8 => ⟨_, _, rfl, rfl, ?_⟩⟩
      have gb : (1 + g).natAbs ≤ n.natAbs := by omega
      refine ⟨_, _, rfl, rfl, wide_mul sb (Nat.lt_of_le_of_lt gb nb) (by decide) (by decide) (by decide), ?_⟩
      refine ⟨_, rfl, 1, rfl, (by show 2 ≤ sizeLine; decide), fun p8 hp8 => ?_⟩
      refine ⟨b, p8, _, rfl, b8.upd hp8, b8.ne hp8, Evl.sq_of upd_same, by simp, by simp, fun v H9 hv e9 b9 => ?_⟩
      obtain ⟨z, rfl, hz⟩ : ∃ z : Int, v = .int z ∧ (z = 1 ∨ z = -1) := by
        simp only [List.mem_cons, List.not_mem_nil, or_false] at hv
        rcases hv with h | h <;> subst h <;> exact ⟨_, rfl, by decide⟩
      have zb : z.natAbs < 2 ^ 2 := by rcases hz with h | h <;> subst h <;> decide
      have s1g := share_le55 s1 (Nat.le_trans gb n1)
      refine ⟨_, _, rfl, rfl, wide_mul (lt200 s1g) zb (by decide) (by decide) (by decide), _, _, rfl, ?_⟩
      have eF : But b H H9 := ((eO.trans e7).trans e8).trans ((But.of (same_new hp8)).trans e9)
      have bB : (s * (1 + g) * z).natAbs ≤ 10 ^ 55 := by
        rw [Int.natAbs_mul]
        have : z.natAbs = 1 := by rcases hz with h | h <;> subst h <;> rfl
        rw [this, Nat.mul_one]
        exact s1g
      have bn : s * (1 + g) * z ≠ 0 := by
        have h1 : s * (1 + g) ≠ 0 := Int.ne_of_gt (Int.mul_pos (by omega) (by omega))
        rcases hz with h | h <;> subst h
        · rw [Int.mul_one]
          exact h1
        · intro k
          apply h1
          omega
      have tB := share_le55 s1 (Nat.le_trans rb n1)
      clear bO eO e7 e8 b7 b8 hp8 e9 hv
      have iT := lt60 tB
      have iB := lt60 bB
      have b8k : (s * (1 + g) * z).natAbs < 2 ^ 8000 := Nat.lt_of_lt_of_le (isI_lt iB) (Nat.pow_le_pow_right (by decide) (by decide))
      refine ⟨_, rfl, _, rfl, (s * r), (s * (1 + g) * z), rfl, iT, iB, bn, fun u1 HA eA nA tA => ?_⟩
      refine ⟨_, rfl, _, rfl, (s * r), (s * (1 + g) * z), rfl, bn, b8k, fun u2 HB eB nB tB2 => ?_⟩
      refine ⟨_, _, two_dp (two_same eB tA), two_dp tB2, rfl, rfl, _, rfl, ?_⟩
      rw [eqv_two]
      refine iteT ?_
      refine ⟨_, rfl, _, rfl, (s * r), (s * (1 + g) * z), rfl, iT, iB, bn, fun u3 HC eC nC tC => ?_⟩
      refine ⟨.ref u3, .tuple [.int (low (s * r) (s * (1 + g) * z)).1, .int (low (s * r) (s * (1 + g) * z)).2], rfl, .tup (Or.inl (Or.inl tC)) (.cons (.int _) (.cons (.int _) .nil)), fun HD eD => ⟨_, rfl, ?_⟩⟩
      rw [rat_low bn (Nat.lt_of_le_of_lt tB (by decide +kernel)) (Nat.lt_of_le_of_lt bB (by decide +kernel))]
      refine iteT ?_
      refine ⟨_, rfl, 0, (s * (1 + g) * z), rfl, by decide +kernel, iB, bn, fun u4 HE eE nE tE => ?_⟩
      rw [low_zero bn] at tE
      refine ⟨(by show 2 ≤ sizeLine; decide), fun u5 n5 => ?_⟩
      refine ⟨_, _, two_dp (two_same (same_new n5) tE), two_dp (p := u5) (r := (0, 1)) upd_same, rfl, rfl, ?_⟩
      rw [eqv_two]
      exact q _ (eF.trans (But.of ((eA.trans eB).trans ((eC.trans eD).trans (eE.trans (same_new n5)))))) (b9.same ((eA.trans eB).trans ((eC.trans eD).trans (eE.trans (same_new n5)))))
    · intro Q' k
      refine ⟨_, rfl, (by show 5 ≤ sizeLine; decide), fun p3 hp3 => ?_⟩
      refine ⟨b, p3, _, rfl, b2.upd hp3, b2.ne hp3, Evl.sq_of upd_same, by simp, by simp, fun v H4 hv e4 b4 => ?_⟩
      simp only [List.mem_cons, List.not_mem_nil, or_false] at hv
      rcases hv with h | h | h | h | h <;> subst h <;> exact k _ _ (by decide) (by decide) (by unfold Len; decide) ((But.of (same_new hp3)).trans e4) b4
end
end K01

set_option maxHeartbeats 1000000
namespace K01
open PySem PySem.Spec PyProof.Rows L2 My M01
section
variable {P : Program} {w : World} {K : PySem.W.Frag} {mg : Str → Option Value} {base : Heap} {A : Adr}
def sp_law (K : PySem.W.Frag) : Sp := fun vs H Q _ => ∃ (a : Addr) (ns : List Int), vs = [.ref a] ∧ SqL K H a (ns.map V.int) ∧ ns.length ≤ 63 ∧ ∀ H', Q (.bl true) H'
theorem But.back {b : Addr} {H H1 H2 : Hp} (e : Same H H1) (n : H b = none) (e2 : But b H1 H2) : Same H H2 := fun a o h => e2 a o (e a o h) (ne_of_none h n)
def toldD : PyData := .list [.tuple [.int (-3), .int 2], .int (-1), .tuple [.int 5, .int 6], .tuple [.int 1, .int 2], .int 0]
theorem two_jd {p : Addr} {H : Hp} {r : Int × Int} (h : Two H p r) : Jd K H (.ref p) (.tuple [.int r.1, .int r.2]) :=
  .tup (Or.inl (Or.inl h)) (.cons (.int _) (.cons (.int _) .nil))
theorem ok_law (T : Txt K mg A) : FnG P w K mg base CX0 8 A.a_law A.d_law ["_law_script"] (sp_law K) := by
  have G__law_bag : FnOk P w K mg base CX0 1 A.a__law_bag A.d__law_bag ["_law_script", "_law_spot"] (sp_bag K) := ok__law_bag T
  have G__law_judged : FnG P w K mg base CX0 6 A.a__law_judged A.d__law_judged ["_law_bag_here"] sp_true := ok__law_judged T
  have G__law_reckoned : FnG P w K mg base CX0 7 A.a__law_reckoned A.d__law_reckoned ["_law_bag_here"] sp_true := ok__law_reckoned T
  have G__law_lowered : FnOk P w K mg base CX0 5 A.a__law_lowered A.d__law_lowered ["_law_bag_here"] sp_true := ok__law_lowered T
  have G_lowest : FnOk P w K mg base CX0 3 A.a_lowest A.d_lowest ["top", "bottom"] (sp_lowest K) := ok_lowest T
  have G_compare : FnOk P w K mg base CX0 6 A.a_compare A.d_compare ["one", "other"] (sp_compare K) := ok_compare T
  have G_plus : FnOk P w K mg base CX0 6 A.a_plus A.d_plus ["one", "other"] (sp_plus K) := ok_plus T
  have G_times : FnOk P w K mg base CX0 6 A.a_times A.d_times ["one", "other"] (sp_times K) := ok_times T
  have G_common_divisor : FnOk P w K mg base CX0 4 A.a_common_divisor A.d_common_divisor ["numbers"] (sp_common_divisor K) := ok_common_divisor T
  refine fun_g T.f_law sc_law (fun vs H Q E h => ?_) (fun cdv B out t H vs Q E hr hg h => ?_)
  · obtain ⟨a, ns, rfl, _⟩ := h
    rfl
  · obtain ⟨a, ns, rfl, hs, hl, q⟩ := h
    refine ⟨_, (pss_cons (ps_for PassesOwn.never rfl (pi_range1 (by rfl) T.n_range (pa_cons (pe_callB (call_max2 rfl) (by rfl) T.n_max (by decide +kernel) (pa_cons pe_int (pa_cons (pe_callB (call_min2 rfl) (by rfl) T.n_min (by decide +kernel) (pa_cons pe_int (pa_cons (pe_callB call_len_seq (by rfl) T.n_len (by decide +kernel) (pa_cons (pv 0) pa_nil)) pa_nil))) pa_nil))) pa_nil)) (pg_name (i := 1) sc_law.nd rfl (Or.inl rfl)) (pss_cons (ps_set (i := 2) sc_law.nd rfl (Or.inl rfl) (pe_call G__law_bag (hr.mono (by decide)) (by rfl) T.g__law_bag T.f__law_bag.kp (b__law_bag T) .nil pass0 (pa_cons (pv 0) (pa_cons (pv 1) pa_nil))))
      (pss_cons (ps_if (pt_not (pt_val (pe_callG G__law_judged (hr.mono (by decide)) hg (by rfl) T.g__law_judged T.f__law_judged.kp (b__law_judged T) .nil pass0 (pa_cons (pv 2) pa_nil)))) (pss_one (ps_ret pe_bl)) pss_nil)
      (pss_one (ps_for PassesOwn.never rfl (pi_range1 (by rfl) T.n_range (pa_cons pe_int pa_nil)) (pg_name (i := 3) sc_law.nd rfl (Or.inl rfl)) (pss_one (ps_if (PW.pt (pw_or (pt_not (pt_val (pe_callG G__law_reckoned (hr.mono (by decide)) hg (by rfl) T.g__law_reckoned T.f__law_reckoned.kp (b__law_reckoned T) .nil pass0 (pa_cons (pv 2) pa_nil)))) (pw_or1 (pt_not (pt_val (pe_call G__law_lowered (hr.mono (by decide)) (by rfl) T.g__law_lowered T.f__law_lowered.kp (b__law_lowered T) .nil pass0 (pa_cons (pv 2) pa_nil))))))) (pss_one (ps_ret pe_bl)) pss_nil)))))))
      (pss_cons (ps_set (i := 4) sc_law.nd rfl (Or.inl rfl) (pe_lst (pa_cons (pe_call G_lowest (hr.mono (by decide)) (by rfl) T.g_lowest T.f_lowest.kp (b_lowest T) .nil pass0 (pa_cons pe_int (pa_cons (pe_un un_neg pe_int) pa_nil))) (pa_cons (pe_call G_compare (hr.mono (by decide)) (by rfl) T.g_compare T.f_compare.kp (b_compare T) .nil pass0 (pa_cons (pe_tup (pa_cons pe_int (pa_cons pe_int pa_nil))) (pa_cons (pe_tup (pa_cons pe_int (pa_cons pe_int pa_nil))) pa_nil))) (pa_cons (pe_call G_plus (hr.mono (by decide)) (by rfl) T.g_plus T.f_plus.kp (b_plus T) .nil pass0 (pa_cons (pe_tup (pa_cons pe_int (pa_cons pe_int pa_nil))) (pa_cons (pe_tup (pa_cons pe_int (pa_cons pe_int pa_nil))) pa_nil))) (pa_cons (pe_call G_times (hr.mono (by decide)) (by rfl) T.g_times T.f_times.kp (b_times T) .nil pass0 (pa_cons (pe_tup (pa_cons pe_int (pa_cons pe_int pa_nil))) (pa_cons (pe_tup (pa_cons pe_int (pa_cons pe_int pa_nil))) pa_nil))) (pa_cons (pe_call G_common_divisor (hr.mono (by decide)) (by rfl) T.g_common_divisor T.f_common_divisor.kp (b_common_divisor T) .nil pass0 (pa_cons (pe_tup (pa_cons pe_int pa_nil)) pa_nil)) pa_nil)))))))
      (pss_one (ps_ret (pe_cmpR (op_eqD hr.units) (pv 4) (pe_lst (pa_cons (pe_tup (pa_cons (pe_un un_neg pe_int) (pa_cons pe_int pa_nil))) (pa_cons (pe_un un_neg pe_int) (pa_cons (pe_tup (pa_cons pe_int (pa_cons pe_int pa_nil))) (pa_cons (pe_tup (pa_cons pe_int (pa_cons pe_int pa_nil))) (pa_cons pe_int pa_nil)))))) (nomark _)))))), ?_⟩
    have bd : ∀ k : Int, 0 ≤ k → (1 : Int) ≤ (if (if k < 3 then k else 3) > 1 then (if k < 3 then k else 3) else 1) ∧ (if (if k < 3 then k else 3) > 1 then (if k < 3 then k else 3) else 1) ≤ 3 := fun k h => by
      split <;> split <;> omega
    have bn := bd ((ns.map V.int).length : Int) (by omega)
    refine ⟨_, rfl, a, _, rfl, Or.inl hs, _, _, rfl, _, _, rfl, _, rfl, by omega, by omega, ?_⟩
    refine for_range (lo := 0) (n := _) (fun i σ H' => Same H H' ∧ ∃ v1 v2 v3 : Option V, σ = [some (.ref a), v1, v2, v3, none]) ⟨Same.refl _, none, none, none, rfl⟩ ?_ ?_
    · rintro i σ H1 hi ⟨e1, v1, v2, v3, rfl⟩
      refine ⟨_, rfl, _, rfl, a, ns, 0 + i, rfl, same_l e1 hs, by omega, by omega, fun b H2 e2 n2 b2 => ?_⟩
      refine ⟨_, rfl, b, rfl, b2, fun H3 e3 b3 => ⟨_, rfl, iteF ?_⟩⟩
      refine ⟨_, rfl, by decide, by decide, ?_⟩
      refine for_range (lo := 0) (n := 3) (fun j σ H' => But b H2 H' ∧ Bag H' b ∧ ∃ v3 : Option V, σ = [some (.ref a), some (.int (0 + i)), some (.ref b), v3, none]) ⟨e3, b3, v3, rfl⟩ ?_ ?_
      · rintro j σ H4 hj ⟨e4, b4, v3, rfl⟩
        refine ⟨_, rfl, b, rfl, b4, fun H5 e5 b5 => ⟨_, rfl, iteF ?_⟩⟩
        refine ⟨_, rfl, b, rfl, b5, fun H6 e6 b6 => ⟨_, rfl, iteF ?_⟩⟩
        exact ⟨(e4.trans e5).trans e6, b6, some (.int (0 + j)), rfl⟩
      · rintro σ H4 ⟨e4, b4, v3, rfl⟩
        exact ⟨But.back (e1.trans e2) (e1.free n2) e4, _, _, _, rfl⟩
    · rintro σ H1 ⟨e1, v1, v2, v3, rfl⟩
      refine ⟨4, rfl, 6, -4, rfl, by decide +kernel, by decide +kernel, by decide, fun p1 H2 e2 n2 t2 => ?_⟩
      rw [show low 6 (-4) = (-3, 2) by decide +kernel] at t2
      refine ⟨(by show 2 ≤ sizeLine; decide), fun p3 n3 => ⟨(by show 2 ≤ sizeLine; decide), fun p4 n4 => ?_⟩⟩
      have r3 : Rat K (upd (upd H2 p3 (.tup [.int 1, .int 3])) p4 (.tup [.int 1, .int 2])) p3 1 3 := two_rat (two_same (same_new n4) (r := (1, 3)) upd_same) (by decide +kernel)
      have r4 : Rat K (upd (upd H2 p3 (.tup [.int 1, .int 3])) p4 (.tup [.int 1, .int 2])) p4 1 2 := two_rat (a := 1) (c := 2) upd_same (by decide +kernel)
      refine ⟨p3, p4, 1, 3, 1, 2, rfl, r3, r4, fun H5 e5 => ?_⟩
      have t5 := two_same e5 (two_same ((same_new (o := .tup [.int 1, .int 3]) n3).trans (same_new (o := .tup [.int 1, .int 2]) n4)) t2)
      clear r3 r4 e5 n3 n4 t2 n2
      refine ⟨(by show 2 ≤ sizeLine; decide), fun p6 n6 => ⟨(by show 2 ≤ sizeLine; decide), fun p7 n7 => ?_⟩⟩
      have r6 : Rat K (upd (upd H5 p6 (.tup [.int 1, .int 2])) p7 (.tup [.int 1, .int 3])) p6 1 2 := two_rat (two_same (same_new n7) (r := (1, 2)) upd_same) (by decide +kernel)
      have r7 : Rat K (upd (upd H5 p6 (.tup [.int 1, .int 2])) p7 (.tup [.int 1, .int 3])) p7 1 3 := two_rat (a := 1) (c := 3) upd_same (by decide +kernel)
      refine ⟨p6, p7, 1, 2, 1, 3, rfl, r6, r7, fun p8 H8 e8 n8 t8 => ?_⟩
      rw [show low (1 * 3 + 1 * 2) (2 * 3) = (5, 6) by decide +kernel] at t8
      have u8 := two_same e8 (two_same ((same_new (o := .tup [.int 1, .int 2]) n6).trans (same_new (o := .tup [.int 1, .int 3]) n7)) t5)
      clear r6 r7 e8 n6 n7 n8 t5
      refine ⟨(by show 2 ≤ sizeLine; decide), fun p9 n9 => ⟨(by show 2 ≤ sizeLine; decide), fun pa na => ?_⟩⟩
      have r9 : Rat K (upd (upd H8 p9 (.tup [.int 2, .int 3])) pa (.tup [.int 3, .int 4])) p9 2 3 := two_rat (two_same (same_new na) (r := (2, 3)) upd_same) (by decide +kernel)
      have ra : Rat K (upd (upd H8 p9 (.tup [.int 2, .int 3])) pa (.tup [.int 3, .int 4])) pa 3 4 := two_rat (a := 3) (c := 4) upd_same (by decide +kernel)
      refine ⟨p9, pa, 2, 3, 3, 4, rfl, r9, ra, fun pb HB eB nB tB => ?_⟩
      rw [show low (2 * 3) (3 * 4) = (1, 2) by decide +kernel] at tB
      have e8B := ((same_new (o := .tup [.int 2, .int 3]) n9).trans (same_new (o := .tup [.int 3, .int 4]) na)).trans eB
      have vB := two_same e8B u8
      have wB := two_same e8B t8
      clear r9 ra eB n9 na nB t8 u8 e8B
      refine ⟨(by show 1 ≤ sizeLine; decide), fun pc nc => ?_⟩
      refine ⟨pc, [0], rfl, Or.inl (Or.inl upd_same), by decide, by decide, by decide +kernel, fun HC eC => ?_⟩
      have eBC := (same_new (o := .tup [.int 0]) nc).trans eC
      refine ⟨(by show 5 ≤ sizeLine; decide), fun pd nd => ?_⟩
      have eBD := eBC.trans (same_new (o := .lst [.ref p1, .int (cmp (1 * 2) (1 * 3)), .ref p8, .ref pb, .int (gcdL [0])]) nd)
      have d1 : Jd K (upd HC pd (.lst [.ref p1, .int (cmp (1 * 2) (1 * 3)), .ref p8, .ref pb, .int (gcdL [0])])) (.ref pd) toldD :=
        .lst (Evl.sq_of upd_same) (.cons (two_jd (r := (-3, 2)) (two_same eBD vB)) (.cons (.int (-1)) (.cons (two_jd (r := (5, 6)) (two_same eBD wB)) (.cons (two_jd (r := (1, 2)) (two_same eBD tB)) (.cons (.int 0) .nil)))))
      refine ⟨_, rfl, ?_⟩
      refine MkD.now (K := K) (d := toldD) ?_ fun v HE eE jE => ⟨_, _, Jd.dp _ _ rfl (Jd.mono eE _ _ d1), Jd.dp _ _ rfl jE, rfl, rfl, ?_⟩
      · exact mk_lst (mka_cons (mk_tup (mka_cons (mk_neg mk_int) (mka_cons mk_int mka_nil)) (by decide)) (mka_cons (mk_neg mk_int) (mka_cons (mk_tup (mka_cons mk_int (mka_cons mk_int mka_nil)) (by decide))
          (mka_cons (mk_tup (mka_cons mk_int (mka_cons mk_int mka_nil)) (by decide)) (mka_cons mk_int mka_nil))))) (by decide)
      · rw [SeqAt.eqv_refl_plain toldD rfl]
        exact q HE
end
end K01

set_option maxHeartbeats 1000000
namespace K01
open PySem PySem.Spec PyProof.Rows L2 My M01
theorem bind_law {K : PySem.W.Frag} {f : Addr} {fd : FuncData} (F : Fun K "law" "law" s_law f fd) (s : Shared) (u : Value) : BindsTo s fd ⟨[u], []⟩ [("_law_script", u)] := by
  obtain ⟨oc, od, kV, doc, pm, an, cdv, ct, osl, rfl, _, _⟩ := F.ex
  exact .of_eq rfl
theorem def_mk {K : PySem.W.Frag} {h : Heap} {mg : Str → Option Value} {x : Str} {st : Stmt} {f : Addr} {oc : Value} {od an : Option Addr} {osl : Array (Option Value)}
    {kV doc pm cdv ct : Value} (inK : K.In h) (names : h.Ns mainGlobals mg) (a : PySem.W.nsIn K mainGlobals x = some (some (.ref f)))
    (l : K.lookup f = some ⟨oc, od, .func (PySem.W.fnOf x x (defArgs st) (defBody st) (defScope st) .none kV doc pm an cdv ct), osl⟩)
    (c : PySem.W.codeIn K cdv x = true) (k : PySem.W.keepIn K (.ref f) = true) : ∃ (f : Addr) (fd : FuncData), mg x = some (.ref f) ∧ Fun K x x st f fd :=
  ⟨f, _, PySem.W.mg_of inK names a, fun_mk l c k⟩
theorem con_mk {K : PySem.W.Frag} {h : Heap} {mg : Str → Option Value} {x : Str} {v : V} {u : Value} (inK : K.In h) (names : h.Ns mainGlobals mg)
    (a : PySem.W.nsIn K mainGlobals x = some (some u)) (r : RelV v u) : ∃ u : Value, mg x = some u ∧ RelV v u := ⟨u, PySem.W.mg_of inK names a, r⟩
end K01
open PySem PySem.W PyProof.Rows
set_option maxRecDepth 100000 in
set_option maxHeartbeats 0 in
theorem PySem.Challenge.cw_ballgrids_k01_whole_numbers_holds : PySem.Challenge.rw_ballgrids_k01_whole_numbers.Holds := by
  w_on; o_law; k_head; (case hw => w_witness2)
  k_fill
  refine My.walk_g (l := PySem.Challenge.rw_ballgrids_k01_whole_numbers) (n := 63) (k := 8) (x := "_law_script") (sp := K01.sp_law) rfl (by decide) rfl ⟨rfl, by decide, by decide⟩ (fun w h Y => PySem.W.kIn_of Y) ?F (fun K H a ns hl _ hS => ⟨a, ns, rfl, hS, hl, fun _ => rfl⟩)
  case F =>
    intro w mg fa h KX G hmg
    obtain ⟨a_is_whole, d_is_whole, g_is_whole, f_is_whole⟩ : ∃ (f : Addr) (fd : FuncData), mg "is_whole" = some (.ref f) ∧ L2.Fun _ "is_whole" "is_whole" K01.s_is_whole f fd := by
      refine' K01.def_mk (x := "is_whole") (st := K01.s_is_whole) KX G ?a ?l ?c ?k
      (case a => k_is); (case l => k_is); (case c => k_is); (case k => k_is)
    obtain ⟨a_is_integer, d_is_integer, g_is_integer, f_is_integer⟩ : ∃ (f : Addr) (fd : FuncData), mg "is_integer" = some (.ref f) ∧ L2.Fun _ "is_integer" "is_integer" K01.s_is_integer f fd := by
      refine' K01.def_mk (x := "is_integer") (st := K01.s_is_integer) KX G ?a ?l ?c ?k
      (case a => k_is); (case l => k_is); (case c => k_is); (case k => k_is)
    obtain ⟨a_are_integers, d_are_integers, g_are_integers, f_are_integers⟩ : ∃ (f : Addr) (fd : FuncData), mg "are_integers" = some (.ref f) ∧ L2.Fun _ "are_integers" "are_integers" K01.s_are_integers f fd := by
      refine' K01.def_mk (x := "are_integers") (st := K01.s_are_integers) KX G ?a ?l ?c ?k
      (case a => k_is); (case l => k_is); (case c => k_is); (case k => k_is)
    obtain ⟨a_is_ratio, d_is_ratio, g_is_ratio, f_is_ratio⟩ : ∃ (f : Addr) (fd : FuncData), mg "is_ratio" = some (.ref f) ∧ L2.Fun _ "is_ratio" "is_ratio" K01.s_is_ratio f fd := by
      refine' K01.def_mk (x := "is_ratio") (st := K01.s_is_ratio) KX G ?a ?l ?c ?k
      (case a => k_is); (case l => k_is); (case c => k_is); (case k => k_is)
    obtain ⟨a_divisor_of, d_divisor_of, g_divisor_of, f_divisor_of⟩ : ∃ (f : Addr) (fd : FuncData), mg "divisor_of" = some (.ref f) ∧ L2.Fun _ "divisor_of" "divisor_of" K01.s_divisor_of f fd := by
      refine' K01.def_mk (x := "divisor_of") (st := K01.s_divisor_of) KX G ?a ?l ?c ?k
      (case a => k_is); (case l => k_is); (case c => k_is); (case k => k_is)
    obtain ⟨a_ratio_of, d_ratio_of, g_ratio_of, f_ratio_of⟩ : ∃ (f : Addr) (fd : FuncData), mg "ratio_of" = some (.ref f) ∧ L2.Fun _ "ratio_of" "ratio_of" K01.s_ratio_of f fd := by
      refine' K01.def_mk (x := "ratio_of") (st := K01.s_ratio_of) KX G ?a ?l ?c ?k
      (case a => k_is); (case l => k_is); (case c => k_is); (case k => k_is)
    obtain ⟨a_common_divisor, d_common_divisor, g_common_divisor, f_common_divisor⟩ : ∃ (f : Addr) (fd : FuncData), mg "common_divisor" = some (.ref f) ∧ L2.Fun _ "common_divisor" "common_divisor" K01.s_common_divisor f fd := by
      refine' K01.def_mk (x := "common_divisor") (st := K01.s_common_divisor) KX G ?a ?l ?c ?k
      (case a => k_is); (case l => k_is); (case c => k_is); (case k => k_is)
    obtain ⟨a_lowest, d_lowest, g_lowest, f_lowest⟩ : ∃ (f : Addr) (fd : FuncData), mg "lowest" = some (.ref f) ∧ L2.Fun _ "lowest" "lowest" K01.s_lowest f fd := by
      refine' K01.def_mk (x := "lowest") (st := K01.s_lowest) KX G ?a ?l ?c ?k
      (case a => k_is); (case l => k_is); (case c => k_is); (case k => k_is)
    obtain ⟨a_need_ratios, d_need_ratios, g_need_ratios, f_need_ratios⟩ : ∃ (f : Addr) (fd : FuncData), mg "need_ratios" = some (.ref f) ∧ L2.Fun _ "need_ratios" "need_ratios" K01.s_need_ratios f fd := by
      refine' K01.def_mk (x := "need_ratios") (st := K01.s_need_ratios) KX G ?a ?l ?c ?k
      (case a => k_is); (case l => k_is); (case c => k_is); (case k => k_is)
    obtain ⟨a_compare, d_compare, g_compare, f_compare⟩ : ∃ (f : Addr) (fd : FuncData), mg "compare" = some (.ref f) ∧ L2.Fun _ "compare" "compare" K01.s_compare f fd := by
      refine' K01.def_mk (x := "compare") (st := K01.s_compare) KX G ?a ?l ?c ?k
      (case a => k_is); (case l => k_is); (case c => k_is); (case k => k_is)
    obtain ⟨a_plus, d_plus, g_plus, f_plus⟩ : ∃ (f : Addr) (fd : FuncData), mg "plus" = some (.ref f) ∧ L2.Fun _ "plus" "plus" K01.s_plus f fd := by
      refine' K01.def_mk (x := "plus") (st := K01.s_plus) KX G ?a ?l ?c ?k
      (case a => k_is); (case l => k_is); (case c => k_is); (case k => k_is)
    obtain ⟨a_minus, d_minus, g_minus, f_minus⟩ : ∃ (f : Addr) (fd : FuncData), mg "minus" = some (.ref f) ∧ L2.Fun _ "minus" "minus" K01.s_minus f fd := by
      refine' K01.def_mk (x := "minus") (st := K01.s_minus) KX G ?a ?l ?c ?k
      (case a => k_is); (case l => k_is); (case c => k_is); (case k => k_is)
    obtain ⟨a_times, d_times, g_times, f_times⟩ : ∃ (f : Addr) (fd : FuncData), mg "times" = some (.ref f) ∧ L2.Fun _ "times" "times" K01.s_times f fd := by
      refine' K01.def_mk (x := "times") (st := K01.s_times) KX G ?a ?l ?c ?k
      (case a => k_is); (case l => k_is); (case c => k_is); (case k => k_is)
    obtain ⟨a__law_bag, d__law_bag, g__law_bag, f__law_bag⟩ : ∃ (f : Addr) (fd : FuncData), mg "_law_bag" = some (.ref f) ∧ L2.Fun _ "_law_bag" "_law_bag" K01.s__law_bag f fd := by
      refine' K01.def_mk (x := "_law_bag") (st := K01.s__law_bag) KX G ?a ?l ?c ?k
      (case a => k_is); (case l => k_is); (case c => k_is); (case k => k_is)
    obtain ⟨a__law_grab, d__law_grab, g__law_grab, f__law_grab⟩ : ∃ (f : Addr) (fd : FuncData), mg "_law_grab" = some (.ref f) ∧ L2.Fun _ "_law_grab" "_law_grab" K01.s__law_grab f fd := by
      refine' K01.def_mk (x := "_law_grab") (st := K01.s__law_grab) KX G ?a ?l ?c ?k
      (case a => k_is); (case l => k_is); (case c => k_is); (case k => k_is)
    obtain ⟨a__law_one_of, d__law_one_of, g__law_one_of, f__law_one_of⟩ : ∃ (f : Addr) (fd : FuncData), mg "_law_one_of" = some (.ref f) ∧ L2.Fun _ "_law_one_of" "_law_one_of" K01.s__law_one_of f fd := by
      refine' K01.def_mk (x := "_law_one_of") (st := K01.s__law_one_of) KX G ?a ?l ?c ?k
      (case a => k_is); (case l => k_is); (case c => k_is); (case k => k_is)
    obtain ⟨a__law_divisor, d__law_divisor, g__law_divisor, f__law_divisor⟩ : ∃ (f : Addr) (fd : FuncData), mg "_law_divisor" = some (.ref f) ∧ L2.Fun _ "_law_divisor" "_law_divisor" K01.s__law_divisor f fd := by
      refine' K01.def_mk (x := "_law_divisor") (st := K01.s__law_divisor) KX G ?a ?l ?c ?k
      (case a => k_is); (case l => k_is); (case c => k_is); (case k => k_is)
    obtain ⟨a__law_whole, d__law_whole, g__law_whole, f__law_whole⟩ : ∃ (f : Addr) (fd : FuncData), mg "_law_whole" = some (.ref f) ∧ L2.Fun _ "_law_whole" "_law_whole" K01.s__law_whole f fd := by
      refine' K01.def_mk (x := "_law_whole") (st := K01.s__law_whole) KX G ?a ?l ?c ?k
      (case a => k_is); (case l => k_is); (case c => k_is); (case k => k_is)
    obtain ⟨a__law_is_short, d__law_is_short, g__law_is_short, f__law_is_short⟩ : ∃ (f : Addr) (fd : FuncData), mg "_law_is_short" = some (.ref f) ∧ L2.Fun _ "_law_is_short" "_law_is_short" K01.s__law_is_short f fd := by
      refine' K01.def_mk (x := "_law_is_short") (st := K01.s__law_is_short) KX G ?a ?l ?c ?k
      (case a => k_is); (case l => k_is); (case c => k_is); (case k => k_is)
    obtain ⟨a__law_is_ratio, d__law_is_ratio, g__law_is_ratio, f__law_is_ratio⟩ : ∃ (f : Addr) (fd : FuncData), mg "_law_is_ratio" = some (.ref f) ∧ L2.Fun _ "_law_is_ratio" "_law_is_ratio" K01.s__law_is_ratio f fd := by
      refine' K01.def_mk (x := "_law_is_ratio") (st := K01.s__law_is_ratio) KX G ?a ?l ?c ?k
      (case a => k_is); (case l => k_is); (case c => k_is); (case k => k_is)
    obtain ⟨a__law_ratio, d__law_ratio, g__law_ratio, f__law_ratio⟩ : ∃ (f : Addr) (fd : FuncData), mg "_law_ratio" = some (.ref f) ∧ L2.Fun _ "_law_ratio" "_law_ratio" K01.s__law_ratio f fd := by
      refine' K01.def_mk (x := "_law_ratio") (st := K01.s__law_ratio) KX G ?a ?l ?c ?k
      (case a => k_is); (case l => k_is); (case c => k_is); (case k => k_is)
    obtain ⟨a__law_lowered_pair, d__law_lowered_pair, g__law_lowered_pair, f__law_lowered_pair⟩ : ∃ (f : Addr) (fd : FuncData), mg "_law_lowered_pair" = some (.ref f) ∧ L2.Fun _ "_law_lowered_pair" "_law_lowered_pair" K01.s__law_lowered_pair f fd := by
      refine' K01.def_mk (x := "_law_lowered_pair") (st := K01.s__law_lowered_pair) KX G ?a ?l ?c ?k
      (case a => k_is); (case l => k_is); (case c => k_is); (case k => k_is)
    obtain ⟨a__law_judged, d__law_judged, g__law_judged, f__law_judged⟩ : ∃ (f : Addr) (fd : FuncData), mg "_law_judged" = some (.ref f) ∧ L2.Fun _ "_law_judged" "_law_judged" K01.s__law_judged f fd := by
      refine' K01.def_mk (x := "_law_judged") (st := K01.s__law_judged) KX G ?a ?l ?c ?k
      (case a => k_is); (case l => k_is); (case c => k_is); (case k => k_is)
    obtain ⟨a__law_reckoned, d__law_reckoned, g__law_reckoned, f__law_reckoned⟩ : ∃ (f : Addr) (fd : FuncData), mg "_law_reckoned" = some (.ref f) ∧ L2.Fun _ "_law_reckoned" "_law_reckoned" K01.s__law_reckoned f fd := by
      refine' K01.def_mk (x := "_law_reckoned") (st := K01.s__law_reckoned) KX G ?a ?l ?c ?k
      (case a => k_is); (case l => k_is); (case c => k_is); (case k => k_is)
    obtain ⟨a__law_lowered, d__law_lowered, g__law_lowered, f__law_lowered⟩ : ∃ (f : Addr) (fd : FuncData), mg "_law_lowered" = some (.ref f) ∧ L2.Fun _ "_law_lowered" "_law_lowered" K01.s__law_lowered f fd := by
      refine' K01.def_mk (x := "_law_lowered") (st := K01.s__law_lowered) KX G ?a ?l ?c ?k
      (case a => k_is); (case l => k_is); (case c => k_is); (case k => k_is)
    obtain ⟨a_law, d_law, g_law, f_law⟩ : ∃ (f : Addr) (fd : FuncData), mg "law" = some (.ref f) ∧ L2.Fun _ "law" "law" K01.s_law f fd := by
      refine' K01.def_mk (x := "law") (st := K01.s_law) KX G ?a ?l ?c ?k
      (case a => k_is); (case l => k_is); (case c => k_is); (case k => k_is)
    obtain ⟨u_MAX_NUMBERS, c_MAX_NUMBERS, v_MAX_NUMBERS⟩ : ∃ u : Value, mg "MAX_NUMBERS" = some u ∧ L2.RelV (.int 100) u := by
      refine' K01.con_mk (x := "MAX_NUMBERS") KX G ?a ?r
      (case a => k_is); (case r => exact ⟨_, rfl⟩)
    obtain ⟨u_TOO_LONG, c_TOO_LONG, v_TOO_LONG⟩ : ∃ u : Value, mg "TOO_LONG" = some u ∧ L2.RelV (.int (10 ^ 60)) u := by
      refine' K01.con_mk (x := "TOO_LONG") KX G ?a ?r
      (case a => k_is); (case r => exact ⟨_, rfl⟩)
    have n_abs : mg "abs" = none := PySem.W.mg_none_of KX G (by k_is)
    have n_all : mg "all" = none := PySem.W.mg_none_of KX G (by k_is)
    have n_bool : mg "bool" = none := PySem.W.mg_none_of KX G (by k_is)
    have n_int : mg "int" = none := PySem.W.mg_none_of KX G (by k_is)
    have n_isinstance : mg "isinstance" = none := PySem.W.mg_none_of KX G (by k_is)
    have n_len : mg "len" = none := PySem.W.mg_none_of KX G (by k_is)
    have n_max : mg "max" = none := PySem.W.mg_none_of KX G (by k_is)
    have n_min : mg "min" = none := PySem.W.mg_none_of KX G (by k_is)
    have n_range : mg "range" = none := PySem.W.mg_none_of KX G (by k_is)
    have n_repr : mg "repr" = none := PySem.W.mg_none_of KX G (by k_is)
    have n_sum : mg "sum" = none := PySem.W.mg_none_of KX G (by k_is)
    have n_tuple : mg "tuple" = none := PySem.W.mg_none_of KX G (by k_is)
    have g_gcd : mg "gcd" = some (.builtin "math.gcd") := PySem.W.mg_of KX G (by k_is)
    have T : K01.Txt _ mg ⟨a_is_whole, d_is_whole, a_is_integer, d_is_integer, a_are_integers, d_are_integers, a_is_ratio, d_is_ratio, a_divisor_of, d_divisor_of, a_ratio_of, d_ratio_of, a_common_divisor, d_common_divisor, a_lowest, d_lowest, a_need_ratios, d_need_ratios, a_compare, d_compare, a_plus, d_plus, a_minus, d_minus, a_times, d_times, a__law_bag, d__law_bag, a__law_grab, d__law_grab, a__law_one_of, d__law_one_of, a__law_divisor, d__law_divisor, a__law_whole, d__law_whole, a__law_is_short, d__law_is_short, a__law_is_ratio, d__law_is_ratio, a__law_ratio, d__law_ratio, a__law_lowered_pair, d__law_lowered_pair, a__law_judged, d__law_judged, a__law_reckoned, d__law_reckoned, a__law_lowered, d__law_lowered, a_law, d_law, u_MAX_NUMBERS, u_TOO_LONG⟩ := ⟨g_is_whole, f_is_whole, g_is_integer, f_is_integer, g_are_integers, f_are_integers, g_is_ratio, f_is_ratio, g_divisor_of, f_divisor_of, g_ratio_of, f_ratio_of, g_common_divisor, f_common_divisor, g_lowest, f_lowest, g_need_ratios, f_need_ratios, g_compare, f_compare, g_plus, f_plus, g_minus, f_minus, g_times, f_times, g__law_bag, f__law_bag, g__law_grab, f__law_grab, g__law_one_of, f__law_one_of, g__law_divisor, f__law_divisor, g__law_whole, f__law_whole, g__law_is_short, f__law_is_short, g__law_is_ratio, f__law_is_ratio, g__law_ratio, f__law_ratio, g__law_lowered_pair, f__law_lowered_pair, g__law_judged, f__law_judged, g__law_reckoned, f__law_reckoned, g__law_lowered, f__law_lowered, g_law, f_law, n_abs, n_all, n_bool, n_int, n_isinstance, n_len, n_max, n_min, n_range, n_repr, n_sum, n_tuple, c_MAX_NUMBERS, v_MAX_NUMBERS, c_TOO_LONG, v_TOO_LONG, g_gcd⟩
    obtain rfl : fa = a_law := by
      have e := hmg.symm.trans g_law
      cases e
      rfl
    exact ⟨d_law, K01.bind_law f_law, fun base _ _ => K01.ok_law T⟩

import PyProof.Rows.All
import Wide.All
import OpenK.AllK
import Wide.FinOn
import KE.KStateDown
import Lean
import HandS.Base
import HandS.Call
import HandS.List
import HandS.Comp
import HandS.Ends
import HandS.Dict
import HandS.Iter
import HandS.Exc
import HandS.TryOnly
import HandS.ExcOwn
import HandS.Words
import HandS.WordsList
import HandS.WordsDict
import HandS.WordsExc
import HandS.Wide
import HandS.IsInst
import HandS.ExcIs
import HandS.Defaults
import HandS.More
import HandS.Star
import HandS.ClsMeth
import HandS.MakeKw
import HandS.MakeKwOnly
import HandS.Conv
import HandS.TupMul
import HandS.TupLe
import HandS.Flow
import HandS.Zip
import HandS.CallLocal
import HandS.Head0
import HandS.Head1
import HandS.Head2
import HandS.HeadEnd
import HandS.HeadHook1
import HandS.HeadHook2
import PyProof.ReprLen
import HandS.Walk
import HandS.Zip0
import HandS.DictComp
import HandS.OwnEq
import OpenK.KOps
import HandS.ExcField
import HandS.ExcInit
import KE.KExcIs
import HandS.Deep
import PyProof.EqKinds
import PyProof.FactsAll.dict
import HandS.TupAny
import HandS.Style
import HandS.Codes
import HandS.Text
import HandS.Steps
import PyProof.StrLawsRepr
import PySem.Challenge.RW_sampleweave_k24_put_and_delayed
set_option Elab.async false
set_option linter.all false
set_option maxRecDepth 100000
set_option maxHeartbeats 0
namespace L2
open PySem PySem.Spec PyProof.Rows
/-! ## Own words, 1: defs that are called where no repr is under way -/
/-- as FnOk, but called only while no guard (a repr under way) is around -/
structure FnG (P : Program) (w : World) (K : PySem.W.Frag) (mg : Str → Option Value) (base : Heap) (CX : CXT) (k : Nat) (f : Addr) (fd : FuncData) (ps : List Str) (sp : Sp) : Prop where
  size : ∀ vs H Q E, sp vs H Q E → vs.length = ps.length
  goes : ∀ (A : Around) (outer : List Env) (s : Shared) (H : Hp) (args : Args) (us : List Value) (vs : List V) (Q : VK) (E : XK), Room k A → A.guards = some [] → Env0 P w K mg base A outer s H →
    BindsTo s fd args (ps.zip us) → Vals vs us → sp vs H Q E → codeAny (model P w) A (.call (.ref f) args) (CR CX outer P w H s Q E) s
section
variable {P : Program} {w : World} {K : PySem.W.Frag} {mg : Str → Option Value} {base : Heap} {CX : CXT} {k : Nat} {f : Addr} {fd : FuncData} {ps N : List Str} {sp : Sp} {x qual : Str} {params : Arguments} {body : List Stmt} {scope : Scope} {dvs : List V} {kws : List (Str × V)}
/-- a def's body, where the guards are known -/
theorem FunD.okG (F : FunD K x qual params body scope dvs kws f fd) (S : FnScope N ps scope) (size : ∀ vs H Q E, sp vs H Q E → vs.length = ps.length)
    (does : ∀ (cdv : Value) (A : Around) (outer : List Env) (s : Shared) (H : Hp) (vs : List V) (Q : VK) (E : XK), Room k (A.deeper (envOfC qual scope s.heap.objs.size f cdv)) → A.guards = some [] → sp vs H Q E →
      ∃ t, PSs (cxOf CX P w K mg base N qual scope f cdv A outer s H E) body t ∧ t { nx := fun _ H' => Q .non H', rt := Q } (start N vs) H) : FnG P w K mg base CX (k + 1) f fd ps sp := by
  obtain ⟨oc, od, dV, kV, doc, pm, an, cdv, ct, osl, rfl, lk, hcd, _, _⟩ := F.ex
  refine ⟨size, fun A outer s H args us vs Q E room guard env bind rel prom => ?_⟩
  have only : StX.Bnd CX P w K mg base (PySem.W.fnOf x qual params body scope dV kV doc pm an cdv ct) args ps A outer s H E (fun vs' H' => vs' = vs ∧ H' = H) :=
    fun A' Ex Q' h' => bind _ _ _ _ (h' s H vs us env Un.refl rfl (fun _ _ z => z) rel (size _ _ _ _ prom) ⟨rfl, rfl⟩)
  refine StX.run_bnd (k := k) lk hcd S room env only fun s2 H2 vs2 same room2 => ?_
  obtain ⟨rfl, rfl⟩ := same
  exact does cdv A outer s2 H2 vs2 Q E room2 guard prom
/-- a plain def is one of these too -/
theorem FnOk.toG (F : FnOk P w K mg base CX k f fd ps sp) : FnG P w K mg base CX k f fd ps sp := ⟨F.len, fun A outer s H args us vs Q E room _ env bind rel prom => F.run A outer s H args us vs Q E room env bind rel prom⟩
end
section
variable {X : Cx} {CX : CXT} {k i : Nat} {f : Addr} {fd : FuncData} {ps : List Str} {sp : Sp} {dvs : List V} {ds : List Value} {E : XK} {x : Str} {p pos : Pos} {e : Expr} {es : List Expr} {t : TA}
theorem goes_fn {pins : List (Addr × Obj)} {σ : St} {H : Hp} {s : Shared} {Q : VK} {us : List Value} {vs : List V} (F : FnG X.prog X.w X.K X.mg X.base CX k f fd ps sp) (room : Room k X.A) (guard : X.A.guards = some []) (hb : Binds X.K fd ps ds) (hd : Vals dvs ds)
    (hx : Passes CX X E) (I : Inv X pins σ H s) (rel : Vals vs us) (prom : sp (vs ++ dvs) H Q E) : wpAny (model X.prog X.w) X.A (call (.ref f) us) (EP X pins σ Q) X.xe s := by
  have both := rel.append hd
  have many : (us ++ ds).length = ps.length := both.length.symm.trans (F.size _ _ _ _ prom)
  refine wpAny_call (codeAny_mono (F.goes X.A X.stack s H ⟨us, []⟩ (us ++ ds) (vs ++ dvs) Q E room guard I.env0 (hb s us I.kIn many) both prom) ?_)
  rintro (_ | u | _ | _ | _ ) s' z
  all_goals first
    | exact hx pins σ H s _ s' I z
    | exact I.after z
    | exact z.elim
theorem pe_callG (F : FnG X.prog X.w X.K X.mg X.base CX k f fd ps sp) (room : Room k X.A) (guard : X.A.guards = some []) (hg : Gl X x) (hm : X.mg x = some (.ref f)) (hk : PySem.W.keepIn X.K (.ref f) = true) (hb : Binds X.K fd ps ds) (hd : Vals dvs ds)
    (hx : Passes CX X E) (ha : PA X (e :: es) t) (hdb : (x == ("__debug__" : Str)) = false := by decide) (he : starEach (e :: es) X.env = (false, eval e X.env) :: starEach es X.env := by rfl)
    (hpl : (backTo pos (starEach es X.env)).any (·.1) = false := by rfl) : PE X (.Call (.Name x p) (e :: es) [] pos) (tCall sp dvs E t) := by
  refine ⟨fun pins s σ H Q I h => wpAny_Call_Name_kw (ld_glob I hg hm ?_ hdb)⟩
  exact PySem.W.callWith_K (h₀ := X.base) I.ok.mod.kin hk (thn (ha.run pos pins s σ H _ I h) fun us s1 ⟨vs, H1, I1, r, q⟩ => ⟨I1.kIn, goes_fn F room guard hb hd hx I1 r q⟩) he hpl
end
/-- the law's call, its def being one of these -/
theorem law_goes {P : Program} {w : World} {K : PySem.W.Frag} {mg mb : Str → Option Value} {CX : CXT} {k : Nat} {fa a : Addr} {fd : FuncData} {x : Str} {sp : Sp} {s₁ : Shared} {vs : List Value} {ns : List Int}
    (inK : K.In s₁.heap) (glob : s₁.heap.Ns mainGlobals mg) (blt : s₁.heap.Ns builtinsNs mb) (boot : ∀ x : Str, x ≠ "__name__" → mb x = bootBuiltins x) (lim : s₁.heap.NoLimit) (gens : s₁.gens = #[])
    (scr : s₁.heap.get? a = some { cls := .type "list", data := .seq vs.toArray }) (nums : IntsAre vs ns) (few : ns.length ≤ sizeLine) (room : Room k callerA)
    (F : ∀ base : Heap, K.In base → base.Ns mainGlobals mg → FnG P w K mg base CX k fa fd [x] sp) (bind : ∀ (s : Shared) (u : Value), BindsTo s fd ⟨[u], []⟩ [(x, u)])
    (prom : ∀ H : Hp, Only H → SqL K H a (ns.map V.int) → sp [.ref a] H (fun v _ => v = .bl true) fun _ _ _ => False) (none_out : ∀ H e s', CX [] H s₁ (fun _ _ _ => False) e s' → False) :
    codeAny (model P w) callerA (.call (.ref fa) ⟨[.ref a], []⟩) (fun r s' => r = .ok (.ret (.bool true)) ∧ OldK s₁.heap s'.heap ∧ s'.os = s₁.os ∧ AllBare s'.gens) s₁ := by
  have rel := vals_ints nums
  have from_heap : ∀ H : Hp, (∀ b, H b = none ∨ (b = a ∧ K.lookup a = none ∧ H b = some (.frz { cls := .type "list", data := .seq vs.toArray } (.lst (ns.map V.int))))) → SqL K H a (ns.map V.int) →
      codeAny (model P w) callerA (.call (.ref fa) ⟨[.ref a], []⟩) (fun r s' => r = .ok (.ret (.bool true)) ∧ OldK s₁.heap s'.heap ∧ s'.os = s₁.os ∧ AllBare s'.gens) s₁ := by
    intro H which seen
    have small : Only H := fun b => (which b).imp id fun z => ⟨_, _, z.2.2⟩
    have space : ∀ {b : Addr} {m : Str → Option Value}, s₁.heap.Ns b m → (hidT s₁.heap H).Ns b m := by
      rintro b m ⟨o, es, ep, e, d, r⟩
      refine ⟨o, es, ep, hidT_get e ((which b).resolve_right fun ⟨eb, _⟩ => ?_), d, r⟩
      rw [eb, scr] at e
      cases e
      cases d
    have written : K.In (hidT s₁.heap H) := fun b o e => hidT_get (inK b o e) ((which b).resolve_right fun ⟨eb, n, _⟩ => by
      rw [eb, n] at e
      cases e)
    have fits : HOk P w H s₁.heap := fun b u z => by
      rcases which b with n | ⟨rfl, _, n⟩
      · rw [n] at z
        cases z
      · rw [n] at z
        cases z
        exact ⟨scr, by rw [List.length_map]; exact few, vs, _, rel, scr⟩
    obtain ⟨mc, c1, c2⟩ := lim
    have env : Env0 P w K mg (hidT s₁.heap H) callerA [] s₁ H :=
      ⟨rfl, ⟨written, space glob, ⟨mb, space blt, boot⟩, mc, space c1, c2⟩, fun _ _ e => of_hidT e, Nat.le_of_eq (hidT_size _ _), trivial, fun _ z => (List.not_mem_nil z).elim, fits, .of_eq gens⟩
    refine codeAny_mono ((F _ written (space glob)).goes callerA [] s₁ H ⟨[.ref a], []⟩ [.ref a] [.ref a] _ _ room rfl env (bind s₁ (.ref a)) (.cons rfl .nil) (prom H small seen)) ?_
    intro res s' z
    match res, z with
    | .error e, z => exact (none_out H e s' z).elim
    | .ok .next, z => exact z.elim
    | .ok .brk, z => exact z.elim
    | .ok .cont, z => exact z.elim
    | .ok (.ret u), z =>
      obtain ⟨v, H', os, bare, un, fits', rv, (rfl : v = V.bl true)⟩ := z
      obtain rfl : u = Value.bool true := rv
      refine ⟨rfl, OldK.of_keep fun b o e => ?_, os, bare⟩
      rcases which b with n | ⟨_, _, n⟩
      · exact un.keep b o e n (fun z => (List.not_mem_nil z).elim) List.not_mem_nil
      · obtain ⟨e1, _⟩ := fits b _ n
        obtain ⟨e2, _⟩ := fits' b _ (un.frzs b _ _ n)
        rw [e] at e1
        cases e1
        exact e2
  by_cases own : K.lookup a = none
  · refine from_heap (fun b => if b = a then some (.frz { cls := .type "list", data := .seq vs.toArray } (.lst (ns.map V.int))) else none) (fun b => ?_) (.inl (.inr ⟨_, if_pos rfl⟩))
    by_cases eb : b = a
    · exact .inr ⟨eb, own, if_pos eb⟩
    · exact .inl (if_neg eb)
  · obtain ⟨o, own⟩ := Option.ne_none_iff_exists'.mp own
    have e := inK a o own
    rw [scr] at e
    cases e
    exact from_heap (fun _ => none) (fun _ => .inl rfl) (.inr ⟨_, vs.toArray, _, own, rfl, rfl, rfl, by rw [List.size_toArray, nums.length]; exact few, by simpa using rel⟩)
theorem walk_goes {l : PySem.W.OpenLaw} {n k : Nat} {q : Program} {loose : List Str} {XP : (Str → Option Value) → Heap → Prop} {YP : World → Heap → Prop} {d : DefRec} {CX : CXT} {x : Str}
    (most : l.most = some n) (few : n ≤ sizeLine) (nodef : d.params.defaults = []) (room : Room k callerA)
    (F : ∀ (w : World) (mg : Str → Option Value) (fa : Addr) (h : Heap), YP w h → h.Ns mainGlobals mg → mg d.name = some (.ref fa) →
      ∃ (K : PySem.W.Frag) (fd : FuncData) (sp : Sp), K.In h ∧ (∀ (s : Shared) (u : Value), BindsTo s fd ⟨[u], []⟩ [(x, u)]) ∧
        (∀ (H : Hp) (a : Addr) (ns : List Int), ns.length ≤ n → Only H → SqL K H a (ns.map V.int) → sp [.ref a] H (fun v _ => v = .bl true) fun _ _ _ => False) ∧
        ∀ base : Heap, K.In base → base.Ns mainGlobals mg → FnG l.prog w K mg base CX k fa fd [x] sp)
    (none_out : ∀ (H : Hp) (s : Shared) (e : Value) (s' : Shared), CX [] H s (fun _ _ _ => False) e s' → False) : PySem.W.WalkO q loose XP YP l.row.toRowW d [] (fun f vs => PySem.call f vs) := by
  refine Att.attach_call most nodef ?_
  intro w s₀ s₁ mg mb fa o pm cd doc a vs ns G Y ho hd hcd named obj nums len gens
  obtain ⟨K, fd, sp, inK, bind, prom, does⟩ := F w mg fa _ Y G.T.g named
  exact law_goes inK G.T.g G.T.b G.T.builtins G.T.nolimit gens obj nums (Nat.le_trans len few) room does bind (fun H hO hS => prom H a ns len hO hS) fun H e s' => none_out H s₁ e s'
end L2
namespace L2
open PySem PySem.Spec PyProof.Rows
/-! ## Own words, 2: repr of data; a base class's def called by the class's name -/
section
variable {X : Cx}
/-- repr(x), x a list or a tuple of data -/
def rReprD (K : PySem.W.Frag) : List V → Hp → VK → Prop := fun xs H Q => ∃ (a : Addr) (d : PyData) (S : Str), xs = [.ref a] ∧ Dp K H (.ref a) d ∧ SeqAt.shaped d = true ∧ d.showable = true ∧ d.shown.length ≤ sizeLine ∧ d.shown = S ∧ Q (.str S) H
theorem call_reprD (guard : X.A.guards = some []) (units : X.A.units + 66 < cLine) : CallR X (.builtin "repr") (rReprD X.K) := by
  intro pins s σ H xs us Q I r h
  obtain ⟨a, d, S, rfl, dp, sh, sw, sz, rfl, q⟩ := h
  obtain ⟨u, rfl, ru⟩ := vals1 r
  obtain rfl : u = Value.ref a := ru
  obtain ⟨as, rd⟩ := Dp.reads I d _ _ dp rfl
  have dep := SeqAt.depth_of_shaped sh
  exact repr_of_reads' rd sw (PyData.noDict_hsm (PyData.hasDict_of_canLay d (SeqAt.canLay_of_shaped sh))) guard (by omega) (fun _ _ e => e) (fun h' u tk hk => ⟨.str d.shown, H, I.kept (t' := tk) hk, ⟨u, rfl⟩, q⟩) sz
/-- C.m(e, ..), C a class of one's own by name, m a def of its body -/
structure BaseM (K : PySem.W.Frag) (C : Addr) (m : Str) (f : Addr) : Prop where
  rd : PySem.W.readsIn K C (.type "type") = true
  ga : PySem.W.specialIn K (.ref C) "__getattribute__" = some (some (.builtin "type.__getattribute__"))
  at_ : PySem.W.findCls K (.ref C) (.type "type") m = some (.val (.ref f))
  kp : PySem.W.keepIn K (.ref f) = true
variable {CX : CXT} {k : Nat} {f C : Addr} {fd : FuncData} {ps : List Str} {sp : Sp} {dvs : List V} {ds : List Value} {E : XK} {x m : Str} {p pos apos : Pos} {e o : Expr} {es : List Expr} {ta : TE} {t : TA}
def tBase (C : Addr) (sp : Sp) (dvs : List V) (E : XK) (ta : TE) (t : TA) : TE := fun σ H Q => ta σ H fun x H1 => x = .ref C ∧ t σ H1 fun vs H2 => sp (vs ++ dvs) H2 Q E
theorem pe_base {pl : Sem Bool} (ho : PE X o ta) (b : BaseM X.K C m f) (F : FnOk X.prog X.w X.K X.mg X.base CX k f fd ps sp) (room : Room k X.A) (hb : Binds X.K fd ps ds) (hd : Vals dvs ds) (hx : Passes CX X E) (ha : PA X (e :: es) t)
    (hst : starEach (e :: es) X.env = (false, eval e X.env) :: starEach es X.env := by rfl) (hpl : (backTo pos (starEach es X.env)).any (·.1) = false := by rfl)
    (ht : eval (.Call (.Attribute o m apos) (e :: es) [] pos) X.env = (do
      let ov ← eval o X.env
      standAt apos.atName
      let (f, first) ← holding [ov] (getMethod ov m pl)
      callWith pos f first (backTo pos (starEach (e :: es) X.env)) (backToKw pos (keywordEach [] X.env))) := by rfl) :
    PE X (.Call (.Attribute o m apos) (e :: es) [] pos) (tBase C sp dvs E ta t) := by
  refine ⟨fun pins s σ H Q I h => ?_⟩
  refine PySem.W.methodCall_KW (pl := pl) (thn (ho.run pins s σ H _ I h) fun u s1 ⟨x, H1, I1, rx, ex, q⟩ => ?_) ht
  subst ex
  obtain rfl : u = Value.ref C := rx
  refine PySem.W.method_cls I1.kIn b.ga (PySem.W.cls_value I1.kIn b.rd b.at_ rfl ?_)
  have I2 := I1.tok (s1.toks + 1)
  exact PySem.W.callWith_K (first := []) (h₀ := X.base) I.ok.mod.kin b.kp (thn (ha.run pos pins _ σ H1 _ I2 q) fun us s2 ⟨vs, H2, I3, r, q2⟩ => ⟨I3.kIn, run_fn F room hb hd hx I3 r q2⟩) hst hpl
end
/-! ### how long a repr is -/
theorem shown_sum {B : Nat} : ∀ ds : List PyData, (∀ d ∈ ds, d.shown.length ≤ B) → ((PyData.shownAll ds).map (·.length)).sum ≤ B * ds.length
  | [], _ => by rw [PyData.shownAll]; exact Nat.zero_le _
  | d :: ds, h => by
    have h1 := h d List.mem_cons_self
    have h2 := shown_sum ds fun z hz => h z (List.mem_cons_of_mem _ hz)
    rw [PyData.shownAll, List.map_cons, List.sum_cons, List.length_cons, Nat.mul_succ]
    omega
theorem shown_list {B : Nat} {ds : List PyData} (h : ∀ d ∈ ds, d.shown.length ≤ B) : (PyData.shown (.list ds)).length ≤ (B + 2) * ds.length + 3 := by
  have h1 := shown_sum ds h
  have h2 := listText_len_le (PyData.shownAll ds)
  rw [PyData.shownAll_length] at h2
  rw [PyData.shown, Nat.add_mul]
  omega
theorem shown_tuple {B : Nat} {ds : List PyData} (h : ∀ d ∈ ds, d.shown.length ≤ B) : (PyData.shown (.tuple ds)).length ≤ (B + 2) * ds.length + 3 := by
  have h1 := shown_sum ds h
  have h2 := tupleText_len_le (PyData.shownAll ds)
  rw [PyData.shownAll_length] at h2
  rw [PyData.shown, Nat.add_mul]
  omega
theorem shown_num {i : Int} (h : i.natAbs.log2 < 1920) : (PyData.shown (.int i)).length ≤ 1921 := by
  exact int_text_len_1921 h
theorem log2_of {i : Int} {b : Nat} (h : i.natAbs < 2 ^ b) (h0 : 0 < b) (h1 : b ≤ 1920) : i.natAbs.log2 < 1920 := Nat.lt_of_lt_of_le (PySem.Flt.log2_lt_of h0 h) h1
end L2
namespace L2
open PySem PySem.Spec PyProof.Rows
/-! ## Own words, 3: a method called in a try; a local that holds one of some defs -/
section
variable {X : Cx} {CX : CXT} {k i : Nat} {f C : Addr} {fd : FuncData} {ps : List Str} {sp : Sp} {E : St → XK} {x m : Str} {p pos apos : Pos} {e o : Expr} {es : List Expr} {ta : TE} {t : TA}
def tMethT (C : Addr) (m : Str) (sp : Sp) (E : St → XK) (ta : TE) (t : TA) : TE := fun σ H Q => ta σ H fun x H1 => ∃ a dx fs, x = .ref a ∧ H1 a = some (.ins C dx fs) ∧ fs.lookup m = none ∧ t σ H1 fun vs H2 => sp (x :: vs) H2 Q (E σ)
theorem pe_methT {pl : Sem Bool} (ho : PE X o ta) (c : Cls X.K C) (hm : Meth X.K C m f) (F : FnOk X.prog X.w X.K X.mg X.base CX k f fd ps sp) (room : Room k X.A) (hb : Binds X.K fd ps []) (hx : ∀ σ, PassesAt CX X σ (E σ)) (ha : PA X (e :: es) t)
    (hst : starEach (e :: es) X.env = (false, eval e X.env) :: starEach es X.env := by rfl) (hpl : (backTo pos (starEach es X.env)).any (·.1) = false := by rfl)
    (ht : eval (.Call (.Attribute o m apos) (e :: es) [] pos) X.env = (do
      let ov ← eval o X.env
      standAt apos.atName
      let (f, first) ← holding [ov] (getMethod ov m pl)
      callWith pos f first (backTo pos (starEach (e :: es) X.env)) (backToKw pos (keywordEach [] X.env))) := by rfl) :
    PE X (.Call (.Attribute o m apos) (e :: es) [] pos) (tMethT C m sp E ta t) := by
  refine ⟨fun pins s σ H Q I h => ?_⟩
  refine PySem.W.methodCall_KW (pl := pl) (thn (ho.run pins s σ H _ I h) fun u s1 ⟨x, H1, I1, rx, a, dx, fs, ex, ea, l, q⟩ => ?_) ht
  subst ex
  obtain rfl : u = Value.ref a := rx
  refine getmeth_ok I1 ea c hm l (PySem.W.callWith_K (first := [.ref a]) (h₀ := X.base) I.ok.mod.kin hm.kp (thn (ha.run pos pins s1 σ H1 _ I1 q) fun us s2 ⟨vs, H2, I2, r, q2⟩ => ⟨I2.kIn, ?_⟩) hst hpl)
  exact run_fnS (us := .ref a :: us) (vs := .ref a :: vs) F room hb (hx σ) I2 (.cons rfl r) q2
/-- the i-th slot holds one of these defs, all of one promise -/
def tOneOf (i : Nat) (fs : List Addr) (sp : Sp) (t : TA) : TE := fun σ H Q => ∃ f, f ∈ fs ∧ σ[i]? = some (some (.ref f)) ∧ t σ H fun vs H1 => sp vs H1 Q E0
theorem pe_oneOf {fs : List Addr} (F : ∀ f, f ∈ fs → ∃ fd ps, FnG X.prog X.w X.K X.mg X.base CX0 k f fd ps sp ∧ PySem.W.keepIn X.K (.ref f) = true ∧ Binds X.K fd ps []) (room : Room k X.A) (guard : X.A.guards = some []) (hN : X.N[i]? = some x) (hv : Vis X.env.scope x) (ha : PA X (e :: es) t)
    (hdb : (x == ("__debug__" : Str)) = false := by decide) (hcd : (x == ("__classdict__" : Str)) = false := by decide) (he : starEach (e :: es) X.env = (false, eval e X.env) :: starEach es X.env := by rfl)
    (hpl : (backTo pos (starEach es X.env)).any (·.1) = false := by rfl) : PE X (.Call (.Name x p) (e :: es) [] pos) (tOneOf i fs sp t) := by
  refine ⟨fun pins s σ H Q I h => ?_⟩
  obtain ⟨f, hf, hs, q0⟩ := h
  obtain ⟨fd, ps, G, kp, hb⟩ := F f hf
  have look := (pe_var (pos := p) hN hv hdb hcd).run pins s σ H (fun v H1 => v = .ref f ∧ H1 = H) I ⟨.ref f, hs, rfl, rfl⟩
  refine wpAny_Call_Name_kw (thn look fun u s1 ⟨v, H1, I1, r1, ev, eH⟩ => ?_)
  subst ev eH
  obtain rfl : u = Value.ref f := r1
  refine PySem.W.callWith_K (h₀ := X.base) I.ok.mod.kin kp (thn (ha.run pos pins s1 σ _ _ I1 q0) fun us s2 ⟨vs, H2, I2, r, q⟩ => ⟨I2.kIn, ?_⟩) he hpl
  exact goes_fn (dvs := []) (E := E0) G room guard hb .nil pass0 I2 r (by rw [List.append_nil]; exact q)
end
end L2
namespace L2
open PySem PySem.Spec PyProof.Rows
/-! ## Own words, 4: a tuple times 0 or 1 -/
theorem tup_once (l : Addr) (items : Array Value) (n : Nat) (dd : Option Addr) (sl : Array (Option Value)) (u : Tok) :
    Meets (Builtin.«tuple.__mul__» ⟨[.ref l, .int 1 u], []⟩) (fun _ R s => s.heap.get? l = some { cls := .type "tuple", dict := dd, data := .seq items n, slots := sl } ∧ R (.ok (.ret (Value.ref l))) s) :=
  .of_wp fun prog w A R s h => by
    obtain ⟨hp, g, d, tk, os⟩ := s
    obtain ⟨at_, h⟩ := h
    have f1 := AutoSeq1.idx_int
    wp_walk using wpAny_loadPart' at_
    exact ⟨_, rfl, h⟩
theorem tup_never (l : Addr) (items : Array Value) (n : Nat) (dd : Option Addr) (sl : Array (Option Value)) (u : Tok) (c1 : items.isEmpty = false) :
    Meets (Builtin.«tuple.__mul__» ⟨[.ref l, .int 0 u], []⟩) (fun _ R s => s.heap.get? l = some { cls := .type "tuple", dict := dd, data := .seq items n, slots := sl } ∧ R (.ok (.ret (Value.ref s.heap.objs.size))) { s with heap := s.heap.push { cls := Value.type "tuple", data := Data.seq #[] }, toks := s.toks }) :=
  .of_wp fun prog w A R s h => by
    obtain ⟨hp, g, d, tk, os⟩ := s
    obtain ⟨at_, h⟩ := h
    have f1 := AutoSeq1.idx_int
    wp_walk using wpAny_loadPart' at_
    exact ⟨_, rfl, h⟩
/-- t * k, t a tuple that holds something, k from 0 on -/
def rTimes (K : PySem.W.Frag) : R2 := fun x y H Q => ∃ (l : Addr) (k : Nat) (xs : List V), x = .ref l ∧ y = .int (k : Int) ∧ SqT K H l xs ∧ xs ≠ [] ∧ k ≤ 1000 ∧ xs.length ≤ 1000 ∧ (k = 1 → Q (.ref l) H) ∧ (k ≠ 1 → ∀ p, H p = none → Q (.ref p) (upd H p (.tup (List.replicate k xs).flatten)))
theorem op_times {X : Cx} : OpR X (binaryOp .Mult) (rTimes X.K) := by
  intro pins s σ H x y v u Q I rx ry h
  obtain ⟨l, k, xs, rfl, rfl, hT, hne, h2, hz, q1, qn⟩ := h
  by_cases two : 2 ≤ k
  · exact op_repT pins s σ H _ _ v u Q I rx ry ⟨l, (k : Int), xs, rfl, rfl, hT, hne, by omega, by omega, hz, fun p hp => qn (by omega) p hp⟩
  · cases rx
    obtain ⟨t, rfl⟩ := ry
    obtain ⟨its, r, ⟨⟨cls, dd, data, sl⟩, ho, hc, n, hd⟩, hs⟩ := I.tuple hT
    simp only at hc hd
    subst hc hd
    have which : k = 0 ∨ k = 1 := by omega
    rcases which with rfl | rfl
    · have some_ : its.toArray.isEmpty = false := by
        cases its with
        | nil =>
          have e := r.length
          cases xs with
          | nil => exact absurd rfl hne
          | cons _ _ => cases e
        | cons _ _ => rfl
      refine wpAny_binaryOp_repeat_ref (T := "tuple") (U := "int") (by decide) ⟨_, ho, rfl⟩ (fun s' => typeIs_int s' 0 t) noFill_tuple_mul F.fills_int_mul F.slot_int_rmul repeat_tuple F.slot_int_index.lookup ?_
      refine call_meets F.slot_int_rmul (typeIs_int s 0 t) F.entry_int_rmul (F.args_int_rmul_2 _ _) (int_rmul_tuple 0 t l its.toArray n dd sl) ⟨ho, rfl, ⟨_, ho, rfl⟩, ?_⟩
      refine call_meets F.slot_tuple_mul ⟨_, ho, rfl⟩ F.entry_tuple_mul (F.args_tuple_mul_2 _ _) (tup_never l its.toArray n dd sl t some_) ⟨ho, ?_⟩
      have fresh := I.hok.fresh (Nat.le_refl s.heap.objs.size)
      refine ⟨.ref s.heap.objs.size, _, I.laid (t' := s.toks) (o := .tup []) (fun b ob q => Heap.get?_push_of_some _ q) (Nat.le_refl _) ?_, rfl, qn (by decide) _ fresh⟩
      exact ⟨Nat.zero_le _, [], .nil, IsTup.new _ _⟩
    · refine wpAny_binaryOp_repeat_ref (T := "tuple") (U := "int") (by decide) ⟨_, ho, rfl⟩ (fun s' => typeIs_int s' 1 t) noFill_tuple_mul F.fills_int_mul F.slot_int_rmul repeat_tuple F.slot_int_index.lookup ?_
      refine call_meets F.slot_int_rmul (typeIs_int s 1 t) F.entry_int_rmul (F.args_int_rmul_2 _ _) (int_rmul_tuple 1 t l its.toArray n dd sl) ⟨ho, rfl, ⟨_, ho, rfl⟩, ?_⟩
      refine call_meets F.slot_tuple_mul ⟨_, ho, rfl⟩ F.entry_tuple_mul (F.args_tuple_mul_2 _ _) (tup_once l its.toArray n dd sl t) ⟨ho, ?_⟩
      exact ⟨.ref l, H, I, rfl, q1 rfl⟩
end L2
namespace L2
open PySem PySem.Spec PyProof.Rows
/-! ## Own words, 5: one of two promises; the call of a value -/
section
variable {P : Program} {w : World} {K : PySem.W.Frag} {mg : Str → Option Value} {base : Heap} {CX : CXT} {k : Nat} {f : Addr} {fd : FuncData} {ps : List Str} {sp sp' : Sp}
theorem FnG.or (F : FnG P w K mg base CX k f fd ps sp) (F' : FnG P w K mg base CX k f fd ps sp') : FnG P w K mg base CX k f fd ps (fun vs H Q E => sp vs H Q E ∨ sp' vs H Q E) := by
  refine ⟨fun vs H Q E h => h.elim (F.size vs H Q E) (F'.size vs H Q E), fun A outer s H args us vs Q E room guard env bind rel h => ?_⟩
  rcases h with h | h
  · exact F.goes A outer s H args us vs Q E room guard env bind rel h
  · exact F'.goes A outer s H args us vs Q E room guard env bind rel h
theorem FnOk.or (F : FnOk P w K mg base CX k f fd ps sp) (F' : FnOk P w K mg base CX k f fd ps sp') : FnOk P w K mg base CX k f fd ps (fun vs H Q E => sp vs H Q E ∨ sp' vs H Q E) := by
  refine ⟨fun vs H Q E h => h.elim (F.len vs H Q E) (F'.len vs H Q E), fun A outer s H args us vs Q E room env bind rel h => ?_⟩
  rcases h with h | h
  · exact F.run A outer s H args us vs Q E room env bind rel h
  · exact F'.run A outer s H args us vs Q E room env bind rel h
end
section
variable {X : Cx} {k : Nat} {sp : Sp} {pos : Pos} {fe e : Expr} {es : List Expr} {tf : TE} {t : TA}
def tCallOf (fs : List Addr) (sp : Sp) (tf : TE) (t : TA) : TE := fun σ H Q => tf σ H fun y H1 => ∃ f, f ∈ fs ∧ y = .ref f ∧ t σ H1 fun vs H2 => sp vs H2 Q E0
theorem pe_callOf {fs : List Addr} (hf : PE X fe tf) (F : ∀ f, f ∈ fs → ∃ fd ps, FnOk X.prog X.w X.K X.mg X.base CX0 k f fd ps sp ∧ PySem.W.keepIn X.K (.ref f) = true ∧ Binds X.K fd ps []) (room : Room k X.A) (ha : PA X (e :: es) t)
    (ht : eval (.Call fe (e :: es) [] pos) X.env = (do callWith pos (← eval fe X.env) [] (backTo pos (starEach (e :: es) X.env)) (backToKw pos (keywordEach [] X.env))) := by rfl)
    (he : starEach (e :: es) X.env = (false, eval e X.env) :: starEach es X.env := by rfl) (hpl : (backTo pos (starEach es X.env)).any (·.1) = false := by rfl) : PE X (.Call fe (e :: es) [] pos) (tCallOf fs sp tf t) := by
  refine ⟨fun pins s σ H Q I h => ?_⟩
  refine Call_ (thn (hf.run pins s σ H _ I h) fun u s1 ⟨y, H1, I1, ry, f, hm, ey, q⟩ => ?_) ht
  subst ey
  obtain rfl : u = Value.ref f := ry
  obtain ⟨fd, ps, G, kp, hb⟩ := F f hm
  refine PySem.W.callWith_K (h₀ := X.base) I.ok.mod.kin kp (thn (ha.run pos pins s1 σ H1 _ I1 q) fun us s2 ⟨vs, H2, I2, r, q2⟩ => ⟨I2.kIn, ?_⟩) he hpl
  exact run_fn (dvs := []) (E := E0) G room hb .nil pass0 I2 r (by rw [List.append_nil]; exact q2)
end
end L2
universe u
namespace L2
open PySem PySem.Spec PyProof.Rows
/-! ## Own words, 6: a method of an object of one of some sorts; isinstance against a base class -/
/-- a sort's method and its promise -/
structure MethC (P : Program) (w : World) (K : PySem.W.Frag) (mg : Str → Option Value) (base : Heap) (k : Nat) (m : Str) (ps : List Str) (sp : Sp) (C : Addr) : Prop where
  ex : ∃ f fd, Cls K C ∧ Meth K C m f ∧ FnOk P w K mg base CX0 k f fd ps sp ∧ Binds K fd ps []
section
variable {X : Cx} {k : Nat} {α : Type u} {As : List α} {cl : α → Addr} {sp : α → Sp} {m : Str} {ps : List Str} {pos apos : Pos} {o e : Expr} {es : List Expr} {ta : TE} {t : TA}
def tMethOf (As : List α) (cl : α → Addr) (m : Str) (sp : α → Sp) (ta : TE) (t : TA) : TE := fun σ H Q => ta σ H fun x H1 => ∃ (A : α) (a dx : Addr) (fs : List (Str × V)), A ∈ As ∧ x = .ref a ∧ H1 a = some (.ins (cl A) dx fs) ∧ fs.lookup m = none ∧ t σ H1 fun vs H2 => sp A (x :: vs) H2 Q E0
theorem pe_methOf {pl : Sem Bool} (he : PE X o ta) (F : ∀ A, A ∈ As → MethC X.prog X.w X.K X.mg X.base k m ps (sp A) (cl A)) (hr : Room k X.A) (ha : PA X (e :: es) t)
    (hst : starEach (e :: es) X.env = (false, eval e X.env) :: starEach es X.env := by rfl) (hpl : (backTo pos (starEach es X.env)).any (·.1) = false := by rfl)
    (ht : eval (.Call (.Attribute o m apos) (e :: es) [] pos) X.env = (do
      let ov ← eval o X.env
      standAt apos.atName
      let (f, first) ← holding [ov] (getMethod ov m pl)
      callWith pos f first (backTo pos (starEach (e :: es) X.env)) (backToKw pos (keywordEach [] X.env))) := by rfl) :
    PE X (.Call (.Attribute o m apos) (e :: es) [] pos) (tMethOf As cl m sp ta t) := by
  refine ⟨fun pins s σ H Q I h => ?_⟩
  refine PySem.W.methodCall_KW (pl := pl) (thn (he.run pins s σ H _ I h) fun u s1 ⟨x, H1, I1, rx, A, a, dx, fs, hA, ex, ea, l, q⟩ => ?_) ht
  subst ex
  obtain rfl : u = Value.ref a := rx
  obtain ⟨f, fd, c, hm, G, hb⟩ := (F A hA).ex
  refine getmeth_ok I1 ea c hm l ?_
  refine PySem.W.callWith_K (first := [.ref a]) (h₀ := X.base) I.ok.mod.kin hm.kp (thn (ha.run pos pins s1 σ H1 _ I1 q) fun us s2 ⟨vs, H2, I2, r, q2⟩ => ⟨I2.kIn, ?_⟩) hst hpl
  exact run_fn (us := .ref a :: us) (vs := .ref a :: vs) (dvs := []) (E := E0) G hr hb .nil pass0 I2 (.cons rfl r) (by rw [List.append_nil]; exact q2)
theorem pe_methOf0 {pl : Sem Bool} (he : PE X o ta) (F : ∀ A, A ∈ As → MethC X.prog X.w X.K X.mg X.base k m ps (sp A) (cl A)) (hr : Room k X.A)
    (ht : eval (.Call (.Attribute o m apos) [] [] pos) X.env = (do
      let ov ← eval o X.env
      standAt apos.atName
      let (f, first) ← holding [ov] (getMethod ov m pl)
      callWith pos f first (backTo pos (starEach [] X.env)) (backToKw pos (keywordEach [] X.env))) := by rfl) :
    PE X (.Call (.Attribute o m apos) [] [] pos) (tMethOf As cl m sp ta tNil) := by
  refine ⟨fun pins s σ H Q I h => ?_⟩
  refine PySem.W.methodCall_KW (pl := pl) (thn (he.run pins s σ H _ I h) fun u s1 ⟨x, H1, I1, rx, A, a, dx, fs, hA, ex, ea, l, q⟩ => ?_) ht
  subst ex
  obtain rfl : u = Value.ref a := rx
  obtain ⟨f, fd, c, hm, G, hb⟩ := (F A hA).ex
  refine getmeth_ok I1 ea c hm l ?_
  exact PySem.W.callWith_K0 (first := [.ref a]) I1.kIn hm.kp (run_fn (us := [.ref a]) (vs := [.ref a]) (dvs := []) (E := E0) G hr hb .nil pass0 I1 (.cons rfl .nil) q)
end
section
variable {P : Program} {w : World} {K : PySem.W.Frag} {mg : Str → Option Value} {base : Heap} {CX : CXT} {k : Nat} {f : Addr} {fd : FuncData} {ps : List Str} {α : Type u} {As : List α} {sp : α → Sp}
theorem FnG.any (F : ∀ A, A ∈ As → FnG P w K mg base CX k f fd ps (sp A)) : FnG P w K mg base CX k f fd ps (fun vs H Q E => ∃ A, A ∈ As ∧ sp A vs H Q E) :=
  ⟨fun vs H Q E ⟨A, hA, h⟩ => (F A hA).size vs H Q E h, fun A outer s H args us vs Q E room guard env bind rel ⟨B, hB, h⟩ => (F B hB).goes A outer s H args us vs Q E room guard env bind rel h⟩
end
/-- what isinstance(o, CN) asks of o's class -/
structure InsC (K : PySem.W.Frag) (C CN : Addr) : Prop where
  ha : PySem.W.findIn K (.ref C) "__class__" = some (some (.builtin "object.__class__"))
  hn : PySem.W.specialIn K (.builtin "object.__class__") "__get__" = some (some (.builtin "getset_descriptor.__get__"))
  tk : PySem.W.takesIn K (.builtin "object.__class__") = some true
  mr : PySem.W.mroIn K C (.type "object") = some true
  kit : PySem.W.kitOne K (.ref C) (.ref CN) = some true
def insB (K : PySem.W.Frag) (C CN : Addr) : Bool :=
  decide (PySem.W.findIn K (.ref C) "__class__" = some (some (.builtin "object.__class__"))) && (decide (PySem.W.specialIn K (.builtin "object.__class__") "__get__" = some (some (.builtin "getset_descriptor.__get__"))) &&
  (decide (PySem.W.takesIn K (.builtin "object.__class__") = some true) && (decide (PySem.W.mroIn K C (.type "object") = some true) && decide (PySem.W.kitOne K (.ref C) (.ref CN) = some true))))
theorem insB_ok {K : PySem.W.Frag} {C CN : Addr} (h : insB K C CN = true) : InsC K C CN := by
  obtain ⟨h1, h⟩ := He.ba h
  obtain ⟨h2, h⟩ := He.ba h
  obtain ⟨h3, h⟩ := He.ba h
  obtain ⟨h4, h5⟩ := He.ba h
  exact ⟨of_decide_eq_true h1, of_decide_eq_true h2, of_decide_eq_true h3, of_decide_eq_true h4, of_decide_eq_true h5⟩
theorem InsC.ty {K : PySem.W.Frag} {C CN a dx : Addr} {H : Hp} {fs : List (Str × V)} (i : InsC K C CN) (c : Cls K C) (h : H a = some (.ins C dx fs)) : TyX K H (.ref a) (.ref C) := .base (.ins h c i.ha i.hn i.tk i.mr)
end L2
namespace L2
open PySem PySem.Spec PyProof.Rows
/-! ## Own words, 7: rules whose written part is given (within comprehensions) -/
section
variable {X : Cx} {K : PySem.W.Frag} {tg l e : Expr} {tl ta : TE} {f : Str} {pos : Pos}
theorem pe_fldK (h : X.K = K) (he : PE X e ta) (hb : attributeBase e f X.env (eval e X.env) = eval e X.env) : PE X (.Attribute e f pos) (tFld K ta f) := by
  subst h
  exact pe_fld he hb
theorem call_len_seqK (h : X.K = K) : CallR X (.builtin "len") (fun xs H Q => ∃ p ys, xs = [.ref p] ∧ (SqL K H p ys ∨ SqT K H p ys) ∧ Q (.int ys.length) H) := by
  subst h
  exact call_len_seq
theorem ix_listK (h : X.K = K) : IxR X (rIxL K) := by
  subst h
  exact ix_list
theorem ix_tupK (h : X.K = K) : IxR X (rIxT K) := by
  subst h
  exact ix_tup
theorem call_list_ofK (h : X.K = K) : CallR X (.type "list") (fun xs H Q => ∃ p ys, xs = [.ref p] ∧ (SqL K H p ys ∨ SqT K H p ys) ∧ ∀ l, H l = none → Q (.ref l) (upd H l (.lst ys))) := by
  subst h
  exact call_list_of
theorem call_tuple_ofK (h : X.K = K) : CallR X (.type "tuple") (fun xs H Q => ∃ p ys, xs = [.ref p] ∧ ((SqL K H p ys ∧ ∀ l, H l = none → Q (.ref l) (upd H l (.tup ys))) ∨ (SqT K H p ys ∧ Q (.ref p) H))) := by
  subst h
  exact call_tuple_of
theorem sl_listK (h : X.K = K) : SlR X (rSlL K) := by
  subst h
  exact sl_list
theorem pi_listK (h : X.K = K) (hl : PE X l tl) : PI X tg l (iList K tl) := by
  subst h
  exact pi_list hl
theorem pi_tupK (h : X.K = K) (hl : PE X l tl) : PI X tg l (iTup K tl) := by
  subst h
  exact pi_tup hl
theorem call_isiG (h : X.K = K) : CallR X (.builtin "isinstance") (rIsi K) := by
  subst h
  exact call_isi
end
theorem yes_ite {σ : L2.St} {H : Hp} {a b : Hp → Prop} (h : a H) : tYes σ H (fun t H' => if t = true then a H' else b H') := by
  unfold tYes
  exact iteT h
end L2
/-! ## Own words, 6: zip of a list and a tuple (or any two of them) -/
namespace L2
open PySem PySem.Spec PyProof.Rows
/-- an iterator that stands at the k-th of a list's or a tuple's items -/
inductive Src (h : Heap) (it l : Addr) (k : Nat) (its : Array Value) : Bool → Prop
  | ofList (a : h.IsListIter it l k) (b : h.IsList l its) : Src h it l k its false
  | ofTup (a : h.IsTupleIter it l k) (b : h.IsTuple l its) : Src h it l k its true
theorem Src.but {h h' : Heap} {it l c : Addr} {k : Nat} {its : Array Value} {t : Bool} (S : Src h it l k its t) (x : Heap.ExtBut c h h') (n1 : it ≠ c) (n2 : l ≠ c) : Src h' it l k its t := by
  cases S with
  | ofList a b => exact .ofList (a.extBut x n1) (b.extBut x n2)
  | ofTup a b => exact .ofTup (a.extBut x n1) (b.extBut x n2)
section
variable {prog : Program} {w : World} {A : Around} {E : Value → Shared → Prop} {s : Shared} {it l : Addr} {k : Nat} {its : Array Value} {t : Bool}
theorem Src.next {x : Value} {Q : Value → Shared → Prop} (S : Src s.heap it l k its t) (ne : l ≠ it) (hx : its[k]? = some x) (q : ∀ h', Src h' it l (k + 1) its t → Heap.SameBut it s.heap h' → Q x { s with heap := h' }) :
    wpAny (model prog w) A (Builtin.SmallTypes.nextOf (.ref it)) Q E s := by
  cases S with
  | ofList a b => exact wpAny_nextOf_list_item a b hx fun h' a' sb => q h' (.ofList a' (b.extBut sb.extBut ne)) sb
  | ofTup a b => exact RZ.nextOf_tuple_item a b hx fun h' a' sb => q h' (.ofTup a' (b.extBut sb.extBut ne)) sb
theorem Src.last {Q : Value → Shared → Prop} (S : Src s.heap it l k its t) (hh : A.handled = none) (hx : its[k]? = none) (q : ∀ h' e, Heap.ExtBut it s.heap h' → (∃ o, h'.get? e = some o ∧ o.cls = .type "StopIteration") → E (.ref e) { s with heap := h' }) :
    wpAny (model prog w) A (Builtin.SmallTypes.nextOf (.ref it)) Q E s := by
  cases S with
  | ofList a b => exact wpAny_nextOf_list_end hh a b hx q
  | ofTup a b => exact RZ.nextOf_tuple_end hh a b hx q
end
section
variable {prog : Program} {w : World} {A : Around} {E : Value → Shared → Prop} {s : Shared} {z TI TO i1 i2 l1 l2 : Addr} {k1 k2 : Nat} {xs ys : Array Value} {a b : Value} {t1 t2 : Bool}
/-- what a turn of zip leaves as it was -/
def ZKeep (z TO i1 i2 : Addr) (h h' : Heap) : Prop := ∀ c o, c ≠ z → c ≠ TO → c ≠ i1 → c ≠ i2 → h.get? c = some o → h'.get? c = some o
theorem zipS_item {x y : Value} {Q : Value → Shared → Prop} (D : ZipApart z TI TO i1 i2 l1 l2) (hz : IsZip s.heap z TI TO .none) (hI : IsPair s.heap TI (.ref i1) (.ref i2)) (hO : IsPair s.heap TO a b)
    (S1 : Src s.heap i1 l1 k1 xs t1) (S2 : Src s.heap i2 l2 k2 ys t2) (hx : xs[k1]? = some x) (hy : ys[k2]? = some y)
    (q : ∀ h', IsZip h' z TI TO (rawInt s.heap.objs.size) → IsPair h' TO x y → Src h' i1 l1 (k1 + 1) xs t1 → Src h' i2 l2 (k2 + 1) ys t2 → IsPair h' s.heap.objs.size x y → ZKeep z TO i1 i2 s.heap h' → Q (.ref s.heap.objs.size) { s with heap := h' }) :
    wpAny (model prog w) A (Builtin.«zip.__next__» ⟨[.ref z], []⟩) (fun fin s' => ∃ v, fin = .done (.ret v) ∧ Q v s') E s := by
  show wpAny _ _ (field (.ref z) 2 >>= _) _ _ _
  refine wpAny_bind (wpAny_field hz rfl (x := .bool false) rfl ?_)
  show wpAny _ _ (field (.ref z) 3 >>= _) _ _ _
  refine wpAny_bind (wpAny_field hz rfl (x := .ref TI) rfl (wpAny_bind (wpAny_seqItems hI rfl ?_)))
  show wpAny _ _ (Builtin.SmallTypes.ownedTupleIsFree (.ref z) >>= _) _ _ _
  refine wpAny_bind ?_
  unfold Builtin.SmallTypes.ownedTupleIsFree
  refine wpAny_bind (wpAny_field hz rfl (x := .none) rfl (wpAny_pure ?_))
  simp only [if_true]
  refine wpAny_bind (wpAny_rule (wpAny_bind (wpAny_field hz rfl (x := .ref TO) rfl (wpAny_bind (wpAny_setField_rec hz (by simp) fun g1 z1 e1 => ?_)))))
  replace z1 : IsZip g1 z TI TO .ellipsis := z1
  refine wpAny_bind ?_
  simp only [List.zipIdx_cons, List.zipIdx_nil, List.forIn_cons, List.forIn_nil]
  refine wpAny_bind (wpAny_bind (wpAny_onRaise ?_))
  show wpAny _ _ (Builtin.SmallTypes.nextOf (.ref i1) >>= _) _ _ _
  refine wpAny_bind ((S1.but e1.extBut D.i1z D.l1z).next D.l1i1 hx fun g2 T2 e2 => wpAny_pure ?_)
  have O2 : IsPair g2 TO a b := e2.extBut _ _ D.TOi1 (e1.extBut _ _ D.TOz hO)
  refine wpAny_bind (wpAny_seqItems O2 rfl (wpAny_bind (wpAny_updateSeq_pair O2 fun g3 O3 e3 => ?_)))
  replace O3 : IsPair g3 TO x b := O3
  refine wpAny_bind (wpAny_letGo (wpAny_pure ?_))
  refine wpAny_bind (wpAny_bind (wpAny_onRaise ?_))
  show wpAny _ _ (Builtin.SmallTypes.nextOf (.ref i2) >>= _) _ _ _
  refine wpAny_bind ((((S2.but e1.extBut D.i2z D.l2z).but e2.extBut D.i12.symm D.l2i1).but e3.extBut D.TOi2.symm D.l2TO).next D.l2i2 hy fun g4 T4 e4 => wpAny_pure ?_)
  have O4 : IsPair g4 TO x b := e4.extBut _ _ D.TOi2 O3
  refine wpAny_bind (wpAny_seqItems O4 rfl (wpAny_bind (wpAny_updateSeq_pair O4 fun g5 O5 e5 => ?_)))
  replace O5 : IsPair g5 TO x y := O5
  refine wpAny_bind (wpAny_letGo (wpAny_pure (wpAny_pure ?_)))
  refine wpAny_bind (wpAny_seqItems O5 rfl (wpAny_bind (wpAny_newTuple ?_)))
  have size : g5.objs.size = s.heap.objs.size := by rw [e5.1, e4.1, e3.1, e2.1, e1.1]
  have Z5 : IsZip g5 z TI TO .ellipsis := e5.extBut _ _ D.TOz.symm (e4.extBut _ _ D.i2z.symm (e3.extBut _ _ D.TOz.symm (e2.extBut _ _ D.i1z.symm z1)))
  have A5 : Src g5 i1 l1 (k1 + 1) xs t1 := ((T2.but e3.extBut D.TOi1.symm D.l1TO).but e4.extBut D.i12 D.l1i2).but e5.extBut D.TOi1.symm D.l1TO
  have B5 : Src g5 i2 l2 (k2 + 1) ys t2 := T4.but e5.extBut D.TOi2.symm D.l2TO
  have zlt : z < g5.objs.size := Heap.lt_size Z5
  show wpAny _ _ (Builtin.SmallTypes.ownedTupleHandOut (.ref z) (.ref g5.objs.size) >>= _) _ _ _
  refine wpAny_bind ?_
  unfold Builtin.SmallTypes.ownedTupleHandOut
  refine wpAny_bind (wpAny_setField_rec (Heap.get?_push_of_some _ Z5) (by simp) fun g7 z7 e7 => wpAny_setField_rec z7 (by simp) fun g8 z8 e8 => ?_)
  have last : Heap.ExtBut z g5 g8 := fun c o n e => e8.extBut _ _ n (e7.extBut _ _ n (Heap.get?_push_of_some _ e))
  have new : IsPair g8 g5.objs.size x y := e8.extBut _ _ (Nat.ne_of_gt zlt) (e7.extBut _ _ (Nat.ne_of_gt zlt) (Heap.get?_push_size _ rfl))
  replace z8 : IsZip g8 z TI TO (rawInt g5.objs.size) := z8
  rw [size] at new z8
  refine wpAny_pure ⟨_, rfl, ?_⟩
  show Q (.ref g5.objs.size) _
  rw [size]
  exact q g8 z8 (last _ _ D.TOz O5) (A5.but last D.i1z D.l1z) (B5.but last D.i2z D.l2z) new fun c o c1 c2 c3 c4 e => last c o c1 (e5.extBut _ _ c2 (e4.extBut _ _ c4 (e3.extBut _ _ c2 (e2.extBut _ _ c3 (e1.extBut _ _ c1 e)))))
/-- the first of the two is at its end -/
theorem zipS_end {Q : Fin → Shared → Prop} (hh : A.handled = none) (D : ZipApart z TI TO i1 i2 l1 l2) (hz : IsZip s.heap z TI TO .none) (hI : IsPair s.heap TI (.ref i1) (.ref i2)) (S1 : Src s.heap i1 l1 k1 xs t1) (hx : xs[k1]? = none)
    (q : ∀ h' e, ZKeep z TO i1 i2 s.heap h' → (∃ o, h'.get? e = some o ∧ o.cls = .type "StopIteration") → E (.ref e) { s with heap := h' }) :
    wpAny (model prog w) A (Builtin.«zip.__next__» ⟨[.ref z], []⟩) Q E s := by
  show wpAny _ _ (field (.ref z) 2 >>= _) _ _ _
  refine wpAny_bind (wpAny_field hz rfl (x := .bool false) rfl ?_)
  show wpAny _ _ (field (.ref z) 3 >>= _) _ _ _
  refine wpAny_bind (wpAny_field hz rfl (x := .ref TI) rfl (wpAny_bind (wpAny_seqItems hI rfl ?_)))
  show wpAny _ _ (Builtin.SmallTypes.ownedTupleIsFree (.ref z) >>= _) _ _ _
  refine wpAny_bind ?_
  unfold Builtin.SmallTypes.ownedTupleIsFree
  refine wpAny_bind (wpAny_field hz rfl (x := .none) rfl (wpAny_pure ?_))
  simp only [if_true]
  refine wpAny_bind (wpAny_rule (wpAny_bind (wpAny_field hz rfl (x := .ref TO) rfl (wpAny_bind (wpAny_setField_rec hz (by simp) fun g1 z1 e1 => ?_)))))
  replace z1 : IsZip g1 z TI TO .ellipsis := z1
  refine wpAny_bind ?_
  simp only [List.zipIdx_cons, List.zipIdx_nil, List.forIn_cons, List.forIn_nil]
  refine wpAny_bind (wpAny_bind (wpAny_onRaise ?_))
  show wpAny _ _ (Builtin.SmallTypes.nextOf (.ref i1) >>= _) _ _ _
  refine wpAny_bind ((S1.but e1.extBut D.i1z D.l1z).last hh hx fun g2 e e2 he => ?_)
  obtain ⟨oe, hoe, hce⟩ := he
  have z2 : IsZip g2 z TI TO .ellipsis := e2 _ _ D.i1z.symm z1
  have ne : e ≠ z := fun x => by
    rw [x, z2] at hoe
    cases hoe
    simp at hce
  exact wpAny_setField_rec z2 (by simp) fun g3 _ e3 => q g3 e (fun c o c1 _ c3 _ x => e3.extBut _ _ c1 (e2 _ _ c3 (e1.extBut _ _ c1 x))) ⟨oe, e3.extBut _ _ ne hoe, hce⟩
end
/-- a list and a tuple as they stand at each turn, the items in new pairs; the list is at its end first -/
def ItzLT (K : PySem.W.Frag) (a b : Addr) : It :=
  ⟨fun i H => ∃ (xs ys : List V) (x y : V), SqL K H a xs ∧ SqT K H b ys ∧ xs[i]? = some x ∧ ys[i]? = some y,
    fun i H v H' => ∃ T x y, v = .ref T ∧ H T = none ∧ H' = upd H T (.tup [x, y]) ∧ (∀ xs, SqL K H a xs → xs[i]? = some x) ∧ ∀ ys, SqT K H b ys → ys[i]? = some y,
    fun i H => ∃ xs : List V, SqL K H a xs ∧ xs.length ≤ i⟩
theorem Src.list {h : Heap} {it l : Addr} {k : Nat} {its : Array Value} (S : Src h it l k its false) : h.IsListIter it l k := by
  cases S with
  | ofList a b => exact a
theorem Src.tup {h : Heap} {it l : Addr} {k : Nat} {its : Array Value} (S : Src h it l k its true) : h.IsTupleIter it l k := by
  cases S with
  | ofTup a b => exact a
theorem turn_zipLT {P : Program} {w : World} {K : PySem.W.Frag} {elts : List Expr} {kk : Nat} {tpos : Pos} {a b z TI TO i1 i2 : Addr} (D : ZipApart z TI TO i1 i2 a b) :
    Turn P w K (.Tuple elts kk tpos) (ItzLT K a b) [z, TI, TO, i1, i2] z (fun i h => IsZip h z TI TO .none ∧ IsPair h TI (.ref i1) (.ref i2) ∧ (∃ x y, IsPair h TO x y) ∧ h.IsListIter i1 a i ∧ h.IsTupleIter i2 b i) where
  mem := List.mem_cons_self
  obj := fun i h st c hc => by
    obtain ⟨hz, hI, ⟨x, y, hO⟩, ⟨o1, e1, _, d1⟩, ⟨o2, e2, _, d2⟩⟩ := st
    simp only [List.mem_cons, List.not_mem_nil, or_false] at hc
    rcases hc with rfl | rfl | rfl | rfl | rfl
    · exact ⟨_, hz, fun v q => nomatch q⟩
    · exact ⟨_, hI, fun v q => nomatch q⟩
    · exact ⟨_, hO, fun v q => nomatch q⟩
    · exact ⟨o1, e1, fun v q => by rw [d1] at q; cases q⟩
    · exact ⟨o2, e2, fun v q => by rw [d2] at q; cases q⟩
  keep := fun i h h' st k => by
    obtain ⟨hz, hI, ⟨x, y, hO⟩, h1, h2⟩ := st
    exact ⟨k z (by simp) _ hz, k TI (by simp) _ hI, ⟨x, y, k TO (by simp) _ hO⟩, h1.at fun o q => k i1 (by simp) o q, h2.at fun o q => k i2 (by simp) o q⟩
  item := by
    intro X hP hw hK hc i pins s σ H E I hf st hg
    subst hP hw hK
    obtain ⟨hz, hI, ⟨x0, y0, hO⟩, h1, h2⟩ := st
    obtain ⟨xs, ys, x, y, sx, sy, hx, hy⟩ := hg
    obtain ⟨its, rv, p, _⟩ := I.list sx
    obtain ⟨its2, rv2, p2, _⟩ := I.tuple sy
    obtain ⟨u, hu, ru⟩ := rv.get hx
    obtain ⟨u2, hu2, ru2⟩ := rv2.get hy
    have zlt : z < s.heap.objs.size := Heap.lt_size hz
    have lower : ∀ c ∈ [z, TI, TO, i1, i2], c < s.heap.objs.size := fun c hcm => by
      simp only [List.mem_cons, List.not_mem_nil, or_false] at hcm
      rcases hcm with rfl | rfl | rfl | rfl | rfl
      · exact zlt
      · exact Heap.lt_size hI
      · exact Heap.lt_size hO
      · obtain ⟨_, e1, _⟩ := h1; exact Heap.lt_size e1
      · obtain ⟨_, e2, _⟩ := h2; exact Heap.lt_size e2
    unfold pyNext
    refine wpAny_bind (wpAny_attempt (wpAny_callSpecial?_slot (name := Str.ofString "__next__") ⟨_, hz, rfl⟩ F.slot_zip_next (wpAny_call_entry F.slot_zip_next ⟨_, hz, rfl⟩ F.entry_zip_next ?_ (F.args_zip_next_1 _))))
    refine zipS_item D hz hI hO (.ofList h1 p.isList) (.ofTup h2 p2) (x := u) (y := u2) (by simpa using hu) (by simpa using hu2) fun h' z' O' S1 S2 new keep => wpAny_pure ?_
    refine ⟨_, rfl, wpAny_letOwnedTupleGo_zip (s := { s with heap := h' }) z' fun h'' z'' sb => ?_⟩
    have pair : h''.get? s.heap.objs.size = some { cls := .type "tuple", data := .seq #[u, u2] } := (sb.2 _ (Nat.ne_of_gt zlt)).trans new
    have ok : ObjOk X.prog X.w (upd H s.heap.objs.size (.tup [x, y])) h'' s.heap.objs.size (.tup [x, y]) := ⟨by show 2 ≤ sizeLine; decide, [u, u2], .cons ru (.cons ru2 .nil), ⟨_, pair, rfl, _, rfl⟩⟩
    have I1 : Inv X pins σ (upd H s.heap.objs.size (.tup [x, y])) { s with heap := h'' } :=
      I.turnedNew (t' := s.toks) (ch := [z, TI, TO, i1, i2]) (fun c o nb e => (sb.2 c (fun e' => nb (by simp [e']))).trans (keep c o (fun e' => nb (by simp [e'])) (fun e' => nb (by simp [e'])) (fun e' => nb (by simp [e'])) (fun e' => nb (by simp [e'])) e)) hf (Nat.le_refl _) ok
    refine ⟨.ref s.heap.objs.size, _, I1, rfl, ⟨_, x, y, rfl, I.hok.fresh (Nat.le_refl _), rfl, fun l hl => by rw [I.list_inj hl sx]; exact hx, fun l hl => by rw [I.tuple_inj hl sy]; exact hy⟩, ⟨z'', ?_, ⟨u, u2, (sb.2 _ D.TOz).trans O'⟩, ?_, ?_⟩, fun c hcm => ?_⟩
    · exact (sb.2 _ D.TIz).trans (keep _ _ D.TIz D.TITO D.TIi1 D.TIi2 hI)
    · exact S1.list.at fun o q => (sb.2 _ D.i1z).trans q
    · exact S2.tup.at fun o q => (sb.2 _ D.i2z).trans q
    · rw [upd_ne (Nat.ne_of_lt (lower c hcm))]
      exact (hf c hcm).1
  done := by
    intro X hP hw hK hc i pins s σ H E I hf st hg
    subst hP hw hK
    obtain ⟨hz, hI, ⟨x0, y0, hO⟩, h1, h2⟩ := st
    obtain ⟨xs, sx, hend⟩ := hg
    obtain ⟨its, rv, p, _⟩ := I.list sx
    have l1 := rv.length
    unfold pyNext
    refine wpAny_bind (wpAny_attempt (wpAny_callSpecial?_slot (name := Str.ofString "__next__") ⟨_, hz, rfl⟩ F.slot_zip_next (wpAny_call_entry F.slot_zip_next ⟨_, hz, rfl⟩ F.entry_zip_next ?_ (F.args_zip_next_1 _))))
    refine zipS_end (I.ok.hd hc) D hz hI (.ofList h1 p.isList) (by simp; omega) fun h' e keep he => ?_
    obtain ⟨o, ho, hce⟩ := he
    refine wpAny_bind (wpAny_isInstance (T := "StopIteration") (b := true) ⟨o, ho, hce⟩ isSubtype_stop (wpAny_pure ⟨rfl, ?_⟩))
    exact I.turnedL (t' := s.toks) (ch := [z, TI, TO, i1, i2]) (fun c o nb e => keep c o (fun e' => nb (by simp [e'])) (fun e' => nb (by simp [e'])) (fun e' => nb (by simp [e'])) (fun e' => nb (by simp [e'])) e) hf
  self := fun A i s Q E st h => wpAny_pyIter_zip st.1 h
/-- the heap behind zip(l1, l2): two iterators, their pair, the pair to hand out, the zip -/
def zipHp (h : Heap) (l1 l2 : Addr) : Heap :=
  ((((h.push { cls := .type "list_iterator", data := .fields #[.ref l1, .int 0 0] }).push { cls := .type "tuple_iterator", data := .fields #[.ref l2, .int 0 0] }).push { cls := .type "tuple", data := .seq #[.ref h.objs.size, .ref (h.objs.size + 1)] }).push
    { cls := .type "tuple", data := .seq #[.none, .none] }).push { cls := .type "zip", data := .fields #[.none, .bool false, .bool false, .ref (h.objs.size + 2), .ref (h.objs.size + 3)] }
theorem zipLT_new (l1 l2 : Addr) (xs ys : Array Value) : Meets (Builtin.«zip.__new__» ⟨[.type "zip", .ref l1, .ref l2], []⟩) (fun _ R s => s.heap.IsList l1 xs ∧ s.heap.IsTuple l2 ys ∧ R (.ok (.ret (.ref (s.heap.objs.size + 4)))) { s with heap := zipHp s.heap l1 l2 }) :=
  .of_wp fun prog w A R s h => by
    obtain ⟨hp, g, d, tk, os⟩ := s
    obtain ⟨hl1, hl2, h⟩ := h
    have sub := sub_zip
    have L1 : Heap.IsList (Shared.heap ⟨hp, g, d, tk, os⟩) l1 xs := hl1
    have L2 : Heap.IsTuple (Shared.heap ⟨hp.push { cls := .type "list_iterator", data := .fields #[.ref l1, .int 0 0] }, g, d, tk, os⟩) l2 ys := Heap.IsTuple.push hl2 _
    wp_walk using wpAny_pyIter_list L1, wpAny_pyIter_tuple L2
    refine ⟨_, rfl, ?_⟩
    simp only [Heap.size_push] at h ⊢
    exact h
theorem call_zipLT {prog : Program} {w : World} {A : Around} {E : Value → Shared → Prop} {s : Shared} {l1 l2 : Addr} {xs ys : Array Value} {Q : Value → Shared → Prop} (h1 : s.heap.IsList l1 xs) (h2 : s.heap.IsTuple l2 ys)
    (q : ∀ h', IsZip h' (s.heap.objs.size + 4) (s.heap.objs.size + 2) (s.heap.objs.size + 3) .none → IsPair h' (s.heap.objs.size + 2) (.ref s.heap.objs.size) (.ref (s.heap.objs.size + 1)) → IsPair h' (s.heap.objs.size + 3) .none .none →
      h'.IsListIter s.heap.objs.size l1 0 → h'.IsTupleIter (s.heap.objs.size + 1) l2 0 → (∀ c o, s.heap.get? c = some o → h'.get? c = some o) → Q (.ref (s.heap.objs.size + 4)) { s with heap := h' }) :
    wpAny (model prog w) A (call (.type "zip") [.ref l1, .ref l2]) Q E s := by
  refine callType_new F.called_zip (by decide) (F.typeCall_zip_2 _ _) (F.newCall_zip_2 _ _) (fun obj => F.args_object_init_3 obj _ _) F.entry_zip_new (zipLT_new l1 l2 xs ys) ⟨h1, h2, ?_⟩
  have at0 : (zipHp s.heap l1 l2).get? s.heap.objs.size = some { cls := .type "list_iterator", data := .fields #[.ref l1, .int 0 0] } := Heap.get?_push_of_some _ (Heap.get?_push_of_some _ (Heap.get?_push_of_some _ (Heap.get?_push_of_some _ (Heap.get?_push_size _ rfl))))
  have at1 : (zipHp s.heap l1 l2).get? (s.heap.objs.size + 1) = some { cls := .type "tuple_iterator", data := .fields #[.ref l2, .int 0 0] } := by
    refine Heap.get?_push_of_some _ (Heap.get?_push_of_some _ (Heap.get?_push_of_some _ ?_))
    rw [← Heap.size_push s.heap { cls := .type "list_iterator", data := .fields #[.ref l1, .int 0 0] }]
    exact Heap.get?_push_size _ rfl
  have at2 : (zipHp s.heap l1 l2).get? (s.heap.objs.size + 2) = some { cls := .type "tuple", data := .seq #[.ref s.heap.objs.size, .ref (s.heap.objs.size + 1)] } := by
    refine Heap.get?_push_of_some _ (Heap.get?_push_of_some _ ?_)
    have e : s.heap.objs.size + 2 = ((s.heap.push { cls := .type "list_iterator", data := .fields #[.ref l1, .int 0 0] }).push { cls := .type "tuple_iterator", data := .fields #[.ref l2, .int 0 0] }).objs.size := by rw [Heap.size_push, Heap.size_push]
    rw [e]
    exact Heap.get?_push_size _ rfl
  have at3 : (zipHp s.heap l1 l2).get? (s.heap.objs.size + 3) = some { cls := .type "tuple", data := .seq #[.none, .none] } := by
    refine Heap.get?_push_of_some _ ?_
    have e : s.heap.objs.size + 3 = (((s.heap.push { cls := .type "list_iterator", data := .fields #[.ref l1, .int 0 0] }).push { cls := .type "tuple_iterator", data := .fields #[.ref l2, .int 0 0] }).push { cls := .type "tuple", data := .seq #[.ref s.heap.objs.size, .ref (s.heap.objs.size + 1)] }).objs.size := by rw [Heap.size_push, Heap.size_push, Heap.size_push]
    rw [e]
    exact Heap.get?_push_size _ rfl
  have at4 : (zipHp s.heap l1 l2).get? (s.heap.objs.size + 4) = some { cls := .type "zip", data := .fields #[.none, .bool false, .bool false, .ref (s.heap.objs.size + 2), .ref (s.heap.objs.size + 3)] } := by
    have e : s.heap.objs.size + 4 = ((((s.heap.push { cls := .type "list_iterator", data := .fields #[.ref l1, .int 0 0] }).push { cls := .type "tuple_iterator", data := .fields #[.ref l2, .int 0 0] }).push { cls := .type "tuple", data := .seq #[.ref s.heap.objs.size, .ref (s.heap.objs.size + 1)] }).push { cls := .type "tuple", data := .seq #[.none, .none] }).objs.size := by rw [Heap.size_push, Heap.size_push, Heap.size_push, Heap.size_push]
    unfold zipHp
    rw [e]
    exact Heap.get?_push_size _ rfl
  refine ⟨⟨_, at4, rfl⟩, q _ at4 at2 at3 ⟨_, at0, rfl, rfl⟩ ⟨_, at1, rfl, rfl⟩ fun c o x => ?_⟩
  exact Heap.get?_push_of_some _ (Heap.get?_push_of_some _ (Heap.get?_push_of_some _ (Heap.get?_push_of_some _ (Heap.get?_push_of_some _ x))))
def iZipLT (K : PySem.W.Frag) (ta : TA) : TI := fun σ H R => ta σ H fun vs H1 => ∃ a b xs ys, vs = [.ref a, .ref b] ∧ SqL K H1 a xs ∧ SqT K H1 b ys ∧ R (ItzLT K a b) H1
theorem pi_zipLT {X : Cx} {e e2 : Expr} {ta : TA} {p pos tpos : Pos} {elts : List Expr} {kk : Nat} (hg : Gl X "zip") (hm : X.mg "zip" = none) (ha : PA X [e, e2] ta)
    (hs : starEach [e, e2] X.env = (false, eval e X.env) :: starEach [e2] X.env := by rfl) (hpl : (backTo pos (starEach [e2] X.env)).any (·.1) = false := by rfl) :
    PI X (.Tuple elts kk tpos) (.Call (.Name "zip" p) [e, e2] [] pos) (iZipLT X.K ta) := by
  refine ⟨fun pins s σ H R I h => ?_⟩
  refine Call_ (ld_blt I hg hm PyProof.Rows.boot_zip (PyProof.Rows.callWith_type1 (thn (ha.run pos pins s σ H _ I h) fun us s1 ⟨vs, H1, I1, r1, q1⟩ => ?_) hs hpl))
  obtain ⟨a, b, xs, ys, rfl, sx, sy, q⟩ := q1
  obtain ⟨u, v, rfl, ru, rv⟩ := vals2 r1
  cases ru
  cases rv
  obtain ⟨its, _, p1, _⟩ := I1.list sx
  obtain ⟨its2, _, p2, _⟩ := I1.tuple sy
  obtain ⟨o2, ho2, _⟩ := id p2
  refine call_zipLT p1.isList p2 fun h' hz hI hO t1 t2 keep => wpAny_pyIter_zip hz ?_
  refine ⟨s1.heap.objs.size + 4, [s1.heap.objs.size + 4, s1.heap.objs.size + 2, s1.heap.objs.size + 3, s1.heap.objs.size, s1.heap.objs.size + 1], _, _, H1, rfl, I1.kept (t' := s1.toks) keep, turn_zipLT (PySem.W.ktu_apart s1.heap.objs.size a b p1.lt (Heap.lt_size ho2)), ⟨hz, hI, ⟨_, _, hO⟩, t1, t2⟩, fun c hc => ?_, q⟩
  have up : s1.heap.objs.size ≤ c := by
    simp only [List.mem_cons, List.not_mem_nil, or_false] at hc
    rcases hc with rfl | rfl | rfl | rfl | rfl <;> omega
  exact I1.fpOk up (I1.hok.fresh up)
theorem walk_zipLT {K : PySem.W.Frag} {a b : Addr} {xs ys : List V} (hn : xs.length = ys.length) : Walk (ItzLT K a b) xs.length (fun H => SqL K H a xs ∧ SqT K H b ys) (YPair (fun i => xs[i]?) (fun i => ys[i]?)) where
  goes := fun i H hi ⟨h1, h2⟩ => ⟨xs, ys, xs[i], ys[i], h1, h2, List.getElem?_eq_getElem hi, List.getElem?_eq_getElem (hn ▸ hi)⟩
  stops := fun H ⟨h1, _⟩ => ⟨xs, h1, Nat.le_refl _⟩
  yields := fun i H v H' _ ⟨h1, h2⟩ ⟨T, x, y, e1, e2, e3, e4, e5⟩ => ⟨T, x, y, e1, e2, e3, e4 _ h1, e5 _ h2⟩
end L2
namespace L2
open PySem PySem.Spec PyProof.Rows
/-! ## Own words, 8: name = {k: v for ..}, the name a local -/
theorem swd_true {kx vx : Expr} {gs : List Comprehension} {scope : Scope} {pos py : Pos} {y : Str} {l : Nat} {env : Env} (kind : env.scope.kind = .function) (loc : env.scope.names.lookup y = some .local) (row : (py.line == pos.line) = true)
    (none_in : (scope.names.any fun (n, k) => n == y && (k == .local || k == .cell)) = false) : swapsWith (.DictComp kx vx gs scope pos) (some (.Name y py)) l env = pure true := by
  have k1 : env.kindOf y = some .local := loc
  have k2 : env.blockKind = .function := by
    unfold Env.blockKind
    rw [kind]
    rfl
  unfold swapsWith
  simp only [k2, k1, none_in, Expr.pos, row]
  rfl
section
variable {X : Cx}
theorem ps_setDc {i : Nat} {y : Str} {py : Pos} {kx vx tg iter : Expr} {ifs : List Expr} {scope : Scope} {own : List (Str × Nat)} {pos spos : Pos} {wi : TI} {g : TG} {tt : TT} {tk tv : TE} (calm : X.calm = true) (nodup : X.N.Nodup) (slot : X.N[i]? = some y) (loc : X.env.scope.names.lookup y = some .local)
    (swaps : swapsWith (.DictComp kx vx [⟨tg, iter, ifs, 0⟩] scope pos) (some (.Name y py)) spos.line X.env = pure true) (walked : PI X tg iter wi) (blk : BlkOk X.N X.env.scope scope own)
    (pg : ∀ (s : Shared) (H : Hp) (C : Addr) (cl : List (Str × Addr)) (fp : List Addr), PG (X.blk s H scope (compEnvC scope cl C X.env) fp) tg g)
    (pt : ∀ (s : Shared) (H : Hp) (C : Addr) (cl : List (Str × Addr)) (fp : List Addr), PTs (X.blk s H scope (compEnvC scope cl C X.env) fp) ifs tt)
    (pk : ∀ (s : Shared) (H : Hp) (C : Addr) (cl : List (Str × Addr)) (fp : List Addr), PE (X.blk s H scope (compEnvC scope cl C X.env) fp) kx tk)
    (pv' : ∀ (s : Shared) (H : Hp) (C : Addr) (cl : List (Str × Addr)) (fp : List Addr), PE (X.blk s H scope (compEnvC scope cl C X.env) fp) vx tv)
    (folded : ∀ x, foldedSetIterable iter X.env x = pure x := by intro _; rfl) :
    PS X (.Assign [.Name y py] (.DictComp kx vx [⟨tg, iter, ifs, 0⟩] scope pos) spos) (tAsg (tDc wi g tt tk tv (own.map (·.2))) (gName i)) := by
  refine ⟨fun pins s σ H D I h => ?_⟩
  rw [exec_Assign_Name_used _ _ _ _ swaps]
  refine wpAny_bind (wpAny_standAt (wpAny_bind ?_))
  show wpAny _ X.A (do let _ ← comprehension (.DictComp kx vx [⟨tg, iter, ifs, 0⟩] scope pos) scope X.env (firstIterPos [⟨tg, iter, ifs, 0⟩] pos) newDict false (eval iter X.env) (some (assign (.Name y py) X.env))) _ _ s
  have h' : tDc wi g tt tk tv (own.map (·.2)) σ H (fun x H1 => gName i x σ H1 D.nx) := h
  refine wpAny_bind (thn (dc_core (Qf := fun _ s' => SP X pins D .next s') calm nodup I walked blk pg pt pk pv' folded h' fun L C s' m H' I' q hn f => ?_) fun _ s' hq => wpAny_pure (wpAny_pure hq))
  show wpAny _ _ (assign (.Name y py) X.env (.ref L)) _ _ _
  refine wpAny_assign_Name (store_ok2 (v := V.ref L) I' nodup slot (.inl loc) rfl (fun s2 I2 ⟨a, sb, ha⟩ => ?_) (.inr loc))
  obtain ⟨f0, f1, f2, f3, f4, f5⟩ := f
  have apart : C ≠ a := by
    rcases ha with z | z
    · exact z ▸ f1
    · exact fun e => f4 y a z e.symm
  exact ⟨m, hn.sameBut sb apart, fun h3 sb3 => ⟨_, H', I2.turned (t' := s2.toks) (fun b o hb e => (sb3.2 b hb).trans e) f0 f1 f3 f4 f5, q⟩⟩
end
end L2
namespace L2
open PySem PySem.Spec PyProof.Rows
/-! ## Own words, 9: len of an own class's instance; a method with keywords alone; == of one of some sorts -/
section
variable {X : Cx} {CX : CXT} {k n : Nat} {f C : Addr} {fd : FuncData} {ps ks : List Str} {sp : Sp} {E : XK} {x m : Str} {p pos apos : Pos} {o : Expr} {kws : List Keyword} {ta : TE} {tk : TA} {g : List Value → List Value → List Value} {gV : List V → List V → List V}
/-- len(o), o an instance of the class at C, by the text's own __len__ -/
def rLenO (C : Addr) (sp : Sp) (E : XK) : List V → Hp → VK → Prop := fun xs H Q => ∃ (a dx : Addr) (fs : List (Str × V)), xs = [.ref a] ∧ H a = some (.ins C dx fs) ∧ sp [.ref a] H (fun v H' => ∃ n : Nat, v = .int (n : Int) ∧ n < 2 ^ 62 ∧ Q (.int (n : Int)) H') E
theorem call_lenO (F : FnOk X.prog X.w X.K X.mg X.base CX k f fd ps sp) (hs : PySem.W.findIn X.K (.ref C) "__len__" = some (some (.ref f))) (hf : PySem.W.isFn X.K (.ref f) = true) (hb : Binds X.K fd ps []) (hr : Room (k + 1) X.A) (hx : Passes CX X E) : CallR X (.builtin "len") (rLenO C sp E) := by
  intro pins s σ H xs us Q I r h
  obtain ⟨a, dx, fs, rfl, ha, hsp⟩ := h
  obtain ⟨u, rfl, ru⟩ := vals1 r
  obtain rfl : u = Value.ref a := ru
  obtain ⟨mA, J, _⟩ := ins_get I.hok ha
  obtain ⟨od, J, _⟩ := J.look
  obtain ⟨m, hF⟩ := I.fr
  refine PySem.W.len_K hF I.ok.mod.kin J hs hf ?_
  have hl := F.len _ _ _ _ hsp
  have r2 : Vals [V.ref a] [Value.ref a] := .cons rfl .nil
  refine wpAny_call (codeAny_mono (F.run X.A.in1 X.stack s H ⟨[.ref a], []⟩ [.ref a] [.ref a] _ E hr.in1 I.env0.in1 (by
    have := hb s [.ref a] I.kIn (by simpa using hl)
    simpa using this) r2 hsp) fun r s' hq => ?_)
  cases r with
  | error e => exact hx pins σ H s e s' I hq
  | ok fl =>
    cases fl with
    | ret w =>
      obtain ⟨z, H', I', rz, n, ez, n1, q⟩ := I.after hq
      subst ez
      obtain ⟨t, rfl⟩ := rz
      exact ⟨⟨by omega, by omega⟩, .int (n : Int), H', I'.tok _, ⟨_, rfl⟩, q⟩
    | next => exact False.elim hq
    | brk => exact False.elim hq
    | cont => exact False.elim hq
/-- a def without defaults, called with keywords too -/
theorem FunD.kbN {K : PySem.W.Frag} {x qual : Str} {params : Arguments} {body : List Stmt} {scope : Scope} {kws : List (Str × V)} (F : FunD K x qual params body scope [] kws f fd) (n : Nat) (ks : List Str) (g : {α : Type} → List α → List α → List α)
    (hrel : ∀ {vs zs : List V} {us ws : List Value}, Vals vs us → Vals zs ws → Vals (g vs zs) (g us ws))
    (h : ∀ (kV doc pm : Value) (an : Option Addr) (cdv ct : Value) (us ws : List Value), us.length = n → ws.length = ks.length → bindArgs (PySem.W.fnOf x qual params body scope .none kV doc pm an cdv ct) ⟨us, ks.zip ws⟩ = pure (ps.zip (g us ws))) :
    KBn K fd ps n ks (fun us ws => g us ws) (fun vs zs => g vs zs) := by
  obtain ⟨oc, od, dV, kV, doc, pm, an, cdv, ct, osl, rfl, lk, hcd, hD, hK⟩ := F.ex
  rcases hD with ⟨_, rfl⟩ | ⟨e, _⟩
  · exact ⟨fun s us ws _ l1 l2 => .of_eq (h kV doc pm an cdv ct us ws l1 l2), fun r1 r2 => hrel r1 r2⟩
  · exact absurd rfl e
theorem run_fnB {pins : List (Addr × Obj)} {σ : St} {H : Hp} {s : Shared} {Q : VK} {us ws : List Value} {vs zs : List V} (F : FnOk X.prog X.w X.K X.mg X.base CX k f fd ps sp) (hr : Room k X.A) (hb : KBn X.K fd ps n ks g gV) (hx : Passes CX X E)
    (I : Inv X pins σ H s) (r : Vals vs us) (rz : Vals zs ws) (l1 : vs.length = n) (l2 : zs.length = ks.length) (h : sp (gV vs zs) H Q E) : wpAny (model X.prog X.w) X.A (call (.ref f) us (ks.zip ws)) (EP X pins σ Q) X.xe s := by
  have r2 := hb.rel r rz
  refine wpAny_call (codeAny_mono (F.run X.A X.stack s H ⟨us, ks.zip ws⟩ (g us ws) (gV vs zs) Q E hr I.env0 (hb.to s us ws I.kIn (r.length.symm.trans l1) (rz.length.symm.trans l2)) r2 h) fun r s' hq => ?_)
  cases r with
  | error e => exact hx pins σ H s e s' I hq
  | ok fl =>
    cases fl with
    | ret u => exact I.after hq
    | next => exact False.elim hq
    | brk => exact False.elim hq
    | cont => exact False.elim hq
/-- o.m(k = v, ..) -/
def tMethK (C : Addr) (m : Str) (j : Nat) (sp : Sp) (gV : List V → List V → List V) (E : XK) (ta : TE) (tk : TA) : TE := fun σ H Q => ta σ H fun x H1 => ∃ a dx fs, x = .ref a ∧ H1 a = some (.ins C dx fs) ∧ fs.lookup m = none ∧ tk σ H1 fun zs H2 => zs.length = j ∧ sp (gV [x] zs) H2 Q E
theorem pe_methK0 {pl : Sem Bool} (he : PE X o ta) (c : Cls X.K C) (hm : Meth X.K C m f) (F : FnOk X.prog X.w X.K X.mg X.base CX k f fd ps sp) (hr : Room k X.A) (hb : KBn X.K fd ps 1 ks g gV) (hx : Passes CX X E) (hkw : PK X kws tk)
    (hall : (backToKw pos (keywordEach kws X.env)).all (·.1.isSome) = true := by rfl) (hks : (backToKw pos (keywordEach kws X.env)).filterMap (·.1) = ks := by rfl)
    (hpl : ((backTo pos (starEach [] X.env)).any (·.1) || (backToKw pos (keywordEach kws X.env)).any (·.1.isNone)) = false := by rfl)
    (ht : eval (.Call (.Attribute o m apos) [] kws pos) X.env = (do
      let ov ← eval o X.env
      standAt apos.atName
      let (f, first) ← holding [ov] (getMethod ov m pl)
      callWith pos f first (backTo pos (starEach [] X.env)) (backToKw pos (keywordEach kws X.env))) := by rfl) :
    PE X (.Call (.Attribute o m apos) [] kws pos) (tMethK C m ks.length sp gV E ta tk) := by
  refine ⟨fun pins s σ H Q I h => ?_⟩
  refine PySem.W.methodCall_KW (pl := pl) (thn (he.run pins s σ H _ I h) fun u s1 ⟨x, H1, I1, rx, a, dx, fs, ex, ea, l, q⟩ => ?_) ht
  subst ex
  obtain rfl : u = Value.ref a := rx
  refine getmeth_ok I1 ea c hm l ?_
  refine PySem.W.callWith_KW0 (first := [.ref a]) (h₀ := X.base) I.ok.mod.kin hm.kp hall ?_ hpl
  refine thn (hkw.run pos pins s1 σ H1 _ I1 q) fun ws s2 ⟨zs, H2, I2, rz, l2, q2⟩ => ⟨I2.kIn, ?_⟩
  rw [hks]
  exact run_fnB (us := [.ref a]) (vs := [.ref a]) F hr hb hx I2 (.cons rfl .nil) rz rfl l2 q2
end
/-! ### == over some sorts -/
section
variable {X : Cx} {n : Nat} {α : Type}
theorem RcG.any {D : α → Eqv} (h : ∀ A, RcG X n (D A)) : RcG X n (fun x y H => ∃ A, D A x y H) := fun A pins s σ H x y u v sb I rx ry d => by
  obtain ⟨B, d⟩ := d
  exact h B A pins s σ H x y u v sb I rx ry d
/-- an own == of a class -/
structure EqC (P : Program) (w : World) (K : PySem.W.Frag) (mg : Str → Option Value) (base : Heap) (n : Nat) (R : Addr → Addr → Hp → Prop) (C : Addr) : Prop where
  ex : ∃ f fd ps, FnOk P w K mg base CX0 n f fd ps (spEq R) ∧ PySem.W.findIn K (.ref C) "__eq__" = some (some (.ref f)) ∧ PySem.W.isFn K (.ref f) = true ∧ Binds K fd ps []
theorem EqC.rc {R : Addr → Addr → Hp → Prop} {C : Addr} (h : EqC X.prog X.w X.K X.mg X.base n R C) : RcG X n (DIns C R) := by
  obtain ⟨f, fd, ps, F, hs, hf, hb⟩ := h.ex
  exact rcG_ins (E := E0) F hs hf hb pass0
theorem rc_sorts {cl : α → Addr} {R : α → Addr → Addr → Hp → Prop} (h : ∀ A, EqC X.prog X.w X.K X.mg X.base n (R A) (cl A)) : RcG X n (fun x y H => ∃ A, DIns (cl A) (R A) x y H) := RcG.any fun A => (h A).rc
end
end L2
namespace L2
open PySem PySem.Spec PyProof.Rows
/-! ## Own words, 10: isinstance of a caught exception that has fields; repr of a list with an empty dict in it -/
section
variable {X : Cx} {a D : Addr} {oe : Obj} {cls : Value} {d : Option Addr} {pn : List (Addr × Obj)}
/-- isinstance(e, c), e what the suite holds, with or without fields -/
def rIsX (K : PySem.W.Frag) (D a : Addr) (cls : Value) (d : Option Addr) : List V → Hp → VK → Prop := fun xs H Q => cls = .ref D ∧ (∀ dd, d = some dd → ∃ fs, H dd = some (.xd fs)) ∧ ∃ (c : V) (cv : Value) (b : Bool), xs = [.ref a, c] ∧ ClsV c cv ∧ PySem.W.kitOne K (.ref D) cv = some b ∧ Q (.bl b) H
/-- isinstance(e, (c, ..)) -/
def rIsXT (K : PySem.W.Frag) (D a : Addr) (cls : Value) (d : Option Addr) : List V → Hp → VK → Prop := fun xs H Q => cls = .ref D ∧ (∀ dd, d = some dd → ∃ fs, H dd = some (.xd fs)) ∧ ∃ (tp : Addr) (cs : List V) (us : List Value) (b : Bool), xs = [.ref a, .ref tp] ∧ H tp = some (.tup cs) ∧ Paired ClsV cs us ∧ PySem.W.kitAny K (.ref D) us = some b ∧ Q (.bl b) H
/-- the caught exception stands on the heap -/
theorem suite_inst {pins : List (Addr × Obj)} {σ : St} {H : Hp} {s : Shared} (hz : Zc (.ref D) d oe) (hf : ∃ vs, oe.data = .fields vs) (I : Inv (X.suite a ((a, oe) :: pn)) pins σ H s) (hd : ∀ dd, d = some dd → ∃ fs, H dd = some (.xd fs)) : ∃ od, PySem.W.InstAt s.heap a oe D od := by
  obtain ⟨got, _⟩ := I.pin (a, oe) (List.mem_append.mpr (.inl List.mem_cons_self))
  obtain ⟨flds, hv⟩ := hf
  obtain ⟨oc, odd, oda, osl⟩ := oe
  obtain ⟨z1, z2⟩ := hz
  dsimp only at z1 z2 hv
  subst z1 z2 hv
  cases odd with
  | none => exact ⟨none, got, rfl, rfl, trivial⟩
  | some dd =>
    obtain ⟨fs, hx⟩ := hd dd rfl
    have ok : ObjOk X.prog X.w H s.heap dd (.xd fs) := I.hok dd _ hx
    obtain ⟨mA, names, _⟩ := ok
    obtain ⟨od, ho, _⟩ := lookIn_ns names
    exact ⟨some od, got, rfl, rfl, ho⟩
theorem exc_isSome {K : PySem.W.Frag} {D : Addr} (h : PySem.W.hasDictIn K D = true) : (PySem.W.clsIn K D).isSome = true := by
  obtain ⟨cd, hc, _⟩ := PySem.W.any_some h
  rw [hc]
  rfl
theorem call_isX (C : ExcC X.K D) (hz : Zc cls d oe) (hf : ∃ vs, oe.data = .fields vs) : CallR (X.suite a ((a, oe) :: pn)) (.builtin "isinstance") (rIsX X.K D a cls d) := by
  intro pins s σ H xs us Q I r h
  obtain ⟨rfl, hd, c, cv, b, rfl, kc, e, q⟩ := h
  obtain ⟨u1, u2, rfl, r1, r2⟩ := vals2 r
  obtain rfl : u1 = Value.ref a := r1
  obtain rfl := kc.eq r2
  obtain ⟨od, J⟩ := suite_inst hz hf I hd
  exact PySem.W.kia_one (PySem.W.kitx_exc (exc_isSome C.hd) C.hg C.hk C.hs C.ha C.hn C.ht C.hm) I.kIn J e (fun z => nomatch z) fun tk => ⟨.bl b, H, I.kept (t' := tk) fun _ _ z => z, rfl, q⟩
theorem call_isXT (C : ExcC X.K D) (hz : Zc cls d oe) (hf : ∃ vs, oe.data = .fields vs) : CallR (X.suite a ((a, oe) :: pn)) (.builtin "isinstance") (rIsXT X.K D a cls d) := by
  intro pins s σ H xs us Q I r h
  obtain ⟨rfl, hd, tp, cs, ws, b, rfl, hT, k, e, q⟩ := h
  obtain ⟨u1, u2, rfl, r1, r2⟩ := vals2 r
  obtain rfl : u1 = Value.ref a := r1
  cases (show u2 = Value.ref tp from r2)
  obtain ⟨od, J⟩ := suite_inst hz hf I hd
  obtain ⟨_, its, rv, o, h1, h2, n, h3⟩ := (show ObjOk X.prog X.w H s.heap tp (.tup cs) from I.hok tp _ hT)
  have same := ClsV.all k rv
  subst same
  obtain ⟨oc, od', dt, sl⟩ := o
  simp only at h2 h3
  subst h2 h3
  exact PySem.W.kia_tup (PySem.W.kitx_exc (exc_isSome C.hd) C.hg C.hk C.hs C.ha C.hn C.ht C.hm) I.kIn J h1 e (fun z => nomatch z) fun tk => ⟨.bl b, H, I.kept (t' := tk) fun _ _ z => z, rfl, q⟩
end
/-! ### repr of a list whose last thing is an empty dict -/
/-- the dict of the modules stands in the written part -/
def SysM (K : PySem.W.Frag) : Prop := ∃ o, K.lookup sysModules = some o ∧ o.cls = .type "dict"
def rReprE (K : PySem.W.Frag) : List V → Hp → VK → Prop := fun xs H Q => ∃ (l e : Addr) (vs : List V) (ds : List PyData) (S : Str), xs = [.ref l] ∧ SysM K ∧ H l = some (.lst (vs ++ [.ref e])) ∧ DpAll K H vs ds ∧ (∀ x ∈ vs, flatV x = true) ∧ H e = some (.dK []) ∧ PyData.showableAll ds = true ∧ (PyData.list (ds ++ [.dict []])).depth ≤ 60 ∧ (PyData.list (ds ++ [.dict []])).shown.length ≤ sizeLine ∧ (PyData.list (ds ++ [.dict []])).shown = S ∧ Q (.str S) H
theorem flat_noref {v : V} {b : Addr} (f : flatV v = true) (r : RelV v (.ref b)) : False := by
  cases v with
  | non => exact nomatch (show Value.ref b = Value.none from r)
  | bl k => exact nomatch (show Value.ref b = Value.bool k from r)
  | int i =>
    obtain ⟨t, z⟩ := (show ∃ t, Value.ref b = Value.int i t from r)
    cases z
  | str i =>
    obtain ⟨t, z⟩ := (show ∃ t, Value.ref b = Value.str i t from r)
    cases z
  | _ => cases f
theorem reads_flat {h : Heap} : ∀ {us : List Value} {ds : List PyData} {as : List Addr} {vs : List V}, ReadsAll h us ds as → Vals vs us → (∀ x ∈ vs, flatV x = true) → as = []
  | _, _, _, _, .nil, .nil, _ => rfl
  | _, _, _, _, .cons r a, .cons (a := v) rv rr, f => by
    have e := reads_flat a rr fun x hx => f x (List.mem_cons_of_mem _ hx)
    have fv := f v List.mem_cons_self
    subst e
    cases r with
    | list _ _ _ _ => exact (flat_noref fv rv).elim
    | tuple _ _ _ _ => exact (flat_noref fv rv).elim
    | dict _ _ _ _ _ => exact (flat_noref fv rv).elim
    | _ => rfl
theorem vals_split : ∀ {xs ys : List V} {us : List Value}, Vals (xs ++ ys) us → ∃ is us2, us = is ++ us2 ∧ Vals xs is ∧ Vals ys us2
  | [], ys, us, r => ⟨[], us, rfl, .nil, r⟩
  | x :: xs, ys, _, .cons a b => by
    obtain ⟨is, us2, rfl, h1, h2⟩ := vals_split b
    exact ⟨_ :: is, us2, rfl, .cons a h1, h2⟩
theorem readsAll_snoc {h : Heap} {u : Value} {d : PyData} {bs : List Addr} (q : Reads h u d bs) : ∀ {us : List Value} {ds : List PyData} {as : List Addr}, ReadsAll h us ds as → ReadsAll h (us ++ [u]) (ds ++ [d]) (as ++ bs)
  | _, _, _, .nil => by
    have := ReadsAll.cons q .nil
    rw [List.append_nil] at this
    exact this
  | _, _, _, .cons r a => by
    rw [List.append_assoc]
    exact .cons r (readsAll_snoc q a)
theorem showAll_snoc {d : PyData} (h : d.showable = true) : ∀ {ds : List PyData}, PyData.showableAll ds = true → PyData.showableAll (ds ++ [d]) = true
  | [], _ => by
    rw [List.nil_append, PyData.showableAll, PyData.showableAll, h]
    rfl
  | x :: r, h1 => by
    rw [PyData.showableAll, Bool.and_eq_true] at h1
    rw [List.cons_append, PyData.showableAll, h1.1, showAll_snoc h h1.2]
    rfl
theorem call_reprE {X : Cx} (guard : X.A.guards = some []) (units : X.A.units + 66 < cLine) : CallR X (.builtin "repr") (rReprE X.K) := by
  intro pins s σ H xs us Q I r h
  obtain ⟨l, e, vs, ds, S, rfl, ⟨om, km, cm⟩, hl, dp, flat, he, sw, dep, sz, rfl, q⟩ := h
  obtain ⟨u, rfl, ru⟩ := vals1 r
  obtain rfl : u = Value.ref l := ru
  obtain ⟨its, rv, ⟨o, n, ho, hc, _, hd⟩, _⟩ := I.list (SqL.of hl)
  obtain ⟨is, us2, rfl, rv1, rv2⟩ : ∃ is us2, its = is ++ us2 ∧ Vals vs is ∧ Vals [V.ref e] us2 := by
    exact vals_split rv
  obtain ⟨ue, rfl, re⟩ := vals1 rv2
  obtain rfl : ue = Value.ref e := re
  obtain ⟨as, ra⟩ := Dp.readsAll I ds _ _ dp rv1
  obtain rfl := reads_flat ra rv1 flat
  obtain ⟨_, nsm, kvs, kv, dof⟩ := dk_of I.hok he
  cases kv
  obtain ⟨oe, es, ep, hoe, exact_, hde, _, prs, _⟩ := dof
  have es0 : es.toList = [] := by
    generalize es.toList = z at prs
    cases prs
    rfl
  have rde : Reads s.heap (.ref e) (.dict []) (e :: [] ++ []) := Reads.dict hoe exact_.1 hde (by rw [es0]; exact .nil) (by rw [es0]; exact .nil)
  have rd : Reads s.heap (.ref l) (.list (ds ++ [.dict []])) (l :: ([] ++ (e :: [] ++ []))) := Reads.list ho hc hd (by simpa using readsAll_snoc rde ra)
  have nl : l ≠ sysModules := fun z => by
    have k := I.kIn _ _ km
    rw [← z, ho] at k
    have := Option.some.inj k
    rw [← this, hc] at cm
    exact absurd cm (by decide)
  refine repr_of_reads' rd (by rw [PyData.showable]; exact showAll_snoc (by rw [PyData.showable, PyData.showableKv]) sw) (fun _ hm => ?_) guard (by omega) (fun _ _ e => e) (fun h' u tk hk => ⟨.str _, H, I.kept (t' := tk) hk, ⟨u, rfl⟩, q⟩) sz
  simp only [List.nil_append, List.append_nil, List.mem_cons, List.not_mem_nil, or_false] at hm
  rcases hm with hm | hm
  · exact nl hm.symm
  · rw [hm] at nsm
    simp at nsm
theorem call_reprX {X : Cx} (guard : X.A.guards = some []) (units : X.A.units + 66 < cLine) : CallR X (.builtin "repr") (fun xs H Q => rReprD X.K xs H Q ∨ rReprE X.K xs H Q) := by
  intro pins s σ H xs us Q I r h
  rcases h with h | h
  · exact call_reprD guard units pins s σ H xs us Q I r h
  · exact call_reprE guard units pins s σ H xs us Q I r h
/-- err.f in an except suite, the written part given -/
theorem pe_xfK {X : Cx} {K : PySem.W.Frag} {a C : Addr} {oe : Obj} {cls : Value} {d : Option Addr} {pn : List (Addr × Obj)} {e : Expr} {te : TE} {pos : Pos} {n : Str} (h : X.K = K) (T : XfC K C) (hno : PySem.W.findIn K (.ref C) n = some none) (hz : Zc cls d oe) (hf : ∃ vs, oe.data = .fields vs)
    (he : PE (X.suite a ((a, oe) :: pn)) e te) (hb : attributeBase e n X.env (eval e X.env) = eval e X.env := by rfl) : PE (X.suite a ((a, oe) :: pn)) (.Attribute e n pos) (tXf a cls d C n te) := by
  subst h
  exact pe_xf T hno hz hf he hb
/-- a rule whose wish speaks of the written part, that part given -/
theorem PE.k {X : Cx} {K : PySem.W.Frag} {e : Expr} {t : PySem.W.Frag → TE} (h : X.K = K) (p : PE X e (t X.K)) : PE X e (t K) := h ▸ p
end L2
/-! ## Own words, 11: an empty dict is not in a list of texts -/
namespace PySem.SeqAt
open AutoSeq1 (wpAny_loadPart')
open MeetsSeq
section
variable {M : Model} {A : Around} {E : Value → Shared → Prop} {s : Shared}
theorem str_eq_declines_dict (b : Str) (u : Tok) (l : Addr) (c : Value) (es : Array DictEntry) (n : Nat) (dd : Option Addr) (sl : Array (Option Value)) :
    Meets (Builtin.«str.__eq__» ⟨[.str b u, .ref l], []⟩) (fun _ R s => s.heap.get? l = some { cls := c, dict := dd, data := .dict es n, slots := sl } ∧ R (.ok (.ret .notImplemented)) s) :=
  .of_wp fun prog w A R s h => by obtain ⟨hp, g, d, tk, os⟩ := s; obtain ⟨hl, h⟩ := h; wp_walk using wpAny_loadPart' hl, wpAny_load hl; exact ⟨_, rfl, h⟩
theorem dict_eq_declines_str (l : Addr) (es : Array DictEntry) (n : Nat) (dd : Option Addr) (sl : Array (Option Value)) (b : Str) (u : Tok) :
    Meets (Builtin.«dict.__eq__» ⟨[.ref l, .str b u], []⟩) (fun _ R s => s.heap.get? l = some { cls := .type "dict", dict := dd, data := .dict es n, slots := sl } ∧ R (.ok (.ret .notImplemented)) s) :=
  .of_wp fun prog w A R s h => by obtain ⟨hp, g, d, tk, os⟩ := s; obtain ⟨hl, h⟩ := h; have f1 := F.sub_str_dict; wp_walk using wpAny_loadPart' hl, wpAny_load hl; exact ⟨_, rfl, h⟩
theorem RcAt.str_dict {l : Addr} {es : Array DictEntry} {n : Nat} {dd : Option Addr} {sl : Array (Option Value)} (b : Str) (u : Tok) (ho : s.heap.get? l = some { cls := .type "dict", dict := dd, data := .dict es n, slots := sl }) (hu : A.units < cLine) : RcAt A s (.str b u) (.ref l) false := fun prog w E Q h => by
  exact rc_eq_decline_or (k := false) (typeIs_str s b u) ⟨_, ho, rfl⟩ (by decide) F.sub_dict_str F.slot_str_eq F.slot_dict_eq_refl
    (fun _ hq => call_meets F.slot_str_eq (typeIs_str s b u) F.entry_str_eq (F.args_str_eq_2 _ _) (str_eq_declines_dict b u l (.type "dict") es n dd sl) ⟨ho, hq⟩)
    (fun _ hq => call_meets F.slot_dict_eq_refl ⟨_, ho, rfl⟩ F.entry_dict_eq (F.args_dict_eq_2 _ _) (dict_eq_declines_str l es n dd sl b u) ⟨ho, hq⟩)
    (fun _ hq => wpAny_of_eq (rfl : isSame (.str b u) (.ref l) = pure false) hq) (.inr hu) h
theorem EqAt.str_dict {l : Addr} {es : Array DictEntry} {n : Nat} {dd : Option Addr} {sl : Array (Option Value)} (b : Str) (u : Tok) (ho : s.heap.get? l = some { cls := .type "dict", dict := dd, data := .dict es n, slots := sl }) (hu : A.units < cLine) : EqAt A s (.str b u) (.ref l) false := fun prog w E Q h => by
  unfold eqBool
  refine wpAny_holding ?_
  refine wpAny_ite_split (fun hab => absurd (eq_of_beq hab) nofun) (fun _ => ?_)
  exact wpAny_bind (RcAt.str_dict b u ho hu prog w E _ (wpAny_truthy_bool h))
end
end PySem.SeqAt
namespace L2
open PySem PySem.Spec PyProof.Rows
def rNotInE : R2 := fun x y H Q => ∃ (e l : Addr) (ts : List Str), x = .ref e ∧ y = .ref l ∧ H e = some (.dK []) ∧ H l = some (.lst (ts.map V.str)) ∧ Q (.bl true) H
theorem valsTxts : ∀ {ts : List Str} {us : List Value}, Vals (ts.map V.str) us → ∀ y ∈ us, ∃ b u, y = Value.str b u
  | [], _, .nil, y, h => by cases h
  | t :: r, _, .cons a b, y, h => by
    rcases List.mem_cons.mp h with rfl | h
    · obtain ⟨k, e⟩ := a
      exact ⟨_, _, e⟩
    · exact valsTxts b y h
theorem op_notInE {X : Cx} (hu : X.A.units + 65 < cLine) : OpR X (compareOp .NotIn) rNotInE := by
  intro pins s σ H x y v u Q I rx ry h
  obtain ⟨e, l, ts, rfl, rfl, he, hl, q⟩ := h
  obtain rfl : v = Value.ref e := rx
  obtain rfl : u = Value.ref l := ry
  obtain ⟨its, rv, ⟨o, n, ho, hc, _, hd⟩, _⟩ := I.list (SqL.of hl)
  obtain ⟨_, nsm, kvs, kv, dof⟩ := dk_of I.hok he
  obtain ⟨⟨cls, dd, dt, sl⟩, es, ep, hoe, exact_, hde, _, prs, _⟩ := dof
  have e1 : cls = .type "dict" := exact_.1
  have e2 : dt = .dict es ep := hde
  subst e1 e2
  refine SeqAt.notIn_listAt (fun _ => false) ⟨o, ho, hc, n, hd⟩ (fun y hy => ?_) ⟨.bl _, H, I, rfl, ?_⟩
  · obtain ⟨b, t, rfl⟩ := valsTxts rv y (by simpa using hy)
    exact SeqAt.EqAt.str_dict b t hoe (by show X.A.units + 1 < cLine; omega)
  · have nf : ∀ zs : List Value, zs.any (fun _ => false) = false := fun zs => by
      induction zs with
      | nil => rfl
      | cons z r ih => rw [List.any_cons, ih]; rfl
    simpa [nf] using q
theorem op_notInX {X : Cx} (hu : X.A.units + 65 < cLine) : OpR X (compareOp .NotIn) (fun x y H Q => rNotInD X.K x y H Q ∨ rNotInE x y H Q) := by
  intro pins s σ H x y v u Q I rx ry h
  rcases h with h | h
  · exact op_notInD hu pins s σ H x y v u Q I rx ry h
  · exact op_notInE hu pins s σ H x y v u Q I rx ry h
end L2
namespace Sw
open PySem PySem.Spec PyProof.Rows L2
/-! ### 1. the text by places -/
def top (i : Nat) : Stmt := PySem.Challenge.pw_sampleweave_k24_put_and_delayed.main.body.getD i (.Pass ⟨0, 0, 0, 0⟩)
abbrev FnP (K : PySem.W.Frag) (x : Str) (st : Stmt) (f : Addr) (fd : FuncData) : Prop := FunD K x x (defArgs st) (defBody st) (defScope st) [] [] f fd
abbrev sWall : Stmt := top 0
abbrev sNoNodeInit : Stmt := inClass (top 3) 0
abbrev sNoNameInit : Stmt := inClass (top 5) 0
abbrev sTwiceInit : Stmt := inClass (top 6) 0
abbrev sUnknownInit : Stmt := inClass (top 7) 0
abbrev sNoPlaceInit : Stmt := inClass (top 8) 0
abbrev sNoDelayInit : Stmt := inClass (top 9) 0
abbrev sTakenInit : Stmt := inClass (top 10) 0
abbrev sBareInit : Stmt := inClass (top 11) 0
abbrev sUnfedInit : Stmt := inClass (top 12) 0
abbrev sUnlikeInit : Stmt := inClass (top 13) 0
abbrev sWhole : Stmt := top 17
abbrev sWithin : Stmt := top 18
abbrev sTruth : Stmt := top 19
abbrev sWholes : Stmt := top 20
abbrev sAreWholesWithin : Stmt := top 21
abbrev sListOf : Stmt := top 22
abbrev sNeed : Stmt := top 23
abbrev sIsName : Stmt := top 24
abbrev sIsOneOf : Stmt := top 25
abbrev sNodeInit : Stmt := inClass (top 32) 0
abbrev sNodeTakes : Stmt := inClass (top 32) 1
abbrev sNodeGives : Stmt := inClass (top 32) 2
abbrev sNodeLate : Stmt := inClass (top 32) 3
abbrev sNodeBegin : Stmt := inClass (top 32) 4
abbrev sNodeFresh : Stmt := inClass (top 32) 5
abbrev sNodeFire : Stmt := inClass (top 32) 6
abbrev sNodeBegun : Stmt := inClass (top 32) 7
abbrev sNodeShown : Stmt := inClass (top 32) 8
abbrev sInletInit : Stmt := inClass (top 33) 0
abbrev sInletTakes : Stmt := inClass (top 33) 1
abbrev sInletGives : Stmt := inClass (top 33) 2
abbrev sInletLate : Stmt := inClass (top 33) 3
abbrev sInletBegin : Stmt := inClass (top 33) 4
abbrev sInletEq : Stmt := inClass (top 33) 5
abbrev sInletRepr : Stmt := inClass (top 33) 6
abbrev sOutletInit : Stmt := inClass (top 34) 0
abbrev sOutletTakes : Stmt := inClass (top 34) 1
abbrev sOutletGives : Stmt := inClass (top 34) 2
abbrev sOutletLate : Stmt := inClass (top 34) 3
abbrev sOutletBegin : Stmt := inClass (top 34) 4
abbrev sOutletEq : Stmt := inClass (top 34) 5
abbrev sOutletRepr : Stmt := inClass (top 34) 6
abbrev sGainInit : Stmt := inClass (top 35) 0
abbrev sGainTakes : Stmt := inClass (top 35) 1
abbrev sGainGives : Stmt := inClass (top 35) 2
abbrev sGainLate : Stmt := inClass (top 35) 3
abbrev sGainBegin : Stmt := inClass (top 35) 4
abbrev sGainFresh : Stmt := inClass (top 35) 5
abbrev sGainFire : Stmt := inClass (top 35) 6
abbrev sGainWork : Stmt := inClass (top 35) 7
abbrev sGainFactor : Stmt := inClass (top 35) 8
abbrev sGainTurned : Stmt := inClass (top 35) 9
abbrev sGainBegun : Stmt := inClass (top 35) 10
abbrev sGainEq : Stmt := inClass (top 35) 11
abbrev sGainRepr : Stmt := inClass (top 35) 12
abbrev sMixInit : Stmt := inClass (top 36) 0
abbrev sMixTakes : Stmt := inClass (top 36) 1
abbrev sMixGives : Stmt := inClass (top 36) 2
abbrev sMixLate : Stmt := inClass (top 36) 3
abbrev sMixBegin : Stmt := inClass (top 36) 4
abbrev sMixFresh : Stmt := inClass (top 36) 5
abbrev sMixFire : Stmt := inClass (top 36) 6
abbrev sMixWork : Stmt := inClass (top 36) 7
abbrev sMixBegun : Stmt := inClass (top 36) 8
abbrev sMixEq : Stmt := inClass (top 36) 9
abbrev sMixRepr : Stmt := inClass (top 36) 10
abbrev sTimesInit : Stmt := inClass (top 37) 0
abbrev sTimesTakes : Stmt := inClass (top 37) 1
abbrev sTimesGives : Stmt := inClass (top 37) 2
abbrev sTimesLate : Stmt := inClass (top 37) 3
abbrev sTimesBegin : Stmt := inClass (top 37) 4
abbrev sTimesFresh : Stmt := inClass (top 37) 5
abbrev sTimesFire : Stmt := inClass (top 37) 6
abbrev sTimesWork : Stmt := inClass (top 37) 7
abbrev sTimesBegun : Stmt := inClass (top 37) 8
abbrev sTimesEq : Stmt := inClass (top 37) 9
abbrev sTimesRepr : Stmt := inClass (top 37) 10
abbrev sChooseInit : Stmt := inClass (top 38) 0
abbrev sChooseTakes : Stmt := inClass (top 38) 1
abbrev sChooseGives : Stmt := inClass (top 38) 2
abbrev sChooseLate : Stmt := inClass (top 38) 3
abbrev sChooseBegin : Stmt := inClass (top 38) 4
abbrev sChooseFresh : Stmt := inClass (top 38) 5
abbrev sChooseFire : Stmt := inClass (top 38) 6
abbrev sChooseWork : Stmt := inClass (top 38) 7
abbrev sChooseBegun : Stmt := inClass (top 38) 8
abbrev sChooseEq : Stmt := inClass (top 38) 9
abbrev sChooseRepr : Stmt := inClass (top 38) 10
abbrev sOwnInit : Stmt := inClass (top 39) 0
abbrev sOwnTakes : Stmt := inClass (top 39) 1
abbrev sOwnGives : Stmt := inClass (top 39) 2
abbrev sOwnLate : Stmt := inClass (top 39) 3
abbrev sOwnBegin : Stmt := inClass (top 39) 4
abbrev sOwnFresh : Stmt := inClass (top 39) 5
abbrev sOwnFire : Stmt := inClass (top 39) 6
abbrev sOwnWork : Stmt := inClass (top 39) 7
abbrev sOwnBegun : Stmt := inClass (top 39) 8
abbrev sOwnEq : Stmt := inClass (top 39) 9
abbrev sOwnRepr : Stmt := inClass (top 39) 10
abbrev sAllReached : Stmt := top 41
abbrev sNodesByName : Stmt := top 46
abbrev sCheckWire : Stmt := top 47
abbrev sWiresByGoal : Stmt := top 48
abbrev sRefuseBare : Stmt := top 49
abbrev sWiresBySource : Stmt := top 50
abbrev sRefuseUnfed : Stmt := top 51
abbrev sWeaveInit : Stmt := inClass (top 52) 0
abbrev sWeaveNames : Stmt := inClass (top 52) 1
abbrev sWeaveNode : Stmt := inClass (top 52) 2
abbrev sWeaveWires : Stmt := inClass (top 52) 3
abbrev sWeaveInlets : Stmt := inClass (top 52) 4
abbrev sWeaveOutlets : Stmt := inClass (top 52) 5
abbrev sWeaveInto : Stmt := inClass (top 52) 6
abbrev sWeaveOutOf : Stmt := inClass (top 52) 7
abbrev sWeavePut : Stmt := inClass (top 52) 8
abbrev sWeaveDelayed : Stmt := inClass (top 52) 9
abbrev sWeavePairs : Stmt := inClass (top 52) 10
abbrev sWeaveCheckKnown : Stmt := inClass (top 52) 11
abbrev sWeaveEq : Stmt := inClass (top 52) 12
abbrev sWeaveLen : Stmt := inClass (top 52) 13
abbrev sUpInit : Stmt := inClass (top 56) 0
abbrev sUpTakes : Stmt := inClass (top 56) 1
abbrev sUpGives : Stmt := inClass (top 56) 2
abbrev sUpLate : Stmt := inClass (top 56) 3
abbrev sUpBegin : Stmt := inClass (top 56) 4
abbrev sUpFresh : Stmt := inClass (top 56) 5
abbrev sUpFire : Stmt := inClass (top 56) 6
abbrev sUpWork : Stmt := inClass (top 56) 7
abbrev sUpBegun : Stmt := inClass (top 56) 8
abbrev sUpEq : Stmt := inClass (top 56) 9
abbrev sUpRepr : Stmt := inClass (top 56) 10
abbrev sDownInit : Stmt := inClass (top 57) 0
abbrev sDownTakes : Stmt := inClass (top 57) 1
abbrev sDownGives : Stmt := inClass (top 57) 2
abbrev sDownLate : Stmt := inClass (top 57) 3
abbrev sDownBegin : Stmt := inClass (top 57) 4
abbrev sDownFresh : Stmt := inClass (top 57) 5
abbrev sDownFire : Stmt := inClass (top 57) 6
abbrev sDownWork : Stmt := inClass (top 57) 7
abbrev sDownBegun : Stmt := inClass (top 57) 8
abbrev sDownEq : Stmt := inClass (top 57) 9
abbrev sDownRepr : Stmt := inClass (top 57) 10
abbrev sResampleInit : Stmt := inClass (top 58) 0
abbrev sResampleTakes : Stmt := inClass (top 58) 1
abbrev sResampleGives : Stmt := inClass (top 58) 2
abbrev sResampleLate : Stmt := inClass (top 58) 3
abbrev sResampleBegin : Stmt := inClass (top 58) 4
abbrev sResampleFresh : Stmt := inClass (top 58) 5
abbrev sResampleFire : Stmt := inClass (top 58) 6
abbrev sResampleWork : Stmt := inClass (top 58) 7
abbrev sResampleTapped : Stmt := inClass (top 58) 8
abbrev sResampleBegun : Stmt := inClass (top 58) 9
abbrev sResampleEq : Stmt := inClass (top 58) 10
abbrev sResampleRepr : Stmt := inClass (top 58) 11
abbrev sPot : Stmt := top 60
abbrev sLTake : Stmt := top 61
abbrev sLName : Stmt := top 62
abbrev sLSpec : Stmt := top 63
abbrev sLTakes : Stmt := top 64
abbrev sLGives : Stmt := top 65
abbrev sLDeed : Stmt := top 66
abbrev sLMade : Stmt := top 67
abbrev sLTurned : Stmt := top 68
abbrev sLSources : Stmt := top 69
abbrev sLPick : Stmt := top 70
abbrev sLDrawn : Stmt := top 71
abbrev sLPairs : Stmt := top 72
abbrev sLLike : Stmt := top 73
abbrev sLIs : Stmt := top 74
abbrev sLTold : Stmt := top 75
abbrev sLPutRight : Stmt := top 76
abbrev sLDelayedRight : Stmt := top 77
abbrev sLaw : Stmt := top 78
/-! ### 2. pots -/
/-- all but what stands at p is as it was -/
def Kept (p : Addr) (H H' : Hp) : Prop := ∀ b o, b ≠ p → H b = some o → H' b = some o
theorem Kept.refl {p : Addr} {H : Hp} : Kept p H H := fun _ _ _ h => h
theorem Kept.trans {p : Addr} {H H1 H2 : Hp} (a : Kept p H H1) (b : Kept p H1 H2) : Kept p H H2 := fun c o n h => b c o n (a c o n h)
theorem Kept.upd {p : Addr} {H H1 : Hp} {o : HO} (a : Kept p H H1) : Kept p H (upd H1 p o) := fun c o n h => by
  rw [upd_ne n]
  exact a c o n h
theorem Kept.new {p q : Addr} {H H1 : Hp} {o : HO} (a : Kept p H H1) (h : H1 q = none) : Kept p H (L2.upd H1 q o) := fun c o n e => by
  have e1 := a c o n e
  rw [upd_ne (ne_of_none e1 h)]
  exact e1
theorem Kept.same {p : Addr} {H H1 : Hp} (a : Same H H1) : Kept p H H1 := fun c o _ e => a c o e
/-- behind a heap in which nothing stood at p -/
theorem Same.kept {p : Addr} {H0 H H1 : Hp} (s : Same H0 H) (h : H0 p = none) (k : Kept p H H1) : Same H0 H1 := fun b o e =>
  k b o (fun z => by rw [z, h] at e; cases e) (s b o e)
theorem Same.new {H H1 : Hp} {q : Addr} {o : HO} (a : Same H H1) (h : H1 q = none) : Same H (upd H1 q o) := fun c u e => by
  have e1 := a c u e
  rw [upd_ne (ne_of_none e1 h)]
  exact e1
/-- a pot: numbers from 0 on, the second one small, the third a count -/
def PotAt (H : Hp) (p : Addr) : Prop := ∃ (a : Int) (bc : Int × Nat), 0 ≤ a ∧ 0 ≤ bc.1 ∧ bc.1 < 2147483647 ∧ H p = some (.lst [.int a, .int bc.1, .int (bc.2 : Int)])
theorem PotAt.keep {H H1 : Hp} {p : Addr} (h : PotAt H p) (s : Same H H1) : PotAt H1 p := by
  obtain ⟨a, b, h1, h2, h3, h4⟩ := h
  exact ⟨a, b, h1, h2, h3, s _ _ h4⟩
/-! ### is_whole, is_whole_within -/
def NoInt (K : PySem.W.Frag) (H : Hp) (v : V) : Prop := (∃ b, v = .bl b) ∨ ∃ T : String, TyX K H v (.type T) ∧ kitB T "int" = some false
def OddV (K : PySem.W.Frag) (H : Hp) (v : V) : Prop := (∃ i : Int, v = .int i ∧ (i < 0 ∨ 400 < i)) ∨ NoInt K H v
def spWhole (K : PySem.W.Frag) : Sp := fun vs H Q _ => ∃ v : V, vs = [v] ∧ ((∃ i : Int, v = .int i ∧ Q (.bl true) H) ∨ (NoInt K H v ∧ Q (.bl false) H))
def spWithin (K : PySem.W.Frag) : Sp := fun vs H Q _ => ∃ (v : V) (lo hi : Int), vs = [v, .int lo, .int hi] ∧ ((∃ i : Int, v = .int i ∧ Q (.bl (decide (lo ≤ i ∧ i ≤ hi))) H) ∨ (NoInt K H v ∧ Q (.bl false) H))
section
variable {P : Program} {w : World} {K : PySem.W.Frag} {mg : Str → Option Value} {base : Heap} {f f1 f2 f3 f4 f5 f6 C CW CN : Addr} {fd fd1 fd2 fd3 fd4 fd5 fd6 : FuncData}
theorem scWhole : FnScope ["thing"] ["thing"] (defScope sWhole) := ⟨rfl, rfl, rfl, by decide +kernel, rfl, by decide +kernel, by decide +kernel⟩
theorem ok_whole (F : FnP K "is_whole" sWhole f fd) (gIs : mg "isinstance" = none) (gInt : mg "int" = none) (gBool : mg "bool" = none) : FnOk P w K mg base CX0 1 f fd ["thing"] (spWhole K) := by
  refine F.ok scWhole (fun vs H Q E h => ?_) (fun cdv A outer s H vs Q E hr h => ?_)
  · obtain ⟨v, rfl, _⟩ := h
    rfl
  · obtain ⟨v, rfl, h⟩ := h
    refine ⟨_, PSs.nox (pss_one (ps_ret (pe_and (pe_callB call_isi (by rfl) gIs boot_isinstance (pa_cons (pv 0) (pa_cons (pe_bltn (v := .ty "int") rfl gInt PyProof.Rows.boot_int rfl) pa_nil)))
      (pe_one (pe_not (pe_callB call_isi (by rfl) gIs boot_isinstance (pa_cons (pv 0) (pa_cons (pe_bltn (v := .ty "bool") rfl gBool PyProof.Rows.boot_bool rfl) pa_nil)))))))), ?_⟩
    rcases h with ⟨i, rfl, k⟩ | ⟨⟨b, rfl⟩ | ⟨T, ty, ki⟩, k⟩
    · refine ⟨_, rfl, _, _, _, _, true, rfl, ClsV.ty _, TyX.base (TyOf.int i), kit_ty (by decide +kernel), _, rfl, iteT ?_⟩
      exact ⟨_, rfl, _, _, _, _, false, rfl, ClsV.ty _, TyX.base (TyOf.int i), kit_ty (by decide +kernel), _, rfl, k⟩
    · refine ⟨_, rfl, _, _, _, _, true, rfl, ClsV.ty _, TyX.base (TyOf.bl b), kit_ty (by decide +kernel), _, rfl, iteT ?_⟩
      exact ⟨_, rfl, _, _, _, _, true, rfl, ClsV.ty _, TyX.base (TyOf.bl b), kit_ty (by decide +kernel), _, rfl, k⟩
    · exact ⟨_, rfl, _, _, _, _, false, rfl, ClsV.ty _, ty, kit_ty ki, _, rfl, iteF k⟩
theorem scWithin : FnScope ["thing", "least", "most"] ["thing", "least", "most"] (defScope sWithin) := ⟨rfl, rfl, rfl, by decide +kernel, rfl, by decide +kernel, by decide +kernel⟩
theorem ok_within (F : FnP K "is_whole_within" sWithin f fd) (GI : FnOk P w K mg base CX0 1 f1 fd1 ["thing"] (spWhole K)) (gI : mg "is_whole" = some (.ref f1)) (kI : PySem.W.keepIn K (.ref f1) = true) (bI : Binds K fd1 ["thing"] []) : FnOk P w K mg base CX0 2 f fd ["thing", "least", "most"] (spWithin K) := by
  refine F.ok scWithin (fun vs H Q E h => ?_) (fun cdv A outer s H vs Q E hr h => ?_)
  · obtain ⟨v, lo, hi, rfl, _⟩ := h
    rfl
  · obtain ⟨v, lo, hi, rfl, h⟩ := h
    refine ⟨_, PSs.nox (pss_one (ps_ret (pe_and (pe_call GI hr rfl gI kI bI .nil pass0 (pa_cons (pv 0) pa_nil)) (pe_one (pe_chain op_le op_le (pv 1) (pv 0) (pv 2)))))), ?_⟩
    rcases h with ⟨i, rfl, k⟩ | ⟨no, k⟩
    · refine ⟨_, rfl, _, rfl, .inl ⟨i, rfl, _, rfl, iteT ?_⟩⟩
      refine ⟨_, rfl, _, rfl, _, _, rfl, rfl, _, rfl, ?_⟩
      refine ite2 (fun h => ?_) (fun h => ?_)
      · refine ⟨_, rfl, _, _, rfl, rfl, ?_⟩
        have e : decide (lo ≤ i ∧ i ≤ hi) = decide (i ≤ hi) := decide_eq_decide.mpr ⟨fun z => z.2, fun z => ⟨of_decide_eq_true h, z⟩⟩
        rw [e] at k
        exact k
      · have e : decide (lo ≤ i ∧ i ≤ hi) = false := decide_eq_false fun z => h (decide_eq_true z.1)
        rw [e] at k
        exact k
    · exact ⟨_, rfl, _, rfl, .inr ⟨no, _, rfl, iteF k⟩⟩
end
/-! ### lists of ints as data -/
theorem dp_ints {K : PySem.W.Frag} {H : Hp} : ∀ ns : List Int, DpAll K H (ns.map V.int) (ns.map PyData.int)
  | [] => .nil
  | n :: ns => .cons (.int n) (dp_ints ns)
theorem lay_ints : ∀ ns : List Int, PyData.canLayAll0 (ns.map PyData.int) = true
  | [] => rfl
  | n :: ns => by
    rw [List.map_cons, PyData.canLayAll0, lay_ints ns]
    rfl
theorem depth_ints : ∀ ns : List Int, PyData.depthAll (ns.map PyData.int) = 0
  | [] => by rw [List.map_nil, PyData.depthAll]
  | n :: ns => by
    rw [List.map_cons, PyData.depthAll, depth_ints ns, PyData.depth]
    rfl
theorem shaped_ints (ns : List Int) : SeqAt.shaped (.list (ns.map PyData.int)) = true := by
  unfold SeqAt.shaped
  rw [PyData.canLay0, lay_ints, PyData.depth, depth_ints]
  rfl
theorem eqv_ints (ns : List Int) : PyData.eqv (.list (ns.map PyData.int)) (.list (ns.map PyData.int)) = true := by
  refine SeqAt.eqv_refl _ ?_
  rw [PyData.canLay0]
  exact lay_ints ns
theorem dp_at {K : PySem.W.Frag} {H : Hp} {a : Addr} {ns : List Int} (h : H a = some (.lst (ns.map V.int))) : Dp K H (.ref a) (.list (ns.map PyData.int)) := .lst (SqL.of h) (dp_ints ns)
/-! ### need, Node.__init__, run_firing -/
abbrev FnM (K : PySem.W.Frag) (x q : Str) (st : Stmt) (f : Addr) (fd : FuncData) : Prop := FunD K x q (defArgs st) (defBody st) (defScope st) [] [] f fd
theorem Same.tup {K : PySem.W.Frag} {H H1 : Hp} {a : Addr} {xs : List V} (s : Same H H1) (h : SqT K H a xs) : SqT K H1 a xs := by
  rcases h with (h | ⟨o, h⟩) | h
  · exact .inl (.inl (s _ _ h))
  · exact .inl (.inr ⟨o, s _ _ h⟩)
  · exact .inr h
theorem Kept.at {p b : Addr} {H H1 : Hp} {o u : HO} (k : Kept p H H1) (hp : H p = some u) (hb : H b = some o) (n : o ≠ u) : H1 b = some o := k b o (fun z => n (by rw [z, hp] at hb; exact (Option.some.inj hb).symm)) hb
theorem Kept.tup {K : PySem.W.Frag} {p a : Addr} {H H1 : Hp} {xs : List V} (k : Kept p H H1) (hp : PotAt H p) (h : SqT K H a xs) : SqT K H1 a xs := by
  obtain ⟨x, y, _, _, _, hp⟩ := hp
  rcases h with (h | ⟨o, h⟩) | h
  · exact .inl (.inl (k.at hp h (fun z => by cases z)))
  · exact .inl (.inr ⟨o, k.at hp h (fun z => by cases z)⟩)
  · exact .inr h
/-- an instance of the class at C, with these fields -/
def InsAt (H : Hp) (p C : Addr) (fs : List (Str × V)) : Prop := ∃ dx, H p = some (.ins C dx fs)
theorem InsAt.keep {H H1 : Hp} {p C : Addr} {fs : List (Str × V)} (h : InsAt H p C fs) (s : Same H H1) : InsAt H1 p C fs := by
  obtain ⟨dx, h⟩ := h
  exact ⟨dx, s _ _ h⟩
theorem InsAt.kept {H H1 : Hp} {p q C : Addr} {fs : List (Str × V)} (h : InsAt H p C fs) (k : Kept q H H1) (hq : PotAt H q) : InsAt H1 p C fs := by
  obtain ⟨dx, h⟩ := h
  obtain ⟨x, y, _, _, _, hq⟩ := hq
  exact ⟨dx, k.at hq h (fun z => by cases z)⟩
def spNeed : Sp := fun vs H Q _ => ∃ v : V, vs = [.bl true, v] ∧ Q .non H
/-- what all sorts keep -/
def nodeF (tm : Addr) (l b : Int) (fs : List (Str × V)) : List (Str × V) := putF "begin_at" (.int b) (putF "late_by" (.int l) (putF "made" (.ref tm) fs))
def spNodeInit (K : PySem.W.Frag) (C : Addr) : Sp := fun vs H Q _ => ∃ (p t dx : Addr) (fs : List (Str × V)) (xs : List V) (l b : Int), vs = [.ref p, .ref t, .int l, .int b] ∧ H p = some (.ins C dx fs) ∧ SqT K H t xs ∧ (0 ≤ l ∧ l ≤ 99) ∧ (0 ≤ b ∧ b ≤ 9999) ∧
  fs.length < 900 ∧ xs.length ≤ 1000 ∧ ∀ tm, H tm = none → Q .non (upd (upd H tm (.tup (xs ++ [.int l, .int b]))) p (.ins C dx (nodeF tm l b fs)))
structure NodeC (K : PySem.W.Frag) (C : Addr) : Prop where
  cl : Cls K C
  nM : NoAttr K C "made"
  nL : NoAttr K C "late_by"
  nB : NoAttr K C "begin_at"
theorem putF_le (f : Str) (v : V) : ∀ fs : List (Str × V), (putF f v fs).length ≤ fs.length + 1
  | [] => Nat.le_refl _
  | (g, x) :: r => by
    unfold putF
    split
    · exact Nat.le_succ _
    · exact Nat.succ_le_succ (putF_le f v r)
section
variable {P : Program} {w : World} {K : PySem.W.Frag} {mg : Str → Option Value} {base : Heap} {f f1 f2 f3 f4 f5 f6 C CW CN : Addr} {fd fd1 fd2 fd3 fd4 fd5 fd6 : FuncData}
theorem scNeed : FnScope ["holds", "field"] ["holds", "field"] (defScope sNeed) := ⟨rfl, rfl, rfl, by decide +kernel, rfl, by decide +kernel, by decide +kernel⟩
theorem ok_need (F : FnP K "need" sNeed f fd) : FnOk P w K mg base CX0 1 f fd ["holds", "field"] spNeed := by
  refine F.ok scNeed (fun vs H Q E h => ?_) (fun cdv A outer s H vs Q E hr h => ?_)
  · obtain ⟨v, rfl, _⟩ := h
    rfl
  · obtain ⟨v, rfl, k⟩ := h
    refine ⟨_, PSs.nox (pss_one (ps_if (pt_not (pt_val (pv 0))) pss_never pss_nil)), ?_⟩
    exact ⟨_, rfl, _, rfl, iteF k⟩
theorem scNodeInit : FnScope ["self", "arguments", "late", "begin"] ["self", "arguments", "late", "begin"] (defScope sNodeInit) := ⟨rfl, rfl, rfl, by decide +kernel, rfl, by decide +kernel, by decide +kernel⟩
theorem ok_nodeInit (F : FnM K "__init__" "Node.__init__" sNodeInit f fd) (GN : FnOk P w K mg base CX0 1 f1 fd1 ["holds", "field"] spNeed) (gN : mg "need" = some (.ref f1)) (kN : PySem.W.keepIn K (.ref f1) = true) (bN : Binds K fd1 ["holds", "field"] [])
    (GW : FnOk P w K mg base CX0 2 f2 fd2 ["thing", "least", "most"] (spWithin K)) (gW : mg "is_whole_within" = some (.ref f2)) (kW : PySem.W.keepIn K (.ref f2) = true) (bW : Binds K fd2 ["thing", "least", "most"] [])
    (gML : ∃ t, mg "MOST_LATE" = some (.int 99 t)) (gMB : ∃ t, mg "MOST_BEGIN" = some (.int 9999 t)) (T : NodeC K C) : FnOk P w K mg base CX0 3 f fd ["self", "arguments", "late", "begin"] (spNodeInit K C) := by
  obtain ⟨tL, gL⟩ := gML
  obtain ⟨tB, gB⟩ := gMB
  refine F.ok scNodeInit (fun vs H Q E h => ?_) (fun cdv A outer s H vs Q E hr h => ?_)
  · obtain ⟨p, t, dx, fs, xs, l, b, rfl, _⟩ := h
    rfl
  · obtain ⟨p, t, dx, fs, xs, l, b, rfl, hp, ht, hl, hb, hfs, hxs, k⟩ := h
    have hr1 : Room 1 _ := hr.mono (by decide)
    refine ⟨_, PSs.nox (pss_cons (ps_expr (pe_call GN hr1 rfl gN kN bN .nil pass0 (pa_cons (pe_call GW hr rfl gW kW bW .nil pass0 (pa_cons (pv 2) (pa_cons pe_int (pa_cons (pe_glob (v := .int 99) rfl gL ⟨_, rfl⟩) pa_nil)))) (pa_cons pe_str pa_nil))))
      (pss_cons (ps_expr (pe_call GN hr1 rfl gN kN bN .nil pass0 (pa_cons (pe_call GW hr rfl gW kW bW .nil pass0 (pa_cons (pv 3) (pa_cons pe_int (pa_cons (pe_glob (v := .int 9999) rfl gB ⟨_, rfl⟩) pa_nil)))) (pa_cons pe_str pa_nil))))
      (pss_cons (ps_fld (pv 0) (pe_tup (StX.pa_star (pv 1) (pa_cons (pv 2) (pa_cons (pv 3) pa_nil)))) rfl)
      (pss_cons (ps_fld (pv 0) (pv 2) rfl) (pss_one (ps_fld (pv 0) (pv 3) rfl)))))), ?_⟩
    refine ⟨_, rfl, _, 0, 99, rfl, .inl ⟨l, rfl, ?_⟩⟩
    rw [show decide ((0 : Int) ≤ l ∧ l ≤ 99) = true from decide_eq_true hl]
    refine ⟨_, rfl, ?_⟩
    refine ⟨_, rfl, _, 0, 9999, rfl, .inl ⟨b, rfl, ?_⟩⟩
    rw [show decide ((0 : Int) ≤ b ∧ b ≤ 9999) = true from decide_eq_true hb]
    refine ⟨_, rfl, ?_⟩
    refine ⟨_, rfl, t, xs, rfl, .inl ht, _, rfl, _, rfl, ?_, fun tm htm => ?_⟩
    · rw [List.length_append]
      exact Nat.le_trans (Nat.add_le_add_right hxs _) (by show 1000 + 2 ≤ sizeLine; decide)
    have npt : p ≠ tm := ne_of_none hp htm
    have l1 := putF_le "made" (.ref tm) fs
    have l2 := putF_le "late_by" (.int l) (putF "made" (.ref tm) fs)
    refine ⟨_, rfl, p, C, dx, _, rfl, (by rw [upd_ne npt]; exact hp), T.cl, T.nM, by omega, ?_⟩
    refine ⟨_, rfl, _, rfl, p, C, dx, _, rfl, upd_same, T.cl, T.nL, by omega, ?_⟩
    refine ⟨_, rfl, _, rfl, p, C, dx, _, rfl, upd_same, T.cl, T.nB, by omega, ?_⟩
    rw [upd_upd, upd_upd]
    exact k tm htm
end
/-! ### is_truth -/
def spTruth : Sp := fun vs H Q _ => ∃ b : Bool, vs = [.bl b] ∧ Q (.bl true) H
section
variable {P : Program} {w : World} {K : PySem.W.Frag} {mg : Str → Option Value} {base : Heap} {f f1 f2 f3 f4 f5 f6 C CW CN : Addr} {fd fd1 fd2 fd3 fd4 fd5 fd6 : FuncData}
theorem scTruth : FnScope ["thing"] ["thing"] (defScope sTruth) := ⟨rfl, rfl, rfl, by decide +kernel, rfl, by decide +kernel, by decide +kernel⟩
theorem ok_truth (F : FnP K "is_truth" sTruth f fd) : FnOk P w K mg base CX0 1 f fd ["thing"] spTruth := by
  refine F.ok scTruth (fun vs H Q E h => ?_) (fun cdv A outer s H vs Q E hr h => ?_)
  · obtain ⟨b, rfl, _⟩ := h
    rfl
  · obtain ⟨b, rfl, k⟩ := h
    refine ⟨_, PSs.nox (pss_one (ps_ret (pe_or (pe_cmpR op_isBl (pv 0) pe_bl (nomark _)) (pe_one (pe_cmpR op_isBl (pv 0) pe_bl (nomark _)))))), ?_⟩
    cases b with
    | true => exact ⟨_, rfl, true, true, rfl, rfl, true, rfl, iteT k⟩
    | false => exact ⟨_, rfl, false, true, rfl, rfl, false, rfl, iteF ⟨_, rfl, false, false, rfl, rfl, k⟩⟩
end
theorem nodeF_be (tm : Addr) (l b : Int) (fs : List (Str × V)) : (nodeF tm l b fs).lookup ("begin_at" : Str) = some (.int b) := by
  unfold nodeF
  rw [lookup_putF, if_pos rfl]
theorem nodeF_no {tm : Addr} {l b : Int} {fs : List (Str × V)} {m : Str} (h1 : m ≠ "begin_at") (h2 : m ≠ "late_by") (h3 : m ≠ "made") : (nodeF tm l b fs).lookup m = fs.lookup m := by
  unfold nodeF
  rw [lookup_putF, if_neg h1, lookup_putF, if_neg h2, lookup_putF, if_neg h3]
theorem nodeF_le (tm : Addr) (l b : Int) (fs : List (Str × V)) : (nodeF tm l b fs).length ≤ fs.length + 3 := by
  unfold nodeF
  have l1 := putF_le "made" (.ref tm) fs
  have l2 := putF_le "late_by" (.int l) (putF "made" (.ref tm) fs)
  have l3 := putF_le "begin_at" (.int b) (putF "late_by" (.int l) (putF "made" (.ref tm) fs))
  omega
/-! ### the fields of a node -/
def Num (n : Int) : Prop := -(10 ^ 56) < n ∧ n < 10 ^ 56
theorem Num.lt {n : Int} (h : Num n) : n.natAbs < 2 ^ 200 := by
  unfold Num at h
  omega
theorem Num.mul {x y : Int} (h : Num x) (h' : Num y) : CMulW x y := wide_mul h.lt h'.lt (by decide) (by decide) (by decide)
structure PlV (fs : List (Str × V)) (own : List (Str × V)) (b : Int) : Prop where
  be : fs.lookup ("begin_at" : Str) = some (.int b)
  fld : ∀ (m : Str) (x : V), own.lookup m = some x → fs.lookup m = some x
  no : ∀ m : Str, own.lookup m = none → m ≠ "begin_at" → m ≠ "late_by" → m ≠ "made" → fs.lookup m = none
theorem plV_mk {tm : Addr} {l b : Int} {fs own : List (Str × V)} (h : ∀ m : Str, fs.lookup m = own.lookup m) (n1 : own.lookup ("begin_at" : Str) = none) (n2 : own.lookup ("late_by" : Str) = none) (n3 : own.lookup ("made" : Str) = none) : PlV (nodeF tm l b fs) own b := by
  refine ⟨nodeF_be _ _ _ _, fun m x e => ?_, fun m e h3 h4 h5 => ?_⟩
  · rw [nodeF_no (fun z => by rw [z, n1] at e; cases e) (fun z => by rw [z, n2] at e; cases e) (fun z => by rw [z, n3] at e; cases e), h]
    exact e
  · rw [nodeF_no h3 h4 h5, h]
    exact e
theorem PlV.put {fs own : List (Str × V)} {b : Int} (h : PlV fs own b) (m : Str) (x : V) (n : m ≠ "begin_at") : PlV (putF m x fs) ((m, x) :: own) b := by
  refine ⟨?_, fun m' x' e => ?_, fun m' e h3 h4 h5 => ?_⟩
  · rw [lookup_putF, if_neg (Ne.symm n)]
    exact h.be
  · rw [lookup_putF]
    rw [List.lookup_cons] at e
    by_cases z : m' = m
    · rw [if_pos z]
      rw [z, beq_self_eq_true] at e
      exact e
    · rw [if_neg z]
      rw [beq_false_of_ne z] at e
      exact h.fld m' x' e
  · rw [lookup_putF]
    rw [List.lookup_cons] at e
    by_cases z : m' = m
    · rw [z, beq_self_eq_true] at e
      cases e
    · rw [if_neg z]
      rw [beq_false_of_ne z] at e
      exact h.no m' e h3 h4 h5
theorem made_same {C x dx : Addr} {H H' : Hp} (nx : H x = none) (nd : H dx = none) (ne : dx ≠ x) (k : Kept x (upd (upd H dx (.own x)) x (.ins C dx [])) H') : Same H H' :=
  Same.kept (Same.new (Same.new (Same.refl H) nd) (by rw [upd_ne ne.symm]; exact nx)) nx k
theorem Same.past {H0 H : Hp} {q : Addr} {o : HO} (k : Same H0 H) (h : H0 q = none) : Same H0 (L2.upd H q o) := fun b u e => by
  rw [upd_ne (ne_of_none e h)]
  exact k b u e
theorem Kept.past {p q : Addr} {H H1 : Hp} {o : HO} (k : Kept p H H1) (h : H q = none) : Kept p H (L2.upd H1 q o) := fun b u n e => by
  rw [upd_ne (ne_of_none e h)]
  exact k b u n e
/-! ### are_wholes, is_list_of_wholes -/
def spWholes (K : PySem.W.Frag) : Sp := fun vs H Q _ => ∃ (l : Addr) (ns : List Int), vs = [.ref l] ∧ SqL K H l (ns.map V.int) ∧ ns.length ≤ 1000 ∧ ∀ H', Same H H' → Q (.bl true) H'
def spListOf (K : PySem.W.Frag) : Sp := fun vs H Q _ => ∃ (l : Addr) (ns : List Int) (lo hi : Int), vs = [.ref l, .int lo, .int hi] ∧ H l = some (.lst (ns.map V.int)) ∧ ns.length ≤ 1000 ∧ lo ≤ (ns.length : Int) ∧ (ns.length : Int) ≤ hi ∧ ∀ H', Same H H' → Q (.bl true) H'
theorem all_true (n : Nat) : (List.replicate n true).all id = true := by
  rw [List.all_eq_true]
  intro b hb
  exact (List.mem_replicate.mp hb).2
section
variable {P : Program} {w : World} {K : PySem.W.Frag} {mg : Str → Option Value} {base : Heap} {f f1 f2 f3 f4 f5 f6 C CW CN : Addr} {fd fd1 fd2 fd3 fd4 fd5 fd6 : FuncData}
theorem scWholes : FnScope ["things", "thing"] ["things"] (defScope sWholes) := ⟨rfl, rfl, rfl, by decide +kernel, rfl, by decide +kernel, by decide +kernel⟩
theorem ok_wholes (F : FnP K "are_wholes" sWholes f fd) (GI : FnOk P w K mg base CX0 1 f1 fd1 ["thing"] (spWhole K)) (gI : mg "is_whole" = some (.ref f1)) (kI : PySem.W.keepIn K (.ref f1) = true) (bI : Binds K fd1 ["thing"] []) (gAll : mg "all" = none) :
    FnOk P w K mg base CX0 2 f fd ["things"] (spWholes K) := by
  refine F.ok scWholes (fun vs H Q E h => ?_) (fun cdv A outer s H vs Q E hr h => ?_)
  · obtain ⟨l, ns, rfl, _⟩ := h
    rfl
  · obtain ⟨l, ns, rfl, hl, few, k⟩ := h
    refine ⟨_, PSs.nox (pss_one (ps_ret (pe_callB (cr_all rfl) (by rfl) gAll (by decide +kernel) (pa_cons (pe_lc (own := [("thing", 1)]) (g := gName 1) (tt := tYes) rfl scWholes.nd (pi_list (pv 0)) (blkOk_by (N := ["things", "thing"]) (sc := defScope sWholes) (by decide +kernel))
      (fun _ _ _ _ _ => pg_name (i := 1) scWholes.nd rfl (Or.inl rfl)) (fun _ _ _ _ _ => pts_nil) (fun _ _ _ _ _ => pe_call GI hr rfl gI kI bI .nil pass0 (pa_cons (pv 1) pa_nil))) pa_nil)))), ?_⟩
    refine ⟨_, rfl, l, rfl, ⟨_, hl⟩, fun D hD => lc_list (K := K) (a := l) (xs := ns.map V.int) (fun i H' => H' = upd H D (.lst ((List.replicate i true).map V.bl))) rfl (fun i H' _ e => by rw [e]; exact Same.seq (Same.new (Same.refl _) hD) hl) (fun i v H' hv e => ?_) (fun H' e => ?_)⟩
    · subst e
      obtain ⟨u, rfl⟩ : ∃ u, v = V.int u := by
        rw [List.getElem?_map] at hv
        obtain ⟨u, _, e2⟩ := Option.map_eq_some_iff.mp hv
        exact ⟨u, e2.symm⟩
      have hi : i < ns.length := by
        have q := (List.getElem?_eq_some_iff.mp hv).1
        rw [List.length_map] at q
        exact q
      refine ⟨rfl, ?_⟩
      unfold tYes
      refine iteT ?_
      refine ⟨_, rfl, _, rfl, .inl ⟨u, rfl, _, upd_same, ?_, ?_⟩⟩
      · rw [List.length_map, List.length_replicate]
        exact Nat.lt_of_lt_of_le (show i < 1001 by omega) (by decide)
      · rw [upd_upd, List.replicate_succ', List.map_append]
        rfl
    · subst e
      refine ⟨D, _, rfl, SqL.of upd_same, ?_⟩
      rw [all_true]
      exact k _ (Same.new (Same.refl _) hD)
theorem scListOf : FnScope ["thing", "least", "most"] ["thing", "least", "most"] (defScope sListOf) := ⟨rfl, rfl, rfl, by decide +kernel, rfl, by decide +kernel, by decide +kernel⟩
theorem ok_listOf (F : FnP K "is_list_of_wholes" sListOf f fd) (GA : FnOk P w K mg base CX0 2 f1 fd1 ["things"] (spWholes K)) (gA : mg "are_wholes" = some (.ref f1)) (kA : PySem.W.keepIn K (.ref f1) = true) (bA : Binds K fd1 ["things"] [])
    (gIs : mg "isinstance" = none) (gList : mg "list" = none) (gLen : mg "len" = none) : FnOk P w K mg base CX0 3 f fd ["thing", "least", "most"] (spListOf K) := by
  refine F.ok scListOf (fun vs H Q E h => ?_) (fun cdv A outer s H vs Q E hr h => ?_)
  · obtain ⟨l, ns, lo, hi, rfl, _⟩ := h
    rfl
  · obtain ⟨l, ns, lo, hi, rfl, hl, few, h1, h2, k⟩ := h
    refine ⟨_, PSs.nox (pss_one (ps_ret (pe_and (pe_callB call_isi (by rfl) gIs boot_isinstance (pa_cons (pv 0) (pa_cons (pe_bltn (v := .ty "list") rfl gList PyProof.Rows.boot_list rfl) pa_nil)))
      (pe_and (pe_chain op_le op_le (pv 1) (pe_callB call_len_seq (by rfl) gLen PySem.boot_len (pa_cons (pv 0) pa_nil)) (pv 2)) (pe_one (pe_call GA hr rfl gA kA bA .nil pass0 (pa_cons (pv 0) pa_nil))))))), ?_⟩
    refine ⟨_, rfl, _, _, _, _, true, rfl, ClsV.ty _, TyX.base (TyOf.lst hl), kit_ty (by decide +kernel), _, rfl, iteT ?_⟩
    refine ⟨_, rfl, _, rfl, l, _, rfl, .inl (SqL.of hl), _, _, rfl, rfl, _, rfl, ?_⟩
    rw [List.length_map]
    refine ite2 (fun _ => ?_) (fun z => absurd (decide_eq_true h1) z)
    refine ⟨_, rfl, _, _, rfl, rfl, ?_⟩
    refine ⟨decide ((ns.length : Int) ≤ hi), rfl, ?_⟩
    rw [decide_eq_true h2]
    refine iteT ?_
    exact ⟨_, rfl, l, ns, rfl, SqL.of hl, few, k⟩
end
/-! ### lists of ints shown -/
theorem Num.log {n : Int} (h : Num n) : n.natAbs.log2 < 1920 := log2_of (b := 200) h.lt (by decide) (by decide)
theorem show_ints : ∀ cs : List Int, (∀ c ∈ cs, c.natAbs.log2 < 1920) → PyData.showableAll (cs.map PyData.int) = true
  | [], _ => by rw [List.map_nil, PyData.showableAll]
  | c :: r, h => by
    rw [List.map_cons, PyData.showableAll, show_ints r fun z hz => h z (List.mem_cons_of_mem _ hz), PyData.showable, decide_eq_true (h c List.mem_cons_self)]
    rfl
theorem intsD_show {ns : List Int} (h : ∀ n ∈ ns, n.natAbs.log2 < 1920) : (PyData.list (ns.map PyData.int)).showable = true := by
  rw [PyData.showable]
  exact show_ints ns h
theorem intsD_len {ns : List Int} (h : ∀ n ∈ ns, n.natAbs.log2 < 1920) (l : ns.length ≤ 1000) : (PyData.list (ns.map PyData.int)).shown.length ≤ sizeLine := by
  refine Nat.le_trans (shown_list (B := 1921) fun d hd => ?_) ?_
  · obtain ⟨n, hn, rfl⟩ := List.mem_map.mp hd
    exact shown_num (h n hn)
  · rw [List.length_map]
    exact Nat.le_trans (show (1921 + 2) * ns.length + 3 ≤ 1923 * 1000 + 3 by omega) (by decide)
/-- a list of one list of ints -/
theorem row1_shaped (xs : List Int) : SeqAt.shaped (.list [.list (xs.map PyData.int)]) = true := by
  unfold SeqAt.shaped
  rw [PyData.canLay0, PyData.canLayAll0, PyData.canLayAll0, PyData.canLay0, lay_ints, PyData.depth, PyData.depthAll, PyData.depthAll, PyData.depth, depth_ints]
  rfl
theorem row1_eqv (xs : List Int) : PyData.eqv (.list [.list (xs.map PyData.int)]) (.list [.list (xs.map PyData.int)]) = true := by
  refine SeqAt.eqv_refl _ ?_
  rw [PyData.canLay0, PyData.canLayAll0, PyData.canLayAll0, PyData.canLay0, lay_ints]
  rfl
theorem row1_dp {K : PySem.W.Frag} {H : Hp} {r r0 : Addr} {xs : List Int} (h : H r = some (.lst [.ref r0])) (h0 : H r0 = some (.lst (xs.map V.int))) : Dp K H (.ref r) (.list [.list (xs.map PyData.int)]) := .lst (SqL.of h) (.cons (dp_at h0) .nil)
end Sw
namespace Sw
open PySem PySem.Spec PyProof.Rows L2
/-! ### the head: facts by names -/
/-- as hookD, with one test more of the written part -/
def obsX (fa : List He.Fa) (fn : List He.DefD) (ex : PySem.W.Frag → Bool) (K : PySem.W.Frag) : Bool × He.AlD := (ex K, He.obsD fa fn K)
def obsXG (n : Nat) (fa : List He.Fa) (fn : List He.DefD) (ex : PySem.W.Frag → Bool) (g : Addr → Option Obj) : Bool × He.AlD := obsX fa fn ex (He.frG g (cStatics :: He.asD g n))
def hookX (n : Nat) (fa : List He.Fa) (fn : List He.DefD) (ex : PySem.W.Frag → Bool) : PySem.W.Hook where
  α := Bool × He.AlD
  obs := fun s => obsXG n fa fn ex s.heap.get?
  val := fun _ => (true, He.valD fn)
  says := fun _ h => ∃ K : PySem.W.Frag, K.In h ∧ ex K = true ∧ He.SaysD fa fn K
  of := fun _ _ e => ⟨_, He.frG_in, congrArg (fun z : Bool × He.AlD => z.1) e, congrArg (fun z : Bool × He.AlD => z.2) e⟩
  keeps := fun _ _ _ ⟨K, hK, c⟩ k => ⟨K, PySem.W.Frag.In.keeps hK k, c⟩
theorem obsXG_eq {n : Nat} {fa : List He.Fa} {fn : List He.DefD} {ex : PySem.W.Frag → Bool} {g : Addr → Option Obj} {s : Shared} (h : ∀ a, g a = s.heap.get? a) : obsXG n fa fn ex g = (hookX n fa fn ex).obs s := by
  have e : g = s.heap.get? := funext h
  rw [e] <;> rfl
def kitF (K : PySem.W.Frag) (t u : Value) (b : Bool) : Bool := decide (PySem.W.kitOne K t u = some b)
def dfn (x : Str) (st : Stmt) : He.DefD := ⟨(x, none), x, x, defArgs st, defBody st, defScope st, [], []⟩
/-- the same over a list of places that is written out -/
def obsXL (as : List Addr) (fa : List He.Fa) (fn : List He.DefD) (ex : PySem.W.Frag → Bool) (g : Addr → Option Obj) : Bool × He.AlD := obsX fa fn ex (He.frG g as)
def hookXL (as : List Addr) (fa : List He.Fa) (fn : List He.DefD) (ex : PySem.W.Frag → Bool) : PySem.W.Hook where
  α := Bool × He.AlD
  obs := fun s => obsXL as fa fn ex s.heap.get?
  val := fun _ => (true, He.valD fn)
  says := fun _ h => ∃ K : PySem.W.Frag, K.In h ∧ ex K = true ∧ He.SaysD fa fn K
  of := fun _ _ e => ⟨_, He.frG_in, congrArg (fun z : Bool × He.AlD => z.1) e, congrArg (fun z : Bool × He.AlD => z.2) e⟩
  keeps := fun _ _ _ ⟨K, hK, c⟩ k => ⟨K, PySem.W.Frag.In.keeps hK k, c⟩
theorem obsXL_eq {as : List Addr} {fa : List He.Fa} {fn : List He.DefD} {ex : PySem.W.Frag → Bool} {g : Addr → Option Obj} {s : Shared} (h : ∀ a, g a = s.heap.get? a) : obsXL as fa fn ex g = (hookXL as fa fn ex).obs s := by
  have e : g = s.heap.get? := funext h
  rw [e] <;> rfl
/-- the run's equation in parts -/
theorem run_parts {r : PySem.W.OpenRow} {q : Program} {as : List Addr} {fa1 fa2 : List He.Fa} {fn : List He.DefD} {ex : PySem.W.Frag → Bool} {M : Nat} {loose : List PySem.Str} {w : World}
    (h0 : HandSHeadRun.RunEq r q (hookXL as [] [] (fun _ => true)) (fun s => obsXL as [] [] (fun _ => true) (HandSHeadRun.getT s)) M loose w)
    (h1 : ∀ os : OsState, (HandSHeadRun.endF (HandSHeadRun.stepQ (HandSHeadRun.denQ HandSHeadRun.tabQ) r.prog w) M r.prog w os).map (fun s => ex (He.frG (HandSHeadRun.getT s) as)) = some true)
    (h2 : ∀ os : OsState, (HandSHeadRun.endF (HandSHeadRun.stepQ (HandSHeadRun.denQ HandSHeadRun.tabQ) r.prog w) M r.prog w os).map (fun s => fa1.all fun f => f.ok (He.frG (HandSHeadRun.getT s) as)) = some true)
    (h2' : ∀ os : OsState, (HandSHeadRun.endF (HandSHeadRun.stepQ (HandSHeadRun.denQ HandSHeadRun.tabQ) r.prog w) M r.prog w os).map (fun s => fa2.all fun f => f.ok (He.frG (HandSHeadRun.getT s) as)) = some true)
    (h3 : ∀ os : OsState, (HandSHeadRun.endF (HandSHeadRun.stepQ (HandSHeadRun.denQ HandSHeadRun.tabQ) r.prog w) M r.prog w os).map (fun s => (fn.all fun d => d.ok (He.frG (HandSHeadRun.getT s) as), fn.map fun d => He.fnW (He.frG (HandSHeadRun.getT s) as) d.at_)) = some (true, fn.map He.DefD.val)) :
    HandSHeadRun.RunEq r q (hookXL as (fa1 ++ fa2) fn ex) (fun s => obsXL as (fa1 ++ fa2) fn ex (HandSHeadRun.getT s)) M loose w := by
  intro os
  have g0 := h0 os
  have g1 := h1 os
  have g2 := h2 os
  have g2' := h2' os
  have g3 := h3 os
  clear h0 h1 h2 h2' h3
  generalize HandSHeadRun.endF (HandSHeadRun.stepQ (HandSHeadRun.denQ HandSHeadRun.tabQ) r.prog w) M r.prog w os = x at g0 g1 g2 g2' g3 ⊢
  cases x with
  | none => cases g1
  | some s =>
    have k0 := Option.some.inj g0
    have k1 := Option.some.inj g1
    have k2 := Option.some.inj g2
    have k2' := Option.some.inj g2'
    have k3 := Option.some.inj g3
    have a1 := congrArg Prod.fst k0
    have a2 := congrArg (fun z => z.2.1) k0
    have b1 := congrArg Prod.fst k3
    have b2 := congrArg Prod.snd k3
    dsimp only at a1 a2 b1 b2 k1 k2 k2'
    show some _ = some _
    congr 1
    refine Prod.ext a1 (Prod.ext a2 (Prod.ext k1 (Prod.ext ?_ b2)))
    show ((fa1 ++ fa2).all (fun f => f.ok (He.frG (HandSHeadRun.getT s) as)) && fn.all fun d => d.ok (He.frG (HandSHeadRun.getT s) as)) = true
    rw [List.all_append, k2, k2', b1]
    rfl
def baseB (K : PySem.W.Frag) (C f : Addr) (m : Str) : Bool := PySem.W.readsIn K C (.type "type") && (decide (PySem.W.specialIn K (.ref C) "__getattribute__" = some (some (.builtin "type.__getattribute__"))) &&
  ((match PySem.W.findCls K (.ref C) (.type "type") m with
    | some (.val (.ref g)) => decide (g = f)
    | _ => false) && PySem.W.keepIn K (.ref f)))
theorem baseB_ok {K : PySem.W.Frag} {C f : Addr} {m : Str} (h : baseB K C f m = true) : BaseM K C m f := by
  obtain ⟨h1, h⟩ := He.ba h
  obtain ⟨h2, h⟩ := He.ba h
  obtain ⟨h3, h4⟩ := He.ba h
  refine ⟨h1, of_decide_eq_true h2, ?_, h4⟩
  cases e : PySem.W.findCls K (.ref C) (.type "type") m with
  | none =>
    rw [e] at h3
    cases h3
  | some r =>
    rw [e] at h3
    cases r with
    | val v =>
      cases v with
      | ref g => rw [of_decide_eq_true (show decide (g = f) = true from h3)]
      | _ => cases h3
    | get _ _ _ _ => cases h3

/-- the tuple that stands as a default in Own's def -/
def ownT (K : PySem.W.Frag) : Addr := match K.lookup (He.fAd K ("Own", some "__init__")) with
  | some ⟨_, _, .func fd, _⟩ => (match fd.defaults with
    | .ref T => (match K.lookup T with
      | some ⟨_, _, .seq its _, _⟩ => (match (its[0]? : Option Value) with
        | some (.ref a) => a
        | _ => 0)
      | _ => 0)
    | _ => 0)
  | _ => 0
def eqB (K : PySem.W.Frag) (C : Addr) (m : Str) : Bool := decide (PySem.W.findIn K (.ref C) m = some (some (.ref (He.ma K C m)))) && PySem.W.isFn K (.ref (He.ma K C m))
theorem eqB_ok {K : PySem.W.Frag} {C : Addr} {m : Str} (h : eqB K C m = true) : PySem.W.findIn K (.ref C) m = some (some (.ref (He.ma K C m))) ∧ PySem.W.isFn K (.ref (He.ma K C m)) = true := by
  obtain ⟨h1, h2⟩ := He.ba h
  exact ⟨of_decide_eq_true h1, h2⟩
def excB (K : PySem.W.Frag) (D : Addr) : Bool :=
  decide (PySem.W.findIn K (.ref D) "__getattribute__" = some (some (.builtin "BaseException.__getattribute__"))) && (decide (PySem.W.findIn K (.ref D) "__getattr__" = some none) && (decide (PySem.W.subIn K (.ref D) (.type "BaseException") = some true) && (PySem.W.hasDictIn K D &&
  (decide (PySem.W.findIn K (.ref D) "__class__" = some (some (.builtin "object.__class__"))) && (decide (PySem.W.specialIn K (.builtin "object.__class__") "__get__" = some (some (.builtin "getset_descriptor.__get__"))) &&
  (decide (PySem.W.takesIn K (.builtin "object.__class__") = some true) && decide (PySem.W.mroIn K D (.type "object") = some true)))))))
theorem excB_ok {K : PySem.W.Frag} {D : Addr} (h : excB K D = true) : ExcC K D := by
  obtain ⟨h1, h⟩ := He.ba h
  obtain ⟨h2, h⟩ := He.ba h
  obtain ⟨h3, h⟩ := He.ba h
  obtain ⟨h4, h⟩ := He.ba h
  obtain ⟨h5, h⟩ := He.ba h
  obtain ⟨h6, h⟩ := He.ba h
  obtain ⟨h7, h8⟩ := He.ba h
  exact ⟨of_decide_eq_true h1, of_decide_eq_true h2, of_decide_eq_true h3, h4, of_decide_eq_true h5, of_decide_eq_true h6, of_decide_eq_true h7, of_decide_eq_true h8⟩
/-- an own class of refusals, with an __init__ of its own -/
def oexB (K : PySem.W.Frag) (C : Addr) : Bool := (match K.lookup C with
  | some ⟨.type "type", _, .cls cq, qs⟩ => (match cq.mro, qs.toList with
    | .ref C2 :: bq, [_, _, _, _, some (.builtin nn), _] => decide (C2 = C) && (decide (nn = "ValueError.__new__") && (cq.hasDict && (!cq.hasDel && PySem.HandSPX.refsVE bq)))
    | _, _ => false)
  | _ => false) && (decide (PySem.W.findIn K (.ref C) "__setattr__" = some (some (.builtin "object.__setattr__"))) && (decide (PySem.W.subIn K (.ref C) (.type "BaseException") = some true) && (decide (PySem.W.typeIn K (.ref C) = some (.type "type")) && PySem.W.keepIn K (.ref C))))
theorem oexB_ok {K : PySem.W.Frag} {C : Addr} (h : oexB K C = true) : OexC K C := by
  obtain ⟨h1, h⟩ := He.ba h
  obtain ⟨h2, h⟩ := He.ba h
  obtain ⟨h3, h⟩ := He.ba h
  obtain ⟨h4, h5⟩ := He.ba h
  refine ⟨?_, of_decide_eq_true h2, of_decide_eq_true h3, of_decide_eq_true h4, h5⟩
  split at h1
  · rename_i dq cq qs ho
    split at h1
    · rename_i C2 bq q0 q1 q2 q3 nn q5 hm hs
      obtain ⟨g1, h1⟩ := He.ba h1
      obtain ⟨g2, h1⟩ := He.ba h1
      obtain ⟨g3, h1⟩ := He.ba h1
      obtain ⟨g4, g5⟩ := He.ba h1
      have e1 := of_decide_eq_true g1
      have e2 := of_decide_eq_true g2
      subst e1 e2
      obtain ⟨y1, y2, y3, y4, y5, y6, y7, y8, y9, y10, y11⟩ := cq
      dsimp only at hm g3 g4
      rw [Bool.not_eq_true'] at g4
      subst hm g3 g4
      have hq : qs = #[q0, q1, q2, q3, some (.builtin "ValueError.__new__"), q5] := by
        obtain ⟨ql⟩ := qs
        simp only at hs
        rw [hs]
      subst hq
      exact ⟨_, _, _, _, _, _, _, _, _, _, _, _, _, _, _, ho, g5⟩
    · cases h1
  · cases h1
/-- the class of refusals has an __init__ -/
def iniB (K : PySem.W.Frag) (C : Addr) (fld : Str) : Bool := oexB K C && (decide (PySem.W.findIn K (.ref C) "__init__" = some (some (.ref (He.ma K C "__init__")))) && (decide (PySem.W.typeIn K (.ref (He.ma K C "__init__")) = some (.type "function")) && decide (PySem.W.findIn K (.ref C) fld = some none)))
/-- the modules' dict stands in the written part -/
def sysB (K : PySem.W.Frag) : Bool := match K.lookup sysModules with
  | some ⟨.type "dict", _, _, _⟩ => true
  | _ => false
theorem sysB_ok {K : PySem.W.Frag} (h : sysB K = true) : SysM K := by
  unfold sysB at h
  split at h
  · rename_i e
    exact ⟨_, e, rfl⟩
  · cases h
def fn : List He.DefD := [dfn "is_whole" sWhole, dfn "is_whole_within" sWithin, dfn "is_truth" sTruth, dfn "are_wholes" sWholes, dfn "are_wholes_within" sAreWholesWithin, dfn "is_list_of_wholes" sListOf, dfn "need" sNeed, dfn "is_name" sIsName, dfn "is_one_of" sIsOneOf, dfn "all_reached" sAllReached, dfn "nodes_by_name" sNodesByName, dfn "check_wire" sCheckWire, dfn "wires_by_goal" sWiresByGoal, dfn "refuse_bare" sRefuseBare, dfn "wires_by_source" sWiresBySource, dfn "refuse_unfed" sRefuseUnfed, dfn "_law_pot" sPot, dfn "_law_take" sLTake, dfn "_law_name" sLName, dfn "_law_spec" sLSpec, dfn "_law_takes" sLTakes, dfn "_law_made" sLMade, dfn "_law_turned" sLTurned, dfn "_law_sources" sLSources, dfn "_law_pick" sLPick, dfn "_law_drawn" sLDrawn, dfn "_law_pairs" sLPairs, dfn "_law_gives" sLGives, dfn "_law_like" sLLike, dfn "_law_is" sLIs, dfn "_law_told" sLTold, dfn "_law_put_right" sLPutRight, dfn "_law_delayed_right" sLDelayedRight, dfn "law" sLaw, (⟨("Node", some "__init__"), "__init__", "Node.__init__", defArgs sNodeInit, defBody sNodeInit, defScope sNodeInit, [], []⟩ : He.DefD), (⟨("Gain", some "__init__"), "__init__", "Gain.__init__", defArgs sGainInit, defBody sGainInit, defScope sGainInit, [], [("late", .int 0), ("begin", .int 0)]⟩ : He.DefD), (⟨("Gain", some "takes"), "takes", "Gain.takes", defArgs sGainTakes, defBody sGainTakes, defScope sGainTakes, [], []⟩ : He.DefD), (⟨("Gain", some "__eq__"), "__eq__", "Gain.__eq__", defArgs sGainEq, defBody sGainEq, defScope sGainEq, [], []⟩ : He.DefD), (⟨("Mix", some "__init__"), "__init__", "Mix.__init__", defArgs sMixInit, defBody sMixInit, defScope sMixInit, [], [("late", .int 0), ("begin", .int 0)]⟩ : He.DefD), (⟨("Mix", some "takes"), "takes", "Mix.takes", defArgs sMixTakes, defBody sMixTakes, defScope sMixTakes, [], []⟩ : He.DefD), (⟨("Mix", some "__eq__"), "__eq__", "Mix.__eq__", defArgs sMixEq, defBody sMixEq, defScope sMixEq, [], []⟩ : He.DefD), (⟨("Times", some "__init__"), "__init__", "Times.__init__", defArgs sTimesInit, defBody sTimesInit, defScope sTimesInit, [], [("late", .int 0), ("begin", .int 0)]⟩ : He.DefD), (⟨("Times", some "takes"), "takes", "Times.takes", defArgs sTimesTakes, defBody sTimesTakes, defScope sTimesTakes, [], []⟩ : He.DefD), (⟨("Times", some "__eq__"), "__eq__", "Times.__eq__", defArgs sTimesEq, defBody sTimesEq, defScope sTimesEq, [], []⟩ : He.DefD), (⟨("Choose", some "__init__"), "__init__", "Choose.__init__", defArgs sChooseInit, defBody sChooseInit, defScope sChooseInit, [], [("late", .int 0), ("begin", .int 0)]⟩ : He.DefD), (⟨("Choose", some "takes"), "takes", "Choose.takes", defArgs sChooseTakes, defBody sChooseTakes, defScope sChooseTakes, [], []⟩ : He.DefD), (⟨("Choose", some "__eq__"), "__eq__", "Choose.__eq__", defArgs sChooseEq, defBody sChooseEq, defScope sChooseEq, [], []⟩ : He.DefD), (⟨("Up", some "__init__"), "__init__", "Up.__init__", defArgs sUpInit, defBody sUpInit, defScope sUpInit, [.bl false], [("late", .int 0), ("begin", .int 0)]⟩ : He.DefD), (⟨("Up", some "takes"), "takes", "Up.takes", defArgs sUpTakes, defBody sUpTakes, defScope sUpTakes, [], []⟩ : He.DefD), (⟨("Up", some "__eq__"), "__eq__", "Up.__eq__", defArgs sUpEq, defBody sUpEq, defScope sUpEq, [], []⟩ : He.DefD), (⟨("Down", some "__init__"), "__init__", "Down.__init__", defArgs sDownInit, defBody sDownInit, defScope sDownInit, [], [("late", .int 0), ("begin", .int 0)]⟩ : He.DefD), (⟨("Down", some "takes"), "takes", "Down.takes", defArgs sDownTakes, defBody sDownTakes, defScope sDownTakes, [], []⟩ : He.DefD), (⟨("Down", some "__eq__"), "__eq__", "Down.__eq__", defArgs sDownEq, defBody sDownEq, defScope sDownEq, [], []⟩ : He.DefD), (⟨("Resample", some "__init__"), "__init__", "Resample.__init__", defArgs sResampleInit, defBody sResampleInit, defScope sResampleInit, [], [("late", .int 0), ("begin", .int 0)]⟩ : He.DefD), (⟨("Resample", some "takes"), "takes", "Resample.takes", defArgs sResampleTakes, defBody sResampleTakes, defScope sResampleTakes, [], []⟩ : He.DefD), (⟨("Resample", some "__eq__"), "__eq__", "Resample.__eq__", defArgs sResampleEq, defBody sResampleEq, defScope sResampleEq, [], []⟩ : He.DefD), (⟨("Own", some "__init__"), "__init__", "Own.__init__", defArgs sOwnInit, defBody sOwnInit, defScope sOwnInit, [.adr ownT, .int 1, .int 0], [("late", .int 0), ("begin", .int 0)]⟩ : He.DefD), (⟨("Own", some "takes"), "takes", "Own.takes", defArgs sOwnTakes, defBody sOwnTakes, defScope sOwnTakes, [], []⟩ : He.DefD), (⟨("Own", some "__eq__"), "__eq__", "Own.__eq__", defArgs sOwnEq, defBody sOwnEq, defScope sOwnEq, [], []⟩ : He.DefD), (⟨("Outlet", some "__init__"), "__init__", "Outlet.__init__", defArgs sOutletInit, defBody sOutletInit, defScope sOutletInit, [], []⟩ : He.DefD), (⟨("Outlet", some "takes"), "takes", "Outlet.takes", defArgs sOutletTakes, defBody sOutletTakes, defScope sOutletTakes, [], []⟩ : He.DefD), (⟨("Outlet", some "__eq__"), "__eq__", "Outlet.__eq__", defArgs sOutletEq, defBody sOutletEq, defScope sOutletEq, [], []⟩ : He.DefD), (⟨("Inlet", some "__init__"), "__init__", "Inlet.__init__", defArgs sInletInit, defBody sInletInit, defScope sInletInit, [], []⟩ : He.DefD), (⟨("Inlet", some "takes"), "takes", "Inlet.takes", defArgs sInletTakes, defBody sInletTakes, defScope sInletTakes, [], []⟩ : He.DefD), (⟨("Inlet", some "__eq__"), "__eq__", "Inlet.__eq__", defArgs sInletEq, defBody sInletEq, defScope sInletEq, [], []⟩ : He.DefD), (⟨("Weave", some "__init__"), "__init__", "Weave.__init__", defArgs sWeaveInit, defBody sWeaveInit, defScope sWeaveInit, [], []⟩ : He.DefD), (⟨("Weave", some "names"), "names", "Weave.names", defArgs sWeaveNames, defBody sWeaveNames, defScope sWeaveNames, [], []⟩ : He.DefD), (⟨("Weave", some "wires"), "wires", "Weave.wires", defArgs sWeaveWires, defBody sWeaveWires, defScope sWeaveWires, [], []⟩ : He.DefD), (⟨("Weave", some "node"), "node", "Weave.node", defArgs sWeaveNode, defBody sWeaveNode, defScope sWeaveNode, [], []⟩ : He.DefD), (⟨("Weave", some "check_known"), "check_known", "Weave.check_known", defArgs sWeaveCheckKnown, defBody sWeaveCheckKnown, defScope sWeaveCheckKnown, [], []⟩ : He.DefD), (⟨("Weave", some "pairs"), "pairs", "Weave.pairs", defArgs sWeavePairs, defBody sWeavePairs, defScope sWeavePairs, [], []⟩ : He.DefD), (⟨("Weave", some "put"), "put", "Weave.put", defArgs sWeavePut, defBody sWeavePut, defScope sWeavePut, [], []⟩ : He.DefD), (⟨("Weave", some "delayed"), "delayed", "Weave.delayed", defArgs sWeaveDelayed, defBody sWeaveDelayed, defScope sWeaveDelayed, [], []⟩ : He.DefD), (⟨("Weave", some "__len__"), "__len__", "Weave.__len__", defArgs sWeaveLen, defBody sWeaveLen, defScope sWeaveLen, [], []⟩ : He.DefD), (⟨("NoNode", some "__init__"), "__init__", "NoNode.__init__", defArgs sNoNodeInit, defBody sNoNodeInit, defScope sNoNodeInit, [], []⟩ : He.DefD), (⟨("Unlike", some "__init__"), "__init__", "Unlike.__init__", defArgs sUnlikeInit, defBody sUnlikeInit, defScope sUnlikeInit, [], []⟩ : He.DefD), (⟨("NoDelay", some "__init__"), "__init__", "NoDelay.__init__", defArgs sNoDelayInit, defBody sNoDelayInit, defScope sNoDelayInit, [], []⟩ : He.DefD), (⟨("Gain", some "gives"), "gives", "Gain.gives", defArgs sGainGives, defBody sGainGives, defScope sGainGives, [], []⟩ : He.DefD), (⟨("Mix", some "gives"), "gives", "Mix.gives", defArgs sMixGives, defBody sMixGives, defScope sMixGives, [], []⟩ : He.DefD), (⟨("Times", some "gives"), "gives", "Times.gives", defArgs sTimesGives, defBody sTimesGives, defScope sTimesGives, [], []⟩ : He.DefD), (⟨("Choose", some "gives"), "gives", "Choose.gives", defArgs sChooseGives, defBody sChooseGives, defScope sChooseGives, [], []⟩ : He.DefD), (⟨("Up", some "gives"), "gives", "Up.gives", defArgs sUpGives, defBody sUpGives, defScope sUpGives, [], []⟩ : He.DefD), (⟨("Down", some "gives"), "gives", "Down.gives", defArgs sDownGives, defBody sDownGives, defScope sDownGives, [], []⟩ : He.DefD), (⟨("Resample", some "gives"), "gives", "Resample.gives", defArgs sResampleGives, defBody sResampleGives, defScope sResampleGives, [], []⟩ : He.DefD), (⟨("Own", some "gives"), "gives", "Own.gives", defArgs sOwnGives, defBody sOwnGives, defScope sOwnGives, [], []⟩ : He.DefD), (⟨("Outlet", some "gives"), "gives", "Outlet.gives", defArgs sOutletGives, defBody sOutletGives, defScope sOutletGives, [], []⟩ : He.DefD), (⟨("Inlet", some "gives"), "gives", "Inlet.gives", defArgs sInletGives, defBody sInletGives, defScope sInletGives, [], []⟩ : He.DefD)]
def fa1 : List He.Fa := [.glo "is_whole", .glo "is_whole_within", .glo "is_truth", .glo "are_wholes", .glo "are_wholes_within", .glo "is_list_of_wholes", .glo "need", .glo "is_name", .glo "is_one_of", .glo "all_reached", .glo "nodes_by_name", .glo "check_wire", .glo "wires_by_goal", .glo "refuse_bare", .glo "wires_by_source", .glo "refuse_unfed", .glo "_law_pot", .glo "_law_take", .glo "_law_name", .glo "_law_spec", .glo "_law_takes", .glo "_law_made", .glo "_law_turned", .glo "_law_sources", .glo "_law_pick", .glo "_law_drawn", .glo "_law_pairs", .glo "_law_gives", .glo "_law_like", .glo "_law_is", .glo "_law_told", .glo "_law_put_right", .glo "_law_delayed_right", .glo "law", .free "len", .free "max", .free "min", .free "range", .free "isinstance", .free "int", .free "bool", .free "list", .free "tuple", .free "str", .free "repr", .free "all", .free "divmod", .free "enumerate", .free "zip", .int "MOST_LATE" 99, .int "MOST_BEGIN" 9999, .int "MOST_MIXED" 8, .int "MOST_OWN_PLACES" 4, .int "MOST_OWN_SAMPLES" 8, .int "MOST_NODES" 24, .int "MOST_WIRES" 48, .int "MOST_DELAY" 9999, .int "MOST_TAPS" 12, .int "MOST_RATE" 8, .int "LONGEST_NAME" 8, .glo "Node", .glo "Weave", .glo "Gain", .glo "Mix", .glo "Times", .glo "Choose", .glo "Up", .glo "Down", .glo "Resample", .glo "Own", .glo "Outlet", .glo "Inlet", .glo "_law_deed", .glo "WeaveError", .glo "NoNode", .glo "Unlike", .glo "NoDelay", .glo "Unknown", .cls "Gain", .noat "Gain" "made", .noat "Gain" "late_by", .noat "Gain" "begin_at", .noat "Gain" "by", .mkr "Gain", .meth "Gain" "takes", .meth "Gain" "gives", .cls "Mix", .noat "Mix" "made", .noat "Mix" "late_by", .noat "Mix" "begin_at", .noat "Mix" "many", .mkr "Mix", .meth "Mix" "takes", .meth "Mix" "gives", .cls "Times", .noat "Times" "made", .noat "Times" "late_by", .noat "Times" "begin_at", .mkr "Times", .meth "Times" "takes", .meth "Times" "gives", .cls "Choose", .noat "Choose" "made", .noat "Choose" "late_by", .noat "Choose" "begin_at", .mkr "Choose", .meth "Choose" "takes", .meth "Choose" "gives", .cls "Up", .noat "Up" "made", .noat "Up" "late_by", .noat "Up" "begin_at", .noat "Up" "many", .noat "Up" "hold", .mkr "Up", .meth "Up" "takes", .meth "Up" "gives", .cls "Down", .noat "Down" "made", .noat "Down" "late_by", .noat "Down" "begin_at", .noat "Down" "many", .mkr "Down", .meth "Down" "takes", .meth "Down" "gives", .cls "Resample", .noat "Resample" "made", .noat "Resample" "late_by", .noat "Resample" "begin_at", .noat "Resample" "up", .noat "Resample" "down", .noat "Resample" "numbers", .mkr "Resample", .meth "Resample" "takes", .meth "Resample" "gives", .cls "Own", .noat "Own" "made", .noat "Own" "late_by", .noat "Own" "begin_at", .noat "Own" "deed", .noat "Own" "taken", .noat "Own" "given", .noat "Own" "first", .mkr "Own", .meth "Own" "takes", .meth "Own" "gives", .cls "Outlet", .noat "Outlet" "made", .noat "Outlet" "late_by", .noat "Outlet" "begin_at", .mkr "Outlet", .meth "Outlet" "takes", .meth "Outlet" "gives", .cls "Inlet", .noat "Inlet" "made", .noat "Inlet" "late_by", .noat "Inlet" "begin_at", .mkr "Inlet", .meth "Inlet" "takes", .meth "Inlet" "gives", .cls "Weave", .noat "Weave" "named", .noat "Weave" "leading", .noat "Weave" "laid", .noat "Weave" "leaving", .mkr "Weave", .meth "Weave" "names", .meth "Weave" "wires", .meth "Weave" "node", .meth "Weave" "check_known"]
def fa2 : List He.Fa := [.meth "Weave" "pairs", .meth "Weave" "put", .meth "Weave" "delayed", .str "LETTERS" "abcdefghijklmnopqrstuvwxyz"]
def fa : List He.Fa := fa1 ++ fa2
def ex (K : PySem.W.Frag) : Bool := insB K (He.ga K "Gain") (He.ga K "Node") && (insB K (He.ga K "Gain") (He.ga K "Gain") && (kitF K (.ref (He.ga K "Gain")) (.ref (He.ga K "Outlet")) false && (kitF K (.ref (He.ga K "Gain")) (.ref (He.ga K "Inlet")) false && (eqB K (He.ga K "Gain") "__eq__" && (insB K (He.ga K "Mix") (He.ga K "Node") && (insB K (He.ga K "Mix") (He.ga K "Mix") && (kitF K (.ref (He.ga K "Mix")) (.ref (He.ga K "Outlet")) false && (kitF K (.ref (He.ga K "Mix")) (.ref (He.ga K "Inlet")) false && (eqB K (He.ga K "Mix") "__eq__" && (insB K (He.ga K "Times") (He.ga K "Node") && (insB K (He.ga K "Times") (He.ga K "Times") && (kitF K (.ref (He.ga K "Times")) (.ref (He.ga K "Outlet")) false && (kitF K (.ref (He.ga K "Times")) (.ref (He.ga K "Inlet")) false && (eqB K (He.ga K "Times") "__eq__" && (insB K (He.ga K "Choose") (He.ga K "Node") && (insB K (He.ga K "Choose") (He.ga K "Choose") && (kitF K (.ref (He.ga K "Choose")) (.ref (He.ga K "Outlet")) false && (kitF K (.ref (He.ga K "Choose")) (.ref (He.ga K "Inlet")) false && (eqB K (He.ga K "Choose") "__eq__" && (insB K (He.ga K "Up") (He.ga K "Node") && (insB K (He.ga K "Up") (He.ga K "Up") && (kitF K (.ref (He.ga K "Up")) (.ref (He.ga K "Outlet")) false && (kitF K (.ref (He.ga K "Up")) (.ref (He.ga K "Inlet")) false && (eqB K (He.ga K "Up") "__eq__" && (insB K (He.ga K "Down") (He.ga K "Node") && (insB K (He.ga K "Down") (He.ga K "Down") && (kitF K (.ref (He.ga K "Down")) (.ref (He.ga K "Outlet")) false && (kitF K (.ref (He.ga K "Down")) (.ref (He.ga K "Inlet")) false && (eqB K (He.ga K "Down") "__eq__" && (insB K (He.ga K "Resample") (He.ga K "Node") && (insB K (He.ga K "Resample") (He.ga K "Resample") && (kitF K (.ref (He.ga K "Resample")) (.ref (He.ga K "Outlet")) false && (kitF K (.ref (He.ga K "Resample")) (.ref (He.ga K "Inlet")) false && (eqB K (He.ga K "Resample") "__eq__" && (insB K (He.ga K "Own") (He.ga K "Node") && (insB K (He.ga K "Own") (He.ga K "Own") && (kitF K (.ref (He.ga K "Own")) (.ref (He.ga K "Outlet")) false && (kitF K (.ref (He.ga K "Own")) (.ref (He.ga K "Inlet")) false && (eqB K (He.ga K "Own") "__eq__" && (insB K (He.ga K "Outlet") (He.ga K "Node") && (insB K (He.ga K "Outlet") (He.ga K "Outlet") && (kitF K (.ref (He.ga K "Outlet")) (.ref (He.ga K "Outlet")) true && (kitF K (.ref (He.ga K "Outlet")) (.ref (He.ga K "Inlet")) false && (eqB K (He.ga K "Outlet") "__eq__" && (insB K (He.ga K "Inlet") (He.ga K "Node") && (insB K (He.ga K "Inlet") (He.ga K "Inlet") && (kitF K (.ref (He.ga K "Inlet")) (.ref (He.ga K "Outlet")) false && (kitF K (.ref (He.ga K "Inlet")) (.ref (He.ga K "Inlet")) true && (eqB K (He.ga K "Inlet") "__eq__" && (eqB K (He.ga K "Weave") "__len__" && (iniB K (He.ga K "NoNode") "field" && (excB K (He.ga K "NoNode") && (decide (PySem.W.exmOne K (.ref (He.ga K "NoNode")) (.ref (He.ga K "WeaveError")) = some true) && (xfB K (He.ga K "NoNode") && (kitF K (.ref (He.ga K "NoNode")) (.ref (He.ga K "NoNode")) true && (kitF K (.ref (He.ga K "NoNode")) (.ref (He.ga K "Unlike")) false && (kitF K (.ref (He.ga K "NoNode")) (.ref (He.ga K "NoDelay")) false && (kitF K (.ref (He.ga K "NoNode")) (.ref (He.ga K "Unknown")) false && (iniB K (He.ga K "Unlike") "who" && (excB K (He.ga K "Unlike") && (decide (PySem.W.exmOne K (.ref (He.ga K "Unlike")) (.ref (He.ga K "WeaveError")) = some true) && (xfB K (He.ga K "Unlike") && (kitF K (.ref (He.ga K "Unlike")) (.ref (He.ga K "NoNode")) false && (kitF K (.ref (He.ga K "Unlike")) (.ref (He.ga K "Unlike")) true && (kitF K (.ref (He.ga K "Unlike")) (.ref (He.ga K "NoDelay")) false && (kitF K (.ref (He.ga K "Unlike")) (.ref (He.ga K "Unknown")) false && (iniB K (He.ga K "NoDelay") "wire" && (excB K (He.ga K "NoDelay") && (decide (PySem.W.exmOne K (.ref (He.ga K "NoDelay")) (.ref (He.ga K "WeaveError")) = some true) && (xfB K (He.ga K "NoDelay") && (kitF K (.ref (He.ga K "NoDelay")) (.ref (He.ga K "NoNode")) false && (kitF K (.ref (He.ga K "NoDelay")) (.ref (He.ga K "Unlike")) false && (kitF K (.ref (He.ga K "NoDelay")) (.ref (He.ga K "NoDelay")) true && (kitF K (.ref (He.ga K "NoDelay")) (.ref (He.ga K "Unknown")) false && (kitF K (.type "NoneType") (.ref (He.ga K "Node")) false && (kitF K (.type "int") (.ref (He.ga K "Node")) false && (kitF K (.type "str") (.ref (He.ga K "Node")) false && (kitF K (.type "tuple") (.ref (He.ga K "Node")) false && (kitF K (.type "list") (.ref (He.ga K "Node")) false && (kitF K (.type "dict") (.ref (He.ga K "Node")) false && (kitF K (.type "bool") (.ref (He.ga K "Node")) false && (baseB K (He.ga K "Node") (He.ma K (He.ga K "Node") "__init__") "__init__"))))))))))))))))))))))))))))))))))))))))))))))))))))))))))))))))))))))))))))))))))
abbrev R : PySem.W.OpenRow := PySem.W.OpenLaw.row PySem.Challenge.rw_sampleweave_k24_put_and_delayed
def asL : List Nat := [3, 6, 4, 21, 31, 51, 63, 82, 101, 120, 139, 158, 177, 196, 215, 234, 243, 250, 257, 262, 267, 274, 281, 286, 293, 364, 427, 488, 592, 682, 772, 862, 954, 961, 968, 975, 980, 987, 992, 997, 1097, 1190, 1280, 1377, 1386, 1393, 1398, 1403, 1410, 1417, 1424, 1431, 1438, 1443, 1450, 1455, 1460, 1467, 1472, 1479, 1484, 1489, 1496, 0, 20, 30, 50, 62, 81, 100, 119, 138, 157, 176, 195, 214, 233, 242, 249, 256, 261, 266, 273, 280, 285, 292, 363, 426, 487, 591, 681, 771, 861, 953, 960, 967, 974, 979, 986, 991, 996, 1096, 1189, 1279, 1376, 1385, 1392, 1397, 1402, 1409, 1416, 1423, 1430, 1437, 1442, 1449, 1454, 1459, 1466, 1471, 1478, 1483, 1488, 1495, 15, 16, 17, 18, 19, 29, 32, 48, 49, 61, 79, 80, 98, 99, 117, 118, 136, 137, 155, 156, 174, 175, 193, 194, 212, 213, 231, 232, 237, 238, 239, 240, 241, 244, 245, 246, 247, 248, 251, 252, 253, 254, 255, 258, 259, 260, 263, 264, 265, 268, 269, 270, 271, 272, 275, 276, 277, 278, 279, 282, 283, 284, 287, 288, 289, 290, 291, 307, 314, 321, 328, 335, 342, 349, 356, 361, 362, 365, 366, 382, 389, 396, 403, 410, 417, 424, 425, 443, 450, 457, 464, 471, 478, 485, 486, 505, 512, 519, 526, 533, 540, 547, 554, 561, 568, 575, 582, 589, 590, 609, 616, 623, 630, 637, 644, 651, 658, 665, 672, 679, 680, 699, 706, 713, 720, 727, 734, 741, 748, 755, 762, 769, 770, 789, 796, 803, 810, 817, 824, 831, 838, 845, 852, 859, 860, 881, 888, 895, 902, 909, 916, 923, 930, 937, 944, 951, 952, 957, 958, 959, 962, 963, 964, 965, 966, 969, 970, 971, 972, 973, 976, 977, 978, 981, 982, 983, 984, 985, 988, 989, 990, 993, 994, 995, 1009, 1016, 1023, 1030, 1037, 1044, 1051, 1058, 1063, 1068, 1073, 1080, 1087, 1094, 1095, 1098, 1099, 1117, 1124, 1131, 1138, 1145, 1152, 1159, 1166, 1173, 1180, 1187, 1188, 1207, 1214, 1221, 1228, 1235, 1242, 1249, 1256, 1263, 1270, 1277, 1278, 1297, 1304, 1311, 1318, 1325, 1332, 1339, 1346, 1353, 1360, 1367, 1374, 1375, 1380, 1381, 1382, 1383, 1384, 1387, 1388, 1389, 1390, 1391, 1394, 1395, 1396, 1399, 1400, 1401, 1404, 1405, 1406, 1407, 1408, 1411, 1412, 1413, 1414, 1415, 1418, 1419, 1420, 1421, 1422, 1425, 1426, 1427, 1428, 1429, 1432, 1433, 1434, 1435, 1436, 1439, 1440, 1441, 1444, 1445, 1446, 1447, 1448, 1451, 1452, 1453, 1456, 1457, 1458, 1461, 1462, 1463, 1464, 1465, 1468, 1469, 1470, 1473, 1474, 1475, 1476, 1477, 1480, 1481, 1482, 1485, 1486, 1487, 1490, 1491, 1492, 1493, 1494, 47, 78, 97, 116, 135, 154, 173, 192, 211, 230, 306, 313, 320, 327, 334, 341, 348, 355, 360, 381, 388, 395, 402, 409, 416, 423, 442, 449, 456, 463, 470, 477, 484, 504, 498, 511, 518, 525, 532, 539, 546, 553, 560, 567, 574, 581, 588, 608, 602, 615, 622, 629, 636, 643, 650, 657, 664, 671, 678, 698, 692, 705, 712, 719, 726, 733, 740, 747, 754, 761, 768, 788, 782, 795, 802, 809, 816, 823, 830, 837, 844, 851, 858, 880, 873, 874, 887, 894, 901, 908, 915, 922, 929, 936, 943, 950, 1008, 1015, 1022, 1029, 1036, 1043, 1050, 1057, 1062, 1067, 1072, 1079, 1086, 1093, 1116, 1109, 1110, 1123, 1130, 1137, 1144, 1151, 1158, 1165, 1172, 1179, 1186, 1206, 1200, 1213, 1220, 1227, 1234, 1241, 1248, 1255, 1262, 1269, 1276, 1296, 1290, 1303, 1310, 1317, 1324, 1331, 1338, 1345, 1352, 1359, 1366, 1373, 42, 43, 44, 45, 46, 73, 74, 75, 76, 77, 92, 93, 94, 95, 96, 111, 112, 113, 114, 115, 130, 131, 132, 133, 134, 149, 150, 151, 152, 153, 168, 169, 170, 171, 172, 187, 188, 189, 190, 191, 206, 207, 208, 209, 210, 225, 226, 227, 228, 229, 301, 302, 303, 304, 305, 308, 309, 310, 311, 312, 315, 316, 317, 318, 319, 322, 323, 324, 325, 326, 329, 330, 331, 332, 333, 336, 337, 338, 339, 340, 343, 344, 345, 346, 347, 350, 351, 352, 353, 354, 357, 358, 359, 376, 377, 378, 379, 380, 383, 384, 385, 386, 387, 390, 391, 392, 393, 394, 397, 398, 399, 400, 401, 404, 405, 406, 407, 408, 411, 412, 413, 414, 415, 418, 419, 420, 421, 422, 437, 438, 439, 440, 441, 444, 445, 446, 447, 448, 451, 452, 453, 454, 455, 458, 459, 460, 461, 462, 465, 466, 467, 468, 469, 472, 473, 474, 475, 476, 479, 480, 481, 482, 483, 499, 500, 501, 502, 503, 506, 507, 508, 509, 510, 513, 514, 515, 516, 517, 520, 521, 522, 523, 524, 527, 528, 529, 530, 531, 534, 535, 536, 537, 538, 541, 542, 543, 544, 545, 548, 549, 550, 551, 552, 555, 556, 557, 558, 559, 562, 563, 564, 565, 566, 569, 570, 571, 572, 573, 576, 577, 578, 579, 580, 583, 584, 585, 586, 587, 603, 604, 605, 606, 607, 610, 611, 612, 613, 614, 617, 618, 619, 620, 621, 624, 625, 626, 627, 628, 631, 632, 633, 634, 635, 638, 639, 640, 641, 642, 645, 646, 647, 648, 649, 652, 653, 654, 655, 656, 659, 660, 661, 662, 663, 666, 667, 668, 669, 670, 673, 674, 675, 676, 677, 693, 694, 695, 696, 697, 700, 701, 702, 703, 704, 707, 708, 709, 710, 711, 714, 715, 716, 717, 718, 721, 722, 723, 724, 725, 728, 729, 730, 731, 732, 735, 736, 737, 738, 739, 742, 743, 744, 745, 746, 749, 750, 751, 752, 753, 756, 757, 758, 759, 760, 763, 764, 765, 766, 767, 783, 784, 785, 786, 787, 790, 791, 792, 793, 794, 797, 798, 799, 800, 801, 804, 805, 806, 807, 808, 811, 812, 813, 814, 815, 818, 819, 820, 821, 822, 825, 826, 827, 828, 829, 832, 833, 834, 835, 836, 839, 840, 841, 842, 843, 846, 847, 848, 849, 850, 853, 854, 855, 856, 857, 875, 876, 877, 878, 879, 872, 882, 883, 884, 885, 886, 889, 890, 891, 892, 893, 896, 897, 898, 899, 900, 903, 904, 905, 906, 907, 910, 911, 912, 913, 914, 917, 918, 919, 920, 921, 924, 925, 926, 927, 928, 931, 932, 933, 934, 935, 938, 939, 940, 941, 942, 945, 946, 947, 948, 949, 1005, 1006, 1007, 1010, 1011, 1012, 1013, 1014, 1017, 1018, 1019, 1020, 1021, 1024, 1025, 1026, 1027, 1028, 1031, 1032, 1033, 1034, 1035, 1038, 1039, 1040, 1041, 1042, 1045, 1046, 1047, 1048, 1049, 1052, 1053, 1054, 1055, 1056, 1059, 1060, 1061, 1064, 1065, 1066, 1069, 1070, 1071, 1074, 1075, 1076, 1077, 1078, 1081, 1082, 1083, 1084, 1085, 1088, 1089, 1090, 1091, 1092, 1111, 1112, 1113, 1114, 1115, 1118, 1119, 1120, 1121, 1122, 1125, 1126, 1127, 1128, 1129, 1132, 1133, 1134, 1135, 1136, 1139, 1140, 1141, 1142, 1143, 1146, 1147, 1148, 1149, 1150, 1153, 1154, 1155, 1156, 1157, 1160, 1161, 1162, 1163, 1164, 1167, 1168, 1169, 1170, 1171, 1174, 1175, 1176, 1177, 1178, 1181, 1182, 1183, 1184, 1185, 1201, 1202, 1203, 1204, 1205, 1208, 1209, 1210, 1211, 1212, 1215, 1216, 1217, 1218, 1219, 1222, 1223, 1224, 1225, 1226, 1229, 1230, 1231, 1232, 1233, 1236, 1237, 1238, 1239, 1240, 1243, 1244, 1245, 1246, 1247, 1250, 1251, 1252, 1253, 1254, 1257, 1258, 1259, 1260, 1261, 1264, 1265, 1266, 1267, 1268, 1271, 1272, 1273, 1274, 1275, 1291, 1292, 1293, 1294, 1295, 1298, 1299, 1300, 1301, 1302, 1305, 1306, 1307, 1308, 1309, 1312, 1313, 1314, 1315, 1316, 1319, 1320, 1321, 1322, 1323, 1326, 1327, 1328, 1329, 1330, 1333, 1334, 1335, 1336, 1337, 1340, 1341, 1342, 1343, 1344, 1347, 1348, 1349, 1350, 1351, 1354, 1355, 1356, 1357, 1358, 1361, 1362, 1363, 1364, 1365, 1368, 1369, 1370, 1371, 1372, 1]
abbrev hk : PySem.W.Hook := hookXL (cStatics :: asL) fa fn ex
def ob (s : PySem.W.SharedT) : Bool × He.AlD := obsXL (cStatics :: asL) fa fn ex (HandSHeadRun.getT s)
theorem ob_eq (s : PySem.W.SharedT) : ob s = hk.obs s.abs := obsXL_eq (HandSHeadRun.getT_eq s)
def loose : List Str := (["_wall", "WeaveError", "NoNode", "TooMany", "NoName", "Twice", "Unknown", "NoPlace", "NoDelay", "Taken", "Bare", "Unfed", "Unlike", "LETTERS", "LONGEST_NAME", "is_whole"] : List Str) ++ (["is_whole_within", "is_truth", "are_wholes", "are_wholes_within", "is_list_of_wholes", "need", "is_name", "is_one_of", "MOST_LATE", "MOST_BEGIN", "MOST_MIXED", "MOST_OWN_PLACES", "MOST_OWN_SAMPLES", "Node", "Inlet", "Outlet"] : List Str) ++ (["Gain", "Mix", "Times", "Choose", "Own", "all_reached", "MOST_NODES", "MOST_WIRES", "MOST_DELAY", "nodes_by_name", "check_wire", "wires_by_goal", "refuse_bare", "wires_by_source", "refuse_unfed", "Weave"] : List Str) ++ (["MOST_TAPS", "MOST_RATE", "Up", "Down", "Resample", "_law_pot", "_law_take", "_law_name", "_law_spec", "_law_takes", "_law_gives", "_law_deed", "_law_made", "_law_turned", "_law_sources", "_law_pick"] : List Str) ++ (["_law_drawn", "_law_pairs", "_law_like", "_law_is", "_law_told", "_law_put_right", "_law_delayed_right"] : List Str)
theorem run0 (w : World) : HandSHeadRun.RunEq R (PySem.W.view R.prog [78]) (hookXL (cStatics :: asL) [] [] (fun _ => true)) (fun s => obsXL (cStatics :: asL) [] [] (fun _ => true) (HandSHeadRun.getT s)) 30000 loose w := by
  intro os
  kernel_rfl
theorem run1 (w : World) (os : OsState) : (HandSHeadRun.endF (HandSHeadRun.stepQ (HandSHeadRun.denQ HandSHeadRun.tabQ) R.prog w) 30000 R.prog w os).map (fun s => ex (He.frG (HandSHeadRun.getT s) (cStatics :: asL))) = some true := by
  kernel_rfl
theorem run2 (w : World) (os : OsState) : (HandSHeadRun.endF (HandSHeadRun.stepQ (HandSHeadRun.denQ HandSHeadRun.tabQ) R.prog w) 30000 R.prog w os).map (fun s => fa1.all fun f => f.ok (He.frG (HandSHeadRun.getT s) (cStatics :: asL))) = some true := by
  kernel_rfl
theorem run3 (w : World) (os : OsState) : (HandSHeadRun.endF (HandSHeadRun.stepQ (HandSHeadRun.denQ HandSHeadRun.tabQ) R.prog w) 30000 R.prog w os).map (fun s => fa2.all fun f => f.ok (He.frG (HandSHeadRun.getT s) (cStatics :: asL))) = some true := by
  kernel_rfl
theorem run4 (w : World) (os : OsState) : (HandSHeadRun.endF (HandSHeadRun.stepQ (HandSHeadRun.denQ HandSHeadRun.tabQ) R.prog w) 30000 R.prog w os).map (fun s => (fn.all fun d => d.ok (He.frG (HandSHeadRun.getT s) (cStatics :: asL)), fn.map fun d => He.fnW (He.frG (HandSHeadRun.getT s) (cStatics :: asL)) d.at_)) = some (true, fn.map He.DefD.val) := by
  kernel_rfl
theorem run (w : World) : HandSHeadRun.RunEq R (PySem.W.view R.prog [78]) hk ob 30000 loose w := run_parts (r := R) (fa1 := fa1) (fa2 := fa2) (run0 w) (run1 w) (run2 w) (run3 w) (run4 w)
end Sw
namespace Sw
open PySem PySem.Spec PyProof.Rows L2
/-! ### names -/
abbrev letters : Str := "abcdefghijklmnopqrstuvwxyz"
def NmOk (x : Str) : Prop := 1 ≤ x.length ∧ x.length ≤ 8 ∧ ∀ c ∈ x.cps.toList, c ∈ letters.cps.toList
theorem iteT_ {p : Bool} {a b : Prop} (h : p = true) (x : a) : if p = true then a else b := by
  rw [if_pos h]
  exact x
theorem iteF_ {p : Bool} {a b : Prop} (h : p = false) (x : b) : if p = true then a else b := by
  rw [if_neg (by rw [h]; decide)]
  exact x
def spName : Sp := fun vs H Q _ => ∃ x : Str, vs = [.str x] ∧ NmOk x ∧ ∀ H', Same H H' → Q (.bl true) H'
section
variable {P : Program} {w : World} {K : PySem.W.Frag} {mg : Str → Option Value} {base : Heap} {f f1 f2 f3 f4 f5 f6 f7 f8 f9 C CN CO CI CW : Addr} {fd fd1 fd2 fd3 fd4 fd5 fd6 fd7 fd8 fd9 : FuncData}
abbrev nIsName : List Str := ["thing", "letter"]
theorem scIsName : FnScope nIsName ["thing"] (defScope sIsName) := ⟨rfl, rfl, rfl, by decide +kernel, rfl, by decide +kernel, by decide +kernel⟩
theorem ok_isName (F : FnP K "is_name" sIsName f fd) (gLE : ∃ t, mg "LETTERS" = some (.str letters t)) (gLO : ∃ t, mg "LONGEST_NAME" = some (.int 8 t)) (gIs : mg "isinstance" = none) (gStr : mg "str" = none) (gLen : mg "len" = none) (gAll : mg "all" = none) : FnOk P w K mg base CX0 1 f fd ["thing"] spName := by
  obtain ⟨tL, gLO⟩ := gLO
  obtain ⟨tE, gLE⟩ := gLE
  refine F.ok scIsName (fun vs H Q E h => ?_) (fun cdv A outer s H vs Q E hr h => ?_)
  · obtain ⟨x, rfl, _⟩ := h
    rfl
  · obtain ⟨x, rfl, ⟨x1, x8, xl⟩, kk⟩ := h
    have nd := scIsName.nd
    refine ⟨_, PSs.nox (pss_cons (ps_if (PW.pt (pw_or (pt_not (pt_val (pe_callB call_isi (by rfl) gIs boot_isinstance (pa_cons (pv 0) (pa_cons (pe_bltn (v := .ty "str") rfl gStr PyProof.Rows.boot_str rfl) pa_nil))))) (pw_or1 (pt_not (pt_chain op_le op_le pe_int (pe_callB call_len_str (by rfl) gLen PySem.boot_len (pa_cons (pv 0) pa_nil)) (pe_glob (v := .int 8) rfl gLO ⟨_, rfl⟩)))))) (pss_one (ps_ret pe_bl)) pss_nil)
      (pss_one (ps_ret (pe_callB (cr_all rfl) (by rfl) gAll (by decide +kernel) (pa_cons (pe_lc (own := [("letter", 1)]) (g := (gName 1)) (tt := tYes) rfl nd (pi_str (pv 0)) (blkOk_by (N := nIsName) (sc := defScope sIsName) (by decide +kernel))
        (fun _ _ _ _ _ => (pg_name (i := 1) nd rfl (Or.inl rfl))) (fun _ _ _ _ _ => pts_nil) (fun _ _ _ _ _ => (pe_cmpR op_in_sign (pv 1) (pe_glob (v := .str letters) rfl gLE ⟨_, rfl⟩) rfl))) pa_nil))))), ?_⟩
    refine ⟨_, rfl, _, _, _, _, true, rfl, ClsV.ty _, TyX.base (TyOf.str x), kit_ty (by decide +kernel), _, rfl, iteF ?_⟩
    refine ⟨_, rfl, x, rfl, ?_, _, _, rfl, rfl, _, rfl, iteT_ (decide_eq_true (by omega)) ?_⟩
    · exact Nat.le_trans x8 (by decide)
    refine ⟨_, _, rfl, rfl, _, rfl, iteF_ ?_ ?_⟩
    · show (!decide _) = false
      rw [decide_eq_true (by omega)]
      rfl
    refine ⟨_, rfl, x, rfl, fun D hD => ?_⟩
    refine lc_it (walk_str (z := x)) (fun j H' => H' D = some (.lst ((List.replicate j true).map V.bl)) ∧ Same H H') ⟨upd_same, Same.past (Same.refl _) hD⟩ (fun _ _ _ _ => trivial) (fun j v H' H'' hj e y => ?_) (fun H' e => ?_)
    · obtain ⟨hd, s2⟩ := e
      obtain ⟨rfl, c, ec, rfl⟩ := y
      refine ⟨rfl, ?_⟩
      refine yes_ite ?_
      refine ⟨_, rfl, c, _, rfl, rfl, _, hd, ?_, ?_, Same.past s2 hD⟩
      · rw [List.length_map, List.length_replicate]
        exact Nat.lt_of_lt_of_le hj (Nat.le_trans x8 (by decide))
      · have cm : c ∈ x.cps.toList := by
          rw [← Array.getElem?_toList] at ec
          exact List.mem_of_getElem? ec
        rw [decide_eq_true (xl c cm), List.replicate_succ', List.map_append]
        exact upd_same
    · obtain ⟨hd, s2⟩ := e
      refine ⟨D, _, rfl, SqL.of hd, ?_⟩
      rw [all_true]
      exact kk _ s2
end
end Sw
namespace Sw
open PySem PySem.Spec PyProof.Rows L2
/-! ### sorts of nodes, as a weave sees them -/
structure Sorts (K : PySem.W.Frag) (CN CO CI : Addr) where
  α : Type
  As : List α
  cl : α → Addr
  at_ : α → Addr → List Nat → Hp → Prop
  out : α → Bool
  inl : α → Bool
  ins : ∀ A a ts H, at_ A a ts H → ∃ dx fs, H a = some (.ins (cl A) dx fs) ∧ fs.lookup ("takes" : Str) = none
  keep : ∀ A a ts H H1, Same H H1 → at_ A a ts H → at_ A a ts H1
  few : ∀ A a ts H, at_ A a ts H → ts.length ≤ 8
  dict : ∀ A a ts (H : Hp) (d : Addr) (kvs : List (Key × V)) (o : HO), H d = some (.dK kvs) → at_ A a ts H → at_ A a ts (L2.upd H d o)
  cls : ∀ A, A ∈ As → Cls K (cl A)
  isN : ∀ A, A ∈ As → InsC K (cl A) CN
  isO : ∀ A, A ∈ As → PySem.W.kitOne K (.ref (cl A)) (.ref CO) = some (out A)
  isI : ∀ A, A ∈ As → PySem.W.kitOne K (.ref (cl A)) (.ref CI) = some (inl A)
/-- what is known of a node: what it takes, whether it is an outlet, an inlet -/
structure NInf where
  ts : List Nat
  out : Bool
  inl : Bool
def NodeIn {K : PySem.W.Frag} {CN CO CI : Addr} (S : Sorts K CN CO CI) (a : Addr) (i : NInf) (H : Hp) : Prop := ∃ A, A ∈ S.As ∧ S.at_ A a i.ts H ∧ S.out A = i.out ∧ S.inl A = i.inl
theorem NodeIn.keep {K : PySem.W.Frag} {CN CO CI : Addr} {S : Sorts K CN CO CI} {a : Addr} {i : NInf} {H H1 : Hp} (h : NodeIn S a i H) (s : Same H H1) : NodeIn S a i H1 := by
  obtain ⟨A, h1, h2, h3, h4⟩ := h
  exact ⟨A, h1, S.keep A a _ _ _ s h2, h3, h4⟩
theorem NodeIn.dict {K : PySem.W.Frag} {CN CO CI : Addr} {S : Sorts K CN CO CI} {a d : Addr} {i : NInf} {H : Hp} {kvs : List (Key × V)} {o : HO} (h : NodeIn S a i H) (e : H d = some (.dK kvs)) : NodeIn S a i (L2.upd H d o) := by
  obtain ⟨A, h1, h2, h3, h4⟩ := h
  exact ⟨A, h1, S.dict A a _ _ _ _ _ e h2, h3, h4⟩
/-! ### a dict locked for a while -/
theorem unlock {H H' : Hp} {d : Addr} {u : HO} {od : Obj} (e : H d = some u) (s : Same (L2.upd H d (.frz od u)) H') : Same H (L2.upd H' d u) := fun b o h => by
  by_cases z : b = d
  · rw [z] at h ⊢
    rw [e] at h
    rw [← h]
    exact upd_same
  · rw [upd_ne z]
    exact s b o (by rw [upd_ne z]; exact h)
theorem lock_ne {H : Hp} {d b : Addr} {kvs : List (Key × V)} {x o : HO} (e : H d = some (.dK kvs)) (h : H b = some o) (n : ∀ ks, o ≠ .dK ks) : L2.upd H d x b = some o := by
  rw [upd_ne (fun z => by rw [z, e] at h; exact n kvs (Option.some.inj h).symm)]
  exact h
theorem lock_tup {K : PySem.W.Frag} {H : Hp} {d q : Addr} {kvs : List (Key × V)} {x : HO} {xs : List V} (e : H d = some (.dK kvs)) (h : SqT K H q xs) : SqT K (L2.upd H d x) q xs := by
  rcases h with (h | ⟨o, h⟩) | h
  · exact .inl (.inl (lock_ne e h (fun _ z => by cases z)))
  · exact .inl (.inr ⟨o, lock_ne e h (fun _ z => by cases z)⟩)
  · exact .inr h
/-- a dict comprehension over a walk -/
theorem dc_it {J : It} {n : Nat} {G : Hp → Prop} {Y : Nat → Hp → V → Hp → Prop} (w : Walk J n G Y) {g : TG} {tt : TT} {tk tv : TE} {vs : List Nat} {σ : L2.St} {H1 : Hp} {D : Addr} {Qd : Hp → Prop} (Pv : Nat → Hp → Prop)
    (h0 : Pv 0 (L2.upd H1 D (.dK []))) (hG : ∀ i H, i ≤ n → Pv i H → G H)
    (hs : ∀ i x H H', i < n → Pv i H → Y i H x H' → g x (wipe σ vs) H' fun σ2 H2 => wipe σ2 vs = wipe σ vs ∧ tt σ2 H2 fun b H3 =>
      (if b = true then tk σ2 H3 fun y H4 => tv σ2 H4 fun z H5 => ∃ kvs k, y = kV k ∧ H5 D = some (.dK kvs) ∧ kvs.length < sizeLine ∧ Pv (i + 1) (L2.upd H5 D (.dK (putK kvs k z))) else Pv (i + 1) H3)) (hd : ∀ H, Pv n H → Qd H) :
    ∃ W : Nat → Nat → Hp → Prop, (∃ m, W 0 m (L2.upd H1 D (.dK []))) ∧ ∀ i m H, W i m H →
      ((J.stop i H ∧ Qd H) ∨ (J.go i H ∧ ∃ Nx : Hp → Prop, (∀ H', Nx H' → ∃ m', m' < m ∧ W (i + 1) m' H') ∧ ∀ x H', J.yld i H x H' → g x (wipe σ vs) H' fun σ2 H2 => wipe σ2 vs = wipe σ vs ∧ tt σ2 H2 fun b H3 =>
        (if b = true then tk σ2 H3 fun y H4 => tv σ2 H4 fun z H5 => ∃ kvs k, y = kV k ∧ H5 D = some (.dK kvs) ∧ kvs.length < sizeLine ∧ Nx (L2.upd H5 D (.dK (putK kvs k z))) else Nx H3))) := by
  refine ⟨fun i m H => (i ≤ n ∧ m = n - i) ∧ Pv i H, ⟨n, ⟨Nat.zero_le _, by simp⟩, h0⟩, ?_⟩
  rintro i m H ⟨⟨hi, rfl⟩, p⟩
  have q := hG i H hi p
  by_cases hlt : i < n
  · exact .inr ⟨w.goes i H hlt q, Pv (i + 1), fun H' p' => ⟨n - (i + 1), by omega, ⟨hlt, rfl⟩, p'⟩, fun x H' y => hs i x H H' hlt p (w.yields i H x H' hlt q y)⟩
  · obtain rfl : i = n := by omega
    exact .inl ⟨w.stops H q, hd H p⟩
/-! ### lists side by side -/
def Al {α β : Type} (R : α → β → Prop) : List α → List β → Prop
  | [], [] => True
  | a :: as, b :: bs => R a b ∧ Al R as bs
  | _, _ => False
theorem Al.len {α β : Type} {R : α → β → Prop} : ∀ {as : List α} {bs : List β}, Al R as bs → as.length = bs.length
  | [], [], _ => rfl
  | a :: as, b :: bs, h => by rw [List.length_cons, List.length_cons, Al.len h.2]
  | [], b :: bs, h => h.elim
  | a :: as, [], h => h.elim
theorem Al.get {α β : Type} {R : α → β → Prop} : ∀ {as : List α} {bs : List β} {i : Nat} {a : α}, Al R as bs → as[i]? = some a → ∃ b, bs[i]? = some b ∧ R a b
  | [], [], i, a, _, h => by simp at h
  | c :: as, b :: bs, 0, a, h, e => by
    have : c = a := by simpa using e
    exact ⟨b, rfl, this ▸ h.1⟩
  | c :: as, b :: bs, i + 1, a, h, e => by
    obtain ⟨b', e', r⟩ := Al.get h.2 (show as[i]? = some a by simpa using e)
    exact ⟨b', by simpa using e', r⟩
  | [], b :: bs, i, a, h, _ => h.elim
  | c :: as, [], i, a, h, _ => h.elim
theorem Al.snoc {α β : Type} {R : α → β → Prop} {a : α} {b : β} (r : R a b) : ∀ {as : List α} {bs : List β}, Al R as bs → Al R (as ++ [a]) (bs ++ [b])
  | [], [], _ => ⟨r, trivial⟩
  | c :: as, d :: bs, h => ⟨h.1, Al.snoc r h.2⟩
  | [], d :: bs, h => h.elim
  | c :: as, [], h => h.elim
theorem Al.imp {α β : Type} {R R' : α → β → Prop} (f : ∀ a b, R a b → R' a b) : ∀ {as : List α} {bs : List β}, Al R as bs → Al R' as bs
  | [], [], _ => trivial
  | c :: as, d :: bs, h => ⟨f _ _ h.1, Al.imp f h.2⟩
  | [], d :: bs, h => h.elim
  | c :: as, [], h => h.elim
/-! ### what a weave is made of -/
/-- a node by its name -/
structure Nm where
  name : Str
  adr : Addr
  inf : NInf
/-- a wire -/
structure Wr where
  src : Str
  goal : Str
  place : Nat
  delay : Nat
def PairAt (K : PySem.W.Frag) (H : Hp) (p : V) (x : Nm) : Prop := ∃ q, p = .ref q ∧ SqT K H q [.str x.name, .ref x.adr]
def WireAt (K : PySem.W.Frag) (H : Hp) (p : V) (x : Wr) : Prop := ∃ q, p = .ref q ∧ SqT K H q [.str x.src, .str x.goal, .int (x.place : Int), .int (x.delay : Int)]
def PairsAt (K : PySem.W.Frag) (H : Hp) (l : Addr) (nm : List Nm) : Prop := ∃ ps, H l = some (.lst ps) ∧ Al (PairAt K H) ps nm
def WiresAt (K : PySem.W.Frag) (H : Hp) (l : Addr) (ws : List Wr) : Prop := ∃ ps, H l = some (.lst ps) ∧ Al (WireAt K H) ps ws
theorem PairsAt.keep {K : PySem.W.Frag} {H H1 : Hp} {l : Addr} {nm : List Nm} (h : PairsAt K H l nm) (s : Same H H1) : PairsAt K H1 l nm := by
  obtain ⟨ps, h1, h2⟩ := h
  exact ⟨ps, s _ _ h1, h2.imp fun p x ⟨q, e, h⟩ => ⟨q, e, Same.tup s h⟩⟩
theorem WiresAt.keep {K : PySem.W.Frag} {H H1 : Hp} {l : Addr} {nm : List Wr} (h : WiresAt K H l nm) (s : Same H H1) : WiresAt K H1 l nm := by
  obtain ⟨ps, h1, h2⟩ := h
  exact ⟨ps, s _ _ h1, h2.imp fun p x ⟨q, e, h⟩ => ⟨q, e, Same.tup s h⟩⟩
def Nodes {K : PySem.W.Frag} {CN CO CI : Addr} (S : Sorts K CN CO CI) (nm : List Nm) (H : Hp) : Prop := ∀ x ∈ nm, NodeIn S x.adr x.inf H
theorem Nodes.keep {K : PySem.W.Frag} {CN CO CI : Addr} {S : Sorts K CN CO CI} {nm : List Nm} {H H1 : Hp} (h : Nodes S nm H) (s : Same H H1) : Nodes S nm H1 := fun x hx => (h x hx).keep s
structure NmsOk (nm : List Nm) : Prop where
  few : nm.length ≤ 24
  ok : ∀ x ∈ nm, NmOk x.name
  nd : (nm.map Nm.name).Nodup
/-- the dict of the nodes by their names -/
def dNamed (nm : List Nm) : List (Key × V) := nm.map fun x => (Sum.inr x.name, .ref x.adr)
theorem valV_named : ∀ {nm : List Nm}, (nm.map Nm.name).Nodup → ∀ {x : Nm}, x ∈ nm → valV (dNamed nm) (Sum.inr x.name) = some (.ref x.adr)
  | [], _, x, h => by cases h
  | y :: r, nd, x, h => by
    unfold valV dNamed
    rw [List.map_cons, List.find?_cons]
    by_cases e : y.name = x.name
    · rw [decide_eq_true (congrArg Sum.inr e)]
      rcases List.mem_cons.mp h with rfl | h
      · rfl
      · exact absurd (show y.name ∈ r.map Nm.name from e ▸ List.mem_map.mpr ⟨x, h, rfl⟩) (List.nodup_cons.mp nd).1
    · rw [decide_eq_false (fun z => e (Sum.inr.inj z))]
      rcases List.mem_cons.mp h with rfl | h
      · exact absurd rfl e
      · exact valV_named (List.nodup_cons.mp nd).2 h
theorem valV_none {kvs : List (Key × V)} {k : Key} (h : ∀ p ∈ kvs, p.1 ≠ k) : valV kvs k = none := by
  unfold valV
  rw [List.find?_eq_none.mpr fun p hp => by simpa using h p hp]
  rfl
theorem putK_new {kvs : List (Key × V)} {k : Key} {v : V} (h : valV kvs k = none) : putK kvs k v = kvs ++ [(k, v)] := by
  unfold putK
  rw [if_neg]
  intro z
  obtain ⟨p, hp, e⟩ := List.any_eq_true.mp z
  unfold valV at h
  cases e2 : kvs.find? (fun kv => decide (kv.1 = k)) with
  | none =>
    have := List.find?_eq_none.mp e2 p hp
    exact this e
  | some q =>
    rw [e2] at h
    cases h
def spNamed {K : PySem.W.Frag} {CN CO CI : Addr} (S : Sorts K CN CO CI) : Sp := fun vs H Q _ => ∃ (l : Addr) (nm : List Nm), vs = [.ref l] ∧ PairsAt K H l nm ∧ NmsOk nm ∧ Nodes S nm H ∧ ∀ (d : Addr) (H' : Hp), Same H H' → H d = none → H' d = some (.dK (dNamed nm)) → Q (.ref d) H'
/-- a thing that is one of a dict's names -/
def spOneOf : Sp := fun vs H Q _ => ∃ (x : Str) (d : Addr) (kvs : List (Key × V)), vs = [.str x, .ref d] ∧ Rd H d (.dK kvs) ∧ Q (.bl (valV kvs (Sum.inr x)).isSome) H
section
variable {P : Program} {w : World} {K : PySem.W.Frag} {mg : Str → Option Value} {base : Heap} {f f1 f2 f3 f4 f5 f6 f7 f8 f9 C CN CO CI CW : Addr} {fd fd1 fd2 fd3 fd4 fd5 fd6 fd7 fd8 fd9 : FuncData}
abbrev nIsOneOf : List Str := ["thing", "names"]
theorem scIsOneOf : FnScope nIsOneOf ["thing", "names"] (defScope sIsOneOf) := ⟨rfl, rfl, rfl, by decide +kernel, rfl, by decide +kernel, by decide +kernel⟩
theorem ok_oneOf (F : FnP K "is_one_of" sIsOneOf f fd) (gIs : mg "isinstance" = none) (gStr : mg "str" = none) : FnOk P w K mg base CX0 1 f fd ["thing", "names"] spOneOf := by
  refine F.ok scIsOneOf (fun vs H Q E h => ?_) (fun cdv A outer s H vs Q E hr h => ?_)
  · obtain ⟨x, d, kvs, rfl, _⟩ := h
    rfl
  · obtain ⟨x, d, kvs, rfl, hd, kk⟩ := h
    have hu := hu_of hr
    refine ⟨_, PSs.nox (pss_one (ps_ret (pe_and (pe_callB call_isi (by rfl) gIs boot_isinstance (pa_cons (pv 0) (pa_cons (pe_bltn (v := .ty "str") rfl gStr PyProof.Rows.boot_str rfl) pa_nil))) (pe_one (pe_cmp (pc_din hu (pv 0) (pv 1))))))), ?_⟩
    refine ⟨_, rfl, _, _, _, _, true, rfl, ClsV.ty _, TyX.base (TyOf.str x), kit_ty (by decide +kernel), _, rfl, iteT ?_⟩
    exact ⟨_, rfl, _, rfl, d, _, rfl, .inl ⟨kvs, Sum.inr x, hd, rfl, rfl⟩, kk⟩
abbrev nNodesByName : List Str := ["nodes", "named", "name", "node"]
theorem scNodesByName : FnScope nNodesByName ["nodes"] (defScope sNodesByName) := ⟨rfl, rfl, rfl, by decide +kernel, rfl, by decide +kernel, by decide +kernel⟩
theorem ok_named (S : Sorts K CN CO CI) (F : FnP K "nodes_by_name" sNodesByName f fd) (GNm : FnOk P w K mg base CX0 1 f1 fd1 ["thing"] spName) (gNm : mg "is_name" = some (.ref f1)) (kNm : PySem.W.keepIn K (.ref f1) = true) (bNm : Binds K fd1 ["thing"] [])
    (gN : mg "Node" = some (.ref CN)) (gIs : mg "isinstance" = none) : FnOk P w K mg base CX0 2 f fd ["nodes"] (spNamed S) := by
  refine F.ok scNodesByName (fun vs H Q E h => ?_) (fun cdv A outer s H vs Q E hr h => ?_)
  · obtain ⟨l, nm, rfl, _⟩ := h
    rfl
  · obtain ⟨l, nm, rfl, ⟨ps, hl, al⟩, nok, nodes, kk⟩ := h
    have hu := hu_of hr
    have nd := scNodesByName.nd
    refine ⟨_, PSs.nox (pss_cons (ps_set (i := 1) nd rfl (Or.inl rfl) pe_dnewK)
      (pss_cons (ps_for PassesOwn.never rfl (pi_list (pv 0)) (pg_tup rfl (pgs_cons (pg_name (i := 2) nd rfl (Or.inl rfl)) (pgs_cons (pg_name (i := 3) nd rfl (Or.inl rfl)) pgs_nil)))
      (pss_cons (ps_if (pt_not (pt_val (pe_call GNm hr rfl gNm kNm bNm .nil pass0 (pa_cons (pv 2) pa_nil)))) pss_never pss_nil)
      (pss_cons (ps_if (pt_cmp (pc_din hu (pv 2) (pv 1))) pss_never pss_nil)
      (pss_cons (ps_if (pt_not (pt_val (pe_callB call_isi (by rfl) gIs boot_isinstance (pa_cons (pv 3) (pa_cons (pe_glob (v := .ref CN) rfl gN rfl) pa_nil))))) pss_never pss_nil)
      (pss_one (ps_dput hu (pv 1) (pv 2) (pv 3) rfl))))))
      (pss_one (ps_ret (pv 1))))), ?_⟩
    refine fun d hd => ?_
    refine ⟨_, rfl, l, rfl, ⟨_, SqL.of (Same.new (Same.refl _) hd _ _ hl)⟩, ?_⟩
    refine for_list (xs := ps) (fun j σ G => ∃ w2 w3 : Option V, σ = [some (.ref l), some (.ref d), w2, w3] ∧ G d = some (.dK (dNamed (nm.take j))) ∧ Same H G) ⟨_, _, rfl, upd_same, Same.past (Same.refl _) hd⟩ (fun j σ G _ e => by obtain ⟨_, _, _, _, sm⟩ := e; exact SqL.of (sm _ _ hl)) ?_ ?_
    · rintro j p σ G ep ⟨w2, w3, rfl, hG, sG⟩
      obtain ⟨x, ex, q, rfl, hq⟩ := al.get ep
      have xm : x ∈ nm := List.mem_of_getElem? ex
      refine ⟨q, _, rfl, Same.tup sG hq, rfl, _, _, rfl, _, _, rfl, rfl, ?_⟩
      refine ⟨_, rfl, x.name, rfl, nok.ok x xm, fun G1 s1 => ⟨_, rfl, iteF ?_⟩⟩
      have hG1 := s1 _ _ hG
      have no : valV (dNamed (nm.take j)) (Sum.inr x.name) = none := valV_none fun p hp z => by
        obtain ⟨y, hy, rfl⟩ := List.mem_map.mp hp
        have hy' : y.name = x.name := Sum.inr.inj z
        obtain ⟨k, ek⟩ := List.getElem?_of_mem hy
        rw [List.getElem?_take] at ek
        split at ek
        · rename_i kj
          have e1 : (nm.map Nm.name)[k]? = some x.name := by rw [List.getElem?_map, ek, ← hy']; rfl
          have e2 : (nm.map Nm.name)[j]? = some x.name := by rw [List.getElem?_map, ex]; rfl
          obtain ⟨h1, g1⟩ := List.getElem?_eq_some_iff.mp e1
          obtain ⟨h2, g2⟩ := List.getElem?_eq_some_iff.mp e2
          exact List.pairwise_iff_getElem.mp nok.nd k j h1 h2 kj (g1.trans g2.symm)
        · cases ek
      refine ⟨_, rfl, _, rfl, d, _, rfl, DGet.k (k := Sum.inr x.name) hG1, ?_⟩
      rw [no]
      refine ⟨_, rfl, iteF ?_⟩
      obtain ⟨B, hB, hat, _, _⟩ := (nodes x xm).keep (sG.trans s1)
      obtain ⟨dx, fs, hin, _⟩ := S.ins B _ _ _ hat
      refine ⟨_, rfl, _, _, _, _, true, rfl, ClsV.own _, (S.isN B hB).ty (S.cls B hB) hin, (S.isN B hB).kit, _, rfl, iteF ?_⟩
      refine ⟨_, rfl, _, rfl, _, rfl, d, _, rfl, DPut.k (k := Sum.inr x.name) hG1 ?_, ?_⟩
      · unfold dNamed
        rw [List.length_map, List.length_take]
        have := nok.few
        exact Nat.lt_of_le_of_lt (show _ ≤ 24 by omega) (by decide)
      · refine ⟨_, _, rfl, ?_, Same.past (sG.trans s1) hd⟩
        rw [putK_new no, List.take_succ, ex]
        unfold dNamed
        rw [List.map_append]
        exact upd_same
    · rintro σ G ⟨w2, w3, rfl, hG, sG⟩
      rw [al.len, List.take_length] at hG
      exact ⟨_, rfl, kk d G sG hd hG⟩
end
end Sw
namespace Sw
open PySem PySem.Spec PyProof.Rows L2
/-! ### which wire leads where -/
def numAt (ws : List Wr) (g : Str) (p : Nat) : Option Nat := ws.findIdx? fun w => decide (w.goal = g ∧ w.place = p)
def numV : Option Nat → V
  | some i => .int (i : Int)
  | none => .non
def leadL (ws : List Wr) (g : Str) (n : Nat) : List V := (List.range n).map fun p => numV (numAt ws g p)
theorem numAt_snoc {ws : List Wr} {w : Wr} {g : Str} {p : Nat} : numAt (ws ++ [w]) g p = (numAt ws g p).or (if w.goal = g ∧ w.place = p then some ws.length else none) := by
  unfold numAt
  rw [List.findIdx?_append]
  congr 1
  rw [List.findIdx?_cons]
  by_cases h : w.goal = g ∧ w.place = p
  · rw [decide_eq_true h, if_pos h]
    simp
  · rw [decide_eq_false h, if_neg h]
    simp
theorem numAt_none {ws : List Wr} {g : Str} {p : Nat} (h : ∀ w ∈ ws, ¬ (w.goal = g ∧ w.place = p)) : numAt ws g p = none := by
  unfold numAt
  rw [List.findIdx?_eq_none_iff]
  intro w hw
  exact decide_eq_false (h w hw)
theorem leadL_len (ws : List Wr) (g : Str) (n : Nat) : (leadL ws g n).length = n := by
  unfold leadL
  simp
theorem leadL_get {ws : List Wr} {g : Str} {n p : Nat} (h : p < n) : (leadL ws g n)[p]? = some (numV (numAt ws g p)) := by
  unfold leadL
  rw [List.getElem?_map, List.getElem?_range h]
  rfl
theorem leadL_nil (g : Str) (n : Nat) : leadL [] g n = List.replicate n .non := by
  unfold leadL
  rw [List.eq_replicate_iff]
  refine ⟨by simp, fun b hb => ?_⟩
  obtain ⟨p, _, rfl⟩ := List.mem_map.mp hb
  rfl
theorem leadL_other {ws : List Wr} {w : Wr} {g : Str} {n : Nat} (h : w.goal ≠ g) : leadL (ws ++ [w]) g n = leadL ws g n := by
  unfold leadL
  apply List.map_congr_left
  intro p _
  rw [numAt_snoc, if_neg (fun z => h z.1), Option.or_none]
theorem leadL_set {ws : List Wr} {w : Wr} {n : Nat} (h : w.place < n) (e : numAt ws w.goal w.place = none) : leadL (ws ++ [w]) w.goal n = (leadL ws w.goal n).set w.place (.int (ws.length : Int)) := by
  apply List.ext_getElem?
  intro p
  by_cases hp : p < n
  · rw [leadL_get hp, numAt_snoc]
    by_cases z : w.place = p
    · subst z
      rw [if_pos ⟨rfl, rfl⟩, e, List.getElem?_set_self (by rw [leadL_len]; exact h)]
      rfl
    · rw [if_neg (fun q => z q.2), Option.or_none, List.getElem?_set_ne z, leadL_get hp]
  · rw [List.getElem?_eq_none (by rw [leadL_len]; omega), List.getElem?_eq_none (by rw [List.length_set, leadL_len]; omega)]
/-- reached from an inlet -/
inductive Reach (nm : List Nm) (ws : List Wr) : Str → Prop
  | inl {x : Nm} (h : x ∈ nm) (i : x.inf.inl = true) : Reach nm ws x.name
  | step {w : Wr} (h : w ∈ ws) (r : Reach nm ws w.src) : Reach nm ws w.goal
/-- what a weave can be made of -/
structure WvOk (nm : List Nm) (ws : List Wr) : Prop where
  nms : NmsOk nm
  few : ws.length ≤ 48
  src : ∀ w ∈ ws, ∃ x ∈ nm, x.name = w.src ∧ x.inf.out = false
  goal : ∀ w ∈ ws, ∃ x ∈ nm, x.name = w.goal ∧ w.place < x.inf.ts.length
  del : ∀ w ∈ ws, w.delay ≤ 9999
  one : ∀ (i j : Nat) (w w' : Wr), ws[i]? = some w → ws[j]? = some w' → w.goal = w'.goal → w.place = w'.place → i = j
  all : ∀ x ∈ nm, ∀ p, p < x.inf.ts.length → ∃ w ∈ ws, w.goal = x.name ∧ w.place = p
  reach : ∀ x ∈ nm, Reach nm ws x.name
theorem numAt_take {nm : List Nm} {ws : List Wr} (ok : WvOk nm ws) {j : Nat} {w : Wr} (e : ws[j]? = some w) : numAt (ws.take j) w.goal w.place = none := by
  refine numAt_none fun w' hw' z => ?_
  obtain ⟨k, ek⟩ := List.getElem?_of_mem hw'
  rw [List.getElem?_take] at ek
  split at ek
  · rename_i kj
    have := ok.one k j w' w ek e z.1 z.2
    omega
  · cases ek
def spTk {K : PySem.W.Frag} {CN CO CI : Addr} (S : Sorts K CN CO CI) (A : S.α) : Sp := fun vs H Q _ => ∃ (a : Addr) (ts : List Nat), vs = [.ref a] ∧ S.at_ A a ts H ∧ ∀ t H', Same H H' → SqT K H' t (ts.map fun (n : Nat) => V.int (n : Int)) → Q (.ref t) H'
def spCheck {K : PySem.W.Frag} {CN CO CI : Addr} (S : Sorts K CN CO CI) : Sp := fun vs H Q _ => ∃ (n : Int) (p : V) (d : Addr) (nm : List Nm) (w : Wr), vs = [.int n, p, .ref d] ∧ WireAt K H p w ∧ H d = some (.dK (dNamed nm)) ∧ NmsOk nm ∧ Nodes S nm H ∧ (∃ x ∈ nm, x.name = w.src ∧ x.inf.out = false) ∧ (∃ x ∈ nm, x.name = w.goal ∧ w.place < x.inf.ts.length) ∧ w.delay ≤ 9999 ∧ ∀ H', Same H H' → Q .non H'
section
variable {P : Program} {w : World} {K : PySem.W.Frag} {mg : Str → Option Value} {base : Heap} {f f1 f2 f3 f4 f5 f6 f7 f8 f9 C CN CO CI CW : Addr} {fd fd1 fd2 fd3 fd4 fd5 fd6 fd7 fd8 fd9 : FuncData}
abbrev nCheckWire : List Str := ["number", "wire", "named", "source", "goal", "place", "delay"]
theorem scCheckWire : FnScope nCheckWire ["number", "wire", "named"] (defScope sCheckWire) := ⟨rfl, rfl, rfl, by decide +kernel, rfl, by decide +kernel, by decide +kernel⟩
theorem ok_check (S : Sorts K CN CO CI) (F : FnP K "check_wire" sCheckWire f fd) (GOn : FnOk P w K mg base CX0 1 f1 fd1 ["thing", "names"] spOneOf) (gOn : mg "is_one_of" = some (.ref f1)) (kOn : PySem.W.keepIn K (.ref f1) = true) (bOn : Binds K fd1 ["thing", "names"] [])
    (GWi : FnOk P w K mg base CX0 2 f2 fd2 ["thing", "least", "most"] (spWithin K)) (gWi : mg "is_whole_within" = some (.ref f2)) (kWi : PySem.W.keepIn K (.ref f2) = true) (bWi : Binds K fd2 ["thing", "least", "most"] [])
    (hT : ∀ A, A ∈ S.As → MethC P w K mg base 1 "takes" ["self"] (spTk S A) (S.cl A)) (gO : mg "Outlet" = some (.ref CO)) (gD : ∃ t, mg "MOST_DELAY" = some (.int 9999 t)) (gIs : mg "isinstance" = none) (gLen : mg "len" = none) : FnOk P w K mg base CX0 3 f fd ["number", "wire", "named"] (spCheck S) := by
  obtain ⟨tD, gD⟩ := gD
  refine F.ok scCheckWire (fun vs H Q E h => ?_) (fun cdv A outer s H vs Q E hr h => ?_)
  · obtain ⟨n, p, d, nm, w, rfl, _⟩ := h
    rfl
  · obtain ⟨n, p, d, nm, w, rfl, ⟨q, rfl, hq⟩, hd, nok, nodes, ⟨x, hx, ex, xo⟩, ⟨y, hy, ey, yp⟩, dl, kk⟩ := h
    have hu := hu_of hr
    have hr2 : Room 2 _ := hr
    have hr1 : Room 1 _ := hr.mono (by decide)
    have nd := scCheckWire.nd
    refine ⟨_, PSs.nox (pss_cons (ps_asg (pv 1) (pg_tup rfl (pgs_cons (pg_name (i := 3) nd rfl (Or.inl rfl)) (pgs_cons (pg_name (i := 4) nd rfl (Or.inl rfl)) (pgs_cons (pg_name (i := 5) nd rfl (Or.inl rfl)) (pgs_cons (pg_name (i := 6) nd rfl (Or.inl rfl)) pgs_nil))))))
      (pss_cons (ps_if (pt_not (pt_val (pe_call GOn hr1 rfl gOn kOn bOn .nil pass0 (pa_cons (pv 3) (pa_cons (pv 2) pa_nil))))) pss_never pss_nil)
      (pss_cons (ps_if (pt_not (pt_val (pe_call GOn hr1 rfl gOn kOn bOn .nil pass0 (pa_cons (pv 4) (pa_cons (pv 2) pa_nil))))) pss_never pss_nil)
      (pss_cons (ps_if (PW.pt (pw_or (pt_val (pe_callB call_isi (by rfl) gIs boot_isinstance (pa_cons (pe_dget hu (pv 2) (pv 3) (fun _ _ => rfl)) (pa_cons (pe_glob (v := .ref CO) rfl gO rfl) pa_nil)))) (pw_or1 (pt_not (pt_val (pe_call GWi hr2 rfl gWi kWi bWi .nil pass0 (pa_cons (pv 5) (pa_cons pe_int (pa_cons (pe_op op_sub (pe_callB call_len_seq (by rfl) gLen PySem.boot_len (pa_cons (pe_methOf0 (As := S.As) (cl := S.cl) (sp := spTk S) (pe_dget hu (pv 2) (pv 4) (fun _ _ => rfl)) hT hr1) pa_nil)) pe_int) pa_nil))))))))) pss_never pss_nil)
      (pss_one (ps_if (pt_not (pt_val (pe_call GWi hr2 rfl gWi kWi bWi .nil pass0 (pa_cons (pv 6) (pa_cons pe_int (pa_cons (pe_glob (v := .int 9999) rfl gD ⟨_, rfl⟩) pa_nil)))))) pss_never pss_nil)))))), ?_⟩
    refine ⟨_, rfl, q, _, rfl, hq, rfl, _, _, rfl, _, _, rfl, _, _, rfl, _, _, rfl, rfl, ?_⟩
    have vs1 : valV (dNamed nm) (Sum.inr w.src) = some (.ref x.adr) := ex ▸ valV_named nok.nd hx
    have vs2 : valV (dNamed nm) (Sum.inr w.goal) = some (.ref y.adr) := ey ▸ valV_named nok.nd hy
    refine ⟨_, rfl, _, rfl, w.src, d, _, rfl, .inl hd, ?_⟩
    rw [vs1]
    refine ⟨_, rfl, iteF ?_⟩
    refine ⟨_, rfl, _, rfl, w.goal, d, _, rfl, .inl hd, ?_⟩
    rw [vs2]
    refine ⟨_, rfl, iteF ?_⟩
    obtain ⟨B, hB, hat, hout, _⟩ := nodes x hx
    obtain ⟨dx, fs, hin, _⟩ := S.ins B _ _ _ hat
    obtain ⟨B2, hB2, hat2, _, _⟩ := nodes y hy
    obtain ⟨dx2, fs2, hin2, no2⟩ := S.ins B2 _ _ _ hat2
    have isO := S.isO B hB
    rw [hout, xo] at isO
    refine ⟨_, rfl, _, rfl, d, _, rfl, ?_, _, _, _, _, false, rfl, ClsV.own _, (S.isN B hB).ty (S.cls B hB) hin, isO, _, rfl, iteF ?_⟩
    · rw [← vs1]
      exact DGet.k (k := Sum.inr w.src) hd
    refine ⟨_, rfl, _, rfl, _, rfl, d, _, rfl, (by rw [← vs2]; exact DGet.k (k := Sum.inr w.goal) hd), B2, y.adr, dx2, fs2, hB2, rfl, hin2, no2, y.adr, _, rfl, hat2, fun t H1 s1 ht => ?_⟩
    refine ⟨t, _, rfl, .inr ht, _, _, rfl, rfl, _, 0, _, rfl, .inl ⟨_, rfl, ?_⟩⟩
    rw [List.length_map, decide_eq_true (by omega)]
    refine ⟨_, rfl, iteF ?_⟩
    refine ⟨_, rfl, _, 0, 9999, rfl, .inl ⟨_, rfl, ?_⟩⟩
    rw [decide_eq_true (by omega)]
    exact ⟨_, rfl, iteF (kk H1 s1)⟩
end
end Sw
namespace Sw
open PySem PySem.Spec PyProof.Rows L2
theorem Al.map {α β γ : Type} {R : α → β → Prop} {f : β → γ} : ∀ {as : List α} {bs : List β}, Al R as bs → True
  | _, _, _ => trivial
theorem Al.take {α β : Type} {R : α → β → Prop} : ∀ {as : List α} {bs : List β}, Al R as bs → ∀ n, Al R (as.take n) (bs.take n)
  | [], [], _, n => by simp [Al]
  | a :: as, b :: bs, h, 0 => trivial
  | a :: as, b :: bs, h, n + 1 => ⟨h.1, Al.take h.2 n⟩
  | [], b :: bs, h, _ => h.elim
  | a :: as, [], h, _ => h.elim
theorem Al.get' {α β : Type} {R : α → β → Prop} : ∀ {as : List α} {bs : List β} {i : Nat} {b : β}, Al R as bs → bs[i]? = some b → ∃ a, as[i]? = some a ∧ R a b
  | [], [], i, a, _, h => by simp at h
  | c :: as, b :: bs, 0, b', h, e => by
    have : b = b' := by simpa using e
    exact ⟨c, rfl, this ▸ h.1⟩
  | c :: as, b :: bs, i + 1, b', h, e => by
    obtain ⟨a', e', r⟩ := Al.get' h.2 (show bs[i]? = some b' by simpa using e)
    exact ⟨a', by simpa using e', r⟩
  | [], b :: bs, i, a, h, _ => h.elim
  | c :: as, [], i, a, h, _ => h.elim
theorem Al.of {α β : Type} {R : α → β → Prop} : ∀ {as : List α} {bs : List β}, as.length = bs.length → (∀ (i : Nat) (a : α) (b : β), as[i]? = some a → bs[i]? = some b → R a b) → Al R as bs
  | [], [], _, _ => trivial
  | a :: as, b :: bs, l, h => ⟨h 0 a b rfl rfl, Al.of (by simpa using l) fun i x y ex ey => h (i + 1) x y (by simpa using ex) (by simpa using ey)⟩
  | [], b :: bs, l, _ => by cases l
  | a :: as, [], l, _ => by cases l
theorem flat_one {α : Type} (y : α) : ∀ m : Nat, (List.replicate m [y]).flatten = List.replicate m y
  | 0 => rfl
  | m + 1 => by
    rw [List.replicate_succ, List.flatten_cons, flat_one y m]
    rfl
/-- a dict of lists by the nodes' names -/
def dLead (nm : List Nm) (las : List Addr) : List (Key × V) := List.zipWith (fun x la => (Sum.inr x.name, V.ref la)) nm las
theorem dLead_snoc {nm : List Nm} {las : List Addr} {x : Nm} {la : Addr} (h : nm.length = las.length) : dLead (nm ++ [x]) (las ++ [la]) = dLead nm las ++ [(Sum.inr x.name, .ref la)] := by
  unfold dLead
  rw [List.zipWith_append h]
  rfl
theorem valV_lead : ∀ {nm : List Nm} {las : List Addr}, (nm.map Nm.name).Nodup → ∀ {i : Nat} {x : Nm} {la : Addr}, nm[i]? = some x → las[i]? = some la → valV (dLead nm las) (Sum.inr x.name) = some (.ref la)
  | [], _, _, i, x, la, h, _ => by simp at h
  | y :: r, [], _, i, x, la, _, h => by simp at h
  | y :: r, l :: ls, nd, 0, x, la, h, h' => by
    have e1 : y = x := by simpa using h
    have e2 : l = la := by simpa using h'
    subst e1 e2
    unfold valV dLead
    simp
  | y :: r, l :: ls, nd, i + 1, x, la, h, h' => by
    have ih := valV_lead (List.nodup_cons.mp nd).2 (show r[i]? = some x by simpa using h) (show ls[i]? = some la by simpa using h')
    have ne : y.name ≠ x.name := fun z => (List.nodup_cons.mp nd).1 (z ▸ List.mem_map.mpr ⟨x, List.mem_of_getElem? (show r[i]? = some x by simpa using h), rfl⟩)
    unfold valV dLead at ih ⊢
    rw [List.zipWith_cons_cons, List.find?_cons, decide_eq_false (fun z => ne (Sum.inr.inj z))]
    exact ih
theorem dLead_len {nm : List Nm} {las : List Addr} (h : las.length = nm.length) : (dLead nm las).length = nm.length := by
  unfold dLead
  rw [List.length_zipWith, h]
  omega
theorem dLead_no {nm : List Nm} {las : List Addr} {s : Str} (h : ∀ x ∈ nm, x.name ≠ s) : valV (dLead nm las) (Sum.inr s) = none := valV_none fun p hp z => by
  unfold dLead at hp
  obtain ⟨i, ei⟩ := List.getElem?_of_mem hp
  rw [List.getElem?_zipWith] at ei
  cases ea : nm[i]? with
  | none => rw [ea] at ei; cases ei
  | some x =>
    cases eb : las[i]? with
    | none => rw [ea, eb] at ei; cases ei
    | some l =>
      rw [ea, eb] at ei
      cases ei
      exact h x (List.mem_of_getElem? ea) (Sum.inr.inj z)
theorem dNamed_get {nm : List Nm} {j : Nat} {k : Key} {v : V} (h : (dNamed nm)[j]? = some (k, v)) : ∃ x, nm[j]? = some x ∧ k = Sum.inr x.name ∧ v = .ref x.adr := by
  unfold dNamed at h
  rw [List.getElem?_map] at h
  obtain ⟨x, ex, e⟩ := Option.map_eq_some_iff.mp h
  cases e
  exact ⟨x, ex, rfl, rfl⟩
theorem name_ahead {nm : List Nm} (nd : (nm.map Nm.name).Nodup) {j : Nat} {x : Nm} (ex : nm[j]? = some x) : ∀ y ∈ nm.take j, y.name ≠ x.name := fun y hy z => by
  obtain ⟨k, ek⟩ := List.getElem?_of_mem hy
  rw [List.getElem?_take] at ek
  split at ek
  · rename_i kj
    have e1 : (nm.map Nm.name)[k]? = some x.name := by rw [List.getElem?_map, ek, ← z]; rfl
    have e2 : (nm.map Nm.name)[j]? = some x.name := by rw [List.getElem?_map, ex]; rfl
    obtain ⟨h1, g1⟩ := List.getElem?_eq_some_iff.mp e1
    obtain ⟨h2, g2⟩ := List.getElem?_eq_some_iff.mp e2
    exact List.pairwise_iff_getElem.mp nd k j h1 h2 kj (g1.trans g2.symm)
  · cases ek
/-- lists at places of their own, one for each node -/
structure Lists (H0 H : Hp) (d : Addr) (nm : List Nm) (las : List Addr) (L : Nm → List V) : Prop where
  hd : H d = some (.dK (dLead nm las))
  len : las.length = nm.length
  nd : las.Nodup
  new : ∀ la ∈ las, H0 la = none ∧ la ≠ d
  at_ : ∀ (i : Nat) (x : Nm) (la : Addr), nm[i]? = some x → las[i]? = some la → H la = some (.lst (L x))
theorem Lists.keep {H0 H H1 : Hp} {d : Addr} {nm : List Nm} {las : List Addr} {L : Nm → List V} (h : Lists H0 H d nm las L) (s : Same H H1) : Lists H0 H1 d nm las L := ⟨s _ _ h.hd, h.len, h.nd, h.new, fun i x la e1 e2 => s _ _ (h.at_ i x la e1 e2)⟩
def spLead {K : PySem.W.Frag} {CN CO CI : Addr} (S : Sorts K CN CO CI) : Sp := fun vs H Q _ => ∃ (wl d : Addr) (nm : List Nm) (ws : List Wr), vs = [.ref wl, .ref d] ∧ WiresAt K H wl ws ∧ H d = some (.dK (dNamed nm)) ∧ WvOk nm ws ∧ Nodes S nm H ∧ ∀ (dl : Addr) (las : List Addr) (H' : Hp), Same H H' → H dl = none → Lists H H' dl nm las (fun x => leadL ws x.name x.inf.ts.length) → Q (.ref dl) H'
section
variable {P : Program} {w : World} {K : PySem.W.Frag} {mg : Str → Option Value} {base : Heap} {f f1 f2 f3 f4 f5 f6 f7 f8 f9 C CN CO CI CW : Addr} {fd fd1 fd2 fd3 fd4 fd5 fd6 fd7 fd8 fd9 : FuncData}
abbrev nWiresByGoal : List Str := ["wires", "named", "leading", "number", "wire", "source", "goal", "place", "delay", "name"]
theorem scWiresByGoal : FnScope nWiresByGoal ["wires", "named"] (defScope sWiresByGoal) := ⟨rfl, rfl, rfl, by decide +kernel, rfl, by decide +kernel, by decide +kernel⟩
theorem ok_lead (S : Sorts K CN CO CI) (F : FnP K "wires_by_goal" sWiresByGoal f fd) (GCk : FnOk P w K mg base CX0 3 f1 fd1 ["number", "wire", "named"] (spCheck S)) (gCk : mg "check_wire" = some (.ref f1)) (kCk : PySem.W.keepIn K (.ref f1) = true) (bCk : Binds K fd1 ["number", "wire", "named"] [])
    (hT : ∀ A, A ∈ S.As → MethC P w K mg base 1 "takes" ["self"] (spTk S A) (S.cl A)) (gEnum : mg "enumerate" = none) (gLen : mg "len" = none) : FnOk P w K mg base CX0 4 f fd ["wires", "named"] (spLead S) := by
  refine F.ok scWiresByGoal (fun vs H Q E h => ?_) (fun cdv A outer s H vs Q E hr h => ?_)
  · obtain ⟨wl, d, nm, ws, rfl, _⟩ := h
    rfl
  · obtain ⟨wl, d, nm, ws, rfl, ⟨ps, hwl, al⟩, hd, ok, nodes, kk⟩ := h
    have hu := hu_of hr
    have hr1 : Room 1 _ := hr.mono (by decide)
    have nd := scWiresByGoal.nd
    have few := ok.nms.few
    refine ⟨_, PSs.nox (pss_cons (ps_lock (ps_setDc (i := 2) (own := [("name", 9)]) (g := (gName 9)) (tt := tYes) rfl nd rfl rfl (swd_true rfl rfl rfl rfl) (pi_keys (pv 1)) (blkOk_by (N := nWiresByGoal) (sc := defScope sWiresByGoal) (by decide +kernel))
        (fun _ _ _ _ _ => (pg_name (i := 9) nd rfl (Or.inl rfl))) (fun _ _ _ _ _ => pts_nil) (fun _ _ _ _ _ => (pv 9)) (fun _ _ _ _ _ => (pe_op op_rep (pe_lst (pa_cons pe_non pa_nil)) (pe_callB (call_len_seqK (K := K) rfl) (by rfl) gLen PySem.boot_len (pa_cons (pe_methOf0 (As := S.As) (cl := S.cl) (sp := spTk S) (pe_dget hu (pv 1) (pv 9) (fun _ _ => rfl)) hT hr1) pa_nil))))))
      (pss_cons (ps_for PassesOwn.never rfl (pi_enum rfl gEnum (pa_cons (pv 0) pa_nil)) (pg_tup rfl (pgs_cons (pg_name (i := 3) nd rfl (Or.inl rfl)) (pgs_cons (pg_name (i := 4) nd rfl (Or.inl rfl)) pgs_nil)))
      (pss_cons (ps_expr (pe_call GCk hr rfl gCk kCk bCk .nil pass0 (pa_cons (pv 3) (pa_cons (pv 4) (pa_cons (pv 1) pa_nil)))))
      (pss_cons (ps_asg (pv 4) (pg_tup rfl (pgs_cons (pg_name (i := 5) nd rfl (Or.inl rfl)) (pgs_cons (pg_name (i := 6) nd rfl (Or.inl rfl)) (pgs_cons (pg_name (i := 7) nd rfl (Or.inl rfl)) (pgs_cons (pg_name (i := 8) nd rfl (Or.inl rfl)) pgs_nil))))))
      (pss_cons (ps_if (pt_cmpR op_notN (pe_ix ix_list (pe_dget hu (pv 2) (pv 6) (fun _ _ => rfl)) (pv 7) (fun _ _ => rfl)) pe_non (nomark _)) pss_never pss_nil)
      (pss_one (ps_asg (pv 3) (pg_sub (pe_dget hu (pv 2) (pv 6) (fun _ _ => rfl)) (pv 7) set_list (by intro _; rfl))))))))
      (pss_one (ps_ret (pv 2))))), ?_⟩
    refine ⟨d, _, hd, trivial, fun od => ?_⟩
    have nodesL : ∀ x ∈ nm, NodeIn S x.adr x.inf (upd H d (.frz od (.dK (dNamed nm)))) := fun x hx => (nodes x hx).dict hd
    have hL : (upd H d (.frz od (.dK (dNamed nm)))) d = some (.frz od (.dK (dNamed nm))) := upd_same
    have freeL : ∀ {a : Addr}, (upd H d (.frz od (.dK (dNamed nm)))) a = none → H a = none := fun {a} e => by
      by_cases z : a = d
      · rw [z, hL] at e
        cases e
      · rw [upd_ne z] at e
        exact e
    generalize eHL : upd H d (.frz od (.dK (dNamed nm))) = HL at nodesL hL freeL
    refine ⟨_, rfl, d, od, rfl, .inl ⟨_, hL, fun D hD => ?_⟩⟩
    have nDd : D ≠ d := (ne_of_none hL hD).symm
    refine dc_it (walk_keys (d := d) (o := od) (kvs := dNamed nm)) (fun j H' => ∃ las, Lists HL H' D (nm.take j) las (fun x => List.replicate x.inf.ts.length .non) ∧ Same HL H') ⟨[], ⟨?_, ?_, List.nodup_nil, fun _ h => (List.not_mem_nil h).elim, fun i x la h => ?_⟩, Same.past (Same.refl _) hD⟩ (fun j H' _ e => by obtain ⟨_, _, sm⟩ := e; exact sm _ _ hL) (fun j v H' H'' hj e y => ?_) (fun H' e => ?_)
    · rw [List.take_zero]
      exact upd_same
    · simp
    · rw [List.take_zero] at h
      cases h
    · obtain ⟨las, li, sm⟩ := e
      obtain ⟨rfl, k, v', ek, rfl⟩ := y
      obtain ⟨x, ex, rfl, rfl⟩ := dNamed_get ek
      have xm : x ∈ nm := List.mem_of_getElem? ex
      refine ⟨rfl, ?_⟩
      refine yes_ite ?_
      obtain ⟨B, hB, hat, _, _⟩ := (nodesL x xm).keep sm
      obtain ⟨dx, fs, hin, no⟩ := S.ins B _ _ _ hat
      refine ⟨_, rfl, (by show 1 ≤ sizeLine; decide), fun l1 h1 => ?_⟩
      have s1 := Same.new (o := .lst [V.non]) (Same.refl H'') h1
      refine ⟨_, rfl, _, rfl, d, _, rfl, .inl ⟨_, Sum.inr x.name, .inr ⟨od, s1 _ _ (sm _ _ hL)⟩, rfl, (valV_named ok.nms.nd xm).symm⟩, B, x.adr, dx, fs, hB, rfl, s1 _ _ hin, no, x.adr, _, rfl, S.keep B _ _ _ _ s1 hat, fun t G2 s2 ht => ?_⟩
      have t8 := S.few B _ _ _ hat
      refine ⟨t, _, rfl, .inr ht, l1, _, [V.non], rfl, rfl, s2 _ _ upd_same, by rw [List.length_map]; omega, by rw [List.length_map]; omega, ?_, fun la hla => ?_⟩
      · rw [List.length_map, Int.toNat_natCast]
        exact Nat.le_trans (show 1 * x.inf.ts.length ≤ 8 by omega) (by decide)
      have s3 := Same.new (o := .lst (List.replicate (((x.inf.ts.map fun (n : Nat) => V.int (n : Int)).length : Nat) : Int).toNat [V.non]).flatten) (Same.refl G2) hla
      have s13 := s1.trans (s2.trans s3)
      have laD : la ≠ D := (ne_of_none ((s1.trans s2) _ _ li.hd) hla).symm
      have er : (List.replicate (((x.inf.ts.map fun (n : Nat) => V.int (n : Int)).length : Nat) : Int).toNat [V.non]).flatten = List.replicate x.inf.ts.length V.non := by
        rw [List.length_map, Int.toNat_natCast, flat_one]
      rw [er] at s3 s13 ⊢
      have nk : nm.take (j + 1) = nm.take j ++ [x] := by
        rw [List.take_succ, ex]
        rfl
      refine ⟨_, Sum.inr x.name, rfl, s13 _ _ li.hd, ?_, las ++ [la], ?_, Same.past (sm.trans s13) hD⟩
      · rw [dLead_len li.len, List.length_take]
        exact Nat.lt_of_le_of_lt (show _ ≤ 24 by omega) (by decide)
      have fla : HL la = none := (sm.trans (s1.trans s2)).free hla
      rw [putK_new (dLead_no (name_ahead ok.nms.nd ex))]
      refine ⟨?_, ?_, ?_, fun a ha => ?_, fun i y a ey ea => ?_⟩
      · rw [nk, dLead_snoc li.len.symm]
        exact upd_same
      · rw [nk, List.length_append, List.length_append, li.len]
        rfl
      · rw [List.nodup_append]
        refine ⟨li.nd, List.nodup_cons.mpr ⟨List.not_mem_nil, List.nodup_nil⟩, fun a ha b hb => ?_⟩
        rw [List.mem_singleton.mp hb]
        intro z
        obtain ⟨i, ei⟩ := List.getElem?_of_mem ha
        have il := (List.getElem?_eq_some_iff.mp ei).1
        rw [li.len] at il
        have := (s1.trans s2) _ _ (li.at_ i _ a (List.getElem?_eq_getElem il) ei)
        rw [z, hla] at this
        cases this
      · rcases List.mem_append.mp ha with ha | ha
        · exact li.new a ha
        · rw [List.mem_singleton.mp ha]
          exact ⟨fla, laD⟩
      · rw [nk] at ey
        by_cases z : i < las.length
        · rw [List.getElem?_append_left (by rw [← li.len]; exact z)] at ey
          rw [List.getElem?_append_left z] at ea
          rw [upd_ne (li.new a (List.mem_of_getElem? ea)).2]
          exact s13 _ _ (li.at_ i y a ey ea)
        · have il := (List.getElem?_eq_some_iff.mp ea).1
          rw [List.length_append] at il
          have e0 : i = las.length := by
            have : [la].length = 1 := rfl
            omega
          subst e0
          rw [List.getElem?_concat_length] at ea
          rw [li.len, List.getElem?_concat_length] at ey
          cases ea
          cases ey
          rw [upd_ne laD]
          exact upd_same
    · obtain ⟨las, li, sm⟩ := e
      have dn : (dNamed nm).length = nm.length := by
        unfold dNamed
        rw [List.length_map]
      rw [dn, List.take_length] at li
      refine ⟨sm _ _ hL, ?_⟩
      have u1 : Same H (upd H' d (.dK (dNamed nm))) := unlock hd (eHL ▸ sm)
      have hd1 : (upd H' d (.dK (dNamed nm))) d = some (.dK (dNamed nm)) := upd_same
      have fD : H D = none := freeL hD
      have li1 : Lists H (upd H' d (.dK (dNamed nm))) D nm las (fun x => leadL (ws.take 0) x.name x.inf.ts.length) := by
        refine ⟨by rw [upd_ne nDd]; exact li.hd, li.len, li.nd, fun a ha => ⟨freeL (li.new a ha).1, (li.new a ha).2⟩, fun i x a ex ea => ?_⟩
        rw [List.take_zero, leadL_nil, upd_ne (fun z => by
          have := (li.new a (List.mem_of_getElem? ea)).1
          rw [z, hL] at this
          cases this)]
        exact li.at_ i x a ex ea
      generalize upd H' d (.dK (dNamed nm)) = H1 at u1 hd1 li1
      clear li sm
      refine ⟨_, rfl, wl, _, rfl, SqL.of (u1 _ _ hwl), ?_⟩
      refine for_it (walk_enum (xs := ps)) (fun j σ G => ∃ w3 w4 w5 w6 w7 w8 : Option V, σ = [some (.ref wl), some (.ref d), some (.ref D), w3, w4, w5, w6, w7, w8, none] ∧ Lists H G D nm las (fun x => leadL (ws.take j) x.name x.inf.ts.length) ∧ Same H G) ⟨_, _, _, _, _, _, rfl, li1, u1⟩ (fun j σ G _ e => by obtain ⟨_, _, _, _, _, _, _, _, sm⟩ := e; exact SqL.of (sm _ _ hwl)) ?_ ?_
      · rintro j v σ G G' hj ⟨w3, w4, w5, w6, w7, w8, rfl, li, sG⟩ ⟨TT, x1, x2, rfl, hTT, rfl, e1, e2⟩
        cases e1
        have e2 : ps[j]? = some x2 := e2
        obtain ⟨wr, ew, q, rfl, hq⟩ := al.get e2
        have wm : wr ∈ ws := List.mem_of_getElem? ew
        have sT := Same.new (o := .tup [V.int ((j : Nat) : Int), V.ref q]) (Same.refl G) hTT
        have sGT := sG.trans sT
        have liT := li.keep sT
        refine ⟨TT, _, rfl, .inl (.inl upd_same), rfl, _, _, rfl, _, _, rfl, rfl, ?_⟩
        generalize upd G TT (.tup [V.int ((j : Nat) : Int), V.ref q]) = GT at sT sGT liT
        refine ⟨_, rfl, _, rfl, _, rfl, _, _, d, nm, wr, rfl, ⟨q, rfl, Same.tup sGT hq⟩, sGT _ _ hd, ok.nms, nodes.keep sGT, ok.src wr wm, ok.goal wr wm, ok.del wr wm, fun G2 s2 => ?_⟩
        have li2 := liT.keep s2
        have sG2 := sGT.trans s2
        refine ⟨_, rfl, q, _, rfl, Same.tup sG2 hq, rfl, _, _, rfl, _, _, rfl, _, _, rfl, _, _, rfl, rfl, ?_⟩
        obtain ⟨x, xm, exn, xp⟩ := ok.goal wr wm
        obtain ⟨i, ei⟩ := List.getElem?_of_mem xm
        have il : i < las.length := by
          rw [li2.len]
          exact (List.getElem?_eq_some_iff.mp ei).1
        obtain ⟨la, ela⟩ : ∃ la, las[i]? = some la := ⟨_, List.getElem?_eq_getElem il⟩
        have hla := li2.at_ i x la ei ela
        have vg : valV (dLead nm las) (Sum.inr wr.goal) = some (.ref la) := exn ▸ valV_lead ok.nms.nd ei ela
        have dg : DGet G2 D (.str wr.goal) (some (.ref la)) := by
          rw [← vg]
          exact DGet.k (k := Sum.inr wr.goal) li2.hd
        have nn : numAt (ws.take j) x.name wr.place = none := exn ▸ numAt_take ok ew
        have a0 : atI (leadL (ws.take j) x.name x.inf.ts.length) (wr.place : Int) = some .non := by
          refine atI_nat (j := wr.place) ?_
          rw [leadL_get xp, nn]
          rfl
        refine ⟨_, rfl, _, rfl, D, _, rfl, dg, _, rfl, la, _, _, .non, rfl, rfl, SqL.of hla, a0, rfl, _, rfl, iteF ?_⟩
        have exP : ixN (leadL (ws.take j) x.name x.inf.ts.length).length (wr.place : Int) = some wr.place := by
          rw [leadL_len]
          unfold ixN
          simp
          omega
        refine ⟨_, rfl, _, rfl, _, rfl, D, _, rfl, dg, _, rfl, la, _, _, wr.place, rfl, rfl, hla, exP, ?_⟩
        have lam := List.mem_of_getElem? ela
        have jl : (ws.take j).length = j := by
          rw [List.length_take]
          have := (List.getElem?_eq_some_iff.mp ew).1
          omega
        have wk : ws.take (j + 1) = ws.take j ++ [wr] := by
          rw [List.take_succ, ew]
          rfl
        refine ⟨_, _, _, _, _, _, rfl, ⟨?_, li2.len, li2.nd, li2.new, fun k y b ey eb => ?_⟩, Same.past sG2 (li2.new la lam).1⟩
        · rw [upd_ne (li2.new la lam).2.symm]
          exact li2.hd
        · rw [wk]
          by_cases z : b = la
          · have ki : k = i := by
              obtain ⟨k1, g1⟩ := List.getElem?_eq_some_iff.mp eb
              obtain ⟨k2, g2⟩ := List.getElem?_eq_some_iff.mp ela
              rcases Nat.lt_trichotomy k i with l | l | l
              · exact absurd (g1.trans (z.trans g2.symm)) (List.pairwise_iff_getElem.mp li2.nd k i k1 k2 l)
              · exact l
              · exact absurd (g2.trans (z.symm.trans g1.symm)) (List.pairwise_iff_getElem.mp li2.nd i k k2 k1 l)
            subst ki
            rw [ei] at ey
            cases ey
            rw [z, exn, leadL_set xp (numAt_take ok ew), jl, ← exn]
            exact upd_same
          · have ne : wr.goal ≠ y.name := fun q' => by
              have e3 : (nm.map Nm.name)[k]? = some y.name := by rw [List.getElem?_map, ey]; rfl
              have e4 : (nm.map Nm.name)[i]? = some y.name := by rw [List.getElem?_map, ei, ← q', ← exn]; rfl
              obtain ⟨k1, g1⟩ := List.getElem?_eq_some_iff.mp e3
              obtain ⟨k2, g2⟩ := List.getElem?_eq_some_iff.mp e4
              have : k = i := by
                rcases Nat.lt_trichotomy k i with l | l | l
                · exact absurd (g1.trans g2.symm) (List.pairwise_iff_getElem.mp ok.nms.nd k i k1 k2 l)
                · exact l
                · exact absurd (g2.trans g1.symm) (List.pairwise_iff_getElem.mp ok.nms.nd i k k2 k1 l)
              subst this
              rw [ela] at eb
              exact z (Option.some.inj eb).symm
            rw [leadL_other ne, upd_ne z]
            exact li2.at_ k y b ey eb
      · rintro σ G ⟨w3, w4, w5, w6, w7, w8, rfl, li, sG⟩
        rw [al.len, List.take_length] at li
        exact ⟨_, rfl, kk D las G sG fD li⟩
end
end Sw
namespace Sw
open PySem PySem.Spec PyProof.Rows L2
theorem numAt_some {ws : List Wr} {g : Str} {p : Nat} (h : ∃ w ∈ ws, w.goal = g ∧ w.place = p) : ∃ i, numAt ws g p = some i := by
  cases e : numAt ws g p with
  | some i => exact ⟨i, rfl⟩
  | none =>
    obtain ⟨w, hw, z⟩ := h
    unfold numAt at e
    rw [List.findIdx?_eq_none_iff] at e
    have := e w hw
    rw [decide_eq_true z] at this
    cases this
theorem dLead_get {nm : List Nm} {las : List Addr} {j : Nat} {k : Key} {v : V} (h : (dLead nm las)[j]? = some (k, v)) : ∃ x la, nm[j]? = some x ∧ las[j]? = some la ∧ k = Sum.inr x.name ∧ v = .ref la := by
  unfold dLead at h
  rw [List.getElem?_zipWith] at h
  cases ea : nm[j]? with
  | none => rw [ea] at h; cases h
  | some x =>
    cases eb : las[j]? with
    | none => rw [ea, eb] at h; cases h
    | some l =>
      rw [ea, eb] at h
      cases h
      exact ⟨x, l, rfl, rfl, rfl, rfl⟩
def spBare : Sp := fun vs H Q _ => ∃ (H0 : Hp) (dl : Addr) (nm : List Nm) (las : List Addr) (ws : List Wr), vs = [.ref dl] ∧ Lists H0 H dl nm las (fun x => leadL ws x.name x.inf.ts.length) ∧ WvOk nm ws ∧ ∀ H', Same H H' → Q .non H'
/-- the numbers of the wires ahead of j that lead from a name -/
def outN (ws : List Wr) (s : Str) : Nat → List Nat
  | 0 => []
  | j + 1 => outN ws s j ++ (if ws[j]?.map Wr.src = some s then [j] else [])
def outL (ws : List Wr) (s : Str) (j : Nat) : List V := (outN ws s j).map fun (n : Nat) => V.int (n : Int)
theorem outN_len (ws : List Wr) (s : Str) : ∀ j, (outN ws s j).length ≤ j
  | 0 => Nat.le_refl 0
  | j + 1 => by
    have := outN_len ws s j
    unfold outN
    rw [List.length_append]
    split <;> simp <;> omega
theorem outN_mem {ws : List Wr} {s : Str} : ∀ {j n : Nat}, n ∈ outN ws s j ↔ n < j ∧ ws[n]?.map Wr.src = some s
  | 0, n => by simp [outN]
  | j + 1, n => by
    unfold outN
    rw [List.mem_append, outN_mem (j := j)]
    constructor
    · rintro (⟨h1, h2⟩ | h)
      · exact ⟨by omega, h2⟩
      · split at h
        · rename_i z
          rw [List.mem_singleton.mp h]
          exact ⟨by omega, z⟩
        · cases h
    · rintro ⟨h1, h2⟩
      by_cases z : n = j
      · subst z
        right
        rw [if_pos h2]
        exact List.mem_singleton.mpr rfl
      · exact .inl ⟨by omega, h2⟩
def spLeav (K : PySem.W.Frag) : Sp := fun vs H Q _ => ∃ (wl d : Addr) (nm : List Nm) (ws : List Wr), vs = [.ref wl, .ref d] ∧ WiresAt K H wl ws ∧ H d = some (.dK (dNamed nm)) ∧ WvOk nm ws ∧ ∀ (dl : Addr) (las : List Addr) (H' : Hp), Same H H' → H dl = none → Lists H H' dl nm las (fun x => outL ws x.name ws.length) → Q (.ref dl) H'
/-- a list at one place is stored anew -/
theorem Lists.store {H0 H : Hp} {d : Addr} {nm : List Nm} {las : List Addr} {L L' : Nm → List V} (h : Lists H0 H d nm las L) (nd : (nm.map Nm.name).Nodup) {i : Nat} {x : Nm} {la : Addr} (ei : nm[i]? = some x) (ela : las[i]? = some la) (hx : L' x = L' x) (ho : ∀ y ∈ nm, y.name ≠ x.name → L' y = L y) : Lists H0 (L2.upd H la (.lst (L' x))) d nm las L' := by
  have lam := List.mem_of_getElem? ela
  refine ⟨?_, h.len, h.nd, h.new, fun k y b ey eb => ?_⟩
  · rw [upd_ne (h.new la lam).2.symm]
    exact h.hd
  · by_cases z : b = la
    · have ki : k = i := by
        obtain ⟨k1, g1⟩ := List.getElem?_eq_some_iff.mp eb
        obtain ⟨k2, g2⟩ := List.getElem?_eq_some_iff.mp ela
        rcases Nat.lt_trichotomy k i with l | l | l
        · exact absurd (g1.trans (z.trans g2.symm)) (List.pairwise_iff_getElem.mp h.nd k i k1 k2 l)
        · exact l
        · exact absurd (g2.trans (z.symm.trans g1.symm)) (List.pairwise_iff_getElem.mp h.nd i k k2 k1 l)
      subst ki
      rw [ei] at ey
      cases ey
      rw [z]
      exact upd_same
    · have ne : y.name ≠ x.name := fun q' => by
        have e3 : (nm.map Nm.name)[k]? = some y.name := by rw [List.getElem?_map, ey]; rfl
        have e4 : (nm.map Nm.name)[i]? = some y.name := by rw [List.getElem?_map, ei, q']; rfl
        obtain ⟨k1, g1⟩ := List.getElem?_eq_some_iff.mp e3
        obtain ⟨k2, g2⟩ := List.getElem?_eq_some_iff.mp e4
        have : k = i := by
          rcases Nat.lt_trichotomy k i with l | l | l
          · exact absurd (g1.trans g2.symm) (List.pairwise_iff_getElem.mp nd k i k1 k2 l)
          · exact l
          · exact absurd (g2.trans g1.symm) (List.pairwise_iff_getElem.mp nd i k k2 k1 l)
        subst this
        rw [ela] at eb
        exact z (Option.some.inj eb).symm
      rw [ho y (List.mem_of_getElem? ey) ne, upd_ne z]
      exact h.at_ k y b ey eb
section
variable {P : Program} {w : World} {K : PySem.W.Frag} {mg : Str → Option Value} {base : Heap} {f f1 f2 f3 f4 f5 f6 f7 f8 f9 C CN CO CI CW : Addr} {fd fd1 fd2 fd3 fd4 fd5 fd6 fd7 fd8 fd9 : FuncData}
abbrev nRefuseBare : List Str := ["leading", "name", "place", "number"]
theorem scRefuseBare : FnScope nRefuseBare ["leading"] (defScope sRefuseBare) := ⟨rfl, rfl, rfl, by decide +kernel, rfl, by decide +kernel, by decide +kernel⟩
theorem ok_bare (F : FnP K "refuse_bare" sRefuseBare f fd) (gEnum : mg "enumerate" = none) : FnOk P w K mg base CX0 1 f fd ["leading"] spBare := by
  refine F.ok scRefuseBare (fun vs H Q E h => ?_) (fun cdv A outer s H vs Q E hr h => ?_)
  · obtain ⟨H0, dl, nm, las, ws, rfl, _⟩ := h
    rfl
  · obtain ⟨H0, dl, nm, las, ws, rfl, li, ok, kk⟩ := h
    have hu := hu_of hr
    have nd := scRefuseBare.nd
    refine ⟨_, PSs.nox (pss_one (ps_lock (ps_for PassesOwn.never rfl (pi_keys (pv 0)) (pg_name (i := 1) nd rfl (Or.inl rfl))
      (pss_one (ps_for PassesOwn.never rfl (pi_enum rfl gEnum (pa_cons (pe_dget hu (pv 0) (pv 1) (fun _ _ => rfl)) pa_nil)) (pg_tup rfl (pgs_cons (pg_name (i := 2) nd rfl (Or.inl rfl)) (pgs_cons (pg_name (i := 3) nd rfl (Or.inl rfl)) pgs_nil)))
      (pss_one (ps_if (pt_cmpR op_isN (pv 3) pe_non (nomark _)) pss_never pss_nil))))))), ?_⟩
    refine ⟨dl, _, li.hd, trivial, fun od => ?_⟩
    have hL : (upd H dl (.frz od (.dK (dLead nm las)))) dl = some (.frz od (.dK (dLead nm las))) := upd_same
    have atL : ∀ (i : Nat) (x : Nm) (la : Addr), nm[i]? = some x → las[i]? = some la → (upd H dl (.frz od (.dK (dLead nm las)))) la = some (.lst (leadL ws x.name x.inf.ts.length)) := fun i x la e1 e2 => by
      rw [upd_ne (li.new la (List.mem_of_getElem? e2)).2]
      exact li.at_ i x la e1 e2
    generalize eHL : upd H dl (.frz od (.dK (dLead nm las))) = HL at hL atL
    refine ⟨_, rfl, dl, od, rfl, .inl ⟨_, hL, ?_⟩⟩
    refine for_it (walk_keys (d := dl) (o := od) (kvs := dLead nm las)) (fun j σ G => ∃ w1 w2 w3 : Option V, σ = [some (.ref dl), w1, w2, w3] ∧ Same HL G) ⟨_, _, _, rfl, Same.refl _⟩ (fun j σ G _ e => by obtain ⟨_, _, _, _, sm⟩ := e; exact sm _ _ hL) ?_ ?_
    · rintro j v σ G G' hj ⟨w1, w2, w3, rfl, sG⟩ ⟨rfl, k, v', ek, rfl⟩
      obtain ⟨x, la, ex, ela, rfl, rfl⟩ := dLead_get ek
      have xm : x ∈ nm := List.mem_of_getElem? ex
      refine ⟨_, rfl, _, rfl, dl, _, rfl, .inl ⟨_, Sum.inr x.name, .inr ⟨od, sG _ _ hL⟩, rfl, (valV_lead ok.nms.nd ex ela).symm⟩, la, _, rfl, SqL.of (sG _ _ (atL j x la ex ela)), ?_⟩
      refine for_it (walk_enum (xs := leadL ws x.name x.inf.ts.length)) (fun i σ G2 => ∃ w2 w3 : Option V, σ = [some (.ref dl), some (.str x.name), w2, w3] ∧ Same HL G2) ⟨_, _, rfl, sG⟩ (fun i σ G2 _ e => by obtain ⟨_, _, _, sm⟩ := e; exact SqL.of (sm _ _ (atL j x la ex ela))) ?_ ?_
      · rintro i v σ G2 G3 hi ⟨w2, w3, rfl, sG2⟩ ⟨TT, x1, x2, rfl, hTT, rfl, e1, e2⟩
        cases e1
        rw [leadL_len] at hi
        have e2 : (leadL ws x.name x.inf.ts.length)[i]? = some x2 := e2
        rw [leadL_get hi] at e2
        obtain ⟨n, en⟩ := numAt_some (ok.all x xm i hi)
        rw [en] at e2
        cases e2
        refine ⟨TT, _, rfl, .inl (.inl upd_same), rfl, _, _, rfl, _, _, rfl, rfl, ?_⟩
        refine ⟨_, rfl, rfl, _, rfl, iteF ?_⟩
        exact ⟨_, _, rfl, Same.new sG2 hTT⟩
      · rintro σ G2 ⟨w2, w3, rfl, sG2⟩
        exact ⟨_, _, _, rfl, sG2⟩
    · rintro σ G ⟨w1, w2, w3, rfl, sG⟩
      exact ⟨sG _ _ hL, kk _ (unlock li.hd (eHL ▸ sG))⟩
end
end Sw
namespace Sw
open PySem PySem.Spec PyProof.Rows L2
/-- fresh lists for all nodes, as a comprehension over the names makes them -/
theorem Lists.snoc {H0 H H1 : Hp} {d la : Addr} {nm : List Nm} {las : List Addr} {L : Nm → List V} {x : Nm} (li : Lists H0 H d nm las L) (s : Same H H1) (fla : H0 la = none) (free : H la = none) (hla : H1 la = some (.lst (L x))) : Lists H0 (L2.upd H1 d (.dK (dLead nm las ++ [(Sum.inr x.name, .ref la)]))) d (nm ++ [x]) (las ++ [la]) L := by
  have laD : la ≠ d := (ne_of_none li.hd free).symm
  refine ⟨?_, ?_, ?_, fun a ha => ?_, fun i y a ey ea => ?_⟩
  · rw [dLead_snoc li.len.symm]
    exact upd_same
  · rw [List.length_append, List.length_append, li.len]
    rfl
  · rw [List.nodup_append]
    refine ⟨li.nd, List.nodup_cons.mpr ⟨List.not_mem_nil, List.nodup_nil⟩, fun a ha b hb => ?_⟩
    rw [List.mem_singleton.mp hb]
    intro z
    obtain ⟨i, ei⟩ := List.getElem?_of_mem ha
    have il := (List.getElem?_eq_some_iff.mp ei).1
    rw [li.len] at il
    have := li.at_ i _ a (List.getElem?_eq_getElem il) ei
    rw [z, free] at this
    cases this
  · rcases List.mem_append.mp ha with ha | ha
    · exact li.new a ha
    · rw [List.mem_singleton.mp ha]
      exact ⟨fla, laD⟩
  · by_cases z : i < las.length
    · rw [List.getElem?_append_left (by rw [← li.len]; exact z)] at ey
      rw [List.getElem?_append_left z] at ea
      rw [upd_ne (li.new a (List.mem_of_getElem? ea)).2]
      exact s _ _ (li.at_ i y a ey ea)
    · have il := (List.getElem?_eq_some_iff.mp ea).1
      rw [List.length_append] at il
      have e0 : i = las.length := by
        have : [la].length = 1 := rfl
        omega
      subst e0
      rw [List.getElem?_concat_length] at ea
      rw [li.len, List.getElem?_concat_length] at ey
      cases ea
      cases ey
      rw [upd_ne laD]
      exact hla
theorem Lists.none {H0 : Hp} {H : Hp} {d : Addr} {L : Nm → List V} (h : H d = some (.dK [])) : Lists H0 H d [] [] L := ⟨h, rfl, List.nodup_nil, fun _ h => (List.not_mem_nil h).elim, fun i x la h => by cases h⟩
theorem Lists.other {H0 H0' H H1 : Hp} {d : Addr} {nm : List Nm} {las : List Addr} {L L' : Nm → List V} (li : Lists H0 H d nm las L) (h0 : ∀ a, H0 a = Option.none → H0' a = Option.none) (hd : H1 d = some (.dK (dLead nm las))) (h : ∀ (i : Nat) (x : Nm) (la : Addr), nm[i]? = some x → las[i]? = some la → H1 la = some (.lst (L' x))) : Lists H0' H1 d nm las L' := ⟨hd, li.len, li.nd, fun a ha => ⟨h0 a (li.new a ha).1, (li.new a ha).2⟩, h⟩
section
variable {P : Program} {w : World} {K : PySem.W.Frag} {mg : Str → Option Value} {base : Heap} {f f1 f2 f3 f4 f5 f6 f7 f8 f9 C CN CO CI CW : Addr} {fd fd1 fd2 fd3 fd4 fd5 fd6 fd7 fd8 fd9 : FuncData}
abbrev nWiresBySource : List Str := ["wires", "named", "leaving", "number", "wire", "name"]
theorem scWiresBySource : FnScope nWiresBySource ["wires", "named"] (defScope sWiresBySource) := ⟨rfl, rfl, rfl, by decide +kernel, rfl, by decide +kernel, by decide +kernel⟩
theorem ok_leav (F : FnP K "wires_by_source" sWiresBySource f fd) (gEnum : mg "enumerate" = none) : FnOk P w K mg base CX0 1 f fd ["wires", "named"] (spLeav K) := by
  refine F.ok scWiresBySource (fun vs H Q E h => ?_) (fun cdv A outer s H vs Q E hr h => ?_)
  · obtain ⟨wl, d, nm, ws, rfl, _⟩ := h
    rfl
  · obtain ⟨wl, d, nm, ws, rfl, ⟨ps, hwl, al⟩, hd, ok, kk⟩ := h
    have hu := hu_of hr
    have nd := scWiresBySource.nd
    have few := ok.nms.few
    refine ⟨_, PSs.nox (pss_cons (ps_lock (ps_setDc (i := 2) (own := [("name", 5)]) (g := (gName 5)) (tt := tYes) rfl nd rfl rfl (swd_true rfl rfl rfl rfl) (pi_keys (pv 1)) (blkOk_by (N := nWiresBySource) (sc := defScope sWiresBySource) (by decide +kernel))
        (fun _ _ _ _ _ => (pg_name (i := 5) nd rfl (Or.inl rfl))) (fun _ _ _ _ _ => pts_nil) (fun _ _ _ _ _ => (pv 5)) (fun _ _ _ _ _ => (pe_lst pa_nil))))
      (pss_cons (ps_for PassesOwn.never rfl (pi_enum rfl gEnum (pa_cons (pv 0) pa_nil)) (pg_tup rfl (pgs_cons (pg_name (i := 3) nd rfl (Or.inl rfl)) (pgs_cons (pg_name (i := 4) nd rfl (Or.inl rfl)) pgs_nil)))
      (pss_one (ps_expr (pe_bm PySem.F.plainAttrs_list PySem.F.slot_list_append PySem.F.type_list_append mt_append (pe_dget hu (pv 2) (pe_ix ix_tup (pv 4) pe_int (fun _ _ => rfl)) (fun _ _ => rfl)) (pa_cons (pv 3) pa_nil)))))
      (pss_one (ps_ret (pv 2))))), ?_⟩
    refine ⟨d, _, hd, trivial, fun od => ?_⟩
    have hL : (upd H d (.frz od (.dK (dNamed nm)))) d = some (.frz od (.dK (dNamed nm))) := upd_same
    have freeL : ∀ {a : Addr}, (upd H d (.frz od (.dK (dNamed nm)))) a = none → H a = none := fun {a} e => by
      by_cases z : a = d
      · rw [z, hL] at e
        cases e
      · rw [upd_ne z] at e
        exact e
    generalize eHL : upd H d (.frz od (.dK (dNamed nm))) = HL at hL freeL
    refine ⟨_, rfl, d, od, rfl, .inl ⟨_, hL, fun D hD => ?_⟩⟩
    have nDd : D ≠ d := (ne_of_none hL hD).symm
    refine dc_it (walk_keys (d := d) (o := od) (kvs := dNamed nm)) (fun j H' => ∃ las, Lists HL H' D (nm.take j) las (fun _ => []) ∧ Same HL H') ⟨[], by rw [List.take_zero]; exact Lists.none upd_same, Same.past (Same.refl _) hD⟩ (fun j H' _ e => by obtain ⟨_, _, sm⟩ := e; exact sm _ _ hL) (fun j v H' H'' hj e y => ?_) (fun H' e => ?_)
    · obtain ⟨las, li, sm⟩ := e
      obtain ⟨rfl, k, v', ek, rfl⟩ := y
      obtain ⟨x, ex, rfl, rfl⟩ := dNamed_get ek
      refine ⟨rfl, ?_⟩
      refine yes_ite ?_
      refine ⟨_, rfl, (by show 0 ≤ sizeLine; decide), fun la hla => ?_⟩
      have s1 := Same.new (o := .lst []) (Same.refl H'') hla
      have nk : nm.take (j + 1) = nm.take j ++ [x] := by
        rw [List.take_succ, ex]
        rfl
      refine ⟨_, Sum.inr x.name, rfl, s1 _ _ li.hd, ?_, las ++ [la], ?_, Same.past (sm.trans s1) hD⟩
      · rw [dLead_len li.len, List.length_take]
        exact Nat.lt_of_le_of_lt (show _ ≤ 24 by omega) (by decide)
      rw [putK_new (dLead_no (name_ahead ok.nms.nd ex)), nk]
      exact li.snoc s1 (sm.free hla) hla upd_same
    · obtain ⟨las, li, sm⟩ := e
      have dn : (dNamed nm).length = nm.length := by
        unfold dNamed
        rw [List.length_map]
      rw [dn, List.take_length] at li
      refine ⟨sm _ _ hL, ?_⟩
      have u1 : Same H (upd H' d (.dK (dNamed nm))) := unlock hd (eHL ▸ sm)
      have fD : H D = none := freeL hD
      have li1 : Lists H (upd H' d (.dK (dNamed nm))) D nm las (fun x => outL ws x.name 0) := by
        refine li.other (fun a => freeL) (by rw [upd_ne nDd]; exact li.hd) fun i x a ex ea => ?_
        rw [upd_ne (fun z => by
          have := (li.new a (List.mem_of_getElem? ea)).1
          rw [z, hL] at this
          cases this)]
        exact li.at_ i x a ex ea
      generalize upd H' d (.dK (dNamed nm)) = H1 at u1 li1
      clear li sm
      refine ⟨_, rfl, wl, _, rfl, SqL.of (u1 _ _ hwl), ?_⟩
      refine for_it (walk_enum (xs := ps)) (fun j σ G => ∃ w3 w4 : Option V, σ = [some (.ref wl), some (.ref d), some (.ref D), w3, w4, none] ∧ Lists H G D nm las (fun x => outL ws x.name j) ∧ Same H G) ⟨_, _, rfl, li1, u1⟩ (fun j σ G _ e => by obtain ⟨_, _, _, _, sm⟩ := e; exact SqL.of (sm _ _ hwl)) ?_ ?_
      · rintro j v σ G G' hj ⟨w3, w4, rfl, li, sG⟩ ⟨TT, x1, x2, rfl, hTT, rfl, e1, e2⟩
        cases e1
        have e2 : ps[j]? = some x2 := e2
        obtain ⟨wr, ew, q, rfl, hq⟩ := al.get e2
        have wm : wr ∈ ws := List.mem_of_getElem? ew
        have sT := Same.new (o := .tup [V.int ((j : Nat) : Int), V.ref q]) (Same.refl G) hTT
        have sGT := sG.trans sT
        have liT := li.keep sT
        refine ⟨TT, _, rfl, .inl (.inl upd_same), rfl, _, _, rfl, _, _, rfl, rfl, ?_⟩
        generalize upd G TT (.tup [V.int ((j : Nat) : Int), V.ref q]) = GT at sT sGT liT
        obtain ⟨x, xm, exn, _⟩ := ok.src wr wm
        obtain ⟨i, ei⟩ := List.getElem?_of_mem xm
        have il : i < las.length := by
          rw [liT.len]
          exact (List.getElem?_eq_some_iff.mp ei).1
        obtain ⟨la, ela⟩ : ∃ la, las[i]? = some la := ⟨_, List.getElem?_eq_getElem il⟩
        have hla := liT.at_ i x la ei ela
        have dg : DGet GT D (.str wr.src) (some (.ref la)) := by
          rw [← (exn ▸ valV_lead ok.nms.nd ei ela : valV (dLead nm las) (Sum.inr wr.src) = some (.ref la))]
          exact DGet.k (k := Sum.inr wr.src) liT.hd
        refine ⟨_, rfl, _, rfl, q, _, _, _, rfl, rfl, Same.tup sGT hq, atI_nat (j := 0) rfl, D, _, rfl, dg, .inl ⟨rfl, _, SqL.of hla⟩, _, rfl, la, _, _, rfl, rfl, hla, ?_, ?_⟩
        · unfold outL
          rw [List.length_map]
          have := outN_len ws x.name j
          have := ok.few
          have := (List.getElem?_eq_some_iff.mp ew).1
          exact Nat.lt_of_le_of_lt (show _ ≤ 48 by omega) (by decide)
        have es : ∀ y : Nm, outL ws y.name (j + 1) = outL ws y.name j ++ (if wr.src = y.name then [V.int (j : Int)] else []) := fun y => by
          unfold outL
          show (outN ws y.name j ++ _).map _ = _
          rw [List.map_append, ew]
          congr 1
          by_cases z : wr.src = y.name
          · rw [if_pos z, if_pos (by rw [Option.map_some, z])]
            rfl
          · rw [if_neg z, if_neg (show ¬ Option.map Wr.src (some wr) = some y.name from fun q' => z (Option.some.inj q'))]
            rfl
        refine ⟨_, _, rfl, ?_, Same.past sGT (liT.new la (List.mem_of_getElem? ela)).1⟩
        have := liT.store (L' := fun x => outL ws x.name (j + 1)) ok.nms.nd ei ela rfl (fun y hy ne => by
          rw [es y, if_neg (fun z => ne (z.symm.trans exn.symm)), List.append_nil])
        rw [show outL ws x.name (j + 1) = outL ws x.name j ++ [V.int (j : Int)] by rw [es x, if_pos exn.symm]] at this
        exact this
      · rintro σ G ⟨w3, w4, rfl, li, sG⟩
        rw [al.len] at li
        exact ⟨_, rfl, kk D las G sG fD li⟩
end
end Sw
namespace Sw
open PySem PySem.Spec PyProof.Rows L2
/-! ### where one comes to -/
def dReach (rs : List Str) : List (Key × V) := rs.map fun s => (Sum.inr s, .bl true)
theorem reach_in {rs : List Str} {s : Str} : (valV (dReach rs) (Sum.inr s)).isSome = decide (s ∈ rs) := by
  induction rs with
  | nil => rfl
  | cons a r ih =>
    unfold valV dReach at ih ⊢
    rw [List.map_cons, List.find?_cons]
    by_cases z : a = s
    · rw [decide_eq_true (congrArg Sum.inr z), decide_eq_true (by rw [z]; exact List.mem_cons_self)]
      rfl
    · rw [decide_eq_false (fun q => z (Sum.inr.inj q))]
      show _ = decide (s ∈ a :: r)
      rw [ih]
      congr 1
      apply propext
      rw [List.mem_cons]
      exact ⟨.inr, fun h => h.resolve_left (Ne.symm z)⟩
theorem reach_put {rs : List Str} {s : Str} (h : s ∉ rs) : putK (dReach rs) (Sum.inr s) (.bl true) = dReach (rs ++ [s]) := by
  have : valV (dReach rs) (Sum.inr s) = none := by
    have e := reach_in (rs := rs) (s := s)
    rw [decide_eq_false h] at e
    cases z : valV (dReach rs) (Sum.inr s) with
    | none => rfl
    | some v => rw [z] at e; cases e
  rw [putK_new this]
  unfold dReach
  rw [List.map_append]
  rfl
theorem reach_again {rs : List Str} {s : Str} (h : s ∈ rs) : putK (dReach rs) (Sum.inr s) (.bl true) = dReach rs := by
  unfold putK
  rw [if_pos (show (dReach rs).any (fun kv => decide (kv.1 = Sum.inr s)) = true from List.any_eq_true.mpr ⟨(Sum.inr s, .bl true), List.mem_map.mpr ⟨s, h, rfl⟩, decide_eq_true rfl⟩)]
  unfold dReach
  rw [List.map_map]
  apply List.map_congr_left
  intro a _
  show (if (Sum.inr a : Key) = Sum.inr s then ((Sum.inr a : Key), V.bl true) else (Sum.inr a, V.bl true)) = _
  split <;> rfl
/-- rows of names by the nodes' names -/
def strL (l : List Str) : List V := l.map V.str
/-- one comes there from the starts -/
inductive RL (nm : List Nm) (L : Nm → List Str) (starts : List Str) : Str → Prop
  | start {s : Str} : s ∈ starts → RL nm L starts s
  | step {x : Nm} {s : Str} : x ∈ nm → RL nm L starts x.name → s ∈ L x → RL nm L starts s
/-- each once, in order -/
def onceF (acc : List Str) (s : Str) : List Str := if s ∈ acc then acc else acc ++ [s]
def once (l : List Str) : List Str := l.foldl onceF []
theorem onceF_mem {acc : List Str} {x s : Str} : s ∈ onceF acc x ↔ s ∈ acc ∨ s = x := by
  unfold onceF
  split
  · rename_i h
    exact ⟨.inl, fun z => z.elim id (fun e => e ▸ h)⟩
  · rw [List.mem_append, List.mem_singleton]
theorem onceF_nd {acc : List Str} {x : Str} (h : acc.Nodup) : (onceF acc x).Nodup := by
  unfold onceF
  split
  · exact h
  · rename_i n
    rw [List.nodup_append]
    exact ⟨h, List.nodup_cons.mpr ⟨List.not_mem_nil, List.nodup_nil⟩, fun a ha b hb q => n (by rw [← List.mem_singleton.mp hb, ← q]; exact ha)⟩
theorem once_memA {s : Str} : ∀ {l acc : List Str}, s ∈ l.foldl onceF acc ↔ s ∈ acc ∨ s ∈ l
  | [], acc => ⟨.inl, fun z => z.elim id (fun e => nomatch e)⟩
  | x :: l, acc => by
    rw [List.foldl_cons, once_memA, onceF_mem, List.mem_cons, or_assoc]
theorem once_mem {s : Str} {l : List Str} : s ∈ once l ↔ s ∈ l := by
  unfold once
  rw [once_memA]
  exact ⟨fun z => z.elim (fun e => nomatch e) id, .inr⟩
theorem once_ndA : ∀ {l acc : List Str}, acc.Nodup → (l.foldl onceF acc).Nodup
  | [], _, h => h
  | _ :: l, _, h => by
    rw [List.foldl_cons]
    exact once_ndA (onceF_nd h)
theorem once_nd {l : List Str} : (once l).Nodup := once_ndA List.nodup_nil
theorem once_snoc {l : List Str} {x : Str} : once (l ++ [x]) = onceF (once l) x := by
  unfold once
  rw [List.foldl_append]
  rfl
def spReached : Sp := fun vs H Q _ => ∃ (H0 : Hp) (st on : Addr) (starts : List Str) (nm : List Nm) (las : List Addr) (L : Nm → List Str), vs = [.ref st, .ref on] ∧ H st = some (.lst (strL starts)) ∧ starts.length ≤ 24 ∧ Lists H0 H on nm las (fun x => strL (L x)) ∧ NmsOk nm ∧ (∀ s ∈ starts, s ∈ nm.map Nm.name) ∧ (∀ x ∈ nm, ∀ s ∈ L x, s ∈ nm.map Nm.name) ∧
  ∀ (r : Addr) (rs : List Str) (H' : Hp), Same H H' → H r = none → H' r = some (.dK (dReach rs)) → (∀ s ∈ starts, s ∈ rs) → (∀ x ∈ nm, x.name ∈ rs → ∀ s ∈ L x, s ∈ rs) → (∀ s ∈ rs, s ∈ nm.map Nm.name) → (∀ s ∈ rs, RL nm L starts s) → Q (.ref r) H'
theorem nodup_len : ∀ {rs ns : List Str}, rs.Nodup → (∀ x ∈ rs, x ∈ ns) → rs.length ≤ ns.length
  | [], _, _, _ => Nat.zero_le _
  | a :: r, ns, h, s => by
    have h1 := List.nodup_cons.mp h
    have am := s a List.mem_cons_self
    have ih := nodup_len (ns := ns.erase a) h1.2 fun x hx => (List.mem_erase_of_ne (fun z => h1.1 (by rw [← z]; exact hx))).mpr (s x (List.mem_cons_of_mem _ hx))
    rw [List.length_erase_of_mem am] at ih
    have := List.length_pos_of_mem am
    rw [List.length_cons]
    omega
theorem nm_inj {nm : List Nm} (nd : (nm.map Nm.name).Nodup) {x y : Nm} (hx : x ∈ nm) (hy : y ∈ nm) (e : x.name = y.name) : x = y := by
  obtain ⟨i, ei⟩ := List.getElem?_of_mem hx
  obtain ⟨j, ej⟩ := List.getElem?_of_mem hy
  have e1 : (nm.map Nm.name)[i]? = some x.name := by rw [List.getElem?_map, ei]; rfl
  have e2 : (nm.map Nm.name)[j]? = some x.name := by rw [List.getElem?_map, ej, e]; rfl
  obtain ⟨i1, f1⟩ := List.getElem?_eq_some_iff.mp e1
  obtain ⟨j1, f2⟩ := List.getElem?_eq_some_iff.mp e2
  have : i = j := by
    rcases Nat.lt_trichotomy i j with z | z | z
    · exact absurd (f1.trans f2.symm) (List.pairwise_iff_getElem.mp nd i j i1 j1 z)
    · exact z
    · exact absurd (f2.trans f1.symm) (List.pairwise_iff_getElem.mp nd j i j1 i1 z)
  rw [this, ej] at ei
  exact (Option.some.inj ei).symm
theorem seq_while {c : L2.TT} {tb u : L2.TS} {D : L2.Ends} {σ : L2.St} {H : Hp} (h : L2.tWhile c tb { D with nx := u D } σ H) : L2.tSeq (L2.tWhile c tb) u D σ H := h
section
variable {P : Program} {w : World} {K : PySem.W.Frag} {mg : Str → Option Value} {base : Heap} {f f1 f2 f3 f4 f5 f6 f7 f8 f9 C CN CO CI CW : Addr} {fd fd1 fd2 fd3 fd4 fd5 fd6 fd7 fd8 fd9 : FuncData}
abbrev nAllReached : List Str := ["starts", "onward", "reached", "coming", "here", "name"]
theorem scAllReached : FnScope nAllReached ["starts", "onward"] (defScope sAllReached) := ⟨rfl, rfl, rfl, by decide +kernel, rfl, by decide +kernel, by decide +kernel⟩
theorem ok_reached (F : FnP K "all_reached" sAllReached f fd) (gList : mg "list" = none) : FnOk P w K mg base CX0 1 f fd ["starts", "onward"] spReached := by
  refine F.ok scAllReached (fun vs H Q E h => ?_) (fun cdv A outer s H vs Q E hr h => ?_)
  · obtain ⟨H0, st, on, starts, nm, las, L, rfl, _⟩ := h
    rfl
  · obtain ⟨H0, st, on, starts, nm, las, L, rfl, hst, snd, li, nok, sin, lin, kk⟩ := h
    have hu := hu_of hr
    have nd := scAllReached.nd
    have few : (nm.map Nm.name).length ≤ 24 := by
      rw [List.length_map]
      exact nok.few
    refine ⟨_, PSs.nox (pss_cons (ps_setDc (i := 2) (own := [("name", 5)]) (g := (gName 5)) (tt := tYes) rfl nd rfl rfl (swd_true rfl rfl rfl rfl) (pi_list (pv 0)) (blkOk_by (N := nAllReached) (sc := defScope sAllReached) (by decide +kernel))
        (fun _ _ _ _ _ => (pg_name (i := 5) nd rfl (Or.inl rfl))) (fun _ _ _ _ _ => pts_nil) (fun _ _ _ _ _ => (pv 5)) (fun _ _ _ _ _ => pe_bl))
      (pss_cons (ps_set (i := 3) nd rfl (Or.inl rfl) (pe_callTy (call_list_ofK (K := K) rfl) (by rfl) gList PyProof.Rows.boot_list (pa_cons (pv 0) pa_nil)))
      (pss_cons (ps_while PassesOwn.never (pt_truth (pv 3) (fun _ => rfl))
      (pss_cons (ps_set (i := 4) nd rfl (Or.inl rfl) (pe_bm0 PySem.F.plainAttrs_list PySem.F.slot_list_pop PySem.F.type_list_pop mt_pop (pv 3)))
      (pss_one (ps_for PassesOwn.never rfl (pi_list (pe_dget hu (pv 1) (pv 4) (fun _ _ => rfl))) (pg_name (i := 5) nd rfl (Or.inl rfl))
      (pss_one (ps_if (pt_cmp (pc_dnotin hu (pv 5) (pv 2))) (pss_cons (ps_dput hu (pv 2) (pv 5) pe_bl rfl)
      (pss_one (ps_expr (pe_bm PySem.F.plainAttrs_list PySem.F.slot_list_append PySem.F.type_list_append mt_append (pv 3) (pa_cons (pv 5) pa_nil))))) pss_nil))))))
      (pss_one (ps_ret (pv 2)))))), ?_⟩
    refine ⟨_, rfl, st, rfl, ⟨_, SqL.of hst⟩, fun r hr0 => ?_⟩
    refine dc_it (walk_list (xs := strL starts)) (fun j H' => H' r = some (.dK (dReach (once (starts.take j)))) ∧ Same H H') ⟨by rw [List.take_zero]; exact upd_same, Same.past (Same.refl _) hr0⟩ (fun j H' _ e => SqL.of (e.2 _ _ hst)) (fun j v H' H'' hj e y => ?_) (fun H1 e => ?_)
    · obtain ⟨hrr, sm⟩ := e
      obtain ⟨rfl, ex⟩ := y
      unfold strL at ex
      rw [List.getElem?_map] at ex
      obtain ⟨x, ey, e0⟩ := Option.map_eq_some_iff.mp ex
      clear ex
      have ex := ey
      clear ey
      subst e0
      refine ⟨rfl, ?_⟩
      refine yes_ite ?_
      refine ⟨_, rfl, _, Sum.inr x, rfl, hrr, ?_, ?_, Same.past sm hr0⟩
      · unfold dReach
        rw [List.length_map]
        have := nodup_len (once_nd (l := starts.take j)) (fun s h => sin s (List.mem_of_mem_take (once_mem.mp h)))
        exact Nat.lt_of_le_of_lt (show _ ≤ 24 by omega) (by decide)
      · rw [List.take_succ, ex]
        show _ = some (HO.dK (dReach (once (starts.take j ++ [x]))))
        rw [once_snoc]
        unfold onceF
        by_cases z : x ∈ once (starts.take j)
        · rw [if_pos z, reach_again z]
          exact upd_same
        · rw [if_neg z, reach_put z]
          exact upd_same
    · obtain ⟨hrr, s1⟩ := e
      have sl : (strL starts).length = starts.length := by
        unfold strL
        rw [List.length_map]
      rw [sl, List.take_length] at hrr
      refine ⟨_, rfl, st, _, rfl, .inl (SqL.of (s1 _ _ hst)), fun co hco => ?_⟩
      have nrc : r ≠ co := ne_of_none hrr hco
      have s2 := Same.new (o := .lst (strL starts)) (Same.refl H1) hco
      have fco : H co = none := s1.free hco
      -- what is reached is closed but for what is coming
      dsimp only [gName]
      refine seq_while (while_by (fun σ G => ∃ (w4 w5 : Option V) (rs cs : List Str), σ = [some (.ref st), some (.ref on), some (.ref r), some (.ref co), w4, w5] ∧ G r = some (.dK (dReach rs)) ∧ G co = some (.lst (strL cs)) ∧ Same H G ∧ rs.Nodup ∧ (∀ s ∈ rs, s ∈ nm.map Nm.name) ∧ (∀ s ∈ cs, s ∈ rs) ∧ (∀ s ∈ starts, s ∈ rs) ∧ (∀ x ∈ nm, x.name ∈ rs → x.name ∉ cs → ∀ s ∈ L x, s ∈ rs) ∧ 2 * (24 - rs.length) + cs.length ≤ 72 ∧ ∀ s ∈ rs, RL nm L starts s)
        (fun σ G => match G r, G co with
          | some (.dK kvs), some (.lst xs) => 2 * (24 - kvs.length) + xs.length
          | _, _ => 0)
        ⟨_, _, once starts, starts, rfl, s2 _ _ hrr, upd_same, s1.trans s2, once_nd, fun s h => sin s (once_mem.mp h), fun s h => once_mem.mpr h, fun s h => once_mem.mpr h, fun x _ h1 h2 => absurd (once_mem.mp h1) h2, by omega, fun s h => .start (once_mem.mp h)⟩ ?_ ?_)
      · rintro σ G ⟨w4, w5, rs, cs, rfl, hR, hC, sG, rnd, rin, cin, stin, clo, clen, rl0⟩
        refine ⟨_, rfl, _, .inl ⟨_, SqL.of hC, rfl⟩, ?_⟩
        rcases List.eq_nil_or_concat cs with rfl | ⟨c1, here, rfl⟩
        · refine iteF_ rfl ?_
          exact ⟨_, rfl, kk r rs G sG hr0 hR stin (fun x hx h => clo x hx h List.not_mem_nil) rin rl0⟩
        · rw [List.concat_eq_append] at hC cin clo clen ⊢
          have e2 : strL (c1 ++ [here]) = strL c1 ++ [V.str here] := by
            unfold strL
            rw [List.map_append]
            rfl
          rw [e2] at hC ⊢
          refine iteT_ (by cases strL c1 <;> rfl) ?_
          have mu0 : (match G r, G co with
            | some (.dK kvs), some (.lst xs) => 2 * (24 - kvs.length) + xs.length
            | _, _ => 0) = 2 * (24 - rs.length) + (c1.length + 1) := by
            rw [hR, hC]
            show 2 * (24 - (dReach rs).length) + (strL c1 ++ [V.str here]).length = _
            unfold dReach strL
            rw [List.length_map, List.length_append, List.length_map]
            rfl
          rw [mu0]
          clear mu0
          refine ⟨_, rfl, .inl ⟨rfl, _, SqL.of hC⟩, co, _, V.str here, rfl, rfl, hC, ?_, ?_⟩
          · rw [List.length_append]
            exact List.getElem?_concat_length
          rw [List.dropLast_concat]
          obtain ⟨x, xm, ex⟩ := List.mem_map.mp (rin here (cin here (List.mem_append_right _ List.mem_cons_self)))
          obtain ⟨i, ei⟩ := List.getElem?_of_mem xm
          have il : i < las.length := by
            rw [li.len]
            exact (List.getElem?_eq_some_iff.mp ei).1
          obtain ⟨la, ela⟩ : ∃ la, las[i]? = some la := ⟨_, List.getElem?_eq_getElem il⟩
          have sG1 : Same H (upd G co (.lst (strL c1))) := Same.past sG fco
          have hR1 : upd G co (.lst (strL c1)) r = some (.dK (dReach rs)) := by
            rw [upd_ne nrc]
            exact hR
          have hC1 : upd G co (.lst (strL c1)) co = some (.lst (strL c1)) := upd_same
          generalize upd G co (.lst (strL c1)) = G1 at sG1 hR1 hC1
          have dg : DGet G1 on (.str here) (some (.ref la)) := by
            rw [← (ex ▸ valV_lead nok.nd ei ela : valV (dLead nm las) (Sum.inr here) = some (.ref la))]
            exact DGet.k (k := Sum.inr here) (sG1 _ _ li.hd)
          refine ⟨_, rfl, _, rfl, on, _, rfl, dg, la, rfl, ⟨_, SqL.of (sG1 _ _ (li.at_ i x la ei ela))⟩, ?_⟩
          refine for_list (xs := strL (L x)) (fun j σ G => ∃ (w5 : Option V) (rs1 cs1 : List Str), σ = [some (.ref st), some (.ref on), some (.ref r), some (.ref co), some (.str here), w5] ∧ G r = some (.dK (dReach rs1)) ∧ G co = some (.lst (strL cs1)) ∧ Same H G ∧ rs1.Nodup ∧ (∀ s ∈ rs1, s ∈ nm.map Nm.name) ∧ (∀ s ∈ cs1, s ∈ rs1) ∧ (∀ s ∈ rs, s ∈ rs1) ∧ (∀ s ∈ (L x).take j, s ∈ rs1) ∧ (∀ x ∈ nm, x.name ∈ rs1 → x.name ∉ cs1 → x.name ≠ here → ∀ s ∈ L x, s ∈ rs1) ∧ (∀ s ∈ rs1, RL nm L starts s) ∧ 2 * (24 - rs1.length) + cs1.length ≤ 2 * (24 - rs.length) + c1.length)
            ⟨_, rs, c1, rfl, hR1, hC1, sG1, rnd, rin, fun s h => cin s (List.mem_append_left _ h), fun s h => h, (fun s h => by rw [List.take_zero] at h; cases h), fun y hy h1 h2 h3 => clo y hy h1 (fun z => (List.mem_append.mp z).elim h2 (fun z => h3 (List.mem_singleton.mp z))), rl0, Nat.le_refl _⟩
            (fun j σ G _ e => by obtain ⟨_, _, _, _, _, _, sm, _⟩ := e; exact SqL.of (sm _ _ (li.at_ i x la ei ela))) ?_ ?_
          · rintro j v σ G2 ev ⟨w5, rs1, cs1, rfl, hR2, hC2, sG2, rnd2, rin2, cin2, sub2, tk2, clo2, clen2, mu2⟩
            have ev' := ev
            unfold strL at ev'
            rw [List.getElem?_map] at ev'
            obtain ⟨n, en, e0⟩ := Option.map_eq_some_iff.mp ev'
            clear ev' ev
            subst e0
            have nin : n ∈ nm.map Nm.name := lin x xm n (List.mem_of_getElem? en)
            have tks : ∀ rs' : List Str, (∀ s ∈ rs1, s ∈ rs') → n ∈ rs' → ∀ s ∈ (L x).take (j + 1), s ∈ rs' := fun rs' h1 h2 s hs => by
              rw [List.take_succ, en] at hs
              rcases List.mem_append.mp hs with hs | hs
              · exact h1 s (tk2 s hs)
              · rw [List.mem_singleton.mp hs]
                exact h2
            have dg2 : DGet G2 r (.str n) (valV (dReach rs1) (Sum.inr n)) := DGet.k (k := Sum.inr n) hR2
            have rl : rs1.length ≤ 24 := Nat.le_trans (nodup_len rnd2 rin2) few
            refine ⟨_, rfl, _, rfl, r, _, rfl, dg2, _, rfl, ?_⟩
            by_cases z : n ∈ rs1
            · refine iteF_ (by rw [reach_in, decide_eq_true z]; rfl) ?_
              exact ⟨_, rs1, cs1, rfl, hR2, hC2, sG2, rnd2, rin2, cin2, sub2, tks rs1 (fun s h => h) z, clo2, clen2, mu2⟩
            · refine iteT_ (by rw [reach_in, decide_eq_false z]; rfl) ?_
              have rl1 : (n :: rs1).length ≤ 24 := Nat.le_trans (nodup_len (List.nodup_cons.mpr ⟨z, rnd2⟩) (fun s h => by
                rcases List.mem_cons.mp h with h | h
                · rw [h]; exact nin
                · exact rin2 s h)) few
              rw [List.length_cons] at rl1
              refine ⟨_, rfl, _, rfl, r, _, rfl, DPut.k (k := Sum.inr n) hR2 ?_, ?_⟩
              · unfold dReach
                rw [List.length_map]
                exact Nat.lt_of_le_of_lt rl (by decide)
              rw [reach_put z]
              have hC3 : upd G2 r (.dK (dReach (rs1 ++ [n]))) co = some (.lst (strL cs1)) := by
                rw [upd_ne nrc.symm]
                exact hC2
              refine ⟨_, rfl, .inl ⟨rfl, _, SqL.of hC3⟩, _, rfl, co, _, _, rfl, rfl, hC3, ?_, ?_⟩
              · unfold strL
                rw [List.length_map]
                have := clen
                rw [List.length_append] at this
                have : cs1.length ≤ 72 := by
                  show _ ≤ _
                  omega
                exact Nat.lt_of_le_of_lt this (by decide)
              refine ⟨_, rs1 ++ [n], cs1 ++ [n], rfl, ?_, ?_, Same.past (Same.past sG2 hr0) fco, ?_, ?_, ?_, ?_, ?_, ?_, ?_, ?_⟩
              · rw [upd_ne nrc]
                exact upd_same
              · rw [upd_same]
                unfold strL
                rw [List.map_append]
                rfl
              · rw [List.nodup_append]
                exact ⟨rnd2, List.nodup_cons.mpr ⟨List.not_mem_nil, List.nodup_nil⟩, fun a ha b hb q => z (by rw [← List.mem_singleton.mp hb, ← q]; exact ha)⟩
              · intro s h
                rcases List.mem_append.mp h with h | h
                · exact rin2 s h
                · rw [List.mem_singleton.mp h]; exact nin
              · intro s h
                rcases List.mem_append.mp h with h | h
                · exact List.mem_append_left _ (cin2 s h)
                · exact List.mem_append_right _ h
              · exact fun s h => List.mem_append_left _ (sub2 s h)
              · exact tks _ (fun s h => List.mem_append_left _ h) (List.mem_append_right _ List.mem_cons_self)
              · intro y hy h1 h2 h3 s hs
                rcases List.mem_append.mp h1 with h1 | h1
                · exact List.mem_append_left _ (clo2 y hy h1 (fun q => h2 (List.mem_append_left _ q)) h3 s hs)
                · exact absurd (List.mem_append_right _ h1) h2
              · intro s h
                rcases List.mem_append.mp h with h | h
                · exact clen2 s h
                · rw [List.mem_singleton.mp h]
                  exact .step xm (by rw [ex]; exact rl0 here (cin here (List.mem_append_right _ List.mem_cons_self))) (List.mem_of_getElem? en)
              · rw [List.length_append, List.length_append]
                show 2 * (24 - (rs1.length + 1)) + (cs1.length + 1) ≤ _
                omega
          · rintro σ G2 ⟨w5, rs1, cs1, rfl, hR2, hC2, sG2, rnd2, rin2, cin2, sub2, tk2, clo2, clen2, mu2⟩
            have ll : (strL (L x)).length = (L x).length := by
              unfold strL
              rw [List.length_map]
            rw [ll, List.take_length] at tk2
            refine ⟨⟨_, _, rs1, cs1, rfl, hR2, hC2, sG2, rnd2, rin2, cin2, fun s h => sub2 s (stin s h), fun y hy h1 h2 s hs => ?_, ?_, clen2⟩, ?_⟩
            · by_cases z : y.name = here
              · have : y = x := nm_inj nok.nd hy xm (z.trans ex.symm)
                rw [this] at hs
                exact tk2 s hs
              · exact clo2 y hy h1 h2 z s hs
            · have := clen
              rw [List.length_append] at this
              have : c1.length + 1 = c1.length + [here].length := rfl
              omega
            · rw [hR2, hC2]
              show 2 * (24 - (dReach rs1).length) + (strL cs1).length < _
              unfold dReach strL
              rw [List.length_map, List.length_map]
              omega
      · rintro σ G Q1 Q2 hq ⟨v, e1, k, e2, e3⟩
        exact ⟨v, e1, k, e2, hq _ _ e3⟩
end
end Sw
namespace Sw
open PySem PySem.Spec PyProof.Rows L2
/-! ### all is fed -/
def goN (ws : List Wr) (n : Nat) : Str := match ws[n]? with
  | some w => w.goal
  | none => ""
theorem goN_at {ws : List Wr} {n : Nat} {w : Wr} (h : ws[n]? = some w) : goN ws n = w.goal := by
  unfold goN
  rw [h]
/-- where the wires from a name lead to -/
def onN (ws : List Wr) (s : Str) : List Str := (outN ws s ws.length).map (goN ws)
theorem onN_of {ws : List Wr} {w : Wr} (h : w ∈ ws) : w.goal ∈ onN ws w.src := by
  obtain ⟨i, ei⟩ := List.getElem?_of_mem h
  unfold onN
  rw [List.mem_map]
  exact ⟨i, outN_mem.mpr ⟨(List.getElem?_eq_some_iff.mp ei).1, by rw [ei]; rfl⟩, goN_at ei⟩
theorem onN_in {ws : List Wr} {s g : Str} (h : g ∈ onN ws s) : ∃ w ∈ ws, w.src = s ∧ w.goal = g := by
  unfold onN at h
  obtain ⟨n, hn, e⟩ := List.mem_map.mp h
  obtain ⟨_, h2⟩ := outN_mem.mp hn
  obtain ⟨w, ew, es⟩ := Option.map_eq_some_iff.mp h2
  exact ⟨w, List.mem_of_getElem? ew, es, by rw [← e, goN_at ew]⟩
def startN (nm : List Nm) : List Str := (nm.filter fun x => x.inf.inl).map Nm.name
theorem reach_all {nm : List Nm} {ws : List Wr} (ok : WvOk nm ws) {rs : List Str} (h1 : ∀ s ∈ startN nm, s ∈ rs) (h2 : ∀ x ∈ nm, x.name ∈ rs → ∀ s ∈ onN ws x.name, s ∈ rs) : ∀ x ∈ nm, x.name ∈ rs := by
  have : ∀ s, Reach nm ws s → s ∈ rs := fun s r => by
    induction r with
    | inl h i => exact h1 _ (List.mem_map.mpr ⟨_, List.mem_filter.mpr ⟨h, i⟩, rfl⟩)
    | step h r ih =>
      obtain ⟨y, hy, ey, _⟩ := ok.src _ h
      exact h2 y hy (by rw [ey]; exact ih) _ (by rw [ey]; exact onN_of h)
  exact fun x hx => this _ (ok.reach x hx)

abbrev scUnfed1 : Scope := { kind := .function, names := [(Str.ofString ".0", .local), (Str.ofString "name", .local), (Str.ofString "leaving", .cell), (Str.ofString "wires", .cell)], isGenerator := false, isCoroutine := false }
def spUnfed {K : PySem.W.Frag} {CN CO CI : Addr} (S : Sorts K CN CO CI) : Sp := fun vs H Q _ => ∃ (H0 : Hp) (d wl dl : Addr) (nm : List Nm) (las : List Addr) (ws : List Wr), vs = [.ref d, .ref wl, .ref dl] ∧ dl ≠ d ∧ H d = some (.dK (dNamed nm)) ∧ WiresAt K H wl ws ∧ Lists H0 H dl nm las (fun x => outL ws x.name ws.length) ∧ WvOk nm ws ∧ Nodes S nm H ∧ ∀ H', Same H H' → Q .non H'
section
variable {P : Program} {w : World} {K : PySem.W.Frag} {mg : Str → Option Value} {base : Heap} {f f1 f2 f3 f4 f5 f6 f7 f8 f9 C CN CO CI CW : Addr} {fd fd1 fd2 fd3 fd4 fd5 fd6 fd7 fd8 fd9 : FuncData}
abbrev nRefuseUnfed : List Str := ["named", "wires", "leaving", "onward", "reached", "name", "number"]
theorem scRefuseUnfed : FnScope nRefuseUnfed ["named", "wires", "leaving"] (defScope sRefuseUnfed) := ⟨rfl, rfl, rfl, by decide +kernel, rfl, by decide +kernel, by decide +kernel⟩
theorem ok_unfed (S : Sorts K CN CO CI) (F : FnP K "refuse_unfed" sRefuseUnfed f fd) (GRe : FnOk P w K mg base CX0 1 f1 fd1 ["starts", "onward"] spReached) (gRe : mg "all_reached" = some (.ref f1)) (kRe : PySem.W.keepIn K (.ref f1) = true) (bRe : Binds K fd1 ["starts", "onward"] []) (gI : mg "Inlet" = some (.ref CI)) (gIs : mg "isinstance" = none) : FnOk P w K mg base CX0 2 f fd ["named", "wires", "leaving"] (spUnfed S) := by
  refine F.ok scRefuseUnfed (fun vs H Q E h => ?_) (fun cdv A outer s H vs Q E hr h => ?_)
  · obtain ⟨H0, d, wl, dl, nm, las, ws, rfl, _⟩ := h
    rfl
  · obtain ⟨H0, d, wl, dl, nm, las, ws, rfl, ndl, hd, ⟨ps, hwl, al⟩, li, ok, nodes, kk⟩ := h
    have hu := hu_of hr
    have nd := scRefuseUnfed.nd
    have few := ok.nms.few
    refine ⟨_, PSs.nox (pss_cons (ps_lock (ps_setDc (i := 3) (own := [("name", 5)]) (g := (gName 5)) (tt := tYes) rfl nd rfl rfl (swd_true rfl rfl rfl rfl) (pi_keys (pv 0)) (blkOk_by (N := nRefuseUnfed) (sc := defScope sRefuseUnfed) (by decide +kernel))
        (fun _ _ _ _ _ => (pg_name (i := 5) nd rfl (Or.inl rfl))) (fun _ _ _ _ _ => pts_nil) (fun _ _ _ _ _ => (pv 5)) (fun _ _ _ _ _ => (pe_lc (own := [("number", 6)]) (g := (gName 6)) (tt := tYes) rfl nd (pi_listK (K := K) rfl (pe_dget hu (pv 2) (pv 5) (fun _ _ => rfl))) (blkOk_by (N := nRefuseUnfed) (sc := scUnfed1) (by decide +kernel))
        (fun _ _ _ _ _ => (pg_name (i := 6) nd rfl (Or.inl rfl))) (fun _ _ _ _ _ => pts_nil) (fun _ _ _ _ _ => (pe_ix (ix_tupK (K := K) rfl) (pe_ix (ix_listK (K := K) rfl) (pv 1) (pv 6) (fun _ _ => rfl)) pe_int (fun _ _ => rfl)))))))
      (pss_cons (ps_set (i := 4) nd rfl (Or.inl rfl) (pe_call GRe hr rfl gRe kRe bRe .nil pass0 (pa_cons (pe_lock (pe_lc (own := [("name", 5)]) (g := (gName 5)) (tt := _) rfl nd (pi_keys (pv 0)) (blkOk_by (N := nRefuseUnfed) (sc := defScope sRefuseUnfed) (by decide +kernel))
        (fun _ _ _ _ _ => (pg_name (i := 5) nd rfl (Or.inl rfl))) (fun _ _ _ _ _ => (pts_one (pt_val (pe_callB (call_isiG (K := K) rfl) (by rfl) gIs boot_isinstance (pa_cons (pe_dget hu (pv 0) (pv 5) (fun _ _ => rfl)) (pa_cons (pe_glob (v := .ref CI) rfl gI rfl) pa_nil)))))) (fun _ _ _ _ _ => (pv 5)))) (pa_cons (pv 3) pa_nil))))
      (pss_one (ps_lock (ps_for PassesOwn.never rfl (pi_keys (pv 0)) (pg_name (i := 5) nd rfl (Or.inl rfl))
      (pss_one (ps_if (pt_cmp (pc_dnotin hu (pv 5) (pv 4))) pss_never pss_nil))))))), ?_⟩
    -- where each name leads to
    refine ⟨d, _, hd, trivial, fun od => ?_⟩
    have hL : (upd H d (.frz od (.dK (dNamed nm)))) d = some (.frz od (.dK (dNamed nm))) := upd_same
    have freeL : ∀ {a : Addr}, (upd H d (.frz od (.dK (dNamed nm)))) a = none → H a = none := fun {a} e => by
      by_cases z : a = d
      · rw [z, hL] at e
        cases e
      · rw [upd_ne z] at e
        exact e
    have wlL : (upd H d (.frz od (.dK (dNamed nm)))) wl = some (.lst ps) := lock_ne hd hwl (fun _ z => by cases z)
    have alL : Al (WireAt K (upd H d (.frz od (.dK (dNamed nm))))) ps ws := al.imp fun p x ⟨q, e, h⟩ => ⟨q, e, lock_tup hd h⟩
    have atL : ∀ (i : Nat) (x : Nm) (la : Addr), nm[i]? = some x → las[i]? = some la → (upd H d (.frz od (.dK (dNamed nm)))) la = some (.lst (outL ws x.name ws.length)) := fun i x la e1 e2 => lock_ne hd (li.at_ i x la e1 e2) (fun _ z => by cases z)
    have dlL : (upd H d (.frz od (.dK (dNamed nm)))) dl = some (.dK (dLead nm las)) := by
      rw [upd_ne ndl]
      exact li.hd
    generalize eHL : upd H d (.frz od (.dK (dNamed nm))) = HL at hL freeL wlL alL atL dlL
    refine ⟨_, rfl, d, od, rfl, .inl ⟨_, hL, fun D hD => ?_⟩⟩
    have nDd : D ≠ d := (ne_of_none hL hD).symm
    refine dc_it (walk_keys (d := d) (o := od) (kvs := dNamed nm)) (fun j H' => ∃ las, Lists HL H' D (nm.take j) las (fun x => strL (onN ws x.name)) ∧ Same HL H') ⟨[], by rw [List.take_zero]; exact Lists.none upd_same, Same.past (Same.refl _) hD⟩ (fun j H' _ e => by obtain ⟨_, _, sm⟩ := e; exact sm _ _ hL) (fun j v H' H'' hj e y => ?_) (fun H' e => ?_)
    · obtain ⟨las2, li2, sm⟩ := e
      obtain ⟨rfl, k, v', ek, rfl⟩ := y
      obtain ⟨x, ex, rfl, rfl⟩ := dNamed_get ek
      have xm : x ∈ nm := List.mem_of_getElem? ex
      have jl : j < las.length := by
        rw [li.len]
        exact (List.getElem?_eq_some_iff.mp ex).1
      obtain ⟨la, ela⟩ : ∃ la, las[j]? = some la := ⟨_, List.getElem?_eq_getElem jl⟩
      refine ⟨rfl, ?_⟩
      refine yes_ite ?_
      refine ⟨_, rfl, _, rfl, _, rfl, dl, _, rfl, .inl ⟨_, Sum.inr x.name, .inl (sm _ _ dlL), rfl, (valV_lead ok.nms.nd ex ela).symm⟩, la, rfl, ⟨_, SqL.of (sm _ _ (atL j x la ex ela))⟩, fun G hG => ?_⟩
      have nDG : D ≠ G := ne_of_none li2.hd hG
      refine lc_list (xs := outL ws x.name ws.length) (fun i G1 => G1 G = some (.lst (strL ((onN ws x.name).take i))) ∧ Same H'' G1) ⟨by rw [List.take_zero]; exact upd_same, Same.past (Same.refl _) hG⟩ (fun i G1 _ e => SqL.of (e.2 _ _ (sm _ _ (atL j x la ex ela)))) (fun i v G1 ev e => ?_) (fun G1 e => ?_)
      · obtain ⟨hG1, s1⟩ := e
        unfold outL at ev
        rw [List.getElem?_map] at ev
        obtain ⟨n, en, e0⟩ := Option.map_eq_some_iff.mp ev
        clear ev
        subst e0
        obtain ⟨nl, h2⟩ := outN_mem.mp (List.mem_of_getElem? en)
        obtain ⟨wr, ew, es⟩ := Option.map_eq_some_iff.mp h2
        have pl : n < ps.length := by
          rw [alL.len]
          exact nl
        obtain ⟨wr', ew', q, eq, hq⟩ := alL.get (List.getElem?_eq_getElem pl)
        rw [ew] at ew'
        cases ew'
        refine ⟨rfl, ?_⟩
        refine yes_ite ?_
        have il : i < (outN ws x.name ws.length).length := (List.getElem?_eq_some_iff.mp en).1
        have eg : (onN ws x.name)[i]? = some wr.goal := by
          unfold onN
          rw [List.getElem?_map, en, Option.map_some, goN_at ew]
        refine ⟨_, rfl, _, rfl, wl, _, _, _, rfl, rfl, SqL.of (s1 _ _ (sm _ _ wlL)), atI_nat (List.getElem?_eq_getElem pl), q, _, _, _, eq, rfl, Same.tup (sm.trans s1) hq, atI_nat (j := 1) rfl, _, hG1, ?_, ?_, Same.past s1 hG⟩
        · unfold strL
          rw [List.length_map, List.length_take]
          have := outN_len ws x.name ws.length
          have := ok.few
          exact Nat.lt_of_le_of_lt (show _ ≤ 48 by omega) (by decide)
        · rw [upd_same, List.take_succ, eg]
          unfold strL
          rw [List.map_append]
          rfl
      · obtain ⟨hG1, s1⟩ := e
        have ll : (outL ws x.name ws.length).length = (onN ws x.name).length := by
          unfold outL onN
          rw [List.length_map, List.length_map]
        rw [ll, List.take_length] at hG1
        have nk : nm.take (j + 1) = nm.take j ++ [x] := by
          rw [List.take_succ, ex]
          rfl
        refine ⟨_, Sum.inr x.name, rfl, s1 _ _ li2.hd, ?_, las2 ++ [G], ?_, Same.past (sm.trans s1) hD⟩
        · rw [dLead_len li2.len, List.length_take]
          exact Nat.lt_of_le_of_lt (show _ ≤ 24 by omega) (by decide)
        rw [putK_new (dLead_no (name_ahead ok.nms.nd ex)), nk]
        exact li2.snoc s1 (sm.free hG) hG hG1
    · obtain ⟨las2, li2, sm⟩ := e
      have dn : (dNamed nm).length = nm.length := by
        unfold dNamed
        rw [List.length_map]
      rw [dn, List.take_length] at li2
      refine ⟨sm _ _ hL, ?_⟩
      have u1 : Same H (upd H' d (.dK (dNamed nm))) := unlock hd (eHL ▸ sm)
      have li1 : Lists H (upd H' d (.dK (dNamed nm))) D nm las2 (fun x => strL (onN ws x.name)) := by
        refine li2.other (fun a => freeL) (by rw [upd_ne nDd]; exact li2.hd) fun i x a ex ea => ?_
        rw [upd_ne (fun z => by
          have := (li2.new a (List.mem_of_getElem? ea)).1
          rw [z, hL] at this
          cases this)]
        exact li2.at_ i x a ex ea
      have fD : H D = none := freeL hD
      generalize upd H' d (.dK (dNamed nm)) = H1 at u1 li1
      clear li2 sm
      -- the names of the inlets
      have hd1 := u1 _ _ hd
      have n1 := nodes.keep u1
      refine ⟨d, _, hd1, trivial, fun oe => ?_⟩
      have hM : (upd H1 d (.frz oe (.dK (dNamed nm)))) d = some (.frz oe (.dK (dNamed nm))) := upd_same
      have nodesM : ∀ x ∈ nm, NodeIn S x.adr x.inf (upd H1 d (.frz oe (.dK (dNamed nm)))) := fun x hx => (n1 x hx).dict hd1
      have freeM : ∀ {a : Addr}, (upd H1 d (.frz oe (.dK (dNamed nm)))) a = none → H1 a = none := fun {a} e => by
        by_cases z : a = d
        · rw [z, hM] at e
          cases e
        · rw [upd_ne z] at e
          exact e
      generalize eHM : upd H1 d (.frz oe (.dK (dNamed nm))) = HM at hM nodesM freeM
      refine ⟨_, rfl, d, oe, rfl, .inl ⟨_, hM, fun st hst => ?_⟩⟩
      have nsd : st ≠ d := (ne_of_none hM hst).symm
      refine lc_it (walk_keys (d := d) (o := oe) (kvs := dNamed nm)) (fun j H' => H' st = some (.lst (strL (startN (nm.take j)))) ∧ Same HM H') ⟨by rw [List.take_zero]; exact upd_same, Same.past (Same.refl _) hst⟩ (fun j H' _ e => e.2 _ _ hM) (fun j v H' H'' hj e y => ?_) (fun H2 e => ?_)
      · obtain ⟨hs1, sm⟩ := e
        obtain ⟨rfl, k, v', ek, rfl⟩ := y
        obtain ⟨x, ex, rfl, rfl⟩ := dNamed_get ek
        have xm : x ∈ nm := List.mem_of_getElem? ex
        obtain ⟨B, hB, hat, _, hinl⟩ := (nodesM x xm).keep sm
        obtain ⟨dx, fs, hin, _⟩ := S.ins B _ _ _ hat
        have isI := S.isI B hB
        rw [hinl] at isI
        have nk : startN (nm.take (j + 1)) = startN (nm.take j) ++ (if x.inf.inl = true then [x.name] else []) := by
          rw [List.take_succ, ex]
          unfold startN
          rw [List.filter_append, List.map_append]
          congr 1
          by_cases z : x.inf.inl = true
          · rw [if_pos z]
            show (List.filter _ [x]).map _ = _
            rw [List.filter_cons, if_pos z]
            rfl
          · rw [if_neg z]
            show (List.filter _ [x]).map _ = _
            rw [List.filter_cons, if_neg z]
            rfl
        refine ⟨rfl, ?_⟩
        refine ⟨_, rfl, _, rfl, d, _, rfl, .inl ⟨_, Sum.inr x.name, .inr ⟨oe, sm _ _ hM⟩, rfl, (valV_named ok.nms.nd xm).symm⟩, _, _, _, _, x.inf.inl, rfl, ClsV.own _, (S.isN B hB).ty (S.cls B hB) hin, isI, _, rfl, ?_⟩
        cases z : x.inf.inl with
        | true =>
          rw [z, if_pos rfl] at nk
          refine iteT ?_
          refine ⟨_, rfl, _, hs1, ?_, ?_, Same.past sm hst⟩
          · unfold strL startN
            rw [List.length_map, List.length_map]
            have h1 := List.length_filter_le (fun x : Nm => x.inf.inl) (nm.take j)
            rw [List.length_take] at h1
            exact Nat.lt_of_le_of_lt (show _ ≤ 24 by omega) (by decide)
          · rw [nk, upd_same]
            unfold strL
            rw [List.map_append]
            rfl
        | false =>
          rw [z, if_neg (by decide), List.append_nil] at nk
          refine iteF ?_
          rw [nk]
          exact ⟨hs1, sm⟩
      · obtain ⟨hs1, sm⟩ := e
        rw [dn, List.take_length] at hs1
        refine ⟨sm _ _ hM, ?_⟩
        have u2 : Same H1 (upd H2 d (.dK (dNamed nm))) := unlock hd1 (eHM ▸ sm)
        have hst2 : upd H2 d (.dK (dNamed nm)) st = some (.lst (strL (startN nm))) := by
          rw [upd_ne nsd]
          exact hs1
        generalize upd H2 d (.dK (dNamed nm)) = H3 at u2 hst2
        have snm : ∀ s ∈ startN nm, s ∈ nm.map Nm.name := fun s hs => by
          obtain ⟨y, hy, ey⟩ := List.mem_map.mp hs
          exact List.mem_map.mpr ⟨y, (List.mem_filter.mp hy).1, ey⟩
        refine ⟨_, rfl, H, st, D, startN nm, nm, las2, fun x => onN ws x.name, rfl, hst2, ?_, li1.keep u2, ok.nms, snm, fun x hx s hs => ?_, ?_⟩
        · have h0 : (startN nm).Nodup := List.Pairwise.sublist (List.Sublist.map _ List.filter_sublist) ok.nms.nd
          have := nodup_len h0 snm
          rw [List.length_map] at this
          have := ok.nms.few
          omega
        · obtain ⟨w', hw', _, e2⟩ := onN_in hs
          obtain ⟨y, hy, ey, _⟩ := ok.goal w' hw'
          exact List.mem_map.mpr ⟨y, hy, ey.trans e2⟩
        intro r rs H4 s4 fr hr4 c1 c2 c3 _
        have all := reach_all ok c1 c2
        have u4 := u1.trans (u2.trans s4)
        have hd4 := u4 _ _ hd
        -- none is left out
        refine ⟨d, _, hd4, trivial, fun og => ?_⟩
        have hG : (upd H4 d (.frz og (.dK (dNamed nm)))) d = some (.frz og (.dK (dNamed nm))) := upd_same
        have nrd : r ≠ d := fun z => by
          rw [z, (u1.trans u2) _ _ hd] at fr
          cases fr
        have rG : (upd H4 d (.frz og (.dK (dNamed nm)))) r = some (.dK (dReach rs)) := by
          rw [upd_ne nrd]
          exact hr4
        generalize eHG : upd H4 d (.frz og (.dK (dNamed nm))) = HG at hG rG
        refine ⟨_, rfl, d, og, rfl, .inl ⟨_, hG, ?_⟩⟩
        refine for_it (walk_keys (d := d) (o := og) (kvs := dNamed nm)) (fun j σ G => ∃ w5 : Option V, σ = [some (.ref d), some (.ref wl), some (.ref dl), some (.ref D), some (.ref r), w5, none] ∧ Same HG G) ⟨_, rfl, Same.refl _⟩ (fun j σ G _ e => by obtain ⟨_, _, sm⟩ := e; exact sm _ _ hG) ?_ ?_
        · rintro j v σ G G' hj ⟨w5, rfl, sG⟩ ⟨rfl, k, v', ek, rfl⟩
          obtain ⟨x, ex, rfl, rfl⟩ := dNamed_get ek
          have xm : x ∈ nm := List.mem_of_getElem? ex
          refine ⟨_, rfl, _, rfl, r, _, rfl, DGet.k (k := Sum.inr x.name) (sG _ _ rG), _, rfl, ?_⟩
          refine iteF_ (by rw [reach_in, decide_eq_true (all x xm)]; rfl) ?_
          exact ⟨_, rfl, sG⟩
        · rintro σ G ⟨w5, rfl, sG⟩
          exact ⟨sG _ _ hG, kk _ (u4.trans (unlock hd4 (eHG ▸ sG)))⟩
end
end Sw
namespace Sw
open PySem PySem.Spec PyProof.Rows L2
/-! ### a weave, as it stands -/
/-- the heap without one place -/
def wo (p : Addr) (H : Hp) : Hp := fun a => if a = p then none else H a
theorem wo_self {p : Addr} {H : Hp} : wo p H p = none := by
  unfold wo
  rw [if_pos rfl]
theorem wo_ne {p a : Addr} {H : Hp} (h : a ≠ p) : wo p H a = H a := by
  unfold wo
  rw [if_neg h]
theorem wo_same {p : Addr} {H : Hp} : Same (wo p H) H := fun b o h => by
  by_cases z : b = p
  · rw [z, wo_self] at h
    cases h
  · rw [wo_ne z] at h
    exact h
theorem wo_upd {p : Addr} {H : Hp} {o : HO} : Same (wo p H) (L2.upd H p o) := Same.past wo_same wo_self
theorem wo_mono {p : Addr} {H H1 : Hp} (s : Same H H1) : Same (wo p H) (wo p H1) := fun b o h => by
  by_cases z : b = p
  · rw [z, wo_self] at h
    cases h
  · rw [wo_ne z] at h ⊢
    exact s _ _ h
theorem Lists.wo {H0 H : Hp} {d p : Addr} {nm : List Nm} {las : List Addr} {L : Nm → List V} (li : Lists H0 H d nm las L) {o : HO} (hp : H0 p = some o) (hd : H0 d = Option.none) : Lists H0 (wo p H) d nm las L := ⟨by rw [wo_ne (fun z => by rw [z, hp] at hd; cases hd)]; exact li.hd, li.len, li.nd, li.new, fun i x la e1 e2 => by
  rw [wo_ne (fun z => by
    have := (li.new la (List.mem_of_getElem? e2)).1
    rw [z, hp] at this
    cases this)]
  exact li.at_ i x la e1 e2⟩
theorem same_wo {p : Addr} {H0 H : Hp} (s : Same H0 H) (h : H0 p = none) : Same H0 (wo p H) := fun b o e => by
  by_cases z : b = p
  · rw [z, h] at e
    cases e
  · rw [wo_ne z]
    exact s _ _ e
theorem wo_tup {K : PySem.W.Frag} {p q C dx : Addr} {H : Hp} {fs : List (Str × V)} {xs : List V} (hp : H p = some (.ins C dx fs)) (h : SqT K H q xs) : SqT K (wo p H) q xs := by
  rcases h with (h | ⟨o, h⟩) | h
  · exact .inl (.inl (by rw [wo_ne (fun z => by rw [z, hp] at h; cases h)]; exact h))
  · exact .inl (.inr ⟨o, by rw [wo_ne (fun z => by rw [z, hp] at h; cases h)]; exact h⟩)
  · exact .inr h
theorem Lists.any {H0 H : Hp} {d : Addr} {nm : List Nm} {las : List Addr} {L : Nm → List V} (li : Lists H0 H d nm las L) : Lists (fun _ => Option.none) H d nm las L := ⟨li.hd, li.len, li.nd, fun a h => ⟨rfl, (li.new a h).2⟩, li.at_⟩
theorem putW1 (d : V) : putF "named" d [] = ([("named", d)] : List (Str × V)) := rfl
theorem putW2 (d e : V) : putF "leading" e ([("named", d)] : List (Str × V)) = ([("named", d), ("leading", e)] : List (Str × V)) := by
  unfold putF
  rw [if_neg (by decide +kernel)]
  rfl
theorem putW3 (d e f : V) : putF "laid" f ([("named", d), ("leading", e)] : List (Str × V)) = ([("named", d), ("leading", e), ("laid", f)] : List (Str × V)) := by
  unfold putF
  rw [if_neg (by decide +kernel)]
  unfold putF
  rw [if_neg (by decide +kernel)]
  rfl
theorem putW4 (d e f g : V) : putF "leaving" g ([("named", d), ("leading", e), ("laid", f)] : List (Str × V)) = ([("named", d), ("leading", e), ("laid", f), ("leaving", g)] : List (Str × V)) := by
  unfold putF
  rw [if_neg (by decide +kernel)]
  unfold putF
  rw [if_neg (by decide +kernel)]
  unfold putF
  rw [if_neg (by decide +kernel)]
  rfl
structure WvF (K : PySem.W.Frag) {CN CO CI : Addr} (S : Sorts K CN CO CI) (H : Hp) (d dl ld dv : Addr) (nm : List Nm) (ws : List Wr) : Prop where
  named : H d = some (.dK (dNamed nm))
  lead : ∃ las, Lists (fun _ => none) H dl nm las (fun x => leadL ws x.name x.inf.ts.length)
  laid : WiresAt K H ld ws
  leav : ∃ las, Lists (fun _ => none) H dv nm las (fun x => outL ws x.name ws.length)
  nodes : Nodes S nm H
def wvF (d dl ld dv : Addr) : List (Str × V) := [("named", .ref d), ("leading", .ref dl), ("laid", .ref ld), ("leaving", .ref dv)]
def WvAt (K : PySem.W.Frag) {CN CO CI : Addr} (S : Sorts K CN CO CI) (CW : Addr) (H : Hp) (p : Addr) (nm : List Nm) (ws : List Wr) : Prop := ∃ dx d dl ld dv, H p = some (.ins CW dx (wvF d dl ld dv)) ∧ WvF K S H d dl ld dv nm ws
theorem Lists.base {G0 H0 H : Hp} {d : Addr} {nm : List Nm} {las : List Addr} {L : Nm → List V} (li : Lists G0 H d nm las L) (s : Same H0 G0) : Lists H0 H d nm las L := ⟨li.hd, li.len, li.nd, fun a h => ⟨s.free (li.new a h).1, (li.new a h).2⟩, li.at_⟩
/-- the places of a weave are new ones -/
def WvAtN (K : PySem.W.Frag) {CN CO CI : Addr} (S : Sorts K CN CO CI) (CW : Addr) (H0 H : Hp) (p : Addr) (nm : List Nm) (ws : List Wr) : Prop := ∃ dx d dl ld dv, H p = some (.ins CW dx (wvF d dl ld dv)) ∧ WvF K S H d dl ld dv nm ws ∧ H0 d = none ∧ H0 dl = none ∧ H0 ld = none ∧ H0 dv = none ∧
  (∃ las, Lists H0 H dl nm las (fun x => leadL ws x.name x.inf.ts.length)) ∧ (∃ las, Lists H0 H dv nm las (fun x => outL ws x.name ws.length))
theorem WvAtN.at {K : PySem.W.Frag} {CN CO CI CW : Addr} {S : Sorts K CN CO CI} {H0 H : Hp} {p : Addr} {nm : List Nm} {ws : List Wr} (h : WvAtN K S CW H0 H p nm ws) : WvAt K S CW H p nm ws := by
  obtain ⟨dx, d, dl, ld, dv, hp, h, _⟩ := h
  exact ⟨dx, d, dl, ld, dv, hp, h⟩
def spWvInit (K : PySem.W.Frag) {CN CO CI : Addr} (S : Sorts K CN CO CI) (CW : Addr) : Sp := fun vs H Q _ => ∃ (H0 : Hp) (p dx nl wl : Addr) (nm : List Nm) (ws : List Wr), vs = [.ref p, .ref nl, .ref wl] ∧ Same H0 H ∧ H0 p = none ∧ H p = some (.ins CW dx []) ∧ PairsAt K H0 nl nm ∧ WiresAt K H0 wl ws ∧ WvOk nm ws ∧ Nodes S nm H0 ∧ ∀ H', Same H0 H' → WvAtN K S CW H0 H' p nm ws → Q .non H'
section
variable {P : Program} {w : World} {K : PySem.W.Frag} {mg : Str → Option Value} {base : Heap} {f f1 f2 f3 f4 f5 f6 f7 f8 f9 C CN CO CI CW : Addr} {fd fd1 fd2 fd3 fd4 fd5 fd6 fd7 fd8 fd9 : FuncData}
abbrev nWeaveInit : List Str := ["self", "nodes", "wires", "source", "goal", "place", "delay"]
theorem scWeaveInit : FnScope nWeaveInit ["self", "nodes", "wires"] (defScope sWeaveInit) := ⟨rfl, rfl, rfl, by decide +kernel, rfl, by decide +kernel, by decide +kernel⟩
theorem ok_wvInit (S : Sorts K CN CO CI) (F : FnM K "__init__" "Weave.__init__" sWeaveInit f fd) (GNa : FnOk P w K mg base CX0 2 f1 fd1 ["nodes"] (spNamed S)) (gNa : mg "nodes_by_name" = some (.ref f1)) (kNa : PySem.W.keepIn K (.ref f1) = true) (bNa : Binds K fd1 ["nodes"] [])
    (GLe : FnOk P w K mg base CX0 4 f2 fd2 ["wires", "named"] (spLead S)) (gLe : mg "wires_by_goal" = some (.ref f2)) (kLe : PySem.W.keepIn K (.ref f2) = true) (bLe : Binds K fd2 ["wires", "named"] [])
    (GBa : FnOk P w K mg base CX0 1 f3 fd3 ["leading"] spBare) (gBa : mg "refuse_bare" = some (.ref f3)) (kBa : PySem.W.keepIn K (.ref f3) = true) (bBa : Binds K fd3 ["leading"] [])
    (GLv : FnOk P w K mg base CX0 1 f4 fd4 ["wires", "named"] (spLeav K)) (gLv : mg "wires_by_source" = some (.ref f4)) (kLv : PySem.W.keepIn K (.ref f4) = true) (bLv : Binds K fd4 ["wires", "named"] [])
    (GUn : FnOk P w K mg base CX0 2 f5 fd5 ["named", "wires", "leaving"] (spUnfed S)) (gUn : mg "refuse_unfed" = some (.ref f5)) (kUn : PySem.W.keepIn K (.ref f5) = true) (bUn : Binds K fd5 ["named", "wires", "leaving"] [])
    (gMN : ∃ t, mg "MOST_NODES" = some (.int 24 t)) (gMW : ∃ t, mg "MOST_WIRES" = some (.int 48 t)) (gLen : mg "len" = none) (cW : Cls K CW) (n1 : NoAttr K CW "named") (n2 : NoAttr K CW "leading") (n3 : NoAttr K CW "laid") (n4 : NoAttr K CW "leaving") : FnOk P w K mg base CX0 5 f fd ["self", "nodes", "wires"] (spWvInit K S CW) := by
  obtain ⟨tN, gMN⟩ := gMN
  obtain ⟨tW, gMW⟩ := gMW
  refine F.ok scWeaveInit (fun vs H Q E h => ?_) (fun cdv A outer s H vs Q E hr h => ?_)
  · obtain ⟨H0, p, dx, nl, wl, nm, ws, rfl, _⟩ := h
    rfl
  · obtain ⟨H0, p, dx, nl, wl, nm, ws, rfl, s0, p0, hp, ⟨ns, hnl, aln⟩, ⟨ps, hwl, al⟩, ok, nodes, kk⟩ := h
    have hu := hu_of hr
    have hr4 : Room 4 _ := hr
    have hrN : Room 2 _ := hr.mono (by decide)
    have hr2 : Room 2 _ := hr.mono (by decide)
    have hr1 : Room 1 _ := hr.mono (by decide)
    have nd := scWeaveInit.nd
    have few := ok.nms.few
    have fewW := ok.few
    refine ⟨_, PSs.nox (pss_cons (ps_if (PW.pt (pw_or (pt_cmpR op_gt (pe_callB call_len_seq (by rfl) gLen PySem.boot_len (pa_cons (pv 1) pa_nil)) (pe_glob (v := .int 24) rfl gMN ⟨_, rfl⟩) (nomark _)) (pw_or1 (pt_cmpR op_gt (pe_callB call_len_seq (by rfl) gLen PySem.boot_len (pa_cons (pv 2) pa_nil)) (pe_glob (v := .int 48) rfl gMW ⟨_, rfl⟩) (nomark _))))) pss_never pss_nil)
      (pss_cons (ps_fld (pv 0) (pe_call GNa hrN rfl gNa kNa bNa .nil pass0 (pa_cons (pv 1) pa_nil)) rfl)
      (pss_cons (ps_fld (pv 0) (pe_call GLe hr4 rfl gLe kLe bLe .nil pass0 (pa_cons (pv 2) (pa_cons (pe_fld (pv 0) rfl) pa_nil))) rfl)
      (pss_cons (ps_expr (pe_call GBa hr1 rfl gBa kBa bBa .nil pass0 (pa_cons (pe_fld (pv 0) rfl) pa_nil)))
      (pss_cons (ps_fld (pv 0) (pe_lc (own := [("source", 3), ("goal", 4), ("place", 5), ("delay", 6)]) (g := (gTup K 4 (gCons (gName 3) (gCons (gName 4) (gCons (gName 5) (gCons (gName 6) gNil)))))) (tt := tYes) rfl nd (pi_list (pv 2)) (blkOk_by (N := nWeaveInit) (sc := defScope sWeaveInit) (by decide +kernel))
        (fun _ _ _ _ _ => (pg_tup rfl (pgs_cons (pg_name (i := 3) nd rfl (Or.inl rfl)) (pgs_cons (pg_name (i := 4) nd rfl (Or.inl rfl)) (pgs_cons (pg_name (i := 5) nd rfl (Or.inl rfl)) (pgs_cons (pg_name (i := 6) nd rfl (Or.inl rfl)) pgs_nil)))))) (fun _ _ _ _ _ => pts_nil) (fun _ _ _ _ _ => (pe_tup (pa_cons (pv 3) (pa_cons (pv 4) (pa_cons (pv 5) (pa_cons (pv 6) pa_nil))))))) rfl)
      (pss_cons (ps_fld (pv 0) (pe_call GLv hr1 rfl gLv kLv bLv .nil pass0 (pa_cons (pe_fld (pv 0) rfl) (pa_cons (pe_fld (pv 0) rfl) pa_nil))) rfl)
      (pss_one (ps_expr (pe_call GUn hr2 rfl gUn kUn bUn .nil pass0 (pa_cons (pe_fld (pv 0) rfl) (pa_cons (pe_fld (pv 0) rfl) (pa_cons (pe_fld (pv 0) rfl) pa_nil)))))))))))), ?_⟩
    have pN : (H0 p = none) := p0
    have nnl : ns.length = nm.length := aln.len
    have nwl : ps.length = ws.length := al.len
    refine ⟨_, rfl, nl, _, rfl, .inl (SqL.of (s0 _ _ hnl)), _, _, rfl, rfl, ?_⟩
    refine ⟨_, rfl, iteF_ (decide_eq_false (by omega)) ?_⟩
    refine ⟨_, rfl, wl, _, rfl, .inl (SqL.of (s0 _ _ hwl)), _, _, rfl, rfl, ?_⟩
    refine ⟨_, rfl, iteF_ (decide_eq_false (by omega)) ?_⟩
    have hws : WiresAt K H0 wl ws := ⟨ps, hwl, al⟩
    -- the nodes by their names
    refine ⟨_, rfl, nl, nm, rfl, PairsAt.keep ⟨ns, hnl, aln⟩ s0, ok.nms, nodes.keep s0, fun d H1 s1 fd hd1 => ?_⟩
    refine ⟨_, rfl, p, CW, dx, _, rfl, s1 _ _ hp, cW, n1, (by show 0 < 1000; decide), ?_⟩
    rw [putW1]
    have ndp : d ≠ p := (ne_of_none hp fd).symm
    have b1 : Same H0 (wo p H1) := same_wo (s0.trans s1) p0
    have w1 : wo p H1 d = some (.dK (dNamed nm)) := by rw [wo_ne ndp]; exact hd1
    have q1 : wo p H1 p = none := wo_self
    have u1 : Same (wo p H1) (upd H1 p (.ins CW dx [("named", .ref d)])) := wo_upd
    have hp1 : upd H1 p (.ins CW dx [("named", .ref d)]) p = some (.ins CW dx [("named", .ref d)]) := upd_same
    generalize upd H1 p (.ins CW dx [("named", .ref d)]) = G1 at u1 hp1
    generalize wo p H1 = W1 at b1 w1 q1 u1
    -- the wires by their goals
    refine ⟨_, rfl, _, rfl, p, CW, dx, _, _, rfl, hp1, cW, n1, rfl, wl, d, nm, ws, rfl, hws.keep (b1.trans u1), u1 _ _ w1, ok, nodes.keep (b1.trans u1), fun dl las H2 s2 fdl li => ?_⟩
    refine ⟨_, rfl, p, CW, dx, _, rfl, s2 _ _ hp1, cW, n2, (by show 1 < 1000; decide), ?_⟩
    rw [putW2]
    have b2 : Same W1 (wo p H2) := same_wo (u1.trans s2) q1
    have li2 : Lists G1 (wo p H2) dl nm las _ := li.wo hp1 fdl
    have q2 : wo p H2 p = none := wo_self
    have u2 : Same (wo p H2) (upd H2 p (.ins CW dx [("named", .ref d), ("leading", .ref dl)])) := wo_upd
    have hp2 : upd H2 p (.ins CW dx [("named", .ref d), ("leading", .ref dl)]) p = some (.ins CW dx [("named", .ref d), ("leading", .ref dl)]) := upd_same
    generalize upd H2 p (.ins CW dx [("named", .ref d), ("leading", .ref dl)]) = G2 at u2 hp2
    generalize wo p H2 = W2 at b2 li2 q2 u2
    -- none is bare
    refine ⟨_, rfl, p, CW, dx, _, _, rfl, hp2, cW, n2, rfl, G1, dl, nm, las, ws, rfl, li2.keep u2, ok, fun H3 s3 => ?_⟩
    have hp3 := s3 _ _ hp2
    have t3 : Same H0 H3 := b1.trans (b2.trans (u2.trans s3))
    -- the wires, laid
    refine ⟨_, rfl, wl, rfl, ⟨_, SqL.of (t3 _ _ hwl)⟩, fun ld hld => ?_⟩
    have nld : ld ≠ p := (ne_of_none hp3 hld).symm
    refine lc_list (xs := ps) (fun j H' => (∃ qs, H' ld = some (.lst qs) ∧ Al (WireAt K H') qs (ws.take j)) ∧ Same H3 H') ⟨⟨[], upd_same, by rw [List.take_zero]; exact trivial⟩, Same.past (Same.refl _) hld⟩ (fun j H' _ e => SqL.of (e.2 _ _ (t3 _ _ hwl))) (fun j v H' ev e => ?_) (fun H4 e => ?_)
    · obtain ⟨⟨qs, hq0, alq⟩, sm⟩ := e
      obtain ⟨wr, ew, q, rfl, hq⟩ := al.get ev
      have jl := (List.getElem?_eq_some_iff.mp ew).1
      refine ⟨q, _, rfl, Same.tup (t3.trans sm) hq, rfl, _, _, rfl, _, _, rfl, _, _, rfl, _, _, rfl, rfl, rfl, ?_⟩
      refine yes_ite ?_
      refine ⟨_, rfl, _, rfl, _, rfl, _, rfl, (by show 4 ≤ sizeLine; decide), fun t ht => ?_⟩
      have sT := Same.new (o := .tup [V.str wr.src, .str wr.goal, .int (wr.place : Int), .int (wr.delay : Int)]) (Same.refl H') ht
      have nlt : ld ≠ t := ne_of_none hq0 ht
      refine ⟨_, sT _ _ hq0, ?_, ⟨_, upd_same, ?_⟩, Same.past (sm.trans sT) hld⟩
      · rw [alq.len, List.length_take]
        exact Nat.lt_of_le_of_lt (show _ ≤ 48 by omega) (by decide)
      · rw [List.take_succ, ew]
        refine Al.snoc ⟨t, rfl, .inl (.inl ?_)⟩ (alq.imp fun pp x ⟨q', e, h⟩ => ⟨q', e, ?_⟩)
        · rw [upd_ne nlt.symm]
          exact upd_same
        · have h1 := Same.tup sT h
          rcases h1 with (h1 | ⟨o, h1⟩) | h1
          · exact .inl (.inl (by rw [upd_ne (fun z => by rw [z, sT _ _ hq0] at h1; cases h1)]; exact h1))
          · exact .inl (.inr ⟨o, by rw [upd_ne (fun z => by rw [z, sT _ _ hq0] at h1; cases h1)]; exact h1⟩)
          · exact .inr h1
    · obtain ⟨⟨qs, hq0, alq⟩, s4⟩ := e
      rw [nwl, List.take_length] at alq
      refine ⟨_, rfl, p, CW, dx, _, rfl, s4 _ _ hp3, cW, n3, (by show 2 < 1000; decide), ?_⟩
      rw [putW3]
      have b4 : Same W2 (wo p H4) := same_wo (u2.trans (s3.trans s4)) q2
      have wl4 : WiresAt K (wo p H4) ld ws := ⟨qs, by rw [wo_ne nld]; exact hq0, alq.imp fun pp x ⟨q', e, h⟩ => ⟨q', e, wo_tup (s4 _ _ hp3) h⟩⟩
      have q4 : wo p H4 p = none := wo_self
      have u4 : Same (wo p H4) (upd H4 p (.ins CW dx [("named", .ref d), ("leading", .ref dl), ("laid", .ref ld)])) := wo_upd
      have hp4 : upd H4 p (.ins CW dx [("named", .ref d), ("leading", .ref dl), ("laid", .ref ld)]) p = some (.ins CW dx [("named", .ref d), ("leading", .ref dl), ("laid", .ref ld)]) := upd_same
      generalize upd H4 p (.ins CW dx [("named", .ref d), ("leading", .ref dl), ("laid", .ref ld)]) = G4 at u4 hp4
      generalize wo p H4 = W4 at b4 wl4 q4 u4
      have w4 := (b2.trans b4) _ _ w1
      -- the wires by their sources
      refine ⟨_, rfl, p, CW, dx, _, _, rfl, hp4, cW, n3, rfl, _, rfl, p, CW, dx, _, _, rfl, hp4, cW, n1, rfl, ld, d, nm, ws, rfl, wl4.keep u4, u4 _ _ w4, ok, fun dv las2 H5 s5 fdv liv => ?_⟩
      refine ⟨_, rfl, p, CW, dx, _, rfl, s5 _ _ hp4, cW, n4, (by show 3 < 1000; decide), ?_⟩
      rw [putW4, show ([("named", .ref d), ("leading", .ref dl), ("laid", .ref ld), ("leaving", .ref dv)] : List (Str × V)) = wvF d dl ld dv from rfl]
      have ndv : dv ≠ d := (ne_of_none (u4 _ _ w4) fdv).symm
      have b5 : Same W4 (wo p H5) := same_wo (u4.trans s5) q4
      have li5 : Lists G4 (wo p H5) dv nm las2 _ := liv.wo hp4 fdv
      have u5 : Same (wo p H5) (upd H5 p (.ins CW dx (wvF d dl ld dv))) := wo_upd
      have hp5 : upd H5 p (.ins CW dx (wvF d dl ld dv)) p = some (.ins CW dx (wvF d dl ld dv)) := upd_same
      generalize upd H5 p (.ins CW dx (wvF d dl ld dv)) = G5 at u5 hp5
      generalize wo p H5 = W5 at b5 li5 u5
      have w5 := b5 _ _ w4
      have t5 : Same H0 G5 := b1.trans (b2.trans (b4.trans (b5.trans u5)))
      -- all is fed
      refine ⟨_, rfl, p, CW, dx, _, _, rfl, hp5, cW, n1, rfl, _, rfl, p, CW, dx, _, _, rfl, hp5, cW, n3, rfl, _, rfl, p, CW, dx, _, _, rfl, hp5, cW, n4, rfl, G4, d, ld, dv, nm, las2, ws, rfl, ndv, u5 _ _ w5, (wl4.keep b5).keep u5, li5.keep u5, ok, nodes.keep t5, fun H6 s6 => ?_⟩
      have l1 := (li2.keep (b4.trans (b5.trans (u5.trans s6))))
      have l2 := (li5.keep (u5.trans s6))
      have fd0 : H0 d = none := s0.free fd
      have t1 : Same H0 G1 := b1.trans u1
      have t4 : Same H0 G4 := b1.trans (b2.trans (b4.trans u4))
      exact kk H6 (t5.trans s6) ⟨dx, d, dl, ld, dv, s6 _ _ hp5, ⟨(u5.trans s6) _ _ w5, ⟨las, l1.any⟩, wl4.keep (b5.trans (u5.trans s6)), ⟨las2, l2.any⟩, nodes.keep (t5.trans s6)⟩, fd0, t1.free fdl, t3.free hld, t4.free fdv, ⟨las, l1.base t1⟩, ⟨las2, l2.base t4⟩⟩
end
end Sw
namespace Sw
open PySem PySem.Spec PyProof.Rows L2
/-! ### what a weave tells -/
theorem WvF.keep {K : PySem.W.Frag} {CN CO CI : Addr} {S : Sorts K CN CO CI} {H H1 : Hp} {d dl ld dv : Addr} {nm : List Nm} {ws : List Wr} (h : WvF K S H d dl ld dv nm ws) (s : Same H H1) : WvF K S H1 d dl ld dv nm ws := by
  obtain ⟨a, ⟨l1, b⟩, c, ⟨l2, e⟩, f⟩ := h
  exact ⟨s _ _ a, ⟨l1, b.keep s⟩, c.keep s, ⟨l2, e.keep s⟩, f.keep s⟩
theorem WvAt.keep {K : PySem.W.Frag} {CN CO CI CW : Addr} {S : Sorts K CN CO CI} {H H1 : Hp} {p : Addr} {nm : List Nm} {ws : List Wr} (h : WvAt K S CW H p nm ws) (s : Same H H1) : WvAt K S CW H1 p nm ws := by
  obtain ⟨dx, d, dl, ld, dv, hp, h⟩ := h
  exact ⟨dx, d, dl, ld, dv, s _ _ hp, h.keep s⟩
def namesN (nm : List Nm) (f : Nm → Bool) : List Str := (nm.filter f).map Nm.name
theorem namesN_snoc {nm : List Nm} {j : Nat} {x : Nm} (f : Nm → Bool) (ex : nm[j]? = some x) : namesN (nm.take (j + 1)) f = namesN (nm.take j) f ++ (if f x = true then [x.name] else []) := by
  unfold namesN
  rw [List.take_succ, ex, List.filter_append, List.map_append]
  congr 1
  by_cases z : f x = true
  · rw [if_pos z]
    show (List.filter _ [x]).map _ = _
    rw [List.filter_cons, if_pos z]
    rfl
  · rw [if_neg z]
    show (List.filter _ [x]).map _ = _
    rw [List.filter_cons, if_neg z]
    rfl
theorem namesN_len {nm : List Nm} (f : Nm → Bool) {j : Nat} (few : nm.length ≤ 24) : (strL (namesN (nm.take j) f)).length ≤ 24 := by
  unfold strL namesN
  rw [List.length_map, List.length_map]
  have h1 := List.length_filter_le f (nm.take j)
  rw [List.length_take] at h1
  omega
structure WvC (K : PySem.W.Frag) (CW : Addr) : Prop where
  cl : Cls K CW
  n1 : NoAttr K CW "named"
  n2 : NoAttr K CW "leading"
  n3 : NoAttr K CW "laid"
  n4 : NoAttr K CW "leaving"
def spWvNames (K : PySem.W.Frag) {CN CO CI : Addr} (S : Sorts K CN CO CI) (CW : Addr) (f : Nm → Bool) : Sp := fun vs H Q _ => ∃ (p : Addr) (nm : List Nm) (ws : List Wr), vs = [.ref p] ∧ WvAt K S CW H p nm ws ∧ NmsOk nm ∧ ∀ l H', Same H H' → H l = none → H' l = some (.lst (strL (namesN nm f))) → Q (.ref l) H'
def spWvWires (K : PySem.W.Frag) {CN CO CI : Addr} (S : Sorts K CN CO CI) (CW : Addr) : Sp := fun vs H Q _ => ∃ (p : Addr) (nm : List Nm) (ws : List Wr), vs = [.ref p] ∧ WvAt K S CW H p nm ws ∧ ∀ l H', Same H H' → H l = none → WiresAt K H' l ws → Q (.ref l) H'
def spWvLen (K : PySem.W.Frag) {CN CO CI : Addr} (S : Sorts K CN CO CI) (CW : Addr) : Sp := fun vs H Q _ => ∃ (p : Addr) (nm : List Nm) (ws : List Wr), vs = [.ref p] ∧ WvAt K S CW H p nm ws ∧ NmsOk nm ∧ Q (.int (nm.length : Int)) H
def spWvKnown (K : PySem.W.Frag) {CN CO CI : Addr} (S : Sorts K CN CO CI) (CW : Addr) : Sp := fun vs H Q _ => ∃ (p : Addr) (nm : List Nm) (ws : List Wr) (x : Nm), vs = [.ref p, .str x.name] ∧ WvAt K S CW H p nm ws ∧ NmsOk nm ∧ x ∈ nm ∧ Q .non H
def spWvNode (K : PySem.W.Frag) {CN CO CI : Addr} (S : Sorts K CN CO CI) (CW : Addr) : Sp := fun vs H Q _ => ∃ (p : Addr) (nm : List Nm) (ws : List Wr) (x : Nm), vs = [.ref p, .str x.name] ∧ WvAt K S CW H p nm ws ∧ NmsOk nm ∧ x ∈ nm ∧ Q (.ref x.adr) H
section
variable {P : Program} {w : World} {K : PySem.W.Frag} {mg : Str → Option Value} {base : Heap} {f f1 f2 f3 f4 f5 f6 f7 f8 f9 C CN CO CI CW : Addr} {fd fd1 fd2 fd3 fd4 fd5 fd6 fd7 fd8 fd9 : FuncData}
abbrev nWeaveWires : List Str := ["self"]
theorem scWeaveWires : FnScope nWeaveWires ["self"] (defScope sWeaveWires) := ⟨rfl, rfl, rfl, by decide +kernel, rfl, by decide +kernel, by decide +kernel⟩
theorem ok_wvWires (S : Sorts K CN CO CI) (F : FnM K "wires" "Weave.wires" sWeaveWires f fd) (T : WvC K CW) (gList : mg "list" = none) : FnOk P w K mg base CX0 1 f fd ["self"] (spWvWires K S CW) := by
  refine F.ok scWeaveWires (fun vs H Q E h => ?_) (fun cdv A outer s H vs Q E hr h => ?_)
  · obtain ⟨p, nm, ws, rfl, _⟩ := h
    rfl
  · obtain ⟨p, nm, ws, rfl, ⟨dx, d, dl, ld, dv, hp, wf⟩, kk⟩ := h
    have hu := hu_of hr
    have nd := scWeaveWires.nd
    obtain ⟨ps, hl, al⟩ := wf.laid
    refine ⟨_, PSs.nox (pss_one (ps_ret (pe_callTy (call_list_ofK (K := K) rfl) (by rfl) gList PyProof.Rows.boot_list (pa_cons (pe_fld (pv 0) rfl) pa_nil)))), ?_⟩
    refine ⟨_, rfl, p, CW, dx, _, _, rfl, hp, T.cl, T.n3, rfl, ld, _, rfl, .inl (SqL.of hl), fun l hn => ?_⟩
    have sN := Same.new (o := .lst ps) (Same.refl H) hn
    exact kk l _ sN hn ⟨ps, upd_same, al.imp fun pp x ⟨q, e, h⟩ => ⟨q, e, Same.tup sN h⟩⟩
abbrev nWeaveCheckKnown : List Str := ["self", "name"]
theorem scWeaveCheckKnown : FnScope nWeaveCheckKnown ["self", "name"] (defScope sWeaveCheckKnown) := ⟨rfl, rfl, rfl, by decide +kernel, rfl, by decide +kernel, by decide +kernel⟩
theorem ok_wvKnown (S : Sorts K CN CO CI) (F : FnM K "check_known" "Weave.check_known" sWeaveCheckKnown f fd) (T : WvC K CW) (GOn : FnOk P w K mg base CX0 1 f1 fd1 ["thing", "names"] spOneOf) (gOn : mg "is_one_of" = some (.ref f1)) (kOn : PySem.W.keepIn K (.ref f1) = true) (bOn : Binds K fd1 ["thing", "names"] []) : FnOk P w K mg base CX0 2 f fd ["self", "name"] (spWvKnown K S CW) := by
  refine F.ok scWeaveCheckKnown (fun vs H Q E h => ?_) (fun cdv A outer s H vs Q E hr h => ?_)
  · obtain ⟨p, nm, ws, x, rfl, _⟩ := h
    rfl
  · obtain ⟨p, nm, ws, x, rfl, ⟨dx, d, dl, ld, dv, hp, wf⟩, nok, xm, kk⟩ := h
    have hu := hu_of hr
    have nd := scWeaveCheckKnown.nd
    refine ⟨_, PSs.nox (pss_one (ps_if (pt_not (pt_val (pe_call GOn hr rfl gOn kOn bOn .nil pass0 (pa_cons (pv 1) (pa_cons (pe_fld (pv 0) rfl) pa_nil))))) pss_never pss_nil)), ?_⟩
    refine ⟨_, rfl, _, rfl, p, CW, dx, _, _, rfl, hp, T.cl, T.n1, rfl, x.name, d, _, rfl, .inl wf.named, ?_⟩
    rw [valV_named nok.nd xm]
    exact ⟨_, rfl, iteF kk⟩
abbrev nWeaveNames : List Str := ["self"]
theorem scWeaveNames : FnScope nWeaveNames ["self"] (defScope sWeaveNames) := ⟨rfl, rfl, rfl, by decide +kernel, rfl, by decide +kernel, by decide +kernel⟩
theorem ok_wvNames (S : Sorts K CN CO CI) (F : FnM K "names" "Weave.names" sWeaveNames f fd) (T : WvC K CW) (gList : mg "list" = none) : FnOk P w K mg base CX0 1 f fd ["self"] (spWvNames K S CW (fun _ => true)) := by
  refine F.ok scWeaveNames (fun vs H Q E h => ?_) (fun cdv A outer s H vs Q E hr h => ?_)
  · obtain ⟨p, nm, ws, rfl, _⟩ := h
    rfl
  · obtain ⟨p, nm, ws, rfl, ⟨dx, d, dl, ld, dv, hp, wf⟩, nok, kk⟩ := h
    have hu := hu_of hr
    have nd := scWeaveNames.nd
    refine ⟨_, PSs.nox (pss_one (ps_ret (pe_callTy (call_listD rfl) (by rfl) gList PyProof.Rows.boot_list (pa_cons (pe_fld (pv 0) rfl) pa_nil)))), ?_⟩
    refine ⟨_, rfl, p, CW, dx, _, _, rfl, hp, T.cl, T.n1, rfl, d, _, rfl, .inl wf.named, fun l hn => ?_⟩
    have e : (dNamed nm).map (fun kv => kV kv.1) = strL (namesN nm (fun _ => true)) := by
      unfold dNamed strL namesN
      rw [List.map_map, List.map_map, List.filter_eq_self.mpr (fun _ _ => rfl)]
      rfl
    rw [e]
    exact kk l _ (Same.new (Same.refl H) hn) hn upd_same
abbrev nWeaveLen : List Str := ["self"]
theorem scWeaveLen : FnScope nWeaveLen ["self"] (defScope sWeaveLen) := ⟨rfl, rfl, rfl, by decide +kernel, rfl, by decide +kernel, by decide +kernel⟩
theorem ok_wvLen (S : Sorts K CN CO CI) (F : FnM K "__len__" "Weave.__len__" sWeaveLen f fd) (T : WvC K CW) (gLen : mg "len" = none) : FnOk P w K mg base CX0 1 f fd ["self"] (spWvLen K S CW) := by
  refine F.ok scWeaveLen (fun vs H Q E h => ?_) (fun cdv A outer s H vs Q E hr h => ?_)
  · obtain ⟨p, nm, ws, rfl, _⟩ := h
    rfl
  · obtain ⟨p, nm, ws, rfl, ⟨dx, d, dl, ld, dv, hp, wf⟩, nok, kk⟩ := h
    have hu := hu_of hr
    have nd := scWeaveLen.nd
    refine ⟨_, PSs.nox (pss_one (ps_ret (pe_callB call_lenD (by rfl) gLen PySem.boot_len (pa_cons (pe_fld (pv 0) rfl) pa_nil)))), ?_⟩
    refine ⟨_, rfl, p, CW, dx, _, _, rfl, hp, T.cl, T.n1, rfl, d, _, rfl, wf.named, ?_⟩
    rw [show (dNamed nm).length = nm.length by unfold dNamed; rw [List.length_map]]
    exact kk
end
end Sw
namespace Sw
open PySem PySem.Spec PyProof.Rows L2
def spWvPairs (K : PySem.W.Frag) {CN CO CI : Addr} (S : Sorts K CN CO CI) (CW : Addr) : Sp := fun vs H Q _ => ∃ (p : Addr) (nm : List Nm) (ws : List Wr), vs = [.ref p] ∧ WvAt K S CW H p nm ws ∧ NmsOk nm ∧ ∀ l H', Same H H' → H l = none → PairsAt K H' l nm → Q (.ref l) H'
theorem pair_upd {K : PySem.W.Frag} {H : Hp} {l : Addr} {ys zs : List V} {pp : V} {x : Nm} (hl : H l = some (.lst ys)) (h : PairAt K H pp x) : PairAt K (L2.upd H l (.lst zs)) pp x := by
  obtain ⟨q, e, h1⟩ := h
  refine ⟨q, e, ?_⟩
  rcases h1 with (h1 | ⟨o, h1⟩) | h1
  · exact .inl (.inl (by rw [upd_ne (fun z => by rw [z, hl] at h1; cases h1)]; exact h1))
  · exact .inl (.inr ⟨o, by rw [upd_ne (fun z => by rw [z, hl] at h1; cases h1)]; exact h1⟩)
  · exact .inr h1
theorem pair_unl {K : PySem.W.Frag} {H : Hp} {d : Addr} {od : Obj} {u : HO} {pp : V} {x : Nm} {kvs : List (Key × V)} (hd : H d = some (.frz od (.dK kvs))) (h : PairAt K H pp x) : PairAt K (L2.upd H d u) pp x := by
  obtain ⟨q, e, h1⟩ := h
  refine ⟨q, e, ?_⟩
  rcases h1 with (h1 | ⟨o, h1⟩) | h1
  · exact .inl (.inl (by rw [upd_ne (fun z => by rw [z, hd] at h1; cases h1)]; exact h1))
  · exact .inl (.inr ⟨o, by rw [upd_ne (fun z => by rw [z, hd] at h1; cases h1)]; exact h1⟩)
  · exact .inr h1
section
variable {P : Program} {w : World} {K : PySem.W.Frag} {mg : Str → Option Value} {base : Heap} {f f1 f2 f3 f4 f5 f6 f7 f8 f9 C CN CO CI CW : Addr} {fd fd1 fd2 fd3 fd4 fd5 fd6 fd7 fd8 fd9 : FuncData}
abbrev nWeaveNode : List Str := ["self", "name"]
theorem scWeaveNode : FnScope nWeaveNode ["self", "name"] (defScope sWeaveNode) := ⟨rfl, rfl, rfl, by decide +kernel, rfl, by decide +kernel, by decide +kernel⟩
theorem ok_wvNode (S : Sorts K CN CO CI) (F : FnM K "node" "Weave.node" sWeaveNode f fd) (T : WvC K CW) (c0 : Cls K CW) (mK : Meth K CW "check_known" f1) (GK : FnOk P w K mg base CX0 2 f1 fd1 ["self", "name"] (spWvKnown K S CW)) (bK : Binds K fd1 ["self", "name"] []) : FnOk P w K mg base CX0 3 f fd ["self", "name"] (spWvNode K S CW) := by
  refine F.ok scWeaveNode (fun vs H Q E h => ?_) (fun cdv A outer s H vs Q E hr h => ?_)
  · obtain ⟨p, nm, ws, x, rfl, _⟩ := h
    rfl
  · obtain ⟨p, nm, ws, x, rfl, ⟨dx, d, dl, ld, dv, hp, wf⟩, nok, xm, kk⟩ := h
    have hu := hu_of hr
    have nd := scWeaveNode.nd
    refine ⟨_, PSs.nox (pss_cons (ps_expr (pe_meth (pv 0) c0 mK GK hr bK .nil pass0 (pa_cons (pv 1) pa_nil)))
      (pss_one (ps_ret (pe_dget hu (pe_fld (pv 0) rfl) (pv 1) (fun _ _ => rfl))))), ?_⟩
    refine ⟨_, rfl, p, dx, _, rfl, hp, rfl, _, rfl, p, nm, ws, x, rfl, ⟨dx, d, dl, ld, dv, hp, wf⟩, nok, xm, ?_⟩
    refine ⟨_, rfl, p, CW, dx, _, _, rfl, hp, T.cl, T.n1, rfl, _, rfl, d, _, rfl, ?_, kk⟩
    rw [← valV_named nok.nd xm]
    exact DGet.k (k := Sum.inr x.name) wf.named
abbrev nWeavePairs : List Str := ["self", "name"]
theorem scWeavePairs : FnScope nWeavePairs ["self"] (defScope sWeavePairs) := ⟨rfl, rfl, rfl, by decide +kernel, rfl, by decide +kernel, by decide +kernel⟩
theorem ok_wvPairs (S : Sorts K CN CO CI) (F : FnM K "pairs" "Weave.pairs" sWeavePairs f fd) (T : WvC K CW) : FnOk P w K mg base CX0 1 f fd ["self"] (spWvPairs K S CW) := by
  refine F.ok scWeavePairs (fun vs H Q E h => ?_) (fun cdv A outer s H vs Q E hr h => ?_)
  · obtain ⟨p, nm, ws, rfl, _⟩ := h
    rfl
  · obtain ⟨p, nm, ws, rfl, ⟨dx, d, dl, ld, dv, hp, wf⟩, nok, kk⟩ := h
    have hu := hu_of hr
    have nd := scWeavePairs.nd
    have few := nok.few
    have hd := wf.named
    refine ⟨_, PSs.nox (pss_one (ps_ret (pe_lock (pe_lc (own := [("name", 1)]) (g := (gName 1)) (tt := tYes) rfl nd (pi_keys (pe_fld (pv 0) rfl)) (blkOk_by (N := nWeavePairs) (sc := defScope sWeavePairs) (by decide +kernel))
        (fun _ _ _ _ _ => (pg_name (i := 1) nd rfl (Or.inl rfl))) (fun _ _ _ _ _ => pts_nil) (fun _ _ _ _ _ => (pe_tup (pa_cons (pv 1) (pa_cons (pe_dget hu (pe_fldK (K := K) rfl (pv 0) rfl) (pv 1) (fun _ _ => rfl)) pa_nil)))))))), ?_⟩
    refine ⟨d, _, hd, trivial, fun oe => ?_⟩
    have hM : (upd H d (.frz oe (.dK (dNamed nm)))) d = some (.frz oe (.dK (dNamed nm))) := upd_same
    have hpM : (upd H d (.frz oe (.dK (dNamed nm)))) p = some (.ins CW dx (wvF d dl ld dv)) := lock_ne hd hp (fun _ z => by cases z)
    have freeM : ∀ {a : Addr}, (upd H d (.frz oe (.dK (dNamed nm)))) a = none → H a = none := fun {a} e => by
      by_cases z : a = d
      · rw [z, hM] at e
        cases e
      · rw [upd_ne z] at e
        exact e
    generalize eHM : upd H d (.frz oe (.dK (dNamed nm))) = HM at hM hpM freeM
    refine ⟨_, rfl, p, CW, dx, _, _, rfl, hpM, T.cl, T.n1, rfl, d, oe, rfl, .inl ⟨_, hM, fun st hst => ?_⟩⟩
    have nsd : st ≠ d := (ne_of_none hM hst).symm
    refine lc_it (walk_keys (d := d) (o := oe) (kvs := dNamed nm)) (fun j H' => (∃ qs, H' st = some (.lst qs) ∧ Al (PairAt K H') qs (nm.take j)) ∧ Same HM H') ⟨⟨[], upd_same, by rw [List.take_zero]; exact trivial⟩, Same.past (Same.refl _) hst⟩ (fun j H' _ e => e.2 _ _ hM) (fun j v H' H'' hj e y => ?_) (fun H2 e => ?_)
    · obtain ⟨⟨qs, hs1, al⟩, sm⟩ := e
      obtain ⟨rfl, k, v', ek, rfl⟩ := y
      obtain ⟨x, ex, rfl, rfl⟩ := dNamed_get ek
      have xm : x ∈ nm := List.mem_of_getElem? ex
      refine ⟨rfl, ?_⟩
      refine yes_ite ?_
      refine ⟨_, rfl, _, rfl, p, CW, dx, _, _, rfl, sm _ _ hpM, T.cl, T.n1, rfl, _, rfl, d, _, rfl, .inl ⟨_, Sum.inr x.name, .inr ⟨oe, sm _ _ hM⟩, rfl, (valV_named nok.nd xm).symm⟩, (by show 2 ≤ sizeLine; decide), fun t ht => ?_⟩
      have sT := Same.new (o := .tup [V.str x.name, .ref x.adr]) (Same.refl H'') ht
      refine ⟨_, sT _ _ hs1, ?_, ⟨_, upd_same, ?_⟩, Same.past (sm.trans sT) hst⟩
      · rw [al.len, List.length_take]
        exact Nat.lt_of_le_of_lt (show _ ≤ 24 by omega) (by decide)
      · rw [List.take_succ, ex]
        exact Al.snoc (pair_upd (sT _ _ hs1) ⟨t, rfl, .inl (.inl upd_same)⟩) (al.imp fun pp y ⟨q, e, h⟩ => pair_upd (sT _ _ hs1) ⟨q, e, Same.tup sT h⟩)
    · obtain ⟨⟨qs, hs1, al⟩, sm⟩ := e
      have dn : (dNamed nm).length = nm.length := by
        unfold dNamed
        rw [List.length_map]
      rw [dn, List.take_length] at al
      refine ⟨sm _ _ hM, kk st _ (unlock hd (eHM ▸ sm)) (freeM hst) ⟨qs, ?_, al.imp fun pp y h => pair_unl (sm _ _ hM) h⟩⟩
      rw [upd_ne nsd]
      exact hs1
end
end Sw
namespace Sw
open PySem PySem.Spec PyProof.Rows L2
/-! ### the law's drawing -/
def spTake : Sp := fun vs H Q _ => ∃ (p : Addr) (m : Int), vs = [.ref p, .int m] ∧ PotAt H p ∧ 0 < m ∧ m < 1073741824 ∧ ∀ (d : Int) (H' : Hp), 0 ≤ d → d < m → Kept p H H' → PotAt H' p → Q (.int d) H'
def spPot (K : PySem.W.Frag) : Sp := fun vs H Q _ => ∃ (a : Addr) (ns : List Int) (k : Nat), vs = [.ref a, .int (k : Int)] ∧ SqL K H a (ns.map V.int) ∧ k ≤ 1000 ∧ ∀ (p : Addr) (H' : Hp), H p = none → Same H H' → PotAt H' p → Q (.ref p) H'
def spPick (K : PySem.W.Frag) : Sp := fun vs H Q _ => ∃ (p l : Addr) (xs : List V), vs = [.ref p, .ref l] ∧ p ≠ l ∧ PotAt H p ∧ SqL K H l xs ∧ (∀ H', Kept p H H' → SqL K H' l xs) ∧ xs ≠ [] ∧ xs.length < 1073741824 ∧ ∀ (x : V) (H' : Hp), x ∈ xs → Kept p H H' → PotAt H' p → Q x H'
section
variable {P : Program} {w : World} {K : PySem.W.Frag} {mg : Str → Option Value} {base : Heap} {f f1 f2 f3 f4 f5 f6 f7 f8 f9 C CN CO CI CW : Addr} {fd fd1 fd2 fd3 fd4 fd5 fd6 fd7 fd8 fd9 : FuncData}
abbrev nLTake : List Str := ["_law_pot_here", "_law_many", "_law_digit"]
theorem scLTake : FnScope nLTake ["_law_pot_here", "_law_many"] (defScope sLTake) := ⟨rfl, rfl, rfl, by decide +kernel, rfl, by decide +kernel, by decide +kernel⟩
theorem ok_take (F : FnP K "_law_take" sLTake f fd) (gDiv : mg "divmod" = none) : FnOk P w K mg base CX0 1 f fd ["_law_pot_here", "_law_many"] spTake := by
  refine F.ok scLTake (fun vs H Q E h => ?_) (fun cdv A outer s H vs Q E hr h => ?_)
  · obtain ⟨p, m, rfl, _⟩ := h
    rfl
  · obtain ⟨p, m, rfl, ⟨a, ⟨b, c⟩, a0, b0, b1, hp⟩, m0, m1, kk⟩ := h
    have nd := scLTake.nd
    refine ⟨_, PSs.nox (pss_cons (ps_if (pt_cmpR op_gt (pe_ix ix_list (pv 0) pe_int (fun _ _ => rfl)) pe_int (nomark _)) (pss_cons (ps_asg (pe_callB call_divmod (by rfl) gDiv (by decide +kernel) (pa_cons (pe_ix ix_list (pv 0) pe_int (fun _ _ => rfl)) (pa_cons (pv 1) pa_nil))) (pg_tup rfl (pgs_cons (pg_sub (pv 0) pe_int set_list (by intro _; rfl)) (pgs_cons (pg_name (i := 2) nd rfl (Or.inl rfl)) pgs_nil))))
      (pss_one (ps_ret (pv 2)))) pss_nil)
      (pss_cons (ps_asg (pe_op op_add (pe_ix ix_list (pv 0) pe_int (fun _ _ => rfl)) pe_int) (pg_sub (pv 0) pe_int set_list (by intro _; rfl)))
      (pss_cons (ps_asg (pe_op op_mod (pe_op op_add (pe_op op_mul (pe_ix ix_list (pv 0) pe_int (fun _ _ => rfl)) pe_int) (pe_op op_mul pe_int (pe_ix ix_list (pv 0) pe_int (fun _ _ => rfl)))) pe_int) (pg_sub (pv 0) pe_int set_list (by intro _; rfl)))
      (pss_one (ps_ret (pe_op op_mod (pe_op op_fdiv (pe_op op_mod (pe_op op_mul (pe_ix ix_list (pv 0) pe_int (fun _ _ => rfl)) (pe_ix ix_list (pv 0) pe_int (fun _ _ => rfl))) pe_int) pe_int) (pv 1))))))), ?_⟩
    refine ⟨_, rfl, p, _, _, _, rfl, rfl, SqL.of hp, atI_nat (j := 0) rfl, _, _, rfl, rfl, _, rfl, ?_⟩
    refine ite2 (fun h => ?_) (fun _ => ?_)
    · refine ⟨_, rfl, p, _, _, _, rfl, rfl, SqL.of hp, atI_nat (j := 0) rfl, _, rfl, _, _, rfl, ⟨m0, m1⟩, fun t ht => ?_⟩
      have npt : p ≠ t := ne_of_none hp ht
      refine ⟨t, _, rfl, .inl (.inl upd_same), rfl, _, _, rfl, _, rfl, p, _, _, 0, rfl, rfl, (by rw [upd_ne npt]; exact hp), rfl, _, _, rfl, rfl, ?_⟩
      exact ⟨_, rfl, kk _ _ (Int.emod_nonneg _ (by omega)) (Int.emod_lt_of_pos _ m0) (Kept.upd (Kept.new Kept.refl ht)) ⟨_, (b, c), Int.ediv_nonneg a0 (by omega), b0, b1, upd_same⟩⟩
    · refine ⟨_, rfl, p, _, _, _, rfl, rfl, SqL.of hp, atI_nat (j := 2) rfl, _, _, rfl, rfl, ?_⟩
      refine ⟨_, rfl, p, _, _, 2, rfl, rfl, hp, rfl, ?_⟩
      have hq : (upd H p (.lst ([V.int a, V.int b, V.int (c : Int)].set 2 (V.int ((c : Int) + 1))))) p = some (.lst [V.int a, V.int b, V.int ((c : Int) + 1)]) := upd_same
      refine ⟨_, rfl, p, _, _, _, rfl, rfl, SqL.of hq, atI_nat (j := 1) rfl, _, _, rfl, rfl, .inr ⟨by decide, by decide⟩, _, rfl, p, _, _, _, rfl, rfl, SqL.of hq, atI_nat (j := 2) rfl, _, _, rfl, rfl, .inl ⟨by decide, by decide⟩, _, _, rfl, rfl, _, _, rfl, rfl, (by show (0 : Int) < _; decide), ?_⟩
      refine ⟨_, rfl, p, _, _, 1, rfl, rfl, hq, rfl, ?_⟩
      rw [upd_upd]
      have c0 := Int.emod_nonneg (b * 69621 + 15487 * ((c : Int) + 1)) (show (2147483629 : Int) ≠ 0 by decide)
      have c1 := Int.emod_lt_of_pos (b * 69621 + 15487 * ((c : Int) + 1)) (show (0 : Int) < 2147483629 by decide)
      have hz : (upd H p (.lst ([V.int a, V.int b, V.int ((c : Int) + 1)].set 1 (V.int ((b * 69621 + 15487 * ((c : Int) + 1)) % 2147483629))))) p = some (.lst [V.int a, V.int ((b * 69621 + 15487 * ((c : Int) + 1)) % 2147483629), V.int ((c : Int) + 1)]) := upd_same
      refine ⟨_, rfl, p, _, _, _, rfl, rfl, SqL.of hz, atI_nat (j := 1) rfl, _, rfl, p, _, _, _, rfl, rfl, SqL.of hz, atI_nat (j := 1) rfl, _, _, rfl, rfl, .inl ⟨by omega, by omega⟩, ?_⟩
      refine ⟨_, _, rfl, rfl, (by show (0 : Int) < _; decide), _, _, rfl, rfl, ⟨by decide, by decide⟩, _, rfl, _, _, rfl, rfl, m0, ?_⟩
      exact kk _ _ (Int.emod_nonneg _ (by omega)) (Int.emod_lt_of_pos _ m0) (Kept.upd Kept.refl) ⟨_, (_, c + 1), a0, c0, by omega, hz⟩
abbrev nPot : List Str := ["_law_script", "_law_k", "_law_cell"]
theorem scPot : FnScope nPot ["_law_script", "_law_k"] (defScope sPot) := ⟨rfl, rfl, rfl, by decide +kernel, rfl, by decide +kernel, by decide +kernel⟩
theorem ok_pot (F : FnP K "_law_pot" sPot f fd) (gMax : mg "max" = none) (gLen : mg "len" = none) : FnOk P w K mg base CX0 1 f fd ["_law_script", "_law_k"] (spPot K) := by
  refine F.ok scPot (fun vs H Q E h => ?_) (fun cdv A outer s H vs Q E hr h => ?_)
  · obtain ⟨a, ns, k, rfl, _⟩ := h
    rfl
  · obtain ⟨a, ns, k, rfl, hS, k1, kk⟩ := h
    have nd := scPot.nd
    refine ⟨_, PSs.nox (pss_cons (ps_set (i := 2) nd rfl (Or.inl rfl) (pe_ifExp (pt_cmpR op_lt (pv 1) (pe_callB call_len_seq (by rfl) gLen PySem.boot_len (pa_cons (pv 0) pa_nil)) (nomark _)) (pe_ix ix_list (pv 0) (pv 1) (fun _ _ => rfl)) pe_int))
      (pss_one (ps_ret (pe_lst (pa_cons (pe_callB (call_max2 rfl) (by rfl) gMax (by decide +kernel) (pa_cons pe_int (pa_cons (pe_op op_sub (pv 2) (pe_op op_pow pe_int pe_int)) pa_nil))) (pa_cons (pe_op op_mod (pe_op op_pow (pe_op op_add (pe_op op_mul (pe_op op_mod (pv 2) pe_int) pe_int) (pe_op op_mul pe_int (pe_op op_add (pv 1) pe_int))) pe_int) pe_int) (pa_cons pe_int pa_nil))))))), ?_⟩
    refine ⟨_, rfl, _, rfl, a, _, rfl, .inl hS, _, _, rfl, rfl, _, rfl, ?_⟩
    refine ite2 (fun h => ?_) (fun _ => ?_)
    · have h1 := of_decide_eq_true h
      rw [List.length_map] at h1
      have h2 : k < ns.length := by omega
      refine ⟨_, rfl, _, rfl, a, _, _, V.int (ns[k]), rfl, rfl, hS, atI_nat ?_, ?_⟩
      · rw [List.getElem?_map, List.getElem?_eq_getElem h2]
        rfl
      generalize ns[k] = c
      have q0 := Int.emod_nonneg (c : Int) (show (2147483629 : Int) ≠ 0 by decide)
      have q1 := Int.emod_lt_of_pos (c : Int) (show (0 : Int) < 2147483629 by decide)
      refine ⟨_, rfl, _, _, rfl, rfl, ⟨by decide, by decide, by decide⟩, _, _, rfl, rfl, _, _, rfl, ?_⟩
      refine ⟨_, rfl, _, _, rfl, rfl, (by show (0 : Int) < _; decide), _, _, rfl, rfl, .inr ⟨by decide, by decide⟩, ?_⟩
      refine ⟨_, rfl, _, _, rfl, rfl, _, _, rfl, rfl, .inl ⟨by decide, by decide⟩, ?_⟩
      refine ⟨_, _, rfl, rfl, _, _, rfl, rfl, ⟨by decide, by decide, by omega⟩, _, _, rfl, rfl, (by show (0 : Int) < _; decide), ?_⟩
      refine ⟨(by show 3 ≤ sizeLine; decide), fun p hp => kk p _ hp (Same.new (Same.refl _) hp) ⟨_, (_, 0), ?_, Int.emod_nonneg _ (by decide), Int.lt_trans (Int.emod_lt_of_pos _ (by decide)) (by decide), upd_same⟩⟩
      split
      · omega
      · decide
    · have q0 := Int.emod_nonneg (0 : Int) (show (2147483629 : Int) ≠ 0 by decide)
      have q1 := Int.emod_lt_of_pos (0 : Int) (show (0 : Int) < 2147483629 by decide)
      refine ⟨_, rfl, _, _, rfl, rfl, ⟨by decide, by decide, by decide⟩, _, _, rfl, rfl, _, _, rfl, ?_⟩
      refine ⟨_, rfl, _, _, rfl, rfl, (by show (0 : Int) < _; decide), _, _, rfl, rfl, .inr ⟨by decide, by decide⟩, ?_⟩
      refine ⟨_, rfl, _, _, rfl, rfl, _, _, rfl, rfl, .inl ⟨by decide, by decide⟩, ?_⟩
      refine ⟨_, _, rfl, rfl, _, _, rfl, rfl, ⟨by decide, by decide, by omega⟩, _, _, rfl, rfl, (by show (0 : Int) < _; decide), ?_⟩
      refine ⟨(by show 3 ≤ sizeLine; decide), fun p hp => kk p _ hp (Same.new (Same.refl _) hp) ⟨_, (_, 0), ?_, Int.emod_nonneg _ (by decide), Int.lt_trans (Int.emod_lt_of_pos _ (by decide)) (by decide), upd_same⟩⟩
      split
      · omega
      · decide
abbrev nLPick : List Str := ["_law_pot_here", "_law_some"]
theorem scLPick : FnScope nLPick ["_law_pot_here", "_law_some"] (defScope sLPick) := ⟨rfl, rfl, rfl, by decide +kernel, rfl, by decide +kernel, by decide +kernel⟩
theorem ok_pick (F : FnP K "_law_pick" sLPick f fd) (GT : FnOk P w K mg base CX0 1 f1 fd1 ["_law_pot_here", "_law_many"] spTake) (gT : mg "_law_take" = some (.ref f1)) (kT : PySem.W.keepIn K (.ref f1) = true) (bT : Binds K fd1 ["_law_pot_here", "_law_many"] []) (gLen : mg "len" = none) : FnOk P w K mg base CX0 2 f fd ["_law_pot_here", "_law_some"] (spPick K) := by
  refine F.ok scLPick (fun vs H Q E h => ?_) (fun cdv A outer s H vs Q E hr h => ?_)
  · obtain ⟨p, l, xs, rfl, _⟩ := h
    rfl
  · obtain ⟨p, l, xs, rfl, _, hp, hl, kl, ne, few, kk⟩ := h
    have nd := scLPick.nd
    refine ⟨_, PSs.nox (pss_one (ps_ret (pe_ix ix_list (pv 1) (pe_call GT hr rfl gT kT bT .nil pass0 (pa_cons (pv 0) (pa_cons (pe_callB call_len_seq (by rfl) gLen PySem.boot_len (pa_cons (pv 1) pa_nil)) pa_nil))) (fun _ _ => rfl)))), ?_⟩
    have lp := List.length_pos_iff.mpr ne
    refine ⟨_, rfl, _, rfl, _, rfl, l, _, rfl, .inl hl, p, _, rfl, hp, by omega, by omega, fun d H1 d0 d1 k1 hp1 => ?_⟩
    have dl : d.toNat < xs.length := by omega
    refine ⟨l, _, _, _, rfl, rfl, kl _ k1, ?_, kk _ H1 (List.getElem_mem dl) k1 hp1⟩
    have := atI_nat (xs := xs) (j := d.toNat) (List.getElem?_eq_getElem dl)
    rw [Int.toNat_of_nonneg d0] at this
    exact this
end
end Sw
namespace Sw
open PySem PySem.Spec PyProof.Rows L2
theorem op_notIn_seqK {X : Cx} {K : PySem.W.Frag} (h : X.K = K) : OpR X (compareOp .NotIn) (rIn K true) := by
  subst h
  exact op_notIn_seq
theorem op_in_seqK {X : Cx} {K : PySem.W.Frag} (h : X.K = K) : OpR X (compareOp .In) (rIn K false) := by
  subst h
  exact op_in_seq
/-! ### data under changes of the heap -/
mutual
theorem Dp.keep {K : PySem.W.Frag} {H H1 : Hp} (s : Same H H1) : ∀ {d : PyData} {v : V}, Dp K H v d → Dp K H1 v d
  | _, _, .non => .non
  | _, _, .bl b => .bl b
  | _, _, .int i => .int i
  | _, _, .str x => .str x
  | _, _, .lst h a => .lst (s.seq h) (DpAll.keep s a)
  | _, _, .tup h a => .tup (Same.tup s h) (DpAll.keep s a)
theorem DpAll.keep {K : PySem.W.Frag} {H H1 : Hp} (s : Same H H1) : ∀ {ds : List PyData} {vs : List V}, DpAll K H vs ds → DpAll K H1 vs ds
  | _, _, .nil => .nil
  | _, _, .cons h a => .cons (Dp.keep s h) (DpAll.keep s a)
end
/-- tuples stay -/
def KT (K : PySem.W.Frag) (H H1 : Hp) : Prop := ∀ q xs, SqT K H q xs → SqT K H1 q xs
theorem KT.refl {K : PySem.W.Frag} {H : Hp} : KT K H H := fun _ _ h => h
theorem KT.trans {K : PySem.W.Frag} {H H1 H2 : Hp} (a : KT K H H1) (b : KT K H1 H2) : KT K H H2 := fun q xs h => b q xs (a q xs h)
theorem KT.same {K : PySem.W.Frag} {H H1 : Hp} (s : Same H H1) : KT K H H1 := fun _ _ h => Same.tup s h
theorem KT.kept {K : PySem.W.Frag} {p : Addr} {H H1 : Hp} (k : Kept p H H1) (hp : PotAt H p) : KT K H H1 := fun _ _ h => k.tup hp h
theorem KT.lst {K : PySem.W.Frag} {H : Hp} {l : Addr} {ys : List V} {o : HO} (hl : H l = some (.lst ys)) : KT K H (L2.upd H l o) := fun q xs h => by
  rcases h with (h | ⟨u, h⟩) | h
  · exact .inl (.inl (by rw [upd_ne (fun z => by rw [z, hl] at h; cases h)]; exact h))
  · exact .inl (.inr ⟨u, by rw [upd_ne (fun z => by rw [z, hl] at h; cases h)]; exact h⟩)
  · exact .inr h
theorem KT.wo {K : PySem.W.Frag} {H : Hp} {l : Addr} {ys : List V} (hl : H l = some (.lst ys)) : KT K H (wo l H) := fun q xs h => by
  rcases h with (h | ⟨u, h⟩) | h
  · exact .inl (.inl (by rw [wo_ne (fun z => by rw [z, hl] at h; cases h)]; exact h))
  · exact .inl (.inr ⟨u, by rw [wo_ne (fun z => by rw [z, hl] at h; cases h)]; exact h⟩)
  · exact .inr h
mutual
/-- no list in it -/
def noList : PyData → Bool
  | .list _ => false
  | .tuple ds => noLists ds
  | _ => true
def noLists : List PyData → Bool
  | [] => true
  | d :: ds => noList d && noLists ds
end
mutual
theorem Dp.kt {K : PySem.W.Frag} {H H1 : Hp} (s : KT K H H1) : ∀ {d : PyData} {v : V}, noList d = true → Dp K H v d → Dp K H1 v d
  | _, _, _, .non => .non
  | _, _, _, .bl b => .bl b
  | _, _, _, .int i => .int i
  | _, _, _, .str x => .str x
  | _, _, n, .lst h a => by rw [noList] at n; cases n
  | _, _, n, .tup h a => .tup (s _ _ h) (DpAll.kt s (by rw [noList] at n; exact n) a)
theorem DpAll.kt {K : PySem.W.Frag} {H H1 : Hp} (s : KT K H H1) : ∀ {ds : List PyData} {vs : List V}, noLists ds = true → DpAll K H vs ds → DpAll K H1 vs ds
  | _, _, _, .nil => .nil
  | _, _, n, .cons h a => .cons (Dp.kt s (by rw [noLists, Bool.and_eq_true] at n; exact n.1) h) (DpAll.kt s (by rw [noLists, Bool.and_eq_true] at n; exact n.2) a)
end
/-- a list of data in order, one for one -/
def ListD (K : PySem.W.Frag) (H : Hp) (l : Addr) (ds : List PyData) : Prop := ∃ vs, H l = some (.lst vs) ∧ DpAll K H vs ds
theorem DpAll.len {K : PySem.W.Frag} {H : Hp} : ∀ {vs : List V} {ds : List PyData}, DpAll K H vs ds → vs.length = ds.length
  | _, _, .nil => rfl
  | _, _, .cons _ a => by rw [List.length_cons, List.length_cons, DpAll.len a]
theorem DpAll.get {K : PySem.W.Frag} {H : Hp} : ∀ {vs : List V} {ds : List PyData} {i : Nat} {v : V}, DpAll K H vs ds → vs[i]? = some v → ∃ d, ds[i]? = some d ∧ Dp K H v d
  | _, _, i, v, .nil, h => by simp at h
  | _, _, 0, v, .cons h a, e => ⟨_, rfl, by
    have := Option.some.inj e
    rw [← this]
    exact h⟩
  | _, _, i + 1, v, .cons h a, e => by
    obtain ⟨d, h1, h2⟩ := DpAll.get a (by simpa using e)
    exact ⟨d, by simpa using h1, h2⟩
theorem DpAll.snoc {K : PySem.W.Frag} {H : Hp} {v : V} {d : PyData} (h : Dp K H v d) : ∀ {vs : List V} {ds : List PyData}, DpAll K H vs ds → DpAll K H (vs ++ [v]) (ds ++ [d])
  | _, _, .nil => .cons h .nil
  | _, _, .cons g a => .cons g (DpAll.snoc h a)
theorem ListD.keep {K : PySem.W.Frag} {H H1 : Hp} {l : Addr} {ds : List PyData} (h : ListD K H l ds) (s : Same H H1) : ListD K H1 l ds := by
  obtain ⟨vs, h1, h2⟩ := h
  exact ⟨vs, s _ _ h1, DpAll.keep s h2⟩
theorem ListD.dp {K : PySem.W.Frag} {H : Hp} {l : Addr} {ds : List PyData} (h : ListD K H l ds) : Dp K H (.ref l) (.list ds) := by
  obtain ⟨vs, h1, h2⟩ := h
  exact .lst (SqL.of h1) h2
/-! ### the law's names -/
theorem joinL_flat : ∀ zs : List (List Nat), TL.joinL [] zs = zs.flatten
  | [] => rfl
  | [p] => by rw [TL.joinL, List.flatten_cons, List.flatten_nil, List.append_nil]
  | p :: q :: r => by rw [TL.joinL, List.nil_append, joinL_flat (q :: r), ← List.flatten_cons]
def sign (c : Nat) : Str := ⟨#[c]⟩
theorem flat_signs : ∀ cs : List Nat, ((cs.map sign).map TL.tl).flatten = cs
  | [] => rfl
  | c :: cs => by
    rw [List.map_cons, List.map_cons, List.flatten_cons, flat_signs cs]
    rfl
theorem join_signs (cs : List Nat) : (Txt.join "" (cs.map sign)).cps.toList = cs := by
  have e := TL.tl_join "" (cs.map sign)
  rw [← TL.join_eq] at e
  have e2 : TL.tl ("" : Str) = [] := rfl
  rw [e2, joinL_flat, flat_signs] at e
  exact e
theorem len_tl (x : Str) : x.length = x.cps.toList.length := by
  simp [Str.length]
theorem nmOk_of {x : Str} (h1 : 1 ≤ x.cps.toList.length) (h2 : x.cps.toList.length ≤ 8) (h3 : ∀ c ∈ x.cps.toList, c ∈ letters.cps.toList) : NmOk x := ⟨by rw [len_tl]; exact h1, by rw [len_tl]; exact h2, h3⟩
theorem sum_one : ∀ cs : List Nat, ((cs.map sign).map (·.length)).sum = cs.length
  | [] => rfl
  | c :: cs => by
    rw [List.map_cons, List.map_cons, List.sum_cons, sum_one cs, List.length_cons]
    show 1 + _ = _
    omega
theorem letters_len : letters.cps.toList.length = 26 := by decide +kernel
theorem letters_nodup : letters.cps.toList.Nodup := by decide +kernel
theorem strL_flat (ts : List Str) : ∀ x ∈ ts.map V.str, flatV x = true := fun x hx => by
  obtain ⟨y, _, rfl⟩ := List.mem_map.mp hx
  rfl
theorem in_strL {x : Str} {ts : List Str} : inV (.str x) (ts.map V.str) = decide (x ∈ ts) := by
  unfold inV
  induction ts with
  | nil => rfl
  | cons t r ih =>
    rw [List.map_cons, List.any_cons, ih]
    show ((t == x) || decide (x ∈ r)) = _
    by_cases e : t = x
    · subst e
      rw [beq_self_eq_true, decide_eq_true List.mem_cons_self]
      rfl
    · rw [beq_false_of_ne e, Bool.false_or]
      by_cases m : x ∈ r
      · rw [decide_eq_true m, decide_eq_true (List.mem_cons_of_mem _ m)]
      · rw [decide_eq_false m, decide_eq_false fun h => by
          rcases List.mem_cons.mp h with h | h
          · exact e h.symm
          · exact m h]
/-- among 26 letters there is one that isn't taken -/
theorem free_letter {ts : List Str} (h : ts.length ≤ 25) : ∃ c ∈ letters.cps.toList, sign c ∉ ts := by
  apply Classical.byContradiction
  intro no
  have all : ∀ c ∈ letters.cps.toList, sign c ∈ ts := fun c hc => Classical.byContradiction fun n => no ⟨c, hc, n⟩
  have nd : (letters.cps.toList.map sign).Nodup := by
    refine List.Pairwise.map (R := fun a b => a ≠ b) sign (fun a b n e => n ?_) letters_nodup
    have := congrArg (fun x : Str => x.cps.toList) e
    exact (List.cons_eq_cons.mp (show [a] = [b] from this)).1
  have sub : ∀ x ∈ letters.cps.toList.map sign, x ∈ ts := fun x hx => by
    obtain ⟨c, hc, rfl⟩ := List.mem_map.mp hx
    exact all c hc
  have := nodup_len nd sub
  rw [List.length_map, letters_len] at this
  omega
end Sw
namespace Sw
open PySem PySem.Spec PyProof.Rows L2
def spLName : Sp := fun vs H Q _ => ∃ (p l : Addr) (ts : List Str), vs = [.ref p, .ref l] ∧ l ≠ p ∧ PotAt H p ∧ H l = some (.lst (ts.map V.str)) ∧ ts.length ≤ 25 ∧ (∀ t ∈ ts, NmOk t) ∧ ∀ (x : Str) (H' : Hp), NmOk x → x ∉ ts → Kept p H H' → PotAt H' p → Q (.str x) H'
theorem PotAt.ne {H : Hp} {p l : Addr} (h : PotAt H p) (n : H l = none) : l ≠ p := fun z => by
  obtain ⟨_, _, _, _, _, hx⟩ := h
  rw [z, hx] at n
  cases n
theorem PotAt.upd {H : Hp} {p l : Addr} {o : HO} (h : PotAt H p) (n : l ≠ p) : PotAt (L2.upd H l o) p := by
  obtain ⟨a, b, h1, h2, h3, h4⟩ := h
  exact ⟨a, b, h1, h2, h3, by rw [upd_ne n.symm]; exact h4⟩
theorem Kept.free {p l : Addr} {H H' : Hp} (k : Kept p H H') (hp : PotAt H' p) (h : H' l = none) : H l = none := by
  cases e : H l with
  | none => rfl
  | some o =>
    rw [k l o (hp.ne h) e] at h
    cases h
def strsD (ts : List Str) : PyData := .list (ts.map PyData.str)
theorem dp_strs {K : PySem.W.Frag} {H : Hp} : ∀ ts : List Str, DpAll K H (ts.map V.str) (ts.map PyData.str)
  | [] => .nil
  | t :: r => .cons (.str t) (dp_strs r)
theorem nm_strOk {x : Str} (h : NmOk x) : PyData.strOk x = true := by
  unfold PyData.strOk
  rw [← Array.all_toList, List.all_eq_true]
  intro c hc
  have : ∀ c ∈ letters.cps.toList, decide (c < 1114112) = true := by decide +kernel
  exact this c (h.2.2 c hc)
theorem lay_strs : ∀ ts : List Str, (∀ t ∈ ts, NmOk t) → PyData.canLayAll0 (ts.map PyData.str) = true
  | [], _ => rfl
  | t :: r, h => by
    rw [List.map_cons, PyData.canLayAll0, lay_strs r fun z hz => h z (List.mem_cons_of_mem _ hz), PyData.canLay0, nm_strOk (h t List.mem_cons_self)]
    rfl
theorem depth_strs : ∀ ts : List Str, PyData.depthAll (ts.map PyData.str) = 0
  | [] => by rw [List.map_nil, PyData.depthAll]
  | t :: r => by
    rw [List.map_cons, PyData.depthAll, depth_strs r, PyData.depth]
    rfl
theorem shaped_strs {ts : List Str} (h : ∀ t ∈ ts, NmOk t) : SeqAt.shaped (strsD ts) = true := by
  unfold SeqAt.shaped strsD
  rw [PyData.canLay0, lay_strs ts h, PyData.depth, depth_strs]
  rfl
theorem eqv_strs_nil {ts : List Str} : PyData.eqv (strsD ts) (strsD []) = decide (ts = []) := by
  cases ts with
  | nil => rfl
  | cons t r => rfl
theorem four_at {d : Int} (h0 : 0 ≤ d) (h4 : d < 4) : ∃ m : Nat, atI [V.int 1, V.int 2, V.int 5, V.int 8] d = some (.int (m : Int)) ∧ 1 ≤ m ∧ m ≤ 8 := by
  have : d = 0 ∨ d = 1 ∨ d = 2 ∨ d = 3 := by omega
  rcases this with rfl | rfl | rfl | rfl
  · exact ⟨1, rfl, by decide, by decide⟩
  · exact ⟨2, rfl, by decide, by decide⟩
  · exact ⟨5, rfl, by decide, by decide⟩
  · exact ⟨8, rfl, by decide, by decide⟩
theorem nmOk_cut {a b : Str} (ha : NmOk a) (hb : NmOk b) : NmOk (cutS (a ++ b) none (some 8)) := by
  obtain ⟨a1, a2, a3⟩ := ha
  obtain ⟨b1, b2, b3⟩ := hb
  rw [len_tl] at a1 a2 b1 b2
  have e : (cutS (a ++ b) none (some 8)).cps.toList = (a.cps.toList ++ b.cps.toList).take 8 := by
    unfold cutS
    rw [HT.sIx_none, Nat.sub_zero, List.drop_zero]
    show ((a ++ b).cps.toList).take _ = _
    have e1 : (a ++ b).cps.toList = a.cps.toList ++ b.cps.toList := TL.tl_append a b
    rw [e1, len_tl, e1]
    have e2 : HT.sIx (a.cps.toList ++ b.cps.toList).length (a.cps.toList ++ b.cps.toList).length (some 8) = min 8 (a.cps.toList ++ b.cps.toList).length := HT.sIx_nat _ _ 8
    rw [e2]
    by_cases h : 8 ≤ (a.cps.toList ++ b.cps.toList).length
    · rw [Nat.min_eq_left h]
    · rw [Nat.min_eq_right (by omega), List.take_of_length_le (Nat.le_refl _), List.take_of_length_le (by omega)]
  refine nmOk_of ?_ ?_ fun c hc => ?_
  · rw [e, List.length_take, List.length_append]
    omega
  · rw [e, List.length_take]
    omega
  · rw [e] at hc
    rcases List.mem_append.mp (List.mem_of_mem_take hc) with h | h
    · exact a3 c h
    · exact b3 c h
section
variable {P : Program} {w : World} {K : PySem.W.Frag} {mg : Str → Option Value} {base : Heap} {f f1 f2 f3 f4 f5 f6 f7 f8 f9 C CN CO CI CW : Addr} {fd fd1 fd2 fd3 fd4 fd5 fd6 fd7 fd8 fd9 : FuncData}
abbrev nLName : List Str := ["_law_pot_here", "_law_taken", "_law_letters", "_law_many", "_law_tag", "_law_k", "_law_letter"]
theorem scLName : FnScope nLName ["_law_pot_here", "_law_taken"] (defScope sLName) := ⟨rfl, rfl, rfl, by decide +kernel, rfl, by decide +kernel, by decide +kernel⟩
theorem ok_lName (F : FnP K "_law_name" sLName f fd) (GT : FnOk P w K mg base CX0 1 f1 fd1 ["_law_pot_here", "_law_many"] spTake) (gT : mg "_law_take" = some (.ref f1)) (kT : PySem.W.keepIn K (.ref f1) = true) (bT : Binds K fd1 ["_law_pot_here", "_law_many"] []) (gRange : mg "range" = none) : FnOk P w K mg base CX0 2 f fd ["_law_pot_here", "_law_taken"] spLName := by
  refine F.ok scLName (fun vs H Q E h => ?_) (fun cdv A ou s H vs Q E hr h => ?_)
  · obtain ⟨p, l, ts, rfl, _⟩ := h
    rfl
  · obtain ⟨p, l, ts, rfl, nlp, hp, hl, few, tok, kk⟩ := h
    have nd := scLName.nd
    have hu := hr.units
    refine ⟨_, PSs.nox (pss_cons (ps_set (i := 2) nd rfl (Or.inr rfl) pe_str)
      (pss_cons (ps_set (i := 3) nd rfl (Or.inl rfl) (pe_ix ix_list (pe_lst (pa_cons pe_int (pa_cons pe_int (pa_cons pe_int (pa_cons pe_int pa_nil))))) (pe_call GT hr rfl gT kT bT .nil pass0 (pa_cons (pv 0) (pa_cons pe_int pa_nil))) (fun _ _ => rfl)))
      (pss_cons (ps_set (i := 4) nd rfl (Or.inl rfl) (pe_join pe_str (pe_lc (own := [("_law_k", 5)]) (g := (gName 5)) (tt := tYes) rfl nd (pi_range1 rfl gRange (pa_cons (pv 3) pa_nil)) (blkOk_by (N := nLName) (sc := defScope sLName) (by decide +kernel))
        (fun _ _ _ _ _ => (pg_name (i := 5) nd rfl (Or.inl rfl))) (fun _ _ _ _ _ => pts_nil) (fun _ _ _ _ _ => (pe_ix ix_str (pv 2) (pe_call GT hr rfl gT kT bT .nil pass0 (pa_cons (pv 0) (pa_cons pe_int pa_nil))) (fun _ _ => rfl))))))
      (C8.pss_cut (ps_if (PW.pt (pw_and (pt_cmpR (op_neD hu) (pv 1) (pe_lst pa_nil) (nomark _)) (pw_and1 (pt_cmpR op_eq (pe_call GT hr rfl gT kT bT .nil pass0 (pa_cons (pv 0) (pa_cons pe_int pa_nil))) pe_int (nomark _))))) (pss_one (ps_set (i := 4) nd rfl (Or.inl rfl) (pe_slice sl_str (pe_op op_add_str (pe_ix ix_list (pv 1) (pe_un un_neg pe_int) (fun _ _ => rfl)) (pv 4)) po_none (po_some pe_int)))) pss_nil)
      (C8.pss_cut (ps_if (pt_cmpR op_in_seq (pv 4) (pv 1) rfl) (pss_one (ps_set (i := 4) nd rfl (Or.inl rfl) (pe_ix ix_list (pe_lc (own := [("_law_letter", 6)]) (g := (gName 6)) (tt := _) rfl nd (pi_str (pv 2)) (blkOk_by (N := nLName) (sc := defScope sLName) (by decide +kernel))
        (fun _ _ _ _ _ => (pg_name (i := 6) nd rfl (Or.inl rfl))) (fun _ _ _ _ _ => (pts_one (pt_cmpR (op_notIn_seqK (K := K) rfl) (pv 6) (pv 1) rfl))) (fun _ _ _ _ _ => (pv 6))) pe_int (fun _ _ => rfl)))) pss_nil)
      (pss_one (ps_ret (pv 4)))))))), ?_⟩
    refine ⟨(by show 4 ≤ sizeLine; decide), fun q hq => ?_⟩
    have sq := Same.new (o := .lst [V.int 1, V.int 2, V.int 5, V.int 8]) (Same.refl H) hq
    have nqp := hp.ne hq
    refine ⟨_, rfl, p, _, rfl, hp.keep sq, by decide, by decide, fun d H1 d0 d1 k1 hp1 => ?_⟩
    obtain ⟨m, em, m1, m8⟩ := four_at d0 d1
    refine ⟨q, _, _, _, rfl, rfl, SqL.of (k1 _ _ nqp upd_same), em, ?_⟩
    have t1 : Kept p H H1 := (Kept.same sq).trans k1
    refine ⟨⟨_, rfl⟩, _, rfl, _, rfl, by omega, by omega, fun D hD => ?_⟩
    rw [Int.toNat_natCast]
    have nDp := hp1.ne hD
    have nH := t1.free hp1 hD
    refine lc_range (fun i H' => ∃ cs : List Nat, cs.length = i ∧ (∀ c ∈ cs, c ∈ letters.cps.toList) ∧ H' D = some (.lst ((cs.map sign).map V.str)) ∧ Kept p H H' ∧ PotAt H' p) ⟨[], rfl, fun _ h => (List.not_mem_nil h).elim, upd_same, t1.past nH, hp1.upd nDp⟩ (fun i H' hi e => ?_) (fun H2 e => ?_)
    · obtain ⟨cs, el, hc, hd, k2, hp2⟩ := e
      refine ⟨rfl, ?_⟩
      refine yes_ite ?_
      refine ⟨_, rfl, _, rfl, p, _, rfl, hp2, by decide, by decide, fun e H3 e0 e1 k3 hp3 => ?_⟩
      have ll := letters_len
      have el' : e.toNat < letters.cps.toList.length := by omega
      refine ⟨_, _, letters.cps.toList[e.toNat], rfl, rfl, (by show letters.length ≤ sizeLine; decide +kernel), ?_, ?_⟩
      · have := atI_nat (xs := letters.cps.toList) (j := e.toNat) (List.getElem?_eq_getElem el')
        rw [Int.toNat_of_nonneg e0] at this
        exact this
      have hd3 := k3 _ _ nDp hd
      refine ⟨_, hd3, ?_, cs ++ [letters.cps.toList[e.toNat]], ?_, fun c h => ?_, ?_, (k2.trans k3).past nH, hp3.upd nDp⟩
      · rw [List.length_map, List.length_map, el]
        exact Nat.lt_of_lt_of_le (show i < 100 by omega) (by decide)
      · rw [List.length_append, el]
        rfl
      · rcases List.mem_append.mp h with h | h
        · exact hc c h
        · rcases List.mem_cons.mp h with rfl | h
          · exact List.getElem_mem el'
          · cases h
      · rw [List.map_append, List.map_append]
        exact upd_same
    · obtain ⟨cs, el, hc, hd, k2, hp2⟩ := e
      refine ⟨"", D, cs.map sign, rfl, rfl, .inl (SqL.of hd), ?_, ?_⟩
      · rw [sum_one, List.length_map]
        show cs.length + cs.length * 0 ≤ _
        omega
      have ok1 : NmOk (Txt.join "" (cs.map sign)) := nmOk_of (by rw [join_signs]; omega) (by rw [join_signs]; omega) (by rw [join_signs]; exact hc)
      generalize Txt.join "" (cs.map sign) = tag at ok1
      have hl2 := k2 _ _ nlp hl
      refine ⟨fun σ' H' => ∃ tg : Str, σ' = [some (.ref p), some (.ref l), some (.str letters), some (.int (m : Int)), some (.str tg), none, none] ∧ NmOk tg ∧ Kept p H H' ∧ PotAt H' p, ?_, ?_⟩
      · refine ⟨_, rfl, (by show 0 ≤ sizeLine; decide), fun l0 h0 => ?_⟩
        have s0 := Same.new (o := .lst []) (Same.refl H2) h0
        have n0 := k2.free hp2 h0
        refine ⟨strsD ts, strsD [], .lst (SqL.of (s0 _ _ hl2)) (dp_strs ts), .lst (SqL.of upd_same) (dp_strs []), shaped_strs tok, shaped_strs (fun _ h => (List.not_mem_nil h).elim), _, rfl, ?_⟩
        rw [eqv_strs_nil]
        rcases List.eq_nil_or_concat ts with rfl | ⟨c1, here, rfl⟩
        · refine iteF_ rfl (iteF_ rfl ?_)
          exact ⟨tag, rfl, ok1, k2.past n0, hp2.upd (hp2.ne h0)⟩
        · rw [List.concat_eq_append] at *
          refine iteT_ (by rw [decide_eq_false (by simp)]; rfl) ?_
          refine ⟨_, rfl, p, _, rfl, hp2.upd (hp2.ne h0), by decide, by decide, fun e H3 e0 e1 k3 hp3 => ?_⟩
          refine ⟨rfl, _, rfl, ?_⟩
          have k4 : Kept p H H3 := (k2.past n0).trans k3
          refine ite2 (fun _ => ?_) (fun _ => ?_)
          · have hl3 := k4 _ _ nlp hl
            rw [List.map_append] at hl3
            have okh : NmOk here := tok here (List.mem_append_right _ List.mem_cons_self)
            have l1 := okh.2.1
            have l2 := ok1.2.1
            refine ⟨_, rfl, _, rfl, l, _, _, _, rfl, rfl, SqL.of hl3, atI_last _ _, _, rfl, here, tag, rfl, rfl, ?_, ?_⟩
            · exact Nat.le_trans (show _ ≤ 16 by omega) (by decide)
            refine ⟨_, rfl, _, rfl, ?_, _, rfl, nmOk_cut okh ok1, k4, hp3⟩
            rw [show (here ++ tag).length = here.length + tag.length from by rw [len_tl, show (here ++ tag).cps.toList = here.cps.toList ++ tag.cps.toList from TL.tl_append here tag, List.length_append, ← len_tl, ← len_tl]]
            exact Nat.le_trans (show _ ≤ 16 by omega) (by decide)
          · exact ⟨tag, rfl, ok1, k4, hp3⟩
      · rintro σ' H3 ⟨tg, rfl, okg, k3, hp3⟩
        have hl3 := k3 _ _ nlp hl
        refine ⟨fun σ' H' => ∃ tg : Str, σ' = [some (.ref p), some (.ref l), some (.str letters), some (.int (m : Int)), some (.str tg), none, none] ∧ NmOk tg ∧ tg ∉ ts ∧ Kept p H H' ∧ PotAt H' p, ?_, ?_⟩
        · refine ⟨_, rfl, _, rfl, l, _, rfl, .inl (SqL.of hl3), rfl, List.all_eq_true.mpr (strL_flat ts), _, rfl, ?_⟩
          rw [in_strL]
          by_cases z : tg ∈ ts
          · rw [decide_eq_true z]
            refine iteT_ rfl ?_
            refine ⟨_, rfl, _, rfl, fun D2 hD2 => ?_⟩
            have nD2 := hp3.ne hD2
            have nH2 := k3.free hp3 hD2
            refine lc_it (walk_str (z := letters)) (fun i H' => ∃ cs : List Nat, (∀ c ∈ cs, c ∈ letters.cps.toList ∧ sign c ∉ ts) ∧ cs.length ≤ i ∧ ((∃ c ∈ letters.cps.toList.take i, sign c ∉ ts) → cs ≠ []) ∧ H' D2 = some (.lst ((cs.map sign).map V.str)) ∧ Kept p H H' ∧ PotAt H' p) ⟨[], fun _ h => (List.not_mem_nil h).elim, Nat.le_refl _, (fun ⟨c, hc, _⟩ => by rw [List.take_zero] at hc; cases hc), upd_same, k3.past nH2, hp3.upd nD2⟩ (fun _ _ _ _ => trivial) (fun i x H' H'' hi e y => ?_) (fun H4 e => ?_)
            · obtain ⟨cs, hc, cl, ce, hd, k4, hp4⟩ := e
              obtain ⟨rfl, c, ec, rfl⟩ := y
              have ec' : letters.cps.toList[i]? = some c := by
                rw [Array.getElem?_toList]
                exact ec
              have hl4 := k4 _ _ nlp hl
              refine ⟨rfl, ?_⟩
              refine ⟨_, rfl, _, rfl, l, _, rfl, .inl (SqL.of hl4), rfl, List.all_eq_true.mpr (strL_flat ts), _, rfl, ?_⟩
              rw [show V.str ⟨#[c]⟩ = V.str (sign c) from rfl, in_strL]
              by_cases z2 : sign c ∈ ts
              · rw [decide_eq_true z2]
                refine iteF_ rfl ⟨cs, hc, by omega, fun ⟨c', h1, h2⟩ => ce ⟨c', ?_, h2⟩, hd, k4, hp4⟩
                rw [List.take_succ, ec'] at h1
                rcases List.mem_append.mp h1 with h | h
                · exact h
                · rcases List.mem_cons.mp h with rfl | h
                  · exact absurd z2 h2
                  · cases h
              · rw [decide_eq_false z2]
                refine iteT_ rfl ?_
                refine ⟨_, rfl, _, hd, ?_, cs ++ [c], fun c' h => ?_, ?_, fun _ => by simp, ?_, k4.past nH2, hp4.upd nD2⟩
                · rw [List.length_map, List.length_map]
                  have : i < 26 := hi
                  exact Nat.lt_of_lt_of_le (show _ < 100 by omega) (by decide)
                · rcases List.mem_append.mp h with h | h
                  · exact hc c' h
                  · rcases List.mem_cons.mp h with rfl | h
                    · exact ⟨List.mem_of_getElem? ec', z2⟩
                    · cases h
                · rw [List.length_append]
                  show _ + 1 ≤ _
                  omega
                · rw [List.map_append, List.map_append]
                  exact upd_same
            · obtain ⟨cs, hc, cl, ce, hd, k4, hp4⟩ := e
              have ne : cs ≠ [] := ce (by
                obtain ⟨c, h1, h2⟩ := free_letter few
                refine ⟨c, ?_, h2⟩
                rw [List.take_of_length_le (by show letters.cps.toList.length ≤ letters.cps.size; simp)]
                exact h1)
              obtain ⟨c, r, rfl⟩ := List.exists_cons_of_ne_nil ne
              obtain ⟨c1, c2⟩ := hc c List.mem_cons_self
              refine ⟨D2, _, _, _, rfl, rfl, SqL.of hd, atI_nat (j := 0) rfl, sign c, rfl, ?_, c2, k4, hp4⟩
              exact nmOk_of (by show 1 ≤ 1; decide) (by show 1 ≤ 8; decide) fun d hd => by
                rcases List.mem_cons.mp (show d ∈ [c] from hd) with rfl | h
                · exact c1
                · cases h
          · rw [decide_eq_false z]
            refine iteF_ rfl ?_
            exact ⟨tg, rfl, okg, z, k3, hp3⟩
        · rintro σ' H4 ⟨tg, rfl, okg, no, k4, hp4⟩
          exact ⟨_, rfl, kk tg H4 okg no k4 hp4⟩
end
end Sw
namespace Sw
open PySem PySem.Spec PyProof.Rows L2
/-! ### what a node is made of, in the law's words -/
inductive Spec
  | gain (b : Int) (l g : Nat)
  | mix (n : Nat)
  | times
  | choose
  | up (n : Nat)
  | down (n : Nat)
  | resample (u d : Nat)
  | own (ts : List Nat) (g : Nat)
  | outlet
  | inlet
  deriving DecidableEq
def natD (n : Nat) : PyData := .int (n : Int)
def specD : Spec → PyData
  | .gain b l g => .tuple [.str "gain", .int b, natD l, natD g]
  | .mix n => .tuple [.str "mix", natD n]
  | .times => .tuple [.str "times"]
  | .choose => .tuple [.str "choose"]
  | .up n => .tuple [.str "up", natD n]
  | .down n => .tuple [.str "down", natD n]
  | .resample u d => .tuple [.str "resample", natD u, natD d]
  | .own ts g => .tuple [.str "own", .tuple (ts.map natD), natD g]
  | .outlet => .tuple [.str "outlet"]
  | .inlet => .tuple [.str "inlet"]
def Dig (n : Nat) : Prop := 1 ≤ n ∧ n ≤ 8
def SpecOk : Spec → Prop
  | .gain b l g => -9 ≤ b ∧ b ≤ 99 ∧ l ≤ 2 ∧ g ≤ 2
  | .mix n => Dig n
  | .up n => Dig n
  | .down n => Dig n
  | .resample u d => Dig u ∧ Dig d
  | .own ts g => 1 ≤ ts.length ∧ ts.length ≤ 4 ∧ (∀ t ∈ ts, Dig t) ∧ Dig g
  | _ => True
def tks : Spec → List Nat
  | .mix n => List.replicate n 1
  | .times => [1, 1]
  | .choose => [1, 1, 1]
  | .down n => [n]
  | .resample _ d => [d]
  | .own ts _ => ts
  | .inlet => []
  | _ => [1]
def isOut : Spec → Bool
  | .outlet => true
  | _ => false
def isInl : Spec → Bool
  | .inlet => true
  | _ => false
theorem tks_len {s : Spec} (h : SpecOk s) : (tks s).length ≤ 8 := by
  cases s with
  | mix n =>
    have := h.2
    show (List.replicate n 1).length ≤ 8
    rw [List.length_replicate]
    exact this
  | own ts g =>
    have := h.2.1
    show ts.length ≤ 8
    omega
  | _ => first | decide | (show 1 ≤ 8; decide) | (show 2 ≤ 8; decide) | (show 3 ≤ 8; decide) | (show 0 ≤ 8; decide)
theorem tks_pos {s : Spec} (h : SpecOk s) (ni : s ≠ .inlet) : 0 < (tks s).length := by
  cases s with
  | mix n =>
    have := h.1
    show 0 < (List.replicate n 1).length
    rw [List.length_replicate]
    omega
  | own ts g =>
    have := h.1
    show 0 < ts.length
    omega
  | inlet => exact absurd rfl ni
  | _ => first | (show 0 < 1; decide) | (show 0 < 2; decide) | (show 0 < 3; decide)
theorem noLists_nats (ts : List Nat) : noLists (ts.map natD) = true := by
  induction ts with
  | nil => rfl
  | cons t r ih =>
    rw [List.map_cons, noLists, ih]
    rfl
theorem spec_noList (s : Spec) : noList (specD s) = true := by
  cases s with
  | own ts g =>
    simp [specD, noList, noLists, noLists_nats, natD]
  | _ => rfl
theorem dp_nats {K : PySem.W.Frag} {H : Hp} : ∀ ns : List Nat, DpAll K H (ns.map fun (n : Nat) => V.int (n : Int)) (ns.map natD)
  | [] => .nil
  | n :: ns => .cons (.int _) (dp_nats ns)
def SpecAt (K : PySem.W.Frag) (H : Hp) (v : V) (s : Spec) : Prop := Dp K H v (specD s)
theorem SpecAt.kt {K : PySem.W.Frag} {H H1 : Hp} {v : V} {s : Spec} (h : SpecAt K H v s) (k : KT K H H1) : SpecAt K H1 v s := Dp.kt k (spec_noList s) h
def spSpec (K : PySem.W.Frag) : Sp := fun vs H Q _ => ∃ p : Addr, vs = [.ref p] ∧ PotAt H p ∧ ∀ (v : V) (s : Spec) (H' : Hp), SpecOk s → Kept p H H' → PotAt H' p → SpecAt K H' v s → Q v H'
theorem dp_n {K : PySem.W.Frag} {H : Hp} {a : Nat} : Dp K H (.int (1 + (a : Int))) (natD (1 + a)) := by
  unfold natD
  rw [show (1 : Int) + (a : Int) = ((1 + a : Nat) : Int) by omega]
  exact .int _
theorem nat_of {d m : Int} (h0 : 0 ≤ d) (h1 : d < m) : ∃ n : Nat, d = (n : Int) ∧ (n : Int) < m := ⟨d.toNat, by omega, by omega⟩
section
variable {P : Program} {w : World} {K : PySem.W.Frag} {mg : Str → Option Value} {base : Heap} {f f1 f2 f3 f4 f5 f6 f7 f8 f9 C CN CO CI CW : Addr} {fd fd1 fd2 fd3 fd4 fd5 fd6 fd7 fd8 fd9 : FuncData}
abbrev nLSpec : List Str := ["_law_pot_here", "_law_way", "_law_one", "_law_other", "_law_k"]
theorem scLSpec : FnScope nLSpec ["_law_pot_here"] (defScope sLSpec) := ⟨rfl, rfl, rfl, by decide +kernel, rfl, by decide +kernel, by decide +kernel⟩
theorem ok_spec (F : FnP K "_law_spec" sLSpec f fd) (GT : FnOk P w K mg base CX0 1 f1 fd1 ["_law_pot_here", "_law_many"] spTake) (gT : mg "_law_take" = some (.ref f1)) (kT : PySem.W.keepIn K (.ref f1) = true) (bT : Binds K fd1 ["_law_pot_here", "_law_many"] []) (gRange : mg "range" = none) (gTuple : mg "tuple" = none) : FnOk P w K mg base CX0 2 f fd ["_law_pot_here"] (spSpec K) := by
  refine F.ok scLSpec (fun vs H Q E h => ?_) (fun cdv A ou s H vs Q E hr h => ?_)
  · obtain ⟨p, rfl, _⟩ := h
    rfl
  · obtain ⟨p, rfl, hp, kk⟩ := h
    have nd := scLSpec.nd
    have hr1 : Room 1 _ := hr.mono (by decide)
    refine ⟨_, PSs.nox (pss_cons (ps_set (i := 1) nd rfl (Or.inl rfl) (pe_call GT hr1 rfl gT kT bT .nil pass0 (pa_cons (pv 0) (pa_cons pe_int pa_nil))))
      (pss_cons (ps_par (i := 2) (j := 3) rfl nd rfl rfl (by decide) rfl rfl (pa_cons (pe_op op_add pe_int (pe_call GT hr1 rfl gT kT bT .nil pass0 (pa_cons (pv 0) (pa_cons pe_int pa_nil)))) (pa_cons (pe_op op_add pe_int (pe_call GT hr1 rfl gT kT bT .nil pass0 (pa_cons (pv 0) (pa_cons pe_int pa_nil)))) pa_nil)) rfl)
      (pss_cons (ps_if (pt_cmpR op_eq (pv 1) pe_int (nomark _)) (pss_one (ps_ret (pe_tup (pa_cons pe_str (pa_cons (pe_op op_sub (pe_call GT hr1 rfl gT kT bT .nil pass0 (pa_cons (pv 0) (pa_cons pe_int pa_nil))) pe_int) (pa_cons (pe_call GT hr1 rfl gT kT bT .nil pass0 (pa_cons (pv 0) (pa_cons pe_int pa_nil))) (pa_cons (pe_call GT hr1 rfl gT kT bT .nil pass0 (pa_cons (pv 0) (pa_cons pe_int pa_nil))) pa_nil))))))) pss_nil)
      (pss_cons (ps_if (pt_cmpR op_eq (pv 1) pe_int (nomark _)) (pss_one (ps_ret (pe_tup (pa_cons pe_str (pa_cons (pv 2) pa_nil))))) pss_nil)
      (pss_cons (ps_if (pt_cmpR op_lt (pv 1) pe_int (nomark _)) (pss_one (ps_ret (pe_ix ix_list (pe_lst (pa_cons (pe_tup (pa_cons pe_str pa_nil)) (pa_cons (pe_tup (pa_cons pe_str pa_nil)) pa_nil))) (pe_op op_sub (pv 1) pe_int) (fun _ _ => rfl)))) pss_nil)
      (pss_cons (ps_if (pt_cmpR op_lt (pv 1) pe_int (nomark _)) (pss_one (ps_ret (pe_ix ix_list (pe_lst (pa_cons (pe_tup (pa_cons pe_str (pa_cons (pv 2) pa_nil))) (pa_cons (pe_tup (pa_cons pe_str (pa_cons (pv 2) pa_nil))) pa_nil))) (pe_op op_sub (pv 1) pe_int) (fun _ _ => rfl)))) pss_nil)
      (pss_cons (ps_if (pt_cmpR op_eq (pv 1) pe_int (nomark _)) (pss_one (ps_ret (pe_tup (pa_cons pe_str (pa_cons (pv 2) (pa_cons (pv 3) pa_nil)))))) pss_nil)
      (pss_cons (ps_if (pt_cmpR op_eq (pv 1) pe_int (nomark _)) (pss_one (ps_ret (pe_tup (pa_cons pe_str (pa_cons (pe_callTy call_tuple_of (by rfl) gTuple (by decide +kernel) (pa_cons (pe_lc (own := [("_law_k", 4)]) (g := (gName 4)) (tt := tYes) rfl nd (pi_range1 rfl gRange (pa_cons (pe_op op_add pe_int (pe_call GT hr1 rfl gT kT bT .nil pass0 (pa_cons (pv 0) (pa_cons pe_int pa_nil)))) pa_nil)) (blkOk_by (N := nLSpec) (sc := defScope sLSpec) (by decide +kernel))
        (fun _ _ _ _ _ => (pg_name (i := 4) nd rfl (Or.inl rfl))) (fun _ _ _ _ _ => pts_nil) (fun _ _ _ _ _ => (pe_op op_add pe_int (pe_call GT hr1 rfl gT kT bT .nil pass0 (pa_cons (pv 0) (pa_cons pe_int pa_nil)))))) pa_nil)) (pa_cons (pv 2) pa_nil)))))) pss_nil)
      (pss_one (ps_ret (pe_tup (pa_cons pe_str pa_nil)))))))))))), ?_⟩
    refine ⟨_, rfl, p, _, rfl, hp, by decide, by decide, fun d H1 d0 d1 k1 hp1 => ?_⟩
    refine ⟨_, rfl, p, _, rfl, hp1, by decide, by decide, fun a H2 a0 a1 k2 hp2 => ⟨_, _, rfl, rfl, ?_⟩⟩
    refine ⟨_, rfl, p, _, rfl, hp2, by decide, by decide, fun b H3 b0 b1 k3 hp3 => ⟨_, _, rfl, rfl, ?_⟩⟩
    have t3 := (k1.trans k2).trans k3
    obtain ⟨a, rfl, a1⟩ := nat_of a0 a1
    obtain ⟨b, rfl, b1⟩ := nat_of b0 b1
    have ea : (1 : Int) + (a : Int) = ((1 + a : Nat) : Int) := by omega
    have eb : (1 : Int) + (b : Int) = ((1 + b : Nat) : Int) := by omega
    have ga : Dig (1 + a) := ⟨by omega, by omega⟩
    have gb : Dig (1 + b) := ⟨by omega, by omega⟩
    refine ⟨_, _, rfl, ?_⟩
    refine ⟨_, rfl, rfl, _, rfl, ?_⟩
    refine ite2 (fun h => ?_) (fun h0 => ?_)
    · refine ⟨_, rfl, p, _, rfl, hp3, by decide, by decide, fun x H4 x0 x1 k4 hp4 => ⟨_, _, rfl, rfl, ?_⟩⟩
      refine ⟨_, rfl, p, _, rfl, hp4, by decide, by decide, fun y H5 y0 y1 k5 hp5 => ?_⟩
      refine ⟨_, rfl, p, _, rfl, hp5, by decide, by decide, fun z H6 z0 z1 k6 hp6 => ?_⟩
      obtain ⟨y, rfl, y1⟩ := nat_of y0 y1
      obtain ⟨z, rfl, z1⟩ := nat_of z0 z1
      refine ⟨(by show 4 ≤ sizeLine; decide), fun t ht => ?_⟩
      have k := ((t3.trans k4).trans k5).trans k6
      exact kk _ (.gain (x - 9) y z) _ ⟨by omega, by omega, by omega, by omega⟩ (k.past (k.free hp6 ht)) (hp6.upd (hp6.ne ht)) (.tup (.inl (.inl upd_same)) (.cons (.str _) (.cons (.int _) (.cons (.int _) (.cons (.int _) .nil)))))
    refine ⟨_, rfl, rfl, _, rfl, ?_⟩
    refine ite2 (fun h => ?_) (fun h1 => ?_)
    · refine ⟨_, rfl, (by show 2 ≤ sizeLine; decide), fun t ht => ?_⟩
      refine kk _ (.mix (1 + a)) _ ga (t3.past (t3.free hp3 ht)) (hp3.upd (hp3.ne ht)) (.tup (.inl (.inl upd_same)) (.cons (.str _) (.cons ?_ .nil)))
      exact dp_n
    refine ⟨_, rfl, _, _, rfl, rfl, _, rfl, ?_⟩
    refine ite2 (fun h => ?_) (fun h2 => ?_)
    · have n0 : d ≠ 0 := fun z => h0 (by rw [z]; rfl)
      have n1 : d ≠ 1 := fun z => h1 (by rw [z]; rfl)
      have h := of_decide_eq_true h
      refine ⟨(by show 1 ≤ sizeLine; decide), fun u hu' => ⟨(by show 1 ≤ sizeLine; decide), fun v hv' => ⟨(by show 2 ≤ sizeLine; decide), fun l hl' => ?_⟩⟩⟩
      have s1 := Same.new (o := .tup [V.str "times"]) (Same.refl H3) hu'
      have s2 := Same.new (o := .tup [V.str "choose"]) (Same.refl _) hv'
      have s3 := Same.new (o := .lst [V.ref u, V.ref v]) (Same.refl _) hl'
      have s := (s1.trans s2).trans s3
      refine ⟨_, rfl, _, _, rfl, rfl, ?_⟩
      have dd : d = 2 ∨ d = 3 := by omega
      rcases dd with rfl | rfl
      · refine ⟨l, _, _, _, rfl, rfl, SqL.of upd_same, atI_nat (j := 0) rfl, ?_⟩
        exact kk _ .times _ trivial (t3.trans (Kept.same s)) (hp3.keep s) (.tup (.inl (.inl (s3 _ _ (s2 _ _ upd_same)))) (.cons (.str _) .nil))
      · refine ⟨l, _, _, _, rfl, rfl, SqL.of upd_same, atI_nat (j := 1) rfl, ?_⟩
        exact kk _ .choose _ trivial (t3.trans (Kept.same s)) (hp3.keep s) (.tup (.inl (.inl (s3 _ _ upd_same))) (.cons (.str _) .nil))
    have h2 : ¬ d < 4 := fun z => h2 (decide_eq_true z)
    refine ⟨_, rfl, _, _, rfl, rfl, _, rfl, ?_⟩
    refine ite2 (fun h => ?_) (fun h3 => ?_)
    · have h := of_decide_eq_true h
      refine ⟨_, rfl, (by show 2 ≤ sizeLine; decide), fun u hu' => ⟨_, rfl, (by show 2 ≤ sizeLine; decide), fun v hv' => ⟨(by show 2 ≤ sizeLine; decide), fun l hl' => ?_⟩⟩⟩
      have s1 := Same.new (o := .tup [V.str "up", V.int (1 + (a : Int))]) (Same.refl H3) hu'
      have s2 := Same.new (o := .tup [V.str "down", V.int (1 + (a : Int))]) (Same.refl _) hv'
      have s3 := Same.new (o := .lst [V.ref u, V.ref v]) (Same.refl _) hl'
      have s := (s1.trans s2).trans s3
      refine ⟨_, rfl, _, _, rfl, rfl, ?_⟩
      have dd : d = 4 ∨ d = 5 := by omega
      rcases dd with rfl | rfl
      · refine ⟨l, _, _, _, rfl, rfl, SqL.of upd_same, atI_nat (j := 0) rfl, ?_⟩
        refine kk _ (.up (1 + a)) _ ga (t3.trans (Kept.same s)) (hp3.keep s) (.tup (.inl (.inl (s3 _ _ (s2 _ _ upd_same)))) (.cons (.str _) (.cons ?_ .nil)))
        exact dp_n
      · refine ⟨l, _, _, _, rfl, rfl, SqL.of upd_same, atI_nat (j := 1) rfl, ?_⟩
        refine kk _ (.down (1 + a)) _ ga (t3.trans (Kept.same s)) (hp3.keep s) (.tup (.inl (.inl (s3 _ _ upd_same))) (.cons (.str _) (.cons ?_ .nil)))
        exact dp_n
    refine ⟨_, rfl, rfl, _, rfl, ?_⟩
    refine ite2 (fun h => ?_) (fun h4 => ?_)
    · refine ⟨_, rfl, _, rfl, (by show 3 ≤ sizeLine; decide), fun t ht => ?_⟩
      refine kk _ (.resample (1 + a) (1 + b)) _ ⟨ga, gb⟩ (t3.past (t3.free hp3 ht)) (hp3.upd (hp3.ne ht)) (.tup (.inl (.inl upd_same)) (.cons (.str _) (.cons ?_ (.cons ?_ .nil))))
      · exact dp_n
      · exact dp_n
    refine ⟨_, rfl, rfl, _, rfl, ?_⟩
    refine ite2 (fun h => ?_) (fun h5 => ?_)
    · refine ⟨_, rfl, p, _, rfl, hp3, by decide, by decide, fun x H4 x0 x1 k4 hp4 => ⟨_, _, rfl, rfl, _, rfl, by omega, by omega, fun D hD => ?_⟩⟩
      have nDp := hp4.ne hD
      have t4 := t3.trans k4
      have nH := t4.free hp4 hD
      refine lc_range (fun i H' => ∃ ts : List Nat, ts.length = i ∧ (∀ t ∈ ts, Dig t) ∧ H' D = some (.lst (ts.map fun (n : Nat) => V.int (n : Int))) ∧ Kept p H H' ∧ PotAt H' p) ⟨[], rfl, fun _ h => (List.not_mem_nil h).elim, upd_same, t4.past nH, hp4.upd nDp⟩ (fun i H' hi e => ?_) (fun H5 e => ?_)
      · obtain ⟨ts, el, hc, hd, k5, hp5⟩ := e
        refine ⟨rfl, ?_⟩
        refine yes_ite ?_
        refine ⟨_, rfl, p, _, rfl, hp5, by decide, by decide, fun y H6 y0 y1 k6 hp6 => ⟨_, _, rfl, rfl, ?_⟩⟩
        obtain ⟨y, rfl, y1⟩ := nat_of y0 y1
        have hd6 := k6 _ _ nDp hd
        refine ⟨_, hd6, ?_, ts ++ [1 + y], ?_, fun t h => ?_, ?_, (k5.trans k6).past nH, hp6.upd nDp⟩
        · rw [List.length_map, el]
          exact Nat.lt_of_lt_of_le (show i < 100 by omega) (by decide)
        · rw [List.length_append, el]
          rfl
        · rcases List.mem_append.mp h with h | h
          · exact hc t h
          · rcases List.mem_cons.mp h with rfl | h
            · exact ⟨by omega, by omega⟩
            · cases h
        · rw [List.map_append, upd_same]
          show some (HO.lst (_ ++ [V.int (1 + (y : Int))])) = _
          rw [show (1 : Int) + (y : Int) = ((1 + y : Nat) : Int) by omega]
          rfl
      · obtain ⟨ts, el, hc, hd, k5, hp5⟩ := e
        refine ⟨D, _, rfl, .inl ⟨SqL.of hd, fun u hu' => ?_⟩⟩
        refine ⟨_, rfl, (by show 3 ≤ sizeLine; decide), fun t ht => ?_⟩
        have s1 := Same.new (o := .tup (ts.map fun (n : Nat) => V.int (n : Int))) (Same.refl H5) hu'
        have s2 := Same.new (o := .tup [V.str "own", V.ref u, V.int (1 + (a : Int))]) (Same.refl _) ht
        have s := s1.trans s2
        refine kk _ (.own ts (1 + a)) _ ⟨by omega, by omega, hc, ga⟩ (k5.trans (Kept.same s)) (hp5.keep s) (.tup (.inl (.inl upd_same)) (.cons (.str _) (.cons (.tup (.inl (.inl (s2 _ _ upd_same))) (dp_nats ts)) (.cons ?_ .nil))))
        exact dp_n
    · refine ⟨(by show 1 ≤ sizeLine; decide), fun t ht => ?_⟩
      exact kk _ .outlet _ trivial (t3.past (t3.free hp3 ht)) (hp3.upd (hp3.ne ht)) (.tup (.inl (.inl upd_same)) (.cons (.str _) .nil))
end
end Sw
namespace Sw
open PySem PySem.Spec PyProof.Rows L2
/-! ### data, taken apart -/
theorem dp_tup {K : PySem.W.Frag} {H : Hp} {v : V} {ds : List PyData} (h : Dp K H v (.tuple ds)) : ∃ q xs, v = .ref q ∧ SqT K H q xs ∧ DpAll K H xs ds := by
  cases h with
  | tup h a => exact ⟨_, _, rfl, h, a⟩
theorem dp_str {K : PySem.W.Frag} {H : Hp} {v : V} {x : Str} (h : Dp K H v (.str x)) : v = .str x := by
  cases h
  rfl
theorem dp_int {K : PySem.W.Frag} {H : Hp} {v : V} {x : Int} (h : Dp K H v (.int x)) : v = .int x := by
  cases h
  rfl
theorem dpAll_cons {K : PySem.W.Frag} {H : Hp} {xs : List V} {d : PyData} {ds : List PyData} (h : DpAll K H xs (d :: ds)) : ∃ v r, xs = v :: r ∧ Dp K H v d ∧ DpAll K H r ds := by
  cases h with
  | cons h a => exact ⟨_, _, rfl, h, a⟩
theorem dpAll_nil {K : PySem.W.Frag} {H : Hp} {xs : List V} (h : DpAll K H xs []) : xs = [] := by
  cases h
  rfl
def natV (n : Nat) : V := .int (n : Int)
theorem dpAll_nats {K : PySem.W.Frag} {H : Hp} : ∀ {ts : List Nat} {xs : List V}, DpAll K H xs (ts.map natD) → xs = ts.map natV
  | [], xs, h => by rw [dpAll_nil h]; rfl
  | t :: r, xs, h => by
    obtain ⟨v, ys, rfl, h1, h2⟩ := dpAll_cons h
    rw [dp_int h1, dpAll_nats h2]
    rfl
/-- the items of a spec's tuple -/
def SpecV (K : PySem.W.Frag) (H : Hp) : Spec → List V → Prop
  | .gain b l g, xs => xs = [.str "gain", .int b, .int (l : Int), .int (g : Int)]
  | .mix n, xs => xs = [.str "mix", .int (n : Int)]
  | .times, xs => xs = [.str "times"]
  | .choose, xs => xs = [.str "choose"]
  | .up n, xs => xs = [.str "up", .int (n : Int)]
  | .down n, xs => xs = [.str "down", .int (n : Int)]
  | .resample u d, xs => xs = [.str "resample", .int (u : Int), .int (d : Int)]
  | .own ts g, xs => ∃ t, xs = [.str "own", .ref t, .int (g : Int)] ∧ SqT K H t (ts.map natV)
  | .outlet, xs => xs = [.str "outlet"]
  | .inlet, xs => xs = [.str "inlet"]
theorem SpecAt.inv {K : PySem.W.Frag} {H : Hp} {v : V} {s : Spec} (h : SpecAt K H v s) : ∃ q xs, v = .ref q ∧ SqT K H q xs ∧ SpecV K H s xs := by
  unfold SpecAt at h
  cases s with
  | gain b l g =>
    obtain ⟨q, xs, rfl, hq, a⟩ := dp_tup h
    obtain ⟨_, _, rfl, a1, a⟩ := dpAll_cons a
    obtain ⟨_, _, rfl, a2, a⟩ := dpAll_cons a
    obtain ⟨_, _, rfl, a3, a⟩ := dpAll_cons a
    obtain ⟨_, _, rfl, a4, a⟩ := dpAll_cons a
    refine ⟨q, _, rfl, hq, ?_⟩
    rw [dp_str a1, dp_int a2, dp_int a3, dp_int a4, dpAll_nil a]
    rfl
  | resample u d =>
    obtain ⟨q, xs, rfl, hq, a⟩ := dp_tup h
    obtain ⟨_, _, rfl, a1, a⟩ := dpAll_cons a
    obtain ⟨_, _, rfl, a2, a⟩ := dpAll_cons a
    obtain ⟨_, _, rfl, a3, a⟩ := dpAll_cons a
    refine ⟨q, _, rfl, hq, ?_⟩
    rw [dp_str a1, dp_int a2, dp_int a3, dpAll_nil a]
    rfl
  | own ts g =>
    obtain ⟨q, xs, rfl, hq, a⟩ := dp_tup h
    obtain ⟨_, _, rfl, a1, b1⟩ := dpAll_cons a
    obtain ⟨v2, _, rfl, a2, b2⟩ := dpAll_cons b1
    obtain ⟨_, _, rfl, a3, b3⟩ := dpAll_cons b2
    obtain ⟨t, ys, e, ht, b⟩ := dp_tup a2
    refine ⟨q, _, rfl, hq, t, ?_, ?_⟩
    · rw [dp_str a1, e, dp_int a3, dpAll_nil b3]
    · rw [← dpAll_nats b]
      exact ht
  | mix n =>
    obtain ⟨q, xs, rfl, hq, a⟩ := dp_tup h
    obtain ⟨_, _, rfl, a1, a⟩ := dpAll_cons a
    obtain ⟨_, _, rfl, a2, a⟩ := dpAll_cons a
    refine ⟨q, _, rfl, hq, ?_⟩
    rw [dp_str a1, dp_int a2, dpAll_nil a]
    rfl
  | up n =>
    obtain ⟨q, xs, rfl, hq, a⟩ := dp_tup h
    obtain ⟨_, _, rfl, a1, a⟩ := dpAll_cons a
    obtain ⟨_, _, rfl, a2, a⟩ := dpAll_cons a
    refine ⟨q, _, rfl, hq, ?_⟩
    rw [dp_str a1, dp_int a2, dpAll_nil a]
    rfl
  | down n =>
    obtain ⟨q, xs, rfl, hq, a⟩ := dp_tup h
    obtain ⟨_, _, rfl, a1, a⟩ := dpAll_cons a
    obtain ⟨_, _, rfl, a2, a⟩ := dpAll_cons a
    refine ⟨q, _, rfl, hq, ?_⟩
    rw [dp_str a1, dp_int a2, dpAll_nil a]
    rfl
  | _ =>
    obtain ⟨q, xs, rfl, hq, a⟩ := dp_tup h
    obtain ⟨_, _, rfl, a1, a⟩ := dpAll_cons a
    refine ⟨q, _, rfl, hq, ?_⟩
    rw [dp_str a1, dpAll_nil a]
    rfl
def tagOf : Spec → Str
  | .gain _ _ _ => "gain"
  | .mix _ => "mix"
  | .times => "times"
  | .choose => "choose"
  | .up _ => "up"
  | .down _ => "down"
  | .resample _ _ => "resample"
  | .own _ _ => "own"
  | .outlet => "outlet"
  | .inlet => "inlet"
theorem SpecV.tag {K : PySem.W.Frag} {H : Hp} {s : Spec} {xs : List V} (h : SpecV K H s xs) : ∃ r, xs = .str (tagOf s) :: r := by
  cases s with
  | own ts g =>
    obtain ⟨t, rfl, _⟩ := h
    exact ⟨_, rfl⟩
  | _ => exact ⟨_, h⟩
theorem SpecAt.tag {K : PySem.W.Frag} {H : Hp} {v : V} {s : Spec} (h : SpecAt K H v s) : ∃ q r, v = .ref q ∧ SqT K H q (.str (tagOf s) :: r) := by
  obtain ⟨q, xs, rfl, hq, sv⟩ := h.inv
  obtain ⟨r, rfl⟩ := sv.tag
  exact ⟨q, r, rfl, hq⟩
def spTakes (K : PySem.W.Frag) : Sp := fun vs H Q _ => ∃ (v : V) (s : Spec), vs = [v] ∧ SpecAt K H v s ∧ SpecOk s ∧ ∀ (q : Addr) (H' : Hp), Same H H' → SqT K H' q ((tks s).map natV) → Q (.ref q) H'
theorem ones (n : Nat) : (List.replicate n [V.int 1]).flatten = (List.replicate n 1).map natV := by
  rw [List.flatten_replicate_singleton, List.map_replicate]
  rfl
section
variable {P : Program} {w : World} {K : PySem.W.Frag} {mg : Str → Option Value} {base : Heap} {f f1 f2 f3 f4 f5 f6 f7 f8 f9 C CN CO CI CW : Addr} {fd fd1 fd2 fd3 fd4 fd5 fd6 fd7 fd8 fd9 : FuncData}
abbrev nLTakes : List Str := ["_law_spec_here"]
theorem scLTakes : FnScope nLTakes ["_law_spec_here"] (defScope sLTakes) := ⟨rfl, rfl, rfl, by decide +kernel, rfl, by decide +kernel, by decide +kernel⟩
theorem ok_takes (F : FnP K "_law_takes" sLTakes f fd) : FnOk P w K mg base CX0 1 f fd ["_law_spec_here"] (spTakes K) := by
  refine F.ok scLTakes (fun vs H Q E h => ?_) (fun cdv A ou s H vs Q E hr h => ?_)
  · obtain ⟨v, sp, rfl, _⟩ := h
    rfl
  · obtain ⟨v, sp, rfl, hs, ok, kk⟩ := h
    have hu := hu_of hr
    have nd := scLTakes.nd
    refine ⟨_, PSs.nox (pss_cons (ps_if (pt_cmpR op_in_seq (pe_ix ix_tup (pv 0) pe_int (fun _ _ => rfl)) (pe_tup (pa_cons pe_str (pa_cons pe_str (pa_cons pe_str pa_nil)))) rfl) (pss_one (ps_ret (pe_op op_times (pe_tup (pa_cons pe_int pa_nil)) (pe_dget hu (pe_disp (pps_cons pe_str (pe_ix ix_tup (pv 0) (pe_un un_neg pe_int) (fun _ _ => rfl)) (pps_cons pe_str pe_int (pps_cons pe_str pe_int pps_nil))) (by rfl) (by rfl) (fun z => by cases z) (by decide)) (pe_ix ix_tup (pv 0) pe_int (fun _ _ => rfl)) (fun _ _ => rfl))))) pss_nil)
      (pss_cons (ps_if (pt_cmpR op_in_seq (pe_ix ix_tup (pv 0) pe_int (fun _ _ => rfl)) (pe_tup (pa_cons pe_str (pa_cons pe_str pa_nil))) rfl) (pss_one (ps_ret (pe_tup (pa_cons (pe_ix ix_tup (pv 0) (pe_un un_neg pe_int) (fun _ _ => rfl)) pa_nil)))) pss_nil)
      (pss_cons (ps_if (pt_cmpR op_in_seq (pe_ix ix_tup (pv 0) pe_int (fun _ _ => rfl)) (pe_tup (pa_cons pe_str (pa_cons pe_str pa_nil))) rfl) (pss_one (ps_ret (pe_ifExp (pt_cmpR op_eq (pe_ix ix_tup (pv 0) pe_int (fun _ _ => rfl)) pe_str (nomark _)) (pe_ix ix_tup (pv 0) pe_int (fun _ _ => rfl)) (pe_tup pa_nil)))) pss_nil)
      (pss_one (ps_ret (pe_tup (pa_cons pe_int pa_nil))))))), ?_⟩
    obtain ⟨q, xs, rfl, hq, sv⟩ := hs.inv
    obtain ⟨r, exs⟩ := sv.tag
    have hq0 := hq
    rw [exs] at hq0
    refine ⟨_, rfl, q, _, _, _, rfl, rfl, hq0, atI_nat (j := 0) rfl, (by show 3 ≤ sizeLine; decide), fun t1 ht1 => ?_⟩
    have s1 := Same.new (o := .tup [V.str "mix", V.str "times", V.str "choose"]) (Same.refl H) ht1
    refine ⟨t1, _, rfl, .inr (.inl (.inl upd_same)), rfl, rfl, _, rfl, ?_⟩
    have k1 : KT K H (upd H t1 (.tup [V.str "mix", V.str "times", V.str "choose"])) := KT.same s1
    generalize upd H t1 (.tup [V.str "mix", V.str "times", V.str "choose"]) = H1 at s1 k1
    have one : ∀ (G : Hp), Same H G → tks sp = [1] → ∀ t, G t = none → Q (.ref t) (upd G t (.tup [V.int 1])) := fun G sG e t ht => by
      refine kk t _ (Same.new sG ht) ?_
      rw [e]
      exact .inl (.inl upd_same)
    cases sp with
    | mix n =>
      obtain rfl := sv
      have ok' : Dig n := ok
      refine iteT_ (by show (if false = true then !inV (V.str "mix") [V.str "mix", V.str "times", V.str "choose"] else inV (V.str "mix") [V.str "mix", V.str "times", V.str "choose"]) = true; decide +kernel) ?_
      refine ⟨(by show 1 ≤ sizeLine; decide), fun t2 ht2 => fun d hd => ?_⟩
      have s2 := Same.new (o := .tup [V.int 1]) (Same.refl H1) ht2
      have s3 := Same.new (o := .dK []) (Same.refl _) hd
      refine ⟨_, rfl, _, rfl, q, _, _, _, rfl, rfl, k1.trans (KT.same (s2.trans s3)) _ _ hq, atI_last [V.str "mix"] _, upd_same, [(Sum.inr "mix", .int (n : Int)), (Sum.inr "times", .int 2), (Sum.inr "choose", .int 3)], rfl, (by show 3 ≤ 15; decide), ?_⟩
      rw [upd_upd]
      have s4' := Same.new (o := .dK (mergeK [] [(Sum.inr "mix", .int (n : Int)), (Sum.inr "times", .int 2), (Sum.inr "choose", .int 3)])) (Same.refl (upd H1 t2 (.tup [V.int 1]))) hd
      have s4 := s2.trans s4'
      refine ⟨_, rfl, q, _, _, _, rfl, rfl, k1.trans (KT.same s4) _ _ hq, atI_nat (j := 0) rfl, d, _, rfl, DGet.k (k := Sum.inr "mix") upd_same, ?_⟩
      refine ⟨t2, n, [V.int 1], rfl, rfl, .inl (.inl (s4' _ _ upd_same)), (by simp), (by have := ok'.2; omega), (by show 1 ≤ 1000; decide), fun e => ?_, fun ne t5 ht5 => ?_⟩
      · refine kk t2 _ (s1.trans s4) ?_
        rw [show tks (.mix n) = [1] by rw [e]; rfl]
        exact .inl (.inl (s4' _ _ upd_same))
      · refine kk t5 _ (Same.new (s1.trans s4) ht5) ?_
        rw [ones]
        exact .inl (.inl upd_same)
    | times =>
      obtain rfl := sv
      refine iteT_ (by show (if false = true then !inV (V.str "times") [V.str "mix", V.str "times", V.str "choose"] else inV (V.str "times") [V.str "mix", V.str "times", V.str "choose"]) = true; decide +kernel) ?_
      refine ⟨(by show 1 ≤ sizeLine; decide), fun t2 ht2 => fun d hd => ?_⟩
      have s2 := Same.new (o := .tup [V.int 1]) (Same.refl H1) ht2
      have s3 := Same.new (o := .dK []) (Same.refl _) hd
      refine ⟨_, rfl, _, rfl, q, _, _, _, rfl, rfl, k1.trans (KT.same (s2.trans s3)) _ _ hq, atI_last [] _, upd_same, [(Sum.inr "mix", .str "times"), (Sum.inr "times", .int 2), (Sum.inr "choose", .int 3)], rfl, (by show 3 ≤ 15; decide), ?_⟩
      rw [upd_upd]
      have s4' := Same.new (o := .dK (mergeK [] [(Sum.inr "mix", .str "times"), (Sum.inr "times", .int 2), (Sum.inr "choose", .int 3)])) (Same.refl (upd H1 t2 (.tup [V.int 1]))) hd
      have s4 := s2.trans s4'
      refine ⟨_, rfl, q, _, _, _, rfl, rfl, k1.trans (KT.same s4) _ _ hq, atI_nat (j := 0) rfl, d, _, rfl, DGet.k (k := Sum.inr "times") upd_same, ?_⟩
      refine ⟨t2, 2, [V.int 1], rfl, rfl, .inl (.inl (s4' _ _ upd_same)), (by simp), (by decide), (by show 1 ≤ 1000; decide), fun e => ?_, fun ne t5 ht5 => ?_⟩
      · exact absurd e (by decide)
      · refine kk t5 _ (Same.new (s1.trans s4) ht5) ?_
        rw [ones]
        exact .inl (.inl upd_same)
    | choose =>
      obtain rfl := sv
      refine iteT_ (by show (if false = true then !inV (V.str "choose") [V.str "mix", V.str "times", V.str "choose"] else inV (V.str "choose") [V.str "mix", V.str "times", V.str "choose"]) = true; decide +kernel) ?_
      refine ⟨(by show 1 ≤ sizeLine; decide), fun t2 ht2 => fun d hd => ?_⟩
      have s2 := Same.new (o := .tup [V.int 1]) (Same.refl H1) ht2
      have s3 := Same.new (o := .dK []) (Same.refl _) hd
      refine ⟨_, rfl, _, rfl, q, _, _, _, rfl, rfl, k1.trans (KT.same (s2.trans s3)) _ _ hq, atI_last [] _, upd_same, [(Sum.inr "mix", .str "choose"), (Sum.inr "times", .int 2), (Sum.inr "choose", .int 3)], rfl, (by show 3 ≤ 15; decide), ?_⟩
      rw [upd_upd]
      have s4' := Same.new (o := .dK (mergeK [] [(Sum.inr "mix", .str "choose"), (Sum.inr "times", .int 2), (Sum.inr "choose", .int 3)])) (Same.refl (upd H1 t2 (.tup [V.int 1]))) hd
      have s4 := s2.trans s4'
      refine ⟨_, rfl, q, _, _, _, rfl, rfl, k1.trans (KT.same s4) _ _ hq, atI_nat (j := 0) rfl, d, _, rfl, DGet.k (k := Sum.inr "choose") upd_same, ?_⟩
      refine ⟨t2, 3, [V.int 1], rfl, rfl, .inl (.inl (s4' _ _ upd_same)), (by simp), (by decide), (by show 1 ≤ 1000; decide), fun e => ?_, fun ne t5 ht5 => ?_⟩
      · exact absurd e (by decide)
      · refine kk t5 _ (Same.new (s1.trans s4) ht5) ?_
        rw [ones]
        exact .inl (.inl upd_same)
    | down n =>
      obtain rfl := sv
      refine iteF_ (by show (if false = true then !inV (V.str "down") [V.str "mix", V.str "times", V.str "choose"] else inV (V.str "down") [V.str "mix", V.str "times", V.str "choose"]) = false; decide +kernel) ?_
      refine ⟨_, rfl, q, _, _, _, rfl, rfl, k1 _ _ hq, atI_nat (j := 0) rfl, (by show 2 ≤ sizeLine; decide), fun t2 ht2 => ?_⟩
      have s2 := Same.new (o := .tup [V.str "down", V.str "resample"]) (Same.refl H1) ht2
      refine ⟨t2, _, rfl, .inr (.inl (.inl upd_same)), rfl, rfl, _, rfl, ?_⟩
      refine iteT_ (by show (if false = true then !inV (V.str "down") [V.str "down", V.str "resample"] else inV (V.str "down") [V.str "down", V.str "resample"]) = true; decide +kernel) ?_
      refine ⟨_, rfl, _, rfl, q, _, _, _, rfl, rfl, k1.trans (KT.same s2) _ _ hq, atI_last [V.str "down"] _, (by show 1 ≤ sizeLine; decide), fun t3 ht3 => ?_⟩
      exact kk t3 _ (Same.new (s1.trans s2) ht3) (.inl (.inl upd_same))
    | resample u n =>
      obtain rfl := sv
      refine iteF_ (by show (if false = true then !inV (V.str "resample") [V.str "mix", V.str "times", V.str "choose"] else inV (V.str "resample") [V.str "mix", V.str "times", V.str "choose"]) = false; decide +kernel) ?_
      refine ⟨_, rfl, q, _, _, _, rfl, rfl, k1 _ _ hq, atI_nat (j := 0) rfl, (by show 2 ≤ sizeLine; decide), fun t2 ht2 => ?_⟩
      have s2 := Same.new (o := .tup [V.str "down", V.str "resample"]) (Same.refl H1) ht2
      refine ⟨t2, _, rfl, .inr (.inl (.inl upd_same)), rfl, rfl, _, rfl, ?_⟩
      refine iteT_ (by show (if false = true then !inV (V.str "resample") [V.str "down", V.str "resample"] else inV (V.str "resample") [V.str "down", V.str "resample"]) = true; decide +kernel) ?_
      refine ⟨_, rfl, _, rfl, q, _, _, _, rfl, rfl, k1.trans (KT.same s2) _ _ hq, atI_last [V.str "resample", V.int (u : Int)] _, (by show 1 ≤ sizeLine; decide), fun t3 ht3 => ?_⟩
      exact kk t3 _ (Same.new (s1.trans s2) ht3) (.inl (.inl upd_same))
    | own ts g =>
      obtain ⟨t, rfl, ht⟩ := sv
      refine iteF_ (by show (if false = true then !inV (V.str "own") [V.str "mix", V.str "times", V.str "choose"] else inV (V.str "own") [V.str "mix", V.str "times", V.str "choose"]) = false; decide +kernel) ?_
      refine ⟨_, rfl, q, _, _, _, rfl, rfl, k1 _ _ hq, atI_nat (j := 0) rfl, (by show 2 ≤ sizeLine; decide), fun t2 ht2 => ?_⟩
      have s2 := Same.new (o := .tup [V.str "down", V.str "resample"]) (Same.refl H1) ht2
      refine ⟨t2, _, rfl, .inr (.inl (.inl upd_same)), rfl, rfl, _, rfl, ?_⟩
      refine iteF_ (by show (if false = true then !inV (V.str "own") [V.str "down", V.str "resample"] else inV (V.str "own") [V.str "down", V.str "resample"]) = false; decide +kernel) ?_
      refine ⟨_, rfl, q, _, _, _, rfl, rfl, k1.trans (KT.same s2) _ _ hq, atI_nat (j := 0) rfl, (by show 2 ≤ sizeLine; decide), fun t3 ht3 => ?_⟩
      have s3 := Same.new (o := .tup [V.str "own", V.str "inlet"]) s2 ht3
      refine ⟨t3, _, rfl, .inr (.inl (.inl upd_same)), rfl, rfl, _, rfl, ?_⟩
      refine iteT_ (by show (if false = true then !inV (V.str "own") [V.str "own", V.str "inlet"] else inV (V.str "own") [V.str "own", V.str "inlet"]) = true; decide +kernel) ?_
      refine ⟨_, rfl, q, _, _, _, rfl, rfl, k1.trans (KT.same s3) _ _ hq, atI_nat (j := 0) rfl, rfl, _, rfl, iteT_ (by show decide (V.str "own" = V.str "own") = true; decide +kernel) ?_⟩
      refine ⟨_, rfl, q, _, _, _, rfl, rfl, k1.trans (KT.same s3) _ _ hq, atI_nat (j := 1) rfl, ?_⟩
      exact kk t _ (s1.trans s3) (KT.same (s1.trans s3) _ _ ht)
    | inlet =>
      obtain rfl := sv
      refine iteF_ (by show (if false = true then !inV (V.str "inlet") [V.str "mix", V.str "times", V.str "choose"] else inV (V.str "inlet") [V.str "mix", V.str "times", V.str "choose"]) = false; decide +kernel) ?_
      refine ⟨_, rfl, q, _, _, _, rfl, rfl, k1 _ _ hq, atI_nat (j := 0) rfl, (by show 2 ≤ sizeLine; decide), fun t2 ht2 => ?_⟩
      have s2 := Same.new (o := .tup [V.str "down", V.str "resample"]) (Same.refl H1) ht2
      refine ⟨t2, _, rfl, .inr (.inl (.inl upd_same)), rfl, rfl, _, rfl, ?_⟩
      refine iteF_ (by show (if false = true then !inV (V.str "inlet") [V.str "down", V.str "resample"] else inV (V.str "inlet") [V.str "down", V.str "resample"]) = false; decide +kernel) ?_
      refine ⟨_, rfl, q, _, _, _, rfl, rfl, k1.trans (KT.same s2) _ _ hq, atI_nat (j := 0) rfl, (by show 2 ≤ sizeLine; decide), fun t3 ht3 => ?_⟩
      have s3 := Same.new (o := .tup [V.str "own", V.str "inlet"]) s2 ht3
      refine ⟨t3, _, rfl, .inr (.inl (.inl upd_same)), rfl, rfl, _, rfl, ?_⟩
      refine iteT_ (by show (if false = true then !inV (V.str "inlet") [V.str "own", V.str "inlet"] else inV (V.str "inlet") [V.str "own", V.str "inlet"]) = true; decide +kernel) ?_
      refine ⟨_, rfl, q, _, _, _, rfl, rfl, k1.trans (KT.same s3) _ _ hq, atI_nat (j := 0) rfl, rfl, _, rfl, iteF_ (by show decide (V.str "inlet" = V.str "own") = false; decide +kernel) ?_⟩
      refine ⟨(by show 0 ≤ sizeLine; decide), fun t4 ht4 => ?_⟩
      exact kk t4 _ (Same.new (s1.trans s3) ht4) (.inl (.inl upd_same))
    | gain b l g =>
      obtain rfl := sv
      refine iteF_ (by show (if false = true then !inV (V.str "gain") [V.str "mix", V.str "times", V.str "choose"] else inV (V.str "gain") [V.str "mix", V.str "times", V.str "choose"]) = false; decide +kernel) ?_
      refine ⟨_, rfl, q, _, _, _, rfl, rfl, k1 _ _ hq, atI_nat (j := 0) rfl, (by show 2 ≤ sizeLine; decide), fun t2 ht2 => ?_⟩
      have s2 := Same.new (o := .tup [V.str "down", V.str "resample"]) (Same.refl H1) ht2
      refine ⟨t2, _, rfl, .inr (.inl (.inl upd_same)), rfl, rfl, _, rfl, ?_⟩
      refine iteF_ (by show (if false = true then !inV (V.str "gain") [V.str "down", V.str "resample"] else inV (V.str "gain") [V.str "down", V.str "resample"]) = false; decide +kernel) ?_
      refine ⟨_, rfl, q, _, _, _, rfl, rfl, k1.trans (KT.same s2) _ _ hq, atI_nat (j := 0) rfl, (by show 2 ≤ sizeLine; decide), fun t3 ht3 => ?_⟩
      have s3 := Same.new (o := .tup [V.str "own", V.str "inlet"]) s2 ht3
      refine ⟨t3, _, rfl, .inr (.inl (.inl upd_same)), rfl, rfl, _, rfl, ?_⟩
      refine iteF_ (by show (if false = true then !inV (V.str "gain") [V.str "own", V.str "inlet"] else inV (V.str "gain") [V.str "own", V.str "inlet"]) = false; decide +kernel) ?_
      exact ⟨(by show 1 ≤ sizeLine; decide), fun t4 ht4 => one _ (s1.trans s3) rfl t4 ht4⟩
    | up n =>
      obtain rfl := sv
      refine iteF_ (by show (if false = true then !inV (V.str "up") [V.str "mix", V.str "times", V.str "choose"] else inV (V.str "up") [V.str "mix", V.str "times", V.str "choose"]) = false; decide +kernel) ?_
      refine ⟨_, rfl, q, _, _, _, rfl, rfl, k1 _ _ hq, atI_nat (j := 0) rfl, (by show 2 ≤ sizeLine; decide), fun t2 ht2 => ?_⟩
      have s2 := Same.new (o := .tup [V.str "down", V.str "resample"]) (Same.refl H1) ht2
      refine ⟨t2, _, rfl, .inr (.inl (.inl upd_same)), rfl, rfl, _, rfl, ?_⟩
      refine iteF_ (by show (if false = true then !inV (V.str "up") [V.str "down", V.str "resample"] else inV (V.str "up") [V.str "down", V.str "resample"]) = false; decide +kernel) ?_
      refine ⟨_, rfl, q, _, _, _, rfl, rfl, k1.trans (KT.same s2) _ _ hq, atI_nat (j := 0) rfl, (by show 2 ≤ sizeLine; decide), fun t3 ht3 => ?_⟩
      have s3 := Same.new (o := .tup [V.str "own", V.str "inlet"]) s2 ht3
      refine ⟨t3, _, rfl, .inr (.inl (.inl upd_same)), rfl, rfl, _, rfl, ?_⟩
      refine iteF_ (by show (if false = true then !inV (V.str "up") [V.str "own", V.str "inlet"] else inV (V.str "up") [V.str "own", V.str "inlet"]) = false; decide +kernel) ?_
      exact ⟨(by show 1 ≤ sizeLine; decide), fun t4 ht4 => one _ (s1.trans s3) rfl t4 ht4⟩
    | outlet  =>
      obtain rfl := sv
      refine iteF_ (by show (if false = true then !inV (V.str "outlet") [V.str "mix", V.str "times", V.str "choose"] else inV (V.str "outlet") [V.str "mix", V.str "times", V.str "choose"]) = false; decide +kernel) ?_
      refine ⟨_, rfl, q, _, _, _, rfl, rfl, k1 _ _ hq, atI_nat (j := 0) rfl, (by show 2 ≤ sizeLine; decide), fun t2 ht2 => ?_⟩
      have s2 := Same.new (o := .tup [V.str "down", V.str "resample"]) (Same.refl H1) ht2
      refine ⟨t2, _, rfl, .inr (.inl (.inl upd_same)), rfl, rfl, _, rfl, ?_⟩
      refine iteF_ (by show (if false = true then !inV (V.str "outlet") [V.str "down", V.str "resample"] else inV (V.str "outlet") [V.str "down", V.str "resample"]) = false; decide +kernel) ?_
      refine ⟨_, rfl, q, _, _, _, rfl, rfl, k1.trans (KT.same s2) _ _ hq, atI_nat (j := 0) rfl, (by show 2 ≤ sizeLine; decide), fun t3 ht3 => ?_⟩
      have s3 := Same.new (o := .tup [V.str "own", V.str "inlet"]) s2 ht3
      refine ⟨t3, _, rfl, .inr (.inl (.inl upd_same)), rfl, rfl, _, rfl, ?_⟩
      refine iteF_ (by show (if false = true then !inV (V.str "outlet") [V.str "own", V.str "inlet"] else inV (V.str "outlet") [V.str "own", V.str "inlet"]) = false; decide +kernel) ?_
      exact ⟨(by show 1 ≤ sizeLine; decide), fun t4 ht4 => one _ (s1.trans s3) rfl t4 ht4⟩
end
end Sw
namespace Sw
open PySem PySem.Spec PyProof.Rows L2
/-! ### rows turned about -/
/-- data without lists, not deep -/
def GoodV (K : PySem.W.Frag) (H : Hp) (v : V) : Prop := ∃ d, Dp K H v d ∧ noList d = true ∧ PyData.canLay0 d = true ∧ d.depth ≤ 5
theorem GoodV.kt {K : PySem.W.Frag} {H H1 : Hp} {v : V} (h : GoodV K H v) (s : KT K H H1) : GoodV K H1 v := by
  obtain ⟨d, h1, h2, h3, h4⟩ := h
  exact ⟨d, Dp.kt s h2 h1, h2, h3, h4⟩
theorem good_all {K : PySem.W.Frag} {H : Hp} : ∀ {ls : List V}, (∀ v ∈ ls, GoodV K H v) → ∃ ds, DpAll K H ls ds ∧ PyData.canLayAll0 ds = true ∧ PyData.depthAll ds ≤ 5
  | [], _ => ⟨[], .nil, rfl, by rw [PyData.depthAll]; decide⟩
  | v :: r, h => by
    obtain ⟨d, h1, _, h3, h4⟩ := h v List.mem_cons_self
    obtain ⟨ds, a1, a2, a3⟩ := good_all (ls := r) fun z hz => h z (List.mem_cons_of_mem _ hz)
    refine ⟨d :: ds, .cons h1 a1, ?_, ?_⟩
    · rw [PyData.canLayAll0, h3, a2]
      rfl
    · rw [PyData.depthAll]
      omega
theorem good_shaped {K : PySem.W.Frag} {H : Hp} {ls : List V} (h : ∀ v ∈ ls, GoodV K H v) : ∃ ds, DpAll K H ls ds ∧ SeqAt.shaped (.list ds) = true := by
  obtain ⟨ds, h1, h2, h3⟩ := good_all h
  refine ⟨ds, h1, ?_⟩
  unfold SeqAt.shaped
  rw [PyData.canLay0, h2, PyData.depth, decide_eq_true (by omega)]
  rfl
theorem eqv_nil {ds : List PyData} : PyData.eqv (.list ds) (.list []) = decide (ds = []) := by
  cases ds with
  | nil => rfl
  | cons t r => rfl
theorem dpAll_nil' {K : PySem.W.Frag} {H : Hp} {xs : List V} {ds : List PyData} (h : DpAll K H xs ds) : ds = [] ↔ xs = [] := by
  cases h with
  | nil => exact ⟨fun _ => rfl, fun _ => rfl⟩
  | cons _ _ => exact ⟨(fun z => by cases z), (fun z => by cases z)⟩
theorem erase_perm {α : Type} : ∀ {l : List α} {k : Nat} (h : k < l.length), (l[k] :: l.eraseIdx k).Perm l
  | [], k, h => absurd h (Nat.not_lt_zero k)
  | a :: r, 0, _ => List.Perm.refl _
  | a :: r, k + 1, h => by
    have h' : k < r.length := by simpa using h
    exact (List.Perm.swap _ _ _).trans ((erase_perm h').cons a)
theorem seqIndex_nat {n : Nat} {k : Nat} (h : k < n) : seqIndex? (k : Int) n = some k := by
  unfold seqIndex?
  simp
  omega
def spTurned (K : PySem.W.Frag) : Sp := fun vs H Q _ => ∃ (p l : Addr) (xs : List V), vs = [.ref p, .ref l] ∧ PotAt H p ∧ H l = some (.lst xs) ∧ (∀ v ∈ xs, GoodV K H v) ∧ xs.length ≤ 1000 ∧ ∀ (l' : Addr) (ys : List V) (H' : Hp), ys.Perm xs → H l' = none → Kept p H H' → PotAt H' p → H' l' = some (.lst ys) → Q (.ref l') H'
section
variable {P : Program} {w : World} {K : PySem.W.Frag} {mg : Str → Option Value} {base : Heap} {f f1 f2 f3 f4 f5 f6 f7 f8 f9 C CN CO CI CW : Addr} {fd fd1 fd2 fd3 fd4 fd5 fd6 fd7 fd8 fd9 : FuncData}
abbrev nLTurned : List Str := ["_law_pot_here", "_law_row", "_law_left", "_law_found"]
theorem scLTurned : FnScope nLTurned ["_law_pot_here", "_law_row"] (defScope sLTurned) := ⟨rfl, rfl, rfl, by decide +kernel, rfl, by decide +kernel, by decide +kernel⟩
theorem ok_turned (F : FnP K "_law_turned" sLTurned f fd) (GT : FnOk P w K mg base CX0 1 f1 fd1 ["_law_pot_here", "_law_many"] spTake) (gT : mg "_law_take" = some (.ref f1)) (kT : PySem.W.keepIn K (.ref f1) = true) (bT : Binds K fd1 ["_law_pot_here", "_law_many"] []) (gLen : mg "len" = none) (gList : mg "list" = none) : FnOk P w K mg base CX0 2 f fd ["_law_pot_here", "_law_row"] (spTurned K) := by
  refine F.ok scLTurned (fun vs H Q E h => ?_) (fun cdv A ou s H vs Q E hr h => ?_)
  · obtain ⟨p, l, xs, rfl, _⟩ := h
    rfl
  · obtain ⟨p, l, xs, rfl, hp, hl, good, few, kk⟩ := h
    have nd := scLTurned.nd
    have hu := hr.units
    have hr1 : Room 1 _ := hr
    refine ⟨_, PSs.nox (pss_cons (ps_par (i := 2) (j := 3) rfl nd rfl rfl (by decide) rfl rfl (pa_cons (pe_callTy call_list_of (by rfl) gList PyProof.Rows.boot_list (pa_cons (pv 1) pa_nil)) (pa_cons (pe_lst pa_nil) pa_nil)) rfl)
      (pss_cons (ps_while PassesOwn.never (pt_cmpR (op_neD hu) (pv 2) (pe_lst pa_nil) (nomark _))
      (pss_one (ps_expr (pe_bm PySem.F.plainAttrs_list PySem.F.slot_list_append PySem.F.type_list_append mt_append (pv 3) (pa_cons (pe_bm PySem.F.plainAttrs_list PySem.F.slot_list_pop PySem.F.type_list_pop mt_popAt (pv 2) (pa_cons (pe_call GT hr1 rfl gT kT bT .nil pass0 (pa_cons (pv 0) (pa_cons (pe_callB call_len_seq (by rfl) gLen PySem.boot_len (pa_cons (pv 2) pa_nil)) pa_nil))) pa_nil)) pa_nil)))))
      (pss_one (ps_ret (pv 3))))), ?_⟩
    refine ⟨_, rfl, l, _, rfl, .inl (SqL.of hl), fun lf hlf => ⟨(by show 0 ≤ sizeLine; decide), fun fo hfo => ⟨_, _, rfl, ?_⟩⟩⟩
    have s1 := Same.new (o := .lst xs) (Same.refl H) hlf
    have hlf1 : (upd H lf (.lst xs)) lf = some (.lst xs) := upd_same
    generalize upd H lf (.lst xs) = H1 at s1 hlf1 hfo
    have s2 := Same.new (o := .lst []) s1 hfo
    have nfl : lf ≠ fo := ne_of_none hlf1 hfo
    have hlf2 : (upd H1 fo (.lst [])) lf = some (.lst xs) := by rw [upd_ne nfl]; exact hlf1
    have hfo2 : (upd H1 fo (.lst [])) fo = some (.lst []) := upd_same
    have fo0 : H fo = none := s1.free hfo
    have nlp : lf ≠ p := hp.ne hlf
    have nfp : fo ≠ p := hp.ne fo0
    generalize upd H1 fo (.lst []) = H2 at s2 hlf2 hfo2
    dsimp only [gName]
    refine seq_while (while_by (fun σ G => ∃ ls fs : List V, σ = [some (.ref p), some (.ref l), some (.ref lf), some (.ref fo)] ∧ G lf = some (.lst ls) ∧ G fo = some (.lst fs) ∧ (fs ++ ls).Perm xs ∧ Kept p H G ∧ PotAt G p ∧ KT K H G)
      (fun σ G => match G lf with
        | some (.lst xs) => xs.length
        | _ => 0)
      ⟨xs, [], rfl, hlf2, hfo2, by rw [List.nil_append], Kept.same s2, hp.keep s2, KT.same s2⟩ ?_ ?_)
    · rintro σ G ⟨ls, fs, rfl, hL, hF, pm, kG, hpG, kt⟩
      have gls : ∀ v ∈ ls, GoodV K G v := fun v hv => (good v (pm.subset (List.mem_append_right _ hv))).kt kt
      have lx := pm.length_eq
      rw [List.length_append] at lx
      refine ⟨_, rfl, (by show 0 ≤ sizeLine; decide), fun e he => ?_⟩
      have s3 := Same.new (o := .lst []) (Same.refl G) he
      have he3 : (upd G e (.lst [])) e = some (.lst []) := upd_same
      have hpe := hpG.ne he
      have fe := kG.free hpG he
      have kG3 : Kept p H (upd G e (.lst [])) := kG.past fe
      generalize upd G e (.lst []) = G3 at s3 he3 kG3
      obtain ⟨ds, dd, sh⟩ := good_shaped fun v hv => (gls v hv).kt (KT.same s3)
      refine ⟨.list ds, .list [], .lst (SqL.of (s3 _ _ hL)) dd, .lst (SqL.of he3) .nil, sh, rfl, _, rfl, ?_⟩
      rw [eqv_nil]
      by_cases z : ls = []
      · subst z
        rw [decide_eq_true ((dpAll_nil' dd).mpr rfl)]
        refine iteF_ rfl ?_
        rw [List.append_nil] at pm
        exact ⟨_, rfl, kk fo fs G3 pm fo0 kG3 (hpG.keep s3) (s3 _ _ hF)⟩
      · rw [decide_eq_false (fun q => z ((dpAll_nil' dd).mp q))]
        refine iteT_ rfl ?_
        have lp := List.length_pos_iff.mpr z
        refine ⟨_, rfl, .inl ⟨rfl, _, SqL.of (s3 _ _ hF)⟩, _, rfl, .inl ⟨rfl, _, SqL.of (s3 _ _ hL)⟩, _, rfl, _, rfl, lf, _, rfl, .inl (SqL.of (s3 _ _ hL)), p, _, rfl, hpG.keep s3, by omega, by omega, fun d G4 d0 d1 k4 hp4 => ?_⟩
        obtain ⟨k, rfl, k1⟩ := nat_of d0 d1
        have kl : k < ls.length := by omega
        have hL4 := k4 _ _ nlp (s3 _ _ hL)
        have hF4 := k4 _ _ nfp (s3 _ _ hF)
        refine ⟨lf, _, _, k, ls[k], rfl, rfl, hL4, by omega, by omega, seqIndex_nat kl, List.getElem?_eq_getElem kl, ?_⟩
        have hF5 : (upd G4 lf (.lst (ls.eraseIdx k))) fo = some (.lst fs) := by rw [upd_ne nfl.symm]; exact hF4
        refine ⟨fo, _, _, rfl, rfl, hF5, ?_, ?_⟩
        · exact Nat.lt_of_lt_of_le (show fs.length < 1001 by omega) (by decide)
        have hL6 : (upd (upd G4 lf (.lst (ls.eraseIdx k))) fo (.lst (fs ++ [ls[k]]))) lf = some (.lst (ls.eraseIdx k)) := by
          rw [upd_ne nfl]
          exact upd_same
        refine ⟨⟨ls.eraseIdx k, fs ++ [ls[k]], rfl, hL6, upd_same, ?_, ((kG3.trans k4).past hlf).past fo0, (hp4.upd nlp).upd nfp, ?_⟩, ?_⟩
        · rw [List.append_assoc]
          exact (List.Perm.append_left fs (erase_perm kl)).trans pm
        · exact (((kt.trans (KT.same s3)).trans (KT.kept k4 (hpG.keep s3))).trans (KT.lst hL4)).trans (KT.lst hF5)
        · rw [hL6, hL]
          show (ls.eraseIdx k).length < ls.length
          rw [List.length_eraseIdx, if_pos kl]
          omega
    · rintro σ G Q1 Q2 m ⟨v, h1, h2, h3⟩
      refine ⟨v, h1, h2, fun e he => ?_⟩
      obtain ⟨d1, d2, a, b, c, d, v', e1, e2⟩ := h3 e he
      exact ⟨d1, d2, a, b, c, d, v', e1, m _ _ e2⟩
end
/-! ### knots -/
abbrev Knot := Str × Spec
def knotD (k : Knot) : PyData := .tuple [.str k.1, specD k.2]
theorem knot_inv {K : PySem.W.Frag} {H : Hp} {v : V} {k : Knot} (h : Dp K H v (knotD k)) : ∃ q sv, v = .ref q ∧ SqT K H q [.str k.1, sv] ∧ SpecAt K H sv k.2 := by
  obtain ⟨q, xs, rfl, hq, a⟩ := dp_tup h
  obtain ⟨_, _, rfl, a1, a⟩ := dpAll_cons a
  obtain ⟨sv, _, rfl, a2, a⟩ := dpAll_cons a
  refine ⟨q, sv, rfl, ?_, a2⟩
  rw [dp_str a1, dpAll_nil a] at hq
  exact hq
theorem knot_noList (k : Knot) : noList (knotD k) = true := by
  unfold knotD
  rw [noList, noLists, noLists, noLists, spec_noList]
  rfl
theorem DpAll.map {K : PySem.W.Frag} {H : Hp} {α : Type} {f : α → PyData} : ∀ {ks : List α} {vs : List V} {i : Nat} {v : V}, DpAll K H vs (ks.map f) → vs[i]? = some v → ∃ k, ks[i]? = some k ∧ Dp K H v (f k) := fun {ks vs i v} h e => by
  obtain ⟨d, h1, h2⟩ := DpAll.get h e
  rw [List.getElem?_map] at h1
  obtain ⟨k, h3, h4⟩ := Option.map_eq_some_iff.mp h1
  exact ⟨k, h3, h4 ▸ h2⟩
def srcN (ks : List Knot) : List Str := (ks.filter fun k => !isOut k.2).map (·.1)
theorem srcN_snoc {ks : List Knot} {j : Nat} {k : Knot} (e : ks[j]? = some k) : srcN (ks.take (j + 1)) = srcN (ks.take j) ++ (if isOut k.2 = false then [k.1] else []) := by
  unfold srcN
  rw [List.take_succ, e, List.filter_append, List.map_append]
  congr 1
  show (List.filter _ [k]).map _ = _
  cases z : isOut k.2 with
  | true => simp [z]
  | false => simp [z]
theorem srcN_len {ks : List Knot} : (srcN ks).length ≤ ks.length := by
  unfold srcN
  rw [List.length_map]
  exact List.length_filter_le _ _
def spSources (K : PySem.W.Frag) : Sp := fun vs H Q _ => ∃ (l : Addr) (xs : List V) (ks : List Knot), vs = [.ref l] ∧ H l = some (.lst xs) ∧ DpAll K H xs (ks.map knotD) ∧ ks.length ≤ 100 ∧ ∀ (l' : Addr) (H' : Hp), H l' = none → Same H H' → H' l' = some (.lst (strL (srcN ks))) → Q (.ref l') H'
theorem tag_out {s : Spec} : (!decide (V.str (tagOf s) = V.str "outlet")) = !isOut s := by
  cases s <;> rfl
section
variable {P : Program} {w : World} {K : PySem.W.Frag} {mg : Str → Option Value} {base : Heap} {f f1 f2 f3 f4 f5 f6 f7 f8 f9 C CN CO CI CW : Addr} {fd fd1 fd2 fd3 fd4 fd5 fd6 fd7 fd8 fd9 : FuncData}
abbrev nLSources : List Str := ["_law_knots", "_law_tag", "_law_spec_here"]
theorem scLSources : FnScope nLSources ["_law_knots"] (defScope sLSources) := ⟨rfl, rfl, rfl, by decide +kernel, rfl, by decide +kernel, by decide +kernel⟩
theorem ok_sources (F : FnP K "_law_sources" sLSources f fd) : FnOk P w K mg base CX0 1 f fd ["_law_knots"] (spSources K) := by
  refine F.ok scLSources (fun vs H Q E h => ?_) (fun cdv A ou s H vs Q E hr h => ?_)
  · obtain ⟨l, xs, ks, rfl, _⟩ := h
    rfl
  · obtain ⟨l, xs, ks, rfl, hl, al, few, kk⟩ := h
    have nd := scLSources.nd
    refine ⟨_, PSs.nox (pss_one (ps_ret (pe_lc (own := [("_law_tag", 1), ("_law_spec_here", 2)]) (g := (gTup K 2 (gCons (gName 1) (gCons (gName 2) gNil)))) (tt := _) rfl nd (pi_list (pv 0)) (blkOk_by (N := nLSources) (sc := defScope sLSources) (by decide +kernel))
        (fun _ _ _ _ _ => (pg_tup rfl (pgs_cons (pg_name (i := 1) nd rfl (Or.inl rfl)) (pgs_cons (pg_name (i := 2) nd rfl (Or.inl rfl)) pgs_nil)))) (fun _ _ _ _ _ => (pts_one (pt_cmpR op_ne (pe_ix (ix_tupK (K := K) rfl) (pv 2) pe_int (fun _ _ => rfl)) pe_str (nomark _)))) (fun _ _ _ _ _ => (pv 1))))), ?_⟩
    have xl : xs.length = ks.length := by rw [DpAll.len al, List.length_map]
    refine ⟨_, rfl, l, rfl, ⟨_, SqL.of hl⟩, fun D hD => ?_⟩
    refine lc_list (xs := xs) (fun j H' => H' D = some (.lst (strL (srcN (ks.take j)))) ∧ Same H H') ⟨by rw [List.take_zero]; exact upd_same, Same.past (Same.refl _) hD⟩ (fun j H' _ e => SqL.of (e.2 _ _ hl)) (fun j v H' ev e => ?_) (fun H1 e => ?_)
    · obtain ⟨hd, sm⟩ := e
      obtain ⟨k, ek, dk⟩ := DpAll.map al ev
      obtain ⟨q, sv, rfl, hq, hs⟩ := knot_inv dk
      obtain ⟨q2, ys, rfl, hq2, sp⟩ := hs.inv
      obtain ⟨r, rfl⟩ := sp.tag
      refine ⟨q, _, rfl, Same.tup sm hq, rfl, _, _, rfl, _, _, rfl, rfl, rfl, ?_⟩
      refine ⟨_, rfl, q2, _, _, _, rfl, rfl, Same.tup sm hq2, atI_nat (j := 0) rfl, rfl, _, rfl, ?_⟩
      rw [tag_out]
      have e2 := srcN_snoc ek
      cases z : isOut k.2 with
      | true =>
        rw [z] at e2
        refine iteF_ rfl ⟨?_, sm⟩
        rw [e2]
        simpa using hd
      | false =>
        rw [z] at e2
        refine iteT_ rfl ⟨_, rfl, _, hd, ?_, ?_, Same.past sm hD⟩
        · unfold strL
          rw [List.length_map]
          have := srcN_len (ks := ks.take j)
          rw [List.length_take] at this
          exact Nat.lt_of_lt_of_le (show _ < 101 by omega) (by decide)
        · rw [e2, upd_same]
          unfold strL
          rw [List.map_append]
          rfl
    · obtain ⟨hd, sm⟩ := e
      rw [xl, List.take_length] at hd
      exact kk D H1 hD sm hd
end
end Sw
namespace Sw
open PySem PySem.Spec PyProof.Rows L2
/-! ### webs: what the law draws -/
def cordD (c : Wr) : PyData := .tuple [.str c.src, .str c.goal, natD c.place, natD c.delay]
theorem cord_inv {K : PySem.W.Frag} {H : Hp} {v : V} {c : Wr} (h : Dp K H v (cordD c)) : ∃ q, v = .ref q ∧ SqT K H q [.str c.src, .str c.goal, .int (c.place : Int), .int (c.delay : Int)] := by
  obtain ⟨q, xs, rfl, hq, a⟩ := dp_tup h
  obtain ⟨_, _, rfl, a1, a⟩ := dpAll_cons a
  obtain ⟨_, _, rfl, a2, a⟩ := dpAll_cons a
  obtain ⟨_, _, rfl, a3, a⟩ := dpAll_cons a
  obtain ⟨_, _, rfl, a4, a⟩ := dpAll_cons a
  refine ⟨q, rfl, ?_⟩
  rw [dp_str a1, dp_str a2, dp_int a3, dp_int a4, dpAll_nil a] at hq
  exact hq
theorem cord_mk {K : PySem.W.Frag} {H : Hp} {q : Addr} {c : Wr} (h : SqT K H q [.str c.src, .str c.goal, .int (c.place : Int), .int (c.delay : Int)]) : Dp K H (.ref q) (cordD c) := .tup h (.cons (.str _) (.cons (.str _) (.cons (.int _) (.cons (.int _) .nil))))
theorem cord_noList (c : Wr) : noList (cordD c) = true := rfl
theorem noLists_map {α : Type} {f : α → PyData} (h : ∀ a, noList (f a) = true) : ∀ ks : List α, noLists (ks.map f) = true
  | [] => rfl
  | k :: r => by
    rw [List.map_cons, noLists, h k, noLists_map h r]
    rfl
/-- a list of such data stays where it and the tuples stay -/
theorem ListD.kt {K : PySem.W.Frag} {H H1 : Hp} {l : Addr} {ds : List PyData} (h : ListD K H l ds) (n : noLists ds = true) (k : KT K H H1) (s : ∀ o, H l = some o → H1 l = some o) : ListD K H1 l ds := by
  obtain ⟨vs, h1, h2⟩ := h
  exact ⟨vs, s _ h1, DpAll.kt k n h2⟩
theorem dp_perm {K : PySem.W.Frag} {H : Hp} {α : Type} {f : α → PyData} {ys xs : List V} (p : ys.Perm xs) : ∀ ks : List α, DpAll K H xs (ks.map f) → ∃ ks' : List α, ks'.Perm ks ∧ DpAll K H ys (ks'.map f) := by
  induction p with
  | nil => exact fun ks h => ⟨ks, List.Perm.refl _, h⟩
  | cons x p ih =>
    intro ks h
    cases ks with
    | nil => cases h
    | cons k r =>
      obtain ⟨v, r', e, h1, h2⟩ := dpAll_cons h
      cases e
      obtain ⟨ks', p', h'⟩ := ih r h2
      exact ⟨k :: ks', p'.cons k, .cons h1 h'⟩
  | swap x y l =>
    intro ks h
    cases ks with
    | nil => cases h
    | cons k r =>
      obtain ⟨v, r', e, h1, h2⟩ := dpAll_cons h
      cases e
      cases r with
      | nil => cases h2
      | cons k2 r =>
        obtain ⟨v, r', e, h3, h4⟩ := dpAll_cons h2
        cases e
        exact ⟨k2 :: k :: r, List.Perm.swap _ _ _, .cons h3 (.cons h1 h4)⟩
  | trans p q ih1 ih2 =>
    intro ks h
    obtain ⟨k1, p1, h1⟩ := ih2 ks h
    obtain ⟨k2, p2, h2⟩ := ih1 k1 h1
    exact ⟨k2, p2.trans p1, h2⟩
theorem lay_nats (ts : List Nat) : PyData.canLayAll0 (ts.map natD) = true := by
  induction ts with
  | nil => rfl
  | cons t r ih =>
    rw [List.map_cons, PyData.canLayAll0, ih]
    rfl
theorem depth_nats (ts : List Nat) : PyData.depthAll (ts.map natD) = 0 := by
  induction ts with
  | nil => rw [List.map_nil, PyData.depthAll]
  | cons t r ih =>
    rw [List.map_cons, PyData.depthAll, ih]
    unfold natD
    rw [PyData.depth]
    rfl
theorem spec_lay (s : Spec) : PyData.canLay0 (specD s) = true ∧ (specD s).depth ≤ 2 := by
  cases s with
  | own ts g =>
    unfold specD
    rw [PyData.canLay0, PyData.canLayAll0, PyData.canLayAll0, PyData.canLayAll0, PyData.canLayAll0, PyData.canLay0, PyData.canLay0, lay_nats, PyData.depth, PyData.depthAll, PyData.depthAll, PyData.depthAll, PyData.depthAll, PyData.depth, PyData.depth, depth_nats]
    unfold natD
    rw [PyData.canLay0, PyData.depth]
    exact ⟨by decide +kernel, by decide⟩
  | gain b l g =>
    unfold specD natD
    simp only [PyData.canLay0, PyData.canLayAll0, PyData.depth, PyData.depthAll]
    exact ⟨by decide +kernel, by decide⟩
  | resample u d =>
    unfold specD natD
    simp only [PyData.canLay0, PyData.canLayAll0, PyData.depth, PyData.depthAll]
    exact ⟨by decide +kernel, by decide⟩
  | mix n =>
    unfold specD natD
    simp only [PyData.canLay0, PyData.canLayAll0, PyData.depth, PyData.depthAll]
    exact ⟨by decide +kernel, by decide⟩
  | up n =>
    unfold specD natD
    simp only [PyData.canLay0, PyData.canLayAll0, PyData.depth, PyData.depthAll]
    exact ⟨by decide +kernel, by decide⟩
  | down n =>
    unfold specD natD
    simp only [PyData.canLay0, PyData.canLayAll0, PyData.depth, PyData.depthAll]
    exact ⟨by decide +kernel, by decide⟩
  | _ =>
    unfold specD
    simp only [PyData.canLay0, PyData.canLayAll0, PyData.depth, PyData.depthAll]
    exact ⟨by decide +kernel, by decide⟩
theorem knot_lay {k : Knot} (h : NmOk k.1) : PyData.canLay0 (knotD k) = true ∧ (knotD k).depth ≤ 3 := by
  obtain ⟨h1, h2⟩ := spec_lay k.2
  unfold knotD
  rw [PyData.canLay0, PyData.canLayAll0, PyData.canLayAll0, PyData.canLayAll0, h1, PyData.canLay0, nm_strOk h, PyData.depth, PyData.depthAll, PyData.depthAll, PyData.depthAll, PyData.depth]
  exact ⟨rfl, by omega⟩
theorem cord_lay {c : Wr} (h : NmOk c.src) (h' : NmOk c.goal) : PyData.canLay0 (cordD c) = true ∧ (cordD c).depth ≤ 3 := by
  unfold cordD natD
  simp only [PyData.canLay0, PyData.canLayAll0, PyData.depth, PyData.depthAll, nm_strOk h, nm_strOk h']
  exact ⟨rfl, by decide⟩
/-- reached from an inlet by first places -/
inductive Reach0 (ks : List Knot) (cs : List Wr) : Str → Prop
  | inl {k : Knot} (h : k ∈ ks) (i : k.2 = .inlet) : Reach0 ks cs k.1
  | step {c : Wr} (h : c ∈ cs) (z : c.place = 0) (r : Reach0 ks cs c.src) : Reach0 ks cs c.goal
theorem Reach0.mono {ks ks' : List Knot} {cs cs' : List Wr} (h1 : ∀ k ∈ ks, k ∈ ks') (h2 : ∀ c ∈ cs, c.place = 0 → c ∈ cs') {x : Str} (h : Reach0 ks cs x) : Reach0 ks' cs' x := by
  induction h with
  | inl h i => exact .inl (h1 _ h) i
  | step h z r ih => exact .step (h2 _ h z) z ih
def keyW (c : Wr) : Str × Nat := (c.goal, c.place)
structure WebB (ks : List Knot) (cs : List Wr) : Prop where
  nd : (ks.map (·.1)).Nodup
  nm : ∀ k ∈ ks, NmOk k.1
  sp : ∀ k ∈ ks, SpecOk k.2
  src : ∀ c ∈ cs, ∃ k ∈ ks, k.1 = c.src ∧ isOut k.2 = false
  goal : ∀ c ∈ cs, ∃ k ∈ ks, k.1 = c.goal ∧ c.place < (tks k.2).length
  del : ∀ c ∈ cs, c.delay ≤ 9999
  one : (cs.map keyW).Nodup
  hd : ks ≠ [] → ∃ k ∈ ks, isOut k.2 = false
def AllP (ks : List Knot) (cs : List Wr) : Prop := ∀ k ∈ ks, ∀ p, p < (tks k.2).length → ∃ c ∈ cs, c.goal = k.1 ∧ c.place = p
def ReaP (ks : List Knot) (cs : List Wr) : Prop := ∀ k ∈ ks, Reach0 ks cs k.1
structure Web (ks : List Knot) (cs : List Wr) : Prop where
  b : WebB ks cs
  all : AllP ks cs
  rea : ReaP ks cs
theorem src_mem {ks : List Knot} {x : Str} (h : x ∈ srcN ks) : ∃ k ∈ ks, k.1 = x ∧ isOut k.2 = false := by
  unfold srcN at h
  obtain ⟨k, hk, rfl⟩ := List.mem_map.mp h
  obtain ⟨h1, h2⟩ := List.mem_filter.mp hk
  exact ⟨k, h1, rfl, by simpa using h2⟩
theorem src_ne {ks : List Knot} (h : ∃ k ∈ ks, isOut k.2 = false) : srcN ks ≠ [] := by
  obtain ⟨k, hk, e⟩ := h
  intro z
  have : k.1 ∈ srcN ks := by
    unfold srcN
    exact List.mem_map.mpr ⟨k, List.mem_filter.mpr ⟨hk, by rw [e]; rfl⟩, rfl⟩
  rw [z] at this
  cases this
/-- in the midst of wiring the last knot: j of its places are fed -/
structure Mid (ks : List Knot) (cs : List Wr) (t : Knot) (j n0 : Nat) : Prop where
  b : WebB (ks ++ [t]) cs
  all : AllP ks cs
  rea : ∀ k ∈ ks, Reach0 (ks ++ [t]) cs k.1
  fed : ∀ p, p < j → ∃ c ∈ cs, c.goal = t.1 ∧ c.place = p
  nxt : ∀ c ∈ cs, c.goal = t.1 → c.place < j
  rch : 0 < j → Reach0 (ks ++ [t]) cs t.1
  len : cs.length = n0 + j
theorem Web.mid {ks : List Knot} {cs : List Wr} {t : Knot} (h : Web ks cs) (n : t.1 ∉ ks.map (·.1)) (h1 : NmOk t.1) (h2 : SpecOk t.2) (h3 : ks = [] → t.2 = .inlet) : Mid ks cs t 0 cs.length := by
  refine ⟨⟨?_, ?_, ?_, ?_, ?_, h.b.del, h.b.one, fun _ => ?_⟩, h.all, fun k hk => (h.rea k hk).mono (fun k hk => List.mem_append_left _ hk) (fun c hc _ => hc), fun p hp => absurd hp (Nat.not_lt_zero p), fun c hc e => ?_, fun z => absurd z (Nat.lt_irrefl 0), rfl⟩
  · rw [List.map_append, List.nodup_append]
    refine ⟨h.b.nd, List.nodup_cons.mpr ⟨List.not_mem_nil, List.nodup_nil⟩, fun a ha b hb e => ?_⟩
    have : b = t.1 := List.mem_singleton.mp hb
    rw [e, this] at ha
    exact n ha
  · intro k hk
    rcases List.mem_append.mp hk with hk | hk
    · exact h.b.nm k hk
    · rw [List.mem_singleton.mp hk]; exact h1
  · intro k hk
    rcases List.mem_append.mp hk with hk | hk
    · exact h.b.sp k hk
    · rw [List.mem_singleton.mp hk]; exact h2
  · intro c hc
    obtain ⟨k, hk, e⟩ := h.b.src c hc
    exact ⟨k, List.mem_append_left _ hk, e⟩
  · intro c hc
    obtain ⟨k, hk, e⟩ := h.b.goal c hc
    exact ⟨k, List.mem_append_left _ hk, e⟩
  · by_cases z : ks = []
    · refine ⟨t, List.mem_append_right _ List.mem_cons_self, ?_⟩
      rw [h3 z]
      rfl
    · obtain ⟨k, hk, e⟩ := h.b.hd z
      exact ⟨k, List.mem_append_left _ hk, e⟩
  · obtain ⟨k, hk, e1, _⟩ := h.b.goal c hc
    exact absurd (List.mem_map.mpr ⟨k, hk, e1.trans e⟩) n
theorem Mid.step {ks : List Knot} {cs : List Wr} {t : Knot} {j n0 : Nat} (h : Mid ks cs t j n0) (jl : j < (tks t.2).length) {x : Str} {d : Nat} (dl : d ≤ 9999) (hx : if j = 0 then x ∈ srcN ks else x ∈ srcN (ks ++ [t])) : Mid ks (cs ++ [⟨x, t.1, j, d⟩]) t (j + 1) n0 := by
  have hx' : ∃ k ∈ ks ++ [t], k.1 = x ∧ isOut k.2 = false := by
    by_cases z : j = 0
    · rw [if_pos z] at hx
      obtain ⟨k, hk, e⟩ := src_mem hx
      exact ⟨k, List.mem_append_left _ hk, e⟩
    · rw [if_neg z] at hx
      exact src_mem hx
  have m1 : ∀ {y : Str}, Reach0 (ks ++ [t]) cs y → Reach0 (ks ++ [t]) (cs ++ [⟨x, t.1, j, d⟩]) y := fun r => r.mono (fun _ hk => hk) (fun c hc _ => List.mem_append_left _ hc)
  refine ⟨⟨h.b.nd, h.b.nm, h.b.sp, ?_, ?_, ?_, ?_, h.b.hd⟩, ?_, fun k hk => m1 (h.rea k hk), ?_, ?_, fun _ => ?_, ?_⟩
  · intro c hc
    rcases List.mem_append.mp hc with hc | hc
    · exact h.b.src c hc
    · rw [List.mem_singleton.mp hc]; exact hx'
  · intro c hc
    rcases List.mem_append.mp hc with hc | hc
    · exact h.b.goal c hc
    · rw [List.mem_singleton.mp hc]; exact ⟨t, List.mem_append_right _ List.mem_cons_self, rfl, jl⟩
  · intro c hc
    rcases List.mem_append.mp hc with hc | hc
    · exact h.b.del c hc
    · rw [List.mem_singleton.mp hc]; exact dl
  · rw [List.map_append, List.nodup_append]
    refine ⟨h.b.one, List.nodup_cons.mpr ⟨List.not_mem_nil, List.nodup_nil⟩, fun a ha b hb e => ?_⟩
    have eb : b = (t.1, j) := List.mem_singleton.mp hb
    obtain ⟨c, hc, ec⟩ := List.mem_map.mp ha
    have e2 : keyW c = (t.1, j) := ec.trans (e.trans eb)
    have := h.nxt c hc (congrArg Prod.fst e2)
    have e3 : c.place = j := congrArg Prod.snd e2
    omega
  · intro k hk p hp
    obtain ⟨c, hc, e⟩ := h.all k hk p hp
    exact ⟨c, List.mem_append_left _ hc, e⟩
  · intro p hp
    by_cases z : p = j
    · exact ⟨_, List.mem_append_right _ List.mem_cons_self, rfl, z.symm⟩
    · obtain ⟨c, hc, e⟩ := h.fed p (by omega)
      exact ⟨c, List.mem_append_left _ hc, e⟩
  · intro c hc e
    rcases List.mem_append.mp hc with hc | hc
    · have := h.nxt c hc e
      omega
    · rw [List.mem_singleton.mp hc]
      exact Nat.lt_succ_self j
  · by_cases z : j = 0
    · rw [if_pos z] at hx
      obtain ⟨k, hk, e, _⟩ := src_mem hx
      exact .step (c := ⟨x, t.1, j, d⟩) (List.mem_append_right _ List.mem_cons_self) z (e ▸ m1 (h.rea k hk))
    · exact m1 (h.rch (by omega))
  · rw [List.length_append, h.len]
    rfl
theorem Mid.done {ks : List Knot} {cs : List Wr} {t : Knot} {n0 : Nat} (h : Mid ks cs t (tks t.2).length n0) : Web (ks ++ [t]) cs := by
  refine ⟨h.b, fun k hk p hp => ?_, fun k hk => ?_⟩
  · rcases List.mem_append.mp hk with hk | hk
    · exact h.all k hk p hp
    · have e := List.mem_singleton.mp hk
      rw [e] at hp ⊢
      exact h.fed p hp
  · rcases List.mem_append.mp hk with hk | hk
    · exact h.rea k hk
    · have e := List.mem_singleton.mp hk
      rw [e]
      by_cases z : t.2 = .inlet
      · exact .inl (List.mem_append_right _ List.mem_cons_self) z
      · exact h.rch (tks_pos (h.b.sp t (List.mem_append_right _ List.mem_cons_self)) z)
theorem Web.swap {ks : List Knot} {cs : List Wr} (h : Web ks cs) {i : Nat} {c : Wr} (e : cs[i]? = some c) (pl : 0 < c.place) {x : Str} (hx : x ∈ srcN ks) : Web ks (cs.set i ⟨x, c.goal, c.place, c.delay⟩) := by
  have il := (List.getElem?_eq_some_iff.mp e).1
  have ek : (cs.set i ⟨x, c.goal, c.place, c.delay⟩).map keyW = cs.map keyW := by
    rw [List.map_set]
    apply List.ext_getElem?
    intro k
    by_cases z : i = k
    · subst z
      rw [List.getElem?_set_self (by rw [List.length_map]; exact il), List.getElem?_map, e]
      rfl
    · rw [List.getElem?_set_ne z]
  have mem : ∀ c' ∈ cs.set i ⟨x, c.goal, c.place, c.delay⟩, c' ∈ cs ∨ c' = ⟨x, c.goal, c.place, c.delay⟩ := fun c' h' => List.mem_or_eq_of_mem_set h'
  have cm : c ∈ cs := List.mem_of_getElem? e
  refine ⟨⟨h.b.nd, h.b.nm, h.b.sp, ?_, ?_, ?_, by rw [ek]; exact h.b.one, h.b.hd⟩, ?_, ?_⟩
  · intro c' hc
    rcases mem c' hc with hc | hc
    · exact h.b.src c' hc
    · rw [hc]; exact src_mem hx
  · intro c' hc
    rcases mem c' hc with hc | hc
    · exact h.b.goal c' hc
    · rw [hc]; exact h.b.goal c cm
  · intro c' hc
    rcases mem c' hc with hc | hc
    · exact h.b.del c' hc
    · rw [hc]; exact h.b.del c cm
  · intro k hk p hp
    obtain ⟨c1, h1, e1, e2⟩ := h.all k hk p hp
    have : keyW c1 ∈ (cs.set i ⟨x, c.goal, c.place, c.delay⟩).map keyW := by
      rw [ek]
      exact List.mem_map.mpr ⟨c1, h1, rfl⟩
    obtain ⟨c2, h2, e3⟩ := List.mem_map.mp this
    exact ⟨c2, h2, (congrArg Prod.fst e3).trans e1, (congrArg Prod.snd e3).trans e2⟩
  · intro k hk
    refine (h.rea k hk).mono (fun _ hk => hk) fun c1 h1 z1 => ?_
    obtain ⟨k1, ek1⟩ := List.getElem?_of_mem h1
    by_cases z : i = k1
    · rw [← z, e] at ek1
      have : c = c1 := Option.some.inj ek1
      rw [this] at pl
      omega
    · refine List.mem_of_getElem? (i := k1) ?_
      rw [List.getElem?_set_ne z]
      exact ek1
theorem Web.perm {ks ks' : List Knot} {cs cs' : List Wr} (h : Web ks cs) (p : ks'.Perm ks) (q : cs'.Perm cs) : Web ks' cs' := by
  have k1 : ∀ {k : Knot}, k ∈ ks → k ∈ ks' := fun h => p.symm.subset h
  have c1 : ∀ {c : Wr}, c ∈ cs → c ∈ cs' := fun h => q.symm.subset h
  refine ⟨⟨((p.map _).nodup_iff).mpr h.b.nd, fun k hk => h.b.nm k (p.subset hk), fun k hk => h.b.sp k (p.subset hk), fun c hc => ?_, fun c hc => ?_, fun c hc => h.b.del c (q.subset hc), ((q.map _).nodup_iff).mpr h.b.one, fun z => ?_⟩, fun k hk i hi => ?_, fun k hk => (h.rea k (p.subset hk)).mono (fun _ => k1) (fun _ hc _ => c1 hc)⟩
  · obtain ⟨k, hk, e⟩ := h.b.src c (q.subset hc)
    exact ⟨k, k1 hk, e⟩
  · obtain ⟨k, hk, e⟩ := h.b.goal c (q.subset hc)
    exact ⟨k, k1 hk, e⟩
  · have : ks ≠ [] := fun y => z (by rw [y] at p; exact p.eq_nil)
    obtain ⟨k, hk, e⟩ := h.b.hd this
    exact ⟨k, k1 hk, e⟩
  · obtain ⟨c, hc, e⟩ := h.all k (p.subset hk) i hi
    exact ⟨c, c1 hc, e⟩
theorem Web.nil : Web [] [] := ⟨⟨List.nodup_nil, fun _ h => (List.not_mem_nil h).elim, fun _ h => (List.not_mem_nil h).elim, fun _ h => (List.not_mem_nil h).elim, fun _ h => (List.not_mem_nil h).elim, fun _ h => (List.not_mem_nil h).elim, List.nodup_nil, fun z => absurd rfl z⟩, fun _ h => (List.not_mem_nil h).elim, fun _ h => (List.not_mem_nil h).elim⟩
theorem nodup_inj {α : Type} {l : List α} (h : l.Nodup) {i j : Nat} (hi : i < l.length) (hj : j < l.length) (e : l[i] = l[j]) : i = j := by
  have p := List.pairwise_iff_getElem.mp h
  rcases Nat.lt_trichotomy i j with z | z | z
  · exact absurd e (p i j hi hj z)
  · exact z
  · exact absurd e.symm (p j i hj hi z)
/-- a weave can be made of a web -/
theorem Web.ok {ks : List Knot} {cs : List Wr} (h : Web ks cs) (few : ks.length ≤ 24) (few' : cs.length ≤ 48) {nm : List Nm} (e : nm.map (fun x => (x.name, x.inf)) = ks.map (fun k => (k.1, (⟨tks k.2, isOut k.2, isInl k.2⟩ : NInf)))) : WvOk nm cs := by
  have en : nm.map Nm.name = ks.map (·.1) := by
    have := congrArg (List.map Prod.fst) e
    rw [List.map_map, List.map_map] at this
    exact this
  have to : ∀ {k : Knot}, k ∈ ks → ∃ x ∈ nm, x.name = k.1 ∧ x.inf = ⟨tks k.2, isOut k.2, isInl k.2⟩ := fun {k} hk => by
    have : (k.1, (⟨tks k.2, isOut k.2, isInl k.2⟩ : NInf)) ∈ nm.map (fun x => (x.name, x.inf)) := by
      rw [e]
      exact List.mem_map.mpr ⟨k, hk, rfl⟩
    obtain ⟨x, hx, ex⟩ := List.mem_map.mp this
    exact ⟨x, hx, congrArg Prod.fst ex, congrArg Prod.snd ex⟩
  have fro : ∀ {x : Nm}, x ∈ nm → ∃ k ∈ ks, x.name = k.1 ∧ x.inf = ⟨tks k.2, isOut k.2, isInl k.2⟩ := fun {x} hx => by
    have : (x.name, x.inf) ∈ ks.map (fun k => (k.1, (⟨tks k.2, isOut k.2, isInl k.2⟩ : NInf))) := by
      rw [← e]
      exact List.mem_map.mpr ⟨x, hx, rfl⟩
    obtain ⟨k, hk, ek⟩ := List.mem_map.mp this
    exact ⟨k, hk, (congrArg Prod.fst ek).symm, (congrArg Prod.snd ek).symm⟩
  have ln : nm.length = ks.length := by
    have := congrArg List.length en
    rw [List.length_map, List.length_map] at this
    exact this
  have re : ∀ {y : Str}, Reach0 ks cs y → Reach nm cs y := fun r => by
    induction r with
    | inl h i =>
      obtain ⟨x, hx, e1, e2⟩ := to h
      exact e1 ▸ .inl hx (by rw [e2, i]; rfl)
    | step h z r ih => exact .step h ih
  refine ⟨⟨by omega, fun x hx => ?_, by rw [en]; exact h.b.nd⟩, few', fun c hc => ?_, fun c hc => ?_, h.b.del, fun i j c c' h1 h2 e1 e2 => ?_, fun x hx p hp => ?_, fun x hx => ?_⟩
  · obtain ⟨k, hk, e1, _⟩ := fro hx
    rw [e1]
    exact h.b.nm k hk
  · obtain ⟨k, hk, e1, e2⟩ := h.b.src c hc
    obtain ⟨x, hx, e3, e4⟩ := to hk
    exact ⟨x, hx, e3.trans e1, by rw [e4]; exact e2⟩
  · obtain ⟨k, hk, e1, e2⟩ := h.b.goal c hc
    obtain ⟨x, hx, e3, e4⟩ := to hk
    exact ⟨x, hx, e3.trans e1, by rw [e4]; exact e2⟩
  · have g1 : (cs.map keyW)[i]? = some (keyW c) := by rw [List.getElem?_map, h1]; rfl
    have g2 : (cs.map keyW)[j]? = some (keyW c) := by
      rw [List.getElem?_map, h2]
      show some (c'.goal, c'.place) = some (c.goal, c.place)
      rw [e1, e2]
    obtain ⟨l1, v1⟩ := List.getElem?_eq_some_iff.mp g1
    obtain ⟨l2, v2⟩ := List.getElem?_eq_some_iff.mp g2
    exact nodup_inj h.b.one l1 l2 (v1.trans v2.symm)
  · obtain ⟨k, hk, e1, e2⟩ := fro hx
    rw [e2] at hp
    obtain ⟨c, hc, e3, e4⟩ := h.all k hk p hp
    exact ⟨c, hc, e3.trans e1.symm, e4⟩
  · obtain ⟨k, hk, e1, _⟩ := fro hx
    rw [e1]
    exact re (h.rea k hk)
end Sw
namespace Sw
open PySem PySem.Spec PyProof.Rows L2
/-- how far the drawing is -/
structure Dr (K : PySem.W.Frag) (H G : Hp) (p kl cl : Addr) (ks : List Knot) (cs : List Wr) : Prop where
  kn : ListD K G kl (ks.map knotD)
  cd : ListD K G cl (cs.map cordD)
  kp : Kept p H G
  pt : PotAt G p
theorem Dr.same {K : PySem.W.Frag} {H G G' : Hp} {p kl cl : Addr} {ks : List Knot} {cs : List Wr} (h : Dr K H G p kl cl ks cs) (s : Same G G') : Dr K H G' p kl cl ks cs := ⟨h.kn.keep s, h.cd.keep s, h.kp.trans (Kept.same s), h.pt.keep s⟩
theorem Dr.kept {K : PySem.W.Frag} {H G G' : Hp} {p kl cl : Addr} {ks : List Knot} {cs : List Wr} (h : Dr K H G p kl cl ks cs) (n1 : kl ≠ p) (n2 : cl ≠ p) (k : Kept p G G') (hp : PotAt G' p) : Dr K H G' p kl cl ks cs :=
  ⟨h.kn.kt (noLists_map knot_noList _) (KT.kept k h.pt) (fun o e => k _ _ n1 e), h.cd.kt (noLists_map cord_noList _) (KT.kept k h.pt) (fun o e => k _ _ n2 e), h.kp.trans k, hp⟩
theorem Dr.fresh {K : PySem.W.Frag} {H G : Hp} {p kl cl a : Addr} {ks : List Knot} {cs : List Wr} (h : Dr K H G p kl cl ks cs) (n : G a = none) : a ≠ p ∧ a ≠ kl ∧ a ≠ cl ∧ H a = none := by
  obtain ⟨_, h1, _⟩ := h.kn
  obtain ⟨_, h2, _⟩ := h.cd
  exact ⟨h.pt.ne n, (ne_of_none h1 n).symm, (ne_of_none h2 n).symm, h.kp.free h.pt n⟩
/-- one more knot -/
theorem Dr.addK {K : PySem.W.Frag} {H G : Hp} {p kl cl : Addr} {ks : List Knot} {cs : List Wr} (h : Dr K H G p kl cl ks cs) (n1 : kl ≠ p) (n2 : kl ≠ cl) (n0 : H kl = none) {kv : List V} {v : V} {t : Knot} (hk : G kl = some (.lst kv)) (dk : DpAll K G kv (ks.map knotD)) (dv : Dp K G v (knotD t)) : Dr K H (L2.upd G kl (.lst (kv ++ [v]))) p kl cl (ks ++ [t]) cs := by
  have kt : KT K G (L2.upd G kl (.lst (kv ++ [v]))) := KT.lst hk
  refine ⟨⟨_, upd_same, ?_⟩, h.cd.kt (noLists_map cord_noList _) kt (fun o e => by rw [upd_ne n2.symm]; exact e), h.kp.past n0, h.pt.upd n1⟩
  rw [List.map_append]
  exact DpAll.snoc (Dp.kt kt (knot_noList t) dv) (DpAll.kt kt (noLists_map knot_noList _) dk)
theorem Dr.putC {K : PySem.W.Frag} {H G : Hp} {p kl cl : Addr} {ks : List Knot} {cs cs' : List Wr} (h : Dr K H G p kl cl ks cs) (n1 : cl ≠ p) (n2 : kl ≠ cl) (n0 : H cl = none) {cv cv' : List V} (hc : G cl = some (.lst cv)) (dc : DpAll K G cv' (cs'.map cordD)) : Dr K H (L2.upd G cl (.lst cv')) p kl cl ks cs' := by
  have kt : KT K G (L2.upd G cl (.lst cv')) := KT.lst hc
  exact ⟨h.kn.kt (noLists_map knot_noList _) kt (fun o e => by rw [upd_ne n2]; exact e), ⟨_, upd_same, DpAll.kt kt (noLists_map cord_noList _) dc⟩, h.kp.past n0, h.pt.upd n1⟩
theorem good_of {K : PySem.W.Frag} {H : Hp} {α : Type} {f : α → PyData} {ks : List α} {vs : List V} (h : DpAll K H vs (ks.map f)) (g : ∀ k ∈ ks, noList (f k) = true ∧ PyData.canLay0 (f k) = true ∧ (f k).depth ≤ 5) : ∀ v ∈ vs, GoodV K H v := fun v hv => by
  obtain ⟨i, ei⟩ := List.getElem?_of_mem hv
  obtain ⟨k, ek, dk⟩ := DpAll.map h ei
  obtain ⟨g1, g2, g3⟩ := g k (List.mem_of_getElem? ek)
  exact ⟨_, dk, g1, g2, g3⟩
theorem DpAll.set {K : PySem.W.Frag} {H : Hp} {v : V} {d : PyData} (h : Dp K H v d) : ∀ {vs : List V} {ds : List PyData} {i : Nat}, DpAll K H vs ds → DpAll K H (vs.set i v) (ds.set i d)
  | _, _, _, .nil => .nil
  | _, _, 0, .cons _ a => .cons h a
  | _, _, i + 1, .cons g a => .cons g (DpAll.set h a)
theorem two_at {a b c : Int} {lg : Bool} (a0 : 0 ≤ a) (a1 : a < 7) (b0 : 0 ≤ b) (b1 : b < 24) (c0 : 0 ≤ c) (c1 : c < 6) :
    ∃ n : Nat, atI [V.int (1 + a), V.int (1 + b)] (if c / 5 > (if lg then 1 else 0) then c / 5 else (if lg then 1 else 0)) = some (.int (n : Int)) ∧ n ≤ 24 ∧ 1 ≤ n := by
  have : (if c / 5 > (if lg then 1 else 0) then c / 5 else (if lg then 1 else 0) : Int) = 0 ∨ (if c / 5 > (if lg then 1 else 0) then c / 5 else (if lg then 1 else 0) : Int) = 1 := by
    cases lg
    · simp only [Bool.false_eq_true, if_false]
      split <;> omega
    · simp only [if_true]
      split <;> omega
  rcases this with e | e
  · rw [e]
    exact ⟨(1 + a).toNat, by rw [Int.toNat_of_nonneg (by omega)]; rfl, by omega, by omega⟩
  · rw [e]
    exact ⟨(1 + b).toNat, by rw [Int.toNat_of_nonneg (by omega)]; rfl, by omega, by omega⟩
theorem ixN_nat {n k : Nat} (h : k < n) : ixN n (k : Int) = some k := by
  unfold ixN
  simp
  omega
theorem delay_at {e d : Int} (e0 : 0 ≤ e) (e1 : e < 20) (d0 : 0 ≤ d) (d1 : d < 4) : ∃ n : Nat, atI [V.int 0, V.int 1, V.int e, V.int 9999] d = some (.int (n : Int)) ∧ n ≤ 9999 := by
  have : d = 0 ∨ d = 1 ∨ d = 2 ∨ d = 3 := by omega
  rcases this with rfl | rfl | rfl | rfl
  · exact ⟨0, rfl, by decide⟩
  · exact ⟨1, rfl, by decide⟩
  · exact ⟨e.toNat, by rw [Int.toNat_of_nonneg e0]; rfl, by omega⟩
  · exact ⟨9999, rfl, by decide⟩
theorem cut_last1 {xs : List V} (h : xs ≠ []) : ∃ y ∈ xs, cutV xs (some (-1)) none = [y] := by
  have l := List.length_pos_iff.mpr h
  have e : cutV xs (some (-1)) none = xs.drop (xs.length - 1) := by
    unfold cutV
    rw [HT.sIx_none]
    have e1 : HT.sIx xs.length 0 (some (-1)) = xs.length - 1 := by
      show (if (-1 : Int) < 0 then ((-1 : Int) + (xs.length : Int)).toNat else min (-1 : Int).toNat xs.length) = _
      rw [if_pos (by decide)]
      omega
    rw [e1, List.take_of_length_le]
    rw [List.length_drop]
    exact Nat.le_refl _
  refine ⟨xs[xs.length - 1], List.getElem_mem _, ?_⟩
  rw [e, List.drop_eq_getElem_cons (by omega)]
  congr 1
  apply List.drop_of_length_le
  omega
def spDrawn (K : PySem.W.Frag) : Sp := fun vs H Q _ => ∃ p : Addr, vs = [.ref p] ∧ PotAt H p ∧ ∀ (t kl cl : Addr) (ks : List Knot) (cs : List Wr) (H' : Hp), Kept p H H' → PotAt H' p → SqT K H' t [.ref kl, .ref cl] → ListD K H' kl (ks.map knotD) → ListD K H' cl (cs.map cordD) → H kl = none → H cl = none → kl ≠ cl → Web ks cs → ks.length ≤ 24 → cs.length ≤ 48 → ks ≠ [] → Q (.ref t) H'
section
variable {P : Program} {w : World} {K : PySem.W.Frag} {mg : Str → Option Value} {base : Heap} {f f1 f2 f3 f4 f5 f6 f7 f8 f9 C CN CO CI CW : Addr} {fd fd1 fd2 fd3 fd4 fd5 fd6 fd7 fd8 fd9 : FuncData}
abbrev nLDrawn : List Str := ["_law_pot_here", "_law_knots", "_law_cords", "_law_is_long", "_law_k", "_law_tag", "_law_spec_here", "_law_ahead", "_law_place", "_law_delay", "_law_at", "_law_other", "_law_one"]
theorem scLDrawn : FnScope nLDrawn ["_law_pot_here"] (defScope sLDrawn) := ⟨rfl, rfl, rfl, by decide +kernel, rfl, by decide +kernel, by decide +kernel⟩
theorem ok_drawn (F : FnP K "_law_drawn" sLDrawn f fd) (GT : FnOk P w K mg base CX0 1 f1 fd1 ["_law_pot_here", "_law_many"] spTake) (gT : mg "_law_take" = some (.ref f1)) (kT : PySem.W.keepIn K (.ref f1) = true) (bT : Binds K fd1 ["_law_pot_here", "_law_many"] [])
    (GN : FnOk P w K mg base CX0 2 f2 fd2 ["_law_pot_here", "_law_taken"] spLName) (gN : mg "_law_name" = some (.ref f2)) (kN : PySem.W.keepIn K (.ref f2) = true) (bN : Binds K fd2 ["_law_pot_here", "_law_taken"] [])
    (GS : FnOk P w K mg base CX0 2 f3 fd3 ["_law_pot_here"] (spSpec K)) (gS : mg "_law_spec" = some (.ref f3)) (kS : PySem.W.keepIn K (.ref f3) = true) (bS : Binds K fd3 ["_law_pot_here"] [])
    (GK : FnOk P w K mg base CX0 1 f4 fd4 ["_law_spec_here"] (spTakes K)) (gK : mg "_law_takes" = some (.ref f4)) (kK : PySem.W.keepIn K (.ref f4) = true) (bK : Binds K fd4 ["_law_spec_here"] [])
    (GO : FnOk P w K mg base CX0 1 f5 fd5 ["_law_knots"] (spSources K)) (gO : mg "_law_sources" = some (.ref f5)) (kO : PySem.W.keepIn K (.ref f5) = true) (bO : Binds K fd5 ["_law_knots"] [])
    (GP : FnOk P w K mg base CX0 2 f6 fd6 ["_law_pot_here", "_law_some"] (spPick K)) (gP : mg "_law_pick" = some (.ref f6)) (kP : PySem.W.keepIn K (.ref f6) = true) (bP : Binds K fd6 ["_law_pot_here", "_law_some"] [])
    (GU : FnOk P w K mg base CX0 2 f7 fd7 ["_law_pot_here", "_law_row"] (spTurned K)) (gU : mg "_law_turned" = some (.ref f7)) (kU : PySem.W.keepIn K (.ref f7) = true) (bU : Binds K fd7 ["_law_pot_here", "_law_row"] [])
    (gRange : mg "range" = none) (gMax : mg "max" = none) (gInt : mg "int" = none) (gLen : mg "len" = none) : FnOk P w K mg base CX0 3 f fd ["_law_pot_here"] (spDrawn K) := by
  refine F.ok scLDrawn (fun vs H Q E h => ?_) (fun cdv A ou s H vs Q E hr h => ?_)
  · obtain ⟨p, rfl, _⟩ := h
    rfl
  · obtain ⟨p, rfl, hp, kk⟩ := h
    have nd := scLDrawn.nd
    have hr2 : Room 2 _ := hr
    have hr1 : Room 1 _ := hr.mono (by decide)
    refine ⟨_, PSs.nox (pss_cons (ps_par (i := 1) (j := 2) rfl nd rfl rfl (by decide) rfl rfl (pa_cons (pe_lst pa_nil) (pa_cons (pe_lst pa_nil) pa_nil)) rfl)
      (pss_cons (ps_set (i := 3) nd rfl (Or.inl rfl) (pe_cmpR op_eq (pe_call GT hr1 rfl gT kT bT .nil pass0 (pa_cons (pv 0) (pa_cons pe_int pa_nil))) pe_int (nomark _)))
      (pss_cons (ps_for PassesOwn.never rfl (pi_range1 rfl gRange (pa_cons (pe_ix ix_list (pe_lst (pa_cons (pe_op op_add pe_int (pe_call GT hr1 rfl gT kT bT .nil pass0 (pa_cons (pv 0) (pa_cons pe_int pa_nil)))) (pa_cons (pe_op op_add pe_int (pe_call GT hr1 rfl gT kT bT .nil pass0 (pa_cons (pv 0) (pa_cons pe_int pa_nil)))) pa_nil))) (pe_callB (call_max2 rfl) (by rfl) gMax (by decide +kernel) (pa_cons (pe_callTy call_int1 (by rfl) gInt PyProof.Rows.boot_int (pa_cons (pv 3) pa_nil)) (pa_cons (pe_op op_fdiv (pe_call GT hr1 rfl gT kT bT .nil pass0 (pa_cons (pv 0) (pa_cons pe_int pa_nil))) pe_int) pa_nil))) (fun _ _ => rfl)) pa_nil)) (pg_name (i := 4) nd rfl (Or.inl rfl))
      (pss_cons (ps_par (i := 5) (j := 6) rfl nd rfl rfl (by decide) rfl rfl (pa_cons (pe_call GN hr2 rfl gN kN bN .nil pass0 (pa_cons (pv 0) (pa_cons (pe_lc (own := [("_law_other", 11), ("_law_one", 12)]) (g := (gTup K 2 (gCons (gName 11) (gCons (gName 12) gNil)))) (tt := tYes) rfl nd (pi_list (pv 1)) (blkOk_by (N := nLDrawn) (sc := defScope sLDrawn) (by decide +kernel))
        (fun _ _ _ _ _ => (pg_tup rfl (pgs_cons (pg_name (i := 11) nd rfl (Or.inl rfl)) (pgs_cons (pg_name (i := 12) nd rfl (Or.inl rfl)) pgs_nil)))) (fun _ _ _ _ _ => pts_nil) (fun _ _ _ _ _ => (pv 11))) pa_nil))) (pa_cons (pe_call GS hr2 rfl gS kS bS .nil pass0 (pa_cons (pv 0) pa_nil)) pa_nil)) rfl)
      (C8.pss_cut (ps_if (PW.pt (pw_or (pt_cmpR op_eq (pv 4) pe_int (nomark _)) (pw_or (pt_cmpR op_eq (pe_call GT hr1 rfl gT kT bT .nil pass0 (pa_cons (pv 0) (pa_cons (pe_op op_add pe_int (pe_op op_mul pe_int (pe_callTy call_int1 (by rfl) gInt PyProof.Rows.boot_int (pa_cons (pv 3) pa_nil)))) pa_nil))) pe_int (nomark _)) (pw_or1 (pt_cmpR op_gt (pe_op op_add (pe_callB call_len_seq (by rfl) gLen PySem.boot_len (pa_cons (pv 2) pa_nil)) (pe_callB call_len_seq (by rfl) gLen PySem.boot_len (pa_cons (pe_call GK hr1 rfl gK kK bK .nil pass0 (pa_cons (pv 6) pa_nil)) pa_nil))) pe_int (nomark _)))))) (pss_one (ps_set (i := 6) nd rfl (Or.inl rfl) (pe_tup (pa_cons pe_str pa_nil)))) pss_nil)
      (pss_cons (ps_set (i := 7) nd rfl (Or.inl rfl) (pe_call GO hr1 rfl gO kO bO .nil pass0 (pa_cons (pv 1) pa_nil)))
      (C8.pss_cut (ps_if (pt_val (pv 3)) (pss_one (ps_set (i := 7) nd rfl (Or.inl rfl) (pe_slice sl_list (pv 7) (po_some (pe_un un_neg pe_int)) po_none))) pss_nil)
      (pss_cons (ps_expr (pe_bm PySem.F.plainAttrs_list PySem.F.slot_list_append PySem.F.type_list_append mt_append (pv 1) (pa_cons (pe_tup (pa_cons (pv 5) (pa_cons (pv 6) pa_nil))) pa_nil)))
      (pss_one (ps_for PassesOwn.never rfl (pi_range1 rfl gRange (pa_cons (pe_callB call_len_seq (by rfl) gLen PySem.boot_len (pa_cons (pe_call GK hr1 rfl gK kK bK .nil pass0 (pa_cons (pv 6) pa_nil)) pa_nil)) pa_nil)) (pg_name (i := 8) nd rfl (Or.inl rfl))
      (pss_cons (ps_set (i := 9) nd rfl (Or.inl rfl) (pe_ix ix_list (pe_lst (pa_cons pe_int (pa_cons pe_int (pa_cons (pe_call GT hr1 rfl gT kT bT .nil pass0 (pa_cons (pv 0) (pa_cons pe_int pa_nil))) (pa_cons pe_int pa_nil))))) (pe_call GT hr1 rfl gT kT bT .nil pass0 (pa_cons (pv 0) (pa_cons pe_int pa_nil))) (fun _ _ => rfl)))
      (pss_one (ps_expr (pe_bm PySem.F.plainAttrs_list PySem.F.slot_list_append PySem.F.type_list_append mt_append (pv 2) (pa_cons (pe_tup (pa_cons (pe_call GP hr2 rfl gP kP bP .nil pass0 (pa_cons (pv 0) (pa_cons (pe_ifExp (pt_cmpR op_eq (pv 8) pe_int (nomark _)) (pv 7) (pe_call GO hr1 rfl gO kO bO .nil pass0 (pa_cons (pv 1) pa_nil))) pa_nil))) (pa_cons (pv 5) (pa_cons (pv 8) (pa_cons (pv 9) pa_nil))))) pa_nil)))))))))))))
      (pss_cons (ps_for PassesOwn.never rfl (pi_range1 rfl gRange (pa_cons (pe_callB call_len_seq (by rfl) gLen PySem.boot_len (pa_cons (pv 2) pa_nil)) pa_nil)) (pg_name (i := 10) nd rfl (Or.inl rfl))
      (pss_one (ps_if (PW.pt (pw_and (pt_cmpR op_gt (pe_ix ix_tup (pe_ix ix_list (pv 2) (pv 10) (fun _ _ => rfl)) pe_int (fun _ _ => rfl)) pe_int (nomark _)) (pw_and1 (pt_cmpR op_eq (pe_call GT hr1 rfl gT kT bT .nil pass0 (pa_cons (pv 0) (pa_cons pe_int pa_nil))) pe_int (nomark _))))) (pss_one (ps_asg (pe_op op_catA (pe_tup (pa_cons (pe_call GP hr2 rfl gP kP bP .nil pass0 (pa_cons (pv 0) (pa_cons (pe_call GO hr1 rfl gO kO bO .nil pass0 (pa_cons (pv 1) pa_nil)) pa_nil))) pa_nil)) (pe_slice sl_tupA (pe_ix ix_list (pv 2) (pv 10) (fun _ _ => rfl)) (po_some pe_int) po_none)) (pg_sub (pv 2) (pv 10) set_list (by intro _; rfl)))) pss_nil)))
      (pss_one (ps_ret (pe_tup (pa_cons (pe_call GU hr2 rfl gU kU bU .nil pass0 (pa_cons (pv 0) (pa_cons (pv 1) pa_nil))) (pa_cons (pe_call GU hr2 rfl gU kU bU .nil pass0 (pa_cons (pv 0) (pa_cons (pv 2) pa_nil))) pa_nil))))))))), ?_⟩
    refine ⟨(by show 0 ≤ sizeLine; decide), fun kl0 fk0 => ⟨(by show 0 ≤ sizeLine; decide), fun cl0 fc1 => ⟨_, _, rfl, ?_⟩⟩⟩
    have s1 := Same.new (o := .lst []) (Same.refl H) fk0
    have hk1 : (upd H kl0 (.lst [])) kl0 = some (.lst []) := upd_same
    generalize upd H kl0 (.lst []) = H1 at s1 hk1 fc1
    have s2 := Same.new (o := .lst []) (Same.refl H1) fc1
    have hc2 : (upd H1 cl0 (.lst [])) cl0 = some (.lst []) := upd_same
    have nkc : kl0 ≠ cl0 := ne_of_none hk1 fc1
    have fc0 : H cl0 = none := s1.free fc1
    have nkp : kl0 ≠ p := hp.ne fk0
    have ncp : cl0 ≠ p := hp.ne fc0
    generalize upd H1 cl0 (.lst []) = H2 at s2 hc2
    have dr0 : Dr K H H2 p kl0 cl0 [] [] := ⟨⟨[], s2 _ _ hk1, .nil⟩, ⟨[], hc2, .nil⟩, Kept.same (s1.trans s2), hp.keep (s1.trans s2)⟩
    -- whether it is long
    refine ⟨_, rfl, p, _, rfl, dr0.pt, by decide, by decide, fun d0 H3 _ _ k3 hp3 => ⟨rfl, ?_⟩⟩
    have dr3 := dr0.kept nkp ncp k3 hp3
    generalize decide (V.int d0 = V.int 0) = lg
    -- how many
    refine ⟨_, rfl, p, _, rfl, dr3.pt, by decide, by decide, fun a H4 a0 a1 k4 hp4 => ⟨_, _, rfl, rfl, ?_⟩⟩
    have dr4 := dr3.kept nkp ncp k4 hp4
    refine ⟨_, rfl, p, _, rfl, dr4.pt, by decide, by decide, fun b H5 b0 b1 k5 hp5 => ⟨_, _, rfl, rfl, ?_⟩⟩
    have dr5 := dr4.kept nkp ncp k5 hp5
    refine ⟨(by show 2 ≤ sizeLine; decide), fun lq hlq => ?_⟩
    have s6 := Same.new (o := .lst [V.int (1 + a), V.int (1 + b)]) (Same.refl H5) hlq
    have hq6 : (upd H5 lq (.lst [V.int (1 + a), V.int (1 + b)])) lq = some (.lst [V.int (1 + a), V.int (1 + b)]) := upd_same
    have nlq := (dr5.fresh hlq).1
    generalize upd H5 lq (.lst [V.int (1 + a), V.int (1 + b)]) = H6 at s6 hq6
    have dr6 := dr5.same s6
    refine ⟨_, rfl, .inr ⟨lg, rfl, ?_⟩⟩
    refine ⟨_, rfl, p, _, rfl, dr6.pt, by decide, by decide, fun c H7 c0 c1 k7 hp7 => ⟨_, _, rfl, rfl, ⟨by decide, by decide⟩, ?_⟩⟩
    have dr7 := dr6.kept nkp ncp k7 hp7
    obtain ⟨n, en, n24, n1⟩ := two_at (lg := lg) a0 a1 b0 b1 c0 c1
    refine ⟨_, _, rfl, lq, _, _, _, rfl, rfl, SqL.of (k7 _ _ nlq hq6), en, ?_⟩
    refine ⟨_, rfl, by omega, by omega, ?_⟩
    rw [Int.toNat_natCast]
    refine for_range (fun i σ G => ∃ (w4 w5 w6 w7 w8 w9 : Option V) (ks : List Knot) (cs : List Wr), σ = [some (.ref p), some (.ref kl0), some (.ref cl0), some (.bl lg), w4, w5, w6, w7, w8, w9, none, none, none] ∧ Dr K H G p kl0 cl0 ks cs ∧ Web ks cs ∧ ks.length = i ∧ cs.length ≤ 48) ⟨_, _, _, _, _, _, [], [], rfl, dr7, Web.nil, rfl, by decide⟩ ?_ ?_
    · rintro i σ G il ⟨w4, w5, w6, w7, w8, w9, ks, cs, rfl, dr, web, ek, fewc⟩
      obtain ⟨kv, hk, dk⟩ := dr.kn
      have kvl : kv.length = ks.length := by rw [DpAll.len dk, List.length_map]
      -- the name
      refine ⟨_, rfl, _, rfl, kl0, rfl, ⟨_, SqL.of hk⟩, fun D hD => ?_⟩
      obtain ⟨nDp, nDk, nDc, fD⟩ := dr.fresh hD
      refine lc_list (xs := kv) (fun j H' => H' D = some (.lst (((ks.map (·.1)).take j).map V.str)) ∧ Same G H') ⟨by rw [List.take_zero]; exact upd_same, Same.past (Same.refl _) hD⟩ (fun j H' _ e => SqL.of (e.2 _ _ hk)) (fun j v H' ev e => ?_) (fun G1 e => ?_)
      · obtain ⟨hd, sm⟩ := e
        obtain ⟨k, ekj, dkj⟩ := DpAll.map dk ev
        obtain ⟨q, sv, rfl, hq, _⟩ := knot_inv dkj
        have jl := (List.getElem?_eq_some_iff.mp ekj).1
        refine ⟨q, _, rfl, Same.tup sm hq, rfl, _, _, rfl, _, _, rfl, rfl, rfl, ?_⟩
        refine yes_ite ?_
        refine ⟨_, rfl, _, hd, ?_, ?_, Same.past sm hD⟩
        · rw [List.length_map, List.length_take, List.length_map]
          exact Nat.lt_of_lt_of_le (show _ < 100 by omega) (by decide)
        · rw [List.take_succ, List.getElem?_map, ekj, List.map_append]
          exact upd_same
      · obtain ⟨hd, sm⟩ := e
        rw [List.take_of_length_le (by rw [List.length_map]; omega)] at hd
        have dr1 := dr.same sm
        refine ⟨p, D, ks.map (·.1), rfl, nDp, dr1.pt, hd, (by rw [List.length_map]; omega), (fun t ht => by
          obtain ⟨k, hk, rfl⟩ := List.mem_map.mp ht
          exact web.b.nm k hk), fun x G2 xok xnin k2 hp2 => ?_⟩
        have dr2 := dr1.kept nkp ncp k2 hp2
        -- the spec
        refine ⟨_, rfl, p, rfl, dr2.pt, fun sv sp G3 spok k3 hp3 spat => ?_⟩
        have dr3 := dr2.kept nkp ncp k3 hp3
        refine ⟨_, _, rfl, ?_⟩
        refine ⟨fun σ' G' => ∃ (sv' : V) (sp' : Spec), σ' = [some (.ref p), some (.ref kl0), some (.ref cl0), some (.bl lg), some (.int ((0 : Int) + (i : Int))), some (.str x), some sv', w7, w8, w9, none, none, none] ∧ Dr K H G' p kl0 cl0 ks cs ∧ SpecOk sp' ∧ SpecAt K G' sv' sp' ∧ (ks = [] → sp' = .inlet) ∧ cs.length + (tks sp').length ≤ 48, ?_, ?_⟩
        · have inl : ∀ G', Dr K H G' p kl0 cl0 ks cs → ∀ t, G' t = none → ∃ (sv' : V) (sp' : Spec), [some (V.ref p), some (.ref kl0), some (.ref cl0), some (.bl lg), some (.int ((0 : Int) + (i : Int))), some (.str x), some (.ref t), w7, w8, w9, none, none, none] = [some (.ref p), some (.ref kl0), some (.ref cl0), some (.bl lg), some (.int ((0 : Int) + (i : Int))), some (.str x), some sv', w7, w8, w9, none, none, none] ∧ Dr K H (upd G' t (.tup [V.str "inlet"])) p kl0 cl0 ks cs ∧ SpecOk sp' ∧ SpecAt K (upd G' t (.tup [V.str "inlet"])) sv' sp' ∧ (ks = [] → sp' = .inlet) ∧ cs.length + (tks sp').length ≤ 48 := fun G' d t ht => ⟨.ref t, .inlet, rfl, d.same (Same.new (Same.refl _) ht), trivial, .tup (.inl (.inl upd_same)) (.cons (.str _) .nil), fun _ => rfl, fewc⟩
          refine ⟨_, rfl, rfl, _, rfl, ?_⟩
          refine ite2 (fun _ => ?_) (fun ni => ?_)
          · exact iteT_ rfl ⟨(by show 1 ≤ sizeLine; decide), fun t ht => inl _ dr3 t ht⟩
          have ine : ks ≠ [] := fun z => by
            rw [z] at ek
            exact ni (by rw [← ek]; rfl)
          refine ⟨_, rfl, _, rfl, .inr ⟨lg, rfl, ⟨_, _, rfl, rfl, .inl ⟨by decide, by decide⟩, _, _, rfl, rfl, ?_⟩⟩⟩
          have lgb : (0 : Int) ≤ (if lg then 1 else 0) ∧ (if lg then 1 else 0 : Int) ≤ 1 := by cases lg <;> decide
          refine ⟨p, _, rfl, dr3.pt, by omega, by omega, fun e4 G4 _ _ k4 hp4 => ⟨rfl, _, rfl, ?_⟩⟩
          have dr4 := dr3.kept nkp ncp k4 hp4
          refine ite2 (fun _ => ?_) (fun _ => ?_)
          · exact iteT_ rfl ⟨(by show 1 ≤ sizeLine; decide), fun t ht => inl _ dr4 t ht⟩
          obtain ⟨cv4, hc4, dc4⟩ := dr4.cd
          have cl4 : cv4.length = cs.length := by rw [DpAll.len dc4, List.length_map]
          refine ⟨_, rfl, cl0, _, rfl, .inl (SqL.of hc4), _, rfl, sv, sp, rfl, spat.kt (KT.kept k4 dr3.pt), spok, fun q G5 s5 hq => ⟨q, _, rfl, .inr hq, _, _, rfl, rfl, _, _, rfl, rfl, _, rfl, ?_⟩⟩
          refine ite2 (fun _ => ?_) (fun le => ?_)
          · exact ⟨(by show 1 ≤ sizeLine; decide), fun t ht => inl _ (dr4.same s5) t ht⟩
          · have le := of_decide_eq_false (Bool.eq_false_iff.mpr le)
            rw [List.length_map, cl4] at le
            exact ⟨sv, sp, rfl, dr4.same s5, spok, (spat.kt (KT.kept k4 dr3.pt)).kt (KT.same s5), fun z => absurd z ine, by omega⟩
        · rintro σ' G4 ⟨sv4, sp4, rfl, dr4, sok4, sat4, fst4, few4⟩
          obtain ⟨kv4, hk4, dk4⟩ := dr4.kn
          -- what is ahead
          refine ⟨_, rfl, kl0, kv4, ks, rfl, hk4, dk4, (by omega), fun la G5 fla s5 hla => ?_⟩
          have dr5 := dr4.same s5
          have sat5 := sat4.kt (KT.same s5)
          obtain ⟨nlp, nlk, nlc, fla0⟩ := dr4.fresh fla
          refine ⟨fun σ' G' => ∃ (la : Addr) (ah : List Str), σ' = [some (.ref p), some (.ref kl0), some (.ref cl0), some (.bl lg), some (.int ((0 : Int) + (i : Int))), some (.str x), some sv4, some (.ref la), w8, w9, none, none, none] ∧ Dr K H G' p kl0 cl0 ks cs ∧ SpecAt K G' sv4 sp4 ∧ G' la = some (.lst (strL ah)) ∧ la ≠ p ∧ la ≠ kl0 ∧ la ≠ cl0 ∧ (∀ y ∈ ah, y ∈ srcN ks) ∧ (ks ≠ [] → ah ≠ []) ∧ ah.length ≤ 24, ?_, ?_⟩
          · refine ⟨_, rfl, _, rfl, ?_⟩
            refine ite2 (fun _ => ?_) (fun _ => ?_)
            · refine ⟨_, rfl, _, rfl, _, rfl, la, _, rfl, SqL.of hla, fun l2 hl2 => ?_⟩
              obtain ⟨n1, n2, n3, _⟩ := dr5.fresh hl2
              have s6 := Same.new (o := .lst (cutV (strL (srcN ks)) (some (-1)) none)) (Same.refl G5) hl2
              by_cases z : srcN ks = []
              · refine ⟨l2, [], rfl, dr5.same s6, sat5.kt (KT.same s6), ?_, n1, n2, n3, fun y h => (List.not_mem_nil h).elim, fun q => absurd z (src_ne (web.b.hd q)), by decide⟩
                show upd G5 l2 _ l2 = _
                rw [upd_same, z]
                rfl
              · obtain ⟨y, ym, ey⟩ := cut_last1 (xs := strL (srcN ks)) (fun q => z (by unfold strL at q; exact List.map_eq_nil_iff.mp q))
                obtain ⟨y, yin, rfl⟩ := List.mem_map.mp ym
                refine ⟨l2, [y], rfl, dr5.same s6, sat5.kt (KT.same s6), ?_, n1, n2, n3, fun y' h => by rw [List.mem_singleton.mp h]; exact yin, fun _ => by simp, by show 1 ≤ 24; decide⟩
                show upd G5 l2 _ l2 = _
                rw [upd_same]
                exact congrArg (fun z => some (HO.lst z)) ey
            · exact ⟨la, srcN ks, rfl, dr5, sat5, hla, nlp, nlk, nlc, fun y h => h, fun z => src_ne (web.b.hd z), Nat.le_trans srcN_len (by omega)⟩
          · rintro σ' G6 ⟨la, ah, rfl, dr6, sat6, hla6, nla0, nlak, nlac, ahin, ahne, ahl⟩
            obtain ⟨kv6, hk6, dk6⟩ := dr6.kn
            have kl6 : kv6.length = ks.length := by rw [DpAll.len dk6, List.length_map]
            -- one more knot
            refine ⟨_, rfl, .inl ⟨rfl, _, SqL.of hk6⟩, _, rfl, _, rfl, (by show 2 ≤ sizeLine; decide), fun t ht => ?_⟩
            have s7 := Same.new (o := .tup [V.str x, sv4]) (Same.refl G6) ht
            have dr7 := dr6.same s7
            refine ⟨kl0, _, _, rfl, rfl, s7 _ _ hk6, ?_, ?_⟩
            · exact Nat.lt_of_lt_of_le (show kv6.length < 100 by omega) (by decide)
            have dr8 := dr7.addK (t := (x, sp4)) nkp nkc fk0 (s7 _ _ hk6) (DpAll.keep s7 dk6) (v := .ref t) (.tup (.inl (.inl upd_same)) (.cons (.str _) (.cons (Dp.kt (KT.same s7) (spec_noList sp4) sat6) .nil)))
            have sat8 : SpecAt K (upd (upd G6 t (.tup [V.str x, sv4])) kl0 (.lst (kv6 ++ [.ref t]))) sv4 sp4 := (sat6.kt (KT.same s7)).kt (KT.lst (s7 _ _ hk6))
            have hla8 : (upd (upd G6 t (.tup [V.str x, sv4])) kl0 (.lst (kv6 ++ [.ref t]))) la = some (.lst (strL ah)) := by
              rw [upd_ne nlak]
              exact s7 _ _ hla6
            generalize upd (upd G6 t (.tup [V.str x, sv4])) kl0 (.lst (kv6 ++ [.ref t])) = G8 at dr8 sat8 hla8
            have mid0 : Mid ks cs (x, sp4) 0 cs.length := web.mid xnin xok sok4 fst4
            -- its places
            refine ⟨_, rfl, sv4, sp4, rfl, sat8, sok4, fun q G9 s9 hq => ⟨q, _, rfl, .inr hq, _, rfl, by rw [List.length_map]; omega, by rw [List.length_map]; omega, ?_⟩⟩
            rw [List.length_map, Int.toNat_natCast]
            refine for_range (fun j σ G => ∃ (w8 w9 : Option V) (cs1 : List Wr), σ = [some (.ref p), some (.ref kl0), some (.ref cl0), some (.bl lg), some (.int ((0 : Int) + (i : Int))), some (.str x), some sv4, some (.ref la), w8, w9, none, none, none] ∧ Dr K H G p kl0 cl0 (ks ++ [(x, sp4)]) cs1 ∧ Mid ks cs1 (x, sp4) j cs.length ∧ G la = some (.lst (strL ah))) ⟨_, _, cs, rfl, dr8.same s9, mid0, s9 _ _ hla8⟩ ?_ ?_
            · rintro j σ G jl ⟨w8, w9, cs1, rfl, dj, md, hlaj⟩
              have l1 := md.len
              refine ⟨_, rfl, p, _, rfl, dj.pt, by decide, by decide, fun e G1 e0 e1 k1 hp1 => ?_⟩
              have d1 := dj.kept nkp ncp k1 hp1
              refine ⟨(by show 4 ≤ sizeLine; decide), fun lq hlq => ?_⟩
              have s2 := Same.new (o := .lst [V.int 0, V.int 1, V.int e, V.int 9999]) (Same.refl G1) hlq
              have hq2 : (upd G1 lq (.lst [V.int 0, V.int 1, V.int e, V.int 9999])) lq = some (.lst [V.int 0, V.int 1, V.int e, V.int 9999]) := upd_same
              have nlq := (d1.fresh hlq).1
              generalize upd G1 lq (.lst [V.int 0, V.int 1, V.int e, V.int 9999]) = G2 at s2 hq2
              have d2 := d1.same s2
              refine ⟨_, rfl, p, _, rfl, d2.pt, by decide, by decide, fun g G3 g0 g1 k3 hp3 => ?_⟩
              have d3 := d2.kept nkp ncp k3 hp3
              obtain ⟨dl, edl, dln⟩ := delay_at e0 e1 g0 g1
              refine ⟨lq, _, _, _, rfl, rfl, SqL.of (k3 _ _ nlq hq2), edl, ?_⟩
              have hla3 := k3 _ _ nla0 (s2 _ _ (k1 _ _ nla0 hlaj))
              obtain ⟨cv3, hc3, dc3⟩ := d3.cd
              refine ⟨_, rfl, .inl ⟨rfl, _, SqL.of hc3⟩, _, rfl, _, rfl, rfl, _, rfl, ?_⟩
              refine ite2 (fun jz => ?_) (fun jnz => ?_)
              · have j0 : j = 0 := by
                  have := of_decide_eq_true jz
                  injection this with this
                  omega
                have kne : ks ≠ [] := fun z => by
                  rw [show (tks ((x, sp4) : Knot).2) = [] by show tks sp4 = []; rw [fst4 z]; rfl] at jl
                  exact absurd jl (Nat.not_lt_zero _)
                refine ⟨_, rfl, ?_⟩
                refine ⟨p, la, _, rfl, (nla0).symm, d3.pt, SqL.of hla3, fun G' k' => SqL.of (k' _ _ nla0 hla3), ?_, ?_, fun y G6 ym k6 hp6 => ?_⟩
                · exact fun z => ahne kne (by unfold strL at z; exact List.map_eq_nil_iff.mp z)
                · unfold strL
                  rw [List.length_map]
                  exact (by omega)
                obtain ⟨y, yin, rfl⟩ := List.mem_map.mp ym
                have dr6 := d3.kept nkp ncp k6 hp6
                refine ⟨_, rfl, _, rfl, _, rfl, (by show 4 ≤ sizeLine; decide), fun t7 ht7 => ?_⟩
                have s7 := Same.new (o := .tup [V.str y, V.str x, V.int ((0 : Int) + (j : Int)), V.int (dl : Int)]) (Same.refl G6) ht7
                have dr7 := dr6.same s7
                obtain ⟨cv7, hc7, dc7⟩ := dr7.cd
                have cl7 : cv7.length = cs1.length := by rw [DpAll.len dc7, List.length_map]
                refine ⟨cl0, _, _, rfl, rfl, hc7, ?_, ?_⟩
                · exact Nat.lt_of_lt_of_le (show cv7.length < 100 by omega) (by decide)
                have la7 := s7 _ _ (k6 _ _ nla0 hla3)
                refine ⟨_, _, cs1 ++ [⟨y, x, j, dl⟩], rfl, dr7.putC ncp nkc fc0 hc7 ?_, md.step jl dln (by rw [if_pos j0]; exact ahin y yin), ?_⟩
                · rw [List.map_append]
                  refine DpAll.snoc (cord_mk ?_) dc7
                  rw [show ((0 : Int) + (j : Int)) = (j : Int) by omega]
                  exact .inl (.inl upd_same)
                · rw [upd_ne nlac]
                  exact la7
              · have j0 : j ≠ 0 := fun z => jnz (by rw [z]; rfl)
                obtain ⟨kv3, hk3, dk3⟩ := d3.kn
                refine ⟨_, rfl, kl0, kv3, ks ++ [(x, sp4)], rfl, hk3, dk3, (by rw [List.length_append]; show ks.length + 1 ≤ _; omega), fun lb G4 flb s4 hlb => ?_⟩
                have nlb := (d3.fresh flb).1
                have d4 := d3.same s4
                refine ⟨p, lb, _, rfl, (nlb).symm, d4.pt, SqL.of hlb, fun G' k' => SqL.of (k' _ _ nlb hlb), ?_, ?_, fun y G6 ym k6 hp6 => ?_⟩
                · exact fun z => src_ne (md.b.hd (by simp))  (by unfold strL at z; exact List.map_eq_nil_iff.mp z)
                · unfold strL
                  rw [List.length_map]
                  exact Nat.lt_of_le_of_lt srcN_len (by rw [List.length_append]; show ks.length + 1 < _; omega)
                obtain ⟨y, yin, rfl⟩ := List.mem_map.mp ym
                have dr6 := d4.kept nkp ncp k6 hp6
                refine ⟨_, rfl, _, rfl, _, rfl, (by show 4 ≤ sizeLine; decide), fun t7 ht7 => ?_⟩
                have s7 := Same.new (o := .tup [V.str y, V.str x, V.int ((0 : Int) + (j : Int)), V.int (dl : Int)]) (Same.refl G6) ht7
                have dr7 := dr6.same s7
                obtain ⟨cv7, hc7, dc7⟩ := dr7.cd
                have cl7 : cv7.length = cs1.length := by rw [DpAll.len dc7, List.length_map]
                refine ⟨cl0, _, _, rfl, rfl, hc7, ?_, ?_⟩
                · exact Nat.lt_of_lt_of_le (show cv7.length < 100 by omega) (by decide)
                have la7 := s7 _ _ (k6 _ _ nla0 (s4 _ _ hla3))
                refine ⟨_, _, cs1 ++ [⟨y, x, j, dl⟩], rfl, dr7.putC ncp nkc fc0 hc7 ?_, md.step jl dln (by rw [if_neg j0]; exact yin), ?_⟩
                · rw [List.map_append]
                  refine DpAll.snoc (cord_mk ?_) dc7
                  rw [show ((0 : Int) + (j : Int)) = (j : Int) by omega]
                  exact .inl (.inl upd_same)
                · rw [upd_ne nlac]
                  exact la7
            · rintro σ G ⟨w8, w9, cs1, rfl, dj, md, hlaj⟩
              have l1 := md.len
              exact ⟨_, _, _, _, _, _, _, cs1, rfl, dj, md.done, by rw [List.length_append]; show ks.length + 1 = _; omega, by omega⟩
    · rintro σ G ⟨w4, w5, w6, w7, w8, w9, ks, cs, rfl, dr, web, ek, fewc⟩
      obtain ⟨cv, hc, dc⟩ := dr.cd
      have cvl : cv.length = cs.length := by rw [DpAll.len dc, List.length_map]
      refine ⟨_, rfl, cl0, _, rfl, .inl (SqL.of hc), _, rfl, by omega, by omega, ?_⟩
      rw [Int.toNat_natCast]
      refine for_range (fun i σ G => ∃ (w4 w5 w6 w7 w8 w9 w10 : Option V) (cs1 : List Wr), σ = [some (.ref p), some (.ref kl0), some (.ref cl0), some (.bl lg), w4, w5, w6, w7, w8, w9, w10, none, none] ∧ Dr K H G p kl0 cl0 ks cs1 ∧ Web ks cs1 ∧ cs1.length = cs.length) ⟨_, _, _, _, _, _, _, cs, rfl, dr, web, rfl⟩ ?_ ?_
      · rintro i σ G il ⟨w4, w5, w6, w7, w8, w9, w10, cs1, rfl, d1, web1, l1⟩
        obtain ⟨cv1, hc1, dc1⟩ := d1.cd
        have cvl1 : cv1.length = cs1.length := by rw [DpAll.len dc1, List.length_map]
        have il1 : i < cv1.length := by omega
        obtain ⟨c, ec, dcc⟩ := DpAll.map dc1 (List.getElem?_eq_getElem il1)
        obtain ⟨q, eq, hq⟩ := cord_inv dcc
        have at1 : atI cv1 ((0 : Int) + (i : Int)) = some (.ref q) := by
          rw [Int.zero_add, ← eq]
          exact atI_nat (List.getElem?_eq_getElem il1)
        refine ⟨_, rfl, _, rfl, cl0, _, _, _, rfl, rfl, SqL.of hc1, at1, q, _, _, _, rfl, rfl, hq, atI_nat (j := 2) rfl, _, _, rfl, rfl, _, rfl, ?_⟩
        refine ite2 (fun pl => ?_) (fun _ => ?_)
        · have pl : (0 : Int) < (c.place : Int) := of_decide_eq_true pl
          refine ⟨_, rfl, p, _, rfl, d1.pt, by decide, by decide, fun e G2 _ _ k2 hp2 => ⟨rfl, _, rfl, ?_⟩⟩
          have d2 := d1.kept nkp ncp k2 hp2
          refine ite2 (fun _ => ?_) (fun _ => ?_)
          · obtain ⟨kv2, hk2, dk2⟩ := d2.kn
            refine ⟨_, rfl, _, rfl, kl0, kv2, ks, rfl, hk2, dk2, (by omega), fun lb G3 flb s3 hlb => ?_⟩
            have nlb := (d2.fresh flb).1
            have d3 := d2.same s3
            have hc3 : G3 cl0 = some (.lst cv1) := s3 _ _ (k2 _ _ ncp hc1)
            have kt3 : KT K G G3 := (KT.kept k2 d1.pt).trans (KT.same s3)
            refine ⟨p, lb, _, rfl, nlb.symm, d3.pt, SqL.of hlb, fun G' k' => SqL.of (k' _ _ nlb hlb), ?_, ?_, fun y G4 ym k4 hp4 => ?_⟩
            · have kne : ks ≠ [] := fun z => by
                obtain ⟨k, hk, _⟩ := web1.b.src c (List.mem_of_getElem? ec)
                rw [z] at hk
                cases hk
              exact fun z => src_ne (web1.b.hd kne) (by unfold strL at z; exact List.map_eq_nil_iff.mp z)
            · unfold strL
              rw [List.length_map]
              exact Nat.lt_of_le_of_lt srcN_len (by omega)
            obtain ⟨y, yin, rfl⟩ := List.mem_map.mp ym
            have d4 := d3.kept nkp ncp k4 hp4
            have hc4 := k4 _ _ ncp hc3
            have kt4 : KT K G G4 := kt3.trans (KT.kept k4 d3.pt)
            refine ⟨(by show 1 ≤ sizeLine; decide), fun t ht => ?_⟩
            have s5 := Same.new (o := .tup [V.str y]) (Same.refl G4) ht
            have ht5 : (upd G4 t (.tup [V.str y])) t = some (.tup [V.str y]) := upd_same
            generalize upd G4 t (.tup [V.str y]) = G5 at s5 ht5
            have kt5 : KT K G G5 := kt4.trans (KT.same s5)
            refine ⟨_, rfl, _, rfl, cl0, _, _, _, rfl, rfl, SqL.of (s5 _ _ hc4), at1, _, rfl, q, _, rfl, kt5 _ _ hq, fun z => absurd z.1 (by show ¬ (1 : Nat) = 0; decide), fun _ u hu => ?_⟩
            have e6 : cutV [V.str c.src, V.str c.goal, V.int (c.place : Int), V.int (c.delay : Int)] (some 1) none = [V.str c.goal, V.int (c.place : Int), V.int (c.delay : Int)] := rfl
            rw [e6]
            have s6 := Same.new (o := .tup [V.str c.goal, V.int (c.place : Int), V.int (c.delay : Int)]) (Same.refl G5) hu
            have hu6 : (upd G5 u (.tup [V.str c.goal, V.int (c.place : Int), V.int (c.delay : Int)])) u = some (.tup [V.str c.goal, V.int (c.place : Int), V.int (c.delay : Int)]) := upd_same
            generalize upd G5 u (.tup [V.str c.goal, V.int (c.place : Int), V.int (c.delay : Int)]) = G6 at s6 hu6
            refine ⟨t, u, _, _, rfl, rfl, .inl (.inl (s6 _ _ ht5)), .inl (.inl hu6), (by show 4 ≤ sizeLine; decide), (fun z => by cases z), (fun _ z => by cases z), fun _ _ r hr => ?_⟩
            have s7 := Same.new (o := .tup ([V.str y] ++ [V.str c.goal, V.int (c.place : Int), V.int (c.delay : Int)])) (Same.refl G6) hr
            have d7 := ((d4.same s5).same s6).same s7
            have hc7 := s7 _ _ (s6 _ _ (s5 _ _ hc4))
            refine ⟨_, rfl, _, rfl, cl0, _, _, i, rfl, rfl, hc7, ?_, ?_⟩
            · rw [Int.zero_add]
              exact ixN_nat il1
            refine ⟨_, _, _, _, _, _, _, cs1.set i ⟨y, c.goal, c.place, c.delay⟩, rfl, d7.putC ncp nkc fc0 hc7 ?_, web1.swap ec (by omega) yin, by rw [List.length_set]; exact l1⟩
            obtain ⟨cv7, hc7', dc7⟩ := d7.cd
            have : cv1 = cv7 := by
              rw [hc7'] at hc7
              injection hc7 with z
              injection z with z
              exact z.symm
            subst this
            rw [List.map_set]
            exact DpAll.set (d := cordD ⟨y, c.goal, c.place, c.delay⟩) (cord_mk (c := ⟨y, c.goal, c.place, c.delay⟩) (.inl (.inl upd_same))) dc7
          · exact ⟨_, _, _, _, _, _, _, cs1, rfl, d2, web1, l1⟩
        · exact iteF_ rfl ⟨_, _, _, _, _, _, _, cs1, rfl, d1, web1, l1⟩
      · rintro σ G ⟨w4, w5, w6, w7, w8, w9, w10, cs1, rfl, d1, web1, l1⟩
        obtain ⟨kv1, hk1, dk1⟩ := d1.kn
        have kvl1 : kv1.length = ks.length := by rw [DpAll.len dk1, List.length_map]
        refine ⟨_, rfl, _, rfl, p, kl0, kv1, rfl, d1.pt, hk1, good_of dk1 (fun k hk => ⟨knot_noList k, (knot_lay (web1.b.nm k hk)).1, Nat.le_trans (knot_lay (web1.b.nm k hk)).2 (by decide)⟩), by omega, fun l2 ys G2 pm2 f2 k2 hp2 h2 => ?_⟩
        have d2 := d1.kept nkp ncp k2 hp2
        obtain ⟨n2p, n2k, n2c, f20⟩ := d1.fresh f2
        obtain ⟨cv2, hc2, dc2⟩ := d2.cd
        have cvl2 : cv2.length = cs1.length := by rw [DpAll.len dc2, List.length_map]
        have nmok : ∀ c ∈ cs1, NmOk c.src ∧ NmOk c.goal := fun c hc => by
          obtain ⟨k, hk, e, _⟩ := web1.b.src c hc
          obtain ⟨k', hk', e', _⟩ := web1.b.goal c hc
          exact ⟨e ▸ web1.b.nm k hk, e' ▸ web1.b.nm k' hk'⟩
        refine ⟨_, rfl, _, rfl, p, cl0, cv2, rfl, d2.pt, hc2, good_of dc2 (fun c hc => ⟨cord_noList c, (cord_lay (nmok c hc).1 (nmok c hc).2).1, Nat.le_trans (cord_lay (nmok c hc).1 (nmok c hc).2).2 (by decide)⟩), by omega, fun l3 zs G3 pm3 f3 k3 hp3 h3 => ?_⟩
        obtain ⟨n3p, n3k, n3c, f30⟩ := d2.fresh f3
        have n23 : l2 ≠ l3 := ne_of_none h2 f3
        refine ⟨(by show 2 ≤ sizeLine; decide), fun t ht => ?_⟩
        have s4 := Same.new (o := .tup [V.ref l2, V.ref l3]) (Same.refl G3) ht
        have kA : KT K G G2 := KT.kept k2 d1.pt
        have kB : KT K G2 G3 := KT.kept k3 d2.pt
        obtain ⟨ks', pk, dks⟩ := dp_perm pm2 ks (DpAll.kt kA (noLists_map knot_noList _) dk1)
        obtain ⟨cs', pc, dcs⟩ := dp_perm pm3 cs1 (DpAll.kt kB (noLists_map cord_noList _) dc2)
        refine kk t l2 l3 ks' cs' _ ((d2.kp.trans k3).trans (Kept.same s4)) (hp3.keep s4) (.inl (.inl upd_same)) ⟨ys, s4 _ _ (k3 _ _ n2p h2), DpAll.kt (kB.trans (KT.same s4)) (noLists_map knot_noList _) dks⟩ ⟨zs, s4 _ _ h3, DpAll.kt (KT.same s4) (noLists_map cord_noList _) dcs⟩ f20 f30 n23 (web1.perm pk pc) (by rw [pk.length_eq]; omega) (by rw [pc.length_eq]; omega) (fun z => by
          have := pk.length_eq
          rw [z, ek] at this
          exact absurd this (by show 0 ≠ n; omega))
end
end Sw
namespace Sw
open PySem PySem.Spec PyProof.Rows L2
/-! ### nodes by their specs -/
inductive Srt
  | gain | mix | times | choose | up | down | resample | own | outlet | inlet
  deriving DecidableEq
def srt : Spec → Srt
  | .gain _ _ _ => .gain
  | .mix _ => .mix
  | .times => .times
  | .choose => .choose
  | .up _ => .up
  | .down _ => .down
  | .resample _ _ => .resample
  | .own _ _ => .own
  | .outlet => .outlet
  | .inlet => .inlet
/-- the fields of a node -/
structure NdF (fs own : List (Str × V)) (tm : Addr) (l b : Int) : Prop where
  made : fs.lookup ("made" : Str) = some (.ref tm)
  late : fs.lookup ("late_by" : Str) = some (.int l)
  be : fs.lookup ("begin_at" : Str) = some (.int b)
  fld : ∀ (m : Str) (x : V), own.lookup m = some x → fs.lookup m = some x
  no : ∀ m : Str, own.lookup m = none → m ≠ "begin_at" → m ≠ "late_by" → m ≠ "made" → fs.lookup m = none
theorem ndF_mk {tm : Addr} {l b : Int} {fs own : List (Str × V)} (h : ∀ m : Str, fs.lookup m = own.lookup m) (n1 : own.lookup ("begin_at" : Str) = none) (n2 : own.lookup ("late_by" : Str) = none) (n3 : own.lookup ("made" : Str) = none) : NdF (nodeF tm l b fs) own tm l b := by
  refine ⟨?_, ?_, nodeF_be _ _ _ _, fun m x e => ?_, fun m e h3 h4 h5 => ?_⟩
  · unfold nodeF
    rw [lookup_putF, if_neg (by decide +kernel), lookup_putF, if_neg (by decide +kernel), lookup_putF, if_pos rfl]
  · unfold nodeF
    rw [lookup_putF, if_neg (by decide +kernel), lookup_putF, if_pos rfl]
  · rw [nodeF_no (fun z => by rw [z, n1] at e; cases e) (fun z => by rw [z, n2] at e; cases e) (fun z => by rw [z, n3] at e; cases e), h]
    exact e
  · rw [nodeF_no h3 h4 h5, h]
    exact e
theorem NdF.put {fs own : List (Str × V)} {tm : Addr} {l b : Int} (h : NdF fs own tm l b) (m : Str) (x : V) (n : m ≠ "begin_at") (n2 : m ≠ "late_by") (n3 : m ≠ "made") : NdF (putF m x fs) ((m, x) :: own) tm l b := by
  refine ⟨?_, ?_, ?_, fun m' x' e => ?_, fun m' e h3 h4 h5 => ?_⟩
  · rw [lookup_putF, if_neg (Ne.symm n3)]
    exact h.made
  · rw [lookup_putF, if_neg (Ne.symm n2)]
    exact h.late
  · rw [lookup_putF, if_neg (Ne.symm n)]
    exact h.be
  · rw [lookup_putF]
    rw [List.lookup_cons] at e
    by_cases z : m' = m
    · rw [if_pos z]
      rw [z, beq_self_eq_true] at e
      exact e
    · rw [if_neg z]
      rw [beq_false_of_ne z] at e
      exact h.fld m' x' e
  · rw [lookup_putF]
    rw [List.lookup_cons] at e
    by_cases z : m' = m
    · rw [z, beq_self_eq_true] at e
      cases e
    · rw [if_neg z]
      rw [beq_false_of_ne z] at e
      exact h.no m' e h3 h4 h5
def ownS (dd x : Addr) : Spec → List (Str × V)
  | .gain b _ _ => [("by", .int b)]
  | .mix n => [("many", natV n)]
  | .up n => [("hold", .bl false), ("many", natV n)]
  | .down n => [("many", natV n)]
  | .resample u d => [("down", natV d), ("up", natV u), ("numbers", .ref x)]
  | .own _ g => [("first", .int 0), ("given", natV g), ("taken", .ref x), ("deed", .ref dd)]
  | _ => []
def madeS (dd x : Addr) : Spec → List V
  | .gain b l g => [.int b, natV l, natV g]
  | .mix n => [natV n, .int 0, .int 0]
  | .up n => [natV n, .bl false, .int 0, .int 0]
  | .down n => [natV n, .int 0, .int 0]
  | .resample u d => [natV u, natV d, .ref x, .int 0, .int 0]
  | .own _ g => [.ref dd, .ref x, natV g, .int 0, .int 0, .int 0]
  | _ => [.int 0, .int 0]
def argS (dd x : Addr) : Spec → List V
  | .gain b l g => [.int b, natV l, natV g]
  | .mix n => [natV n, .int 0, .int 0]
  | .times => [.int 0, .int 0]
  | .choose => [.int 0, .int 0]
  | .up n => [natV n, .bl false, .int 0, .int 0]
  | .down n => [natV n, .int 0, .int 0]
  | .resample u d => [natV u, natV d, .ref x, .int 0, .int 0]
  | .own _ g => [.ref dd, .ref x, natV g, .int 0, .int 0, .int 0]
  | _ => []
def lateS : Spec → Int
  | .gain _ l _ => (l : Int)
  | _ => 0
def begS : Spec → Int
  | .gain _ _ g => (g : Int)
  | _ => 0
def auxS (K : PySem.W.Frag) (H : Hp) (x : Addr) : Spec → Prop
  | .own ts _ => SqT K H x (ts.map natV)
  | .resample _ _ => H x = some (.lst [.int 1, .int 2])
  | _ => True
theorem auxS.keep {K : PySem.W.Frag} {H H1 : Hp} {x : Addr} {s : Spec} (h : auxS K H x s) (k : Same H H1) : auxS K H1 x s := by
  cases s with
  | own ts g => exact Same.tup k h
  | resample u d => exact k _ _ h
  | _ => trivial
def NodeS (K : PySem.W.Frag) (cl : Srt → Addr) (dd : Addr) (s : Spec) (a : Addr) (H : Hp) : Prop := ∃ (dx : Addr) (fs : List (Str × V)) (tm x : Addr), H a = some (.ins (cl (srt s)) dx fs) ∧ NdF fs (ownS dd x s) tm (lateS s) (begS s) ∧ SqT K H tm (madeS dd x s) ∧ auxS K H x s
theorem NodeS.keep {K : PySem.W.Frag} {cl : Srt → Addr} {dd a : Addr} {s : Spec} {H H1 : Hp} (h : NodeS K cl dd s a H) (k : Same H H1) : NodeS K cl dd s a H1 := by
  obtain ⟨dx, fs, tm, x, h1, h2, h3, h4⟩ := h
  exact ⟨dx, fs, tm, x, k _ _ h1, h2, Same.tup k h3, h4.keep k⟩
/-- what an __init__ of such a sort does -/
def spMk (K : PySem.W.Frag) (A : Srt) (C dd : Addr) : Sp := fun vs H Q _ => ∃ (p dx x : Addr) (s : Spec), vs = .ref p :: argS dd x s ∧ srt s = A ∧ SpecOk s ∧ auxS K H x s ∧ H p = some (.ins C dx []) ∧
  ∀ (fs : List (Str × V)) (tm x' : Addr) (H' : Hp), Kept p H H' → H' p = some (.ins C dx fs) → NdF fs (ownS dd x' s) tm (lateS s) (begS s) → SqT K H' tm (madeS dd x' s) → auxS K H' x' s → Q .non H'
theorem KT.ins {K : PySem.W.Frag} {H : Hp} {p C dx : Addr} {fs : List (Str × V)} {o : HO} (hp : H p = some (.ins C dx fs)) : KT K H (L2.upd H p o) := fun q xs h => by
  rcases h with (h | ⟨u, h⟩) | h
  · exact .inl (.inl (by rw [upd_ne (fun z => by rw [z, hp] at h; cases h)]; exact h))
  · exact .inl (.inr ⟨u, by rw [upd_ne (fun z => by rw [z, hp] at h; cases h)]; exact h⟩)
  · exact .inr h
/-- behind Node.__init__ -/
theorem node_step {K : PySem.W.Frag} {H : Hp} {p C dx tm : Addr} {fs fs' : List (Str × V)} {xs : List V} (hp : H p = some (.ins C dx fs)) (htm : H tm = none) :
    Kept p H (L2.upd (L2.upd H tm (.tup xs)) p (.ins C dx fs')) ∧ SqT K (L2.upd (L2.upd H tm (.tup xs)) p (.ins C dx fs')) tm xs ∧ KT K H (L2.upd (L2.upd H tm (.tup xs)) p (.ins C dx fs')) := by
  have n : tm ≠ p := (ne_of_none hp htm).symm
  have s := Same.new (o := .tup xs) (Same.refl H) htm
  refine ⟨Kept.upd (Kept.same s), .inl (.inl ?_), (KT.same s).trans (KT.ins (s _ _ hp))⟩
  rw [upd_ne n]
  exact upd_same
theorem ty_tup {K : PySem.W.Frag} {H : Hp} {a : Addr} {xs : List V} (h : SqT K H a xs) : TyX K H (.ref a) (.type "tuple") := by
  rcases h with (h | ⟨o, h⟩) | h
  · exact .base (.tup h)
  · exact .fTuple h
  · obtain ⟨o, _, _, e, c, _⟩ := h
    exact .kTuple e c
def spWholesIn (K : PySem.W.Frag) : Sp := fun vs H Q _ => ∃ (t : Addr) (ts : List Nat), vs = [.ref t, .int 1, .int 8] ∧ SqT K H t (ts.map natV) ∧ ts.length ≤ 4 ∧ (∀ n ∈ ts, Dig n) ∧ ∀ H', Same H H' → Q (.bl true) H'
section
variable {P : Program} {w : World} {K : PySem.W.Frag} {mg : Str → Option Value} {base : Heap} {f f1 f2 f3 f4 f5 f6 f7 f8 f9 C CN CO CI CW dd : Addr} {fd fd1 fd2 fd3 fd4 fd5 fd6 fd7 fd8 fd9 : FuncData}
abbrev nAreWholesWithin : List Str := ["things", "least", "most", "thing"]
theorem scAreWholesWithin : FnScope nAreWholesWithin ["things", "least", "most"] (defScope sAreWholesWithin) := ⟨rfl, rfl, rfl, by decide +kernel, rfl, by decide +kernel, by decide +kernel⟩
theorem ok_wholesIn (F : FnP K "are_wholes_within" sAreWholesWithin f fd) (GW : FnOk P w K mg base CX0 2 f2 fd2 ["thing", "least", "most"] (spWithin K)) (gW : mg "is_whole_within" = some (.ref f2)) (kW : PySem.W.keepIn K (.ref f2) = true) (bW : Binds K fd2 ["thing", "least", "most"] []) (gAll : mg "all" = none) : FnOk P w K mg base CX0 3 f fd ["things", "least", "most"] (spWholesIn K) := by
  refine F.ok scAreWholesWithin (fun vs H Q E h => ?_) (fun cdv A ou s H vs Q E hr h => ?_)
  · obtain ⟨t, ts, rfl, _⟩ := h
    rfl
  · obtain ⟨t, ts, rfl, ht, few, dig, kk⟩ := h
    have nd := scAreWholesWithin.nd
    have hr2 : Room 2 _ := hr
    refine ⟨_, PSs.nox (pss_one (ps_ret (pe_callB (cr_all rfl) (by rfl) gAll (by decide +kernel) (pa_cons (pe_lc (own := [("thing", 3)]) (g := (gName 3)) (tt := tYes) rfl nd (pi_tup (pv 0)) (blkOk_by (N := nAreWholesWithin) (sc := defScope sAreWholesWithin) (by decide +kernel))
        (fun _ _ _ _ _ => (pg_name (i := 3) nd rfl (Or.inl rfl))) (fun _ _ _ _ _ => pts_nil) (fun _ _ _ _ _ => (pe_call GW hr2 rfl gW kW bW .nil pass0 (pa_cons (pv 3) (pa_cons (pv 1) (pa_cons (pv 2) pa_nil)))))) pa_nil)))), ?_⟩
    refine ⟨_, rfl, t, rfl, ⟨_, ht⟩, fun D hD => ?_⟩
    refine lc_it (walk_tup (xs := ts.map natV)) (fun j H' => H' D = some (.lst ((List.replicate j true).map V.bl)) ∧ Same H H') ⟨upd_same, Same.past (Same.refl _) hD⟩ (fun j H' _ e => Same.tup e.2 ht) (fun j v H' H'' hj e y => ?_) (fun H' e => ?_)
    · obtain ⟨hd, sm⟩ := e
      obtain ⟨rfl, ev⟩ := y
      rw [List.getElem?_map] at ev
      obtain ⟨n, en, rfl⟩ := Option.map_eq_some_iff.mp ev
      have dn := dig n (List.mem_of_getElem? en)
      have jl := (List.getElem?_eq_some_iff.mp en).1
      refine ⟨rfl, ?_⟩
      refine yes_ite ?_
      refine ⟨_, rfl, _, rfl, _, rfl, _, 1, 8, rfl, .inl ⟨_, rfl, ?_⟩⟩
      have d1 := dn.1
      have d2 := dn.2
      rw [show decide ((1 : Int) ≤ (n : Int) ∧ (n : Int) ≤ 8) = true from decide_eq_true (by omega)]
      refine ⟨_, hd, ?_, ?_, Same.past sm hD⟩
      · rw [List.length_map, List.length_replicate]
        exact Nat.lt_of_lt_of_le (show j < 100 by omega) (by decide)
      · rw [List.replicate_succ', List.map_append]
        exact upd_same
    · obtain ⟨hd, sm⟩ := e
      refine ⟨D, _, rfl, SqL.of hd, ?_⟩
      rw [all_true]
      exact kk _ sm
abbrev nInletInit : List Str := ["self"]
theorem scInletInit : FnScope nInletInit ["self"] (defScope sInletInit) := ⟨rfl, rfl, rfl, by decide +kernel, rfl, by decide +kernel, by decide +kernel⟩
theorem ok_inletInit {dvs : List V} {kws : List (Str × V)} (F : FunD K "__init__" "Inlet.__init__" (defArgs sInletInit) (defBody sInletInit) (defScope sInletInit) dvs kws f fd)
    (GB : FnOk P w K mg base CX0 3 f3 fd3 ["self", "arguments", "late", "begin"] (spNodeInit K C)) (gB : mg "Node" = some (.ref CN)) (mB : BaseM K CN "__init__" f3) (bB : Binds K fd3 ["self", "arguments", "late", "begin"] []) (T : NodeC K C) : FnOk P w K mg base CX0 4 f fd ["self"] (spMk K .inlet C dd) := by
  refine F.ok scInletInit (fun vs H Q E h => ?_) (fun cdv A ou s H vs Q E hr h => ?_)
  · obtain ⟨p, dx, x, s, rfl, e, _⟩ := h
    cases s with
    | inlet => rfl
    | _ => cases e
  · obtain ⟨p, dx, x, s, rfl, e, ok, au, hp, kk⟩ := h
    have hr2 : Room 2 _ := hr.mono (by decide)
    have hr1 : Room 1 _ := hr.mono (by decide)
    have nd := scInletInit.nd
    cases s with
    | inlet =>
      refine ⟨_, PSs.nox (pss_one (ps_expr (pe_base (pe_glob (v := .ref CN) rfl gB rfl) mB GB hr bB .nil pass0 (pa_cons (pv 0) (pa_cons (pe_tup pa_nil) (pa_cons pe_int (pa_cons pe_int pa_nil))))))), ?_⟩
      refine ⟨rfl, _, rfl, (by show 0 ≤ sizeLine; decide), fun t ht => ?_⟩
      have hp4 := Same.new (o := .tup []) (Same.refl H) ht _ _ hp
      have kt4 : KT K H (upd H t (.tup [])) := KT.same (Same.new (Same.refl H) ht)
      have kp4 : Kept p H (upd H t (.tup [])) := Kept.same (Same.new (Same.refl H) ht)
      refine ⟨p, t, dx, [], _, 0, 0, rfl, hp4, .inl (.inl upd_same), by decide, by decide, (by show 0 < 900; decide), (by show 0 ≤ 1000; decide), fun tm htm => ?_⟩
      obtain ⟨kp5, tm5, kt5⟩ := node_step (K := K) (fs' := nodeF tm 0 0 []) (xs := [] ++ [.int 0, .int 0]) hp4 htm
      have hp5 : upd (upd (upd H t (.tup [])) tm (.tup ([] ++ [.int 0, .int 0]))) p (.ins C dx (nodeF tm 0 0 [])) p = some (.ins C dx (nodeF tm 0 0 [])) := upd_same
      generalize upd (upd (upd H t (.tup [])) tm (.tup ([] ++ [.int 0, .int 0]))) p (.ins C dx (nodeF tm 0 0 [])) = G5 at kp5 tm5 kt5 hp5
      exact kk _ tm x _ (kp4.trans kp5) hp5 (ndF_mk (own := []) (fun m => rfl) rfl rfl rfl) tm5 trivial
    | _ => cases e
abbrev nOutletInit : List Str := ["self"]
theorem scOutletInit : FnScope nOutletInit ["self"] (defScope sOutletInit) := ⟨rfl, rfl, rfl, by decide +kernel, rfl, by decide +kernel, by decide +kernel⟩
theorem ok_outletInit {dvs : List V} {kws : List (Str × V)} (F : FunD K "__init__" "Outlet.__init__" (defArgs sOutletInit) (defBody sOutletInit) (defScope sOutletInit) dvs kws f fd)
    (GB : FnOk P w K mg base CX0 3 f3 fd3 ["self", "arguments", "late", "begin"] (spNodeInit K C)) (gB : mg "Node" = some (.ref CN)) (mB : BaseM K CN "__init__" f3) (bB : Binds K fd3 ["self", "arguments", "late", "begin"] []) (T : NodeC K C) : FnOk P w K mg base CX0 4 f fd ["self"] (spMk K .outlet C dd) := by
  refine F.ok scOutletInit (fun vs H Q E h => ?_) (fun cdv A ou s H vs Q E hr h => ?_)
  · obtain ⟨p, dx, x, s, rfl, e, _⟩ := h
    cases s with
    | outlet => rfl
    | _ => cases e
  · obtain ⟨p, dx, x, s, rfl, e, ok, au, hp, kk⟩ := h
    have hr2 : Room 2 _ := hr.mono (by decide)
    have hr1 : Room 1 _ := hr.mono (by decide)
    have nd := scOutletInit.nd
    cases s with
    | outlet =>
      refine ⟨_, PSs.nox (pss_one (ps_expr (pe_base (pe_glob (v := .ref CN) rfl gB rfl) mB GB hr bB .nil pass0 (pa_cons (pv 0) (pa_cons (pe_tup pa_nil) (pa_cons pe_int (pa_cons pe_int pa_nil))))))), ?_⟩
      refine ⟨rfl, _, rfl, (by show 0 ≤ sizeLine; decide), fun t ht => ?_⟩
      have hp4 := Same.new (o := .tup []) (Same.refl H) ht _ _ hp
      have kt4 : KT K H (upd H t (.tup [])) := KT.same (Same.new (Same.refl H) ht)
      have kp4 : Kept p H (upd H t (.tup [])) := Kept.same (Same.new (Same.refl H) ht)
      refine ⟨p, t, dx, [], _, 0, 0, rfl, hp4, .inl (.inl upd_same), by decide, by decide, (by show 0 < 900; decide), (by show 0 ≤ 1000; decide), fun tm htm => ?_⟩
      obtain ⟨kp5, tm5, kt5⟩ := node_step (K := K) (fs' := nodeF tm 0 0 []) (xs := [] ++ [.int 0, .int 0]) hp4 htm
      have hp5 : upd (upd (upd H t (.tup [])) tm (.tup ([] ++ [.int 0, .int 0]))) p (.ins C dx (nodeF tm 0 0 [])) p = some (.ins C dx (nodeF tm 0 0 [])) := upd_same
      generalize upd (upd (upd H t (.tup [])) tm (.tup ([] ++ [.int 0, .int 0]))) p (.ins C dx (nodeF tm 0 0 [])) = G5 at kp5 tm5 kt5 hp5
      exact kk _ tm x _ (kp4.trans kp5) hp5 (ndF_mk (own := []) (fun m => rfl) rfl rfl rfl) tm5 trivial
    | _ => cases e
abbrev nTimesInit : List Str := ["self", "late", "begin"]
theorem scTimesInit : FnScope nTimesInit ["self", "late", "begin"] (defScope sTimesInit) := ⟨rfl, rfl, rfl, by decide +kernel, rfl, by decide +kernel, by decide +kernel⟩
theorem ok_timesInit {dvs : List V} {kws : List (Str × V)} (F : FunD K "__init__" "Times.__init__" (defArgs sTimesInit) (defBody sTimesInit) (defScope sTimesInit) dvs kws f fd)
    (GB : FnOk P w K mg base CX0 3 f3 fd3 ["self", "arguments", "late", "begin"] (spNodeInit K C)) (gB : mg "Node" = some (.ref CN)) (mB : BaseM K CN "__init__" f3) (bB : Binds K fd3 ["self", "arguments", "late", "begin"] []) (T : NodeC K C) : FnOk P w K mg base CX0 4 f fd ["self", "late", "begin"] (spMk K .times C dd) := by
  refine F.ok scTimesInit (fun vs H Q E h => ?_) (fun cdv A ou s H vs Q E hr h => ?_)
  · obtain ⟨p, dx, x, s, rfl, e, _⟩ := h
    cases s with
    | times => rfl
    | _ => cases e
  · obtain ⟨p, dx, x, s, rfl, e, ok, au, hp, kk⟩ := h
    have hr2 : Room 2 _ := hr.mono (by decide)
    have hr1 : Room 1 _ := hr.mono (by decide)
    have nd := scTimesInit.nd
    cases s with
    | times =>
      refine ⟨_, PSs.nox (pss_one (ps_expr (pe_base (pe_glob (v := .ref CN) rfl gB rfl) mB GB hr bB .nil pass0 (pa_cons (pv 0) (pa_cons (pe_tup pa_nil) (pa_cons (pv 1) (pa_cons (pv 2) pa_nil))))))), ?_⟩
      refine ⟨rfl, _, rfl, (by show 0 ≤ sizeLine; decide), fun t ht => ?_⟩
      have hp4 := Same.new (o := .tup []) (Same.refl H) ht _ _ hp
      have kt4 : KT K H (upd H t (.tup [])) := KT.same (Same.new (Same.refl H) ht)
      have kp4 : Kept p H (upd H t (.tup [])) := Kept.same (Same.new (Same.refl H) ht)
      refine ⟨_, rfl, _, rfl, p, t, dx, [], _, 0, 0, rfl, hp4, .inl (.inl upd_same), by decide, by decide, (by show 0 < 900; decide), (by show 0 ≤ 1000; decide), fun tm htm => ?_⟩
      obtain ⟨kp5, tm5, kt5⟩ := node_step (K := K) (fs' := nodeF tm 0 0 []) (xs := [] ++ [.int 0, .int 0]) hp4 htm
      have hp5 : upd (upd (upd H t (.tup [])) tm (.tup ([] ++ [.int 0, .int 0]))) p (.ins C dx (nodeF tm 0 0 [])) p = some (.ins C dx (nodeF tm 0 0 [])) := upd_same
      generalize upd (upd (upd H t (.tup [])) tm (.tup ([] ++ [.int 0, .int 0]))) p (.ins C dx (nodeF tm 0 0 [])) = G5 at kp5 tm5 kt5 hp5
      exact kk _ tm x _ (kp4.trans kp5) hp5 (ndF_mk (own := []) (fun m => rfl) rfl rfl rfl) tm5 trivial
    | _ => cases e
abbrev nChooseInit : List Str := ["self", "late", "begin"]
theorem scChooseInit : FnScope nChooseInit ["self", "late", "begin"] (defScope sChooseInit) := ⟨rfl, rfl, rfl, by decide +kernel, rfl, by decide +kernel, by decide +kernel⟩
theorem ok_chooseInit {dvs : List V} {kws : List (Str × V)} (F : FunD K "__init__" "Choose.__init__" (defArgs sChooseInit) (defBody sChooseInit) (defScope sChooseInit) dvs kws f fd)
    (GB : FnOk P w K mg base CX0 3 f3 fd3 ["self", "arguments", "late", "begin"] (spNodeInit K C)) (gB : mg "Node" = some (.ref CN)) (mB : BaseM K CN "__init__" f3) (bB : Binds K fd3 ["self", "arguments", "late", "begin"] []) (T : NodeC K C) : FnOk P w K mg base CX0 4 f fd ["self", "late", "begin"] (spMk K .choose C dd) := by
  refine F.ok scChooseInit (fun vs H Q E h => ?_) (fun cdv A ou s H vs Q E hr h => ?_)
  · obtain ⟨p, dx, x, s, rfl, e, _⟩ := h
    cases s with
    | choose => rfl
    | _ => cases e
  · obtain ⟨p, dx, x, s, rfl, e, ok, au, hp, kk⟩ := h
    have hr2 : Room 2 _ := hr.mono (by decide)
    have hr1 : Room 1 _ := hr.mono (by decide)
    have nd := scChooseInit.nd
    cases s with
    | choose =>
      refine ⟨_, PSs.nox (pss_one (ps_expr (pe_base (pe_glob (v := .ref CN) rfl gB rfl) mB GB hr bB .nil pass0 (pa_cons (pv 0) (pa_cons (pe_tup pa_nil) (pa_cons (pv 1) (pa_cons (pv 2) pa_nil))))))), ?_⟩
      refine ⟨rfl, _, rfl, (by show 0 ≤ sizeLine; decide), fun t ht => ?_⟩
      have hp4 := Same.new (o := .tup []) (Same.refl H) ht _ _ hp
      have kt4 : KT K H (upd H t (.tup [])) := KT.same (Same.new (Same.refl H) ht)
      have kp4 : Kept p H (upd H t (.tup [])) := Kept.same (Same.new (Same.refl H) ht)
      refine ⟨_, rfl, _, rfl, p, t, dx, [], _, 0, 0, rfl, hp4, .inl (.inl upd_same), by decide, by decide, (by show 0 < 900; decide), (by show 0 ≤ 1000; decide), fun tm htm => ?_⟩
      obtain ⟨kp5, tm5, kt5⟩ := node_step (K := K) (fs' := nodeF tm 0 0 []) (xs := [] ++ [.int 0, .int 0]) hp4 htm
      have hp5 : upd (upd (upd H t (.tup [])) tm (.tup ([] ++ [.int 0, .int 0]))) p (.ins C dx (nodeF tm 0 0 [])) p = some (.ins C dx (nodeF tm 0 0 [])) := upd_same
      generalize upd (upd (upd H t (.tup [])) tm (.tup ([] ++ [.int 0, .int 0]))) p (.ins C dx (nodeF tm 0 0 [])) = G5 at kp5 tm5 kt5 hp5
      exact kk _ tm x _ (kp4.trans kp5) hp5 (ndF_mk (own := []) (fun m => rfl) rfl rfl rfl) tm5 trivial
    | _ => cases e
abbrev nGainInit : List Str := ["self", "by", "late", "begin"]
theorem scGainInit : FnScope nGainInit ["self", "by", "late", "begin"] (defScope sGainInit) := ⟨rfl, rfl, rfl, by decide +kernel, rfl, by decide +kernel, by decide +kernel⟩
theorem ok_gainInit {dvs : List V} {kws : List (Str × V)} (F : FunD K "__init__" "Gain.__init__" (defArgs sGainInit) (defBody sGainInit) (defScope sGainInit) dvs kws f fd)
    (GB : FnOk P w K mg base CX0 3 f3 fd3 ["self", "arguments", "late", "begin"] (spNodeInit K C)) (gB : mg "Node" = some (.ref CN)) (mB : BaseM K CN "__init__" f3) (bB : Binds K fd3 ["self", "arguments", "late", "begin"] []) (T : NodeC K C)
    (GN : FnOk P w K mg base CX0 1 f1 fd1 ["holds", "field"] spNeed) (gN : mg "need" = some (.ref f1)) (kN : PySem.W.keepIn K (.ref f1) = true) (bN : Binds K fd1 ["holds", "field"] [])
    (GI : FnOk P w K mg base CX0 1 f4 fd4 ["thing"] (spWhole K)) (gI : mg "is_whole" = some (.ref f4)) (kI : PySem.W.keepIn K (.ref f4) = true) (bI : Binds K fd4 ["thing"] [])
    (nB : NoAttr K C "by") : FnOk P w K mg base CX0 4 f fd ["self", "by", "late", "begin"] (spMk K .gain C dd) := by
  refine F.ok scGainInit (fun vs H Q E h => ?_) (fun cdv A ou s H vs Q E hr h => ?_)
  · obtain ⟨p, dx, x, s, rfl, e, _⟩ := h
    cases s with
    | gain b l g => rfl
    | _ => cases e
  · obtain ⟨p, dx, x, s, rfl, e, ok, au, hp, kk⟩ := h
    have hr2 : Room 2 _ := hr.mono (by decide)
    have hr1 : Room 1 _ := hr.mono (by decide)
    have nd := scGainInit.nd
    cases s with
    | gain b l g =>
      refine ⟨_, PSs.nox (pss_cons (ps_expr (pe_call GN hr1 rfl gN kN bN .nil pass0 (pa_cons (pe_call GI hr1 rfl gI kI bI .nil pass0 (pa_cons (pv 1) pa_nil)) (pa_cons pe_str pa_nil))))
      (pss_cons (ps_expr (pe_base (pe_glob (v := .ref CN) rfl gB rfl) mB GB hr bB .nil pass0 (pa_cons (pv 0) (pa_cons (pe_tup (pa_cons (pv 1) pa_nil)) (pa_cons (pv 2) (pa_cons (pv 3) pa_nil))))))
      (pss_one (ps_fld (pv 0) (pv 1) rfl)))), ?_⟩
      obtain ⟨_, _, l2, g2⟩ := ok
      refine ⟨_, rfl, _, rfl, .inl ⟨_, rfl, _, rfl, ?_⟩⟩
      refine ⟨rfl, _, rfl, _, rfl, (by show 1 ≤ sizeLine; decide), fun t ht => ?_⟩
      have hp4 := Same.new (o := .tup [V.int b]) (Same.refl H) ht _ _ hp
      have kt4 : KT K H (upd H t (.tup [V.int b])) := KT.same (Same.new (Same.refl H) ht)
      have kp4 : Kept p H (upd H t (.tup [V.int b])) := Kept.same (Same.new (Same.refl H) ht)
      refine ⟨_, rfl, _, rfl, p, t, dx, [], _, (l : Int), (g : Int), rfl, hp4, .inl (.inl upd_same), by omega, by omega, (by show 0 < 900; decide), (by show 1 ≤ 1000; decide), fun tm htm => ?_⟩
      obtain ⟨kp5, tm5, kt5⟩ := node_step (K := K) (fs' := nodeF tm (l : Int) (g : Int) []) (xs := [V.int b] ++ [.int (l : Int), .int (g : Int)]) hp4 htm
      have hp5 : upd (upd (upd H t (.tup [V.int b])) tm (.tup ([V.int b] ++ [.int (l : Int), .int (g : Int)]))) p (.ins C dx (nodeF tm (l : Int) (g : Int) [])) p = some (.ins C dx (nodeF tm (l : Int) (g : Int) [])) := upd_same
      generalize upd (upd (upd H t (.tup [V.int b])) tm (.tup ([V.int b] ++ [.int (l : Int), .int (g : Int)]))) p (.ins C dx (nodeF tm (l : Int) (g : Int) [])) = G5 at kp5 tm5 kt5 hp5
      refine ⟨_, rfl, _, rfl, p, C, dx, _, rfl, hp5, T.cl, nB, ?_, ?_⟩
      · exact Nat.lt_of_le_of_lt (nodeF_le _ _ _ _) (by show 0 + 3 < _; decide)
      exact kk _ tm x _ (Kept.upd (kp4.trans kp5)) upd_same (NdF.put (ndF_mk (own := []) (fun m => rfl) rfl rfl rfl) "by" _ (by decide +kernel) (by decide +kernel) (by decide +kernel)) (KT.ins hp5 _ _ (tm5)) trivial
    | _ => cases e
abbrev nMixInit : List Str := ["self", "many", "late", "begin"]
theorem scMixInit : FnScope nMixInit ["self", "many", "late", "begin"] (defScope sMixInit) := ⟨rfl, rfl, rfl, by decide +kernel, rfl, by decide +kernel, by decide +kernel⟩
theorem ok_mixInit {dvs : List V} {kws : List (Str × V)} (F : FunD K "__init__" "Mix.__init__" (defArgs sMixInit) (defBody sMixInit) (defScope sMixInit) dvs kws f fd)
    (GB : FnOk P w K mg base CX0 3 f3 fd3 ["self", "arguments", "late", "begin"] (spNodeInit K C)) (gB : mg "Node" = some (.ref CN)) (mB : BaseM K CN "__init__" f3) (bB : Binds K fd3 ["self", "arguments", "late", "begin"] []) (T : NodeC K C)
    (GN : FnOk P w K mg base CX0 1 f1 fd1 ["holds", "field"] spNeed) (gN : mg "need" = some (.ref f1)) (kN : PySem.W.keepIn K (.ref f1) = true) (bN : Binds K fd1 ["holds", "field"] [])
    (GW : FnOk P w K mg base CX0 2 f2 fd2 ["thing", "least", "most"] (spWithin K)) (gW : mg "is_whole_within" = some (.ref f2)) (kW : PySem.W.keepIn K (.ref f2) = true) (bW : Binds K fd2 ["thing", "least", "most"] [])
    (nM : NoAttr K C "many") (gM : ∃ t, mg "MOST_MIXED" = some (.int 8 t)) : FnOk P w K mg base CX0 4 f fd ["self", "many", "late", "begin"] (spMk K .mix C dd) := by
  obtain ⟨tM, gM⟩ := gM
  refine F.ok scMixInit (fun vs H Q E h => ?_) (fun cdv A ou s H vs Q E hr h => ?_)
  · obtain ⟨p, dx, x, s, rfl, e, _⟩ := h
    cases s with
    | mix n => rfl
    | _ => cases e
  · obtain ⟨p, dx, x, s, rfl, e, ok, au, hp, kk⟩ := h
    have hr2 : Room 2 _ := hr.mono (by decide)
    have hr1 : Room 1 _ := hr.mono (by decide)
    have nd := scMixInit.nd
    cases s with
    | mix n =>
      refine ⟨_, PSs.nox (pss_cons (ps_expr (pe_call GN hr1 rfl gN kN bN .nil pass0 (pa_cons (pe_call GW hr2 rfl gW kW bW .nil pass0 (pa_cons (pv 1) (pa_cons pe_int (pa_cons (pe_glob (v := .int 8) rfl gM ⟨_, rfl⟩) pa_nil)))) (pa_cons pe_str pa_nil))))
      (pss_cons (ps_expr (pe_base (pe_glob (v := .ref CN) rfl gB rfl) mB GB hr bB .nil pass0 (pa_cons (pv 0) (pa_cons (pe_tup (pa_cons (pv 1) pa_nil)) (pa_cons (pv 2) (pa_cons (pv 3) pa_nil))))))
      (pss_one (ps_fld (pv 0) (pv 1) rfl)))), ?_⟩
      obtain ⟨n1, n8⟩ := ok
      refine ⟨_, rfl, _, 1, 8, rfl, .inl ⟨_, rfl, ?_⟩⟩
      rw [show decide ((1 : Int) ≤ (n : Int) ∧ (n : Int) ≤ 8) = true from decide_eq_true (by omega)]
      refine ⟨_, rfl, ?_⟩
      refine ⟨rfl, _, rfl, _, rfl, (by show 1 ≤ sizeLine; decide), fun t ht => ?_⟩
      have hp4 := Same.new (o := .tup [natV n]) (Same.refl H) ht _ _ hp
      have kt4 : KT K H (upd H t (.tup [natV n])) := KT.same (Same.new (Same.refl H) ht)
      have kp4 : Kept p H (upd H t (.tup [natV n])) := Kept.same (Same.new (Same.refl H) ht)
      refine ⟨_, rfl, _, rfl, p, t, dx, [], _, 0, 0, rfl, hp4, .inl (.inl upd_same), by decide, by decide, (by show 0 < 900; decide), (by show 1 ≤ 1000; decide), fun tm htm => ?_⟩
      obtain ⟨kp5, tm5, kt5⟩ := node_step (K := K) (fs' := nodeF tm 0 0 []) (xs := [natV n] ++ [.int 0, .int 0]) hp4 htm
      have hp5 : upd (upd (upd H t (.tup [natV n])) tm (.tup ([natV n] ++ [.int 0, .int 0]))) p (.ins C dx (nodeF tm 0 0 [])) p = some (.ins C dx (nodeF tm 0 0 [])) := upd_same
      generalize upd (upd (upd H t (.tup [natV n])) tm (.tup ([natV n] ++ [.int 0, .int 0]))) p (.ins C dx (nodeF tm 0 0 [])) = G5 at kp5 tm5 kt5 hp5
      refine ⟨_, rfl, _, rfl, p, C, dx, _, rfl, hp5, T.cl, nM, ?_, ?_⟩
      · exact Nat.lt_of_le_of_lt (nodeF_le _ _ _ _) (by show 0 + 3 < _; decide)
      exact kk _ tm x _ (Kept.upd (kp4.trans kp5)) upd_same (NdF.put (ndF_mk (own := []) (fun m => rfl) rfl rfl rfl) "many" _ (by decide +kernel) (by decide +kernel) (by decide +kernel)) (KT.ins hp5 _ _ (tm5)) trivial
    | _ => cases e
abbrev nUpInit : List Str := ["self", "many", "hold", "late", "begin"]
theorem scUpInit : FnScope nUpInit ["self", "many", "hold", "late", "begin"] (defScope sUpInit) := ⟨rfl, rfl, rfl, by decide +kernel, rfl, by decide +kernel, by decide +kernel⟩
theorem ok_upInit {dvs : List V} {kws : List (Str × V)} (F : FunD K "__init__" "Up.__init__" (defArgs sUpInit) (defBody sUpInit) (defScope sUpInit) dvs kws f fd)
    (GB : FnOk P w K mg base CX0 3 f3 fd3 ["self", "arguments", "late", "begin"] (spNodeInit K C)) (gB : mg "Node" = some (.ref CN)) (mB : BaseM K CN "__init__" f3) (bB : Binds K fd3 ["self", "arguments", "late", "begin"] []) (T : NodeC K C)
    (GN : FnOk P w K mg base CX0 1 f1 fd1 ["holds", "field"] spNeed) (gN : mg "need" = some (.ref f1)) (kN : PySem.W.keepIn K (.ref f1) = true) (bN : Binds K fd1 ["holds", "field"] [])
    (GW : FnOk P w K mg base CX0 2 f2 fd2 ["thing", "least", "most"] (spWithin K)) (gW : mg "is_whole_within" = some (.ref f2)) (kW : PySem.W.keepIn K (.ref f2) = true) (bW : Binds K fd2 ["thing", "least", "most"] [])
    (GT : FnOk P w K mg base CX0 1 f5 fd5 ["thing"] spTruth) (gT : mg "is_truth" = some (.ref f5)) (kT : PySem.W.keepIn K (.ref f5) = true) (bT : Binds K fd5 ["thing"] [])
    (nM : NoAttr K C "many") (nH : NoAttr K C "hold") (gM : ∃ t, mg "MOST_RATE" = some (.int 8 t)) : FnOk P w K mg base CX0 4 f fd ["self", "many", "hold", "late", "begin"] (spMk K .up C dd) := by
  obtain ⟨tM, gM⟩ := gM
  refine F.ok scUpInit (fun vs H Q E h => ?_) (fun cdv A ou s H vs Q E hr h => ?_)
  · obtain ⟨p, dx, x, s, rfl, e, _⟩ := h
    cases s with
    | up n => rfl
    | _ => cases e
  · obtain ⟨p, dx, x, s, rfl, e, ok, au, hp, kk⟩ := h
    have hr2 : Room 2 _ := hr.mono (by decide)
    have hr1 : Room 1 _ := hr.mono (by decide)
    have nd := scUpInit.nd
    cases s with
    | up n =>
      refine ⟨_, PSs.nox (pss_cons (ps_expr (pe_call GN hr1 rfl gN kN bN .nil pass0 (pa_cons (pe_call GW hr2 rfl gW kW bW .nil pass0 (pa_cons (pv 1) (pa_cons pe_int (pa_cons (pe_glob (v := .int 8) rfl gM ⟨_, rfl⟩) pa_nil)))) (pa_cons pe_str pa_nil))))
      (pss_cons (ps_expr (pe_call GN hr1 rfl gN kN bN .nil pass0 (pa_cons (pe_call GT hr1 rfl gT kT bT .nil pass0 (pa_cons (pv 2) pa_nil)) (pa_cons pe_str pa_nil))))
      (pss_cons (ps_expr (pe_base (pe_glob (v := .ref CN) rfl gB rfl) mB GB hr bB .nil pass0 (pa_cons (pv 0) (pa_cons (pe_tup (pa_cons (pv 1) (pa_cons (pv 2) pa_nil))) (pa_cons (pv 3) (pa_cons (pv 4) pa_nil))))))
      (pss_cons (ps_fld (pv 0) (pv 1) rfl)
      (pss_one (ps_fld (pv 0) (pv 2) rfl)))))), ?_⟩
      obtain ⟨n1, n8⟩ := ok
      refine ⟨_, rfl, _, 1, 8, rfl, .inl ⟨_, rfl, ?_⟩⟩
      rw [show decide ((1 : Int) ≤ (n : Int) ∧ (n : Int) ≤ 8) = true from decide_eq_true (by omega)]
      refine ⟨_, rfl, ?_⟩
      refine ⟨_, rfl, false, rfl, _, rfl, ?_⟩
      refine ⟨rfl, _, rfl, _, rfl, _, rfl, (by show 2 ≤ sizeLine; decide), fun t ht => ?_⟩
      have hp4 := Same.new (o := .tup [natV n, V.bl false]) (Same.refl H) ht _ _ hp
      have kt4 : KT K H (upd H t (.tup [natV n, V.bl false])) := KT.same (Same.new (Same.refl H) ht)
      have kp4 : Kept p H (upd H t (.tup [natV n, V.bl false])) := Kept.same (Same.new (Same.refl H) ht)
      refine ⟨_, rfl, _, rfl, p, t, dx, [], _, 0, 0, rfl, hp4, .inl (.inl upd_same), by decide, by decide, (by show 0 < 900; decide), (by show 2 ≤ 1000; decide), fun tm htm => ?_⟩
      obtain ⟨kp5, tm5, kt5⟩ := node_step (K := K) (fs' := nodeF tm 0 0 []) (xs := [natV n, V.bl false] ++ [.int 0, .int 0]) hp4 htm
      have hp5 : upd (upd (upd H t (.tup [natV n, V.bl false])) tm (.tup ([natV n, V.bl false] ++ [.int 0, .int 0]))) p (.ins C dx (nodeF tm 0 0 [])) p = some (.ins C dx (nodeF tm 0 0 [])) := upd_same
      generalize upd (upd (upd H t (.tup [natV n, V.bl false])) tm (.tup ([natV n, V.bl false] ++ [.int 0, .int 0]))) p (.ins C dx (nodeF tm 0 0 [])) = G5 at kp5 tm5 kt5 hp5
      refine ⟨_, rfl, _, rfl, p, C, dx, _, rfl, hp5, T.cl, nM, ?_, ?_⟩
      · exact Nat.lt_of_le_of_lt (nodeF_le _ _ _ _) (by show 0 + 3 < _; decide)
      refine ⟨_, rfl, _, rfl, p, C, dx, _, rfl, upd_same, T.cl, nH, ?_, ?_⟩
      · exact Nat.lt_of_le_of_lt (Nat.le_trans (putF_le _ _ _) (Nat.succ_le_succ (nodeF_le _ _ _ _))) (by show 0 + 3 + 1 < _; decide)
      exact kk _ tm x _ (Kept.upd (Kept.upd (kp4.trans kp5))) upd_same (NdF.put (NdF.put (ndF_mk (own := []) (fun m => rfl) rfl rfl rfl) "many" _ (by decide +kernel) (by decide +kernel) (by decide +kernel)) "hold" _ (by decide +kernel) (by decide +kernel) (by decide +kernel)) (KT.ins upd_same _ _ (KT.ins hp5 _ _ (tm5))) trivial
    | _ => cases e
abbrev nDownInit : List Str := ["self", "many", "late", "begin"]
theorem scDownInit : FnScope nDownInit ["self", "many", "late", "begin"] (defScope sDownInit) := ⟨rfl, rfl, rfl, by decide +kernel, rfl, by decide +kernel, by decide +kernel⟩
theorem ok_downInit {dvs : List V} {kws : List (Str × V)} (F : FunD K "__init__" "Down.__init__" (defArgs sDownInit) (defBody sDownInit) (defScope sDownInit) dvs kws f fd)
    (GB : FnOk P w K mg base CX0 3 f3 fd3 ["self", "arguments", "late", "begin"] (spNodeInit K C)) (gB : mg "Node" = some (.ref CN)) (mB : BaseM K CN "__init__" f3) (bB : Binds K fd3 ["self", "arguments", "late", "begin"] []) (T : NodeC K C)
    (GN : FnOk P w K mg base CX0 1 f1 fd1 ["holds", "field"] spNeed) (gN : mg "need" = some (.ref f1)) (kN : PySem.W.keepIn K (.ref f1) = true) (bN : Binds K fd1 ["holds", "field"] [])
    (GW : FnOk P w K mg base CX0 2 f2 fd2 ["thing", "least", "most"] (spWithin K)) (gW : mg "is_whole_within" = some (.ref f2)) (kW : PySem.W.keepIn K (.ref f2) = true) (bW : Binds K fd2 ["thing", "least", "most"] [])
    (nM : NoAttr K C "many") (gM : ∃ t, mg "MOST_RATE" = some (.int 8 t)) : FnOk P w K mg base CX0 4 f fd ["self", "many", "late", "begin"] (spMk K .down C dd) := by
  obtain ⟨tM, gM⟩ := gM
  refine F.ok scDownInit (fun vs H Q E h => ?_) (fun cdv A ou s H vs Q E hr h => ?_)
  · obtain ⟨p, dx, x, s, rfl, e, _⟩ := h
    cases s with
    | down n => rfl
    | _ => cases e
  · obtain ⟨p, dx, x, s, rfl, e, ok, au, hp, kk⟩ := h
    have hr2 : Room 2 _ := hr.mono (by decide)
    have hr1 : Room 1 _ := hr.mono (by decide)
    have nd := scDownInit.nd
    cases s with
    | down n =>
      refine ⟨_, PSs.nox (pss_cons (ps_expr (pe_call GN hr1 rfl gN kN bN .nil pass0 (pa_cons (pe_call GW hr2 rfl gW kW bW .nil pass0 (pa_cons (pv 1) (pa_cons pe_int (pa_cons (pe_glob (v := .int 8) rfl gM ⟨_, rfl⟩) pa_nil)))) (pa_cons pe_str pa_nil))))
      (pss_cons (ps_expr (pe_base (pe_glob (v := .ref CN) rfl gB rfl) mB GB hr bB .nil pass0 (pa_cons (pv 0) (pa_cons (pe_tup (pa_cons (pv 1) pa_nil)) (pa_cons (pv 2) (pa_cons (pv 3) pa_nil))))))
      (pss_one (ps_fld (pv 0) (pv 1) rfl)))), ?_⟩
      obtain ⟨n1, n8⟩ := ok
      refine ⟨_, rfl, _, 1, 8, rfl, .inl ⟨_, rfl, ?_⟩⟩
      rw [show decide ((1 : Int) ≤ (n : Int) ∧ (n : Int) ≤ 8) = true from decide_eq_true (by omega)]
      refine ⟨_, rfl, ?_⟩
      refine ⟨rfl, _, rfl, _, rfl, (by show 1 ≤ sizeLine; decide), fun t ht => ?_⟩
      have hp4 := Same.new (o := .tup [natV n]) (Same.refl H) ht _ _ hp
      have kt4 : KT K H (upd H t (.tup [natV n])) := KT.same (Same.new (Same.refl H) ht)
      have kp4 : Kept p H (upd H t (.tup [natV n])) := Kept.same (Same.new (Same.refl H) ht)
      refine ⟨_, rfl, _, rfl, p, t, dx, [], _, 0, 0, rfl, hp4, .inl (.inl upd_same), by decide, by decide, (by show 0 < 900; decide), (by show 1 ≤ 1000; decide), fun tm htm => ?_⟩
      obtain ⟨kp5, tm5, kt5⟩ := node_step (K := K) (fs' := nodeF tm 0 0 []) (xs := [natV n] ++ [.int 0, .int 0]) hp4 htm
      have hp5 : upd (upd (upd H t (.tup [natV n])) tm (.tup ([natV n] ++ [.int 0, .int 0]))) p (.ins C dx (nodeF tm 0 0 [])) p = some (.ins C dx (nodeF tm 0 0 [])) := upd_same
      generalize upd (upd (upd H t (.tup [natV n])) tm (.tup ([natV n] ++ [.int 0, .int 0]))) p (.ins C dx (nodeF tm 0 0 [])) = G5 at kp5 tm5 kt5 hp5
      refine ⟨_, rfl, _, rfl, p, C, dx, _, rfl, hp5, T.cl, nM, ?_, ?_⟩
      · exact Nat.lt_of_le_of_lt (nodeF_le _ _ _ _) (by show 0 + 3 < _; decide)
      exact kk _ tm x _ (Kept.upd (kp4.trans kp5)) upd_same (NdF.put (ndF_mk (own := []) (fun m => rfl) rfl rfl rfl) "many" _ (by decide +kernel) (by decide +kernel) (by decide +kernel)) (KT.ins hp5 _ _ (tm5)) trivial
    | _ => cases e
abbrev nResampleInit : List Str := ["self", "up", "down", "numbers", "late", "begin"]
theorem scResampleInit : FnScope nResampleInit ["self", "up", "down", "numbers", "late", "begin"] (defScope sResampleInit) := ⟨rfl, rfl, rfl, by decide +kernel, rfl, by decide +kernel, by decide +kernel⟩
theorem ok_resampleInit {dvs : List V} {kws : List (Str × V)} (F : FunD K "__init__" "Resample.__init__" (defArgs sResampleInit) (defBody sResampleInit) (defScope sResampleInit) dvs kws f fd)
    (GB : FnOk P w K mg base CX0 3 f3 fd3 ["self", "arguments", "late", "begin"] (spNodeInit K C)) (gB : mg "Node" = some (.ref CN)) (mB : BaseM K CN "__init__" f3) (bB : Binds K fd3 ["self", "arguments", "late", "begin"] []) (T : NodeC K C)
    (GN : FnOk P w K mg base CX0 1 f1 fd1 ["holds", "field"] spNeed) (gN : mg "need" = some (.ref f1)) (kN : PySem.W.keepIn K (.ref f1) = true) (bN : Binds K fd1 ["holds", "field"] [])
    (GW : FnOk P w K mg base CX0 2 f2 fd2 ["thing", "least", "most"] (spWithin K)) (gW : mg "is_whole_within" = some (.ref f2)) (kW : PySem.W.keepIn K (.ref f2) = true) (bW : Binds K fd2 ["thing", "least", "most"] [])
    (GL : FnOk P w K mg base CX0 3 f6 fd6 ["thing", "least", "most"] (spListOf K)) (gL : mg "is_list_of_wholes" = some (.ref f6)) (kL : PySem.W.keepIn K (.ref f6) = true) (bL : Binds K fd6 ["thing", "least", "most"] [])
    (nN : NoAttr K C "numbers") (nU : NoAttr K C "up") (nD : NoAttr K C "down") (gM : ∃ t, mg "MOST_RATE" = some (.int 8 t)) (gP : ∃ t, mg "MOST_TAPS" = some (.int 12 t)) (gList : mg "list" = none) : FnOk P w K mg base CX0 4 f fd ["self", "up", "down", "numbers", "late", "begin"] (spMk K .resample C dd) := by
  obtain ⟨tM, gM⟩ := gM
  obtain ⟨tP, gP⟩ := gP
  refine F.ok scResampleInit (fun vs H Q E h => ?_) (fun cdv A ou s H vs Q E hr h => ?_)
  · obtain ⟨p, dx, x, s, rfl, e, _⟩ := h
    cases s with
    | resample u d => rfl
    | _ => cases e
  · obtain ⟨p, dx, x, s, rfl, e, ok, au, hp, kk⟩ := h
    have hr2 : Room 2 _ := hr.mono (by decide)
    have hr1 : Room 1 _ := hr.mono (by decide)
    have nd := scResampleInit.nd
    cases s with
    | resample u d =>
      refine ⟨_, PSs.nox (pss_cons (ps_expr (pe_call GN hr1 rfl gN kN bN .nil pass0 (pa_cons (pe_call GW hr2 rfl gW kW bW .nil pass0 (pa_cons (pv 1) (pa_cons pe_int (pa_cons (pe_glob (v := .int 8) rfl gM ⟨_, rfl⟩) pa_nil)))) (pa_cons pe_str pa_nil))))
      (pss_cons (ps_expr (pe_call GN hr1 rfl gN kN bN .nil pass0 (pa_cons (pe_call GW hr2 rfl gW kW bW .nil pass0 (pa_cons (pv 2) (pa_cons pe_int (pa_cons (pe_glob (v := .int 8) rfl gM ⟨_, rfl⟩) pa_nil)))) (pa_cons pe_str pa_nil))))
      (pss_cons (ps_expr (pe_call GN hr1 rfl gN kN bN .nil pass0 (pa_cons (pe_call GL hr rfl gL kL bL .nil pass0 (pa_cons (pv 3) (pa_cons pe_int (pa_cons (pe_glob (v := .int 12) rfl gP ⟨_, rfl⟩) pa_nil)))) (pa_cons pe_str pa_nil))))
      (pss_cons (ps_fld (pv 0) (pe_callTy call_list_of (by rfl) gList PyProof.Rows.boot_list (pa_cons (pv 3) pa_nil)) rfl)
      (pss_cons (ps_expr (pe_base (pe_glob (v := .ref CN) rfl gB rfl) mB GB hr bB .nil pass0 (pa_cons (pv 0) (pa_cons (pe_tup (pa_cons (pv 1) (pa_cons (pv 2) (pa_cons (pe_fld (pv 0) rfl) pa_nil)))) (pa_cons (pv 4) (pa_cons (pv 5) pa_nil))))))
      (pss_cons (ps_fld (pv 0) (pv 1) rfl)
      (pss_one (ps_fld (pv 0) (pv 2) rfl)))))))), ?_⟩
      obtain ⟨⟨u1, u8⟩, d1, d8⟩ := ok
      refine ⟨_, rfl, _, 1, 8, rfl, .inl ⟨_, rfl, ?_⟩⟩
      rw [show decide ((1 : Int) ≤ (u : Int) ∧ (u : Int) ≤ 8) = true from decide_eq_true (by omega)]
      refine ⟨_, rfl, ?_⟩
      refine ⟨_, rfl, _, 1, 8, rfl, .inl ⟨_, rfl, ?_⟩⟩
      rw [show decide ((1 : Int) ≤ (d : Int) ∧ (d : Int) ≤ 8) = true from decide_eq_true (by omega)]
      refine ⟨_, rfl, ?_⟩
      have au : H x = some (.lst ([1, 2].map V.int)) := au
      refine ⟨_, rfl, x, [1, 2], 1, 12, rfl, au, (by decide), (by decide), (by decide), fun H1 s1 => ⟨_, rfl, ?_⟩⟩
      refine ⟨_, rfl, x, _, rfl, .inl (SqL.of (s1 _ _ au)), fun ln hln => ?_⟩
      have s2 := Same.new (o := .lst ([1, 2].map V.int)) s1 hln
      have hp2 := s2 _ _ hp
      have nln : H ln = none := s1.free hln
      have npl : ln ≠ p := (ne_of_none hp nln).symm
      have hln2 : (upd H1 ln (.lst ([1, 2].map V.int))) ln = some (.lst ([1, 2].map V.int)) := upd_same
      generalize upd H1 ln (.lst ([1, 2].map V.int)) = H2 at s2 hp2 hln2
      refine ⟨_, rfl, p, C, dx, _, rfl, hp2, T.cl, nN, by decide, ?_⟩
      have hp3 : (upd H2 p (.ins C dx (putF "numbers" (.ref ln) []))) p = some (.ins C dx (putF "numbers" (.ref ln) [])) := upd_same
      have k3 : Kept p H (upd H2 p (.ins C dx (putF "numbers" (.ref ln) []))) := Kept.upd (Kept.same s2)
      have ln3 : (upd H2 p (.ins C dx (putF "numbers" (.ref ln) []))) ln = some (.lst ([1, 2].map V.int)) := by rw [upd_ne npl]; exact hln2
      generalize upd H2 p (.ins C dx (putF "numbers" (.ref ln) [])) = H3 at hp3 k3 ln3
      refine ⟨rfl, _, rfl, _, rfl, _, rfl, _, rfl, p, C, dx, _, _, rfl, hp3, T.cl, nN, rfl, (by show 3 ≤ sizeLine; decide), fun t ht => ?_⟩
      have hp4 := Same.new (o := .tup [natV u, natV d, V.ref ln]) (Same.refl H3) ht _ _ hp3
      have kt4 : KT K H3 (upd H3 t (.tup [natV u, natV d, V.ref ln])) := KT.same (Same.new (Same.refl H3) ht)
      have kp4 : Kept p H3 (upd H3 t (.tup [natV u, natV d, V.ref ln])) := Kept.same (Same.new (Same.refl H3) ht)
      refine ⟨_, rfl, _, rfl, p, t, dx, (putF "numbers" (.ref ln) []), _, 0, 0, rfl, hp4, .inl (.inl upd_same), by decide, by decide, (by show 1 < 900; decide), (by show 3 ≤ 1000; decide), fun tm htm => ?_⟩
      obtain ⟨kp5, tm5, kt5⟩ := node_step (K := K) (fs' := nodeF tm 0 0 (putF "numbers" (.ref ln) [])) (xs := [natV u, natV d, V.ref ln] ++ [.int 0, .int 0]) hp4 htm
      have hp5 : upd (upd (upd H3 t (.tup [natV u, natV d, V.ref ln])) tm (.tup ([natV u, natV d, V.ref ln] ++ [.int 0, .int 0]))) p (.ins C dx (nodeF tm 0 0 (putF "numbers" (.ref ln) []))) p = some (.ins C dx (nodeF tm 0 0 (putF "numbers" (.ref ln) []))) := upd_same
      generalize upd (upd (upd H3 t (.tup [natV u, natV d, V.ref ln])) tm (.tup ([natV u, natV d, V.ref ln] ++ [.int 0, .int 0]))) p (.ins C dx (nodeF tm 0 0 (putF "numbers" (.ref ln) []))) = G5 at kp5 tm5 kt5 hp5
      have ln5 := kp5 _ _ npl (kp4 _ _ npl ln3)
      refine ⟨_, rfl, _, rfl, p, C, dx, _, rfl, hp5, T.cl, nU, ?_, ?_⟩
      · exact Nat.lt_of_le_of_lt (nodeF_le _ _ _ _) (by show 1 + 3 < _; decide)
      refine ⟨_, rfl, _, rfl, p, C, dx, _, rfl, upd_same, T.cl, nD, ?_, ?_⟩
      · exact Nat.lt_of_le_of_lt (Nat.le_trans (putF_le _ _ _) (Nat.succ_le_succ (nodeF_le _ _ _ _))) (by show 1 + 3 + 1 < _; decide)
      refine kk _ tm ln _ (Kept.upd (Kept.upd (k3.trans (kp4.trans kp5)))) upd_same (NdF.put (NdF.put (ndF_mk (own := [("numbers", .ref ln)]) (fun m => rfl) rfl rfl rfl) "up" _ (by decide +kernel) (by decide +kernel) (by decide +kernel)) "down" _ (by decide +kernel) (by decide +kernel) (by decide +kernel)) (KT.ins upd_same _ _ (KT.ins hp5 _ _ (tm5))) ?_
      show upd (upd G5 p _) p _ ln = _
      rw [upd_ne npl, upd_ne npl]
      exact ln5
    | _ => cases e
abbrev nOwnInit : List Str := ["self", "deed", "takes", "gives", "first", "late", "begin"]
theorem scOwnInit : FnScope nOwnInit ["self", "deed", "takes", "gives", "first", "late", "begin"] (defScope sOwnInit) := ⟨rfl, rfl, rfl, by decide +kernel, rfl, by decide +kernel, by decide +kernel⟩
theorem ok_ownInit {dvs : List V} {kws : List (Str × V)} (F : FunD K "__init__" "Own.__init__" (defArgs sOwnInit) (defBody sOwnInit) (defScope sOwnInit) dvs kws f fd)
    (GB : FnOk P w K mg base CX0 3 f3 fd3 ["self", "arguments", "late", "begin"] (spNodeInit K C)) (gB : mg "Node" = some (.ref CN)) (mB : BaseM K CN "__init__" f3) (bB : Binds K fd3 ["self", "arguments", "late", "begin"] []) (T : NodeC K C)
    (GN : FnOk P w K mg base CX0 1 f1 fd1 ["holds", "field"] spNeed) (gN : mg "need" = some (.ref f1)) (kN : PySem.W.keepIn K (.ref f1) = true) (bN : Binds K fd1 ["holds", "field"] [])
    (GI : FnOk P w K mg base CX0 1 f4 fd4 ["thing"] (spWhole K)) (gI : mg "is_whole" = some (.ref f4)) (kI : PySem.W.keepIn K (.ref f4) = true) (bI : Binds K fd4 ["thing"] [])
    (GW : FnOk P w K mg base CX0 2 f2 fd2 ["thing", "least", "most"] (spWithin K)) (gW : mg "is_whole_within" = some (.ref f2)) (kW : PySem.W.keepIn K (.ref f2) = true) (bW : Binds K fd2 ["thing", "least", "most"] [])
    (GA : FnOk P w K mg base CX0 3 f7 fd7 ["things", "least", "most"] (spWholesIn K)) (gA : mg "are_wholes_within" = some (.ref f7)) (kA : PySem.W.keepIn K (.ref f7) = true) (bA : Binds K fd7 ["things", "least", "most"] [])
    (GZ : FnOk P w K mg base CX0 2 f8 fd8 ["things"] (spWholes K)) (gZ : mg "are_wholes" = some (.ref f8)) (kZ : PySem.W.keepIn K (.ref f8) = true) (bZ : Binds K fd8 ["things"] [])
    (nDe : NoAttr K C "deed") (nTa : NoAttr K C "taken") (nGi : NoAttr K C "given") (nFi : NoAttr K C "first") (gM : ∃ t, mg "MOST_OWN_SAMPLES" = some (.int 8 t)) (gP : ∃ t, mg "MOST_OWN_PLACES" = some (.int 4 t)) (gIs : mg "isinstance" = none) (gTuple : mg "tuple" = none) (gLen : mg "len" = none) : FnOk P w K mg base CX0 4 f fd ["self", "deed", "takes", "gives", "first", "late", "begin"] (spMk K .own C dd) := by
  obtain ⟨tM, gM⟩ := gM
  obtain ⟨tP, gP⟩ := gP
  refine F.ok scOwnInit (fun vs H Q E h => ?_) (fun cdv A ou s H vs Q E hr h => ?_)
  · obtain ⟨p, dx, x, s, rfl, e, _⟩ := h
    cases s with
    | own ts g => rfl
    | _ => cases e
  · obtain ⟨p, dx, x, s, rfl, e, ok, au, hp, kk⟩ := h
    have hr2 : Room 2 _ := hr.mono (by decide)
    have hr1 : Room 1 _ := hr.mono (by decide)
    have nd := scOwnInit.nd
    cases s with
    | own ts g =>
      refine ⟨_, PSs.nox (pss_cons (ps_expr (pe_call GN hr1 rfl gN kN bN .nil pass0 (pa_cons (pe_and (pe_callB call_isi (by rfl) gIs boot_isinstance (pa_cons (pv 2) (pa_cons (pe_bltn (v := .ty "tuple") rfl gTuple PyProof.Rows.boot_tuple rfl) pa_nil))) (pe_one (pe_chain op_le op_le pe_int (pe_callB call_len_seq (by rfl) gLen PySem.boot_len (pa_cons (pv 2) pa_nil)) (pe_glob (v := .int 4) rfl gP ⟨_, rfl⟩)))) (pa_cons pe_str pa_nil))))
      (pss_cons (ps_expr (pe_call GN hr1 rfl gN kN bN .nil pass0 (pa_cons (pe_call GA hr rfl gA kA bA .nil pass0 (pa_cons (pv 2) (pa_cons pe_int (pa_cons (pe_glob (v := .int 8) rfl gM ⟨_, rfl⟩) pa_nil)))) (pa_cons pe_str pa_nil))))
      (pss_cons (ps_expr (pe_call GN hr1 rfl gN kN bN .nil pass0 (pa_cons (pe_call GW hr2 rfl gW kW bW .nil pass0 (pa_cons (pv 3) (pa_cons pe_int (pa_cons (pe_glob (v := .int 8) rfl gM ⟨_, rfl⟩) pa_nil)))) (pa_cons pe_str pa_nil))))
      (pss_cons (ps_expr (pe_call GN hr1 rfl gN kN bN .nil pass0 (pa_cons (pe_or (pe_call GI hr1 rfl gI kI bI .nil pass0 (pa_cons (pv 4) pa_nil)) (pe_one (pe_and (pe_callB call_isi (by rfl) gIs boot_isinstance (pa_cons (pv 4) (pa_cons (pe_bltn (v := .ty "tuple") rfl gTuple PyProof.Rows.boot_tuple rfl) pa_nil))) (pe_one (pe_call GZ hr2 rfl gZ kZ bZ .nil pass0 (pa_cons (pv 4) pa_nil)))))) (pa_cons pe_str pa_nil))))
      (pss_cons (ps_expr (pe_base (pe_glob (v := .ref CN) rfl gB rfl) mB GB hr bB .nil pass0 (pa_cons (pv 0) (pa_cons (pe_tup (pa_cons (pv 1) (pa_cons (pv 2) (pa_cons (pv 3) (pa_cons (pv 4) pa_nil))))) (pa_cons (pv 5) (pa_cons (pv 6) pa_nil))))))
      (pss_cons (ps_fld (pv 0) (pv 1) rfl)
      (pss_cons (ps_fld (pv 0) (pv 2) rfl)
      (pss_cons (ps_fld (pv 0) (pv 3) rfl)
      (pss_one (ps_fld (pv 0) (pv 4) rfl)))))))))), ?_⟩
      obtain ⟨t1, t4, dig, g1, g8⟩ := ok
      have au : SqT K H x (ts.map natV) := au
      refine ⟨_, rfl, _, _, _, _, true, rfl, ClsV.ty _, ty_tup au, kit_ty (by decide +kernel), _, rfl, iteT ?_⟩
      refine ⟨_, rfl, x, _, rfl, .inr au, _, _, rfl, rfl, _, rfl, iteT_ ?_ ?_⟩
      · rw [List.length_map]
        exact decide_eq_true (by omega)
      refine ⟨_, _, rfl, rfl, ?_⟩
      refine ⟨_, congrArg (fun b => [V.bl b, V.str "takes"]) (decide_eq_true (by rw [List.length_map]; omega)), ?_⟩
      refine ⟨_, rfl, x, ts, rfl, au, t4, dig, fun H1 s1 => ⟨_, rfl, ?_⟩⟩
      refine ⟨_, rfl, _, 1, 8, rfl, .inl ⟨_, rfl, ?_⟩⟩
      rw [show decide ((1 : Int) ≤ (g : Int) ∧ (g : Int) ≤ 8) = true from decide_eq_true (by omega)]
      refine ⟨_, rfl, ?_⟩
      refine ⟨_, rfl, _, rfl, .inl ⟨_, rfl, _, rfl, iteT ?_⟩⟩
      refine ⟨_, rfl, ?_⟩
      have hp1 := s1 _ _ hp
      have au1 := Same.tup s1 au
      refine ⟨rfl, _, rfl, _, rfl, _, rfl, _, rfl, _, rfl, (by show 4 ≤ sizeLine; decide), fun t ht => ?_⟩
      have hp4 := Same.new (o := .tup [V.ref dd, V.ref x, natV g, V.int 0]) (Same.refl H1) ht _ _ hp1
      have kt4 : KT K H1 (upd H1 t (.tup [V.ref dd, V.ref x, natV g, V.int 0])) := KT.same (Same.new (Same.refl H1) ht)
      have kp4 : Kept p H1 (upd H1 t (.tup [V.ref dd, V.ref x, natV g, V.int 0])) := Kept.same (Same.new (Same.refl H1) ht)
      refine ⟨_, rfl, _, rfl, p, t, dx, [], _, 0, 0, rfl, hp4, .inl (.inl upd_same), by decide, by decide, (by show 0 < 900; decide), (by show 4 ≤ 1000; decide), fun tm htm => ?_⟩
      obtain ⟨kp5, tm5, kt5⟩ := node_step (K := K) (fs' := nodeF tm 0 0 []) (xs := [V.ref dd, V.ref x, natV g, V.int 0] ++ [.int 0, .int 0]) hp4 htm
      have hp5 : upd (upd (upd H1 t (.tup [V.ref dd, V.ref x, natV g, V.int 0])) tm (.tup ([V.ref dd, V.ref x, natV g, V.int 0] ++ [.int 0, .int 0]))) p (.ins C dx (nodeF tm 0 0 [])) p = some (.ins C dx (nodeF tm 0 0 [])) := upd_same
      generalize upd (upd (upd H1 t (.tup [V.ref dd, V.ref x, natV g, V.int 0])) tm (.tup ([V.ref dd, V.ref x, natV g, V.int 0] ++ [.int 0, .int 0]))) p (.ins C dx (nodeF tm 0 0 [])) = G5 at kp5 tm5 kt5 hp5
      refine ⟨_, rfl, _, rfl, p, C, dx, _, rfl, hp5, T.cl, nDe, ?_, ?_⟩
      · exact Nat.lt_of_le_of_lt (nodeF_le _ _ _ _) (by show 0 + 3 < _; decide)
      refine ⟨_, rfl, _, rfl, p, C, dx, _, rfl, upd_same, T.cl, nTa, ?_, ?_⟩
      · exact Nat.lt_of_le_of_lt (Nat.le_trans (putF_le _ _ _) (Nat.succ_le_succ (nodeF_le _ _ _ _))) (by show 0 + 3 + 1 < _; decide)
      refine ⟨_, rfl, _, rfl, p, C, dx, _, rfl, upd_same, T.cl, nGi, ?_, ?_⟩
      · exact Nat.lt_of_le_of_lt (Nat.le_trans (putF_le _ _ _) (Nat.succ_le_succ (Nat.le_trans (putF_le _ _ _) (Nat.succ_le_succ (nodeF_le _ _ _ _))))) (by show 0 + 3 + 1 + 1 < _; decide)
      refine ⟨_, rfl, _, rfl, p, C, dx, _, rfl, upd_same, T.cl, nFi, ?_, ?_⟩
      · exact Nat.lt_of_le_of_lt (Nat.le_trans (putF_le _ _ _) (Nat.succ_le_succ (Nat.le_trans (putF_le _ _ _) (Nat.succ_le_succ (Nat.le_trans (putF_le _ _ _) (Nat.succ_le_succ (nodeF_le _ _ _ _))))))) (by show 0 + 3 + 1 + 1 + 1 < _; decide)
      exact kk _ tm x _ (Kept.upd (Kept.upd (Kept.upd (Kept.upd ((Kept.same s1).trans (kp4.trans kp5)))))) upd_same (NdF.put (NdF.put (NdF.put (NdF.put (ndF_mk (own := []) (fun m => rfl) rfl rfl rfl) "deed" _ (by decide +kernel) (by decide +kernel) (by decide +kernel)) "taken" _ (by decide +kernel) (by decide +kernel) (by decide +kernel)) "given" _ (by decide +kernel) (by decide +kernel) (by decide +kernel)) "first" _ (by decide +kernel) (by decide +kernel) (by decide +kernel)) (KT.ins upd_same _ _ (KT.ins upd_same _ _ (KT.ins upd_same _ _ (KT.ins hp5 _ _ (tm5))))) (KT.ins upd_same _ _ (KT.ins upd_same _ _ (KT.ins upd_same _ _ (KT.ins hp5 _ _ (kt5 _ _ (kt4 _ _ au1))))))
    | _ => cases e
end
end Sw
namespace Sw
open PySem PySem.Spec PyProof.Rows L2
/-! ### what nodes take, and when they are equal -/
def AtS (K : PySem.W.Frag) (cl : Srt → Addr) (dd : Addr) (A : Srt) (a : Addr) (ts : List Nat) (H : Hp) : Prop := ∃ s, srt s = A ∧ SpecOk s ∧ tks s = ts ∧ NodeS K cl dd s a H
def spTkS (K : PySem.W.Frag) (cl : Srt → Addr) (dd : Addr) (A : Srt) : Sp := fun vs H Q _ => ∃ (a : Addr) (ts : List Nat), vs = [.ref a] ∧ AtS K cl dd A a ts H ∧ ∀ t H', Same H H' → SqT K H' t (ts.map fun (n : Nat) => V.int (n : Int)) → Q (.ref t) H'
def RS (K : PySem.W.Frag) (cl : Srt → Addr) (dd : Addr) (A : Srt) (a b : Addr) (H : Hp) : Prop := ∃ s, srt s = A ∧ NodeS K cl dd s a H ∧ NodeS K cl dd s b H
/-- the same object -/
def DSame : Eqv := fun x y _ => x = y ∧ ∃ a, x = .ref a
theorem mon_same : Mon DSame := fun _ _ _ _ _ d => d
theorem eqG_same {X : Cx} : EqG X 0 DSame := by
  intro A pins s σ H x y u v sb I rx ry d
  obtain ⟨rfl, a, rfl⟩ := d
  cases rx
  cases ry
  exact SeqAt.EqAt.same (A := A) (s := s) (.ref a) X.prog X.w X.xe _ ⟨rfl, H, I, Ext.rfl'⟩
def DEl (K : PySem.W.Frag) : Eqv := fun x y H => ((DFlat x y H ∨ DSame x y H) ∨ DTup K DFlat x y H) ∨ DList DFlat x y H
theorem mon_el {K : PySem.W.Frag} : Mon (DEl K) := Mon.or (Mon.or (Mon.or mon_flat mon_same) (mon_tup mon_flat)) (mon_list mon_flat)
theorem eqG_el {X : Cx} : EqG X 1 (DEl X.K) := EqG.or (EqG.or (EqG.or (eqG_flat.mono (Nat.zero_le _)) (eqG_same.mono (Nat.zero_le _))) (eqG_tup mon_flat eqG_flat)) (eqG_list mon_flat eqG_flat)
theorem rc_made {X : Cx} : RcG X 2 (DTup X.K (DEl X.K)) := rcG_tup mon_el eqG_el
theorem el_int {K : PySem.W.Frag} {H : Hp} (i : Int) : DEl K (.int i) (.int i) H := .inl (.inl (.inl ⟨rfl, rfl, by simp [eqV]⟩))
theorem el_nat {K : PySem.W.Frag} {H : Hp} (n : Nat) : DEl K (natV n) (natV n) H := el_int _
theorem el_bl {K : PySem.W.Frag} {H : Hp} (b : Bool) : DEl K (.bl b) (.bl b) H := .inl (.inl (.inl ⟨rfl, rfl, by simp [eqV]⟩))
theorem prs_nats {H : Hp} : ∀ ts : List Nat, Prs DFlat (ts.map natV) (ts.map natV) H
  | [] => Prs.nil
  | t :: r => Prs.cons ⟨rfl, rfl, by simp [eqV, natV]⟩ (prs_nats r)
theorem made_prs {K : PySem.W.Frag} {H : Hp} {dd x y : Addr} {s : Spec} (h1 : auxS K H x s) (h2 : auxS K H y s) : Prs (DEl K) (madeS dd x s) (madeS dd y s) H := by
  cases s with
  | gain b l g => exact .cons (el_int _) (.cons (el_nat _) (.cons (el_nat _) .nil))
  | mix n => exact .cons (el_nat _) (.cons (el_int _) (.cons (el_int _) .nil))
  | up n => exact .cons (el_nat _) (.cons (el_bl _) (.cons (el_int _) (.cons (el_int _) .nil)))
  | down n => exact .cons (el_nat _) (.cons (el_int _) (.cons (el_int _) .nil))
  | resample u d => exact .cons (el_nat _) (.cons (el_nat _) (.cons (.inr ⟨x, y, _, _, rfl, rfl, h1, h2, .cons ⟨rfl, rfl, by simp [eqV]⟩ (.cons ⟨rfl, rfl, by simp [eqV]⟩ .nil)⟩) (.cons (el_int _) (.cons (el_int _) .nil))))
  | own ts g => exact .cons (.inl (.inl (.inr ⟨rfl, _, rfl⟩))) (.cons (.inl (.inr ⟨x, y, _, _, rfl, rfl, h1, h2, prs_nats ts⟩)) (.cons (el_nat _) (.cons (el_int _) (.cons (el_int _) (.cons (el_int _) .nil)))))
  | _ => exact .cons (el_int _) (.cons (el_int _) .nil)
theorem NodeS.lk {K : PySem.W.Frag} {cl : Srt → Addr} {dd a d : Addr} {s : Spec} {H : Hp} {kvs : List (Key × V)} {o : HO} (h : NodeS K cl dd s a H) (e : H d = some (.dK kvs)) : NodeS K cl dd s a (L2.upd H d o) := by
  obtain ⟨dx, fs, tm, x, h1, h2, h3, h4⟩ := h
  refine ⟨dx, fs, tm, x, lock_ne e h1 (fun _ z => by cases z), h2, lock_tup e h3, ?_⟩
  cases s with
  | own ts g => exact lock_tup e h4
  | resample u d => exact lock_ne e h4 (fun _ z => by cases z)
  | _ => trivial
theorem NodeS.no {K : PySem.W.Frag} {cl : Srt → Addr} {dd a : Addr} {s : Spec} {H : Hp} (h : NodeS K cl dd s a H) : ∃ dx fs, H a = some (.ins (cl (srt s)) dx fs) ∧ fs.lookup ("takes" : Str) = none ∧ fs.lookup ("gives" : Str) = none := by
  obtain ⟨dx, fs, tm, x, h1, h2, h3, h4⟩ := h
  refine ⟨dx, fs, h1, ?_, ?_⟩
  · refine h2.no _ ?_ (by decide +kernel) (by decide +kernel) (by decide +kernel)
    cases s <;> rfl
  · refine h2.no _ ?_ (by decide +kernel) (by decide +kernel) (by decide +kernel)
    cases s <;> rfl
abbrev allS : List Srt := [.gain, .mix, .times, .choose, .up, .down, .resample, .own, .outlet, .inlet]
theorem mem_allS (A : Srt) : A ∈ allS := by
  cases A <;> decide
/-- the facts of the ten classes -/
structure ClsS (K : PySem.W.Frag) (cl : Srt → Addr) (CN CO CI : Addr) : Prop where
  nc : ∀ A, NodeC K (cl A)
  isN : ∀ A, InsC K (cl A) CN
  isS : ∀ A, InsC K (cl A) (cl A)
  isO : ∀ A, PySem.W.kitOne K (.ref (cl A)) (.ref CO) = some (decide (A = .outlet))
  isI : ∀ A, PySem.W.kitOne K (.ref (cl A)) (.ref CI) = some (decide (A = .inlet))
def sorts {K : PySem.W.Frag} {CN CO CI : Addr} (cl : Srt → Addr) (dd : Addr) (c : ClsS K cl CN CO CI) : Sorts K CN CO CI where
  α := Srt
  As := allS
  cl := cl
  at_ := AtS K cl dd
  out A := decide (A = .outlet)
  inl A := decide (A = .inlet)
  ins A a ts H h := by
    obtain ⟨s, rfl, _, _, h⟩ := h
    obtain ⟨dx, fs, h1, h2, _⟩ := h.no
    exact ⟨dx, fs, h1, h2⟩
  keep A a ts H H1 k h := by
    obtain ⟨s, h1, h2, h3, h⟩ := h
    exact ⟨s, h1, h2, h3, h.keep k⟩
  few A a ts H h := by
    obtain ⟨s, h1, h2, rfl, h⟩ := h
    exact tks_len h2
  dict A a ts H d kvs o e h := by
    obtain ⟨s, h1, h2, h3, h⟩ := h
    exact ⟨s, h1, h2, h3, h.lk e⟩
  cls A _ := (c.nc A).cl
  isN A _ := c.isN A
  isO A _ := c.isO A
  isI A _ := c.isI A
def infS (s : Spec) : NInf := ⟨tks s, isOut s, isInl s⟩
theorem NodeS.inn {K : PySem.W.Frag} {CN CO CI : Addr} {cl : Srt → Addr} {dd a : Addr} {c : ClsS K cl CN CO CI} {s : Spec} {H : Hp} (h : NodeS K cl dd s a H) (ok : SpecOk s) : NodeIn (sorts cl dd c) a (infS s) H := by
  refine ⟨srt s, mem_allS _, ⟨s, rfl, ok, rfl, h⟩, ?_, ?_⟩
  · show decide (srt s = .outlet) = isOut s
    cases s <;> rfl
  · show decide (srt s = .inlet) = isInl s
    cases s <;> rfl
section
variable {P : Program} {w : World} {K : PySem.W.Frag} {mg : Str → Option Value} {base : Heap} {f f1 f2 f3 f4 f5 f6 f7 f8 f9 C CN CO CI CW dd : Addr} {cl : Srt → Addr} {fd fd1 fd2 fd3 fd4 fd5 fd6 fd7 fd8 fd9 : FuncData}
abbrev nGainTakes : List Str := ["self"]
theorem scGainTakes : FnScope nGainTakes ["self"] (defScope sGainTakes) := ⟨rfl, rfl, rfl, by decide +kernel, rfl, by decide +kernel, by decide +kernel⟩
theorem ok_gainTakes (F : FnM K "takes" "Gain.takes" sGainTakes f fd)  : FnOk P w K mg base CX0 1 f fd ["self"] (spTkS K cl dd .gain) := by
  refine F.ok scGainTakes (fun vs H Q E h => ?_) (fun cdv A ou s H vs Q E hr h => ?_)
  · obtain ⟨a, ts, rfl, _⟩ := h
    rfl
  · obtain ⟨a, ts0, rfl, ⟨s, e, ok, rfl, dx, fs, tm, x, ha, nf, htm, au⟩, kk⟩ := h
    have nd := scGainTakes.nd
    cases s with
    | gain b l g =>
      refine ⟨_, PSs.nox (pss_one (ps_ret (pe_tup (pa_cons pe_int pa_nil)))), ?_⟩
      exact ⟨(by show 1 ≤ sizeLine; decide), fun t ht => kk t _ (Same.new (Same.refl _) ht) (.inl (.inl upd_same))⟩
    | _ => cases e
abbrev nGainEq : List Str := ["self", "other"]
theorem scGainEq : FnScope nGainEq ["self", "other"] (defScope sGainEq) := ⟨rfl, rfl, rfl, by decide +kernel, rfl, by decide +kernel, by decide +kernel⟩
theorem ok_gainEq (F : FnM K "__eq__" "Gain.__eq__" sGainEq f fd) (c : ClsS K cl CN CO CI) (gC : mg "Gain" = some (.ref (cl .gain))) (gIs : mg "isinstance" = none) : FnOk P w K mg base CX0 3 f fd ["self", "other"] (spEq (RS K cl dd .gain)) := by
  refine F.ok scGainEq (fun vs H Q E h => ?_) (fun cdv A ou s H vs Q E hr h => ?_)
  · obtain ⟨a, b, rfl, _⟩ := h
    rfl
  · obtain ⟨a, b, rfl, ⟨s, e, ⟨dx, fs, tm, x, ha, nf, htm, au⟩, dy, gs, tm', y, hb, nf', htm', au'⟩, kk⟩ := h
    have hr2 : Room 2 _ := hr
    have T := c.nc .gain
    have i := c.isS .gain
    rw [e] at ha hb
    refine ⟨_, PSs.nox (pss_one (ps_ret (pe_and (pe_callB call_isi (by rfl) gIs boot_isinstance (pa_cons (pv 1) (pa_cons (pe_glob (v := .ref (cl .gain)) rfl gC rfl) pa_nil))) (pe_one (pe_cmpR (op_eqG rc_made hr2) (pe_fld (pv 0) rfl) (pe_fld (pv 1) rfl) (nomark _)))))), ?_⟩
    refine ⟨_, rfl, _, _, _, _, true, rfl, ClsV.own _, i.ty T.cl hb, i.kit, _, rfl, iteT ?_⟩
    exact ⟨_, rfl, a, _, dx, _, _, rfl, ha, T.cl, T.nM, nf.made, _, rfl, b, _, dy, _, _, rfl, hb, T.cl, T.nM, nf'.made, ⟨tm, tm', _, _, rfl, rfl, htm, htm', made_prs au au'⟩, kk⟩
abbrev nMixTakes : List Str := ["self"]
theorem scMixTakes : FnScope nMixTakes ["self"] (defScope sMixTakes) := ⟨rfl, rfl, rfl, by decide +kernel, rfl, by decide +kernel, by decide +kernel⟩
theorem ok_mixTakes (F : FnM K "takes" "Mix.takes" sMixTakes f fd) (T : NodeC K (cl .mix)) (nM : NoAttr K (cl .mix) "many") : FnOk P w K mg base CX0 1 f fd ["self"] (spTkS K cl dd .mix) := by
  refine F.ok scMixTakes (fun vs H Q E h => ?_) (fun cdv A ou s H vs Q E hr h => ?_)
  · obtain ⟨a, ts, rfl, _⟩ := h
    rfl
  · obtain ⟨a, ts0, rfl, ⟨s, e, ok, rfl, dx, fs, tm, x, ha, nf, htm, au⟩, kk⟩ := h
    have nd := scMixTakes.nd
    cases s with
    | mix n =>
      refine ⟨_, PSs.nox (pss_one (ps_ret (pe_op op_times (pe_tup (pa_cons pe_int pa_nil)) (pe_fld (pv 0) rfl)))), ?_⟩
      obtain ⟨n1, n8⟩ := ok
      refine ⟨(by show 1 ≤ sizeLine; decide), fun t2 ht2 => ?_⟩
      have s2 := Same.new (o := .tup [V.int 1]) (Same.refl H) ht2
      refine ⟨_, rfl, a, _, dx, _, _, rfl, s2 _ _ ha, T.cl, nM, nf.fld _ _ rfl, t2, n, [V.int 1], rfl, rfl, .inl (.inl upd_same), (by simp), (by omega), (by show 1 ≤ 1000; decide), fun e => ?_, fun ne t5 ht5 => ?_⟩
      · refine kk t2 _ s2 ?_
        rw [e]
        exact .inl (.inl upd_same)
      · refine kk t5 _ (Same.new s2 ht5) ?_
        rw [ones]
        exact .inl (.inl upd_same)
    | _ => cases e
abbrev nMixEq : List Str := ["self", "other"]
theorem scMixEq : FnScope nMixEq ["self", "other"] (defScope sMixEq) := ⟨rfl, rfl, rfl, by decide +kernel, rfl, by decide +kernel, by decide +kernel⟩
theorem ok_mixEq (F : FnM K "__eq__" "Mix.__eq__" sMixEq f fd) (c : ClsS K cl CN CO CI) (gC : mg "Mix" = some (.ref (cl .mix))) (gIs : mg "isinstance" = none) : FnOk P w K mg base CX0 3 f fd ["self", "other"] (spEq (RS K cl dd .mix)) := by
  refine F.ok scMixEq (fun vs H Q E h => ?_) (fun cdv A ou s H vs Q E hr h => ?_)
  · obtain ⟨a, b, rfl, _⟩ := h
    rfl
  · obtain ⟨a, b, rfl, ⟨s, e, ⟨dx, fs, tm, x, ha, nf, htm, au⟩, dy, gs, tm', y, hb, nf', htm', au'⟩, kk⟩ := h
    have hr2 : Room 2 _ := hr
    have T := c.nc .mix
    have i := c.isS .mix
    rw [e] at ha hb
    refine ⟨_, PSs.nox (pss_one (ps_ret (pe_and (pe_callB call_isi (by rfl) gIs boot_isinstance (pa_cons (pv 1) (pa_cons (pe_glob (v := .ref (cl .mix)) rfl gC rfl) pa_nil))) (pe_one (pe_cmpR (op_eqG rc_made hr2) (pe_fld (pv 0) rfl) (pe_fld (pv 1) rfl) (nomark _)))))), ?_⟩
    refine ⟨_, rfl, _, _, _, _, true, rfl, ClsV.own _, i.ty T.cl hb, i.kit, _, rfl, iteT ?_⟩
    exact ⟨_, rfl, a, _, dx, _, _, rfl, ha, T.cl, T.nM, nf.made, _, rfl, b, _, dy, _, _, rfl, hb, T.cl, T.nM, nf'.made, ⟨tm, tm', _, _, rfl, rfl, htm, htm', made_prs au au'⟩, kk⟩
abbrev nTimesTakes : List Str := ["self"]
theorem scTimesTakes : FnScope nTimesTakes ["self"] (defScope sTimesTakes) := ⟨rfl, rfl, rfl, by decide +kernel, rfl, by decide +kernel, by decide +kernel⟩
theorem ok_timesTakes (F : FnM K "takes" "Times.takes" sTimesTakes f fd)  : FnOk P w K mg base CX0 1 f fd ["self"] (spTkS K cl dd .times) := by
  refine F.ok scTimesTakes (fun vs H Q E h => ?_) (fun cdv A ou s H vs Q E hr h => ?_)
  · obtain ⟨a, ts, rfl, _⟩ := h
    rfl
  · obtain ⟨a, ts0, rfl, ⟨s, e, ok, rfl, dx, fs, tm, x, ha, nf, htm, au⟩, kk⟩ := h
    have nd := scTimesTakes.nd
    cases s with
    | times =>
      refine ⟨_, PSs.nox (pss_one (ps_ret (pe_tup (pa_cons pe_int (pa_cons pe_int pa_nil))))), ?_⟩
      exact ⟨(by show 2 ≤ sizeLine; decide), fun t ht => kk t _ (Same.new (Same.refl _) ht) (.inl (.inl upd_same))⟩
    | _ => cases e
abbrev nTimesEq : List Str := ["self", "other"]
theorem scTimesEq : FnScope nTimesEq ["self", "other"] (defScope sTimesEq) := ⟨rfl, rfl, rfl, by decide +kernel, rfl, by decide +kernel, by decide +kernel⟩
theorem ok_timesEq (F : FnM K "__eq__" "Times.__eq__" sTimesEq f fd) (c : ClsS K cl CN CO CI) (gC : mg "Times" = some (.ref (cl .times))) (gIs : mg "isinstance" = none) : FnOk P w K mg base CX0 3 f fd ["self", "other"] (spEq (RS K cl dd .times)) := by
  refine F.ok scTimesEq (fun vs H Q E h => ?_) (fun cdv A ou s H vs Q E hr h => ?_)
  · obtain ⟨a, b, rfl, _⟩ := h
    rfl
  · obtain ⟨a, b, rfl, ⟨s, e, ⟨dx, fs, tm, x, ha, nf, htm, au⟩, dy, gs, tm', y, hb, nf', htm', au'⟩, kk⟩ := h
    have hr2 : Room 2 _ := hr
    have T := c.nc .times
    have i := c.isS .times
    rw [e] at ha hb
    refine ⟨_, PSs.nox (pss_one (ps_ret (pe_and (pe_callB call_isi (by rfl) gIs boot_isinstance (pa_cons (pv 1) (pa_cons (pe_glob (v := .ref (cl .times)) rfl gC rfl) pa_nil))) (pe_one (pe_cmpR (op_eqG rc_made hr2) (pe_fld (pv 0) rfl) (pe_fld (pv 1) rfl) (nomark _)))))), ?_⟩
    refine ⟨_, rfl, _, _, _, _, true, rfl, ClsV.own _, i.ty T.cl hb, i.kit, _, rfl, iteT ?_⟩
    exact ⟨_, rfl, a, _, dx, _, _, rfl, ha, T.cl, T.nM, nf.made, _, rfl, b, _, dy, _, _, rfl, hb, T.cl, T.nM, nf'.made, ⟨tm, tm', _, _, rfl, rfl, htm, htm', made_prs au au'⟩, kk⟩
abbrev nChooseTakes : List Str := ["self"]
theorem scChooseTakes : FnScope nChooseTakes ["self"] (defScope sChooseTakes) := ⟨rfl, rfl, rfl, by decide +kernel, rfl, by decide +kernel, by decide +kernel⟩
theorem ok_chooseTakes (F : FnM K "takes" "Choose.takes" sChooseTakes f fd)  : FnOk P w K mg base CX0 1 f fd ["self"] (spTkS K cl dd .choose) := by
  refine F.ok scChooseTakes (fun vs H Q E h => ?_) (fun cdv A ou s H vs Q E hr h => ?_)
  · obtain ⟨a, ts, rfl, _⟩ := h
    rfl
  · obtain ⟨a, ts0, rfl, ⟨s, e, ok, rfl, dx, fs, tm, x, ha, nf, htm, au⟩, kk⟩ := h
    have nd := scChooseTakes.nd
    cases s with
    | choose =>
      refine ⟨_, PSs.nox (pss_one (ps_ret (pe_tup (pa_cons pe_int (pa_cons pe_int (pa_cons pe_int pa_nil)))))), ?_⟩
      exact ⟨(by show 3 ≤ sizeLine; decide), fun t ht => kk t _ (Same.new (Same.refl _) ht) (.inl (.inl upd_same))⟩
    | _ => cases e
abbrev nChooseEq : List Str := ["self", "other"]
theorem scChooseEq : FnScope nChooseEq ["self", "other"] (defScope sChooseEq) := ⟨rfl, rfl, rfl, by decide +kernel, rfl, by decide +kernel, by decide +kernel⟩
theorem ok_chooseEq (F : FnM K "__eq__" "Choose.__eq__" sChooseEq f fd) (c : ClsS K cl CN CO CI) (gC : mg "Choose" = some (.ref (cl .choose))) (gIs : mg "isinstance" = none) : FnOk P w K mg base CX0 3 f fd ["self", "other"] (spEq (RS K cl dd .choose)) := by
  refine F.ok scChooseEq (fun vs H Q E h => ?_) (fun cdv A ou s H vs Q E hr h => ?_)
  · obtain ⟨a, b, rfl, _⟩ := h
    rfl
  · obtain ⟨a, b, rfl, ⟨s, e, ⟨dx, fs, tm, x, ha, nf, htm, au⟩, dy, gs, tm', y, hb, nf', htm', au'⟩, kk⟩ := h
    have hr2 : Room 2 _ := hr
    have T := c.nc .choose
    have i := c.isS .choose
    rw [e] at ha hb
    refine ⟨_, PSs.nox (pss_one (ps_ret (pe_and (pe_callB call_isi (by rfl) gIs boot_isinstance (pa_cons (pv 1) (pa_cons (pe_glob (v := .ref (cl .choose)) rfl gC rfl) pa_nil))) (pe_one (pe_cmpR (op_eqG rc_made hr2) (pe_fld (pv 0) rfl) (pe_fld (pv 1) rfl) (nomark _)))))), ?_⟩
    refine ⟨_, rfl, _, _, _, _, true, rfl, ClsV.own _, i.ty T.cl hb, i.kit, _, rfl, iteT ?_⟩
    exact ⟨_, rfl, a, _, dx, _, _, rfl, ha, T.cl, T.nM, nf.made, _, rfl, b, _, dy, _, _, rfl, hb, T.cl, T.nM, nf'.made, ⟨tm, tm', _, _, rfl, rfl, htm, htm', made_prs au au'⟩, kk⟩
abbrev nUpTakes : List Str := ["self"]
theorem scUpTakes : FnScope nUpTakes ["self"] (defScope sUpTakes) := ⟨rfl, rfl, rfl, by decide +kernel, rfl, by decide +kernel, by decide +kernel⟩
theorem ok_upTakes (F : FnM K "takes" "Up.takes" sUpTakes f fd)  : FnOk P w K mg base CX0 1 f fd ["self"] (spTkS K cl dd .up) := by
  refine F.ok scUpTakes (fun vs H Q E h => ?_) (fun cdv A ou s H vs Q E hr h => ?_)
  · obtain ⟨a, ts, rfl, _⟩ := h
    rfl
  · obtain ⟨a, ts0, rfl, ⟨s, e, ok, rfl, dx, fs, tm, x, ha, nf, htm, au⟩, kk⟩ := h
    have nd := scUpTakes.nd
    cases s with
    | up n =>
      refine ⟨_, PSs.nox (pss_one (ps_ret (pe_tup (pa_cons pe_int pa_nil)))), ?_⟩
      exact ⟨(by show 1 ≤ sizeLine; decide), fun t ht => kk t _ (Same.new (Same.refl _) ht) (.inl (.inl upd_same))⟩
    | _ => cases e
abbrev nUpEq : List Str := ["self", "other"]
theorem scUpEq : FnScope nUpEq ["self", "other"] (defScope sUpEq) := ⟨rfl, rfl, rfl, by decide +kernel, rfl, by decide +kernel, by decide +kernel⟩
theorem ok_upEq (F : FnM K "__eq__" "Up.__eq__" sUpEq f fd) (c : ClsS K cl CN CO CI) (gC : mg "Up" = some (.ref (cl .up))) (gIs : mg "isinstance" = none) : FnOk P w K mg base CX0 3 f fd ["self", "other"] (spEq (RS K cl dd .up)) := by
  refine F.ok scUpEq (fun vs H Q E h => ?_) (fun cdv A ou s H vs Q E hr h => ?_)
  · obtain ⟨a, b, rfl, _⟩ := h
    rfl
  · obtain ⟨a, b, rfl, ⟨s, e, ⟨dx, fs, tm, x, ha, nf, htm, au⟩, dy, gs, tm', y, hb, nf', htm', au'⟩, kk⟩ := h
    have hr2 : Room 2 _ := hr
    have T := c.nc .up
    have i := c.isS .up
    rw [e] at ha hb
    refine ⟨_, PSs.nox (pss_one (ps_ret (pe_and (pe_callB call_isi (by rfl) gIs boot_isinstance (pa_cons (pv 1) (pa_cons (pe_glob (v := .ref (cl .up)) rfl gC rfl) pa_nil))) (pe_one (pe_cmpR (op_eqG rc_made hr2) (pe_fld (pv 0) rfl) (pe_fld (pv 1) rfl) (nomark _)))))), ?_⟩
    refine ⟨_, rfl, _, _, _, _, true, rfl, ClsV.own _, i.ty T.cl hb, i.kit, _, rfl, iteT ?_⟩
    exact ⟨_, rfl, a, _, dx, _, _, rfl, ha, T.cl, T.nM, nf.made, _, rfl, b, _, dy, _, _, rfl, hb, T.cl, T.nM, nf'.made, ⟨tm, tm', _, _, rfl, rfl, htm, htm', made_prs au au'⟩, kk⟩
abbrev nDownTakes : List Str := ["self"]
theorem scDownTakes : FnScope nDownTakes ["self"] (defScope sDownTakes) := ⟨rfl, rfl, rfl, by decide +kernel, rfl, by decide +kernel, by decide +kernel⟩
theorem ok_downTakes (F : FnM K "takes" "Down.takes" sDownTakes f fd) (T : NodeC K (cl .down)) (nM : NoAttr K (cl .down) "many") : FnOk P w K mg base CX0 1 f fd ["self"] (spTkS K cl dd .down) := by
  refine F.ok scDownTakes (fun vs H Q E h => ?_) (fun cdv A ou s H vs Q E hr h => ?_)
  · obtain ⟨a, ts, rfl, _⟩ := h
    rfl
  · obtain ⟨a, ts0, rfl, ⟨s, e, ok, rfl, dx, fs, tm, x, ha, nf, htm, au⟩, kk⟩ := h
    have nd := scDownTakes.nd
    cases s with
    | down n =>
      refine ⟨_, PSs.nox (pss_one (ps_ret (pe_tup (pa_cons (pe_fld (pv 0) rfl) pa_nil)))), ?_⟩
      exact ⟨_, rfl, a, _, dx, _, _, rfl, ha, T.cl, nM, nf.fld _ _ rfl, (by show 1 ≤ sizeLine; decide), fun t ht => kk t _ (Same.new (Same.refl _) ht) (.inl (.inl upd_same))⟩
    | _ => cases e
abbrev nDownEq : List Str := ["self", "other"]
theorem scDownEq : FnScope nDownEq ["self", "other"] (defScope sDownEq) := ⟨rfl, rfl, rfl, by decide +kernel, rfl, by decide +kernel, by decide +kernel⟩
theorem ok_downEq (F : FnM K "__eq__" "Down.__eq__" sDownEq f fd) (c : ClsS K cl CN CO CI) (gC : mg "Down" = some (.ref (cl .down))) (gIs : mg "isinstance" = none) : FnOk P w K mg base CX0 3 f fd ["self", "other"] (spEq (RS K cl dd .down)) := by
  refine F.ok scDownEq (fun vs H Q E h => ?_) (fun cdv A ou s H vs Q E hr h => ?_)
  · obtain ⟨a, b, rfl, _⟩ := h
    rfl
  · obtain ⟨a, b, rfl, ⟨s, e, ⟨dx, fs, tm, x, ha, nf, htm, au⟩, dy, gs, tm', y, hb, nf', htm', au'⟩, kk⟩ := h
    have hr2 : Room 2 _ := hr
    have T := c.nc .down
    have i := c.isS .down
    rw [e] at ha hb
    refine ⟨_, PSs.nox (pss_one (ps_ret (pe_and (pe_callB call_isi (by rfl) gIs boot_isinstance (pa_cons (pv 1) (pa_cons (pe_glob (v := .ref (cl .down)) rfl gC rfl) pa_nil))) (pe_one (pe_cmpR (op_eqG rc_made hr2) (pe_fld (pv 0) rfl) (pe_fld (pv 1) rfl) (nomark _)))))), ?_⟩
    refine ⟨_, rfl, _, _, _, _, true, rfl, ClsV.own _, i.ty T.cl hb, i.kit, _, rfl, iteT ?_⟩
    exact ⟨_, rfl, a, _, dx, _, _, rfl, ha, T.cl, T.nM, nf.made, _, rfl, b, _, dy, _, _, rfl, hb, T.cl, T.nM, nf'.made, ⟨tm, tm', _, _, rfl, rfl, htm, htm', made_prs au au'⟩, kk⟩
abbrev nResampleTakes : List Str := ["self"]
theorem scResampleTakes : FnScope nResampleTakes ["self"] (defScope sResampleTakes) := ⟨rfl, rfl, rfl, by decide +kernel, rfl, by decide +kernel, by decide +kernel⟩
theorem ok_resampleTakes (F : FnM K "takes" "Resample.takes" sResampleTakes f fd) (T : NodeC K (cl .resample)) (nM : NoAttr K (cl .resample) "down") : FnOk P w K mg base CX0 1 f fd ["self"] (spTkS K cl dd .resample) := by
  refine F.ok scResampleTakes (fun vs H Q E h => ?_) (fun cdv A ou s H vs Q E hr h => ?_)
  · obtain ⟨a, ts, rfl, _⟩ := h
    rfl
  · obtain ⟨a, ts0, rfl, ⟨s, e, ok, rfl, dx, fs, tm, x, ha, nf, htm, au⟩, kk⟩ := h
    have nd := scResampleTakes.nd
    cases s with
    | resample u d =>
      refine ⟨_, PSs.nox (pss_one (ps_ret (pe_tup (pa_cons (pe_fld (pv 0) rfl) pa_nil)))), ?_⟩
      exact ⟨_, rfl, a, _, dx, _, _, rfl, ha, T.cl, nM, nf.fld _ _ rfl, (by show 1 ≤ sizeLine; decide), fun t ht => kk t _ (Same.new (Same.refl _) ht) (.inl (.inl upd_same))⟩
    | _ => cases e
abbrev nResampleEq : List Str := ["self", "other"]
theorem scResampleEq : FnScope nResampleEq ["self", "other"] (defScope sResampleEq) := ⟨rfl, rfl, rfl, by decide +kernel, rfl, by decide +kernel, by decide +kernel⟩
theorem ok_resampleEq (F : FnM K "__eq__" "Resample.__eq__" sResampleEq f fd) (c : ClsS K cl CN CO CI) (gC : mg "Resample" = some (.ref (cl .resample))) (gIs : mg "isinstance" = none) : FnOk P w K mg base CX0 3 f fd ["self", "other"] (spEq (RS K cl dd .resample)) := by
  refine F.ok scResampleEq (fun vs H Q E h => ?_) (fun cdv A ou s H vs Q E hr h => ?_)
  · obtain ⟨a, b, rfl, _⟩ := h
    rfl
  · obtain ⟨a, b, rfl, ⟨s, e, ⟨dx, fs, tm, x, ha, nf, htm, au⟩, dy, gs, tm', y, hb, nf', htm', au'⟩, kk⟩ := h
    have hr2 : Room 2 _ := hr
    have T := c.nc .resample
    have i := c.isS .resample
    rw [e] at ha hb
    refine ⟨_, PSs.nox (pss_one (ps_ret (pe_and (pe_callB call_isi (by rfl) gIs boot_isinstance (pa_cons (pv 1) (pa_cons (pe_glob (v := .ref (cl .resample)) rfl gC rfl) pa_nil))) (pe_one (pe_cmpR (op_eqG rc_made hr2) (pe_fld (pv 0) rfl) (pe_fld (pv 1) rfl) (nomark _)))))), ?_⟩
    refine ⟨_, rfl, _, _, _, _, true, rfl, ClsV.own _, i.ty T.cl hb, i.kit, _, rfl, iteT ?_⟩
    exact ⟨_, rfl, a, _, dx, _, _, rfl, ha, T.cl, T.nM, nf.made, _, rfl, b, _, dy, _, _, rfl, hb, T.cl, T.nM, nf'.made, ⟨tm, tm', _, _, rfl, rfl, htm, htm', made_prs au au'⟩, kk⟩
abbrev nOwnTakes : List Str := ["self"]
theorem scOwnTakes : FnScope nOwnTakes ["self"] (defScope sOwnTakes) := ⟨rfl, rfl, rfl, by decide +kernel, rfl, by decide +kernel, by decide +kernel⟩
theorem ok_ownTakes (F : FnM K "takes" "Own.takes" sOwnTakes f fd) (T : NodeC K (cl .own)) (nM : NoAttr K (cl .own) "taken") : FnOk P w K mg base CX0 1 f fd ["self"] (spTkS K cl dd .own) := by
  refine F.ok scOwnTakes (fun vs H Q E h => ?_) (fun cdv A ou s H vs Q E hr h => ?_)
  · obtain ⟨a, ts, rfl, _⟩ := h
    rfl
  · obtain ⟨a, ts0, rfl, ⟨s, e, ok, rfl, dx, fs, tm, x, ha, nf, htm, au⟩, kk⟩ := h
    have nd := scOwnTakes.nd
    cases s with
    | own ts g =>
      refine ⟨_, PSs.nox (pss_one (ps_ret (pe_fld (pv 0) rfl))), ?_⟩
      exact ⟨_, rfl, a, _, dx, _, _, rfl, ha, T.cl, nM, nf.fld _ _ rfl, kk x H (Same.refl _) au⟩
    | _ => cases e
abbrev nOwnEq : List Str := ["self", "other"]
theorem scOwnEq : FnScope nOwnEq ["self", "other"] (defScope sOwnEq) := ⟨rfl, rfl, rfl, by decide +kernel, rfl, by decide +kernel, by decide +kernel⟩
theorem ok_ownEq (F : FnM K "__eq__" "Own.__eq__" sOwnEq f fd) (c : ClsS K cl CN CO CI) (gC : mg "Own" = some (.ref (cl .own))) (gIs : mg "isinstance" = none) : FnOk P w K mg base CX0 3 f fd ["self", "other"] (spEq (RS K cl dd .own)) := by
  refine F.ok scOwnEq (fun vs H Q E h => ?_) (fun cdv A ou s H vs Q E hr h => ?_)
  · obtain ⟨a, b, rfl, _⟩ := h
    rfl
  · obtain ⟨a, b, rfl, ⟨s, e, ⟨dx, fs, tm, x, ha, nf, htm, au⟩, dy, gs, tm', y, hb, nf', htm', au'⟩, kk⟩ := h
    have hr2 : Room 2 _ := hr
    have T := c.nc .own
    have i := c.isS .own
    rw [e] at ha hb
    refine ⟨_, PSs.nox (pss_one (ps_ret (pe_and (pe_callB call_isi (by rfl) gIs boot_isinstance (pa_cons (pv 1) (pa_cons (pe_glob (v := .ref (cl .own)) rfl gC rfl) pa_nil))) (pe_one (pe_cmpR (op_eqG rc_made hr2) (pe_fld (pv 0) rfl) (pe_fld (pv 1) rfl) (nomark _)))))), ?_⟩
    refine ⟨_, rfl, _, _, _, _, true, rfl, ClsV.own _, i.ty T.cl hb, i.kit, _, rfl, iteT ?_⟩
    exact ⟨_, rfl, a, _, dx, _, _, rfl, ha, T.cl, T.nM, nf.made, _, rfl, b, _, dy, _, _, rfl, hb, T.cl, T.nM, nf'.made, ⟨tm, tm', _, _, rfl, rfl, htm, htm', made_prs au au'⟩, kk⟩
abbrev nOutletTakes : List Str := ["self"]
theorem scOutletTakes : FnScope nOutletTakes ["self"] (defScope sOutletTakes) := ⟨rfl, rfl, rfl, by decide +kernel, rfl, by decide +kernel, by decide +kernel⟩
theorem ok_outletTakes (F : FnM K "takes" "Outlet.takes" sOutletTakes f fd)  : FnOk P w K mg base CX0 1 f fd ["self"] (spTkS K cl dd .outlet) := by
  refine F.ok scOutletTakes (fun vs H Q E h => ?_) (fun cdv A ou s H vs Q E hr h => ?_)
  · obtain ⟨a, ts, rfl, _⟩ := h
    rfl
  · obtain ⟨a, ts0, rfl, ⟨s, e, ok, rfl, dx, fs, tm, x, ha, nf, htm, au⟩, kk⟩ := h
    have nd := scOutletTakes.nd
    cases s with
    | outlet =>
      refine ⟨_, PSs.nox (pss_one (ps_ret (pe_tup (pa_cons pe_int pa_nil)))), ?_⟩
      exact ⟨(by show 1 ≤ sizeLine; decide), fun t ht => kk t _ (Same.new (Same.refl _) ht) (.inl (.inl upd_same))⟩
    | _ => cases e
abbrev nOutletEq : List Str := ["self", "other"]
theorem scOutletEq : FnScope nOutletEq ["self", "other"] (defScope sOutletEq) := ⟨rfl, rfl, rfl, by decide +kernel, rfl, by decide +kernel, by decide +kernel⟩
theorem ok_outletEq (F : FnM K "__eq__" "Outlet.__eq__" sOutletEq f fd) (c : ClsS K cl CN CO CI) (gC : mg "Outlet" = some (.ref (cl .outlet))) (gIs : mg "isinstance" = none) : FnOk P w K mg base CX0 3 f fd ["self", "other"] (spEq (RS K cl dd .outlet)) := by
  refine F.ok scOutletEq (fun vs H Q E h => ?_) (fun cdv A ou s H vs Q E hr h => ?_)
  · obtain ⟨a, b, rfl, _⟩ := h
    rfl
  · obtain ⟨a, b, rfl, ⟨s, e, ⟨dx, fs, tm, x, ha, nf, htm, au⟩, dy, gs, tm', y, hb, nf', htm', au'⟩, kk⟩ := h
    have hr2 : Room 2 _ := hr
    have T := c.nc .outlet
    have i := c.isS .outlet
    rw [e] at ha hb
    refine ⟨_, PSs.nox (pss_one (ps_ret (pe_and (pe_callB call_isi (by rfl) gIs boot_isinstance (pa_cons (pv 1) (pa_cons (pe_glob (v := .ref (cl .outlet)) rfl gC rfl) pa_nil))) (pe_one (pe_cmpR (op_eqG rc_made hr2) (pe_fld (pv 0) rfl) (pe_fld (pv 1) rfl) (nomark _)))))), ?_⟩
    refine ⟨_, rfl, _, _, _, _, true, rfl, ClsV.own _, i.ty T.cl hb, i.kit, _, rfl, iteT ?_⟩
    exact ⟨_, rfl, a, _, dx, _, _, rfl, ha, T.cl, T.nM, nf.made, _, rfl, b, _, dy, _, _, rfl, hb, T.cl, T.nM, nf'.made, ⟨tm, tm', _, _, rfl, rfl, htm, htm', made_prs au au'⟩, kk⟩
abbrev nInletTakes : List Str := ["self"]
theorem scInletTakes : FnScope nInletTakes ["self"] (defScope sInletTakes) := ⟨rfl, rfl, rfl, by decide +kernel, rfl, by decide +kernel, by decide +kernel⟩
theorem ok_inletTakes (F : FnM K "takes" "Inlet.takes" sInletTakes f fd)  : FnOk P w K mg base CX0 1 f fd ["self"] (spTkS K cl dd .inlet) := by
  refine F.ok scInletTakes (fun vs H Q E h => ?_) (fun cdv A ou s H vs Q E hr h => ?_)
  · obtain ⟨a, ts, rfl, _⟩ := h
    rfl
  · obtain ⟨a, ts0, rfl, ⟨s, e, ok, rfl, dx, fs, tm, x, ha, nf, htm, au⟩, kk⟩ := h
    have nd := scInletTakes.nd
    cases s with
    | inlet =>
      refine ⟨_, PSs.nox (pss_one (ps_ret (pe_tup pa_nil))), ?_⟩
      exact ⟨(by show 0 ≤ sizeLine; decide), fun t ht => kk t _ (Same.new (Same.refl _) ht) (.inl (.inl upd_same))⟩
    | _ => cases e
abbrev nInletEq : List Str := ["self", "other"]
theorem scInletEq : FnScope nInletEq ["self", "other"] (defScope sInletEq) := ⟨rfl, rfl, rfl, by decide +kernel, rfl, by decide +kernel, by decide +kernel⟩
theorem ok_inletEq (F : FnM K "__eq__" "Inlet.__eq__" sInletEq f fd) (c : ClsS K cl CN CO CI) (gC : mg "Inlet" = some (.ref (cl .inlet))) (gIs : mg "isinstance" = none) : FnOk P w K mg base CX0 3 f fd ["self", "other"] (spEq (RS K cl dd .inlet)) := by
  refine F.ok scInletEq (fun vs H Q E h => ?_) (fun cdv A ou s H vs Q E hr h => ?_)
  · obtain ⟨a, b, rfl, _⟩ := h
    rfl
  · obtain ⟨a, b, rfl, ⟨s, e, ⟨dx, fs, tm, x, ha, nf, htm, au⟩, dy, gs, tm', y, hb, nf', htm', au'⟩, kk⟩ := h
    have hr2 : Room 2 _ := hr
    have T := c.nc .inlet
    have i := c.isS .inlet
    rw [e] at ha hb
    refine ⟨_, PSs.nox (pss_one (ps_ret (pe_and (pe_callB call_isi (by rfl) gIs boot_isinstance (pa_cons (pv 1) (pa_cons (pe_glob (v := .ref (cl .inlet)) rfl gC rfl) pa_nil))) (pe_one (pe_cmpR (op_eqG rc_made hr2) (pe_fld (pv 0) rfl) (pe_fld (pv 1) rfl) (nomark _)))))), ?_⟩
    refine ⟨_, rfl, _, _, _, _, true, rfl, ClsV.own _, i.ty T.cl hb, i.kit, _, rfl, iteT ?_⟩
    exact ⟨_, rfl, a, _, dx, _, _, rfl, ha, T.cl, T.nM, nf.made, _, rfl, b, _, dy, _, _, rfl, hb, T.cl, T.nM, nf'.made, ⟨tm, tm', _, _, rfl, rfl, htm, htm', made_prs au au'⟩, kk⟩
end
end Sw
namespace Sw
open PySem PySem.Spec PyProof.Rows L2
/-! ### two specs are shown alike only if they are one -/
abbrev tlx (x : Str) : List Nat := TL.tl x
def jn (zs : List (List Nat)) : List Nat := TL.joinL [44, 32] zs
theorem tl_tuple (ts : List Str) : tlx (tupleText ts) = 40 :: (jn (ts.map TL.tl) ++ (if ts.length = 1 then [44, 41] else [41])) := by
  unfold tupleText tlx
  rw [TL.tl_append, TL.tl_append, TL.tl_join]
  have e : TL.tl (", " : Str) = [44, 32] := by decide +kernel
  have e1 : TL.tl ("(" : Str) = [40] := by decide +kernel
  rw [e, e1]
  by_cases h : ts.length = 1
  · rw [if_pos h, if_pos (by rw [h]; rfl)]
    have : TL.tl (",)" : Str) = [44, 41] := by decide +kernel
    show [40] ++ _ ++ TL.tl (",)" : Str) = _
    rw [this]
    simp [jn]
  · rw [if_neg h, if_neg (by simpa using h)]
    have : TL.tl (")" : Str) = [41] := by decide +kernel
    show [40] ++ _ ++ TL.tl (")" : Str) = _
    rw [this]
    simp [jn]
theorem tl_nat {n : Nat} (h : n < 10) : TL.tl (PyData.shown (natD n)) = [48 + n] := by
  unfold natD
  rw [PyData.shown]
  exact (TL.tl_num n).trans (TL.numL_lt h)
def intL (b : Int) : List Nat := if b < 0 then [45, 48 + (-b).toNat] else if b < 10 then [48 + b.toNat] else [48 + b.toNat / 10, 48 + b.toNat % 10]
theorem tl_int {b : Int} (h1 : -9 ≤ b) (h2 : b ≤ 99) : TL.tl (PyData.shown (.int b)) = intL b := by
  by_cases z : 0 ≤ b
  · obtain ⟨n, rfl⟩ := Int.eq_ofNat_of_zero_le z
    unfold intL
    rw [if_neg (by omega)]
    by_cases y : n < 10
    · rw [if_pos (by omega)]
      exact (tl_nat (n := n) y).trans rfl
    · rw [if_neg (by omega), PyData.shown]
      refine (TL.tl_num n).trans ?_
      rw [TL.numL_step (by omega), TL.numL_lt (by omega)]
      rfl
  · have : b = -1 ∨ b = -2 ∨ b = -3 ∨ b = -4 ∨ b = -5 ∨ b = -6 ∨ b = -7 ∨ b = -8 ∨ b = -9 := by omega
    rw [PyData.shown]
    rcases this with rfl | rfl | rfl | rfl | rfl | rfl | rfl | rfl | rfl <;> decide +kernel
def tagL : Spec → List Nat
  | .gain _ _ _ => [39, 103, 97, 105, 110, 39]
  | .mix _ => [39, 109, 105, 120, 39]
  | .times => [39, 116, 105, 109, 101, 115, 39]
  | .choose => [39, 99, 104, 111, 111, 115, 101, 39]
  | .up _ => [39, 117, 112, 39]
  | .down _ => [39, 100, 111, 119, 110, 39]
  | .resample _ _ => [39, 114, 101, 115, 97, 109, 112, 108, 101, 39]
  | .own _ _ => [39, 111, 119, 110, 39]
  | .outlet => [39, 111, 117, 116, 108, 101, 116, 39]
  | .inlet => [39, 105, 110, 108, 101, 116, 39]
theorem tl_tag (s : Spec) : TL.tl (PyData.shown (.str (tagOf s))) = tagL s := by
  rw [PyData.shown]
  cases s with
  | gain b l g => show TL.tl (reprText "gain") = [39, 103, 97, 105, 110, 39]; decide +kernel
  | mix n => show TL.tl (reprText "mix") = [39, 109, 105, 120, 39]; decide +kernel
  | up n => show TL.tl (reprText "up") = [39, 117, 112, 39]; decide +kernel
  | down n => show TL.tl (reprText "down") = [39, 100, 111, 119, 110, 39]; decide +kernel
  | resample u d => show TL.tl (reprText "resample") = [39, 114, 101, 115, 97, 109, 112, 108, 101, 39]; decide +kernel
  | own ts g => show TL.tl (reprText "own") = [39, 111, 119, 110, 39]; decide +kernel
  | _ => decide +kernel
def tupL (ts : List Nat) : List Nat := 40 :: (jn (ts.map fun t => [48 + t]) ++ (if ts.length = 1 then [44, 41] else [41]))
def codeS : Spec → List Nat
  | .gain b l g => 40 :: (jn [tagL (.gain b l g), intL b, [48 + l], [48 + g]] ++ [41])
  | .mix n => 40 :: (jn [tagL (.mix n), [48 + n]] ++ [41])
  | .times => 40 :: (jn [tagL .times] ++ [44, 41])
  | .choose => 40 :: (jn [tagL .choose] ++ [44, 41])
  | .up n => 40 :: (jn [tagL (.up n), [48 + n]] ++ [41])
  | .down n => 40 :: (jn [tagL (.down n), [48 + n]] ++ [41])
  | .resample u d => 40 :: (jn [tagL (.resample u d), [48 + u], [48 + d]] ++ [41])
  | .own ts g => 40 :: (jn [tagL (.own ts g), tupL ts, [48 + g]] ++ [41])
  | .outlet => 40 :: (jn [tagL .outlet] ++ [44, 41])
  | .inlet => 40 :: (jn [tagL .inlet] ++ [44, 41])
theorem shownAll_map {α : Type} (f : α → PyData) : ∀ ks : List α, PyData.shownAll (ks.map f) = ks.map fun k => PyData.shown (f k)
  | [] => by rw [List.map_nil, PyData.shownAll]; rfl
  | k :: r => by rw [List.map_cons, PyData.shownAll, shownAll_map f r]; rfl
theorem tl_spec {s : Spec} (ok : SpecOk s) : TL.tl (PyData.shown (specD s)) = codeS s := by
  cases s with
  | gain b l g =>
    obtain ⟨b1, b2, l2, g2⟩ := ok
    unfold specD
    rw [PyData.shown]
    refine (tl_tuple _).trans ?_
    simp only [PyData.shownAll, List.map_cons, List.map_nil, List.length_cons, List.length_nil]
    have e := tl_tag (.gain b l g)
    rw [show tagOf (.gain b l g) = "gain" from rfl] at e
    rw [e, tl_int b1 b2, tl_nat (by omega), tl_nat (by omega)]
    rfl
  | mix n =>
    obtain ⟨n1, n8⟩ := ok
    unfold specD
    rw [PyData.shown]
    refine (tl_tuple _).trans ?_
    simp only [PyData.shownAll, List.map_cons, List.map_nil, List.length_cons, List.length_nil]
    have e := tl_tag (.mix n)
    rw [show tagOf (.mix n) = "mix" from rfl] at e
    rw [e, tl_nat (by omega)]
    rfl
  | up n =>
    obtain ⟨n1, n8⟩ := ok
    unfold specD
    rw [PyData.shown]
    refine (tl_tuple _).trans ?_
    simp only [PyData.shownAll, List.map_cons, List.map_nil, List.length_cons, List.length_nil]
    have e := tl_tag (.up n)
    rw [show tagOf (.up n) = "up" from rfl] at e
    rw [e, tl_nat (by omega)]
    rfl
  | down n =>
    obtain ⟨n1, n8⟩ := ok
    unfold specD
    rw [PyData.shown]
    refine (tl_tuple _).trans ?_
    simp only [PyData.shownAll, List.map_cons, List.map_nil, List.length_cons, List.length_nil]
    have e := tl_tag (.down n)
    rw [show tagOf (.down n) = "down" from rfl] at e
    rw [e, tl_nat (by omega)]
    rfl
  | resample u d =>
    obtain ⟨⟨u1, u8⟩, d1, d8⟩ := ok
    unfold specD
    rw [PyData.shown]
    refine (tl_tuple _).trans ?_
    simp only [PyData.shownAll, List.map_cons, List.map_nil, List.length_cons, List.length_nil]
    have e := tl_tag (.resample u d)
    rw [show tagOf (.resample u d) = "resample" from rfl] at e
    rw [e, tl_nat (by omega), tl_nat (by omega)]
    rfl
  | own ts g =>
    obtain ⟨t1, t4, dig, g1, g8⟩ := ok
    unfold specD
    rw [PyData.shown]
    refine (tl_tuple _).trans ?_
    simp only [PyData.shownAll, List.map_cons, List.map_nil, List.length_cons, List.length_nil]
    have e := tl_tag (.own ts g)
    rw [show tagOf (.own ts g) = "own" from rfl] at e
    have e2 : TL.tl (PyData.shown (.tuple (ts.map natD))) = tupL ts := by
      rw [PyData.shown]
      refine (tl_tuple _).trans ?_
      unfold tupL
      rw [shownAll_map, List.map_map, List.length_map]
      congr 2
      congr 1
      apply List.map_congr_left
      intro t ht
      have := (dig t ht).2
      exact tl_nat (by omega)
    rw [e, e2, tl_nat (by omega)]
    rfl
  | times =>
    unfold specD
    rw [PyData.shown]
    refine (tl_tuple _).trans ?_
    simp only [PyData.shownAll, List.map_cons, List.map_nil, List.length_cons, List.length_nil]
    have e := tl_tag .times
    rw [show tagOf .times = "times" from rfl] at e
    rw [e]
    rfl
  | choose =>
    unfold specD
    rw [PyData.shown]
    refine (tl_tuple _).trans ?_
    simp only [PyData.shownAll, List.map_cons, List.map_nil, List.length_cons, List.length_nil]
    have e := tl_tag .choose
    rw [show tagOf .choose = "choose" from rfl] at e
    rw [e]
    rfl
  | outlet =>
    unfold specD
    rw [PyData.shown]
    refine (tl_tuple _).trans ?_
    simp only [PyData.shownAll, List.map_cons, List.map_nil, List.length_cons, List.length_nil]
    have e := tl_tag .outlet
    rw [show tagOf .outlet = "outlet" from rfl] at e
    rw [e]
    rfl
  | inlet =>
    unfold specD
    rw [PyData.shown]
    refine (tl_tuple _).trans ?_
    simp only [PyData.shownAll, List.map_cons, List.map_nil, List.length_cons, List.length_nil]
    have e := tl_tag .inlet
    rw [show tagOf .inlet = "inlet" from rfl] at e
    rw [e]
    rfl
theorem few_cases {ts : List Nat} (h1 : 1 ≤ ts.length) (h4 : ts.length ≤ 4) : (∃ a, ts = [a]) ∨ (∃ a b, ts = [a, b]) ∨ (∃ a b c, ts = [a, b, c]) ∨ (∃ a b c d, ts = [a, b, c, d]) := by
  match ts, h1, h4 with
  | [a], _, _ => exact .inl ⟨a, rfl⟩
  | [a, b], _, _ => exact .inr (.inl ⟨a, b, rfl⟩)
  | [a, b, c], _, _ => exact .inr (.inr (.inl ⟨a, b, c, rfl⟩))
  | [a, b, c, d], _, _ => exact .inr (.inr (.inr ⟨a, b, c, d, rfl⟩))
  | a :: b :: c :: d :: e :: r, _, h => exact absurd h (by simp)
theorem code_inj {s s' : Spec} (ok : SpecOk s) (ok' : SpecOk s') (h : codeS s = codeS s') : s = s' := by
  cases s with
  | gain b l g =>
    cases s' with
    | gain b' l' g' =>
      obtain ⟨b1, b2, l2, g2⟩ := ok
      obtain ⟨b1', b2', l2', g2'⟩ := ok'
      by_cases z : b < 0 <;> by_cases z' : b' < 0 <;> by_cases y : b < 10 <;> by_cases y' : b' < 10
      all_goals simp [codeS, jn, TL.joinL, tagL, intL, z, z', y, y'] at h
      all_goals first
        | (exfalso; omega)
        | (obtain rfl : b = b' := by omega
           obtain rfl : l = l' := by omega
           obtain rfl : g = g' := by omega
           rfl)
    | _ => simp [codeS, jn, TL.joinL, tagL] at h
  | mix n =>
    cases s' with
    | mix n' =>
      simp [codeS, jn, TL.joinL, tagL] at h
      rw [h]
    | _ => simp [codeS, jn, TL.joinL, tagL] at h
  | up n =>
    cases s' with
    | up n' =>
      simp [codeS, jn, TL.joinL, tagL] at h
      rw [h]
    | _ => simp [codeS, jn, TL.joinL, tagL] at h
  | down n =>
    cases s' with
    | down n' =>
      simp [codeS, jn, TL.joinL, tagL] at h
      rw [h]
    | _ => simp [codeS, jn, TL.joinL, tagL] at h
  | resample u d =>
    cases s' with
    | resample u' d' =>
      simp [codeS, jn, TL.joinL, tagL] at h
      rw [h.1, h.2]
    | _ => simp [codeS, jn, TL.joinL, tagL] at h
  | own ts g =>
    cases s' with
    | own ts' g' =>
      rcases few_cases ok.1 ok.2.1 with ⟨a, rfl⟩ | ⟨a, b, rfl⟩ | ⟨a, b, c, rfl⟩ | ⟨a, b, c, d, rfl⟩ <;> rcases few_cases ok'.1 ok'.2.1 with ⟨a', rfl⟩ | ⟨a', b', rfl⟩ | ⟨a', b', c', rfl⟩ | ⟨a', b', c', d', rfl⟩
      all_goals simp [codeS, jn, TL.joinL, tagL, tupL] at h
      all_goals simp only [h]
    | _ => simp [codeS, jn, TL.joinL, tagL] at h
  | times =>
    cases s' with
    | times => rfl
    | _ => simp [codeS, jn, TL.joinL, tagL] at h
  | choose =>
    cases s' with
    | choose => rfl
    | _ => simp [codeS, jn, TL.joinL, tagL] at h
  | outlet =>
    cases s' with
    | outlet => rfl
    | _ => simp [codeS, jn, TL.joinL, tagL] at h
  | inlet =>
    cases s' with
    | inlet => rfl
    | _ => simp [codeS, jn, TL.joinL, tagL] at h
theorem shown_spec_inj {s s' : Spec} (ok : SpecOk s) (ok' : SpecOk s') (h : PyData.shown (specD s) = PyData.shown (specD s')) : s = s' := by
  refine code_inj ok ok' ?_
  rw [← tl_spec ok, ← tl_spec ok', h]
end Sw
namespace Sw
open PySem PySem.Spec PyProof.Rows L2
def spMade (K : PySem.W.Frag) (cl : Srt → Addr) (dd : Addr) : Sp := fun vs H Q _ => ∃ (v : V) (s : Spec), vs = [v] ∧ SpecAt K H v s ∧ SpecOk s ∧ ∀ (a : Addr) (H' : Hp), H a = none → Same H H' → NodeS K cl dd s a H' → Q (.ref a) H'
section
variable {P : Program} {w : World} {K : PySem.W.Frag} {mg : Str → Option Value} {base : Heap} {f f1 f2 f3 f4 f5 f6 f7 f8 f9 C CN CO CI CW dd : Addr} {cl : Srt → Addr} {fd fd1 fd2 fd3 fd4 fd5 fd6 fd7 fd8 fd9 : FuncData}
abbrev nLMade : List Str := ["_law_spec_here"]
theorem scLMade : FnScope nLMade ["_law_spec_here"] (defScope sLMade) := ⟨rfl, rfl, rfl, by decide +kernel, rfl, by decide +kernel, by decide +kernel⟩
theorem ok_made {i1 i2 i3 i4 i5 i6 i7 i8 i9 i10 : Addr} {e1 e2 e3 e4 e5 e6 e7 e8 e9 e10 : FuncData} {d2 d3 d4 d5 d6 d7 d8 d9 d10 : List Value} {gK : List Value → List Value → List Value} (F : FnP K "_law_made" sLMade f fd)
    (M1 : Mk K (cl .gain) i1) (G1 : FnOk P w K mg base CX0 4 i1 e1 ["self", "by", "late", "begin"] (spMk K .gain (cl .gain) dd)) (g1 : mg "Gain" = some (.ref (cl .gain))) (kb1 : KBn K e1 ["self", "by", "late", "begin"] 2 ["late", "begin"] gK (fun vs zs => vs ++ zs))
    (M2 : Mk K (cl .mix) i2) (G2 : FnOk P w K mg base CX0 4 i2 e2 ["self", "many", "late", "begin"] (spMk K .mix (cl .mix) dd)) (g2 : mg "Mix" = some (.ref (cl .mix))) (b2 : Binds K e2 ["self", "many", "late", "begin"] d2) (v2 : Vals [.int 0, .int 0] d2)
    (M3 : Mk K (cl .times) i3) (G3 : FnOk P w K mg base CX0 4 i3 e3 ["self", "late", "begin"] (spMk K .times (cl .times) dd)) (g3 : mg "Times" = some (.ref (cl .times))) (b3 : Binds K e3 ["self", "late", "begin"] d3) (v3 : Vals [.int 0, .int 0] d3)
    (M4 : Mk K (cl .choose) i4) (G4 : FnOk P w K mg base CX0 4 i4 e4 ["self", "late", "begin"] (spMk K .choose (cl .choose) dd)) (g4 : mg "Choose" = some (.ref (cl .choose))) (b4 : Binds K e4 ["self", "late", "begin"] d4) (v4 : Vals [.int 0, .int 0] d4)
    (M5 : Mk K (cl .up) i5) (G5 : FnOk P w K mg base CX0 4 i5 e5 ["self", "many", "hold", "late", "begin"] (spMk K .up (cl .up) dd)) (g5 : mg "Up" = some (.ref (cl .up))) (b5 : Binds K e5 ["self", "many", "hold", "late", "begin"] d5) (v5 : Vals [.bl false, .int 0, .int 0] d5)
    (M6 : Mk K (cl .down) i6) (G6 : FnOk P w K mg base CX0 4 i6 e6 ["self", "many", "late", "begin"] (spMk K .down (cl .down) dd)) (g6 : mg "Down" = some (.ref (cl .down))) (b6 : Binds K e6 ["self", "many", "late", "begin"] d6) (v6 : Vals [.int 0, .int 0] d6)
    (M7 : Mk K (cl .resample) i7) (G7 : FnOk P w K mg base CX0 4 i7 e7 ["self", "up", "down", "numbers", "late", "begin"] (spMk K .resample (cl .resample) dd)) (g7 : mg "Resample" = some (.ref (cl .resample))) (b7 : Binds K e7 ["self", "up", "down", "numbers", "late", "begin"] d7) (v7 : Vals [.int 0, .int 0] d7)
    (M8 : Mk K (cl .own) i8) (G8 : FnOk P w K mg base CX0 4 i8 e8 ["self", "deed", "takes", "gives", "first", "late", "begin"] (spMk K .own (cl .own) dd)) (g8 : mg "Own" = some (.ref (cl .own))) (b8 : Binds K e8 ["self", "deed", "takes", "gives", "first", "late", "begin"] d8) (v8 : Vals [.int 0, .int 0, .int 0] d8)
    (M9 : Mk K (cl .outlet) i9) (G9 : FnOk P w K mg base CX0 4 i9 e9 ["self"] (spMk K .outlet (cl .outlet) dd)) (g9 : mg "Outlet" = some (.ref (cl .outlet))) (b9 : Binds K e9 ["self"] d9) (v9 : Vals [] d9)
    (M10 : Mk K (cl .inlet) i10) (G10 : FnOk P w K mg base CX0 4 i10 e10 ["self"] (spMk K .inlet (cl .inlet) dd)) (g10 : mg "Inlet" = some (.ref (cl .inlet))) (b10 : Binds K e10 ["self"] d10) (v10 : Vals [] d10)
    (gDd : mg "_law_deed" = some (.ref dd)) : FnOk P w K mg base CX0 6 f fd ["_law_spec_here"] (spMade K cl dd) := by
  refine F.ok scLMade (fun vs H Q E h => ?_) (fun cdv A ou s H vs Q E hr h => ?_)
  · obtain ⟨v, s, rfl, _⟩ := h
    rfl
  · obtain ⟨v, sp, rfl, hs, ok, kk⟩ := h
    have nd := scLMade.nd
    refine ⟨_, PSs.nox (pss_cons (ps_if (pt_cmpR op_eq (pe_ix ix_tup (pv 0) pe_int (fun _ _ => rfl)) pe_str (nomark _)) (pss_one (ps_ret (pe_makeK M1 G1 hr rfl g1 kb1 pass0 (pa_cons (pe_ix ix_tup (pv 0) pe_int (fun _ _ => rfl)) pa_nil) (pk_cons (pe_ix ix_tup (pv 0) pe_int (fun _ _ => rfl)) (pk_cons (pe_ix ix_tup (pv 0) pe_int (fun _ _ => rfl)) pk_nil))))) pss_nil)
      (pss_cons (ps_if (pt_cmpR op_eq (pe_ix ix_tup (pv 0) pe_int (fun _ _ => rfl)) pe_str (nomark _)) (pss_one (ps_ret (pe_make M2 G2 hr rfl g2 b2 v2 pass0 (pa_cons (pe_ix ix_tup (pv 0) pe_int (fun _ _ => rfl)) pa_nil)))) pss_nil)
      (pss_cons (ps_if (pt_cmpR op_in_seq (pe_ix ix_tup (pv 0) pe_int (fun _ _ => rfl)) (pe_tup (pa_cons pe_str (pa_cons pe_str pa_nil))) rfl) (pss_one (ps_ret (pe_ifExp (pt_cmpR op_eq (pe_ix ix_tup (pv 0) pe_int (fun _ _ => rfl)) pe_str (nomark _)) (pe_make0 M3 G3 hr rfl g3 b3 v3 pass0) (pe_make0 M4 G4 hr rfl g4 b4 v4 pass0)))) pss_nil)
      (pss_cons (ps_if (pt_cmpR op_in_seq (pe_ix ix_tup (pv 0) pe_int (fun _ _ => rfl)) (pe_tup (pa_cons pe_str (pa_cons pe_str pa_nil))) rfl) (pss_one (ps_ret (pe_ifExp (pt_cmpR op_eq (pe_ix ix_tup (pv 0) pe_int (fun _ _ => rfl)) pe_str (nomark _)) (pe_make M5 G5 hr rfl g5 b5 v5 pass0 (pa_cons (pe_ix ix_tup (pv 0) pe_int (fun _ _ => rfl)) pa_nil)) (pe_make M6 G6 hr rfl g6 b6 v6 pass0 (pa_cons (pe_ix ix_tup (pv 0) pe_int (fun _ _ => rfl)) pa_nil))))) pss_nil)
      (pss_cons (ps_if (pt_cmpR op_eq (pe_ix ix_tup (pv 0) pe_int (fun _ _ => rfl)) pe_str (nomark _)) (pss_one (ps_ret (pe_make M7 G7 hr rfl g7 b7 v7 pass0 (pa_cons (pe_ix ix_tup (pv 0) pe_int (fun _ _ => rfl)) (pa_cons (pe_ix ix_tup (pv 0) pe_int (fun _ _ => rfl)) (pa_cons (pe_lst (pa_cons pe_int (pa_cons pe_int pa_nil))) pa_nil)))))) pss_nil)
      (pss_cons (ps_if (pt_cmpR op_eq (pe_ix ix_tup (pv 0) pe_int (fun _ _ => rfl)) pe_str (nomark _)) (pss_one (ps_ret (pe_make M8 G8 hr rfl g8 b8 v8 pass0 (pa_cons (pe_glob (v := .ref dd) rfl gDd rfl) (pa_cons (pe_ix ix_tup (pv 0) pe_int (fun _ _ => rfl)) (pa_cons (pe_ix ix_tup (pv 0) pe_int (fun _ _ => rfl)) pa_nil)))))) pss_nil)
      (pss_one (ps_ret (pe_ifExp (pt_cmpR op_eq (pe_ix ix_tup (pv 0) pe_int (fun _ _ => rfl)) pe_str (nomark _)) (pe_make0 M10 G10 hr rfl g10 b10 v10 pass0) (pe_make0 M9 G9 hr rfl g9 b9 v9 pass0)))))))))), ?_⟩
    obtain ⟨q, xs, rfl, hq, sv⟩ := hs.inv
    have fin : ∀ {G : Hp} {x dx tm x' : Addr} {B : Hp} {fs : List (Str × V)}, Same H G → G x = none → G dx = none → dx ≠ x → Kept x (upd (upd G dx (.own x)) x (.ins (cl (srt sp)) dx [])) B → B x = some (.ins (cl (srt sp)) dx fs) → NdF fs (ownS dd x' sp) tm (lateS sp) (begS sp) → SqT K B tm (madeS dd x' sp) → auxS K B x' sp → Q (.ref x) B := by
      intro G x dx tm x' B fs sG nx ndx ne k hx nf ht au
      exact kk x B (sG.free nx) (sG.trans (made_same nx ndx ne k)) ⟨dx, fs, tm, x', hx, nf, ht, au⟩
    cases sp with
    | gain b l g =>
      obtain rfl := sv
      have s0 : Same H H := Same.refl H
      refine ⟨_, rfl, q, _, _, _, rfl, rfl, Same.tup s0 hq, atI_nat (j := 0) rfl, rfl, _, rfl, iteT_ (by show decide (V.str "gain" = V.str "gain") = true; decide +kernel) ?_⟩
      exact ⟨_, rfl, q, _, _, _, rfl, rfl, Same.tup s0 hq, atI_nat (j := 1) rfl, _, rfl, q, _, _, _, rfl, rfl, Same.tup s0 hq, atI_nat (j := 2) rfl, _, rfl, q, _, _, _, rfl, rfl, Same.tup s0 hq, atI_nat (j := 3) rfl, rfl, rfl, fun x dx nx ndx ne => ⟨x, dx, x, _, rfl, rfl, ok, trivial, upd_same, fun fs tm x' B k hx nf ht au => ⟨rfl, fin s0 nx ndx ne k hx nf ht au⟩⟩⟩
    | mix n =>
      obtain rfl := sv
      have s0 : Same H H := Same.refl H
      refine ⟨_, rfl, q, _, _, _, rfl, rfl, Same.tup s0 hq, atI_nat (j := 0) rfl, rfl, _, rfl, iteF_ (by show decide (V.str "mix" = V.str "gain") = false; decide +kernel) ?_⟩
      refine ⟨_, rfl, q, _, _, _, rfl, rfl, Same.tup s0 hq, atI_nat (j := 0) rfl, rfl, _, rfl, iteT_ (by show decide (V.str "mix" = V.str "mix") = true; decide +kernel) ?_⟩
      exact ⟨_, rfl, q, _, _, _, rfl, rfl, Same.tup s0 hq, atI_nat (j := 1) rfl, fun x dx nx ndx ne => ⟨x, dx, x, _, rfl, rfl, ok, trivial, upd_same, fun fs tm x' B k hx nf ht au => ⟨rfl, fin s0 nx ndx ne k hx nf ht au⟩⟩⟩
    | times =>
      obtain rfl := sv
      have s0 : Same H H := Same.refl H
      refine ⟨_, rfl, q, _, _, _, rfl, rfl, Same.tup s0 hq, atI_nat (j := 0) rfl, rfl, _, rfl, iteF_ (by show decide (V.str "times" = V.str "gain") = false; decide +kernel) ?_⟩
      refine ⟨_, rfl, q, _, _, _, rfl, rfl, Same.tup s0 hq, atI_nat (j := 0) rfl, rfl, _, rfl, iteF_ (by show decide (V.str "times" = V.str "mix") = false; decide +kernel) ?_⟩
      refine ⟨_, rfl, q, _, _, _, rfl, rfl, Same.tup s0 hq, atI_nat (j := 0) rfl, (by show 2 ≤ sizeLine; decide), fun t0 ht0 => ?_⟩
      refine ⟨t0, _, rfl, .inr (.inl (.inl upd_same)), rfl, rfl, _, rfl, iteT_ (by show (if false = true then !inV (V.str "times") [V.str "times", V.str "choose"] else inV (V.str "times") [V.str "times", V.str "choose"]) = true; decide +kernel) ?_⟩
      have s1 := Same.new (o := .tup [V.str "times", V.str "choose"]) s0 ht0
      generalize upd H t0 (.tup [V.str "times", V.str "choose"]) = H1 at s1 ⊢
      refine ⟨_, rfl, q, _, _, _, rfl, rfl, Same.tup s1 hq, atI_nat (j := 0) rfl, rfl, _, rfl, iteT_ (by show decide (V.str "times" = V.str "times") = true; decide +kernel) ?_⟩
      exact fun x dx nx ndx ne => ⟨x, dx, x, _, rfl, rfl, ok, trivial, upd_same, fun fs tm x' B k hx nf ht au => ⟨rfl, fin s1 nx ndx ne k hx nf ht au⟩⟩
    | choose =>
      obtain rfl := sv
      have s0 : Same H H := Same.refl H
      refine ⟨_, rfl, q, _, _, _, rfl, rfl, Same.tup s0 hq, atI_nat (j := 0) rfl, rfl, _, rfl, iteF_ (by show decide (V.str "choose" = V.str "gain") = false; decide +kernel) ?_⟩
      refine ⟨_, rfl, q, _, _, _, rfl, rfl, Same.tup s0 hq, atI_nat (j := 0) rfl, rfl, _, rfl, iteF_ (by show decide (V.str "choose" = V.str "mix") = false; decide +kernel) ?_⟩
      refine ⟨_, rfl, q, _, _, _, rfl, rfl, Same.tup s0 hq, atI_nat (j := 0) rfl, (by show 2 ≤ sizeLine; decide), fun t0 ht0 => ?_⟩
      refine ⟨t0, _, rfl, .inr (.inl (.inl upd_same)), rfl, rfl, _, rfl, iteT_ (by show (if false = true then !inV (V.str "choose") [V.str "times", V.str "choose"] else inV (V.str "choose") [V.str "times", V.str "choose"]) = true; decide +kernel) ?_⟩
      have s1 := Same.new (o := .tup [V.str "times", V.str "choose"]) s0 ht0
      generalize upd H t0 (.tup [V.str "times", V.str "choose"]) = H1 at s1 ⊢
      refine ⟨_, rfl, q, _, _, _, rfl, rfl, Same.tup s1 hq, atI_nat (j := 0) rfl, rfl, _, rfl, iteF_ (by show decide (V.str "choose" = V.str "times") = false; decide +kernel) ?_⟩
      exact fun x dx nx ndx ne => ⟨x, dx, x, _, rfl, rfl, ok, trivial, upd_same, fun fs tm x' B k hx nf ht au => ⟨rfl, fin s1 nx ndx ne k hx nf ht au⟩⟩
    | up n =>
      obtain rfl := sv
      have s0 : Same H H := Same.refl H
      refine ⟨_, rfl, q, _, _, _, rfl, rfl, Same.tup s0 hq, atI_nat (j := 0) rfl, rfl, _, rfl, iteF_ (by show decide (V.str "up" = V.str "gain") = false; decide +kernel) ?_⟩
      refine ⟨_, rfl, q, _, _, _, rfl, rfl, Same.tup s0 hq, atI_nat (j := 0) rfl, rfl, _, rfl, iteF_ (by show decide (V.str "up" = V.str "mix") = false; decide +kernel) ?_⟩
      refine ⟨_, rfl, q, _, _, _, rfl, rfl, Same.tup s0 hq, atI_nat (j := 0) rfl, (by show 2 ≤ sizeLine; decide), fun t0 ht0 => ?_⟩
      refine ⟨t0, _, rfl, .inr (.inl (.inl upd_same)), rfl, rfl, _, rfl, iteF_ (by show (if false = true then !inV (V.str "up") [V.str "times", V.str "choose"] else inV (V.str "up") [V.str "times", V.str "choose"]) = false; decide +kernel) ?_⟩
      have s1 := Same.new (o := .tup [V.str "times", V.str "choose"]) s0 ht0
      generalize upd H t0 (.tup [V.str "times", V.str "choose"]) = H1 at s1 ⊢
      refine ⟨_, rfl, q, _, _, _, rfl, rfl, Same.tup s1 hq, atI_nat (j := 0) rfl, (by show 2 ≤ sizeLine; decide), fun t1 ht1 => ?_⟩
      refine ⟨t1, _, rfl, .inr (.inl (.inl upd_same)), rfl, rfl, _, rfl, iteT_ (by show (if false = true then !inV (V.str "up") [V.str "up", V.str "down"] else inV (V.str "up") [V.str "up", V.str "down"]) = true; decide +kernel) ?_⟩
      have s2 := Same.new (o := .tup [V.str "up", V.str "down"]) s1 ht1
      generalize upd H1 t1 (.tup [V.str "up", V.str "down"]) = H2 at s2 ⊢
      refine ⟨_, rfl, q, _, _, _, rfl, rfl, Same.tup s2 hq, atI_nat (j := 0) rfl, rfl, _, rfl, iteT_ (by show decide (V.str "up" = V.str "up") = true; decide +kernel) ?_⟩
      exact ⟨_, rfl, q, _, _, _, rfl, rfl, Same.tup s2 hq, atI_nat (j := 1) rfl, fun x dx nx ndx ne => ⟨x, dx, x, _, rfl, rfl, ok, trivial, upd_same, fun fs tm x' B k hx nf ht au => ⟨rfl, fin s2 nx ndx ne k hx nf ht au⟩⟩⟩
    | down n =>
      obtain rfl := sv
      have s0 : Same H H := Same.refl H
      refine ⟨_, rfl, q, _, _, _, rfl, rfl, Same.tup s0 hq, atI_nat (j := 0) rfl, rfl, _, rfl, iteF_ (by show decide (V.str "down" = V.str "gain") = false; decide +kernel) ?_⟩
      refine ⟨_, rfl, q, _, _, _, rfl, rfl, Same.tup s0 hq, atI_nat (j := 0) rfl, rfl, _, rfl, iteF_ (by show decide (V.str "down" = V.str "mix") = false; decide +kernel) ?_⟩
      refine ⟨_, rfl, q, _, _, _, rfl, rfl, Same.tup s0 hq, atI_nat (j := 0) rfl, (by show 2 ≤ sizeLine; decide), fun t0 ht0 => ?_⟩
      refine ⟨t0, _, rfl, .inr (.inl (.inl upd_same)), rfl, rfl, _, rfl, iteF_ (by show (if false = true then !inV (V.str "down") [V.str "times", V.str "choose"] else inV (V.str "down") [V.str "times", V.str "choose"]) = false; decide +kernel) ?_⟩
      have s1 := Same.new (o := .tup [V.str "times", V.str "choose"]) s0 ht0
      generalize upd H t0 (.tup [V.str "times", V.str "choose"]) = H1 at s1 ⊢
      refine ⟨_, rfl, q, _, _, _, rfl, rfl, Same.tup s1 hq, atI_nat (j := 0) rfl, (by show 2 ≤ sizeLine; decide), fun t1 ht1 => ?_⟩
      refine ⟨t1, _, rfl, .inr (.inl (.inl upd_same)), rfl, rfl, _, rfl, iteT_ (by show (if false = true then !inV (V.str "down") [V.str "up", V.str "down"] else inV (V.str "down") [V.str "up", V.str "down"]) = true; decide +kernel) ?_⟩
      have s2 := Same.new (o := .tup [V.str "up", V.str "down"]) s1 ht1
      generalize upd H1 t1 (.tup [V.str "up", V.str "down"]) = H2 at s2 ⊢
      refine ⟨_, rfl, q, _, _, _, rfl, rfl, Same.tup s2 hq, atI_nat (j := 0) rfl, rfl, _, rfl, iteF_ (by show decide (V.str "down" = V.str "up") = false; decide +kernel) ?_⟩
      exact ⟨_, rfl, q, _, _, _, rfl, rfl, Same.tup s2 hq, atI_nat (j := 1) rfl, fun x dx nx ndx ne => ⟨x, dx, x, _, rfl, rfl, ok, trivial, upd_same, fun fs tm x' B k hx nf ht au => ⟨rfl, fin s2 nx ndx ne k hx nf ht au⟩⟩⟩
    | resample u d =>
      obtain rfl := sv
      have s0 : Same H H := Same.refl H
      refine ⟨_, rfl, q, _, _, _, rfl, rfl, Same.tup s0 hq, atI_nat (j := 0) rfl, rfl, _, rfl, iteF_ (by show decide (V.str "resample" = V.str "gain") = false; decide +kernel) ?_⟩
      refine ⟨_, rfl, q, _, _, _, rfl, rfl, Same.tup s0 hq, atI_nat (j := 0) rfl, rfl, _, rfl, iteF_ (by show decide (V.str "resample" = V.str "mix") = false; decide +kernel) ?_⟩
      refine ⟨_, rfl, q, _, _, _, rfl, rfl, Same.tup s0 hq, atI_nat (j := 0) rfl, (by show 2 ≤ sizeLine; decide), fun t0 ht0 => ?_⟩
      refine ⟨t0, _, rfl, .inr (.inl (.inl upd_same)), rfl, rfl, _, rfl, iteF_ (by show (if false = true then !inV (V.str "resample") [V.str "times", V.str "choose"] else inV (V.str "resample") [V.str "times", V.str "choose"]) = false; decide +kernel) ?_⟩
      have s1 := Same.new (o := .tup [V.str "times", V.str "choose"]) s0 ht0
      generalize upd H t0 (.tup [V.str "times", V.str "choose"]) = H1 at s1 ⊢
      refine ⟨_, rfl, q, _, _, _, rfl, rfl, Same.tup s1 hq, atI_nat (j := 0) rfl, (by show 2 ≤ sizeLine; decide), fun t1 ht1 => ?_⟩
      refine ⟨t1, _, rfl, .inr (.inl (.inl upd_same)), rfl, rfl, _, rfl, iteF_ (by show (if false = true then !inV (V.str "resample") [V.str "up", V.str "down"] else inV (V.str "resample") [V.str "up", V.str "down"]) = false; decide +kernel) ?_⟩
      have s2 := Same.new (o := .tup [V.str "up", V.str "down"]) s1 ht1
      generalize upd H1 t1 (.tup [V.str "up", V.str "down"]) = H2 at s2 ⊢
      refine ⟨_, rfl, q, _, _, _, rfl, rfl, Same.tup s2 hq, atI_nat (j := 0) rfl, rfl, _, rfl, iteT_ (by show decide (V.str "resample" = V.str "resample") = true; decide +kernel) ?_⟩
      refine ⟨_, rfl, q, _, _, _, rfl, rfl, Same.tup s2 hq, atI_nat (j := 1) rfl, _, rfl, q, _, _, _, rfl, rfl, Same.tup s2 hq, atI_nat (j := 2) rfl, (by show 2 ≤ sizeLine; decide), fun ln hln => ?_⟩
      have s3 := Same.new (o := .lst [V.int 1, V.int 2]) s2 hln
      have hl3 : upd H2 ln (.lst [V.int 1, V.int 2]) ln = some (.lst [V.int 1, V.int 2]) := upd_same
      generalize upd H2 ln (.lst [V.int 1, V.int 2]) = H3 at s3 hl3 ⊢
      exact fun x dx nx ndx ne => ⟨x, dx, ln, _, rfl, rfl, ok, (Same.new (Same.new (Same.refl H3) ndx) (by rw [upd_ne ne.symm]; exact nx) _ _ hl3), upd_same, fun fs tm x' B k hx nf ht au => ⟨rfl, fin s3 nx ndx ne k hx nf ht au⟩⟩
    | own ts g =>
      obtain ⟨tt, rfl, htt⟩ := sv
      have s0 : Same H H := Same.refl H
      refine ⟨_, rfl, q, _, _, _, rfl, rfl, Same.tup s0 hq, atI_nat (j := 0) rfl, rfl, _, rfl, iteF_ (by show decide (V.str "own" = V.str "gain") = false; decide +kernel) ?_⟩
      refine ⟨_, rfl, q, _, _, _, rfl, rfl, Same.tup s0 hq, atI_nat (j := 0) rfl, rfl, _, rfl, iteF_ (by show decide (V.str "own" = V.str "mix") = false; decide +kernel) ?_⟩
      refine ⟨_, rfl, q, _, _, _, rfl, rfl, Same.tup s0 hq, atI_nat (j := 0) rfl, (by show 2 ≤ sizeLine; decide), fun t0 ht0 => ?_⟩
      refine ⟨t0, _, rfl, .inr (.inl (.inl upd_same)), rfl, rfl, _, rfl, iteF_ (by show (if false = true then !inV (V.str "own") [V.str "times", V.str "choose"] else inV (V.str "own") [V.str "times", V.str "choose"]) = false; decide +kernel) ?_⟩
      have s1 := Same.new (o := .tup [V.str "times", V.str "choose"]) s0 ht0
      generalize upd H t0 (.tup [V.str "times", V.str "choose"]) = H1 at s1 ⊢
      refine ⟨_, rfl, q, _, _, _, rfl, rfl, Same.tup s1 hq, atI_nat (j := 0) rfl, (by show 2 ≤ sizeLine; decide), fun t1 ht1 => ?_⟩
      refine ⟨t1, _, rfl, .inr (.inl (.inl upd_same)), rfl, rfl, _, rfl, iteF_ (by show (if false = true then !inV (V.str "own") [V.str "up", V.str "down"] else inV (V.str "own") [V.str "up", V.str "down"]) = false; decide +kernel) ?_⟩
      have s2 := Same.new (o := .tup [V.str "up", V.str "down"]) s1 ht1
      generalize upd H1 t1 (.tup [V.str "up", V.str "down"]) = H2 at s2 ⊢
      refine ⟨_, rfl, q, _, _, _, rfl, rfl, Same.tup s2 hq, atI_nat (j := 0) rfl, rfl, _, rfl, iteF_ (by show decide (V.str "own" = V.str "resample") = false; decide +kernel) ?_⟩
      refine ⟨_, rfl, q, _, _, _, rfl, rfl, Same.tup s2 hq, atI_nat (j := 0) rfl, rfl, _, rfl, iteT_ (by show decide (V.str "own" = V.str "own") = true; decide +kernel) ?_⟩
      exact ⟨_, rfl, q, _, _, _, rfl, rfl, Same.tup s2 hq, atI_nat (j := 1) rfl, _, rfl, q, _, _, _, rfl, rfl, Same.tup s2 hq, atI_nat (j := 2) rfl, fun x dx nx ndx ne => ⟨x, dx, tt, _, rfl, rfl, ok, Same.tup (Same.new (Same.new s2 ndx) (by rw [upd_ne ne.symm]; exact nx)) htt, upd_same, fun fs tm x' B k hx nf ht au => ⟨rfl, fin s2 nx ndx ne k hx nf ht au⟩⟩⟩
    | outlet =>
      obtain rfl := sv
      have s0 : Same H H := Same.refl H
      refine ⟨_, rfl, q, _, _, _, rfl, rfl, Same.tup s0 hq, atI_nat (j := 0) rfl, rfl, _, rfl, iteF_ (by show decide (V.str "outlet" = V.str "gain") = false; decide +kernel) ?_⟩
      refine ⟨_, rfl, q, _, _, _, rfl, rfl, Same.tup s0 hq, atI_nat (j := 0) rfl, rfl, _, rfl, iteF_ (by show decide (V.str "outlet" = V.str "mix") = false; decide +kernel) ?_⟩
      refine ⟨_, rfl, q, _, _, _, rfl, rfl, Same.tup s0 hq, atI_nat (j := 0) rfl, (by show 2 ≤ sizeLine; decide), fun t0 ht0 => ?_⟩
      refine ⟨t0, _, rfl, .inr (.inl (.inl upd_same)), rfl, rfl, _, rfl, iteF_ (by show (if false = true then !inV (V.str "outlet") [V.str "times", V.str "choose"] else inV (V.str "outlet") [V.str "times", V.str "choose"]) = false; decide +kernel) ?_⟩
      have s1 := Same.new (o := .tup [V.str "times", V.str "choose"]) s0 ht0
      generalize upd H t0 (.tup [V.str "times", V.str "choose"]) = H1 at s1 ⊢
      refine ⟨_, rfl, q, _, _, _, rfl, rfl, Same.tup s1 hq, atI_nat (j := 0) rfl, (by show 2 ≤ sizeLine; decide), fun t1 ht1 => ?_⟩
      refine ⟨t1, _, rfl, .inr (.inl (.inl upd_same)), rfl, rfl, _, rfl, iteF_ (by show (if false = true then !inV (V.str "outlet") [V.str "up", V.str "down"] else inV (V.str "outlet") [V.str "up", V.str "down"]) = false; decide +kernel) ?_⟩
      have s2 := Same.new (o := .tup [V.str "up", V.str "down"]) s1 ht1
      generalize upd H1 t1 (.tup [V.str "up", V.str "down"]) = H2 at s2 ⊢
      refine ⟨_, rfl, q, _, _, _, rfl, rfl, Same.tup s2 hq, atI_nat (j := 0) rfl, rfl, _, rfl, iteF_ (by show decide (V.str "outlet" = V.str "resample") = false; decide +kernel) ?_⟩
      refine ⟨_, rfl, q, _, _, _, rfl, rfl, Same.tup s2 hq, atI_nat (j := 0) rfl, rfl, _, rfl, iteF_ (by show decide (V.str "outlet" = V.str "own") = false; decide +kernel) ?_⟩
      refine ⟨_, rfl, q, _, _, _, rfl, rfl, Same.tup s2 hq, atI_nat (j := 0) rfl, rfl, _, rfl, iteF_ (by show decide (V.str "outlet" = V.str "inlet") = false; decide +kernel) ?_⟩
      exact fun x dx nx ndx ne => ⟨x, dx, x, _, rfl, rfl, ok, trivial, upd_same, fun fs tm x' B k hx nf ht au => ⟨rfl, fin s2 nx ndx ne k hx nf ht au⟩⟩
    | inlet =>
      obtain rfl := sv
      have s0 : Same H H := Same.refl H
      refine ⟨_, rfl, q, _, _, _, rfl, rfl, Same.tup s0 hq, atI_nat (j := 0) rfl, rfl, _, rfl, iteF_ (by show decide (V.str "inlet" = V.str "gain") = false; decide +kernel) ?_⟩
      refine ⟨_, rfl, q, _, _, _, rfl, rfl, Same.tup s0 hq, atI_nat (j := 0) rfl, rfl, _, rfl, iteF_ (by show decide (V.str "inlet" = V.str "mix") = false; decide +kernel) ?_⟩
      refine ⟨_, rfl, q, _, _, _, rfl, rfl, Same.tup s0 hq, atI_nat (j := 0) rfl, (by show 2 ≤ sizeLine; decide), fun t0 ht0 => ?_⟩
      refine ⟨t0, _, rfl, .inr (.inl (.inl upd_same)), rfl, rfl, _, rfl, iteF_ (by show (if false = true then !inV (V.str "inlet") [V.str "times", V.str "choose"] else inV (V.str "inlet") [V.str "times", V.str "choose"]) = false; decide +kernel) ?_⟩
      have s1 := Same.new (o := .tup [V.str "times", V.str "choose"]) s0 ht0
      generalize upd H t0 (.tup [V.str "times", V.str "choose"]) = H1 at s1 ⊢
      refine ⟨_, rfl, q, _, _, _, rfl, rfl, Same.tup s1 hq, atI_nat (j := 0) rfl, (by show 2 ≤ sizeLine; decide), fun t1 ht1 => ?_⟩
      refine ⟨t1, _, rfl, .inr (.inl (.inl upd_same)), rfl, rfl, _, rfl, iteF_ (by show (if false = true then !inV (V.str "inlet") [V.str "up", V.str "down"] else inV (V.str "inlet") [V.str "up", V.str "down"]) = false; decide +kernel) ?_⟩
      have s2 := Same.new (o := .tup [V.str "up", V.str "down"]) s1 ht1
      generalize upd H1 t1 (.tup [V.str "up", V.str "down"]) = H2 at s2 ⊢
      refine ⟨_, rfl, q, _, _, _, rfl, rfl, Same.tup s2 hq, atI_nat (j := 0) rfl, rfl, _, rfl, iteF_ (by show decide (V.str "inlet" = V.str "resample") = false; decide +kernel) ?_⟩
      refine ⟨_, rfl, q, _, _, _, rfl, rfl, Same.tup s2 hq, atI_nat (j := 0) rfl, rfl, _, rfl, iteF_ (by show decide (V.str "inlet" = V.str "own") = false; decide +kernel) ?_⟩
      refine ⟨_, rfl, q, _, _, _, rfl, rfl, Same.tup s2 hq, atI_nat (j := 0) rfl, rfl, _, rfl, iteT_ (by show decide (V.str "inlet" = V.str "inlet") = true; decide +kernel) ?_⟩
      exact fun x dx nx ndx ne => ⟨x, dx, x, _, rfl, rfl, ok, trivial, upd_same, fun fs tm x' B k hx nf ht au => ⟨rfl, fin s2 nx ndx ne k hx nf ht au⟩⟩
end
end Sw
namespace Sw
open PySem PySem.Spec PyProof.Rows L2
/-! ### the pairs -/
def NmK (K : PySem.W.Frag) (cl : Srt → Addr) (dd : Addr) (H : Hp) (x : Nm) (k : Knot) : Prop := x.name = k.1 ∧ x.inf = infS k.2 ∧ NodeS K cl dd k.2 x.adr H
theorem NmK.keep {K : PySem.W.Frag} {cl : Srt → Addr} {dd : Addr} {H H1 : Hp} {x : Nm} {k : Knot} (h : NmK K cl dd H x k) (s : Same H H1) : NmK K cl dd H1 x k := ⟨h.1, h.2.1, h.2.2.keep s⟩
theorem nmK_map {K : PySem.W.Frag} {cl : Srt → Addr} {dd : Addr} {H : Hp} : ∀ {nm : List Nm} {ks : List Knot}, Al (NmK K cl dd H) nm ks → nm.map (fun x => (x.name, x.inf)) = ks.map (fun k => (k.1, infS k.2))
  | [], [], _ => rfl
  | x :: nm, k :: ks, h => by
    rw [List.map_cons, List.map_cons, nmK_map h.2, h.1.1, h.1.2.1]
  | [], _ :: _, h => h.elim
  | _ :: _, [], h => h.elim
def spPairs (K : PySem.W.Frag) (cl : Srt → Addr) (dd : Addr) : Sp := fun vs H Q _ => ∃ (l : Addr) (kv : List V) (ks : List Knot), vs = [.ref l] ∧ H l = some (.lst kv) ∧ DpAll K H kv (ks.map knotD) ∧ (∀ k ∈ ks, SpecOk k.2) ∧ ks.length ≤ 24 ∧ ∀ (l' : Addr) (nm : List Nm) (Hn H' : Hp), Same H Hn → Hn l' = none → Same Hn H' → PairsAt K H' l' nm → Al (NmK K cl dd Hn) nm ks → Q (.ref l') H'
theorem spec_shaped (s : Spec) : SeqAt.shaped (specD s) = true := by
  obtain ⟨h1, h2⟩ := spec_lay s
  unfold SeqAt.shaped
  rw [h1, decide_eq_true (by omega)]
  rfl
theorem show_nats : ∀ ts : List Nat, (∀ t ∈ ts, t < 10) → PyData.showableAll (ts.map natD) = true
  | [], _ => by rw [List.map_nil, PyData.showableAll]
  | t :: r, h => by
    have h1 := h t List.mem_cons_self
    have : (t : Int).natAbs.log2 < 1920 := by
      rw [Int.natAbs_natCast]
      exact Nat.lt_of_le_of_lt (Nat.log2_le_self t) (by omega)
    rw [List.map_cons, PyData.showableAll, show_nats r fun z hz => h z (List.mem_cons_of_mem _ hz)]
    unfold natD
    rw [PyData.showable, decide_eq_true this]
    rfl
theorem small_log {i : Int} (h : i.natAbs < 100) : decide (i.natAbs.log2 < 1920) = true := decide_eq_true (Nat.lt_of_le_of_lt (Nat.log2_le_self _) (by omega))
theorem spec_show {s : Spec} (ok : SpecOk s) : (specD s).showable = true := by
  cases s with
  | gain b l g =>
    obtain ⟨b1, b2, l2, g2⟩ := ok
    unfold specD natD
    simp only [PyData.showable, PyData.showableAll]
    rw [small_log (by omega), small_log (by omega), small_log (by omega)]
    rfl
  | mix n =>
    obtain ⟨n1, n8⟩ := ok
    unfold specD natD
    simp only [PyData.showable, PyData.showableAll]
    rw [small_log (by omega)]
    rfl
  | up n =>
    obtain ⟨n1, n8⟩ := ok
    unfold specD natD
    simp only [PyData.showable, PyData.showableAll]
    rw [small_log (by omega)]
    rfl
  | down n =>
    obtain ⟨n1, n8⟩ := ok
    unfold specD natD
    simp only [PyData.showable, PyData.showableAll]
    rw [small_log (by omega)]
    rfl
  | resample u d =>
    obtain ⟨⟨u1, u8⟩, d1, d8⟩ := ok
    unfold specD natD
    simp only [PyData.showable, PyData.showableAll]
    rw [small_log (by omega), small_log (by omega)]
    rfl
  | own ts g =>
    obtain ⟨t1, t4, dig, g1, g8⟩ := ok
    unfold specD
    simp only [PyData.showable, PyData.showableAll]
    rw [show_nats ts fun t ht => by have := (dig t ht).2; omega]
    unfold natD
    rw [PyData.showable, small_log (by omega)]
    rfl
  | _ =>
    unfold specD
    simp only [PyData.showable, PyData.showableAll]
    rfl
theorem code_len {s : Spec} (ok : SpecOk s) : (codeS s).length ≤ 200 := by
  cases s with
  | own ts g =>
    obtain ⟨t1, t4, dig, g1, g8⟩ := ok
    rcases few_cases t1 t4 with ⟨a, rfl⟩ | ⟨a, b, rfl⟩ | ⟨a, b, c, rfl⟩ | ⟨a, b, c, d, rfl⟩ <;> simp [codeS, jn, TL.joinL, tagL, tupL]
  | gain b l g =>
    by_cases z : b < 0 <;> by_cases y : b < 10 <;> simp [codeS, jn, TL.joinL, tagL, intL, z, y]
  | _ => simp [codeS, jn, TL.joinL, tagL]
theorem spec_len {s : Spec} (ok : SpecOk s) : (PyData.shown (specD s)).length ≤ 200 := by
  rw [TL.len_tl, tl_spec ok]
  exact code_len ok
theorem valV_mem {kvs : List (Key × V)} {k : Key} {v : V} (h : valV kvs k = some v) : (k, v) ∈ kvs := by
  unfold valV at h
  cases e : kvs.find? (fun kv => decide (kv.1 = k)) with
  | none => rw [e] at h; cases h
  | some q =>
    rw [e] at h
    have h1 := List.mem_of_find?_eq_some e
    have h2 := List.find?_some e
    have h3 : q.1 = k := of_decide_eq_true h2
    have h4 : q.2 = v := Option.some.inj h
    rw [← h3, ← h4]
    exact h1
theorem valV_put {kvs : List (Key × V)} {k k' : Key} {v : V} (h : valV kvs k = none) : (valV (kvs ++ [(k, v)]) k').isSome = ((valV kvs k').isSome || decide (k = k')) := by
  unfold valV
  rw [List.find?_append]
  cases e : kvs.find? (fun kv => decide (kv.1 = k')) with
  | some q => rfl
  | none =>
    rw [List.find?_cons]
    by_cases z : k = k'
    · rw [decide_eq_true z]
      rfl
    · rw [decide_eq_false z]
      rfl
def keyS (s : Spec) : Key := Sum.inr (PyData.shown (specD s))
/-- each thing in the dict is a node of the spec that its key shows -/
def DicS (K : PySem.W.Frag) (cl : Srt → Addr) (dd : Addr) (H : Hp) (kvs : List (Key × V)) : Prop := ∀ e ∈ kvs, ∃ (s : Spec) (a : Addr), e = (keyS s, .ref a) ∧ SpecOk s ∧ NodeS K cl dd s a H
theorem DicS.keep {K : PySem.W.Frag} {cl : Srt → Addr} {dd : Addr} {H H1 : Hp} {kvs : List (Key × V)} (h : DicS K cl dd H kvs) (s : Same H H1) : DicS K cl dd H1 kvs := fun e he => by
  obtain ⟨sp, a, h1, h2, h3⟩ := h e he
  exact ⟨sp, a, h1, h2, h3.keep s⟩
theorem DicS.get {K : PySem.W.Frag} {cl : Srt → Addr} {dd : Addr} {H : Hp} {kvs : List (Key × V)} (h : DicS K cl dd H kvs) {s : Spec} (ok : SpecOk s) (hs : (valV kvs (keyS s)).isSome = true) : ∃ a, valV kvs (keyS s) = some (.ref a) ∧ NodeS K cl dd s a H := by
  obtain ⟨v, ev⟩ := Option.isSome_iff_exists.mp hs
  obtain ⟨s', a, e, ok', n⟩ := h _ (valV_mem ev)
  have e1 : PyData.shown (specD s) = PyData.shown (specD s') := Sum.inr.inj (congrArg Prod.fst e)
  have e2 : v = .ref a := congrArg Prod.snd e
  obtain rfl := shown_spec_inj ok ok' e1
  exact ⟨a, by rw [ev, e2], n⟩
section
variable {P : Program} {w : World} {K : PySem.W.Frag} {mg : Str → Option Value} {base : Heap} {f f1 f2 f3 f4 f5 f6 f7 f8 f9 C CN CO CI CW dd : Addr} {cl : Srt → Addr} {fd fd1 fd2 fd3 fd4 fd5 fd6 fd7 fd8 fd9 : FuncData}
abbrev nLPairs : List Str := ["_law_knots", "_law_made_here", "_law_tag", "_law_spec_here"]
theorem scLPairs : FnScope nLPairs ["_law_knots"] (defScope sLPairs) := ⟨rfl, rfl, rfl, by decide +kernel, rfl, by decide +kernel, by decide +kernel⟩
theorem ok_pairs (F : FnP K "_law_pairs" sLPairs f fd) (GM : FnOk P w K mg base CX0 6 f1 fd1 ["_law_spec_here"] (spMade K cl dd)) (gM : mg "_law_made" = some (.ref f1)) (kM : PySem.W.keepIn K (.ref f1) = true) (bM : Binds K fd1 ["_law_spec_here"] []) (gRepr : mg "repr" = none) : FnG P w K mg base CX0 7 f fd ["_law_knots"] (spPairs K cl dd) := by
  refine F.okG scLPairs (fun vs H Q E h => ?_) (fun cdv A ou s H vs Q E hr guard h => ?_)
  · obtain ⟨l, kv, ks, rfl, _⟩ := h
    rfl
  · obtain ⟨l, kv, ks, rfl, hl, dk, oks, few, kk⟩ := h
    have nd := scLPairs.nd
    have hr6 : Room 6 _ := hr
    have hu := hu_of hr
    have hun := hr.un
    have R : ∀ {X : Cx}, X.A = A.deeper (envOfC "_law_pairs" (defScope sLPairs) s.heap.objs.size f cdv) → CallR X (.builtin "repr") (rReprD X.K) := fun {X} e => call_reprD (by rw [e]; exact guard) (by rw [e]; omega)
    have RK : ∀ {X : Cx}, X.A = A.deeper (envOfC "_law_pairs" (defScope sLPairs) s.heap.objs.size f cdv) → X.K = K → CallR X (.builtin "repr") (rReprD K) := fun {X} e e2 => e2 ▸ call_reprD (by rw [e]; exact guard) (by rw [e]; omega)
    refine ⟨_, PSs.nox (pss_cons (ps_set (i := 1) nd rfl (Or.inr rfl) pe_dnewK)
      (pss_cons (ps_for PassesOwn.never rfl (pi_list (pv 0)) (pg_tup rfl (pgs_cons (pg_name (i := 2) nd rfl (Or.inl rfl)) (pgs_cons (pg_name (i := 3) nd rfl (Or.inl rfl)) pgs_nil)))
      (pss_one (ps_if (pt_cmp (pc_dnotin hu (pe_callB (R rfl) (by rfl) gRepr boot_repr (pa_cons (pv 3) pa_nil)) (pv 1))) (pss_one (ps_dput hu (pv 1) (pe_callB (R rfl) (by rfl) gRepr boot_repr (pa_cons (pv 3) pa_nil)) (pe_call GM hr6 rfl gM kM bM .nil pass0 (pa_cons (pv 3) pa_nil)) rfl)) pss_nil)))
      (pss_one (ps_ret (pe_lc (own := [("_law_tag", 2), ("_law_spec_here", 3)]) (g := (gTup K 2 (gCons (gName 2) (gCons (gName 3) gNil)))) (tt := tYes) rfl nd (pi_list (pv 0)) (blkOk_by (N := nLPairs) (sc := defScope sLPairs) (by decide +kernel))
        (fun _ _ _ _ _ => (pg_tup rfl (pgs_cons (pg_name (i := 2) nd rfl (Or.inl rfl)) (pgs_cons (pg_name (i := 3) nd rfl (Or.inl rfl)) pgs_nil)))) (fun _ _ _ _ _ => pts_nil) (fun _ _ _ _ _ => (pe_tup (pa_cons (pv 2) (pa_cons (pe_dget hu (pv 1) (pe_callB (RK rfl rfl) (by rfl) gRepr boot_repr (pa_cons (pv 3) pa_nil)) (fun _ _ => rfl)) pa_nil))))))))), ?_⟩
    have kvl : kv.length = ks.length := by rw [DpAll.len dk, List.length_map]
    have rp : ∀ {G : Hp} {sv : V} {sp : Spec}, SpecAt K G sv sp → SpecOk sp → ∃ a, sv = .ref a ∧ Dp K G (.ref a) (specD sp) ∧ (specD sp).shown.length ≤ sizeLine := fun {G sv sp} h ok => by
      obtain ⟨a, xs, rfl, _, _⟩ := h.inv
      exact ⟨a, rfl, h, Nat.le_trans (spec_len ok) (by decide)⟩
    refine fun d hd => ?_
    have s0 := Same.new (o := .dK []) (Same.refl H) hd
    refine ⟨_, rfl, l, rfl, ⟨_, SqL.of (s0 _ _ hl)⟩, ?_⟩
    refine for_list (xs := kv) (fun j σ G => ∃ (w2 w3 : Option V) (kvs : List (Key × V)), σ = [some (.ref l), some (.ref d), w2, w3] ∧ G d = some (.dK kvs) ∧ Same H G ∧ DicS K cl dd G kvs ∧ kvs.length ≤ j ∧ ∀ k ∈ ks.take j, (valV kvs (keyS k.2)).isSome = true) ⟨_, _, [], rfl, upd_same, Same.past (Same.refl _) hd, (fun _ h => (List.not_mem_nil h).elim), Nat.le_refl _, (fun k h => by rw [List.take_zero] at h; cases h)⟩ (fun j σ G _ e => by obtain ⟨_, _, _, _, _, sm, _⟩ := e; exact SqL.of (sm _ _ hl)) ?_ ?_
    · rintro j v σ G ev ⟨w2, w3, kvs, rfl, hG, sG, dic, kl, al⟩
      obtain ⟨k, ek, dkj⟩ := DpAll.map dk ev
      have km : k ∈ ks := List.mem_of_getElem? ek
      have ok := oks k km
      obtain ⟨q, sv, rfl, hq, hs⟩ := knot_inv dkj
      have jl := (List.getElem?_eq_some_iff.mp ek).1
      have hsG := hs.kt (KT.same sG)
      obtain ⟨a, rfl, dpG, len⟩ := rp hsG ok
      refine ⟨q, _, rfl, Same.tup sG hq, rfl, _, _, rfl, _, _, rfl, rfl, ?_⟩
      refine ⟨_, rfl, a, specD k.2, _, rfl, dpG, spec_shaped _, spec_show ok, len, rfl, _, rfl, d, _, rfl, DGet.k (k := keyS k.2) hG, _, rfl, ?_⟩
      have tk : ∀ kvs' : List (Key × V), (∀ k', (valV kvs k').isSome = true → (valV kvs' k').isSome = true) → (valV kvs' (keyS k.2)).isSome = true → ∀ k' ∈ ks.take (j + 1), (valV kvs' (keyS k'.2)).isSome = true := fun kvs' h1 h2 k' hk' => by
        rw [List.take_succ, ek] at hk'
        rcases List.mem_append.mp hk' with hk' | hk'
        · exact h1 _ (al k' hk')
        · rw [List.mem_singleton.mp hk']
          exact h2
      cases z : valV kvs (keyS k.2) with
      | some v =>
        refine iteF_ rfl ?_
        exact ⟨_, _, kvs, rfl, hG, sG, dic, by omega, tk kvs (fun _ h => h) (by rw [z]; rfl)⟩
      | none =>
        refine iteT_ rfl ?_
        refine ⟨_, rfl, _, k.2, rfl, hsG, ok, fun n G1 fn s1 hn => ?_⟩
        have hs1 := hsG.kt (KT.same s1)
        refine ⟨_, rfl, _, rfl, a, specD k.2, _, rfl, hs1, spec_shaped _, spec_show ok, len, rfl, d, _, rfl, DPut.k (k := keyS k.2) (s1 _ _ hG) ?_, ?_⟩
        · exact Nat.lt_of_le_of_lt (show kvs.length ≤ 24 by omega) (by decide)
        rw [putK_new z]
        refine ⟨_, _, kvs ++ [(keyS k.2, .ref n)], rfl, upd_same, Same.past (sG.trans s1) hd, ?_, ?_, tk _ (fun k' h => ?_) ?_⟩
        · intro e he
          rcases List.mem_append.mp he with he | he
          · obtain ⟨sp, a, h1, h2, h3⟩ := dic e he
            exact ⟨sp, a, h1, h2, (h3.keep s1).lk (s1 _ _ hG)⟩
          · rw [List.mem_singleton.mp he]
            exact ⟨k.2, n, rfl, ok, hn.lk (s1 _ _ hG)⟩
        · rw [List.length_append]
          exact Nat.succ_le_succ kl
        · rw [valV_put z, h]
          rfl
        · rw [valV_put z, decide_eq_true rfl, Bool.or_true]
    · rintro σ G ⟨w2, w3, kvs, rfl, hG, sG, dic, kl, al⟩
      rw [kvl, List.take_length] at al
      refine ⟨_, rfl, l, rfl, ⟨_, SqL.of (sG _ _ hl)⟩, fun D hD => ?_⟩
      refine lc_list (xs := kv) (fun j H' => (∃ (qs : List V) (nm : List Nm), H' D = some (.lst qs) ∧ Al (PairAt K H') qs nm ∧ Al (NmK K cl dd G) nm (ks.take j)) ∧ Same G H') ⟨⟨[], [], upd_same, trivial, by rw [List.take_zero]; exact trivial⟩, Same.past (Same.refl _) hD⟩ (fun j H' _ e => SqL.of (e.2 _ _ (sG _ _ hl))) (fun j v H' ev e => ?_) (fun H2 e => ?_)
      · obtain ⟨⟨qs, nm, hq0, alq, aln⟩, sm⟩ := e
        obtain ⟨k, ek, dkj⟩ := DpAll.map dk ev
        have ok := oks k (List.mem_of_getElem? ek)
        obtain ⟨q, sv, rfl, hq, hs⟩ := knot_inv dkj
        have jl := (List.getElem?_eq_some_iff.mp ek).1
        have hs1 := hs.kt (KT.same (sG.trans sm))
        obtain ⟨a, rfl, dp1, len⟩ := rp hs1 ok
        obtain ⟨n, en, hn⟩ := dic.get ok (al k (List.mem_of_getElem? ek))
        refine ⟨q, _, rfl, Same.tup (sG.trans sm) hq, rfl, _, _, rfl, _, _, rfl, rfl, rfl, ?_⟩
        refine yes_ite ?_
        refine ⟨_, rfl, _, rfl, _, rfl, a, specD k.2, _, rfl, dp1, spec_shaped _, spec_show ok, len, rfl, d, _, rfl, (by rw [← en]; exact DGet.k (k := keyS k.2) (sm _ _ hG)), (by show 2 ≤ sizeLine; decide), fun t ht => ?_⟩
        have sT := Same.new (o := .tup [V.str k.1, .ref n]) (Same.refl H') ht
        have nDt : D ≠ t := ne_of_none hq0 ht
        have sU : Same G (upd (upd H' t (.tup [V.str k.1, .ref n])) D (.lst (qs ++ [.ref t]))) := Same.past (sm.trans sT) hD
        have ql := alq.len
        have nl := aln.len
        refine ⟨_, sT _ _ hq0, ?_, ⟨_, nm ++ [⟨k.1, n, infS k.2⟩], upd_same, ?_, ?_⟩, sU⟩
        · rw [List.length_take] at nl
          exact Nat.lt_of_lt_of_le (show qs.length < 100 by omega) (by decide)
        · exact Al.snoc (pair_upd (x := ⟨k.1, n, infS k.2⟩) (sT _ _ hq0) ⟨t, rfl, .inl (.inl upd_same)⟩) (alq.imp fun pp y ⟨q, e, h⟩ => pair_upd (sT _ _ hq0) ⟨q, e, Same.tup sT h⟩)
        · rw [List.take_succ, ek]
          exact Al.snoc ⟨rfl, rfl, hn⟩ aln
      · obtain ⟨⟨qs, nm, hq0, alq, aln⟩, sm⟩ := e
        rw [kvl, List.take_length] at aln
        exact kk D nm G H2 sG hD sm ⟨qs, hq0, alq⟩ aln
end
end Sw
namespace Sw
open PySem PySem.Spec PyProof.Rows L2
/-! ### what nodes give -/
def gvs : Spec → Nat
  | .outlet => 0
  | .up n => n
  | .resample u _ => u
  | .own _ g => g
  | _ => 1
def spGvS (K : PySem.W.Frag) (cl : Srt → Addr) (dd : Addr) (A : Srt) : Sp := fun vs H Q _ => ∃ (a : Addr) (s : Spec), vs = [.ref a] ∧ srt s = A ∧ NodeS K cl dd s a H ∧ Q (.int (gvs s : Int)) H
def spLGives (K : PySem.W.Frag) : Sp := fun vs H Q _ => ∃ (v : V) (s : Spec), vs = [v] ∧ SpecAt K H v s ∧ SpecOk s ∧ ∀ H', Same H H' → Q (.int (gvs s : Int)) H'
section
variable {P : Program} {w : World} {K : PySem.W.Frag} {mg : Str → Option Value} {base : Heap} {f f1 f2 f3 f4 f5 f6 f7 f8 f9 C CN CO CI CW dd : Addr} {cl : Srt → Addr} {fd fd1 fd2 fd3 fd4 fd5 fd6 fd7 fd8 fd9 : FuncData}
abbrev nGainGives : List Str := ["self"]
theorem scGainGives : FnScope nGainGives ["self"] (defScope sGainGives) := ⟨rfl, rfl, rfl, by decide +kernel, rfl, by decide +kernel, by decide +kernel⟩
theorem ok_gainGives (F : FnM K "gives" "Gain.gives" sGainGives f fd) : FnOk P w K mg base CX0 1 f fd ["self"] (spGvS K cl dd .gain) := by
  refine F.ok scGainGives (fun vs H Q E h => ?_) (fun cdv A ou s H vs Q E hr h => ?_)
  · obtain ⟨a, s, rfl, _⟩ := h
    rfl
  · obtain ⟨a, s, rfl, e, ⟨dx, fs, tm, x, ha, nf, htm, au⟩, kk⟩ := h
    have nd := scGainGives.nd
    cases s with
    | gain b l g =>
      refine ⟨_, PSs.nox (pss_one (ps_ret pe_int)), ?_⟩
      exact kk
    | _ => cases e
abbrev nMixGives : List Str := ["self"]
theorem scMixGives : FnScope nMixGives ["self"] (defScope sMixGives) := ⟨rfl, rfl, rfl, by decide +kernel, rfl, by decide +kernel, by decide +kernel⟩
theorem ok_mixGives (F : FnM K "gives" "Mix.gives" sMixGives f fd) : FnOk P w K mg base CX0 1 f fd ["self"] (spGvS K cl dd .mix) := by
  refine F.ok scMixGives (fun vs H Q E h => ?_) (fun cdv A ou s H vs Q E hr h => ?_)
  · obtain ⟨a, s, rfl, _⟩ := h
    rfl
  · obtain ⟨a, s, rfl, e, ⟨dx, fs, tm, x, ha, nf, htm, au⟩, kk⟩ := h
    have nd := scMixGives.nd
    cases s with
    | mix n =>
      refine ⟨_, PSs.nox (pss_one (ps_ret pe_int)), ?_⟩
      exact kk
    | _ => cases e
abbrev nTimesGives : List Str := ["self"]
theorem scTimesGives : FnScope nTimesGives ["self"] (defScope sTimesGives) := ⟨rfl, rfl, rfl, by decide +kernel, rfl, by decide +kernel, by decide +kernel⟩
theorem ok_timesGives (F : FnM K "gives" "Times.gives" sTimesGives f fd) : FnOk P w K mg base CX0 1 f fd ["self"] (spGvS K cl dd .times) := by
  refine F.ok scTimesGives (fun vs H Q E h => ?_) (fun cdv A ou s H vs Q E hr h => ?_)
  · obtain ⟨a, s, rfl, _⟩ := h
    rfl
  · obtain ⟨a, s, rfl, e, ⟨dx, fs, tm, x, ha, nf, htm, au⟩, kk⟩ := h
    have nd := scTimesGives.nd
    cases s with
    | times =>
      refine ⟨_, PSs.nox (pss_one (ps_ret pe_int)), ?_⟩
      exact kk
    | _ => cases e
abbrev nChooseGives : List Str := ["self"]
theorem scChooseGives : FnScope nChooseGives ["self"] (defScope sChooseGives) := ⟨rfl, rfl, rfl, by decide +kernel, rfl, by decide +kernel, by decide +kernel⟩
theorem ok_chooseGives (F : FnM K "gives" "Choose.gives" sChooseGives f fd) : FnOk P w K mg base CX0 1 f fd ["self"] (spGvS K cl dd .choose) := by
  refine F.ok scChooseGives (fun vs H Q E h => ?_) (fun cdv A ou s H vs Q E hr h => ?_)
  · obtain ⟨a, s, rfl, _⟩ := h
    rfl
  · obtain ⟨a, s, rfl, e, ⟨dx, fs, tm, x, ha, nf, htm, au⟩, kk⟩ := h
    have nd := scChooseGives.nd
    cases s with
    | choose =>
      refine ⟨_, PSs.nox (pss_one (ps_ret pe_int)), ?_⟩
      exact kk
    | _ => cases e
abbrev nUpGives : List Str := ["self"]
theorem scUpGives : FnScope nUpGives ["self"] (defScope sUpGives) := ⟨rfl, rfl, rfl, by decide +kernel, rfl, by decide +kernel, by decide +kernel⟩
theorem ok_upGives (F : FnM K "gives" "Up.gives" sUpGives f fd) (T : NodeC K (cl .up)) (nM : NoAttr K (cl .up) "many") : FnOk P w K mg base CX0 1 f fd ["self"] (spGvS K cl dd .up) := by
  refine F.ok scUpGives (fun vs H Q E h => ?_) (fun cdv A ou s H vs Q E hr h => ?_)
  · obtain ⟨a, s, rfl, _⟩ := h
    rfl
  · obtain ⟨a, s, rfl, e, ⟨dx, fs, tm, x, ha, nf, htm, au⟩, kk⟩ := h
    have nd := scUpGives.nd
    cases s with
    | up n =>
      refine ⟨_, PSs.nox (pss_one (ps_ret (pe_fld (pv 0) rfl))), ?_⟩
      exact ⟨_, rfl, a, _, dx, _, _, rfl, ha, T.cl, nM, nf.fld _ _ rfl, kk⟩
    | _ => cases e
abbrev nDownGives : List Str := ["self"]
theorem scDownGives : FnScope nDownGives ["self"] (defScope sDownGives) := ⟨rfl, rfl, rfl, by decide +kernel, rfl, by decide +kernel, by decide +kernel⟩
theorem ok_downGives (F : FnM K "gives" "Down.gives" sDownGives f fd) : FnOk P w K mg base CX0 1 f fd ["self"] (spGvS K cl dd .down) := by
  refine F.ok scDownGives (fun vs H Q E h => ?_) (fun cdv A ou s H vs Q E hr h => ?_)
  · obtain ⟨a, s, rfl, _⟩ := h
    rfl
  · obtain ⟨a, s, rfl, e, ⟨dx, fs, tm, x, ha, nf, htm, au⟩, kk⟩ := h
    have nd := scDownGives.nd
    cases s with
    | down n =>
      refine ⟨_, PSs.nox (pss_one (ps_ret pe_int)), ?_⟩
      exact kk
    | _ => cases e
abbrev nResampleGives : List Str := ["self"]
theorem scResampleGives : FnScope nResampleGives ["self"] (defScope sResampleGives) := ⟨rfl, rfl, rfl, by decide +kernel, rfl, by decide +kernel, by decide +kernel⟩
theorem ok_resampleGives (F : FnM K "gives" "Resample.gives" sResampleGives f fd) (T : NodeC K (cl .resample)) (nM : NoAttr K (cl .resample) "up") : FnOk P w K mg base CX0 1 f fd ["self"] (spGvS K cl dd .resample) := by
  refine F.ok scResampleGives (fun vs H Q E h => ?_) (fun cdv A ou s H vs Q E hr h => ?_)
  · obtain ⟨a, s, rfl, _⟩ := h
    rfl
  · obtain ⟨a, s, rfl, e, ⟨dx, fs, tm, x, ha, nf, htm, au⟩, kk⟩ := h
    have nd := scResampleGives.nd
    cases s with
    | resample u d =>
      refine ⟨_, PSs.nox (pss_one (ps_ret (pe_fld (pv 0) rfl))), ?_⟩
      exact ⟨_, rfl, a, _, dx, _, _, rfl, ha, T.cl, nM, nf.fld _ _ rfl, kk⟩
    | _ => cases e
abbrev nOwnGives : List Str := ["self"]
theorem scOwnGives : FnScope nOwnGives ["self"] (defScope sOwnGives) := ⟨rfl, rfl, rfl, by decide +kernel, rfl, by decide +kernel, by decide +kernel⟩
theorem ok_ownGives (F : FnM K "gives" "Own.gives" sOwnGives f fd) (T : NodeC K (cl .own)) (nM : NoAttr K (cl .own) "given") : FnOk P w K mg base CX0 1 f fd ["self"] (spGvS K cl dd .own) := by
  refine F.ok scOwnGives (fun vs H Q E h => ?_) (fun cdv A ou s H vs Q E hr h => ?_)
  · obtain ⟨a, s, rfl, _⟩ := h
    rfl
  · obtain ⟨a, s, rfl, e, ⟨dx, fs, tm, x, ha, nf, htm, au⟩, kk⟩ := h
    have nd := scOwnGives.nd
    cases s with
    | own ts g =>
      refine ⟨_, PSs.nox (pss_one (ps_ret (pe_fld (pv 0) rfl))), ?_⟩
      exact ⟨_, rfl, a, _, dx, _, _, rfl, ha, T.cl, nM, nf.fld _ _ rfl, kk⟩
    | _ => cases e
abbrev nOutletGives : List Str := ["self"]
theorem scOutletGives : FnScope nOutletGives ["self"] (defScope sOutletGives) := ⟨rfl, rfl, rfl, by decide +kernel, rfl, by decide +kernel, by decide +kernel⟩
theorem ok_outletGives (F : FnM K "gives" "Outlet.gives" sOutletGives f fd) : FnOk P w K mg base CX0 1 f fd ["self"] (spGvS K cl dd .outlet) := by
  refine F.ok scOutletGives (fun vs H Q E h => ?_) (fun cdv A ou s H vs Q E hr h => ?_)
  · obtain ⟨a, s, rfl, _⟩ := h
    rfl
  · obtain ⟨a, s, rfl, e, ⟨dx, fs, tm, x, ha, nf, htm, au⟩, kk⟩ := h
    have nd := scOutletGives.nd
    cases s with
    | outlet =>
      refine ⟨_, PSs.nox (pss_one (ps_ret pe_int)), ?_⟩
      exact kk
    | _ => cases e
abbrev nInletGives : List Str := ["self"]
theorem scInletGives : FnScope nInletGives ["self"] (defScope sInletGives) := ⟨rfl, rfl, rfl, by decide +kernel, rfl, by decide +kernel, by decide +kernel⟩
theorem ok_inletGives (F : FnM K "gives" "Inlet.gives" sInletGives f fd) : FnOk P w K mg base CX0 1 f fd ["self"] (spGvS K cl dd .inlet) := by
  refine F.ok scInletGives (fun vs H Q E h => ?_) (fun cdv A ou s H vs Q E hr h => ?_)
  · obtain ⟨a, s, rfl, _⟩ := h
    rfl
  · obtain ⟨a, s, rfl, e, ⟨dx, fs, tm, x, ha, nf, htm, au⟩, kk⟩ := h
    have nd := scInletGives.nd
    cases s with
    | inlet =>
      refine ⟨_, PSs.nox (pss_one (ps_ret pe_int)), ?_⟩
      exact kk
    | _ => cases e
abbrev nLGives : List Str := ["_law_spec_here"]
theorem scLGives : FnScope nLGives ["_law_spec_here"] (defScope sLGives) := ⟨rfl, rfl, rfl, by decide +kernel, rfl, by decide +kernel, by decide +kernel⟩
theorem ok_lGives (F : FnP K "_law_gives" sLGives f fd) : FnOk P w K mg base CX0 1 f fd ["_law_spec_here"] (spLGives K) := by
  refine F.ok scLGives (fun vs H Q E h => ?_) (fun cdv A ou s H vs Q E hr h => ?_)
  · obtain ⟨v, s, rfl, _⟩ := h
    rfl
  · obtain ⟨v, s, rfl, hs, ok, kk⟩ := h
    have nd := scLGives.nd
    refine ⟨_, PSs.nox (pss_cons (ps_if (pt_cmpR op_in_seq (pe_ix ix_tup (pv 0) pe_int (fun _ _ => rfl)) (pe_tup (pa_cons pe_str (pa_cons pe_str (pa_cons pe_str pa_nil)))) rfl) (pss_one (ps_ret (pe_ifExp (pt_cmpR op_ne (pe_ix ix_tup (pv 0) pe_int (fun _ _ => rfl)) pe_str (nomark _)) (pe_ix ix_tup (pv 0) pe_int (fun _ _ => rfl)) (pe_ix ix_tup (pv 0) pe_int (fun _ _ => rfl))))) pss_nil)
      (pss_one (ps_ret (pe_ifExp (pt_cmpR op_eq (pe_ix ix_tup (pv 0) pe_int (fun _ _ => rfl)) pe_str (nomark _)) pe_int pe_int)))), ?_⟩
    obtain ⟨q, xs, rfl, hq, sv⟩ := hs.inv
    obtain ⟨r, exs⟩ := sv.tag
    have hq0 := hq
    rw [exs] at hq0
    refine ⟨_, rfl, q, _, _, _, rfl, rfl, hq0, atI_nat (j := 0) rfl, (by show 3 ≤ sizeLine; decide), fun t1 ht1 => ?_⟩
    have s1 := Same.new (o := .tup [V.str "up", V.str "resample", V.str "own"]) (Same.refl H) ht1
    refine ⟨t1, _, rfl, .inr (.inl (.inl upd_same)), rfl, rfl, _, rfl, ?_⟩
    have k1 : KT K H (upd H t1 (.tup [V.str "up", V.str "resample", V.str "own"])) := KT.same s1
    generalize upd H t1 (.tup [V.str "up", V.str "resample", V.str "own"]) = H1 at s1 k1
    cases s with
    | gain b l g =>
      obtain rfl := sv
      refine iteF_ (by show (if false = true then !inV (V.str "gain") [V.str "up", V.str "resample", V.str "own"] else inV (V.str "gain") [V.str "up", V.str "resample", V.str "own"]) = false; decide +kernel) ?_
      refine ⟨_, rfl, q, _, _, _, rfl, rfl, k1 _ _ hq, atI_nat (j := 0) rfl, rfl, _, rfl, ?_⟩
      exact iteF_ (by decide +kernel) (kk H1 s1)
    | mix n =>
      obtain rfl := sv
      refine iteF_ (by show (if false = true then !inV (V.str "mix") [V.str "up", V.str "resample", V.str "own"] else inV (V.str "mix") [V.str "up", V.str "resample", V.str "own"]) = false; decide +kernel) ?_
      refine ⟨_, rfl, q, _, _, _, rfl, rfl, k1 _ _ hq, atI_nat (j := 0) rfl, rfl, _, rfl, ?_⟩
      exact iteF_ (by decide +kernel) (kk H1 s1)
    | times =>
      obtain rfl := sv
      refine iteF_ (by show (if false = true then !inV (V.str "times") [V.str "up", V.str "resample", V.str "own"] else inV (V.str "times") [V.str "up", V.str "resample", V.str "own"]) = false; decide +kernel) ?_
      refine ⟨_, rfl, q, _, _, _, rfl, rfl, k1 _ _ hq, atI_nat (j := 0) rfl, rfl, _, rfl, ?_⟩
      exact iteF_ (by decide +kernel) (kk H1 s1)
    | choose =>
      obtain rfl := sv
      refine iteF_ (by show (if false = true then !inV (V.str "choose") [V.str "up", V.str "resample", V.str "own"] else inV (V.str "choose") [V.str "up", V.str "resample", V.str "own"]) = false; decide +kernel) ?_
      refine ⟨_, rfl, q, _, _, _, rfl, rfl, k1 _ _ hq, atI_nat (j := 0) rfl, rfl, _, rfl, ?_⟩
      exact iteF_ (by decide +kernel) (kk H1 s1)
    | up n =>
      obtain rfl := sv
      refine iteT_ (by show (if false = true then !inV (V.str "up") [V.str "up", V.str "resample", V.str "own"] else inV (V.str "up") [V.str "up", V.str "resample", V.str "own"]) = true; decide +kernel) ?_
      refine ⟨_, rfl, q, _, _, _, rfl, rfl, k1 _ _ hq, atI_nat (j := 0) rfl, rfl, _, rfl, ?_⟩
      refine iteT_ (by decide +kernel) ?_
      exact ⟨_, rfl, q, _, _, _, rfl, rfl, k1 _ _ hq, atI_nat (j := 1) rfl, kk H1 s1⟩
    | down n =>
      obtain rfl := sv
      refine iteF_ (by show (if false = true then !inV (V.str "down") [V.str "up", V.str "resample", V.str "own"] else inV (V.str "down") [V.str "up", V.str "resample", V.str "own"]) = false; decide +kernel) ?_
      refine ⟨_, rfl, q, _, _, _, rfl, rfl, k1 _ _ hq, atI_nat (j := 0) rfl, rfl, _, rfl, ?_⟩
      exact iteF_ (by decide +kernel) (kk H1 s1)
    | resample u d =>
      obtain rfl := sv
      refine iteT_ (by show (if false = true then !inV (V.str "resample") [V.str "up", V.str "resample", V.str "own"] else inV (V.str "resample") [V.str "up", V.str "resample", V.str "own"]) = true; decide +kernel) ?_
      refine ⟨_, rfl, q, _, _, _, rfl, rfl, k1 _ _ hq, atI_nat (j := 0) rfl, rfl, _, rfl, ?_⟩
      refine iteT_ (by decide +kernel) ?_
      exact ⟨_, rfl, q, _, _, _, rfl, rfl, k1 _ _ hq, atI_nat (j := 1) rfl, kk H1 s1⟩
    | own ts g =>
      obtain ⟨tq, rfl, htq⟩ := sv
      refine iteT_ (by show (if false = true then !inV (V.str "own") [V.str "up", V.str "resample", V.str "own"] else inV (V.str "own") [V.str "up", V.str "resample", V.str "own"]) = true; decide +kernel) ?_
      refine ⟨_, rfl, q, _, _, _, rfl, rfl, k1 _ _ hq, atI_nat (j := 0) rfl, rfl, _, rfl, ?_⟩
      refine iteF_ (by decide +kernel) ?_
      exact ⟨_, rfl, q, _, _, _, rfl, rfl, k1 _ _ hq, atI_nat (j := 2) rfl, kk H1 s1⟩
    | outlet =>
      obtain rfl := sv
      refine iteF_ (by show (if false = true then !inV (V.str "outlet") [V.str "up", V.str "resample", V.str "own"] else inV (V.str "outlet") [V.str "up", V.str "resample", V.str "own"]) = false; decide +kernel) ?_
      refine ⟨_, rfl, q, _, _, _, rfl, rfl, k1 _ _ hq, atI_nat (j := 0) rfl, rfl, _, rfl, ?_⟩
      exact iteT_ (by decide +kernel) (kk H1 s1)
    | inlet =>
      obtain rfl := sv
      refine iteF_ (by show (if false = true then !inV (V.str "inlet") [V.str "up", V.str "resample", V.str "own"] else inV (V.str "inlet") [V.str "up", V.str "resample", V.str "own"]) = false; decide +kernel) ?_
      refine ⟨_, rfl, q, _, _, _, rfl, rfl, k1 _ _ hq, atI_nat (j := 0) rfl, rfl, _, rfl, ?_⟩
      exact iteF_ (by decide +kernel) (kk H1 s1)
end
end Sw
namespace Sw
open PySem PySem.Spec PyProof.Rows L2
/-! ### a node is put in the place of another one -/
theorem WvOk.congr {nm nm' : List Nm} {ws : List Wr} (ok : WvOk nm ws) (e : nm'.map (fun x => (x.name, x.inf)) = nm.map (fun x => (x.name, x.inf))) : WvOk nm' ws := by
  have en : nm'.map Nm.name = nm.map Nm.name := by
    have := congrArg (List.map Prod.fst) e
    rw [List.map_map, List.map_map] at this
    exact this
  have ln : nm'.length = nm.length := by
    have := congrArg List.length e
    rw [List.length_map, List.length_map] at this
    exact this
  have to : ∀ x ∈ nm, ∃ y ∈ nm', y.name = x.name ∧ y.inf = x.inf := fun x hx => by
    have : (x.name, x.inf) ∈ nm'.map (fun x => (x.name, x.inf)) := by
      rw [e]
      exact List.mem_map.mpr ⟨x, hx, rfl⟩
    obtain ⟨y, hy, z⟩ := List.mem_map.mp this
    exact ⟨y, hy, congrArg Prod.fst z, congrArg Prod.snd z⟩
  have fro : ∀ y ∈ nm', ∃ x ∈ nm, x.name = y.name ∧ x.inf = y.inf := fun y hy => by
    have : (y.name, y.inf) ∈ nm.map (fun x => (x.name, x.inf)) := by
      rw [← e]
      exact List.mem_map.mpr ⟨y, hy, rfl⟩
    obtain ⟨x, hx, z⟩ := List.mem_map.mp this
    exact ⟨x, hx, congrArg Prod.fst z, congrArg Prod.snd z⟩
  refine ⟨⟨by rw [ln]; exact ok.nms.few, fun y hy => ?_, by rw [en]; exact ok.nms.nd⟩, ok.few, fun c hc => ?_, fun c hc => ?_, ok.del, ok.one, fun y hy p hp => ?_, fun y hy => ?_⟩
  · obtain ⟨x, hx, e1, _⟩ := fro y hy
    rw [← e1]
    exact ok.nms.ok x hx
  · obtain ⟨x, hx, e1, o⟩ := ok.src c hc
    obtain ⟨y, hy, e2, e3⟩ := to x hx
    exact ⟨y, hy, e2.trans e1, by rw [e3]; exact o⟩
  · obtain ⟨x, hx, e1, o⟩ := ok.goal c hc
    obtain ⟨y, hy, e2, e3⟩ := to x hx
    exact ⟨y, hy, e2.trans e1, by rw [e3]; exact o⟩
  · obtain ⟨x, hx, e1, e2⟩ := fro y hy
    rw [← e1]
    exact ok.all x hx p (by rw [e2]; exact hp)
  · obtain ⟨x, hx, e1, _⟩ := fro y hy
    rw [← e1]
    have all : ∀ {s : Str}, Reach nm ws s → Reach nm' ws s := fun {s} r => by
      induction r with
      | inl h i =>
        obtain ⟨y, hy, e2, e3⟩ := to _ h
        rw [← e2]
        exact .inl hy (by rw [e3]; exact i)
      | step h _ ih => exact .step h ih
    exact all (ok.reach x hx)
theorem gv_out {s : Spec} (ok : SpecOk s) : gvs s = 0 ↔ isOut s = true := by
  cases s with
  | up n =>
    have : Dig n := ok
    exact ⟨fun z => absurd (show n = 0 from z) (by have := this.1; omega), fun z => by cases z⟩
  | resample u d =>
    have : Dig u ∧ Dig d := ok
    exact ⟨fun z => absurd (show u = 0 from z) (by have := this.1.1; omega), fun z => by cases z⟩
  | own ts g =>
    obtain ⟨_, _, _, h⟩ := ok
    exact ⟨fun z => absurd (show g = 0 from z) (by have := h.1; omega), fun z => by cases z⟩
  | outlet => exact ⟨fun _ => rfl, fun _ => rfl⟩
  | _ => exact ⟨fun z => absurd (show (1 : Nat) = 0 from z) (by decide), fun z => by cases z⟩
theorem tk_inl {s : Spec} (ok : SpecOk s) : tks s = [] ↔ isInl s = true := by
  cases s with
  | mix n =>
    have : Dig n := ok
    refine ⟨fun z => ?_, fun z => by cases z⟩
    have z' : List.replicate n 1 = [] := z
    have := congrArg List.length z'
    rw [List.length_replicate] at this
    have h : n = 0 := this
    have := (show Dig n from ok).1
    omega
  | own ts g =>
    obtain ⟨h, _⟩ := ok
    refine ⟨fun z => ?_, fun z => by cases z⟩
    have z' : ts = [] := z
    rw [z'] at h
    exact absurd h (by decide)
  | inlet => exact ⟨fun _ => rfl, fun _ => rfl⟩
  | _ => exact ⟨fun z => absurd (show _ = [] from z) (by simp [tks]), fun z => by cases z⟩
theorem inf_like {s t : Spec} (ok : SpecOk s) (ok' : SpecOk t) (e1 : tks s = tks t) (e2 : gvs s = gvs t) : infS s = infS t := by
  have a : isOut s = isOut t := by
    cases h : isOut s with
    | true =>
      have := (gv_out ok).mpr h
      rw [e2] at this
      exact ((gv_out ok').mp this).symm
    | false =>
      cases h' : isOut t with
      | true =>
        have := (gv_out ok').mpr h'
        rw [← e2] at this
        rw [(gv_out ok).mp this] at h
        cases h
      | false => rfl
  have b : isInl s = isInl t := by
    cases h : isInl s with
    | true =>
      have := (tk_inl ok).mpr h
      rw [e1] at this
      exact ((tk_inl ok').mp this).symm
    | false =>
      cases h' : isInl t with
      | true =>
        have := (tk_inl ok').mpr h'
        rw [← e1] at this
        rw [(tk_inl ok).mp this] at h
        cases h
      | false => rfl
  unfold infS
  rw [e1, a, b]
/-- another node by that name -/
def putN (nm : List Nm) (x : Str) (n : Addr) : List Nm := nm.map fun y => if y.name = x then ⟨y.name, n, y.inf⟩ else y
theorem putN_map (nm : List Nm) (x : Str) (n : Addr) : (putN nm x n).map (fun y => (y.name, y.inf)) = nm.map (fun y => (y.name, y.inf)) := by
  unfold putN
  rw [List.map_map]
  refine List.map_congr_left fun y _ => ?_
  show ((if y.name = x then (⟨y.name, n, y.inf⟩ : Nm) else y).name, (if y.name = x then (⟨y.name, n, y.inf⟩ : Nm) else y).inf) = _
  split <;> rfl
def putK0 (ks : List Knot) (x : Str) (s : Spec) : List Knot := ks.map fun k => if k.1 = x then (k.1, s) else k
theorem al_put {K : PySem.W.Frag} {cl : Srt → Addr} {dd : Addr} {H : Hp} {x : Str} {n : Addr} {s : Spec} (hn : NodeS K cl dd s n H) : ∀ {nm : List Nm} {ks : List Knot}, Al (NmK K cl dd H) nm ks → (∀ k ∈ ks, k.1 = x → infS k.2 = infS s) → Al (NmK K cl dd H) (putN nm x n) (putK0 ks x s)
  | [], [], _, _ => trivial
  | y :: nm, k :: ks, h, hi => by
    refine ⟨?_, al_put hn h.2 fun k hk => hi k (List.mem_cons_of_mem _ hk)⟩
    obtain ⟨e1, e2, e3⟩ := h.1
    dsimp only
    by_cases z : k.1 = x
    · rw [if_pos z, if_pos (e1.trans z)]
      exact ⟨e1, by rw [← hi k List.mem_cons_self z]; exact e2, hn⟩
    · rw [if_neg z, if_neg (fun q => z (e1.symm.trans q))]
      exact ⟨e1, e2, e3⟩
  | [], _ :: _, h, _ => h.elim
  | _ :: _, [], h, _ => h.elim
def tkD (ts : List Nat) : PyData := .tuple (ts.map natD)
theorem tk_lay : ∀ ts : List Nat, PyData.canLayAll0 (ts.map natD) = true ∧ PyData.depthAll (ts.map natD) = 0
  | [] => ⟨rfl, by rw [List.map_nil, PyData.depthAll]⟩
  | c :: r => by
    obtain ⟨i1, i2⟩ := tk_lay r
    rw [List.map_cons, PyData.canLayAll0, PyData.depthAll, i1, i2]
    unfold natD
    rw [PyData.canLay0, PyData.depth]
    exact ⟨rfl, rfl⟩
theorem tk_shaped (ts : List Nat) : SeqAt.shaped (tkD ts) = true := by
  obtain ⟨a1, a2⟩ := tk_lay ts
  unfold SeqAt.shaped tkD
  rw [PyData.canLay0, a1, PyData.depth, a2]
  rfl
theorem tk_dp {K : PySem.W.Frag} {H : Hp} : ∀ ts : List Nat, DpAll K H (ts.map fun (n : Nat) => V.int (n : Int)) (ts.map natD)
  | [] => .nil
  | t :: r => .cons (.int _) (tk_dp r)
theorem tk_eqvA : ∀ a b : List Nat, PyData.eqvAll (a.map natD) (b.map natD) = decide (a = b)
  | [], [] => by rw [List.map_nil, PyData.eqvAll]; rfl
  | [], y :: b => by rw [List.map_nil, List.map_cons, PyData.eqvAll]; rfl
  | x :: a, [] => by rw [List.map_nil, List.map_cons, PyData.eqvAll]; rfl
  | x :: a, y :: b => by
    rw [List.map_cons, List.map_cons, PyData.eqvAll, tk_eqvA a b]
    unfold natD
    have e : PyData.eqv (.int (x : Int)) (.int (y : Int)) = decide (x = y) := by
      rw [PyData.eqv]
      by_cases z : x = y
      · rw [z, decide_eq_true rfl]
        exact beq_self_eq_true _
      · rw [decide_eq_false z]
        exact beq_eq_false_iff_ne.mpr (by omega)
    rw [e]
    by_cases z : x = y
    · by_cases q : a = b
      · rw [z, q]
        simp
      · rw [decide_eq_false q, Bool.and_false, decide_eq_false fun h => q (List.cons.inj h).2]
    · rw [decide_eq_false z, Bool.false_and, decide_eq_false fun h => z (List.cons.inj h).1]
theorem tk_eqv (a b : List Nat) : PyData.eqv (tkD a) (tkD b) = decide (a = b) := by
  unfold tkD
  rw [PyData.eqv]
  exact tk_eqvA a b
def spPut (K : PySem.W.Frag) {CN CO CI : Addr} (cl : Srt → Addr) (dd : Addr) (c : ClsS K cl CN CO CI) (CW : Addr) : Sp := fun vs H Q _ => ∃ (p n : Addr) (nm : List Nm) (ws : List Wr) (x : Nm) (s t : Spec), vs = [.ref p, .str x.name, .ref n] ∧ WvAt K (sorts cl dd c) CW H p nm ws ∧ WvOk nm ws ∧ x ∈ nm ∧ NodeS K cl dd s x.adr H ∧ NodeS K cl dd t n H ∧ SpecOk s ∧ SpecOk t ∧ x.inf = infS s ∧ tks t = tks s ∧ gvs t = gvs s ∧ ∀ (q : Addr) (H' : Hp), Same H H' → H q = none → WvAt K (sorts cl dd c) CW H' q (putN nm x.name n) ws → Q (.ref q) H'
section
variable {P : Program} {w : World} {K : PySem.W.Frag} {mg : Str → Option Value} {base : Heap} {f f1 f2 f3 f4 f5 f6 f7 f8 f9 C CN CO CI CW CU dd : Addr} {cl : Srt → Addr} {fd fd1 fd2 fd3 fd4 fd5 fd6 fd7 fd8 fd9 : FuncData}
abbrev nWeavePut : List Str := ["self", "name", "node", "elder", "each"]
theorem scWeavePut : FnScope nWeavePut ["self", "name", "node"] (defScope sWeavePut) := ⟨rfl, rfl, rfl, by decide +kernel, rfl, by decide +kernel, by decide +kernel⟩
theorem ok_put (c : ClsS K cl CN CO CI) (F : FnM K "put" "Weave.put" sWeavePut f fd) (T : WvC K CW) (c0 : Cls K CW)
    (mN : Meth K CW "node" f1) (GN : FnOk P w K mg base CX0 3 f1 fd1 ["self", "name"] (spWvNode K (sorts cl dd c) CW)) (bN : Binds K fd1 ["self", "name"] [])
    (hT : ∀ A, A ∈ allS → MethC P w K mg base 1 "takes" ["self"] (spTkS K cl dd A) (cl A)) (hG : ∀ A, A ∈ allS → MethC P w K mg base 1 "gives" ["self"] (spGvS K cl dd A) (cl A))
    (MW : Mk K CW f2) (GW : FnOk P w K mg base CX0 5 f2 fd2 ["self", "nodes", "wires"] (spWvInit K (sorts cl dd c) CW)) (gW : mg "Weave" = some (.ref CW)) (bW : Binds K fd2 ["self", "nodes", "wires"] [])
    (gN : mg "Node" = some (.ref CN)) (gIs : mg "isinstance" = none) : FnOk P w K mg base CX0 7 f fd ["self", "name", "node"] (spPut K cl dd c CW) := by
  refine F.ok scWeavePut (fun vs H Q E h => ?_) (fun cdv A outer s0 H vs Q E hr h => ?_)
  · obtain ⟨p, n, nm, ws, x, s, t, rfl, _⟩ := h
    rfl
  · obtain ⟨p, n, nm, ws, x, s, t, rfl, wv, ok, xm, ns, nt, oks, okt, xi, e1, e2, kk⟩ := h
    have hu6 := hr.units
    have hu := hu_of hr
    have nd := scWeavePut.nd
    have hr6 : Room 6 _ := hr
    have hr3 : Room 3 _ := hr.mono (by decide)
    have hr1 : Room 1 _ := hr.mono (by decide)
    refine ⟨_, PSs.nox (pss_cons (ps_set (i := 3) nd rfl (Or.inl rfl) (pe_meth (pv 0) c0 mN GN hr3 bN .nil pass0 (pa_cons (pv 1) pa_nil)))
      (pss_cons (ps_if (pt_not (pt_val (pe_callB call_isi (by rfl) gIs boot_isinstance (pa_cons (pv 2) (pa_cons (pe_glob (v := .ref CN) rfl gN rfl) pa_nil))))) pss_never pss_nil)
      (pss_cons (ps_if (PW.pt (pw_or (pt_cmpR (op_neD hu6) (pe_methOf0 (As := allS) (cl := cl) (sp := spTkS K cl dd) (pv 2) hT hr1) (pe_methOf0 (As := allS) (cl := cl) (sp := spTkS K cl dd) (pv 3) hT hr1) (nomark _)) (pw_or1 (pt_cmpR op_ne (pe_methOf0 (As := allS) (cl := cl) (sp := spGvS K cl dd) (pv 2) hG hr1) (pe_methOf0 (As := allS) (cl := cl) (sp := spGvS K cl dd) (pv 3) hG hr1) (nomark _))))) pss_never pss_nil)
      (pss_one (ps_ret (pe_make MW GW hr6 rfl gW bW .nil pass0 (pa_cons (pe_lock (pe_lc (own := [("each", 4)]) (g := (gName 4)) (tt := tYes) rfl nd (pi_keys (pe_fld (pv 0) rfl)) (blkOk_by (N := nWeavePut) (sc := defScope sWeavePut) (by decide +kernel))
        (fun _ _ _ _ _ => (pg_name (i := 4) nd rfl (Or.inl rfl))) (fun _ _ _ _ _ => pts_nil) (fun _ _ _ _ _ => (pe_tup (pa_cons (pv 4) (pa_cons (pe_ifExp (pt_cmpR op_eq (pv 4) (pv 1) (nomark _)) (pv 2) (pe_dget hu (pe_fldK (K := K) rfl (pv 0) rfl) (pv 4) (fun _ _ => rfl))) pa_nil)))))) (pa_cons (pe_fld (pv 0) rfl) pa_nil)))))))), ?_⟩
    obtain ⟨dx, d, dl, ld, dv, hp, wf⟩ := id wv
    have fewN := ok.nms.few
    refine ⟨_, rfl, p, dx, _, rfl, hp, rfl, _, rfl, p, nm, ws, x, rfl, wv, ok.nms, xm, ?_⟩
    obtain ⟨dxn, fsn, hin, ntk, ngv⟩ := nt.no
    obtain ⟨dxs, fss, his, stk, sgv⟩ := ns.no
    refine ⟨_, rfl, _, _, _, _, true, rfl, ClsV.own _, (c.isN _).ty (c.nc _).cl hin, (c.isN _).kit, _, rfl, iteF_ rfl ?_⟩
    -- what they take
    refine ⟨_, rfl, srt t, n, dxn, fsn, mem_allS _, rfl, hin, ntk, n, tks t, rfl, ⟨t, rfl, okt, rfl, nt⟩, fun t1 H1 s1 ht1 => ?_⟩
    refine ⟨_, rfl, srt s, x.adr, dxs, fss, mem_allS _, rfl, s1 _ _ his, stk, x.adr, tks s, rfl, ⟨s, rfl, oks, rfl, ns.keep s1⟩, fun t2 H2 s2 ht2 => ?_⟩
    refine ⟨tkD (tks t), tkD (tks s), .tup (Same.tup s2 ht1) (tk_dp _), .tup ht2 (tk_dp _), tk_shaped _, tk_shaped _, _, rfl, iteF_ ?_ ?_⟩
    · rw [tk_eqv, decide_eq_true e1]
      rfl
    have t2' := s1.trans s2
    -- what they give
    refine ⟨_, rfl, srt t, n, dxn, fsn, mem_allS _, rfl, t2' _ _ hin, ngv, n, t, rfl, rfl, nt.keep t2', ?_⟩
    refine ⟨_, rfl, srt s, x.adr, dxs, fss, mem_allS _, rfl, t2' _ _ his, sgv, x.adr, s, rfl, rfl, ns.keep t2', ?_⟩
    rw [e2]
    refine ⟨rfl, _, rfl, iteF_ ?_ ?_⟩
    · rw [decide_eq_true rfl]
      rfl
    have hd := t2' _ _ wf.named
    have hp2 := t2' _ _ hp
    refine ⟨d, _, hd, trivial, fun oe => ?_⟩
    have hM : (upd H2 d (.frz oe (.dK (dNamed nm)))) d = some (.frz oe (.dK (dNamed nm))) := upd_same
    have hpM : (upd H2 d (.frz oe (.dK (dNamed nm)))) p = some (.ins CW dx (wvF d dl ld dv)) := lock_ne hd hp2 (fun _ z => by cases z)
    have freeM : ∀ {a : Addr}, (upd H2 d (.frz oe (.dK (dNamed nm)))) a = none → H2 a = none := fun {a} e => by
      by_cases z : a = d
      · rw [z, hM] at e
        cases e
      · rw [upd_ne z] at e
        exact e
    generalize eHM : upd H2 d (.frz oe (.dK (dNamed nm))) = HM at hM hpM freeM
    refine ⟨_, rfl, p, CW, dx, _, _, rfl, hpM, T.cl, T.n1, rfl, d, oe, rfl, .inl ⟨_, hM, fun st hst => ?_⟩⟩
    have nsd : st ≠ d := (ne_of_none hM hst).symm
    refine lc_it (walk_keys (d := d) (o := oe) (kvs := dNamed nm)) (fun j H' => (∃ qs, H' st = some (.lst qs) ∧ Al (PairAt K H') qs (putN (nm.take j) x.name n)) ∧ Same HM H') ⟨⟨[], upd_same, by rw [List.take_zero]; exact trivial⟩, Same.past (Same.refl _) hst⟩ (fun j H' _ e => e.2 _ _ hM) (fun j v H' H'' hj e y => ?_) (fun H3 e => ?_)
    · obtain ⟨⟨qs, hs1, al⟩, sm⟩ := e
      obtain ⟨rfl, k, v', ek, rfl⟩ := y
      obtain ⟨y, ey, rfl, rfl⟩ := dNamed_get ek
      have ym : y ∈ nm := List.mem_of_getElem? ey
      have stp : putN (nm.take (j + 1)) x.name n = putN (nm.take j) x.name n ++ [if y.name = x.name then ⟨y.name, n, y.inf⟩ else y] := by
        unfold putN
        rw [List.take_succ, ey, List.map_append]
        rfl
      have ll : (putN (nm.take j) x.name n).length ≤ 24 := by
        unfold putN
        rw [List.length_map, List.length_take]
        omega
      have fin : ∀ (b : Addr), (if y.name = x.name then (⟨y.name, n, y.inf⟩ : Nm) else y) = ⟨y.name, b, y.inf⟩ → 2 ≤ sizeLine ∧ ∀ t, H'' t = none → ∃ acc, upd H'' t (.tup [V.str y.name, .ref b]) st = some (.lst acc) ∧ acc.length < sizeLine ∧ (∃ qs, upd (upd H'' t (.tup [V.str y.name, .ref b])) st (.lst (acc ++ [.ref t])) st = some (.lst qs) ∧ Al (PairAt K (upd (upd H'' t (.tup [V.str y.name, .ref b])) st (.lst (acc ++ [.ref t])))) qs (putN (nm.take (j + 1)) x.name n)) ∧ Same HM (upd (upd H'' t (.tup [V.str y.name, .ref b])) st (.lst (acc ++ [.ref t]))) := fun b eb => by
        refine ⟨by decide, fun t ht => ?_⟩
        have sT := Same.new (o := .tup [V.str y.name, .ref b]) (Same.refl H'') ht
        refine ⟨_, sT _ _ hs1, ?_, ⟨_, upd_same, ?_⟩, Same.past (sm.trans sT) hst⟩
        · rw [al.len]
          exact Nat.lt_of_le_of_lt ll (by decide)
        · rw [stp, eb]
          exact Al.snoc (pair_upd (sT _ _ hs1) ⟨t, rfl, .inl (.inl upd_same)⟩) (al.imp fun pp y ⟨q, e, h⟩ => pair_upd (sT _ _ hs1) ⟨q, e, Same.tup sT h⟩)
      refine ⟨rfl, yes_ite ?_⟩
      refine ⟨_, rfl, _, rfl, _, rfl, rfl, _, rfl, ite2 (fun z => ?_) (fun z => ?_)⟩
      · have z : y.name = x.name := V.str.inj (of_decide_eq_true z)
        exact ⟨_, rfl, fin n (if_pos z)⟩
      · have z : y.name ≠ x.name := fun q => z (decide_eq_true (by rw [q]; rfl))
        exact ⟨_, rfl, p, CW, dx, _, _, rfl, sm _ _ hpM, T.cl, T.n1, rfl, _, rfl, d, _, rfl, .inl ⟨_, Sum.inr y.name, .inr ⟨oe, sm _ _ hM⟩, rfl, (valV_named ok.nms.nd ym).symm⟩, fin y.adr (if_neg z)⟩
    obtain ⟨⟨qs, hs1, al⟩, sm⟩ := e
    have dn : (dNamed nm).length = nm.length := by
      unfold dNamed
      rw [List.length_map]
    rw [dn, List.take_length] at al
    refine ⟨sm _ _ hM, ?_⟩
    have u3 : Same H2 (upd H3 d (.dK (dNamed nm))) := unlock hd (eHM ▸ sm)
    have pr3 : PairsAt K (upd H3 d (.dK (dNamed nm))) st (putN nm x.name n) := ⟨qs, by rw [upd_ne nsd]; exact hs1, al.imp fun pp y h => pair_unl (sm _ _ hM) h⟩
    generalize upd H3 d (.dK (dNamed nm)) = H4 at u3 pr3
    have t4 := t2'.trans u3
    refine ⟨_, rfl, p, CW, dx, _, _, rfl, t4 _ _ hp, T.cl, T.n3, rfl, ?_⟩
    have ndB : Nodes (sorts cl dd c) (putN nm x.name n) H4 := fun y hy => by
      unfold putN at hy
      obtain ⟨y0, hy0, rfl⟩ := List.mem_map.mp hy
      split
      · rename_i z
        have yx : y0 = x := nm_inj ok.nms.nd hy0 xm z
        rw [yx, xi, inf_like oks okt e1.symm e2.symm]
        exact (nt.keep t4).inn okt
      · exact (wf.nodes y0 hy0).keep t4
    exact fun q dxq nq ndq neq => ⟨H4, q, dxq, st, ld, putN nm x.name n, ws, rfl, Same.new (Same.new (Same.refl H4) ndq) (by rw [upd_ne neq.symm]; exact nq), nq, upd_same, pr3, wf.laid.keep t4, ok.congr (putN_map _ _ _), ndB, fun G sG wvn => ⟨rfl, kk q G (t4.trans sG) (t4.free nq) wvn.at⟩⟩
end
end Sw
namespace Sw
open PySem PySem.Spec PyProof.Rows L2
/-- what is not in B stays -/
def KN (B G F : Hp) : Prop := ∀ b o, B b = none → G b = some o → F b = some o
theorem KN.same {B G F : Hp} (s : Same G F) : KN B G F := fun b o _ e => s b o e
theorem KN.trans {B G F F' : Hp} (h : KN B G F) (h' : KN B F F') : KN B G F' := fun b o n e => h' b o n (h b o n e)
theorem KN.upd {B F : Hp} {q : Addr} {u o : HO} (h : B q = some u) : KN B F (L2.upd F q o) := fun b v n e => by
  rw [upd_ne (fun z => by rw [z, h] at n; cases n)]
  exact e
theorem WvAtN.to {K : PySem.W.Frag} {CN CO CI CW : Addr} {S : Sorts K CN CO CI} {B G F : Hp} {p : Addr} {nm : List Nm} {ws : List Wr} (h : WvAtN K S CW B G p nm ws) (bp : B p = none) (k : KN B G F) (kt : KT K G F) (nodes : Nodes S nm F) : WvAt K S CW F p nm ws := by
  obtain ⟨dx, d, dl, ld, dv, hp, wf, n1, n2, n3, n4, ⟨l1, li1⟩, l2, li2⟩ := h
  refine ⟨dx, d, dl, ld, dv, k _ _ bp hp, k _ _ n1 wf.named, ⟨l1, k _ _ n2 li1.hd, li1.len, li1.nd, fun a h => ⟨rfl, (li1.new a h).2⟩, fun i x la e1 e2 => k _ _ (li1.new la (List.mem_of_getElem? e2)).1 (li1.at_ i x la e1 e2)⟩, ?_, ⟨l2, k _ _ n4 li2.hd, li2.len, li2.nd, fun a h => ⟨rfl, (li2.new a h).2⟩, fun i x la e1 e2 => k _ _ (li2.new la (List.mem_of_getElem? e2)).1 (li2.at_ i x la e1 e2)⟩, nodes⟩
  obtain ⟨ps, h1, al⟩ := wf.laid
  exact ⟨ps, k _ _ n3 h1, al.imp fun v w ⟨q, e, h⟩ => ⟨q, e, kt _ _ h⟩⟩
theorem NodeS.kept {K : PySem.W.Frag} {cl : Srt → Addr} {dd a p : Addr} {s : Spec} {H H1 : Hp} (h : NodeS K cl dd s a H) (k : Kept p H H1) (hp : PotAt H p) : NodeS K cl dd s a H1 := by
  obtain ⟨dx, fs, tm, x, h1, h2, h3, h4⟩ := h
  obtain ⟨u, v, g1, g2, g3, g4⟩ := id hp
  refine ⟨dx, fs, tm, x, k.at g4 h1 (fun z => by cases z), h2, k.tup hp h3, ?_⟩
  cases s with
  | own ts g => exact k.tup hp h4
  | resample u d => exact k.at g4 h4 (fun z => by injection z with z; exact absurd (congrArg List.length z) (by simp))
  | _ => trivial
theorem nodes_of {K : PySem.W.Frag} {CN CO CI : Addr} {cl : Srt → Addr} {dd : Addr} {c : ClsS K cl CN CO CI} {H : Hp} {nm : List Nm} {ks : List Knot} (h : Al (NmK K cl dd H) nm ks) (ok : ∀ k ∈ ks, SpecOk k.2) : Nodes (sorts cl dd c) nm H := fun x hx => by
  obtain ⟨i, ei⟩ := List.getElem?_of_mem hx
  obtain ⟨k, ek, _, e, n⟩ := h.get ei
  rw [e]
  exact n.inn (ok k (List.mem_of_getElem? ek))
/-! ### wires with other delays -/
def delW (ws : List Wr) (ds : List Nat) : List Wr := List.zipWith (fun c d => (⟨c.src, c.goal, c.place, d⟩ : Wr)) ws ds
theorem delW_len {ws : List Wr} {ds : List Nat} (h : ds.length = ws.length) : (delW ws ds).length = ws.length := by
  unfold delW
  rw [List.length_zipWith, h, Nat.min_self]
theorem delW_get {ws : List Wr} {ds : List Nat} {j : Nat} {c : Wr} {d : Nat} (e : ws[j]? = some c) (e' : ds[j]? = some d) : (delW ws ds)[j]? = some ⟨c.src, c.goal, c.place, d⟩ := by
  unfold delW
  rw [List.getElem?_zipWith, e, e']
theorem delW_inv {ws : List Wr} {ds : List Nat} (h : ds.length = ws.length) {j : Nat} {w : Wr} (e : (delW ws ds)[j]? = some w) : ∃ c d, ws[j]? = some c ∧ ds[j]? = some d ∧ w = ⟨c.src, c.goal, c.place, d⟩ := by
  have jl := (List.getElem?_eq_some_iff.mp e).1
  rw [delW_len h] at jl
  have e1 : ws[j]? = some ws[j] := List.getElem?_eq_getElem jl
  have e2 : ds[j]? = some (ds[j]'(by omega)) := List.getElem?_eq_getElem (by omega)
  rw [delW_get e1 e2] at e
  exact ⟨_, _, e1, e2, (Option.some.inj e).symm⟩
theorem delW_to {ws : List Wr} {ds : List Nat} (h : ds.length = ws.length) {c : Wr} (hc : c ∈ ws) : ∃ d, (⟨c.src, c.goal, c.place, d⟩ : Wr) ∈ delW ws ds := by
  obtain ⟨j, ej⟩ := List.getElem?_of_mem hc
  have jl := (List.getElem?_eq_some_iff.mp ej).1
  have e2 : ds[j]? = some (ds[j]'(by omega)) := List.getElem?_eq_getElem (by omega)
  exact ⟨_, List.mem_of_getElem? (delW_get ej e2)⟩
theorem WvOk.delayed {nm : List Nm} {ws : List Wr} {ds : List Nat} (ok : WvOk nm ws) (h : ds.length = ws.length) (hd : ∀ d ∈ ds, d ≤ 9999) : WvOk nm (delW ws ds) := by
  have inv : ∀ w ∈ delW ws ds, ∃ c d, c ∈ ws ∧ d ∈ ds ∧ w = ⟨c.src, c.goal, c.place, d⟩ := fun w hw => by
    obtain ⟨j, ej⟩ := List.getElem?_of_mem hw
    obtain ⟨c, d, e1, e2, e3⟩ := delW_inv h ej
    exact ⟨c, d, List.mem_of_getElem? e1, List.mem_of_getElem? e2, e3⟩
  refine ⟨ok.nms, by rw [delW_len h]; exact ok.few, fun w hw => ?_, fun w hw => ?_, fun w hw => ?_, fun i j w w' e e' g1 g2 => ?_, fun x hx p hp => ?_, fun x hx => ?_⟩
  · obtain ⟨c, d, hc, _, rfl⟩ := inv w hw
    exact ok.src c hc
  · obtain ⟨c, d, hc, _, rfl⟩ := inv w hw
    exact ok.goal c hc
  · obtain ⟨c, d, _, hd', rfl⟩ := inv w hw
    exact hd d hd'
  · obtain ⟨c, d, e1, _, rfl⟩ := delW_inv h e
    obtain ⟨c', d', e1', _, rfl⟩ := delW_inv h e'
    exact ok.one i j c c' e1 e1' g1 g2
  · obtain ⟨c, hc, g1, g2⟩ := ok.all x hx p hp
    obtain ⟨d, hd'⟩ := delW_to h hc
    exact ⟨_, hd', g1, g2⟩
  · have all : ∀ {s : Str}, Reach nm ws s → Reach nm (delW ws ds) s := fun {s} r => by
      induction r with
      | inl h i => exact .inl h i
      | step hc _ ih =>
        obtain ⟨d, hd'⟩ := delW_to h hc
        exact .step (w := ⟨_, _, _, d⟩) hd' ih
    exact all (ok.reach x hx)
theorem KT.off {K : PySem.W.Frag} {l : Addr} {H F : Hp} {ys : List V} (hl : H l = some (.lst ys)) (k : Kept l H F) : KT K H F := fun q xs h => by
  rcases h with (h | ⟨u, h⟩) | h
  · exact .inl (.inl (k.at hl h (fun z => by cases z)))
  · exact .inl (.inr ⟨u, k.at hl h (fun z => by cases z)⟩)
  · exact .inr h
def spDelayed (K : PySem.W.Frag) {CN CO CI : Addr} (S : Sorts K CN CO CI) (CW : Addr) : Sp := fun vs H Q _ => ∃ (p l : Addr) (nm : List Nm) (ws : List Wr) (ds : List Nat), vs = [.ref p, .ref l] ∧ WvAt K S CW H p nm ws ∧ WvOk nm ws ∧ H l = some (.lst (ds.map fun (d : Nat) => V.int (d : Int))) ∧ ds.length = ws.length ∧ (∀ d ∈ ds, d ≤ 9999) ∧ ∀ (q : Addr) (H' : Hp), Same H H' → H q = none → (∀ F, Kept l H' F → Nodes S nm F → WvAt K S CW F q nm (delW ws ds)) → Q (.ref q) H'
section
variable {P : Program} {w : World} {K : PySem.W.Frag} {mg : Str → Option Value} {base : Heap} {f f1 f2 f3 f4 f5 f6 f7 f8 f9 C CN CO CI CW CU dd : Addr} {cl : Srt → Addr} {fd fd1 fd2 fd3 fd4 fd5 fd6 fd7 fd8 fd9 : FuncData}
abbrev nWeaveDelayed : List Str := ["self", "delays", "rows", "source", "goal", "place", "elder", "delay"]
theorem scWeaveDelayed : FnScope nWeaveDelayed ["self", "delays"] (defScope sWeaveDelayed) := ⟨rfl, rfl, rfl, by decide +kernel, rfl, by decide +kernel, by decide +kernel⟩
theorem ok_delayed (S : Sorts K CN CO CI) (F : FnM K "delayed" "Weave.delayed" sWeaveDelayed f fd) (T : WvC K CW) (c0 : Cls K CW)
    (mP : Meth K CW "pairs" f1) (GP : FnOk P w K mg base CX0 1 f1 fd1 ["self"] (spWvPairs K S CW)) (bP : Binds K fd1 ["self"] [])
    (MW : Mk K CW f2) (GW : FnOk P w K mg base CX0 5 f2 fd2 ["self", "nodes", "wires"] (spWvInit K S CW)) (gW : mg "Weave" = some (.ref CW)) (bW : Binds K fd2 ["self", "nodes", "wires"] [])
    (gZip : mg "zip" = none) : FnOk P w K mg base CX0 7 f fd ["self", "delays"] (spDelayed K S CW) := by
  refine F.ok scWeaveDelayed (fun vs H Q E h => ?_) (fun cdv A outer s0 H vs Q E hr h => ?_)
  · obtain ⟨p, l, nm, ws, ds, rfl, _⟩ := h
    rfl
  · obtain ⟨p, l, nm, ws, ds, rfl, wv, ok, hl, dl0, dok, kk⟩ := h
    have hu := hu_of hr
    have nd := scWeaveDelayed.nd
    have hr6 : Room 6 _ := hr
    have hr1 : Room 1 _ := hr.mono (by decide)
    refine ⟨_, PSs.nox (pss_cons (ps_setLc (i := 2) (own := [("source", 3), ("goal", 4), ("place", 5), ("elder", 6), ("delay", 7)]) (g := (gTup K 2 (gCons (gTup K 4 (gCons (gName 3) (gCons (gName 4) (gCons (gName 5) (gCons (gName 6) gNil))))) (gCons (gName 7) gNil)))) (tt := tYes) rfl nd rfl rfl (sw_true rfl rfl rfl rfl) (pi_zip (by rfl) gZip (pa_cons (pe_fld (pv 0) rfl) (pa_cons (pv 1) pa_nil))) (blkOk_by (N := nWeaveDelayed) (sc := defScope sWeaveDelayed) (by decide +kernel))
        (fun _ _ _ _ _ => (pg_tup rfl (pgs_cons (pg_tup rfl (pgs_cons (pg_name (i := 3) nd rfl (Or.inl rfl)) (pgs_cons (pg_name (i := 4) nd rfl (Or.inl rfl)) (pgs_cons (pg_name (i := 5) nd rfl (Or.inl rfl)) (pgs_cons (pg_name (i := 6) nd rfl (Or.inl rfl)) pgs_nil))))) (pgs_cons (pg_name (i := 7) nd rfl (Or.inl rfl)) pgs_nil)))) (fun _ _ _ _ _ => pts_nil) (fun _ _ _ _ _ => (pe_tup (pa_cons (pv 3) (pa_cons (pv 4) (pa_cons (pv 5) (pa_cons (pv 7) pa_nil)))))))
      (pss_one (ps_ret (pe_make MW GW hr6 rfl gW bW .nil pass0 (pa_cons (pe_meth0 (pv 0) c0 mP GP hr1 bP .nil pass0) (pa_cons (pv 2) pa_nil)))))), ?_⟩
    obtain ⟨dx, d, dl, ld, dv, hp, wf⟩ := id wv
    obtain ⟨ps, hld, alw⟩ := id wf.laid
    have psl : ps.length = ws.length := alw.len
    refine ⟨_, rfl, p, CW, dx, _, _, rfl, hp, T.cl, T.n3, rfl, _, rfl, ld, l, _, _, rfl, SqL.of hld, SqL.of hl, fun D hD => ?_⟩
    refine lc_it (walk_zip (xs := ps) (ys := ds.map fun (d : Nat) => V.int (d : Int)) (n := ws.length) (by rw [List.length_map, psl, dl0, Nat.min_self])) (fun j H' => WiresAt K H' D ((delW ws ds).take j) ∧ Same H H') ⟨⟨[], upd_same, by rw [List.take_zero]; exact trivial⟩, Same.past (Same.refl _) hD⟩ (fun j H' _ e => ⟨SqL.of (e.2 _ _ hld), SqL.of (e.2 _ _ hl)⟩) (fun j v H' H'' hj e y => ?_) (fun H1 e => ?_)
    · obtain ⟨⟨qs, hd, alq⟩, sm⟩ := e
      obtain ⟨TT, a, b, rfl, hT, rfl, ea, eb⟩ := y
      have ea : ps[j]? = some a := ea
      have eb : (ds.map fun (d : Nat) => V.int (d : Int))[j]? = some b := eb
      obtain ⟨c, ec, q, rfl, hq⟩ := alw.get ea
      rw [List.getElem?_map] at eb
      obtain ⟨dn, edn, rfl⟩ := Option.map_eq_some_iff.mp eb
      have sT := Same.new (o := .tup [V.ref q, V.int (dn : Int)]) (Same.refl H') hT
      have hqT := Same.tup (sm.trans sT) hq
      refine ⟨TT, _, rfl, .inl (.inl upd_same), rfl, _, _, rfl, ?_⟩
      generalize upd H' TT (.tup [V.ref q, V.int (dn : Int)]) = G1 at sT hqT
      refine ⟨q, _, rfl, hqT, rfl, ?_⟩
      refine ⟨_, _, rfl, _, _, rfl, _, _, rfl, _, _, rfl, rfl, _, _, rfl, rfl, rfl, yes_ite ?_⟩
      refine ⟨_, rfl, _, rfl, _, rfl, _, rfl, (by show 4 ≤ sizeLine; decide), fun t ht => ?_⟩
      have s2 := Same.new (o := .tup [V.str c.src, V.str c.goal, V.int (c.place : Int), V.int (dn : Int)]) (Same.refl G1) ht
      have ht2 : upd G1 t (.tup [V.str c.src, V.str c.goal, V.int (c.place : Int), V.int (dn : Int)]) t = some (.tup [V.str c.src, V.str c.goal, V.int (c.place : Int), V.int (dn : Int)]) := upd_same
      generalize upd G1 t (.tup [V.str c.src, V.str c.goal, V.int (c.place : Int), V.int (dn : Int)]) = G2 at s2 ht2
      have u2 := sT.trans s2
      have kt : KT K G2 (upd G2 D (.lst (qs ++ [V.ref t]))) := KT.lst (u2 _ _ hd)
      refine ⟨qs, u2 _ _ hd, ?_, ⟨_, upd_same, ?_⟩, Same.past (sm.trans u2) hD⟩
      · have l1 := alq.len
        have l2 := delW_len dl0
        have := ok.few
        rw [List.length_take] at l1
        exact Nat.lt_of_lt_of_le (show _ < 100 by omega) (by decide)
      · rw [List.take_succ, delW_get ec edn]
        exact Al.snoc ⟨t, rfl, kt _ _ (.inl (.inl ht2))⟩ (alq.imp fun v x ⟨q, e, h⟩ => ⟨q, e, kt _ _ (Same.tup u2 h)⟩)
    obtain ⟨wrs, s1⟩ := e
    rw [List.take_of_length_le (by rw [delW_len dl0]; exact Nat.le_refl _)] at wrs
    refine ⟨_, rfl, p, dx, _, rfl, s1 _ _ hp, rfl, p, nm, ws, rfl, wv.keep s1, ok.nms, fun pl H2 s2 fpl hpl => ?_⟩
    have t2 := s1.trans s2
    refine ⟨_, rfl, ?_⟩
    have ndB : Nodes S nm H2 := fun x hx => (wf.nodes x hx).keep t2
    exact fun q dxq nq ndq neq => ⟨H2, q, dxq, pl, D, nm, delW ws ds, rfl, Same.new (Same.new (Same.refl H2) ndq) (by rw [upd_ne neq.symm]; exact nq), nq, upd_same, hpl, wrs.keep s2, ok.delayed dl0 dok, ndB, fun G sG wvn => ⟨rfl, kk q G (t2.trans sG) (t2.free nq) fun F kF nF => wvn.to nq (fun b o n e => kF b o (fun z => by rw [z, t2 _ _ hl] at n; cases n) e) (KT.off ((t2.trans sG) _ _ hl) kF) nF⟩⟩
end
end Sw
namespace Sw
open PySem PySem.Spec PyProof.Rows L2
/-! ### refusals -/
/-- what is asked of the class of a refusal -/
structure RefC (K : PySem.W.Frag) (mg : Str → Option Value) (x : Str) (CU fI : Addr) (fld : Str) : Prop where
  oex : OexC K CU
  iC : PySem.W.findIn K (.ref CU) "__init__" = some (some (.ref fI))
  tI : PySem.W.typeIn K (.ref fI) = some (.type "function")
  gU : mg x = some (.ref CU)
  no : PySem.W.findIn K (.ref CU) fld = some none
def spXInit (C : Addr) (fld : Str) : Sp := fun vs H Q _ => ∃ (a : Addr) (v : V), vs = [.ref a, v] ∧ H a = some (exo a C none) ∧ ∀ dx, H dx = none → dx ≠ a → Q .non (upd (upd H dx (exd dx [(fld, v)])) a (exo a C (some dx)))
/-- refused: the class, its fields -/
def Refd (H : Hp) (E : XK) (CU : Addr) (fs : List (Str × V)) : Prop := ∀ (d : Addr) (H' : Hp), Same H H' → H d = none → H' d = some (.xd fs) → E (.ref CU) (some d) H'
theorem Refd.past {H H1 : Hp} {E : XK} {CU : Addr} {fs : List (Str × V)} (r : Refd H E CU fs) (s : Same H H1) : Refd H1 E CU fs := fun d H' s' n h => r d H' (s.trans s') (s.free n) h
/-- what stands behind the making of a refusal -/
theorem refd_mk {H : Hp} {E : XK} {CU a dx : Addr} {fs : List (Str × V)} (r : Refd H E CU fs) (ha : H a = none) (hd : L2.upd H a (exo a CU none) dx = none) (ne : dx ≠ a) :
    (L2.upd (L2.upd (L2.upd H a (exo a CU none)) dx (exd dx fs)) a (exo a CU (some dx))) a = some (exo a CU (some dx)) ∧ (L2.upd (L2.upd (L2.upd H a (exo a CU none)) dx (exd dx fs)) a (exo a CU (some dx))) dx = some (exd dx fs) ∧ H dx = none ∧ E (.ref CU) (some dx) (L2.upd (del (L2.upd (L2.upd (L2.upd H a (exo a CU none)) dx (exd dx fs)) a (exo a CU (some dx))) a) dx (.xd fs)) := by
  have hd0 : H dx = none := by
    rw [upd_ne ne] at hd
    exact hd
  refine ⟨upd_same, by rw [upd_ne ne]; exact upd_same, hd0, r dx _ (fun b o e => ?_) hd0 upd_same⟩
  have n1 : b ≠ a := ne_of_none e ha
  have n2 : b ≠ dx := ne_of_none e hd0
  rw [upd_ne n2, del_ne n1, upd_ne n1, upd_ne n2, upd_ne n1]
  exact e
/-- no delay -/
def BadD (K : PySem.W.Frag) (H : Hp) (v : V) : Prop := (∃ i : Int, v = .int i ∧ ¬ (0 ≤ i ∧ i ≤ 9999)) ∨ NoInt K H v
def spCheckND {K : PySem.W.Frag} {CN CO CI : Addr} (S : Sorts K CN CO CI) (CE : Addr) : Sp := fun vs H _ E => ∃ (n : Int) (q d : Addr) (nm : List Nm) (w : Wr) (v : V), vs = [.int n, .ref q, .ref d] ∧ SqT K H q [.str w.src, .str w.goal, .int (w.place : Int), v] ∧ H d = some (.dK (dNamed nm)) ∧ NmsOk nm ∧ Nodes S nm H ∧ (∃ x ∈ nm, x.name = w.src ∧ x.inf.out = false) ∧ (∃ y ∈ nm, y.name = w.goal ∧ w.place < y.inf.ts.length) ∧ (∀ H', Same H H' → BadD K H' v) ∧ Refd H E CE [("wire", .int n)]
section
variable {P : Program} {w : World} {K : PySem.W.Frag} {mg : Str → Option Value} {base : Heap} {f f1 f2 f3 f4 f5 f6 f7 f8 f9 C CN CO CI CW CU CE dd : Addr} {cl : Srt → Addr} {fd fd1 fd2 fd3 fd4 fd5 fd6 fd7 fd8 fd9 : FuncData}
abbrev nNoDelayInit : List Str := ["self", "wire"]
theorem scNoDelayInit : FnScope nNoDelayInit ["self", "wire"] (defScope sNoDelayInit) := ⟨rfl, rfl, rfl, by decide +kernel, rfl, by decide +kernel, by decide +kernel⟩
theorem ok_noDelayInit (F : FnM K "__init__" "NoDelay.__init__" sNoDelayInit f fd) (T : OexC K CE) (no : PySem.W.findIn K (.ref CE) "wire" = some none) : FnOk P w K mg base CX0 1 f fd ["self", "wire"] (spXInit CE "wire") := by
  refine F.ok scNoDelayInit (fun vs H Q E h => ?_) (fun cdv A outer s H vs Q E hr h => ?_)
  · obtain ⟨a, v, rfl, _⟩ := h
    rfl
  · obtain ⟨a, v, rfl, ha, kk⟩ := h
    refine ⟨_, PSs.nox (pss_one (ps_ost (pv 0) (pv 1))), ?_⟩
    exact ⟨_, rfl, _, rfl, a, CE, rfl, T, no, .inl ⟨ha, kk⟩⟩
theorem ok_checkND (S : Sorts K CN CO CI) (F : FnP K "check_wire" sCheckWire f fd) (GOn : FnOk P w K mg base CX0 1 f1 fd1 ["thing", "names"] spOneOf) (gOn : mg "is_one_of" = some (.ref f1)) (kOn : PySem.W.keepIn K (.ref f1) = true) (bOn : Binds K fd1 ["thing", "names"] [])
    (GWi : FnOk P w K mg base CX0 2 f2 fd2 ["thing", "least", "most"] (spWithin K)) (gWi : mg "is_whole_within" = some (.ref f2)) (kWi : PySem.W.keepIn K (.ref f2) = true) (bWi : Binds K fd2 ["thing", "least", "most"] [])
    (hT : ∀ A, A ∈ S.As → MethC P w K mg base 1 "takes" ["self"] (spTk S A) (S.cl A)) (gO : mg "Outlet" = some (.ref CO)) (gD : ∃ t, mg "MOST_DELAY" = some (.int 9999 t)) (gIs : mg "isinstance" = none) (gLen : mg "len" = none)
    (TR : RefC K mg "NoDelay" CE f3 "wire") (GIn : FnOk P w K mg base CX0 1 f3 fd3 ["self", "wire"] (spXInit CE "wire")) (bIn : Binds K fd3 ["self", "wire"] []) : FnOk P w K mg base (L2.CX P w) 3 f fd ["number", "wire", "named"] (spCheckND S CE) := by
  obtain ⟨tD, gD⟩ := gD
  refine F.ok scCheckWire (fun vs H Q E h => ?_) (fun cdv A outer s H vs Q E hr h => ?_)
  · obtain ⟨n, q, d, nm, w, v, rfl, _⟩ := h
    rfl
  · obtain ⟨n, q, d, nm, w, v, rfl, hq, hd, nok, nodes, ⟨x, hx, ex, xo⟩, ⟨y, hy, ey, yp⟩, bad, kE⟩ := h
    have hu := hu_of hr
    have hr2 : Room 2 _ := hr
    have hr1 : Room 1 _ := hr.mono (by decide)
    have nd := scCheckWire.nd
    refine ⟨_, (pss_cons (ps_asg (pv 1) (pg_tup rfl (pgs_cons (pg_name (i := 3) nd rfl (Or.inl rfl)) (pgs_cons (pg_name (i := 4) nd rfl (Or.inl rfl)) (pgs_cons (pg_name (i := 5) nd rfl (Or.inl rfl)) (pgs_cons (pg_name (i := 6) nd rfl (Or.inl rfl)) pgs_nil))))))
      (pss_cons (ps_if (pt_not (pt_val (pe_call GOn hr1 rfl gOn kOn bOn .nil pass0 (pa_cons (pv 3) (pa_cons (pv 2) pa_nil))))) pss_never pss_nil)
      (pss_cons (ps_if (pt_not (pt_val (pe_call GOn hr1 rfl gOn kOn bOn .nil pass0 (pa_cons (pv 4) (pa_cons (pv 2) pa_nil))))) pss_never pss_nil)
      (pss_cons (ps_if (PW.pt (pw_or (pt_val (pe_callB call_isi (by rfl) gIs boot_isinstance (pa_cons (pe_dget hu (pv 2) (pv 3) (fun _ _ => rfl)) (pa_cons (pe_glob (v := .ref CO) rfl gO rfl) pa_nil)))) (pw_or1 (pt_not (pt_val (pe_call GWi hr2 rfl gWi kWi bWi .nil pass0 (pa_cons (pv 5) (pa_cons pe_int (pa_cons (pe_op op_sub (pe_callB call_len_seq (by rfl) gLen PySem.boot_len (pa_cons (pe_methOf0 (As := S.As) (cl := S.cl) (sp := spTk S) (pe_dget hu (pv 2) (pv 4) (fun _ _ => rfl)) hT hr1) pa_nil)) pe_int) pa_nil))))))))) pss_never pss_nil)
      (pss_one (ps_if (pt_not (pt_val (pe_call GWi hr2 rfl gWi kWi bWi .nil pass0 (pa_cons (pv 6) (pa_cons pe_int (pa_cons (pe_glob (v := .int 9999) rfl gD ⟨_, rfl⟩) pa_nil)))))) (pss_one (ps_raise rfl (takes_of rfl rfl rfl rfl) (pmk_oex TR.oex TR.iC TR.tI GIn hr bIn .nil pass0 rfl TR.gU (pa_cons (pv 0) pa_nil)))) pss_nil)))))), ?_⟩
    refine ⟨_, rfl, q, _, rfl, hq, rfl, _, _, rfl, _, _, rfl, _, _, rfl, _, _, rfl, rfl, ?_⟩
    have vs1 : valV (dNamed nm) (Sum.inr w.src) = some (.ref x.adr) := ex ▸ valV_named nok.nd hx
    have vs2 : valV (dNamed nm) (Sum.inr w.goal) = some (.ref y.adr) := ey ▸ valV_named nok.nd hy
    refine ⟨_, rfl, _, rfl, w.src, d, _, rfl, .inl hd, ?_⟩
    rw [vs1]
    refine ⟨_, rfl, iteF ?_⟩
    refine ⟨_, rfl, _, rfl, w.goal, d, _, rfl, .inl hd, ?_⟩
    rw [vs2]
    refine ⟨_, rfl, iteF ?_⟩
    obtain ⟨B, hB, hat, hout, _⟩ := nodes x hx
    obtain ⟨dx, fs, hin, _⟩ := S.ins B _ _ _ hat
    obtain ⟨B2, hB2, hat2, _, _⟩ := nodes y hy
    obtain ⟨dx2, fs2, hin2, no2⟩ := S.ins B2 _ _ _ hat2
    have isO := S.isO B hB
    rw [hout, xo] at isO
    refine ⟨_, rfl, _, rfl, d, _, rfl, ?_, _, _, _, _, false, rfl, ClsV.own _, (S.isN B hB).ty (S.cls B hB) hin, isO, _, rfl, iteF ?_⟩
    · rw [← vs1]
      exact DGet.k (k := Sum.inr w.src) hd
    refine ⟨_, rfl, _, rfl, _, rfl, d, _, rfl, (by rw [← vs2]; exact DGet.k (k := Sum.inr w.goal) hd), B2, y.adr, dx2, fs2, hB2, rfl, hin2, no2, y.adr, _, rfl, hat2, fun t H1 s1 ht => ?_⟩
    refine ⟨t, _, rfl, .inr ht, _, _, rfl, rfl, _, 0, _, rfl, .inl ⟨_, rfl, ?_⟩⟩
    rw [List.length_map, decide_eq_true (by omega)]
    refine ⟨_, rfl, iteF ?_⟩
    have rz : ∀ {P0 : Prop}, P0 → P0 := fun h => h
    rcases bad H1 s1 with ⟨i, rfl, ni⟩ | no
    · refine ⟨_, rfl, _, 0, 9999, rfl, .inl ⟨i, rfl, ?_⟩⟩
      rw [decide_eq_false ni]
      refine ⟨_, rfl, iteT ?_⟩
      refine ⟨_, rfl, (by show 1 ≤ 1000; decide), fun a ha => ⟨a, _, rfl, upd_same, fun dx' hdx ne => ⟨rfl, dx', [("wire", .int n)], ?_⟩⟩⟩
      exact refd_mk (kE.past s1) ha hdx ne
    · refine ⟨_, rfl, _, 0, 9999, rfl, .inr ⟨no, _, rfl, iteT ?_⟩⟩
      refine ⟨_, rfl, (by show 1 ≤ 1000; decide), fun a ha => ⟨a, _, rfl, upd_same, fun dx' hdx ne => ⟨rfl, dx', [("wire", .int n)], ?_⟩⟩⟩
      exact refd_mk (kE.past s1) ha hdx ne
end
end Sw
namespace Sw
open PySem PySem.Spec PyProof.Rows L2
/-! ### the first wire that has no delay -/
/-- wires, the one numbered bi with a thing that is no delay -/
def WiresB (K : PySem.W.Frag) (H : Hp) (wl : Addr) (ws : List Wr) (bi : Nat) : Prop := ∃ ps, H wl = some (.lst ps) ∧ ps.length = ws.length ∧ bi < ws.length ∧ (∀ j, j < bi → ∃ w, ws[j]? = some w ∧ ∃ q, ps[j]? = some (.ref q) ∧ SqT K H q [.str w.src, .str w.goal, .int (w.place : Int), .int (w.delay : Int)]) ∧ ∃ (w : Wr) (q : Addr) (v : V), ws[bi]? = some w ∧ ps[bi]? = some (.ref q) ∧ SqT K H q [.str w.src, .str w.goal, .int (w.place : Int), v] ∧ ∀ H', Same H H' → BadD K H' v
theorem WiresB.keep {K : PySem.W.Frag} {H H1 : Hp} {wl : Addr} {ws : List Wr} {bi : Nat} (h : WiresB K H wl ws bi) (s : Same H H1) : WiresB K H1 wl ws bi := by
  obtain ⟨ps, h1, h2, h3, h4, w, q, v, h5, h6, h7, h8⟩ := h
  refine ⟨ps, s _ _ h1, h2, h3, fun j hj => ?_, w, q, v, h5, h6, Same.tup s h7, fun H' s' => h8 H' (s.trans s')⟩
  obtain ⟨w, e, q, e', h⟩ := h4 j hj
  exact ⟨w, e, q, e', Same.tup s h⟩
def spLeadND {K : PySem.W.Frag} {CN CO CI : Addr} (S : Sorts K CN CO CI) (CE : Addr) : Sp := fun vs H _ E => ∃ (wl d : Addr) (nm : List Nm) (ws : List Wr) (bi : Nat), vs = [.ref wl, .ref d] ∧ WiresB K H wl ws bi ∧ H d = some (.dK (dNamed nm)) ∧ WvOk nm ws ∧ Nodes S nm H ∧ Refd H E CE [("wire", .int (bi : Int))]
section
variable {P : Program} {w : World} {K : PySem.W.Frag} {mg : Str → Option Value} {base : Heap} {f f1 f2 f3 f4 f5 f6 f7 f8 f9 C CN CO CI CW CU CE : Addr} {fd fd1 fd2 fd3 fd4 fd5 fd6 fd7 fd8 fd9 : FuncData}
theorem ok_leadND (S : Sorts K CN CO CI) (F : FnP K "wires_by_goal" sWiresByGoal f fd) (GCk : FnOk P w K mg base (L2.CX P w) 3 f1 fd1 ["number", "wire", "named"] (fun vs H Q E => spCheck S vs H Q E ∨ spCheckND S CE vs H Q E)) (gCk : mg "check_wire" = some (.ref f1)) (kCk : PySem.W.keepIn K (.ref f1) = true) (bCk : Binds K fd1 ["number", "wire", "named"] [])
    (hT : ∀ A, A ∈ S.As → MethC P w K mg base 1 "takes" ["self"] (spTk S A) (S.cl A)) (gEnum : mg "enumerate" = none) (gLen : mg "len" = none) : FnOk P w K mg base (L2.CX P w) 4 f fd ["wires", "named"] (spLeadND S CE) := by
  refine F.ok scWiresByGoal (fun vs H Q E h => ?_) (fun cdv A outer s H vs Q E hr h => ?_)
  · obtain ⟨wl, d, nm, ws, bi, rfl, _⟩ := h
    rfl
  · obtain ⟨wl, d, nm, ws, bi, rfl, ⟨ps, hwl, psl, bl, alB, wb, qb, vb, ewb, eqb, hqb, bad⟩, hd, ok, nodes, kE⟩ := h
    have hu := hu_of hr
    have hr1 : Room 1 _ := hr.mono (by decide)
    have nd := scWiresByGoal.nd
    have few := ok.nms.few
    refine ⟨_, (pss_cons (ps_lock (ps_setDc (i := 2) (own := [("name", 9)]) (g := (gName 9)) (tt := tYes) rfl nd rfl rfl (swd_true rfl rfl rfl rfl) (pi_keys (pv 1)) (blkOk_by (N := nWiresByGoal) (sc := defScope sWiresByGoal) (by decide +kernel))
        (fun _ _ _ _ _ => (pg_name (i := 9) nd rfl (Or.inl rfl))) (fun _ _ _ _ _ => pts_nil) (fun _ _ _ _ _ => (pv 9)) (fun _ _ _ _ _ => (pe_op op_rep (pe_lst (pa_cons pe_non pa_nil)) (pe_callB (call_len_seqK (K := K) rfl) (by rfl) gLen PySem.boot_len (pa_cons (pe_methOf0 (As := S.As) (cl := S.cl) (sp := spTk S) (pe_dget hu (pv 1) (pv 9) (fun _ _ => rfl)) hT hr1) pa_nil))))))
      (pss_cons (ps_for (passes_of rfl) rfl (pi_enum rfl gEnum (pa_cons (pv 0) pa_nil)) (pg_tup rfl (pgs_cons (pg_name (i := 3) nd rfl (Or.inl rfl)) (pgs_cons (pg_name (i := 4) nd rfl (Or.inl rfl)) pgs_nil)))
      (pss_cons (ps_expr (pe_call (E := E) GCk hr rfl gCk kCk bCk .nil (passes_call (takes_of rfl rfl rfl rfl) (fun _ _ _ _ e => e)) (pa_cons (pv 3) (pa_cons (pv 4) (pa_cons (pv 1) pa_nil)))))
      (pss_cons (ps_asg (pv 4) (pg_tup rfl (pgs_cons (pg_name (i := 5) nd rfl (Or.inl rfl)) (pgs_cons (pg_name (i := 6) nd rfl (Or.inl rfl)) (pgs_cons (pg_name (i := 7) nd rfl (Or.inl rfl)) (pgs_cons (pg_name (i := 8) nd rfl (Or.inl rfl)) pgs_nil))))))
      (pss_cons (ps_if (pt_cmpR op_notN (pe_ix ix_list (pe_dget hu (pv 2) (pv 6) (fun _ _ => rfl)) (pv 7) (fun _ _ => rfl)) pe_non (nomark _)) pss_never pss_nil)
      (pss_one (ps_asg (pv 3) (pg_sub (pe_dget hu (pv 2) (pv 6) (fun _ _ => rfl)) (pv 7) set_list (by intro _; rfl))))))))
      (pss_one (ps_ret (pv 2))))), ?_⟩
    refine ⟨d, _, hd, trivial, fun od => ?_⟩
    have nodesL : ∀ x ∈ nm, NodeIn S x.adr x.inf (upd H d (.frz od (.dK (dNamed nm)))) := fun x hx => (nodes x hx).dict hd
    have hL : (upd H d (.frz od (.dK (dNamed nm)))) d = some (.frz od (.dK (dNamed nm))) := upd_same
    have freeL : ∀ {a : Addr}, (upd H d (.frz od (.dK (dNamed nm)))) a = none → H a = none := fun {a} e => by
      by_cases z : a = d
      · rw [z, hL] at e
        cases e
      · rw [upd_ne z] at e
        exact e
    generalize eHL : upd H d (.frz od (.dK (dNamed nm))) = HL at nodesL hL freeL
    refine ⟨_, rfl, d, od, rfl, .inl ⟨_, hL, fun D hD => ?_⟩⟩
    have nDd : D ≠ d := (ne_of_none hL hD).symm
    refine dc_it (walk_keys (d := d) (o := od) (kvs := dNamed nm)) (fun j H' => ∃ las, Lists HL H' D (nm.take j) las (fun x => List.replicate x.inf.ts.length .non) ∧ Same HL H') ⟨[], ⟨?_, ?_, List.nodup_nil, fun _ h => (List.not_mem_nil h).elim, fun i x la h => ?_⟩, Same.past (Same.refl _) hD⟩ (fun j H' _ e => by obtain ⟨_, _, sm⟩ := e; exact sm _ _ hL) (fun j v H' H'' hj e y => ?_) (fun H' e => ?_)
    · rw [List.take_zero]
      exact upd_same
    · simp
    · rw [List.take_zero] at h
      cases h
    · obtain ⟨las, li, sm⟩ := e
      obtain ⟨rfl, k, v', ek, rfl⟩ := y
      obtain ⟨x, ex, rfl, rfl⟩ := dNamed_get ek
      have xm : x ∈ nm := List.mem_of_getElem? ex
      refine ⟨rfl, ?_⟩
      refine yes_ite ?_
      obtain ⟨B, hB, hat, _, _⟩ := (nodesL x xm).keep sm
      obtain ⟨dx, fs, hin, no⟩ := S.ins B _ _ _ hat
      refine ⟨_, rfl, (by show 1 ≤ sizeLine; decide), fun l1 h1 => ?_⟩
      have s1 := Same.new (o := .lst [V.non]) (Same.refl H'') h1
      refine ⟨_, rfl, _, rfl, d, _, rfl, .inl ⟨_, Sum.inr x.name, .inr ⟨od, s1 _ _ (sm _ _ hL)⟩, rfl, (valV_named ok.nms.nd xm).symm⟩, B, x.adr, dx, fs, hB, rfl, s1 _ _ hin, no, x.adr, _, rfl, S.keep B _ _ _ _ s1 hat, fun t G2 s2 ht => ?_⟩
      have t8 := S.few B _ _ _ hat
      refine ⟨t, _, rfl, .inr ht, l1, _, [V.non], rfl, rfl, s2 _ _ upd_same, by rw [List.length_map]; omega, by rw [List.length_map]; omega, ?_, fun la hla => ?_⟩
      · rw [List.length_map, Int.toNat_natCast]
        exact Nat.le_trans (show 1 * x.inf.ts.length ≤ 8 by omega) (by decide)
      have s3 := Same.new (o := .lst (List.replicate (((x.inf.ts.map fun (n : Nat) => V.int (n : Int)).length : Nat) : Int).toNat [V.non]).flatten) (Same.refl G2) hla
      have s13 := s1.trans (s2.trans s3)
      have laD : la ≠ D := (ne_of_none ((s1.trans s2) _ _ li.hd) hla).symm
      have er : (List.replicate (((x.inf.ts.map fun (n : Nat) => V.int (n : Int)).length : Nat) : Int).toNat [V.non]).flatten = List.replicate x.inf.ts.length V.non := by
        rw [List.length_map, Int.toNat_natCast, flat_one]
      rw [er] at s3 s13 ⊢
      have nk : nm.take (j + 1) = nm.take j ++ [x] := by
        rw [List.take_succ, ex]
        rfl
      refine ⟨_, Sum.inr x.name, rfl, s13 _ _ li.hd, ?_, las ++ [la], ?_, Same.past (sm.trans s13) hD⟩
      · rw [dLead_len li.len, List.length_take]
        exact Nat.lt_of_le_of_lt (show _ ≤ 24 by omega) (by decide)
      have fla : HL la = none := (sm.trans (s1.trans s2)).free hla
      rw [putK_new (dLead_no (name_ahead ok.nms.nd ex))]
      refine ⟨?_, ?_, ?_, fun a ha => ?_, fun i y a ey ea => ?_⟩
      · rw [nk, dLead_snoc li.len.symm]
        exact upd_same
      · rw [nk, List.length_append, List.length_append, li.len]
        rfl
      · rw [List.nodup_append]
        refine ⟨li.nd, List.nodup_cons.mpr ⟨List.not_mem_nil, List.nodup_nil⟩, fun a ha b hb => ?_⟩
        rw [List.mem_singleton.mp hb]
        intro z
        obtain ⟨i, ei⟩ := List.getElem?_of_mem ha
        have il := (List.getElem?_eq_some_iff.mp ei).1
        rw [li.len] at il
        have := (s1.trans s2) _ _ (li.at_ i _ a (List.getElem?_eq_getElem il) ei)
        rw [z, hla] at this
        cases this
      · rcases List.mem_append.mp ha with ha | ha
        · exact li.new a ha
        · rw [List.mem_singleton.mp ha]
          exact ⟨fla, laD⟩
      · rw [nk] at ey
        by_cases z : i < las.length
        · rw [List.getElem?_append_left (by rw [← li.len]; exact z)] at ey
          rw [List.getElem?_append_left z] at ea
          rw [upd_ne (li.new a (List.mem_of_getElem? ea)).2]
          exact s13 _ _ (li.at_ i y a ey ea)
        · have il := (List.getElem?_eq_some_iff.mp ea).1
          rw [List.length_append] at il
          have e0 : i = las.length := by
            have : [la].length = 1 := rfl
            omega
          subst e0
          rw [List.getElem?_concat_length] at ea
          rw [li.len, List.getElem?_concat_length] at ey
          cases ea
          cases ey
          rw [upd_ne laD]
          exact upd_same
    · obtain ⟨las, li, sm⟩ := e
      have dn : (dNamed nm).length = nm.length := by
        unfold dNamed
        rw [List.length_map]
      rw [dn, List.take_length] at li
      refine ⟨sm _ _ hL, ?_⟩
      have u1 : Same H (upd H' d (.dK (dNamed nm))) := unlock hd (eHL ▸ sm)
      have hd1 : (upd H' d (.dK (dNamed nm))) d = some (.dK (dNamed nm)) := upd_same
      have fD : H D = none := freeL hD
      have li1 : Lists H (upd H' d (.dK (dNamed nm))) D nm las (fun x => leadL (ws.take 0) x.name x.inf.ts.length) := by
        refine ⟨by rw [upd_ne nDd]; exact li.hd, li.len, li.nd, fun a ha => ⟨freeL (li.new a ha).1, (li.new a ha).2⟩, fun i x a ex ea => ?_⟩
        rw [List.take_zero, leadL_nil, upd_ne (fun z => by
          have := (li.new a (List.mem_of_getElem? ea)).1
          rw [z, hL] at this
          cases this)]
        exact li.at_ i x a ex ea
      generalize upd H' d (.dK (dNamed nm)) = H1 at u1 hd1 li1
      clear li sm
      refine ⟨_, rfl, wl, _, rfl, SqL.of (u1 _ _ hwl), ?_⟩
      refine for_it (walk_enum (xs := ps)) (fun j σ G => ∃ w3 w4 w5 w6 w7 w8 : Option V, σ = [some (.ref wl), some (.ref d), some (.ref D), w3, w4, w5, w6, w7, w8, none] ∧ Lists H G D nm las (fun x => leadL (ws.take j) x.name x.inf.ts.length) ∧ Same H G ∧ j ≤ bi) ⟨_, _, _, _, _, _, rfl, li1, u1, Nat.zero_le _⟩ (fun j σ G _ e => by obtain ⟨_, _, _, _, _, _, _, _, sm, _⟩ := e; exact SqL.of (sm _ _ hwl)) ?_ ?_
      · rintro j v σ G G' hj ⟨w3, w4, w5, w6, w7, w8, rfl, li, sG, jb⟩ ⟨TT, x1, x2, rfl, hTT, rfl, e1, e2⟩
        cases e1
        have e2 : ps[j]? = some x2 := e2
        by_cases zb : j = bi
        · subst zb
          rw [eqb] at e2
          cases e2
          have sT := Same.new (o := .tup [V.int ((j : Nat) : Int), V.ref qb]) (Same.refl G) hTT
          have sGT := sG.trans sT
          refine ⟨TT, _, rfl, .inl (.inl upd_same), rfl, _, _, rfl, _, _, rfl, rfl, ?_⟩
          generalize upd G TT (.tup [V.int ((j : Nat) : Int), V.ref qb]) = GT at sT sGT
          have wmb : wb ∈ ws := List.mem_of_getElem? ewb
          exact ⟨_, rfl, _, rfl, _, rfl, .inr ⟨_, qb, d, nm, wb, vb, rfl, Same.tup sGT hqb, sGT _ _ hd, ok.nms, nodes.keep sGT, ok.src wb wmb, ok.goal wb wmb, fun H' s' => bad H' (sGT.trans s'), kE.past sGT⟩⟩
        obtain ⟨wr, ew, q, eq0, hq⟩ := alB j (by omega)
        rw [eq0] at e2
        cases e2
        have wm : wr ∈ ws := List.mem_of_getElem? ew
        have sT := Same.new (o := .tup [V.int ((j : Nat) : Int), V.ref q]) (Same.refl G) hTT
        have sGT := sG.trans sT
        have liT := li.keep sT
        refine ⟨TT, _, rfl, .inl (.inl upd_same), rfl, _, _, rfl, _, _, rfl, rfl, ?_⟩
        generalize upd G TT (.tup [V.int ((j : Nat) : Int), V.ref q]) = GT at sT sGT liT
        refine ⟨_, rfl, _, rfl, _, rfl, .inl ⟨_, _, d, nm, wr, rfl, ⟨q, rfl, Same.tup sGT hq⟩, sGT _ _ hd, ok.nms, nodes.keep sGT, ok.src wr wm, ok.goal wr wm, ok.del wr wm, fun G2 s2 => ?_⟩⟩
        have li2 := liT.keep s2
        have sG2 := sGT.trans s2
        refine ⟨_, rfl, q, _, rfl, Same.tup sG2 hq, rfl, _, _, rfl, _, _, rfl, _, _, rfl, _, _, rfl, rfl, ?_⟩
        obtain ⟨x, xm, exn, xp⟩ := ok.goal wr wm
        obtain ⟨i, ei⟩ := List.getElem?_of_mem xm
        have il : i < las.length := by
          rw [li2.len]
          exact (List.getElem?_eq_some_iff.mp ei).1
        obtain ⟨la, ela⟩ : ∃ la, las[i]? = some la := ⟨_, List.getElem?_eq_getElem il⟩
        have hla := li2.at_ i x la ei ela
        have vg : valV (dLead nm las) (Sum.inr wr.goal) = some (.ref la) := exn ▸ valV_lead ok.nms.nd ei ela
        have dg : DGet G2 D (.str wr.goal) (some (.ref la)) := by
          rw [← vg]
          exact DGet.k (k := Sum.inr wr.goal) li2.hd
        have nn : numAt (ws.take j) x.name wr.place = none := exn ▸ numAt_take ok ew
        have a0 : atI (leadL (ws.take j) x.name x.inf.ts.length) (wr.place : Int) = some .non := by
          refine atI_nat (j := wr.place) ?_
          rw [leadL_get xp, nn]
          rfl
        refine ⟨_, rfl, _, rfl, D, _, rfl, dg, _, rfl, la, _, _, .non, rfl, rfl, SqL.of hla, a0, rfl, _, rfl, iteF ?_⟩
        have exP : ixN (leadL (ws.take j) x.name x.inf.ts.length).length (wr.place : Int) = some wr.place := by
          rw [leadL_len]
          unfold ixN
          simp
          omega
        refine ⟨_, rfl, _, rfl, _, rfl, D, _, rfl, dg, _, rfl, la, _, _, wr.place, rfl, rfl, hla, exP, ?_⟩
        have lam := List.mem_of_getElem? ela
        have jl : (ws.take j).length = j := by
          rw [List.length_take]
          have := (List.getElem?_eq_some_iff.mp ew).1
          omega
        have wk : ws.take (j + 1) = ws.take j ++ [wr] := by
          rw [List.take_succ, ew]
          rfl
        refine ⟨_, _, _, _, _, _, rfl, ⟨?_, li2.len, li2.nd, li2.new, fun k y b ey eb => ?_⟩, Same.past sG2 (li2.new la lam).1, by omega⟩
        · rw [upd_ne (li2.new la lam).2.symm]
          exact li2.hd
        · rw [wk]
          by_cases z : b = la
          · have ki : k = i := by
              obtain ⟨k1, g1⟩ := List.getElem?_eq_some_iff.mp eb
              obtain ⟨k2, g2⟩ := List.getElem?_eq_some_iff.mp ela
              rcases Nat.lt_trichotomy k i with l | l | l
              · exact absurd (g1.trans (z.trans g2.symm)) (List.pairwise_iff_getElem.mp li2.nd k i k1 k2 l)
              · exact l
              · exact absurd (g2.trans (z.symm.trans g1.symm)) (List.pairwise_iff_getElem.mp li2.nd i k k2 k1 l)
            subst ki
            rw [ei] at ey
            cases ey
            rw [z, exn, leadL_set xp (numAt_take ok ew), jl, ← exn]
            exact upd_same
          · have ne : wr.goal ≠ y.name := fun q' => by
              have e3 : (nm.map Nm.name)[k]? = some y.name := by rw [List.getElem?_map, ey]; rfl
              have e4 : (nm.map Nm.name)[i]? = some y.name := by rw [List.getElem?_map, ei, ← q', ← exn]; rfl
              obtain ⟨k1, g1⟩ := List.getElem?_eq_some_iff.mp e3
              obtain ⟨k2, g2⟩ := List.getElem?_eq_some_iff.mp e4
              have : k = i := by
                rcases Nat.lt_trichotomy k i with l | l | l
                · exact absurd (g1.trans g2.symm) (List.pairwise_iff_getElem.mp ok.nms.nd k i k1 k2 l)
                · exact l
                · exact absurd (g2.trans g1.symm) (List.pairwise_iff_getElem.mp ok.nms.nd i k k2 k1 l)
              subst this
              rw [ela] at eb
              exact z (Option.some.inj eb).symm
            rw [leadL_other ne, upd_ne z]
            exact li2.at_ k y b ey eb
      · rintro σ G ⟨w3, w4, w5, w6, w7, w8, rfl, li, sG, jb⟩
        omega
end
end Sw
namespace Sw
open PySem PySem.Spec PyProof.Rows L2
def spInitND (K : PySem.W.Frag) {CN CO CI : Addr} (S : Sorts K CN CO CI) (CW CE : Addr) : Sp := fun vs H _ E => ∃ (H0 : Hp) (p dx nl wl : Addr) (nm : List Nm) (ws : List Wr) (bi : Nat), vs = [.ref p, .ref nl, .ref wl] ∧ Same H0 H ∧ H0 p = none ∧ H p = some (.ins CW dx []) ∧ PairsAt K H0 nl nm ∧ WiresB K H0 wl ws bi ∧ WvOk nm ws ∧ Nodes S nm H0 ∧ Refd H0 E CE [("wire", .int (bi : Int))]
/-- delays, the one numbered bi a thing that is none -/
def DelaysB (K : PySem.W.Frag) (H : Hp) (hs : List V) (ds : List Nat) (bi : Nat) : Prop := hs.length = ds.length ∧ (∀ d ∈ ds, d ≤ 9999) ∧ (∀ (j d : Nat), j < bi → ds[j]? = some d → hs[j]? = some (.int (d : Int))) ∧ bi < ds.length ∧ ∃ v, hs[bi]? = some v ∧ ∀ H', Same H H' → BadD K H' v
def spDelayedND (K : PySem.W.Frag) {CN CO CI : Addr} (S : Sorts K CN CO CI) (CW CE : Addr) : Sp := fun vs H _ E => ∃ (p l : Addr) (nm : List Nm) (ws : List Wr) (hs : List V) (ds : List Nat) (bi : Nat), vs = [.ref p, .ref l] ∧ WvAt K S CW H p nm ws ∧ WvOk nm ws ∧ H l = some (.lst hs) ∧ ds.length = ws.length ∧ DelaysB K H hs ds bi ∧ Refd H E CE [("wire", .int (bi : Int))]
section
variable {P : Program} {w : World} {K : PySem.W.Frag} {mg : Str → Option Value} {base : Heap} {f f1 f2 f3 f4 f5 f6 f7 f8 f9 C CN CO CI CW CU CE dd : Addr} {cl : Srt → Addr} {fd fd1 fd2 fd3 fd4 fd5 fd6 fd7 fd8 fd9 : FuncData}
theorem ok_wvInitND (S : Sorts K CN CO CI) (F : FnM K "__init__" "Weave.__init__" sWeaveInit f fd) (GNa : FnOk P w K mg base CX0 2 f1 fd1 ["nodes"] (spNamed S)) (gNa : mg "nodes_by_name" = some (.ref f1)) (kNa : PySem.W.keepIn K (.ref f1) = true) (bNa : Binds K fd1 ["nodes"] [])
    (GLe : FnOk P w K mg base (L2.CX P w) 4 f2 fd2 ["wires", "named"] (spLeadND S CE)) (gLe : mg "wires_by_goal" = some (.ref f2)) (kLe : PySem.W.keepIn K (.ref f2) = true) (bLe : Binds K fd2 ["wires", "named"] [])
    (gMN : ∃ t, mg "MOST_NODES" = some (.int 24 t)) (gMW : ∃ t, mg "MOST_WIRES" = some (.int 48 t)) (gLen : mg "len" = none) (cW : Cls K CW) (n1 : NoAttr K CW "named") : FnOk P w K mg base (L2.CX P w) 5 f fd ["self", "nodes", "wires"] (spInitND K S CW CE) := by
  obtain ⟨tN, gMN⟩ := gMN
  obtain ⟨tW, gMW⟩ := gMW
  refine F.ok scWeaveInit (fun vs H Q E h => ?_) (fun cdv A outer s H vs Q E hr h => ?_)
  · obtain ⟨H0, p, dx, nl, wl, nm, ws, bi, rfl, _⟩ := h
    rfl
  · obtain ⟨H0, p, dx, nl, wl, nm, ws, bi, rfl, s0, p0, hp, ⟨ns, hnl, aln⟩, wb, ok, nodes, kE⟩ := h
    have hu := hu_of hr
    have hr4 : Room 4 _ := hr
    have hrN : Room 2 _ := hr.mono (by decide)
    have nd := scWeaveInit.nd
    have few := ok.nms.few
    have fewW := ok.few
    refine ⟨_, pss_cons (ps_if (PW.pt (pw_or (pt_cmpR op_gt (pe_callB call_len_seq (by rfl) gLen PySem.boot_len (pa_cons (pv 1) pa_nil)) (pe_glob (v := .int 24) rfl gMN ⟨_, rfl⟩) (nomark _)) (pw_or1 (pt_cmpR op_gt (pe_callB call_len_seq (by rfl) gLen PySem.boot_len (pa_cons (pv 2) pa_nil)) (pe_glob (v := .int 48) rfl gMW ⟨_, rfl⟩) (nomark _))))) pss_never pss_nil) (pss_cons (ps_fld (pv 0) (pe_call GNa hrN rfl gNa kNa bNa .nil pass0 (pa_cons (pv 1) pa_nil)) rfl) (pss_cons (ps_fld (pv 0) (pe_call (E := E) GLe hr4 rfl gLe kLe bLe .nil (passes_call (takes_of rfl rfl rfl rfl) (fun _ _ _ _ e => e)) (pa_cons (pv 2) (pa_cons (pe_fld (pv 0) rfl) pa_nil))) rfl) pss_never)), ?_⟩
    obtain ⟨ps, hwl, nwl, _⟩ := id wb
    have nnl : ns.length = nm.length := aln.len
    refine ⟨_, rfl, nl, _, rfl, .inl (SqL.of (s0 _ _ hnl)), _, _, rfl, rfl, ?_⟩
    refine ⟨_, rfl, iteF_ (decide_eq_false (by omega)) ?_⟩
    refine ⟨_, rfl, wl, _, rfl, .inl (SqL.of (s0 _ _ hwl)), _, _, rfl, rfl, ?_⟩
    refine ⟨_, rfl, iteF_ (decide_eq_false (by omega)) ?_⟩
    refine ⟨_, rfl, nl, nm, rfl, PairsAt.keep ⟨ns, hnl, aln⟩ s0, ok.nms, nodes.keep s0, fun d H1 s1 fd hd1 => ?_⟩
    refine ⟨_, rfl, p, CW, dx, _, rfl, s1 _ _ hp, cW, n1, (by show 0 < 1000; decide), ?_⟩
    rw [putW1]
    have ndp : d ≠ p := (ne_of_none hp fd).symm
    have b1 : Same H0 (wo p H1) := same_wo (s0.trans s1) p0
    have w1 : wo p H1 d = some (.dK (dNamed nm)) := by rw [wo_ne ndp]; exact hd1
    have u1 : Same (wo p H1) (upd H1 p (.ins CW dx [("named", .ref d)])) := wo_upd
    have hp1 : upd H1 p (.ins CW dx [("named", .ref d)]) p = some (.ins CW dx [("named", .ref d)]) := upd_same
    generalize upd H1 p (.ins CW dx [("named", .ref d)]) = G1 at u1 hp1
    generalize wo p H1 = W1 at b1 w1 u1
    exact ⟨_, rfl, _, rfl, p, CW, dx, _, _, rfl, hp1, cW, n1, rfl, wl, d, nm, ws, bi, rfl, wb.keep (b1.trans u1), u1 _ _ w1, ok, nodes.keep (b1.trans u1), kE.past (b1.trans u1)⟩
theorem ok_delayedND (S : Sorts K CN CO CI) (F : FnM K "delayed" "Weave.delayed" sWeaveDelayed f fd) (T : WvC K CW) (c0 : Cls K CW)
    (mP : Meth K CW "pairs" f1) (GP : FnOk P w K mg base CX0 1 f1 fd1 ["self"] (spWvPairs K S CW)) (bP : Binds K fd1 ["self"] [])
    (MW : Mk K CW f2) (GW : FnOk P w K mg base (L2.CX P w) 5 f2 fd2 ["self", "nodes", "wires"] (spInitND K S CW CE)) (gW : mg "Weave" = some (.ref CW)) (bW : Binds K fd2 ["self", "nodes", "wires"] [])
    (gZip : mg "zip" = none) : FnOk P w K mg base (L2.CX P w) 7 f fd ["self", "delays"] (spDelayedND K S CW CE) := by
  refine F.ok scWeaveDelayed (fun vs H Q E h => ?_) (fun cdv A outer s0 H vs Q E hr h => ?_)
  · obtain ⟨p, l, nm, ws, hs, ds, bi, rfl, _⟩ := h
    rfl
  · obtain ⟨p, l, nm, ws, hs, ds, bi, rfl, wv, ok, hl, dl0, ⟨hsl, dok, good, bl, vb, evb, bad⟩, kE⟩ := h
    have hu := hu_of hr
    have nd := scWeaveDelayed.nd
    have hr6 : Room 6 _ := hr
    have hr1 : Room 1 _ := hr.mono (by decide)
    refine ⟨_, (pss_cons (ps_setLc (i := 2) (own := [("source", 3), ("goal", 4), ("place", 5), ("elder", 6), ("delay", 7)]) (g := (gTup K 2 (gCons (gTup K 4 (gCons (gName 3) (gCons (gName 4) (gCons (gName 5) (gCons (gName 6) gNil))))) (gCons (gName 7) gNil)))) (tt := tYes) rfl nd rfl rfl (sw_true rfl rfl rfl rfl) (pi_zip (by rfl) gZip (pa_cons (pe_fld (pv 0) rfl) (pa_cons (pv 1) pa_nil))) (blkOk_by (N := nWeaveDelayed) (sc := defScope sWeaveDelayed) (by decide +kernel))
        (fun _ _ _ _ _ => (pg_tup rfl (pgs_cons (pg_tup rfl (pgs_cons (pg_name (i := 3) nd rfl (Or.inl rfl)) (pgs_cons (pg_name (i := 4) nd rfl (Or.inl rfl)) (pgs_cons (pg_name (i := 5) nd rfl (Or.inl rfl)) (pgs_cons (pg_name (i := 6) nd rfl (Or.inl rfl)) pgs_nil))))) (pgs_cons (pg_name (i := 7) nd rfl (Or.inl rfl)) pgs_nil)))) (fun _ _ _ _ _ => pts_nil) (fun _ _ _ _ _ => (pe_tup (pa_cons (pv 3) (pa_cons (pv 4) (pa_cons (pv 5) (pa_cons (pv 7) pa_nil)))))))
      (pss_one (ps_ret (pe_make (E := E) MW GW hr6 rfl gW bW .nil (passes_call (takes_of rfl rfl rfl rfl) (fun _ _ _ _ e => e)) (pa_cons (pe_meth0 (pv 0) c0 mP GP hr1 bP .nil pass0) (pa_cons (pv 2) pa_nil)))))), ?_⟩
    obtain ⟨dx, d, dl, ld, dv, hp, wf⟩ := id wv
    obtain ⟨ps, hld, alw⟩ := id wf.laid
    have psl : ps.length = ws.length := alw.len
    refine ⟨_, rfl, p, CW, dx, _, _, rfl, hp, T.cl, T.n3, rfl, _, rfl, ld, l, _, _, rfl, SqL.of hld, SqL.of hl, fun D hD => ?_⟩
    refine lc_it (walk_zip (xs := ps) (ys := hs) (n := ws.length) (by rw [psl, hsl, dl0, Nat.min_self])) (fun j H' => (∃ qs, H' D = some (.lst qs) ∧ qs.length = j ∧ ∀ (i : Nat) (c : Wr) (v : V), i < j → ws[i]? = some c → hs[i]? = some v → ∃ q, qs[i]? = some (.ref q) ∧ SqT K H' q [.str c.src, .str c.goal, .int (c.place : Int), v]) ∧ Same H H') ⟨⟨[], upd_same, rfl, fun i c v h => absurd h (Nat.not_lt_zero _)⟩, Same.past (Same.refl _) hD⟩ (fun j H' _ e => ⟨SqL.of (e.2 _ _ hld), SqL.of (e.2 _ _ hl)⟩) (fun j v H' H'' hj e y => ?_) (fun H1 e => ?_)
    · obtain ⟨⟨qs, hd, ql, alq⟩, sm⟩ := e
      obtain ⟨TT, a, b, rfl, hT, rfl, ea, eb⟩ := y
      have ea : ps[j]? = some a := ea
      have eb : hs[j]? = some b := eb
      obtain ⟨c, ec, q, rfl, hq⟩ := alw.get ea
      have sT := Same.new (o := .tup [V.ref q, b]) (Same.refl H') hT
      have hqT := Same.tup (sm.trans sT) hq
      refine ⟨TT, _, rfl, .inl (.inl upd_same), rfl, _, _, rfl, ?_⟩
      generalize upd H' TT (.tup [V.ref q, b]) = G1 at sT hqT
      refine ⟨q, _, rfl, hqT, rfl, ?_⟩
      refine ⟨_, _, rfl, _, _, rfl, _, _, rfl, _, _, rfl, rfl, _, _, rfl, rfl, rfl, yes_ite ?_⟩
      refine ⟨_, rfl, _, rfl, _, rfl, _, rfl, (by show 4 ≤ sizeLine; decide), fun t ht => ?_⟩
      have s2 := Same.new (o := .tup [V.str c.src, V.str c.goal, V.int (c.place : Int), b]) (Same.refl G1) ht
      have ht2 : upd G1 t (.tup [V.str c.src, V.str c.goal, V.int (c.place : Int), b]) t = some (.tup [V.str c.src, V.str c.goal, V.int (c.place : Int), b]) := upd_same
      generalize upd G1 t (.tup [V.str c.src, V.str c.goal, V.int (c.place : Int), b]) = G2 at s2 ht2
      have u2 := sT.trans s2
      have kt : KT K G2 (upd G2 D (.lst (qs ++ [V.ref t]))) := KT.lst (u2 _ _ hd)
      refine ⟨qs, u2 _ _ hd, ?_, ⟨_, upd_same, ?_, fun i c' v' hi ec' ev' => ?_⟩, Same.past (sm.trans u2) hD⟩
      · have := ok.few
        exact Nat.lt_of_lt_of_le (show _ < 100 by omega) (by decide)
      · rw [List.length_append, ql]
        rfl
      · by_cases z : i < j
        · obtain ⟨q', e1, e2⟩ := alq i c' v' z ec' ev'
          exact ⟨q', by rw [List.getElem?_append_left (by omega)]; exact e1, kt _ _ (Same.tup u2 e2)⟩
        · have ij : i = j := by omega
          subst ij
          rw [ec] at ec'
          rw [eb] at ev'
          cases ec'
          cases ev'
          exact ⟨t, by rw [← ql]; exact List.getElem?_concat_length, kt _ _ (.inl (.inl ht2))⟩
    obtain ⟨⟨qs, hd1, ql, alq⟩, s1⟩ := e
    refine ⟨_, rfl, p, dx, _, rfl, s1 _ _ hp, rfl, p, nm, ws, rfl, wv.keep s1, ok.nms, fun pl H2 s2 fpl hpl => ?_⟩
    have t2 := s1.trans s2
    refine ⟨_, rfl, ?_⟩
    have ndB : Nodes S nm H2 := fun x hx => (wf.nodes x hx).keep t2
    have wb : WiresB K H2 D (delW ws ds) bi := by
      have bw : bi < ws.length := by omega
      obtain ⟨cb, ecb⟩ : ∃ c, ws[bi]? = some c := ⟨_, List.getElem?_eq_getElem bw⟩
      obtain ⟨db, edb⟩ : ∃ d, ds[bi]? = some d := ⟨_, List.getElem?_eq_getElem (by omega)⟩
      obtain ⟨qb, e1, e2⟩ := alq bi cb vb bw ecb evb
      refine ⟨qs, s2 _ _ hd1, by rw [delW_len dl0]; exact ql, by rw [delW_len dl0]; exact bw, fun j hj => ?_, _, qb, vb, delW_get ecb edb, e1, Same.tup s2 e2, fun H' s' => bad H' (t2.trans s')⟩
      obtain ⟨c, ec⟩ : ∃ c, ws[j]? = some c := ⟨_, List.getElem?_eq_getElem (by omega)⟩
      obtain ⟨d, ed⟩ : ∃ d, ds[j]? = some d := ⟨_, List.getElem?_eq_getElem (by omega)⟩
      obtain ⟨q, e1, e2⟩ := alq j c _ (by omega) ec (good j d hj ed)
      exact ⟨_, delW_get ec ed, q, e1, Same.tup s2 e2⟩
    exact fun q dxq nq ndq neq => ⟨H2, q, dxq, pl, D, nm, delW ws ds, bi, rfl, Same.new (Same.new (Same.refl H2) ndq) (by rw [upd_ne neq.symm]; exact nq), nq, upd_same, hpl, wb, ok.delayed dl0 dok, ndB, kE.past t2⟩
end
end Sw
namespace Sw
open PySem PySem.Spec PyProof.Rows L2
/-! ### what cannot be put -/
/-- no node -/
def NoNd (K : PySem.W.Frag) (CN : Addr) (H : Hp) (v : V) : Prop := ∃ T : String, TyX K H v (.type T) ∧ PySem.W.kitOne K (.type T) (.ref CN) = some false
def spPutNN (K : PySem.W.Frag) {CN CO CI : Addr} (S : Sorts K CN CO CI) (CW CE : Addr) : Sp := fun vs H _ E => ∃ (p : Addr) (nm : List Nm) (ws : List Wr) (x : Nm) (v : V), vs = [.ref p, .str x.name, v] ∧ WvAt K S CW H p nm ws ∧ NmsOk nm ∧ x ∈ nm ∧ NoNd K CN H v ∧ Refd H E CE [("field", .str "node")]
def spPutUn (K : PySem.W.Frag) {CN CO CI : Addr} (cl : Srt → Addr) (dd : Addr) (c : ClsS K cl CN CO CI) (CW CE : Addr) : Sp := fun vs H _ E => ∃ (p n : Addr) (nm : List Nm) (ws : List Wr) (x : Nm) (s t : Spec), vs = [.ref p, .str x.name, .ref n] ∧ WvAt K (sorts cl dd c) CW H p nm ws ∧ NmsOk nm ∧ x ∈ nm ∧ NodeS K cl dd s x.adr H ∧ NodeS K cl dd t n H ∧ SpecOk s ∧ SpecOk t ∧ ¬ (tks t = tks s ∧ gvs t = gvs s) ∧ Refd H E CE [("who", .str x.name)]
section
variable {P : Program} {w : World} {K : PySem.W.Frag} {mg : Str → Option Value} {base : Heap} {f f1 f2 f3 f4 f5 f6 f7 f8 f9 C CN CO CI CW CU CE dd : Addr} {cl : Srt → Addr} {fd fd1 fd2 fd3 fd4 fd5 fd6 fd7 fd8 fd9 : FuncData}
abbrev nNoNodeInit : List Str := ["self", "field"]
theorem scNoNodeInit : FnScope nNoNodeInit ["self", "field"] (defScope sNoNodeInit) := ⟨rfl, rfl, rfl, by decide +kernel, rfl, by decide +kernel, by decide +kernel⟩
theorem ok_noNodeInit (F : FnM K "__init__" "NoNode.__init__" sNoNodeInit f fd) (T : OexC K CE) (no : PySem.W.findIn K (.ref CE) "field" = some none) : FnOk P w K mg base CX0 1 f fd ["self", "field"] (spXInit CE "field") := by
  refine F.ok scNoNodeInit (fun vs H Q E h => ?_) (fun cdv A outer s H vs Q E hr h => ?_)
  · obtain ⟨a, v, rfl, _⟩ := h
    rfl
  · obtain ⟨a, v, rfl, ha, kk⟩ := h
    refine ⟨_, PSs.nox (pss_one (ps_ost (pv 0) (pv 1))), ?_⟩
    exact ⟨_, rfl, _, rfl, a, CE, rfl, T, no, .inl ⟨ha, kk⟩⟩
abbrev nUnlikeInit : List Str := ["self", "who"]
theorem scUnlikeInit : FnScope nUnlikeInit ["self", "who"] (defScope sUnlikeInit) := ⟨rfl, rfl, rfl, by decide +kernel, rfl, by decide +kernel, by decide +kernel⟩
theorem ok_unlikeInit (F : FnM K "__init__" "Unlike.__init__" sUnlikeInit f fd) (T : OexC K CE) (no : PySem.W.findIn K (.ref CE) "who" = some none) : FnOk P w K mg base CX0 1 f fd ["self", "who"] (spXInit CE "who") := by
  refine F.ok scUnlikeInit (fun vs H Q E h => ?_) (fun cdv A outer s H vs Q E hr h => ?_)
  · obtain ⟨a, v, rfl, _⟩ := h
    rfl
  · obtain ⟨a, v, rfl, ha, kk⟩ := h
    refine ⟨_, PSs.nox (pss_one (ps_ost (pv 0) (pv 1))), ?_⟩
    exact ⟨_, rfl, _, rfl, a, CE, rfl, T, no, .inl ⟨ha, kk⟩⟩
theorem ok_putNN (S : Sorts K CN CO CI) (F : FnM K "put" "Weave.put" sWeavePut f fd) (c0 : Cls K CW)
    (mN : Meth K CW "node" f1) (GN : FnOk P w K mg base CX0 3 f1 fd1 ["self", "name"] (spWvNode K S CW)) (bN : Binds K fd1 ["self", "name"] [])
    (gN : mg "Node" = some (.ref CN)) (gIs : mg "isinstance" = none)
    (TR : RefC K mg "NoNode" CE f3 "field") (GIn : FnOk P w K mg base CX0 1 f3 fd3 ["self", "field"] (spXInit CE "field")) (bIn : Binds K fd3 ["self", "field"] []) : FnOk P w K mg base (L2.CX P w) 7 f fd ["self", "name", "node"] (spPutNN K S CW CE) := by
  refine F.ok scWeavePut (fun vs H Q E h => ?_) (fun cdv A outer s0 H vs Q E hr h => ?_)
  · obtain ⟨p, nm, ws, x, v, rfl, _⟩ := h
    rfl
  · obtain ⟨p, nm, ws, x, v, rfl, wv, nok, xm, ⟨Ty, ty, ki⟩, kE⟩ := h
    have nd := scWeavePut.nd
    have hr3 : Room 3 _ := hr.mono (by decide)
    have hr2 : Room 2 _ := hr.mono (by decide)
    have hr1 : Room 1 _ := hr.mono (by decide)
    refine ⟨_, pss_cons (ps_set (i := 3) nd rfl (Or.inl rfl) (pe_meth (pv 0) c0 mN GN hr3 bN .nil pass0 (pa_cons (pv 1) pa_nil))) (pss_cons (ps_if (pt_not (pt_val (pe_callB call_isi (by rfl) gIs boot_isinstance (pa_cons (pv 2) (pa_cons (pe_glob (v := .ref CN) rfl gN rfl) pa_nil))))) (pss_one (ps_raise rfl (takes_of rfl rfl rfl rfl) (pmk_oex TR.oex TR.iC TR.tI GIn hr2 bIn .nil pass0 rfl TR.gU (pa_cons pe_str pa_nil)))) pss_nil) pss_never), ?_⟩
    obtain ⟨dx, d, dl, ld, dv, hp, wf⟩ := id wv
    refine ⟨_, rfl, p, dx, _, rfl, hp, rfl, _, rfl, p, nm, ws, x, rfl, wv, nok, xm, ?_⟩
    refine ⟨_, rfl, _, _, _, _, false, rfl, ClsV.own _, ty, ki, _, rfl, iteT ?_⟩
    refine ⟨(by show 1 ≤ 1000; decide), fun a ha => ⟨a, _, rfl, upd_same, fun dx' hdx ne => ⟨rfl, dx', [("field", .str "node")], ?_⟩⟩⟩
    exact refd_mk kE ha hdx ne
theorem ok_putUn (c : ClsS K cl CN CO CI) (F : FnM K "put" "Weave.put" sWeavePut f fd) (c0 : Cls K CW)
    (mN : Meth K CW "node" f1) (GN : FnOk P w K mg base CX0 3 f1 fd1 ["self", "name"] (spWvNode K (sorts cl dd c) CW)) (bN : Binds K fd1 ["self", "name"] [])
    (hT : ∀ A, A ∈ allS → MethC P w K mg base 1 "takes" ["self"] (spTkS K cl dd A) (cl A)) (hG : ∀ A, A ∈ allS → MethC P w K mg base 1 "gives" ["self"] (spGvS K cl dd A) (cl A))
    (gN : mg "Node" = some (.ref CN)) (gIs : mg "isinstance" = none)
    (TR : RefC K mg "Unlike" CE f3 "who") (GIn : FnOk P w K mg base CX0 1 f3 fd3 ["self", "who"] (spXInit CE "who")) (bIn : Binds K fd3 ["self", "who"] []) : FnOk P w K mg base (L2.CX P w) 7 f fd ["self", "name", "node"] (spPutUn K cl dd c CW CE) := by
  refine F.ok scWeavePut (fun vs H Q E h => ?_) (fun cdv A outer s0 H vs Q E hr h => ?_)
  · obtain ⟨p, n, nm, ws, x, s, t, rfl, _⟩ := h
    rfl
  · obtain ⟨p, n, nm, ws, x, s, t, rfl, wv, nok, xm, ns, nt, oks, okt, un, kE⟩ := h
    have hu6 := hr.units
    have nd := scWeavePut.nd
    have hr3 : Room 3 _ := hr.mono (by decide)
    have hr2 : Room 2 _ := hr.mono (by decide)
    have hr1 : Room 1 _ := hr.mono (by decide)
    refine ⟨_, pss_cons (ps_set (i := 3) nd rfl (Or.inl rfl) (pe_meth (pv 0) c0 mN GN hr3 bN .nil pass0 (pa_cons (pv 1) pa_nil))) (pss_cons (ps_if (pt_not (pt_val (pe_callB call_isi (by rfl) gIs boot_isinstance (pa_cons (pv 2) (pa_cons (pe_glob (v := .ref CN) rfl gN rfl) pa_nil))))) pss_never pss_nil) (pss_cons (ps_if (PW.pt (pw_or (pt_cmpR (op_neD hu6) (pe_methOf0 (As := allS) (cl := cl) (sp := spTkS K cl dd) (pv 2) hT hr1) (pe_methOf0 (As := allS) (cl := cl) (sp := spTkS K cl dd) (pv 3) hT hr1) (nomark _)) (pw_or1 (pt_cmpR op_ne (pe_methOf0 (As := allS) (cl := cl) (sp := spGvS K cl dd) (pv 2) hG hr1) (pe_methOf0 (As := allS) (cl := cl) (sp := spGvS K cl dd) (pv 3) hG hr1) (nomark _))))) (pss_one (ps_raise rfl (takes_of rfl rfl rfl rfl) (pmk_oex TR.oex TR.iC TR.tI GIn hr2 bIn .nil pass0 rfl TR.gU (pa_cons (pv 1) pa_nil)))) pss_nil) pss_never)), ?_⟩
    obtain ⟨dx, d, dl, ld, dv, hp, wf⟩ := id wv
    refine ⟨_, rfl, p, dx, _, rfl, hp, rfl, _, rfl, p, nm, ws, x, rfl, wv, nok, xm, ?_⟩
    obtain ⟨dxn, fsn, hin, ntk, ngv⟩ := nt.no
    obtain ⟨dxs, fss, his, stk, sgv⟩ := ns.no
    refine ⟨_, rfl, _, _, _, _, true, rfl, ClsV.own _, (c.isN _).ty (c.nc _).cl hin, (c.isN _).kit, _, rfl, iteF_ rfl ?_⟩
    refine ⟨_, rfl, srt t, n, dxn, fsn, mem_allS _, rfl, hin, ntk, n, tks t, rfl, ⟨t, rfl, okt, rfl, nt⟩, fun t1 H1 s1 ht1 => ?_⟩
    refine ⟨_, rfl, srt s, x.adr, dxs, fss, mem_allS _, rfl, s1 _ _ his, stk, x.adr, tks s, rfl, ⟨s, rfl, oks, rfl, ns.keep s1⟩, fun t2 H2 s2 ht2 => ?_⟩
    refine ⟨tkD (tks t), tkD (tks s), .tup (Same.tup s2 ht1) (tk_dp _), .tup ht2 (tk_dp _), tk_shaped _, tk_shaped _, _, rfl, ?_⟩
    have t2' := s1.trans s2
    have rz : ∀ {G : Hp}, Same H G → ∀ a, G a = none → ∀ dx', L2.upd G a (exo a CE none) dx' = none → dx' ≠ a → _ := fun {G} sg a ha dx' hdx ne => refd_mk (kE.past sg) ha hdx ne
    rw [tk_eqv]
    by_cases z : tks t = tks s
    · rw [decide_eq_true z]
      refine iteF_ rfl ?_
      refine ⟨_, rfl, srt t, n, dxn, fsn, mem_allS _, rfl, t2' _ _ hin, ngv, n, t, rfl, rfl, nt.keep t2', ?_⟩
      refine ⟨_, rfl, srt s, x.adr, dxs, fss, mem_allS _, rfl, t2' _ _ his, sgv, x.adr, s, rfl, rfl, ns.keep t2', ?_⟩
      have gn : gvs t ≠ gvs s := fun q => un ⟨z, q⟩
      refine ⟨rfl, _, rfl, iteT_ ?_ ?_⟩
      · rw [decide_eq_false (fun q => gn (by injection q with q; omega))]
        rfl
      · exact ⟨_, rfl, (by show 1 ≤ 1000; decide), fun a ha => ⟨a, _, rfl, upd_same, fun dx' hdx ne => ⟨rfl, dx', [("who", .str x.name)], rz t2' a ha dx' hdx ne⟩⟩⟩
    · rw [decide_eq_false z]
      refine iteT_ rfl ?_
      exact ⟨_, rfl, (by show 1 ≤ 1000; decide), fun a ha => ⟨a, _, rfl, upd_same, fun dx' hdx ne => ⟨rfl, dx', [("who", .str x.name)], rz t2' a ha dx' hdx ne⟩⟩⟩
end
end Sw
namespace Sw
open PySem PySem.Spec PyProof.Rows L2
theorem wires_dp {K : PySem.W.Frag} {H : Hp} : ∀ {ps : List V} {ws : List Wr}, Al (WireAt K H) ps ws → DpAll K H ps (ws.map cordD)
  | [], [], _ => .nil
  | p :: ps, w :: ws, h => by
    obtain ⟨q, rfl, hq⟩ := h.1
    exact .cons (cord_mk hq) (wires_dp h.2)
  | [], _ :: _, h => h.elim
  | _ :: _, [], h => h.elim
theorem dp_wires {K : PySem.W.Frag} {H : Hp} : ∀ {ps : List V} {ws : List Wr}, DpAll K H ps (ws.map cordD) → Al (WireAt K H) ps ws
  | ps, [], h => by rw [dpAll_nil h]; exact trivial
  | ps, w :: ws, h => by
    obtain ⟨v, r, rfl, h1, h2⟩ := dpAll_cons h
    obtain ⟨q, rfl, hq⟩ := cord_inv h1
    exact ⟨⟨q, rfl, hq⟩, dp_wires h2⟩
theorem nm_shown {x : Str} (h : NmOk x) : (PyData.shown (.str x)).length ≤ 100 := by
  rw [PyData.shown]
  have l := h.2.1
  have := StrLaws.reprText_len x (fun c hc => by
    have : ∀ c ∈ letters.cps.toList, decide (c < 16 ^ 8) = true := by decide +kernel
    exact of_decide_eq_true (this c (h.2.2 c hc)))
  omega
theorem nat_shown {n : Nat} (h : n ≤ 9999) : (PyData.shown (natD n)).length ≤ 100 := by
  unfold natD
  exact Nat.le_trans (PyData.shown_int_le (by omega)) (by decide)
theorem strs_shown {ts : List Str} (h : ∀ t ∈ ts, NmOk t) (l : ts.length ≤ 48) : (strsD ts).shown.length ≤ 20000 := by
  unfold strsD
  refine Nat.le_trans (shown_list (B := 100) fun d hd => ?_) ?_
  · obtain ⟨t, ht, rfl⟩ := List.mem_map.mp hd
    exact nm_shown (h t ht)
  · rw [List.length_map]
    omega
theorem cord_shown {c : Wr} (h : NmOk c.src) (h' : NmOk c.goal) (p : c.place ≤ 9999) (d : c.delay ≤ 9999) : (cordD c).shown.length ≤ 500 := by
  unfold cordD
  refine Nat.le_trans (shown_tuple (B := 100) fun z hz => ?_) (by show (100 + 2) * 4 + 3 ≤ 500; decide)
  simp only [List.mem_cons, List.not_mem_nil, or_false] at hz
  rcases hz with rfl | rfl | rfl | rfl
  · exact nm_shown h
  · exact nm_shown h'
  · exact nat_shown p
  · exact nat_shown d
structure CordsOk (ws : List Wr) : Prop where
  few : ws.length ≤ 48
  nm : ∀ c ∈ ws, NmOk c.src ∧ NmOk c.goal
  num : ∀ c ∈ ws, c.place ≤ 9999 ∧ c.delay ≤ 9999
theorem cords_shown {ws : List Wr} (h : CordsOk ws) : (PyData.shown (.list (ws.map cordD))).length ≤ 30000 := by
  have few := h.few
  refine Nat.le_trans (shown_list (B := 500) fun d hd => ?_) ?_
  · obtain ⟨c, hc, rfl⟩ := List.mem_map.mp hd
    exact cord_shown (h.nm c hc).1 (h.nm c hc).2 (h.num c hc).1 (h.num c hc).2
  · rw [List.length_map]
    omega
theorem showAll_strs : ∀ ts : List Str, PyData.showableAll (ts.map PyData.str) = true
  | [] => by rw [List.map_nil, PyData.showableAll]
  | t :: r => by rw [List.map_cons, PyData.showableAll, showAll_strs r, PyData.showable]; rfl
theorem showAll_cords {ws : List Wr} (h : ∀ c ∈ ws, c.place ≤ 9999 ∧ c.delay ≤ 9999) : PyData.showableAll (ws.map cordD) = true := by
  induction ws with
  | nil => rw [List.map_nil, PyData.showableAll]
  | cons c r ih =>
    obtain ⟨h1, h2⟩ := h c List.mem_cons_self
    have lg : ∀ n : Nat, n ≤ 9999 → decide ((n : Int).natAbs.log2 < 1920) = true := fun n hn => decide_eq_true (by
      rw [Int.natAbs_natCast]
      refine Nat.lt_of_le_of_lt (show n.log2 ≤ 13 from ?_) (by decide)
      by_cases z : n = 0
      · rw [z]
        decide
      · exact Nat.le_of_lt_succ ((Nat.log2_lt z).mpr (by omega)))
    rw [List.map_cons, PyData.showableAll, ih fun c hc => h c (List.mem_cons_of_mem _ hc)]
    unfold cordD natD
    simp only [PyData.showable, PyData.showableAll]
    rw [lg _ h1, lg _ h2]
    rfl
theorem layAll_cords {ws : List Wr} (h : ∀ c ∈ ws, NmOk c.src ∧ NmOk c.goal) : PyData.canLayAll0 (ws.map cordD) = true ∧ PyData.depthAll (ws.map cordD) ≤ 3 := by
  induction ws with
  | nil => exact ⟨rfl, by rw [List.map_nil, PyData.depthAll]; decide⟩
  | cons c r ih =>
    obtain ⟨i1, i2⟩ := ih fun c hc => h c (List.mem_cons_of_mem _ hc)
    obtain ⟨c1, c2⟩ := cord_lay (h c List.mem_cons_self).1 (h c List.mem_cons_self).2
    rw [List.map_cons, PyData.canLayAll0, PyData.depthAll, i1, c1]
    exact ⟨rfl, by omega⟩
theorem Web.cordsOk {ks : List Knot} {cs : List Wr} (h : Web ks cs) (few : cs.length ≤ 48) : CordsOk cs := by
  refine ⟨few, fun c hc => ?_, fun c hc => ⟨?_, h.b.del c hc⟩⟩
  · obtain ⟨k, hk, e, _⟩ := h.b.src c hc
    obtain ⟨k', hk', e', _⟩ := h.b.goal c hc
    exact ⟨e ▸ h.b.nm k hk, e' ▸ h.b.nm k' hk'⟩
  · obtain ⟨k, hk, e, p⟩ := h.b.goal c hc
    have := tks_len (h.b.sp k hk)
    omega
theorem cords_eqv {ws : List Wr} (h : ∀ c ∈ ws, NmOk c.src ∧ NmOk c.goal) : SeqAt.shaped (.list (ws.map cordD)) = true := by
  obtain ⟨w1, w2⟩ := layAll_cords h
  unfold SeqAt.shaped
  rw [PyData.canLay0, PyData.depth, w1]
  refine Bool.and_eq_true_iff.mpr ⟨rfl, decide_eq_true ?_⟩
  omega
/-- two lists of names in a list -/
def twoD (a b : List Str) : PyData := .list [strsD a, strsD b]
theorem twoS_shaped {a b : List Str} (ha : ∀ t ∈ a, NmOk t) (hb : ∀ t ∈ b, NmOk t) : SeqAt.shaped (twoD a b) = true := by
  unfold SeqAt.shaped twoD strsD
  simp only [PyData.canLay0, PyData.canLayAll0, PyData.depth, PyData.depthAll]
  have d1 := depth_strs a
  have d2 := depth_strs b
  rw [lay_strs a ha, lay_strs b hb]
  refine Bool.and_eq_true_iff.mpr ⟨rfl, decide_eq_true ?_⟩
  omega
theorem twoS_show (a b : List Str) : (twoD a b).showable = true := by
  unfold twoD strsD
  simp only [PyData.showable, PyData.showableAll]
  rw [showAll_strs, showAll_strs]
  rfl
theorem twoS_shown {a b : List Str} (ha : ∀ t ∈ a, NmOk t) (la : a.length ≤ 48) (hb : ∀ t ∈ b, NmOk t) (lb : b.length ≤ 48) : (twoD a b).shown.length ≤ sizeLine := by
  unfold twoD
  have sz := shown_list (B := 20000) (ds := [strsD a, strsD b]) fun z hz => by
    simp only [List.mem_cons, List.not_mem_nil, or_false] at hz
    rcases hz with rfl | rfl
    · exact strs_shown ha la
    · exact strs_shown hb lb
  exact Nat.le_trans sz (by show (20000 + 2) * 2 + 3 ≤ sizeLine; decide)
/-! ### a weave is made of these -/
def spIs (K : PySem.W.Frag) {CN CO CI : Addr} {cl : Srt → Addr} (dd : Addr) (c : ClsS K cl CN CO CI) (CW : Addr) : Sp := fun vs H Q _ => ∃ (p kl cl0 : Addr) (nm : List Nm) (ks : List Knot) (cs : List Wr), vs = [.ref p, .ref kl, .ref cl0] ∧ WvAt K (sorts cl dd c) CW H p nm cs ∧ Al (NmK K cl dd H) nm ks ∧ ListD K H kl (ks.map knotD) ∧ ListD K H cl0 (cs.map cordD) ∧ Web ks cs ∧ ks.length ≤ 24 ∧ cs.length ≤ 48 ∧ ∀ H', Same H H' → Q (.bl true) H'
section
variable {P : Program} {w : World} {K : PySem.W.Frag} {mg : Str → Option Value} {base : Heap} {f f1 f2 f3 f4 f5 f6 f7 f8 f9 C CN CO CI CW CU dd : Addr} {cl : Srt → Addr} {fd fd1 fd2 fd3 fd4 fd5 fd6 fd7 fd8 fd9 : FuncData}
abbrev nLIs : List Str := ["_law_web", "_law_knots", "_law_cords", "_law_tag", "_law_spec_here"]
theorem scLIs : FnScope nLIs ["_law_web", "_law_knots", "_law_cords"] (defScope sLIs) := ⟨rfl, rfl, rfl, by decide +kernel, rfl, by decide +kernel, by decide +kernel⟩
theorem ok_is (c : ClsS K cl CN CO CI) (F : FnP K "_law_is" sLIs f fd) (c0 : Cls K CW)
    (mS : Meth K CW "names" f1) (GS : FnOk P w K mg base CX0 1 f1 fd1 ["self"] (spWvNames K (sorts cl dd c) CW (fun _ => true))) (bS : Binds K fd1 ["self"] [])
    (mW : Meth K CW "wires" f2) (GW : FnOk P w K mg base CX0 1 f2 fd2 ["self"] (spWvWires K (sorts cl dd c) CW)) (bW : Binds K fd2 ["self"] [])
    (mN : Meth K CW "node" f3) (GN : FnOk P w K mg base CX0 3 f3 fd3 ["self", "name"] (spWvNode K (sorts cl dd c) CW)) (bN : Binds K fd3 ["self", "name"] [])
    (GM : FnOk P w K mg base CX0 6 f4 fd4 ["_law_spec_here"] (spMade K cl dd)) (gM : mg "_law_made" = some (.ref f4)) (kM : PySem.W.keepIn K (.ref f4) = true) (bM : Binds K fd4 ["_law_spec_here"] [])
    (hEq : ∀ A, EqC P w K mg base 3 (RS K cl dd A) (cl A)) (gRepr : mg "repr" = none) (gAll : mg "all" = none) : FnG P w K mg base CX0 7 f fd ["_law_web", "_law_knots", "_law_cords"] (spIs K dd c CW) := by
  refine F.okG scLIs (fun vs H Q E h => ?_) (fun cdv A ou s H vs Q E hr guard h => ?_)
  · obtain ⟨p, kl, cl0, nm, ks, cs, rfl, _⟩ := h
    rfl
  · obtain ⟨p, kl, cl0, nm, ks, cs, rfl, wv, aln, hkD, hcD, web, few, fewc, kk⟩ := h
    have nd := scLIs.nd
    have hr6 : Room 6 _ := hr
    have hr3 : Room 3 _ := hr.mono (by decide)
    have hr1 : Room 1 _ := hr.mono (by decide)
    have hu := hr.units
    have un := hr.un
    have R : ∀ {X : Cx}, X.A = A.deeper (envOfC "_law_is" (defScope sLIs) s.heap.objs.size f cdv) → CallR X (.builtin "repr") (rReprD X.K) := fun {X} e => call_reprD (by rw [e]; exact guard) (by rw [e]; omega)
    refine ⟨_, PSs.nox (pss_cons (ps_if (PW.pt (pw_or (pt_cmpR (op_neD hu) (pe_meth0 (pv 0) c0 mS GS hr1 bS .nil pass0) (pe_lc (own := [("_law_tag", 3), ("_law_spec_here", 4)]) (g := (gTup K 2 (gCons (gName 3) (gCons (gName 4) gNil)))) (tt := tYes) rfl nd (pi_list (pv 1)) (blkOk_by (N := nLIs) (sc := defScope sLIs) (by decide +kernel))
        (fun _ _ _ _ _ => (pg_tup rfl (pgs_cons (pg_name (i := 3) nd rfl (Or.inl rfl)) (pgs_cons (pg_name (i := 4) nd rfl (Or.inl rfl)) pgs_nil)))) (fun _ _ _ _ _ => pts_nil) (fun _ _ _ _ _ => (pv 3))) (nomark _)) (pw_or1 (pt_cmpR op_ne (pe_callB (R rfl) (by rfl) gRepr boot_repr (pa_cons (pe_meth0 (pv 0) c0 mW GW hr1 bW .nil pass0) pa_nil)) (pe_callB (R rfl) (by rfl) gRepr boot_repr (pa_cons (pv 2) pa_nil)) (nomark _))))) pss_never pss_nil)
      (pss_one (ps_ret (pe_callB (cr_all rfl) (by rfl) gAll (by decide +kernel) (pa_cons (pe_lc (own := [("_law_tag", 3), ("_law_spec_here", 4)]) (g := (gTup K 2 (gCons (gName 3) (gCons (gName 4) gNil)))) (tt := tYes) rfl nd (pi_list (pv 1)) (blkOk_by (N := nLIs) (sc := defScope sLIs) (by decide +kernel))
        (fun _ _ _ _ _ => (pg_tup rfl (pgs_cons (pg_name (i := 3) nd rfl (Or.inl rfl)) (pgs_cons (pg_name (i := 4) nd rfl (Or.inl rfl)) pgs_nil)))) (fun _ _ _ _ _ => pts_nil) (fun _ _ _ _ _ => (pe_cmpR (op_eqG (rc_sorts hEq) hr3) (pe_meth (pv 0) c0 mN GN hr3 bN .nil pass0 (pa_cons (pv 3) pa_nil)) (pe_call GM hr6 rfl gM kM bM .nil pass0 (pa_cons (pv 4) pa_nil)) (nomark _)))) pa_nil))))), ?_⟩
    have ok := web.ok few fewc (nmK_map aln)
    have cok := web.cordsOk fewc
    obtain ⟨dx, d0, dl, ld0, dv, hp, _⟩ := id wv
    obtain ⟨kv, hk, dk⟩ := id hkD
    obtain ⟨cv, hc, dc⟩ := id hcD
    have kvl : kv.length = ks.length := by rw [DpAll.len dk, List.length_map]
    have nmm : nm.map Nm.name = ks.map (·.1) := by
      have := congrArg (List.map Prod.fst) (nmK_map aln)
      rw [List.map_map, List.map_map] at this
      exact this
    have nall : namesN nm (fun _ => true) = nm.map Nm.name := by
      unfold namesN
      rw [List.filter_eq_self.mpr (fun _ _ => rfl)]
    obtain ⟨ts, ets⟩ : ∃ ts, ks.map (·.1) = ts := ⟨_, rfl⟩
    have tsok : ∀ t ∈ ts, NmOk t := fun t ht => by
      rw [← ets] at ht
      obtain ⟨k, hk, rfl⟩ := List.mem_map.mp ht
      exact web.b.nm k hk
    -- the names
    refine ⟨_, rfl, p, dx, _, rfl, hp, rfl, p, nm, cs, rfl, wv, ok.nms, fun nl H1 s1 fnl hnl => ?_⟩
    rw [nall, nmm, ets] at hnl
    refine ⟨_, rfl, kl, rfl, ⟨_, SqL.of (s1 _ _ hk)⟩, fun D hD => ?_⟩
    refine lc_list (xs := kv) (fun j H' => H' D = some (.lst (strL (ts.take j))) ∧ Same H1 H') ⟨by rw [List.take_zero]; exact upd_same, Same.past (Same.refl _) hD⟩ (fun j H' _ e => SqL.of ((s1.trans e.2) _ _ hk)) (fun j v H' ev e => ?_) (fun H2 e => ?_)
    · obtain ⟨hd, sm⟩ := e
      obtain ⟨k, ekj, dkj⟩ := DpAll.map dk ev
      obtain ⟨q, sv, rfl, hq, _⟩ := knot_inv dkj
      have jl := (List.getElem?_eq_some_iff.mp ekj).1
      refine ⟨q, _, rfl, Same.tup (s1.trans sm) hq, rfl, _, _, rfl, _, _, rfl, rfl, rfl, ?_⟩
      refine yes_ite ?_
      refine ⟨_, rfl, _, hd, ?_, ?_, Same.past sm hD⟩
      · unfold strL
        rw [List.length_map, List.length_take, ← ets, List.length_map]
        exact Nat.lt_of_lt_of_le (show _ < 100 by omega) (by decide)
      · have et : ts[j]? = some k.1 := by rw [← ets, List.getElem?_map, ekj]; rfl
        rw [List.take_succ, et]
        unfold strL
        rw [List.map_append]
        exact upd_same
    obtain ⟨hd, s2⟩ := e
    rw [List.take_of_length_le (by rw [← ets, List.length_map]; omega)] at hd
    have t2 := s1.trans s2
    refine ⟨strsD ts, strsD ts, .lst (SqL.of (s2 _ _ hnl)) (dp_strs _), .lst (SqL.of hd) (dp_strs _), shaped_strs tsok, shaped_strs tsok, _, rfl, iteF_ ?_ ?_⟩
    · rw [SeqAt.eqv_refl _ (SeqAt.canLay_of_shaped (shaped_strs tsok))]
      rfl
    -- the wires
    refine ⟨_, rfl, p, dx, _, rfl, t2 _ _ hp, rfl, p, nm, cs, rfl, wv.keep t2, fun wl H3 s3 fwl hwl => ?_⟩
    obtain ⟨ps, hwl1, alw⟩ := hwl
    have t3 := t2.trans s3
    obtain ⟨S, hS⟩ : ∃ S, (PyData.list (cs.map cordD)).shown = S := ⟨_, rfl⟩
    have sh1 := cords_eqv cok.nm
    have sh2 : (PyData.list (cs.map cordD)).showable = true := by
      rw [PyData.showable]
      exact showAll_cords cok.num
    have sz := cords_shown cok
    have sh3 : (PyData.list (cs.map cordD)).shown.length ≤ sizeLine := Nat.le_trans sz (by decide)
    refine ⟨wl, _, S, rfl, .lst (SqL.of hwl1) (wires_dp alw), sh1, sh2, sh3, hS, _, rfl, cl0, _, S, rfl, .lst (SqL.of (t3 _ _ hc)) (DpAll.keep t3 dc), sh1, sh2, sh3, hS, rfl, _, rfl, iteF_ ?_ ?_⟩
    · rw [decide_eq_true rfl]
      rfl
    -- the nodes
    refine ⟨_, rfl, kl, rfl, ⟨_, SqL.of (t3 _ _ hk)⟩, fun D2 hD2 => ?_⟩
    refine lc_list (xs := kv) (fun j H' => H' D2 = some (.lst ((List.replicate j true).map V.bl)) ∧ Same H3 H') ⟨upd_same, Same.past (Same.refl _) hD2⟩ (fun j H' _ e => SqL.of ((t3.trans e.2) _ _ hk)) (fun j v H' ev e => ?_) (fun H4 e => ?_)
    · obtain ⟨hd, sm⟩ := e
      have tG := t3.trans sm
      obtain ⟨k, ek, dkj⟩ := DpAll.map dk ev
      obtain ⟨x, ex, nmk⟩ := Al.get' aln ek
      have xm : x ∈ nm := List.mem_of_getElem? ex
      have jl := (List.getElem?_eq_some_iff.mp ek).1
      obtain ⟨q, sv, rfl, hq, hs⟩ := knot_inv dkj
      have sok := web.b.sp k (List.mem_of_getElem? ek)
      obtain ⟨k1, k2⟩ := k
      obtain ⟨ex1, ex2, hn⟩ := nmk
      have ex1 : x.name = k1 := ex1
      subst ex1
      have hn : NodeS K cl dd k2 x.adr H := hn
      have hnG := hn.keep tG
      obtain ⟨dxn, fsn, hin, _⟩ := hnG.no
      refine ⟨q, _, rfl, Same.tup tG hq, rfl, _, _, rfl, _, _, rfl, rfl, rfl, ?_⟩
      refine yes_ite ?_
      refine ⟨_, rfl, p, dx, _, rfl, tG _ _ hp, rfl, _, rfl, p, nm, cs, x, rfl, wv.keep tG, ok.nms, xm, ?_⟩
      refine ⟨_, rfl, sv, k2, rfl, hs.kt (KT.same tG), sok, fun n2 G1 fn s1 hn2 => ?_⟩
      obtain ⟨dy, gs, hin2, _⟩ := hn2.no
      refine ⟨⟨srt k2, x.adr, n2, dxn, dy, fsn, gs, rfl, rfl, s1 _ _ hin, hin2, k2, rfl, hnG.keep s1, hn2⟩, fun G2 e2 => ?_⟩
      have s2' : Same H' G2 := s1.trans e2
      refine ⟨_, s2' _ _ hd, ?_, ?_, Same.past (sm.trans s2') hD2⟩
      · rw [List.length_map, List.length_replicate]
        exact Nat.lt_of_lt_of_le (show j < 100 by omega) (by decide)
      · rw [List.replicate_succ', List.map_append]
        exact upd_same
    · obtain ⟨hd, sm⟩ := e
      refine ⟨D2, _, rfl, SqL.of hd, ?_⟩
      rw [all_true]
      exact kk H4 (t3.trans sm)
end
end Sw
namespace Sw
open PySem PySem.Spec PyProof.Rows L2
/-! ### another spec that takes and gives as much -/
theorem tks_dig {s : Spec} (ok : SpecOk s) : ∀ t ∈ tks s, Dig t := by
  have one : Dig 1 := ⟨by decide, by decide⟩
  cases s with
  | mix n =>
    intro t ht
    have ht : t ∈ List.replicate n 1 := ht
    rw [List.eq_of_mem_replicate ht]
    exact one
  | down n =>
    intro t ht
    have ht : t ∈ [n] := ht
    rw [List.mem_singleton.mp ht]
    exact ok
  | resample u d =>
    intro t ht
    have ht : t ∈ [d] := ht
    rw [List.mem_singleton.mp ht]
    exact ok.2
  | own ts g => exact ok.2.2.1
  | times =>
    intro t ht
    have ht : t ∈ [1, 1] := ht
    simp only [List.mem_cons, List.not_mem_nil, or_false] at ht
    rcases ht with rfl | rfl <;> exact one
  | choose =>
    intro t ht
    have ht : t ∈ [1, 1, 1] := ht
    simp only [List.mem_cons, List.not_mem_nil, or_false] at ht
    rcases ht with rfl | rfl | rfl <;> exact one
  | inlet =>
    intro t ht
    have ht : t ∈ ([] : List Nat) := ht
    cases ht
  | _ =>
    intro t ht
    have ht : t ∈ [1] := ht
    rw [List.mem_singleton.mp ht]
    exact one
theorem gvs_dig {s : Spec} (ok : SpecOk s) (o : isOut s = false) : Dig (gvs s) := by
  have one : Dig 1 := ⟨by decide, by decide⟩
  cases s with
  | up n => exact ok
  | resample u d => exact ok.1
  | own ts g => exact ok.2.2.2
  | outlet => cases o
  | _ => exact one
theorem in_io (s : Spec) : (if false = true then !inV (V.str (tagOf s)) [V.str "inlet", V.str "outlet"] else inV (V.str (tagOf s)) [V.str "inlet", V.str "outlet"]) = (isInl s || isOut s) := by
  cases s with
  | gain b l g => show (if false = true then !inV (V.str "gain") [V.str "inlet", V.str "outlet"] else inV (V.str "gain") [V.str "inlet", V.str "outlet"]) = false; decide +kernel
  | mix n => show (if false = true then !inV (V.str "mix") [V.str "inlet", V.str "outlet"] else inV (V.str "mix") [V.str "inlet", V.str "outlet"]) = false; decide +kernel
  | times => show (if false = true then !inV (V.str "times") [V.str "inlet", V.str "outlet"] else inV (V.str "times") [V.str "inlet", V.str "outlet"]) = false; decide +kernel
  | choose => show (if false = true then !inV (V.str "choose") [V.str "inlet", V.str "outlet"] else inV (V.str "choose") [V.str "inlet", V.str "outlet"]) = false; decide +kernel
  | up n => show (if false = true then !inV (V.str "up") [V.str "inlet", V.str "outlet"] else inV (V.str "up") [V.str "inlet", V.str "outlet"]) = false; decide +kernel
  | down n => show (if false = true then !inV (V.str "down") [V.str "inlet", V.str "outlet"] else inV (V.str "down") [V.str "inlet", V.str "outlet"]) = false; decide +kernel
  | resample u d => show (if false = true then !inV (V.str "resample") [V.str "inlet", V.str "outlet"] else inV (V.str "resample") [V.str "inlet", V.str "outlet"]) = false; decide +kernel
  | own ts g => show (if false = true then !inV (V.str "own") [V.str "inlet", V.str "outlet"] else inV (V.str "own") [V.str "inlet", V.str "outlet"]) = false; decide +kernel
  | outlet => show (if false = true then !inV (V.str "outlet") [V.str "inlet", V.str "outlet"] else inV (V.str "outlet") [V.str "inlet", V.str "outlet"]) = true; decide +kernel
  | inlet => show (if false = true then !inV (V.str "inlet") [V.str "inlet", V.str "outlet"] else inV (V.str "inlet") [V.str "inlet", V.str "outlet"]) = true; decide +kernel
def spLike (K : PySem.W.Frag) : Sp := fun vs H Q _ => ∃ (p : Addr) (v : V) (s : Spec), vs = [.ref p, v] ∧ PotAt H p ∧ SpecAt K H v s ∧ SpecOk s ∧ ∀ (v' : V) (s' : Spec) (H' : Hp), SpecOk s' → tks s' = tks s → gvs s' = gvs s → Kept p H H' → PotAt H' p → SpecAt K H' v' s' → Q v' H'
section
variable {P : Program} {w : World} {K : PySem.W.Frag} {mg : Str → Option Value} {base : Heap} {f f1 f2 f3 f4 f5 f6 f7 f8 f9 C CN CO CI CW CU CE dd : Addr} {cl : Srt → Addr} {fd fd1 fd2 fd3 fd4 fd5 fd6 fd7 fd8 fd9 : FuncData}
abbrev nLLike : List Str := ["_law_pot_here", "_law_spec_here", "_law_takes_here", "_law_gives_here"]
theorem scLLike : FnScope nLLike ["_law_pot_here", "_law_spec_here"] (defScope sLLike) := ⟨rfl, rfl, rfl, by decide +kernel, rfl, by decide +kernel, by decide +kernel⟩
theorem ok_like (F : FnP K "_law_like" sLLike f fd)
    (GTk : FnOk P w K mg base CX0 1 f1 fd1 ["_law_spec_here"] (spTakes K)) (gTk : mg "_law_takes" = some (.ref f1)) (kTk : PySem.W.keepIn K (.ref f1) = true) (bTk : Binds K fd1 ["_law_spec_here"] [])
    (GGv : FnOk P w K mg base CX0 1 f2 fd2 ["_law_spec_here"] (spLGives K)) (gGv : mg "_law_gives" = some (.ref f2)) (kGv : PySem.W.keepIn K (.ref f2) = true) (bGv : Binds K fd2 ["_law_spec_here"] [])
    (GT : FnOk P w K mg base CX0 1 f3 fd3 ["_law_pot_here", "_law_many"] spTake) (gT : mg "_law_take" = some (.ref f3)) (kT : PySem.W.keepIn K (.ref f3) = true) (bT : Binds K fd3 ["_law_pot_here", "_law_many"] [])
    (gLen : mg "len" = none) : FnOk P w K mg base CX0 2 f fd ["_law_pot_here", "_law_spec_here"] (spLike K) := by
  refine F.ok scLLike (fun vs H Q E h => ?_) (fun cdv A ou s0 H vs Q E hr h => ?_)
  · obtain ⟨p, v, s, rfl, _⟩ := h
    rfl
  · obtain ⟨p, v, s, rfl, hp, hs, ok, kk⟩ := h
    have nd := scLLike.nd
    have hu6 := hr.units
    have hr1 : Room 1 _ := hr
    refine ⟨_, PSs.nox (pss_cons (ps_par (i := 2) (j := 3) rfl nd rfl rfl (by decide) rfl rfl (pa_cons (pe_call GTk hr1 rfl gTk kTk bTk .nil pass0 (pa_cons (pv 1) pa_nil)) (pa_cons (pe_call GGv hr1 rfl gGv kGv bGv .nil pass0 (pa_cons (pv 1) pa_nil)) pa_nil)) rfl)
      (pss_cons (ps_if (pt_cmpR op_in_seq (pe_ix ix_tup (pv 1) pe_int (fun _ _ => rfl)) (pe_tup (pa_cons pe_str (pa_cons pe_str pa_nil))) rfl) (pss_one (ps_ret (pv 1))) pss_nil)
      (C8.pss_cut (ps_if (PW.pt (pw_and (pt_cmpR op_lt (pe_callB call_len_seq (by rfl) gLen PySem.boot_len (pa_cons (pv 2) pa_nil)) pe_int (nomark _)) (pw_and1 (pt_cmpR op_eq (pe_call GT hr1 rfl gT kT bT .nil pass0 (pa_cons (pv 0) (pa_cons pe_int pa_nil))) pe_int (nomark _))))) (pss_one (ps_ret (pe_tup (pa_cons pe_str (pa_cons (pv 2) (pa_cons (pv 3) pa_nil)))))) pss_nil)
      (C8.pss_cut (ps_if (PW.pt (pw_and (pt_cmpR (op_eqD hu6) (pv 2) (pe_tup (pa_cons pe_int pa_nil)) (nomark _)) (pw_and1 (pt_cmpR op_eq (pv 3) pe_int (nomark _))))) (pss_one (ps_ret (pe_ix ix_list (pe_lst (pa_cons (pe_tup (pa_cons pe_str (pa_cons (pe_call GT hr1 rfl gT kT bT .nil pass0 (pa_cons (pv 0) (pa_cons pe_int pa_nil))) (pa_cons pe_int (pa_cons pe_int pa_nil))))) (pa_cons (pe_tup (pa_cons pe_str (pa_cons pe_int pa_nil))) (pa_cons (pe_tup (pa_cons pe_str (pa_cons pe_int pa_nil))) (pa_cons (pe_tup (pa_cons pe_str (pa_cons pe_int pa_nil))) pa_nil))))) (pe_call GT hr1 rfl gT kT bT .nil pass0 (pa_cons (pv 0) (pa_cons pe_int pa_nil))) (fun _ _ => rfl)))) pss_nil)
      (C8.pss_cut (ps_if (PW.pt (pw_and (pt_cmpR (op_eqD hu6) (pv 2) (pe_op op_times (pe_tup (pa_cons pe_int pa_nil)) (pe_callB call_len_seq (by rfl) gLen PySem.boot_len (pa_cons (pv 2) pa_nil))) (nomark _)) (pw_and (pt_cmpR op_eq (pv 3) pe_int (nomark _)) (pw_and1 (pt_cmpR op_lt (pe_callB call_len_seq (by rfl) gLen PySem.boot_len (pa_cons (pv 2) pa_nil)) pe_int (nomark _)))))) (pss_one (ps_ret (pe_tup (pa_cons pe_str (pa_cons (pe_callB call_len_seq (by rfl) gLen PySem.boot_len (pa_cons (pv 2) pa_nil)) pa_nil))))) pss_nil)
      (pss_cons (ps_if (pt_cmpR op_eq (pe_callB call_len_seq (by rfl) gLen PySem.boot_len (pa_cons (pv 2) pa_nil)) pe_int (nomark _)) (pss_one (ps_ret (pe_tup (pa_cons pe_str (pa_cons (pv 3) (pa_cons (pe_ix ix_tup (pv 2) pe_int (fun _ _ => rfl)) pa_nil)))))) pss_nil)
      (pss_one (ps_ret (pv 1))))))))), ?_⟩
    -- what it takes, what it gives
    refine ⟨_, rfl, v, s, rfl, hs, ok, fun tq H1 s1 htq => ?_⟩
    refine ⟨_, rfl, v, s, rfl, hs.kt (KT.same s1), ok, fun H2 s2 => ⟨_, _, rfl, ?_⟩⟩
    have t2 := s1.trans s2
    have hp2 := hp.keep t2
    have hs2 := hs.kt (KT.same t2)
    have htq2 := Same.tup s2 htq
    obtain ⟨q, xs, rfl, hq, sv⟩ := hs2.inv
    obtain ⟨r, exs⟩ := sv.tag
    rw [exs] at hq
    have tl8 := tks_len ok
    have tkl : ((tks s).map natV).length = (tks s).length := List.length_map _
    refine ⟨_, rfl, q, _, _, _, rfl, rfl, hq, atI_nat (j := 0) rfl, (by show 2 ≤ sizeLine; decide), fun t1 ht1 => ?_⟩
    have s3 := Same.new (o := .tup [V.str "inlet", V.str "outlet"]) (Same.refl H2) ht1
    refine ⟨t1, _, rfl, .inr (.inl (.inl upd_same)), rfl, rfl, _, rfl, ?_⟩
    generalize upd H2 t1 (.tup [V.str "inlet", V.str "outlet"]) = H3 at s3
    have t3 := t2.trans s3
    have hp3 := hp.keep t3
    have hs3 := hs.kt (KT.same t3)
    have htq3 := Same.tup s3 htq2
    have io := in_io s
    cases z : (isInl s || isOut s) with
    | true =>
      rw [z] at io
      exact iteT_ io ⟨_, rfl, kk (.ref q) s H3 ok rfl rfl (Kept.same t3) hp3 hs3⟩
    | false =>
    rw [z] at io
    obtain ⟨zi, zo⟩ := Bool.or_eq_false_iff.mp z
    have tne : tks s ≠ [] := fun e => by
      rw [(tk_inl ok).mp e] at zi
      cases zi
    have tl1 := List.length_pos_iff.mpr tne
    refine iteF_ io ?_
    have keep : ∀ {G : Hp}, Kept p H3 G → SqT K G tq ((tks s).map natV) := fun k => KT.kept k hp3 _ _ htq3
    refine ⟨fun σ' G => σ' = [some (.ref p), some (.ref q), some (.ref tq), some (.int (gvs s : Int))] ∧ Kept p H3 G ∧ PotAt G p, ?_, ?_⟩
    · refine ⟨_, rfl, tq, _, rfl, .inr htq3, _, _, rfl, rfl, _, rfl, ite2 (fun h5 => ?_) (fun _ => iteF_ rfl ⟨rfl, Kept.refl, hp3⟩)⟩
      have h5 : (((tks s).map natV).length : Int) < 5 := of_decide_eq_true h5
      refine ⟨_, rfl, p, _, rfl, hp3, by decide, by decide, fun e4 G4 _ _ k4 hp4 => ⟨rfl, _, rfl, ite2 (fun _ => ?_) (fun _ => ⟨rfl, k4, hp4⟩)⟩⟩
      refine ⟨_, rfl, _, rfl, (by show 3 ≤ sizeLine; decide), fun t ht => ?_⟩
      have s5 := Same.new (o := .tup [V.str "own", V.ref tq, V.int (gvs s : Int)]) (Same.refl G4) ht
      refine kk (.ref t) (.own (tks s) (gvs s)) _ ⟨by omega, by omega, tks_dig ok, gvs_dig ok zo⟩ rfl rfl ((Kept.same t3).trans (k4.trans (Kept.same s5))) (hp4.keep s5) ?_
      exact .tup (.inl (.inl upd_same)) (.cons (.str _) (.cons (.tup (Same.tup s5 (keep k4)) (tk_dp _)) (.cons (.int _) .nil)))
    rintro σ' G ⟨rfl, kG, hpG⟩
    refine ⟨fun σ' G => σ' = [some (.ref p), some (.ref q), some (.ref tq), some (.int (gvs s : Int))] ∧ Kept p H3 G ∧ PotAt G p, ?_, ?_⟩
    · refine ⟨_, rfl, (by show 1 ≤ sizeLine; decide), fun u hu => ?_⟩
      have s5 := Same.new (o := .tup [V.int 1]) (Same.refl G) hu
      have hu5 : upd G u (.tup [V.int 1]) u = some (.tup [V.int 1]) := upd_same
      generalize upd G u (.tup [V.int 1]) = G5 at s5 hu5
      have k5 := kG.trans (Kept.same s5)
      have hp5 := hpG.keep s5
      refine ⟨tkD (tks s), tkD [1], .tup (keep k5) (tk_dp _), .tup (.inl (.inl hu5)) (tk_dp [1]), tk_shaped _, tk_shaped _, _, rfl, ?_⟩
      rw [tk_eqv]
      refine ite2 (fun h1 => ?_) (fun _ => iteF_ rfl ⟨rfl, k5, hp5⟩)
      have h1 : tks s = [1] := of_decide_eq_true h1
      refine ⟨_, rfl, rfl, _, rfl, ite2 (fun h2 => ?_) (fun _ => ⟨rfl, k5, hp5⟩)⟩
      have h2 : gvs s = 1 := by
        have := of_decide_eq_true h2
        injection this with this
        omega
      refine ⟨_, rfl, p, _, rfl, hp5, by decide, by decide, fun e6 G6 e60 e61 k6 hp6 => ?_⟩
      refine ⟨(by show 4 ≤ sizeLine; decide), fun a1 ha1 => ?_⟩
      have s7 := Same.new (o := .tup [V.str "gain", V.int e6, V.int 0, V.int 1]) (Same.refl G6) ha1
      have h7 : upd G6 a1 (.tup [V.str "gain", V.int e6, V.int 0, V.int 1]) a1 = some (.tup [V.str "gain", V.int e6, V.int 0, V.int 1]) := upd_same
      generalize upd G6 a1 (.tup [V.str "gain", V.int e6, V.int 0, V.int 1]) = G7 at s7 h7
      refine ⟨(by show 2 ≤ sizeLine; decide), fun a2 ha2 => ?_⟩
      have s8 := Same.new (o := .tup [V.str "up", V.int 1]) (Same.refl G7) ha2
      have h8 : upd G7 a2 (.tup [V.str "up", V.int 1]) a2 = some (.tup [V.str "up", V.int 1]) := upd_same
      generalize upd G7 a2 (.tup [V.str "up", V.int 1]) = G8 at s8 h8
      refine ⟨(by show 2 ≤ sizeLine; decide), fun a3 ha3 => ?_⟩
      have s9 := Same.new (o := .tup [V.str "down", V.int 1]) (Same.refl G8) ha3
      have h9 : upd G8 a3 (.tup [V.str "down", V.int 1]) a3 = some (.tup [V.str "down", V.int 1]) := upd_same
      generalize upd G8 a3 (.tup [V.str "down", V.int 1]) = G9 at s9 h9
      refine ⟨(by show 2 ≤ sizeLine; decide), fun a4 ha4 => ?_⟩
      have s10 := Same.new (o := .tup [V.str "mix", V.int 1]) (Same.refl G9) ha4
      have h10 : upd G9 a4 (.tup [V.str "mix", V.int 1]) a4 = some (.tup [V.str "mix", V.int 1]) := upd_same
      generalize upd G9 a4 (.tup [V.str "mix", V.int 1]) = G10 at s10 h10
      refine ⟨(by show 4 ≤ sizeLine; decide), fun ll hll => ?_⟩
      have s11 := Same.new (o := .lst [V.ref a1, V.ref a2, V.ref a3, V.ref a4]) (Same.refl G10) hll
      have h11 : upd G10 ll (.lst [V.ref a1, V.ref a2, V.ref a3, V.ref a4]) ll = some (.lst [V.ref a1, V.ref a2, V.ref a3, V.ref a4]) := upd_same
      have u10 := s7.trans (s8.trans (s9.trans s10))
      have nll : ll ≠ p := (hp6.keep u10).ne hll
      generalize upd G10 ll (.lst [V.ref a1, V.ref a2, V.ref a3, V.ref a4]) = G11 at s11 h11
      have u11 := u10.trans s11
      have hp11 := hp6.keep u11
      refine ⟨_, rfl, p, _, rfl, hp11, by decide, by decide, fun g G12 g0 g1 k12 hp12 => ?_⟩
      have kt := KT.kept (K := K) k12 hp11
      have kE : Kept p H G12 := (Kept.same t3).trans (k5.trans (k6.trans ((Kept.same u11).trans k12)))
      have fin : ∀ (b : Addr) (t : Spec), SpecOk t → tks t = [1] → gvs t = 1 → SpecAt K G12 (.ref b) t → Q (.ref b) G12 := fun b t o1 o2 o3 o4 => kk (.ref b) t G12 o1 (o2.trans h1.symm) (o3.trans h2.symm) kE hp12 o4
      have g4 : g = 0 ∨ g = 1 ∨ g = 2 ∨ g = 3 := by omega
      obtain ⟨m, rfl⟩ : ∃ m : Nat, e6 = (m : Int) := ⟨e6.toNat, by omega⟩
      have one : Dig 1 := ⟨by decide, by decide⟩
      rcases g4 with rfl | rfl | rfl | rfl
      · exact ⟨ll, _, _, _, rfl, rfl, SqL.of (k12 _ _ nll h11), atI_nat (j := 0) rfl, fin a1 (.gain (m : Int) 0 1) ⟨by omega, by omega, by decide, by decide⟩ rfl rfl (.tup (kt _ _ (.inl (.inl ((s8.trans (s9.trans (s10.trans s11))) _ _ h7)))) (.cons (.str _) (.cons (.int _) (.cons (.int _) (.cons (.int _) .nil)))))⟩
      · exact ⟨ll, _, _, _, rfl, rfl, SqL.of (k12 _ _ nll h11), atI_nat (j := 1) rfl, fin a2 (.up 1) one rfl rfl (.tup (kt _ _ (.inl (.inl ((s9.trans (s10.trans s11)) _ _ h8)))) (.cons (.str _) (.cons (.int _) .nil)))⟩
      · exact ⟨ll, _, _, _, rfl, rfl, SqL.of (k12 _ _ nll h11), atI_nat (j := 2) rfl, fin a3 (.down 1) one rfl rfl (.tup (kt _ _ (.inl (.inl ((s10.trans s11) _ _ h9)))) (.cons (.str _) (.cons (.int _) .nil)))⟩
      · exact ⟨ll, _, _, _, rfl, rfl, SqL.of (k12 _ _ nll h11), atI_nat (j := 3) rfl, fin a4 (.mix 1) one rfl rfl (.tup (kt _ _ (.inl (.inl (s11 _ _ h10)))) (.cons (.str _) (.cons (.int _) .nil)))⟩
    rintro σ' G ⟨rfl, kG, hpG⟩
    refine ⟨fun σ' G => σ' = [some (.ref p), some (.ref q), some (.ref tq), some (.int (gvs s : Int))] ∧ Kept p H3 G ∧ PotAt G p, ?_, ?_⟩
    · refine ⟨_, rfl, (by show 1 ≤ sizeLine; decide), fun u hu => ?_⟩
      have s5 := Same.new (o := .tup [V.int 1]) (Same.refl G) hu
      have hu5 : upd G u (.tup [V.int 1]) u = some (.tup [V.int 1]) := upd_same
      generalize upd G u (.tup [V.int 1]) = G5 at s5 hu5
      have k5 := kG.trans (Kept.same s5)
      refine ⟨_, rfl, tq, _, rfl, .inr (keep k5), u, ((tks s).map natV).length, [V.int 1], rfl, rfl, .inl (.inl hu5), (by simp), (by rw [tkl]; omega), (by show 1 ≤ 1000; decide), fun e => ?_, fun ne t5 ht5 => ?_⟩
      · obtain ⟨G7, e7, s7, hw⟩ : ∃ G7, G5 = G7 ∧ Same G G7 ∧ SqT K G7 u ((List.replicate (tks s).length 1).map natV) := ⟨G5, rfl, s5, by rw [← tkl, e]; exact .inl (.inl hu5)⟩
        rw [e7]
        have k7 : Kept p H3 G7 := kG.trans (Kept.same s7)
        have hp7 := hpG.keep s7
        refine ⟨tkD (tks s), tkD (List.replicate (tks s).length 1), .tup (keep k7) (tk_dp _), .tup hw (tk_dp _), tk_shaped _, tk_shaped _, _, rfl, ?_⟩
        rw [tk_eqv]
        refine ite2 (fun h1 => ?_) (fun _ => iteF_ rfl ⟨rfl, k7, hp7⟩)
        have h1 : tks s = List.replicate (tks s).length 1 := of_decide_eq_true h1
        refine ⟨_, rfl, rfl, _, rfl, ite2 (fun h2 => ?_) (fun _ => iteF_ rfl ⟨rfl, k7, hp7⟩)⟩
        have h2 : gvs s = 1 := by
          have := of_decide_eq_true h2
          injection this with this
          omega
        refine ⟨_, rfl, tq, _, rfl, .inr (keep k7), _, _, rfl, rfl, _, rfl, ite2 (fun h3 => ?_) (fun _ => ⟨rfl, k7, hp7⟩)⟩
        refine ⟨_, rfl, tq, _, rfl, .inr (keep k7), (by show 2 ≤ sizeLine; decide), fun t ht => ?_⟩
        have s8 := Same.new (o := .tup [V.str "mix", V.int (((tks s).map natV).length : Int)]) (Same.refl G7) ht
        refine kk (.ref t) (.mix (tks s).length) _ ⟨tl1, tl8⟩ h1.symm h2.symm ((Kept.same t3).trans (k7.trans (Kept.same s8))) (hp7.keep s8) ?_
        refine .tup (.inl (.inl upd_same)) (.cons (.str _) (.cons ?_ .nil))
        rw [tkl]
        exact .int _
      · have s6 := Same.new (o := .tup (List.replicate ((tks s).map natV).length [V.int 1]).flatten) (Same.refl G5) ht5
        obtain ⟨G7, e7, s7, hw⟩ : ∃ G7, upd G5 t5 (.tup (List.replicate ((tks s).map natV).length [V.int 1]).flatten) = G7 ∧ Same G G7 ∧ SqT K G7 t5 ((List.replicate (tks s).length 1).map natV) := ⟨_, rfl, s5.trans s6, by rw [← tkl, ones]; exact .inl (.inl upd_same)⟩
        rw [e7]
        have k7 : Kept p H3 G7 := kG.trans (Kept.same s7)
        have hp7 := hpG.keep s7
        refine ⟨tkD (tks s), tkD (List.replicate (tks s).length 1), .tup (keep k7) (tk_dp _), .tup hw (tk_dp _), tk_shaped _, tk_shaped _, _, rfl, ?_⟩
        rw [tk_eqv]
        refine ite2 (fun h1 => ?_) (fun _ => iteF_ rfl ⟨rfl, k7, hp7⟩)
        have h1 : tks s = List.replicate (tks s).length 1 := of_decide_eq_true h1
        refine ⟨_, rfl, rfl, _, rfl, ite2 (fun h2 => ?_) (fun _ => iteF_ rfl ⟨rfl, k7, hp7⟩)⟩
        have h2 : gvs s = 1 := by
          have := of_decide_eq_true h2
          injection this with this
          omega
        refine ⟨_, rfl, tq, _, rfl, .inr (keep k7), _, _, rfl, rfl, _, rfl, ite2 (fun h3 => ?_) (fun _ => ⟨rfl, k7, hp7⟩)⟩
        refine ⟨_, rfl, tq, _, rfl, .inr (keep k7), (by show 2 ≤ sizeLine; decide), fun t ht => ?_⟩
        have s8 := Same.new (o := .tup [V.str "mix", V.int (((tks s).map natV).length : Int)]) (Same.refl G7) ht
        refine kk (.ref t) (.mix (tks s).length) _ ⟨tl1, tl8⟩ h1.symm h2.symm ((Kept.same t3).trans (k7.trans (Kept.same s8))) (hp7.keep s8) ?_
        refine .tup (.inl (.inl upd_same)) (.cons (.str _) (.cons ?_ .nil))
        rw [tkl]
        exact .int _
    rintro σ' G ⟨rfl, kG, hpG⟩
    refine ⟨_, rfl, tq, _, rfl, .inr (keep kG), rfl, _, rfl, ite2 (fun h1 => ?_) (fun _ => ?_)⟩
    · have h1 : (tks s).length = 1 := by
        have := of_decide_eq_true h1
        injection this with this
        rw [tkl] at this
        omega
      obtain ⟨d, ed⟩ : ∃ d, tks s = [d] := by
        match h : tks s, h1 with
        | [d], _ => exact ⟨d, rfl⟩
      have dd : Dig d := tks_dig ok d (by rw [ed]; exact List.mem_cons_self)
      have hk := keep kG
      rw [ed] at hk
      refine ⟨_, rfl, _, rfl, tq, _, _, _, rfl, rfl, hk, atI_nat (j := 0) rfl, (by show 3 ≤ sizeLine; decide), fun t ht => ?_⟩
      have s8 := Same.new (o := .tup [V.str "resample", V.int (gvs s : Int), natV d]) (Same.refl G) ht
      exact kk (.ref t) (.resample (gvs s) d) _ ⟨gvs_dig ok zo, dd⟩ ed.symm rfl ((Kept.same t3).trans (kG.trans (Kept.same s8))) (hpG.keep s8) (.tup (.inl (.inl upd_same)) (.cons (.str _) (.cons (.int _) (.cons (.int _) .nil))))
    · exact ⟨_, rfl, kk (.ref q) s G ok rfl rfl ((Kept.same t3).trans kG) hpG (hs3.kt (KT.kept kG hp3))⟩
end
end Sw
namespace Sw
open PySem PySem.Spec PyProof.Rows L2
/-! ### what is told -/
/-- what is asked of a refusal's class, where it is caught -/
structure CatR (K : PySem.W.Frag) (mg : Str → Option Value) (CE CX C0 C1 C2 C3 : Addr) (b0 b1 b2 : Bool) (fld : Str) : Prop where
  gW : mg "WeaveError" = some (.ref CX)
  te : PySem.W.exmOne K (.ref CE) (.ref CX) = some true
  ex : ExcC K CE
  g0 : mg "NoNode" = some (.ref C0)
  g1 : mg "Unlike" = some (.ref C1)
  g2 : mg "NoDelay" = some (.ref C2)
  g3 : mg "Unknown" = some (.ref C3)
  k0 : PySem.W.kitOne K (.ref CE) (.ref C0) = some b0
  k1 : PySem.W.kitOne K (.ref CE) (.ref C1) = some b1
  k2 : PySem.W.kitOne K (.ref CE) (.ref C2) = some b2
  k3 : PySem.W.kitOne K (.ref CE) (.ref C3) = some false
  xf : XfC K CE
  no : PySem.W.findIn K (.ref CE) fld = some none
/-- refused by put or by delayed -/
def spToldR (CW CE : Addr) (spm : Sp) (put : Bool) (b0 b1 b2 : Bool) (fld : Str) : Sp := fun vs H Q _ => ∃ (p dx : Addr) (fs : List (Str × V)) (tag v fv : V), vs = [.ref p, .int (if put then 0 else 1), tag, v] ∧ H p = some (.ins CW dx fs) ∧ fs.lookup (if put then "put" else "delayed" : Str) = none ∧ (∀ (H1 : Hp) (Q1 : VK) (E1 : XK), Same H H1 → Refd H1 E1 CE [(fld, fv)] → spm (if put then [.ref p, tag, v] else [.ref p, v]) H1 Q1 E1) ∧ ∀ (l : Addr) (H' : Hp), Same H H' → H l = none → H' l = some (.lst [.bl b0, .bl b1, .bl b2, .bl false, fv]) → Q (.ref l) H'
/-- put or delayed goes well -/
def spToldG (CW : Addr) (spm : Sp) (put : Bool) (R : Addr → Hp → Prop) : Sp := fun vs H Q _ => ∃ (p dx : Addr) (fs : List (Str × V)) (tag v : V), vs = [.ref p, .int (if put then 0 else 1), tag, v] ∧ H p = some (.ins CW dx fs) ∧ fs.lookup (if put then "put" else "delayed" : Str) = none ∧ (∀ (q : Addr) (H1 H2 : Hp), Same H1 H2 → R q H1 → R q H2) ∧ (∀ (H1 : Hp) (Q1 : VK) (E1 : XK), Same H H1 → (∀ (q : Addr) (H2 : Hp), Same H1 H2 → H1 q = none → R q H2 → Q1 (.ref q) H2) → spm (if put then [.ref p, tag, v] else [.ref p, v]) H1 Q1 E1) ∧ ∀ (l q : Addr) (H' : Hp), Same H H' → H l = none → H q = none → H' l = some (.lst [.str "told", .ref q]) → R q H' → Q (.ref l) H'
section
variable {P : Program} {w : World} {K : PySem.W.Frag} {mg : Str → Option Value} {base : Heap} {f f1 f2 f3 f4 f5 f6 f7 f8 f9 C CN CO CI CW CU CE CX C0 C1 C2 C3 dd : Addr} {cl : Srt → Addr} {fd fd1 fd2 fd3 fd4 fd5 fd6 fd7 fd8 fd9 : FuncData}
abbrev nLTold : List Str := ["_law_web", "_law_way", "_law_tag", "_law_thing", "_law_told_here", "_law_found", "e"]
theorem scLTold : FnScope nLTold ["_law_web", "_law_way", "_law_tag", "_law_thing"] (defScope sLTold) := ⟨rfl, rfl, rfl, by decide +kernel, rfl, by decide +kernel, by decide +kernel⟩
theorem ok_told0 (F : FnP K "_law_told" sLTold f fd) (T : CatR K mg CE CX C0 C1 C2 C3 true false false "field") (c0 : Cls K CW) {spm : Sp}
    (mP : Meth K CW "put" f1) (GP : FnOk P w K mg base (L2.CX P w) 7 f1 fd1 ["self", "name", "node"] spm) (bP : Binds K fd1 ["self", "name", "node"] []) {spd : Sp}
    (mD : Meth K CW "delayed" f2) (GD : FnOk P w K mg base (L2.CX P w) 7 f2 fd2 ["self", "delays"] spd) (bD : Binds K fd2 ["self", "delays"] [])
    (gIs : mg "isinstance" = none) : FnOk P w K mg base CX0 8 f fd ["_law_web", "_law_way", "_law_tag", "_law_thing"] (spToldR CW CE spm true true false false "field") := by
  refine F.ok scLTold (fun vs H Q E h => ?_) (fun cdv A ou s H vs Q E hr h => ?_)
  · obtain ⟨p, dx, fs, tag, v, fv, rfl, _⟩ := h
    rfl
  · obtain ⟨p, dx, fs, tag, v, fv, rfl, hp, nop, ref, kk⟩ := h
    have nd := scLTold.nd
    have hr7 : Room 7 _ := hr
    refine ⟨_, PSs.nox (pss_cons (ps_set (i := 4) nd rfl (Or.inl rfl) (pe_lst (pa_cons pe_str pa_nil)))
      (pss_cons (ps_try_as (i := 6) rfl rfl nd rfl rfl ⟨rfl, by decide, .inl T.gW⟩ takes0
      (fun W pn xe tk _ => (pss_cons (ps_set (i := 5) nd rfl (Or.inl rfl) (pe_ifExp (pt_cmpR op_eq (pv 1) pe_int (nomark _)) (pe_methT (pv 0) c0 mP GP hr7 bP (fun σ => passAt tk σ) (pa_cons (pv 2) (pa_cons (pv 3) pa_nil))) (pe_methT (pv 0) c0 mD GD hr7 bD (fun σ => passAt tk σ) (pa_cons (pv 3) pa_nil)))) pss_never))
      (fun a oe cls d pn hz hf => (pss_cons (ps_set (i := 4) nd rfl (Or.inl rfl) (pe_lst (pa_cons (pe_callB (call_isX T.ex hz hf) (by rfl) gIs boot_isinstance (pa_cons (pv 6) (pa_cons (pe_glob (v := .ref C0) rfl T.g0 rfl) pa_nil))) (pa_cons (pe_callB (call_isX T.ex hz hf) (by rfl) gIs boot_isinstance (pa_cons (pv 6) (pa_cons (pe_glob (v := .ref C1) rfl T.g1 rfl) pa_nil))) (pa_cons (pe_callB (call_isX T.ex hz hf) (by rfl) gIs boot_isinstance (pa_cons (pv 6) (pa_cons (pe_glob (v := .ref C2) rfl T.g2 rfl) pa_nil))) (pa_cons (pe_callB (call_isX T.ex hz hf) (by rfl) gIs boot_isinstance (pa_cons (pv 6) (pa_cons (pe_glob (v := .ref C3) rfl T.g3 rfl) pa_nil))) pa_nil))))))
      (pss_cons (ps_if (pt_val (pe_ix (ix_listK (K := K) rfl) (pv 4) pe_int (fun _ _ => rfl))) (pss_one (ps_expr (PE.k (K := K) (t := fun K0 => tBM K0 "list" rAppend (tVar 4) (tCons (tXf a cls d CE "field" (tVar 6)) tNil)) rfl (pe_bm PySem.F.plainAttrs_list PySem.F.slot_list_append PySem.F.type_list_append mt_append (pv 4) (pa_cons (pe_xfK (K := K) rfl T.xf T.no hz hf (pv 6)) pa_nil))))) pss_nil)
      (pss_cons (ps_if (pt_val (pe_ix (ix_listK (K := K) rfl) (pv 4) pe_int (fun _ _ => rfl))) pss_never pss_nil)
      (pss_one (ps_if (pt_val (pe_ix (ix_listK (K := K) rfl) (pv 4) pe_int (fun _ _ => rfl))) pss_never pss_nil)))))))
      (pss_one (ps_ret (pv 4))))), ?_⟩
    refine ⟨(by show 1 ≤ sizeLine; decide), fun l0 h0 => ?_⟩
    have s0 := Same.new (o := .lst [V.str "none"]) (Same.refl H) h0
    generalize upd H l0 (.lst [V.str "none"]) = G0 at s0
    refine ⟨_, rfl, rfl, _, rfl, iteT_ rfl ?_⟩
    refine ⟨_, rfl, p, dx, fs, rfl, s0 _ _ hp, nop, _, rfl, _, rfl, ref G0 _ _ s0 (fun d0 G1 s1 fd0 hd0 => ⟨true, T.te, fun _ a ha => ?_, fun z => Bool.noConfusion z⟩)⟩
    have t1 := s0.trans s1
    have xd : ∀ dd, some d0 = some dd → ∃ fs, G1 dd = some (.xd fs) := fun dd e => by cases e; exact ⟨_, hd0⟩
    refine ⟨_, rfl, rfl, xd, _, _, true, rfl, ClsV.own _, T.k0, _, rfl, rfl, xd, _, _, false, rfl, ClsV.own _, T.k1, _, rfl, rfl, xd, _, _, false, rfl, ClsV.own _, T.k2, _, rfl, rfl, xd, _, _, false, rfl, ClsV.own _, T.k3, (by show 4 ≤ sizeLine; decide), fun l1 h1 => ?_⟩
    have s3 := Same.new (o := .lst [V.bl true, V.bl false, V.bl false, V.bl false]) (Same.refl G1) h1
    have hl3 : upd G1 l1 (.lst [V.bl true, V.bl false, V.bl false, V.bl false]) l1 = some (.lst [V.bl true, V.bl false, V.bl false, V.bl false]) := upd_same
    have n1 : H l1 = none := t1.free h1
    generalize upd G1 l1 (.lst [V.bl true, V.bl false, V.bl false, V.bl false]) = G3 at s3 hl3
    have hd3 := s3 _ _ hd0
    have t3 := t1.trans s3
    refine ⟨_, rfl, l1, _, _, _, rfl, rfl, SqL.of hl3, atI_nat (j := 0) rfl, _, rfl, iteT ?_⟩
    refine ⟨_, rfl, .inl ⟨rfl, _, SqL.of hl3⟩, _, rfl, rfl, rfl, d0, _, fv, rfl, hd3, rfl, l1, _, _, rfl, rfl, hl3, (by show 4 < sizeLine; decide), ?_⟩
    have t4 : Same H (upd G3 l1 (.lst ([V.bl true, V.bl false, V.bl false, V.bl false] ++ [fv]))) := Same.past t3 n1
    have hl4 : upd G3 l1 (.lst ([V.bl true, V.bl false, V.bl false, V.bl false] ++ [fv])) l1 = some (.lst [V.bl true, V.bl false, V.bl false, V.bl false, fv]) := upd_same
    generalize upd G3 l1 (.lst ([V.bl true, V.bl false, V.bl false, V.bl false] ++ [fv])) = G4 at t4 hl4
    refine ⟨_, rfl, l1, _, _, _, rfl, rfl, SqL.of hl4, atI_nat (j := 1) rfl, _, rfl, iteF ?_⟩
    refine ⟨_, rfl, l1, _, _, _, rfl, rfl, SqL.of hl4, atI_nat (j := 2) rfl, _, rfl, iteF ?_⟩
    exact ⟨_, rfl, kk l1 G4 t4 n1 hl4⟩
theorem ok_told1 (F : FnP K "_law_told" sLTold f fd) (T : CatR K mg CE CX C0 C1 C2 C3 false true false "who") (c0 : Cls K CW) {spm : Sp}
    (mP : Meth K CW "put" f1) (GP : FnOk P w K mg base (L2.CX P w) 7 f1 fd1 ["self", "name", "node"] spm) (bP : Binds K fd1 ["self", "name", "node"] []) {spd : Sp}
    (mD : Meth K CW "delayed" f2) (GD : FnOk P w K mg base (L2.CX P w) 7 f2 fd2 ["self", "delays"] spd) (bD : Binds K fd2 ["self", "delays"] [])
    (gIs : mg "isinstance" = none) : FnOk P w K mg base CX0 8 f fd ["_law_web", "_law_way", "_law_tag", "_law_thing"] (spToldR CW CE spm true false true false "who") := by
  refine F.ok scLTold (fun vs H Q E h => ?_) (fun cdv A ou s H vs Q E hr h => ?_)
  · obtain ⟨p, dx, fs, tag, v, fv, rfl, _⟩ := h
    rfl
  · obtain ⟨p, dx, fs, tag, v, fv, rfl, hp, nop, ref, kk⟩ := h
    have nd := scLTold.nd
    have hr7 : Room 7 _ := hr
    refine ⟨_, PSs.nox (pss_cons (ps_set (i := 4) nd rfl (Or.inl rfl) (pe_lst (pa_cons pe_str pa_nil)))
      (pss_cons (ps_try_as (i := 6) rfl rfl nd rfl rfl ⟨rfl, by decide, .inl T.gW⟩ takes0
      (fun W pn xe tk _ => (pss_cons (ps_set (i := 5) nd rfl (Or.inl rfl) (pe_ifExp (pt_cmpR op_eq (pv 1) pe_int (nomark _)) (pe_methT (pv 0) c0 mP GP hr7 bP (fun σ => passAt tk σ) (pa_cons (pv 2) (pa_cons (pv 3) pa_nil))) (pe_methT (pv 0) c0 mD GD hr7 bD (fun σ => passAt tk σ) (pa_cons (pv 3) pa_nil)))) pss_never))
      (fun a oe cls d pn hz hf => (pss_cons (ps_set (i := 4) nd rfl (Or.inl rfl) (pe_lst (pa_cons (pe_callB (call_isX T.ex hz hf) (by rfl) gIs boot_isinstance (pa_cons (pv 6) (pa_cons (pe_glob (v := .ref C0) rfl T.g0 rfl) pa_nil))) (pa_cons (pe_callB (call_isX T.ex hz hf) (by rfl) gIs boot_isinstance (pa_cons (pv 6) (pa_cons (pe_glob (v := .ref C1) rfl T.g1 rfl) pa_nil))) (pa_cons (pe_callB (call_isX T.ex hz hf) (by rfl) gIs boot_isinstance (pa_cons (pv 6) (pa_cons (pe_glob (v := .ref C2) rfl T.g2 rfl) pa_nil))) (pa_cons (pe_callB (call_isX T.ex hz hf) (by rfl) gIs boot_isinstance (pa_cons (pv 6) (pa_cons (pe_glob (v := .ref C3) rfl T.g3 rfl) pa_nil))) pa_nil))))))
      (pss_cons (ps_if (pt_val (pe_ix (ix_listK (K := K) rfl) (pv 4) pe_int (fun _ _ => rfl))) pss_never pss_nil)
      (pss_cons (ps_if (pt_val (pe_ix (ix_listK (K := K) rfl) (pv 4) pe_int (fun _ _ => rfl))) (pss_one (ps_expr (PE.k (K := K) (t := fun K0 => tBM K0 "list" rAppend (tVar 4) (tCons (tXf a cls d CE "who" (tVar 6)) tNil)) rfl (pe_bm PySem.F.plainAttrs_list PySem.F.slot_list_append PySem.F.type_list_append mt_append (pv 4) (pa_cons (pe_xfK (K := K) rfl T.xf T.no hz hf (pv 6)) pa_nil))))) pss_nil)
      (pss_one (ps_if (pt_val (pe_ix (ix_listK (K := K) rfl) (pv 4) pe_int (fun _ _ => rfl))) pss_never pss_nil)))))))
      (pss_one (ps_ret (pv 4))))), ?_⟩
    refine ⟨(by show 1 ≤ sizeLine; decide), fun l0 h0 => ?_⟩
    have s0 := Same.new (o := .lst [V.str "none"]) (Same.refl H) h0
    generalize upd H l0 (.lst [V.str "none"]) = G0 at s0
    refine ⟨_, rfl, rfl, _, rfl, iteT_ rfl ?_⟩
    refine ⟨_, rfl, p, dx, fs, rfl, s0 _ _ hp, nop, _, rfl, _, rfl, ref G0 _ _ s0 (fun d0 G1 s1 fd0 hd0 => ⟨true, T.te, fun _ a ha => ?_, fun z => Bool.noConfusion z⟩)⟩
    have t1 := s0.trans s1
    have xd : ∀ dd, some d0 = some dd → ∃ fs, G1 dd = some (.xd fs) := fun dd e => by cases e; exact ⟨_, hd0⟩
    refine ⟨_, rfl, rfl, xd, _, _, false, rfl, ClsV.own _, T.k0, _, rfl, rfl, xd, _, _, true, rfl, ClsV.own _, T.k1, _, rfl, rfl, xd, _, _, false, rfl, ClsV.own _, T.k2, _, rfl, rfl, xd, _, _, false, rfl, ClsV.own _, T.k3, (by show 4 ≤ sizeLine; decide), fun l1 h1 => ?_⟩
    have s3 := Same.new (o := .lst [V.bl false, V.bl true, V.bl false, V.bl false]) (Same.refl G1) h1
    have hl3 : upd G1 l1 (.lst [V.bl false, V.bl true, V.bl false, V.bl false]) l1 = some (.lst [V.bl false, V.bl true, V.bl false, V.bl false]) := upd_same
    have n1 : H l1 = none := t1.free h1
    generalize upd G1 l1 (.lst [V.bl false, V.bl true, V.bl false, V.bl false]) = G3 at s3 hl3
    have hd3 := s3 _ _ hd0
    have t3 := t1.trans s3
    refine ⟨_, rfl, l1, _, _, _, rfl, rfl, SqL.of hl3, atI_nat (j := 0) rfl, _, rfl, iteF ?_⟩
    refine ⟨_, rfl, l1, _, _, _, rfl, rfl, SqL.of hl3, atI_nat (j := 1) rfl, _, rfl, iteT ?_⟩
    refine ⟨_, rfl, .inl ⟨rfl, _, SqL.of hl3⟩, _, rfl, rfl, rfl, d0, _, fv, rfl, hd3, rfl, l1, _, _, rfl, rfl, hl3, (by show 4 < sizeLine; decide), ?_⟩
    have t4 : Same H (upd G3 l1 (.lst ([V.bl false, V.bl true, V.bl false, V.bl false] ++ [fv]))) := Same.past t3 n1
    have hl4 : upd G3 l1 (.lst ([V.bl false, V.bl true, V.bl false, V.bl false] ++ [fv])) l1 = some (.lst [V.bl false, V.bl true, V.bl false, V.bl false, fv]) := upd_same
    generalize upd G3 l1 (.lst ([V.bl false, V.bl true, V.bl false, V.bl false] ++ [fv])) = G4 at t4 hl4
    refine ⟨_, rfl, l1, _, _, _, rfl, rfl, SqL.of hl4, atI_nat (j := 2) rfl, _, rfl, iteF ?_⟩
    exact ⟨_, rfl, kk l1 G4 t4 n1 hl4⟩
theorem ok_told2 (F : FnP K "_law_told" sLTold f fd) (T : CatR K mg CE CX C0 C1 C2 C3 false false true "wire") (c0 : Cls K CW) {spd : Sp}
    (mP : Meth K CW "put" f1) (GP : FnOk P w K mg base (L2.CX P w) 7 f1 fd1 ["self", "name", "node"] spd) (bP : Binds K fd1 ["self", "name", "node"] []) {spm : Sp}
    (mD : Meth K CW "delayed" f2) (GD : FnOk P w K mg base (L2.CX P w) 7 f2 fd2 ["self", "delays"] spm) (bD : Binds K fd2 ["self", "delays"] [])
    (gIs : mg "isinstance" = none) : FnOk P w K mg base CX0 8 f fd ["_law_web", "_law_way", "_law_tag", "_law_thing"] (spToldR CW CE spm false false false true "wire") := by
  refine F.ok scLTold (fun vs H Q E h => ?_) (fun cdv A ou s H vs Q E hr h => ?_)
  · obtain ⟨p, dx, fs, tag, v, fv, rfl, _⟩ := h
    rfl
  · obtain ⟨p, dx, fs, tag, v, fv, rfl, hp, nop, ref, kk⟩ := h
    have nd := scLTold.nd
    have hr7 : Room 7 _ := hr
    refine ⟨_, PSs.nox (pss_cons (ps_set (i := 4) nd rfl (Or.inl rfl) (pe_lst (pa_cons pe_str pa_nil)))
      (pss_cons (ps_try_as (i := 6) rfl rfl nd rfl rfl ⟨rfl, by decide, .inl T.gW⟩ takes0
      (fun W pn xe tk _ => (pss_cons (ps_set (i := 5) nd rfl (Or.inl rfl) (pe_ifExp (pt_cmpR op_eq (pv 1) pe_int (nomark _)) (pe_methT (pv 0) c0 mP GP hr7 bP (fun σ => passAt tk σ) (pa_cons (pv 2) (pa_cons (pv 3) pa_nil))) (pe_methT (pv 0) c0 mD GD hr7 bD (fun σ => passAt tk σ) (pa_cons (pv 3) pa_nil)))) pss_never))
      (fun a oe cls d pn hz hf => (pss_cons (ps_set (i := 4) nd rfl (Or.inl rfl) (pe_lst (pa_cons (pe_callB (call_isX T.ex hz hf) (by rfl) gIs boot_isinstance (pa_cons (pv 6) (pa_cons (pe_glob (v := .ref C0) rfl T.g0 rfl) pa_nil))) (pa_cons (pe_callB (call_isX T.ex hz hf) (by rfl) gIs boot_isinstance (pa_cons (pv 6) (pa_cons (pe_glob (v := .ref C1) rfl T.g1 rfl) pa_nil))) (pa_cons (pe_callB (call_isX T.ex hz hf) (by rfl) gIs boot_isinstance (pa_cons (pv 6) (pa_cons (pe_glob (v := .ref C2) rfl T.g2 rfl) pa_nil))) (pa_cons (pe_callB (call_isX T.ex hz hf) (by rfl) gIs boot_isinstance (pa_cons (pv 6) (pa_cons (pe_glob (v := .ref C3) rfl T.g3 rfl) pa_nil))) pa_nil))))))
      (pss_cons (ps_if (pt_val (pe_ix (ix_listK (K := K) rfl) (pv 4) pe_int (fun _ _ => rfl))) pss_never pss_nil)
      (pss_cons (ps_if (pt_val (pe_ix (ix_listK (K := K) rfl) (pv 4) pe_int (fun _ _ => rfl))) pss_never pss_nil)
      (pss_one (ps_if (pt_val (pe_ix (ix_listK (K := K) rfl) (pv 4) pe_int (fun _ _ => rfl))) (pss_one (ps_expr (PE.k (K := K) (t := fun K0 => tBM K0 "list" rAppend (tVar 4) (tCons (tXf a cls d CE "wire" (tVar 6)) tNil)) rfl (pe_bm PySem.F.plainAttrs_list PySem.F.slot_list_append PySem.F.type_list_append mt_append (pv 4) (pa_cons (pe_xfK (K := K) rfl T.xf T.no hz hf (pv 6)) pa_nil))))) pss_nil)))))))
      (pss_one (ps_ret (pv 4))))), ?_⟩
    refine ⟨(by show 1 ≤ sizeLine; decide), fun l0 h0 => ?_⟩
    have s0 := Same.new (o := .lst [V.str "none"]) (Same.refl H) h0
    generalize upd H l0 (.lst [V.str "none"]) = G0 at s0
    refine ⟨_, rfl, rfl, _, rfl, iteF_ rfl ?_⟩
    refine ⟨_, rfl, p, dx, fs, rfl, s0 _ _ hp, nop, _, rfl, ref G0 _ _ s0 (fun d0 G1 s1 fd0 hd0 => ⟨true, T.te, fun _ a ha => ?_, fun z => Bool.noConfusion z⟩)⟩
    have t1 := s0.trans s1
    have xd : ∀ dd, some d0 = some dd → ∃ fs, G1 dd = some (.xd fs) := fun dd e => by cases e; exact ⟨_, hd0⟩
    refine ⟨_, rfl, rfl, xd, _, _, false, rfl, ClsV.own _, T.k0, _, rfl, rfl, xd, _, _, false, rfl, ClsV.own _, T.k1, _, rfl, rfl, xd, _, _, true, rfl, ClsV.own _, T.k2, _, rfl, rfl, xd, _, _, false, rfl, ClsV.own _, T.k3, (by show 4 ≤ sizeLine; decide), fun l1 h1 => ?_⟩
    have s3 := Same.new (o := .lst [V.bl false, V.bl false, V.bl true, V.bl false]) (Same.refl G1) h1
    have hl3 : upd G1 l1 (.lst [V.bl false, V.bl false, V.bl true, V.bl false]) l1 = some (.lst [V.bl false, V.bl false, V.bl true, V.bl false]) := upd_same
    have n1 : H l1 = none := t1.free h1
    generalize upd G1 l1 (.lst [V.bl false, V.bl false, V.bl true, V.bl false]) = G3 at s3 hl3
    have hd3 := s3 _ _ hd0
    have t3 := t1.trans s3
    refine ⟨_, rfl, l1, _, _, _, rfl, rfl, SqL.of hl3, atI_nat (j := 0) rfl, _, rfl, iteF ?_⟩
    refine ⟨_, rfl, l1, _, _, _, rfl, rfl, SqL.of hl3, atI_nat (j := 1) rfl, _, rfl, iteF ?_⟩
    refine ⟨_, rfl, l1, _, _, _, rfl, rfl, SqL.of hl3, atI_nat (j := 2) rfl, _, rfl, iteT ?_⟩
    refine ⟨_, rfl, .inl ⟨rfl, _, SqL.of hl3⟩, _, rfl, rfl, rfl, d0, _, fv, rfl, hd3, rfl, l1, _, _, rfl, rfl, hl3, (by show 4 < sizeLine; decide), ?_⟩
    have t4 : Same H (upd G3 l1 (.lst ([V.bl false, V.bl false, V.bl true, V.bl false] ++ [fv]))) := Same.past t3 n1
    have hl4 : upd G3 l1 (.lst ([V.bl false, V.bl false, V.bl true, V.bl false] ++ [fv])) l1 = some (.lst [V.bl false, V.bl false, V.bl true, V.bl false, fv]) := upd_same
    generalize upd G3 l1 (.lst ([V.bl false, V.bl false, V.bl true, V.bl false] ++ [fv])) = G4 at t4 hl4
    exact ⟨_, rfl, kk l1 G4 t4 n1 hl4⟩
theorem ok_toldGP (F : FnP K "_law_told" sLTold f fd) (T : CatR K mg CE CX C0 C1 C2 C3 true false false "field") (c0 : Cls K CW) {R : Addr → Hp → Prop} {spm : Sp}
    (mP : Meth K CW "put" f1) (GP : FnOk P w K mg base (L2.CX P w) 7 f1 fd1 ["self", "name", "node"] spm) (bP : Binds K fd1 ["self", "name", "node"] []) {spd : Sp}
    (mD : Meth K CW "delayed" f2) (GD : FnOk P w K mg base (L2.CX P w) 7 f2 fd2 ["self", "delays"] spd) (bD : Binds K fd2 ["self", "delays"] [])
    (gIs : mg "isinstance" = none) : FnOk P w K mg base CX0 8 f fd ["_law_web", "_law_way", "_law_tag", "_law_thing"] (spToldG CW spm true R) := by
  refine F.ok scLTold (fun vs H Q E h => ?_) (fun cdv A ou s H vs Q E hr h => ?_)
  · obtain ⟨p, dx, fs, tag, v, rfl, _⟩ := h
    rfl
  · obtain ⟨p, dx, fs, tag, v, rfl, hp, nop, mon, ref, kk⟩ := h
    have nd := scLTold.nd
    have hr7 : Room 7 _ := hr
    refine ⟨_, PSs.nox (pss_cons (ps_set (i := 4) nd rfl (Or.inl rfl) (pe_lst (pa_cons pe_str pa_nil)))
      (pss_cons (ps_try_as (i := 6) rfl rfl nd rfl rfl ⟨rfl, by decide, .inl T.gW⟩ takes0
      (fun W pn xe tk _ => (pss_cons (ps_set (i := 5) nd rfl (Or.inl rfl) (pe_ifExp (pt_cmpR op_eq (pv 1) pe_int (nomark _)) (pe_methT (pv 0) c0 mP GP hr7 bP (fun σ => passAt tk σ) (pa_cons (pv 2) (pa_cons (pv 3) pa_nil))) (pe_methT (pv 0) c0 mD GD hr7 bD (fun σ => passAt tk σ) (pa_cons (pv 3) pa_nil))))
      (pss_one (ps_set (i := 4) nd rfl (Or.inl rfl) (pe_lst (pa_cons pe_str (pa_cons (pv 5) pa_nil)))))))
      (fun a oe cls d pn hz hf => (pss_cons (ps_set (i := 4) nd rfl (Or.inl rfl) (pe_lst (pa_cons (pe_callB (call_isX T.ex hz hf) (by rfl) gIs boot_isinstance (pa_cons (pv 6) (pa_cons (pe_glob (v := .ref C0) rfl T.g0 rfl) pa_nil))) (pa_cons (pe_callB (call_isX T.ex hz hf) (by rfl) gIs boot_isinstance (pa_cons (pv 6) (pa_cons (pe_glob (v := .ref C1) rfl T.g1 rfl) pa_nil))) (pa_cons (pe_callB (call_isX T.ex hz hf) (by rfl) gIs boot_isinstance (pa_cons (pv 6) (pa_cons (pe_glob (v := .ref C2) rfl T.g2 rfl) pa_nil))) (pa_cons (pe_callB (call_isX T.ex hz hf) (by rfl) gIs boot_isinstance (pa_cons (pv 6) (pa_cons (pe_glob (v := .ref C3) rfl T.g3 rfl) pa_nil))) pa_nil))))))
      (pss_cons (ps_if (pt_val (pe_ix (ix_listK (K := K) rfl) (pv 4) pe_int (fun _ _ => rfl))) (pss_one (ps_expr (PE.k (K := K) (t := fun K0 => tBM K0 "list" rAppend (tVar 4) (tCons (tXf a cls d CE "field" (tVar 6)) tNil)) rfl (pe_bm PySem.F.plainAttrs_list PySem.F.slot_list_append PySem.F.type_list_append mt_append (pv 4) (pa_cons (pe_xfK (K := K) rfl T.xf T.no hz hf (pv 6)) pa_nil))))) pss_nil)
      (pss_cons (ps_if (pt_val (pe_ix (ix_listK (K := K) rfl) (pv 4) pe_int (fun _ _ => rfl))) pss_never pss_nil)
      (pss_one (ps_if (pt_val (pe_ix (ix_listK (K := K) rfl) (pv 4) pe_int (fun _ _ => rfl))) pss_never pss_nil)))))))
      (pss_one (ps_ret (pv 4))))), ?_⟩
    refine ⟨(by show 1 ≤ sizeLine; decide), fun l0 h0 => ?_⟩
    have s0 := Same.new (o := .lst [V.str "none"]) (Same.refl H) h0
    generalize upd H l0 (.lst [V.str "none"]) = G0 at s0
    refine ⟨_, rfl, rfl, _, rfl, iteT_ rfl ?_⟩
    refine ⟨_, rfl, p, dx, fs, rfl, s0 _ _ hp, nop, _, rfl, _, rfl, ref G0 _ _ s0 (fun q G1 s1 fq rq => ⟨_, rfl, (by show 2 ≤ sizeLine; decide), fun l1 h1 => ?_⟩)⟩
    have t1 := s0.trans s1
    have s2 := Same.new (o := .lst [V.str "told", V.ref q]) (Same.refl G1) h1
    exact ⟨_, rfl, kk l1 q _ (t1.trans s2) (t1.free h1) (s0.free fq) upd_same (mon q _ _ s2 rq)⟩
theorem ok_toldGD (F : FnP K "_law_told" sLTold f fd) (T : CatR K mg CE CX C0 C1 C2 C3 true false false "field") (c0 : Cls K CW) {R : Addr → Hp → Prop} {spd : Sp}
    (mP : Meth K CW "put" f1) (GP : FnOk P w K mg base (L2.CX P w) 7 f1 fd1 ["self", "name", "node"] spd) (bP : Binds K fd1 ["self", "name", "node"] []) {spm : Sp}
    (mD : Meth K CW "delayed" f2) (GD : FnOk P w K mg base (L2.CX P w) 7 f2 fd2 ["self", "delays"] spm) (bD : Binds K fd2 ["self", "delays"] [])
    (gIs : mg "isinstance" = none) : FnOk P w K mg base CX0 8 f fd ["_law_web", "_law_way", "_law_tag", "_law_thing"] (spToldG CW spm false R) := by
  refine F.ok scLTold (fun vs H Q E h => ?_) (fun cdv A ou s H vs Q E hr h => ?_)
  · obtain ⟨p, dx, fs, tag, v, rfl, _⟩ := h
    rfl
  · obtain ⟨p, dx, fs, tag, v, rfl, hp, nop, mon, ref, kk⟩ := h
    have nd := scLTold.nd
    have hr7 : Room 7 _ := hr
    refine ⟨_, PSs.nox (pss_cons (ps_set (i := 4) nd rfl (Or.inl rfl) (pe_lst (pa_cons pe_str pa_nil)))
      (pss_cons (ps_try_as (i := 6) rfl rfl nd rfl rfl ⟨rfl, by decide, .inl T.gW⟩ takes0
      (fun W pn xe tk _ => (pss_cons (ps_set (i := 5) nd rfl (Or.inl rfl) (pe_ifExp (pt_cmpR op_eq (pv 1) pe_int (nomark _)) (pe_methT (pv 0) c0 mP GP hr7 bP (fun σ => passAt tk σ) (pa_cons (pv 2) (pa_cons (pv 3) pa_nil))) (pe_methT (pv 0) c0 mD GD hr7 bD (fun σ => passAt tk σ) (pa_cons (pv 3) pa_nil))))
      (pss_one (ps_set (i := 4) nd rfl (Or.inl rfl) (pe_lst (pa_cons pe_str (pa_cons (pv 5) pa_nil)))))))
      (fun a oe cls d pn hz hf => (pss_cons (ps_set (i := 4) nd rfl (Or.inl rfl) (pe_lst (pa_cons (pe_callB (call_isX T.ex hz hf) (by rfl) gIs boot_isinstance (pa_cons (pv 6) (pa_cons (pe_glob (v := .ref C0) rfl T.g0 rfl) pa_nil))) (pa_cons (pe_callB (call_isX T.ex hz hf) (by rfl) gIs boot_isinstance (pa_cons (pv 6) (pa_cons (pe_glob (v := .ref C1) rfl T.g1 rfl) pa_nil))) (pa_cons (pe_callB (call_isX T.ex hz hf) (by rfl) gIs boot_isinstance (pa_cons (pv 6) (pa_cons (pe_glob (v := .ref C2) rfl T.g2 rfl) pa_nil))) (pa_cons (pe_callB (call_isX T.ex hz hf) (by rfl) gIs boot_isinstance (pa_cons (pv 6) (pa_cons (pe_glob (v := .ref C3) rfl T.g3 rfl) pa_nil))) pa_nil))))))
      (pss_cons (ps_if (pt_val (pe_ix (ix_listK (K := K) rfl) (pv 4) pe_int (fun _ _ => rfl))) (pss_one (ps_expr (PE.k (K := K) (t := fun K0 => tBM K0 "list" rAppend (tVar 4) (tCons (tXf a cls d CE "field" (tVar 6)) tNil)) rfl (pe_bm PySem.F.plainAttrs_list PySem.F.slot_list_append PySem.F.type_list_append mt_append (pv 4) (pa_cons (pe_xfK (K := K) rfl T.xf T.no hz hf (pv 6)) pa_nil))))) pss_nil)
      (pss_cons (ps_if (pt_val (pe_ix (ix_listK (K := K) rfl) (pv 4) pe_int (fun _ _ => rfl))) pss_never pss_nil)
      (pss_one (ps_if (pt_val (pe_ix (ix_listK (K := K) rfl) (pv 4) pe_int (fun _ _ => rfl))) pss_never pss_nil)))))))
      (pss_one (ps_ret (pv 4))))), ?_⟩
    refine ⟨(by show 1 ≤ sizeLine; decide), fun l0 h0 => ?_⟩
    have s0 := Same.new (o := .lst [V.str "none"]) (Same.refl H) h0
    generalize upd H l0 (.lst [V.str "none"]) = G0 at s0
    refine ⟨_, rfl, rfl, _, rfl, iteF_ rfl ?_⟩
    refine ⟨_, rfl, p, dx, fs, rfl, s0 _ _ hp, nop, _, rfl, ref G0 _ _ s0 (fun q G1 s1 fq rq => ⟨_, rfl, (by show 2 ≤ sizeLine; decide), fun l1 h1 => ?_⟩)⟩
    have t1 := s0.trans s1
    have s2 := Same.new (o := .lst [V.str "told", V.ref q]) (Same.refl G1) h1
    exact ⟨_, rfl, kk l1 q _ (t1.trans s2) (t1.free h1) (s0.free fq) upd_same (mon q _ _ s2 rq)⟩
end
end Sw
namespace Sw
open PySem PySem.Spec PyProof.Rows L2
/-! ### webs with another spec, with other delays -/
theorem inl_eq {s : Spec} (h : isInl s = true) : s = .inlet := by
  cases s with
  | inlet => rfl
  | _ => cases h
theorem putK0_to {ks : List Knot} {x : Str} {t : Spec} (hi : ∀ k ∈ ks, k.1 = x → infS k.2 = infS t) {k : Knot} (hk : k ∈ ks) : ∃ k' ∈ putK0 ks x t, k'.1 = k.1 ∧ infS k'.2 = infS k.2 := by
  refine ⟨if k.1 = x then (k.1, t) else k, List.mem_map.mpr ⟨k, hk, rfl⟩, ?_⟩
  by_cases z : k.1 = x
  · rw [if_pos z]
    exact ⟨rfl, (hi k hk z).symm⟩
  · rw [if_neg z]
    exact ⟨rfl, rfl⟩
theorem putK0_fro {ks : List Knot} {x : Str} {t : Spec} (hi : ∀ k ∈ ks, k.1 = x → infS k.2 = infS t) {k' : Knot} (hk : k' ∈ putK0 ks x t) : ∃ k ∈ ks, k'.1 = k.1 ∧ infS k'.2 = infS k.2 ∧ (k'.2 = k.2 ∨ k'.2 = t) := by
  obtain ⟨k, hk, e⟩ := List.mem_map.mp hk
  refine ⟨k, hk, ?_⟩
  rw [← e]
  by_cases z : k.1 = x
  · rw [if_pos z]
    exact ⟨rfl, (hi k hk z).symm, .inr rfl⟩
  · rw [if_neg z]
    exact ⟨rfl, rfl, .inl rfl⟩
theorem putK0_names (ks : List Knot) (x : Str) (t : Spec) : (putK0 ks x t).map (·.1) = ks.map (·.1) := by
  unfold putK0
  rw [List.map_map]
  refine List.map_congr_left fun k _ => ?_
  show (if k.1 = x then (k.1, t) else k).1 = k.1
  split <;> rfl
theorem inf_tks {s t : Spec} (h : infS s = infS t) : tks s = tks t ∧ isOut s = isOut t ∧ isInl s = isInl t := by
  unfold infS at h
  injection h with h1 h2 h3
  exact ⟨h1, h2, h3⟩
theorem Web.put {ks : List Knot} {cs : List Wr} {x : Str} {t : Spec} (w : Web ks cs) (ot : SpecOk t) (hi : ∀ k ∈ ks, k.1 = x → infS k.2 = infS t) : Web (putK0 ks x t) cs := by
  have rea : ∀ {s : Str}, Reach0 ks cs s → Reach0 (putK0 ks x t) cs s := fun {s} r => by
    induction r with
    | inl h i =>
      rename_i k
      obtain ⟨k', hk', e1, e2⟩ := putK0_to hi h
      rw [← e1]
      refine .inl hk' (inl_eq ?_)
      rw [(inf_tks e2).2.2, i]
      rfl
    | step h z _ ih => exact .step h z ih
  refine ⟨⟨by rw [putK0_names]; exact w.b.nd, fun k hk => ?_, fun k hk => ?_, fun c hc => ?_, fun c hc => ?_, w.b.del, w.b.one, fun z => ?_⟩, fun k hk p hp => ?_, fun k hk => ?_⟩
  · obtain ⟨k0, h0, e1, _⟩ := putK0_fro hi hk
    rw [e1]
    exact w.b.nm k0 h0
  · obtain ⟨k0, h0, _, _, e | e⟩ := putK0_fro hi hk
    · rw [e]
      exact w.b.sp k0 h0
    · rw [e]
      exact ot
  · obtain ⟨k, hk, e, o⟩ := w.b.src c hc
    obtain ⟨k', hk', e1, e2⟩ := putK0_to hi hk
    exact ⟨k', hk', e1.trans e, by rw [(inf_tks e2).2.1]; exact o⟩
  · obtain ⟨k, hk, e, o⟩ := w.b.goal c hc
    obtain ⟨k', hk', e1, e2⟩ := putK0_to hi hk
    exact ⟨k', hk', e1.trans e, by rw [(inf_tks e2).1]; exact o⟩
  · obtain ⟨k, hk, o⟩ := w.b.hd fun q => z (by rw [q]; rfl)
    obtain ⟨k', hk', _, e2⟩ := putK0_to hi hk
    exact ⟨k', hk', by rw [(inf_tks e2).2.1]; exact o⟩
  · obtain ⟨k0, h0, e1, e2, _⟩ := putK0_fro hi hk
    rw [(inf_tks e2).1] at hp
    rw [e1]
    exact w.all k0 h0 p hp
  · obtain ⟨k0, h0, e1, _⟩ := putK0_fro hi hk
    rw [e1]
    exact rea (w.rea k0 h0)
theorem Web.delayed {ks : List Knot} {cs : List Wr} {ds : List Nat} (w : Web ks cs) (h : ds.length = cs.length) (hd : ∀ d ∈ ds, d ≤ 9999) : Web ks (delW cs ds) := by
  have inv : ∀ c' ∈ delW cs ds, ∃ c d, c ∈ cs ∧ d ∈ ds ∧ c' = ⟨c.src, c.goal, c.place, d⟩ := fun c' hc' => by
    obtain ⟨j, ej⟩ := List.getElem?_of_mem hc'
    obtain ⟨c, d, e1, e2, e3⟩ := delW_inv h ej
    exact ⟨c, d, List.mem_of_getElem? e1, List.mem_of_getElem? e2, e3⟩
  have keys : (delW cs ds).map keyW = cs.map keyW := by
    apply List.ext_getElem?
    intro j
    rw [List.getElem?_map, List.getElem?_map]
    by_cases jl : j < cs.length
    · have e1 : cs[j]? = some cs[j] := List.getElem?_eq_getElem jl
      have e2 : ds[j]? = some (ds[j]'(by omega)) := List.getElem?_eq_getElem (by omega)
      rw [delW_get e1 e2, e1]
      rfl
    · rw [List.getElem?_eq_none (by rw [delW_len h]; omega), List.getElem?_eq_none (by omega)]
  have rea : ∀ {s : Str}, Reach0 ks cs s → Reach0 ks (delW cs ds) s := fun {s} r => by
    induction r with
    | inl h i => exact .inl h i
    | step hc z _ ih =>
      obtain ⟨d, hd'⟩ := delW_to h hc
      exact .step (c := ⟨_, _, _, d⟩) hd' z ih
  refine ⟨⟨w.b.nd, w.b.nm, w.b.sp, fun c hc => ?_, fun c hc => ?_, fun c hc => ?_, by rw [keys]; exact w.b.one, w.b.hd⟩, fun k hk p hp => ?_, fun k hk => rea (w.rea k hk)⟩
  · obtain ⟨c0, d, hc0, _, rfl⟩ := inv c hc
    exact w.b.src c0 hc0
  · obtain ⟨c0, d, hc0, _, rfl⟩ := inv c hc
    exact w.b.goal c0 hc0
  · obtain ⟨c0, d, _, hd', rfl⟩ := inv c hc
    exact hd d hd'
  · obtain ⟨c, hc, e1, e2⟩ := w.all k hk p hp
    obtain ⟨d, hd'⟩ := delW_to h hc
    exact ⟨_, hd', e1, e2⟩
end Sw
namespace Sw
open PySem PySem.Spec PyProof.Rows L2
/-! ### put is right -/
/-- data that are not long -/
def Brief (d : PyData) : Prop := PyData.canLay0 d = true ∧ d.depth ≤ 3 ∧ d.showable = true ∧ d.shown.length ≤ 300
theorem brief_str {x : Str} (h : NmOk x) : Brief (.str x) := ⟨by rw [PyData.canLay0]; exact nm_strOk h, by rw [PyData.depth]; decide, by rw [PyData.showable], Nat.le_trans (nm_shown h) (by decide)⟩
/-- how a list of four truths and such a thing is shown -/
theorem brief_repr {K : PySem.W.Frag} {v : V} {d : PyData} (dp : ∀ H, Dp K H v d) (h : Brief d) (a b c e : Bool) : ∃ (D : PyData) (S : Str), (∀ (H' : Hp) (l : Addr), H' l = some (.lst [.bl a, .bl b, .bl c, .bl e, v]) → Dp K H' (.ref l) D) ∧ SeqAt.shaped D = true ∧ D.showable = true ∧ D.shown.length ≤ sizeLine ∧ D.shown = S := by
  have bs : ∀ x : Bool, (PyData.shown (.bool x)).length ≤ 300 := fun x => by
    rw [PyData.shown]
    cases x <;> decide +kernel
  have fits : ∀ n : Nat, n ≤ (300 + 2) * 5 + 3 → n ≤ sizeLine := fun n h => Nat.le_trans h (by decide)
  obtain ⟨lay, dep, sho, len⟩ := h
  have sz := shown_list (B := 300) (ds := [PyData.bool a, PyData.bool b, PyData.bool c, PyData.bool e, d]) fun z hz => by
    simp only [List.mem_cons, List.not_mem_nil, or_false] at hz
    rcases hz with rfl | rfl | rfl | rfl | rfl
    · exact bs a
    · exact bs b
    · exact bs c
    · exact bs e
    · exact len
  refine ⟨.list [.bool a, .bool b, .bool c, .bool e, d], _, fun H' l hl => .lst (SqL.of hl) (.cons (.bl a) (.cons (.bl b) (.cons (.bl c) (.cons (.bl e) (.cons (dp H') .nil))))), ?_, ?_, fits _ sz, rfl⟩
  · unfold SeqAt.shaped
    simp only [PyData.canLay0, PyData.canLayAll0, PyData.depth, PyData.depthAll, lay]
    refine Bool.and_eq_true_iff.mpr ⟨rfl, decide_eq_true ?_⟩
    omega
  · simp only [PyData.showable, PyData.showableAll, sho]
    rfl
theorem FnOk.ex {α : Type} {P : Program} {w : World} {K : PySem.W.Frag} {mg : Str → Option Value} {base : Heap} {CX : CXT} {k : Nat} {f : Addr} {fd : FuncData} {ps : List Str} {sp : α → Sp} (F : ∀ a, FnOk P w K mg base CX k f fd ps (sp a)) : FnOk P w K mg base CX k f fd ps (fun vs H Q E => ∃ a, sp a vs H Q E) :=
  ⟨fun vs H Q E ⟨a, h⟩ => (F a).len vs H Q E h, fun A outer s H args us vs Q E room env bind rel ⟨a, h⟩ => (F a).run A outer s H args us vs Q E room env bind rel h⟩
theorem putK0_snoc {ks : List Knot} {x : Str} {t : Spec} {j : Nat} {k : Knot} (e : ks[j]? = some k) : putK0 (ks.take (j + 1)) x t = putK0 (ks.take j) x t ++ [if k.1 = x then (k.1, t) else k] := by
  unfold putK0
  rw [List.take_succ, e, List.map_append]
  rfl
theorem putK0_len (ks : List Knot) (x : Str) (t : Spec) : (putK0 ks x t).length = ks.length := List.length_map _
theorem knot_inj {ks : List Knot} (nd : (ks.map (·.1)).Nodup) {a b : Knot} (ha : a ∈ ks) (hb : b ∈ ks) (h : a.1 = b.1) : a = b := by
  induction ks with
  | nil => cases ha
  | cons c r ih =>
    rw [List.map_cons, List.nodup_cons] at nd
    obtain ⟨n1, n2⟩ := nd
    rcases List.mem_cons.mp ha with rfl | ha'
    · rcases List.mem_cons.mp hb with rfl | hb'
      · rfl
      · exact absurd (List.mem_map.mpr ⟨b, hb', h.symm⟩) n1
    · rcases List.mem_cons.mp hb with rfl | hb'
      · exact absurd (List.mem_map.mpr ⟨a, ha', h⟩) n1
      · exact ih n2 ha' hb'
theorem putK0_back {ks : List Knot} (nd : (ks.map (·.1)).Nodup) {k : Knot} (hk : k ∈ ks) (t : Spec) : putK0 (putK0 ks k.1 t) k.1 k.2 = ks := by
  unfold putK0
  rw [List.map_map]
  refine (List.map_congr_left fun z hz => ?_).trans (List.map_id _)
  show (if (if z.1 = k.1 then (z.1, t) else z).1 = k.1 then ((if z.1 = k.1 then (z.1, t) else z).1, k.2) else (if z.1 = k.1 then (z.1, t) else z)) = z
  by_cases q : z.1 = k.1
  · have e : z = k := knot_inj nd hz hk q
    subst e
    rw [if_pos rfl, if_pos rfl]
  · rw [if_neg q, if_neg q]
def spPutRight (K : PySem.W.Frag) {CN CO CI : Addr} {cl : Srt → Addr} (dd : Addr) (c : ClsS K cl CN CO CI) (CW : Addr) : Sp := fun vs H Q _ => ∃ (p x kl cl0 : Addr) (nm : List Nm) (ks : List Knot) (cs : List Wr), vs = [.ref p, .ref x, .ref kl, .ref cl0] ∧ PotAt H p ∧ kl ≠ p ∧ (∀ G, Kept p H G → WvAt K (sorts cl dd c) CW G x nm cs ∧ Al (NmK K cl dd G) nm ks ∧ ListD K G kl (ks.map knotD) ∧ ListD K G cl0 (cs.map cordD)) ∧ Web ks cs ∧ ks.length ≤ 24 ∧ cs.length ≤ 48 ∧ ks ≠ [] ∧ ∀ H', Kept p H H' → PotAt H' p → Q (.bl true) H'
/-- what put and delayed are told to do -/
def spToldP (K : PySem.W.Frag) {CN CO CI : Addr} (cl : Srt → Addr) (dd : Addr) (c : ClsS K cl CN CO CI) (CW C0 C1 : Addr) : Sp := fun vs H Q E => spToldR CW C0 (spPutNN K (sorts cl dd c) CW C0) true true false false "field" vs H Q E ∨ spToldR CW C1 (spPutUn K cl dd c CW C1) true false true false "who" vs H Q E ∨ ∃ R : Addr → Hp → Prop, spToldG CW (spPut K cl dd c CW) true R vs H Q E
section
variable {P : Program} {w : World} {K : PySem.W.Frag} {mg : Str → Option Value} {base : Heap} {f f1 f2 f3 f4 f5 f6 f7 f8 f9 f10 C CN CO CI CW CU C0 C1 dd : Addr} {cl : Srt → Addr} {fd fd10 fd1 fd2 fd3 fd4 fd5 fd6 fd7 fd8 fd9 : FuncData}
abbrev nLPutRight : List Str := ["_law_pot_here", "_law_web", "_law_knots", "_law_cords", "_law_tag", "_law_spec_here", "_law_way", "_law_other", "_law_thing", "_law_told_here", "_law_due", "_law_one", "_law_own"]
theorem scLPutRight : FnScope nLPutRight ["_law_pot_here", "_law_web", "_law_knots", "_law_cords"] (defScope sLPutRight) := ⟨rfl, rfl, rfl, by decide +kernel, rfl, by decide +kernel, by decide +kernel⟩
theorem ok_putRight {gK : List Value → List Value → List Value} (c : ClsS K cl CN CO CI) (F : FnP K "_law_put_right" sLPutRight f fd) (c0 : Cls K CW)
    (GPi : FnOk P w K mg base CX0 2 f1 fd1 ["_law_pot_here", "_law_some"] (spPick K)) (gPi : mg "_law_pick" = some (.ref f1)) (kPi : PySem.W.keepIn K (.ref f1) = true) (bPi : Binds K fd1 ["_law_pot_here", "_law_some"] [])
    (GT : FnOk P w K mg base CX0 1 f2 fd2 ["_law_pot_here", "_law_many"] spTake) (gT : mg "_law_take" = some (.ref f2)) (kT : PySem.W.keepIn K (.ref f2) = true) (bT : Binds K fd2 ["_law_pot_here", "_law_many"] [])
    (GL : FnOk P w K mg base CX0 2 f3 fd3 ["_law_pot_here", "_law_spec_here"] (spLike K)) (gL : mg "_law_like" = some (.ref f3)) (kL : PySem.W.keepIn K (.ref f3) = true) (bL : Binds K fd3 ["_law_pot_here", "_law_spec_here"] [])
    (GSp : FnOk P w K mg base CX0 2 f4 fd4 ["_law_pot_here"] (spSpec K)) (gSp : mg "_law_spec" = some (.ref f4)) (kSp : PySem.W.keepIn K (.ref f4) = true) (bSp : Binds K fd4 ["_law_pot_here"] [])
    (GM : FnOk P w K mg base CX0 6 f5 fd5 ["_law_spec_here"] (spMade K cl dd)) (gM : mg "_law_made" = some (.ref f5)) (kM : PySem.W.keepIn K (.ref f5) = true) (bM : Binds K fd5 ["_law_spec_here"] [])
    (GTo : FnOk P w K mg base CX0 8 f6 fd6 ["_law_web", "_law_way", "_law_tag", "_law_thing"] (spToldP K cl dd c CW C0 C1)) (gTo : mg "_law_told" = some (.ref f6)) (kTo : PySem.W.keepIn K (.ref f6) = true) (bTo : Binds K fd6 ["_law_web", "_law_way", "_law_tag", "_law_thing"] [])
    (GTk : FnOk P w K mg base CX0 1 f7 fd7 ["_law_spec_here"] (spTakes K)) (gTk : mg "_law_takes" = some (.ref f7)) (kTk : PySem.W.keepIn K (.ref f7) = true) (bTk : Binds K fd7 ["_law_spec_here"] [])
    (GGv : FnOk P w K mg base CX0 1 f8 fd8 ["_law_spec_here"] (spLGives K)) (gGv : mg "_law_gives" = some (.ref f8)) (kGv : PySem.W.keepIn K (.ref f8) = true) (bGv : Binds K fd8 ["_law_spec_here"] [])
    (GI : FnG P w K mg base CX0 7 f9 fd9 ["_law_web", "_law_knots", "_law_cords"] (spIs K dd c CW)) (gI : mg "_law_is" = some (.ref f9)) (kI : PySem.W.keepIn K (.ref f9) = true) (bI : Binds K fd9 ["_law_web", "_law_knots", "_law_cords"] [])
    (mP : Meth K CW "put" f10) (GP : FnOk P w K mg base CX0 7 f10 fd10 ["self", "name", "node"] (spPut K cl dd c CW)) (bP : Binds K fd10 ["self", "name", "node"] []) (kP : KBn K fd10 ["self", "name", "node"] 1 ["name", "node"] gK (fun vs zs => vs ++ zs))
    (noN : ∀ T ∈ (["NoneType", "int", "str", "tuple", "list", "dict", "bool"] : List String), PySem.W.kitOne K (.type T) (.ref CN) = some false)
    (gRepr : mg "repr" = none) : FnG P w K mg base CX0 9 f fd ["_law_pot_here", "_law_web", "_law_knots", "_law_cords"] (spPutRight K dd c CW) := by
  refine F.okG scLPutRight (fun vs H Q E h => ?_) (fun cdv A ou s H vs Q E hr guard h => ?_)
  · obtain ⟨p, x, kl, cl0, nm, ks, cs, rfl, _⟩ := h
    rfl
  · obtain ⟨p, x, kl, cl0, nm, ks, cs, rfl, hp, nkp, here, web, few, fewc, kne, kk⟩ := h
    have nd := scLPutRight.nd
    have hr8 : Room 8 _ := hr
    have hr7 : Room 7 _ := hr.mono (by decide)
    have hr6 : Room 6 _ := hr.mono (by decide)
    have hr2 : Room 2 _ := hr.mono (by decide)
    have hr1 : Room 1 _ := hr.mono (by decide)
    have hu6 := hr.units
    have un := hr.un
    have R : ∀ {X : Cx}, X.A = A.deeper (envOfC "_law_put_right" (defScope sLPutRight) s.heap.objs.size f cdv) → CallR X (.builtin "repr") (rReprD X.K) := fun {X} e => call_reprD (by rw [e]; exact guard) (by rw [e]; omega)
    refine ⟨_, PSs.nox (pss_cons (ps_asg (pe_call GPi hr2 rfl gPi kPi bPi .nil pass0 (pa_cons (pv 0) (pa_cons (pv 2) pa_nil))) (pg_tup rfl (pgs_cons (pg_name (i := 4) nd rfl (Or.inr rfl)) (pgs_cons (pg_name (i := 5) nd rfl (Or.inl rfl)) pgs_nil))))
      (pss_cons (ps_set (i := 6) nd rfl (Or.inl rfl) (pe_call GT hr1 rfl gT kT bT .nil pass0 (pa_cons (pv 0) (pa_cons pe_int pa_nil))))
      (C8.pss_cut (ps_set (i := 7) nd rfl (Or.inr rfl) (pe_ifExp (pt_cmpR op_lt (pv 6) pe_int (nomark _)) (pe_call GL hr2 rfl gL kL bL .nil pass0 (pa_cons (pv 0) (pa_cons (pv 5) pa_nil))) (pe_call GSp hr2 rfl gSp kSp bSp .nil pass0 (pa_cons (pv 0) pa_nil))))
      (pss_cons (ps_set (i := 8) nd rfl (Or.inl rfl) (pe_call GM hr6 rfl gM kM bM .nil pass0 (pa_cons (pv 7) pa_nil)))
      (pss_cons (ps_if (pt_cmpR op_eq (pv 6) pe_int (nomark _)) (pss_one (ps_set (i := 8) nd rfl (Or.inl rfl) (pe_call GPi hr2 rfl gPi kPi bPi .nil pass0 (pa_cons (pv 0) (pa_cons (pe_lst (pa_cons pe_non (pa_cons pe_int (pa_cons pe_str (pa_cons (pe_tup pa_nil) (pa_cons (pe_lst pa_nil) (pa_cons pe_dnewK (pa_cons pe_bl (pa_cons (pv 4) pa_nil))))))))) pa_nil))))) pss_nil)
      (pss_cons (ps_set (i := 9) nd rfl (Or.inl rfl) (pe_call GTo hr8 rfl gTo kTo bTo .nil pass0 (pa_cons (pv 1) (pa_cons pe_int (pa_cons (pv 4) (pa_cons (pv 8) pa_nil))))))
      (pss_cons (ps_if (pt_cmpR op_eq (pv 6) pe_int (nomark _)) (pss_one (ps_ret (pe_cmpR op_eq (pe_callB (R rfl) (by rfl) gRepr boot_repr (pa_cons (pv 9) pa_nil)) (pe_callB (R rfl) (by rfl) gRepr boot_repr (pa_cons (pe_lst (pa_cons pe_bl (pa_cons pe_bl (pa_cons pe_bl (pa_cons pe_bl (pa_cons pe_str pa_nil)))))) pa_nil)) (nomark _)))) pss_nil)
      (pss_cons (ps_if (PW.pt (pw_or (pt_cmpR (op_neD hu6) (pe_call GTk hr1 rfl gTk kTk bTk .nil pass0 (pa_cons (pv 7) pa_nil)) (pe_call GTk hr1 rfl gTk kTk bTk .nil pass0 (pa_cons (pv 5) pa_nil)) (nomark _)) (pw_or1 (pt_cmpR op_ne (pe_call GGv hr1 rfl gGv kGv bGv .nil pass0 (pa_cons (pv 7) pa_nil)) (pe_call GGv hr1 rfl gGv kGv bGv .nil pass0 (pa_cons (pv 5) pa_nil)) (nomark _))))) (pss_one (ps_ret (pe_cmpR op_eq (pe_callB (R rfl) (by rfl) gRepr boot_repr (pa_cons (pv 9) pa_nil)) (pe_callB (R rfl) (by rfl) gRepr boot_repr (pa_cons (pe_lst (pa_cons pe_bl (pa_cons pe_bl (pa_cons pe_bl (pa_cons pe_bl (pa_cons (pv 4) pa_nil)))))) pa_nil)) (nomark _)))) pss_nil)
      (pss_cons (ps_setLc (i := 10) (own := [("_law_one", 11), ("_law_own", 12)]) (g := (gTup K 2 (gCons (gName 11) (gCons (gName 12) gNil)))) (tt := tYes) rfl nd rfl rfl (sw_true rfl rfl rfl rfl) (pi_list (pv 2)) (blkOk_by (N := nLPutRight) (sc := defScope sLPutRight) (by decide +kernel))
        (fun _ _ _ _ _ => (pg_tup rfl (pgs_cons (pg_name (i := 11) nd rfl (Or.inl rfl)) (pgs_cons (pg_name (i := 12) nd rfl (Or.inl rfl)) pgs_nil)))) (fun _ _ _ _ _ => pts_nil) (fun _ _ _ _ _ => (pe_tup (pa_cons (pv 11) (pa_cons (pe_ifExp (pt_cmpR op_eq (pv 11) (pv 4) (nomark _)) (pv 7) (pv 12)) pa_nil)))))
      (pss_cons (ps_if (PW.pt (pw_or (pt_cmpR op_ne (pe_ix ix_list (pv 9) pe_int (fun _ _ => rfl)) pe_str (nomark _)) (pw_or1 (pt_not (pt_val (pe_callG GI hr7 guard rfl gI kI bI .nil pass0 (pa_cons (pe_ix ix_list (pv 9) pe_int (fun _ _ => rfl)) (pa_cons (pv 10) (pa_cons (pv 3) pa_nil))))))))) pss_never pss_nil)
      (pss_cons (ps_if (pt_not (pt_val (pe_callG GI hr7 guard rfl gI kI bI .nil pass0 (pa_cons (pe_methK0 (pv 1) c0 mP GP hr7 kP pass0 (pk_cons (pv 4) (pk_cons (pv 8) pk_nil))) (pa_cons (pv 10) (pa_cons (pv 3) pa_nil)))))) pss_never pss_nil)
      (pss_one (ps_ret (pe_and (pe_callG GI hr7 guard rfl gI kI bI .nil pass0 (pa_cons (pe_meth (pe_ix ix_list (pv 9) pe_int (fun _ _ => rfl)) c0 mP GP hr7 bP .nil pass0 (pa_cons (pv 4) (pa_cons (pe_call GM hr6 rfl gM kM bM .nil pass0 (pa_cons (pv 5) pa_nil)) pa_nil))) (pa_cons (pv 2) (pa_cons (pv 3) pa_nil)))) (pe_one (pe_callG GI hr7 guard rfl gI kI bI .nil pass0 (pa_cons (pe_ix ix_list (pv 9) pe_int (fun _ _ => rfl)) (pa_cons (pv 10) (pa_cons (pv 3) pa_nil))))))))))))))))))), ?_⟩
    obtain ⟨wv0, al0, hkD0, hcD0⟩ := here H Kept.refl
    obtain ⟨kv, hk, dk⟩ := id hkD0
    have kvl : kv.length = ks.length := by rw [DpAll.len dk, List.length_map]
    have wok := web.ok few fewc (nmK_map al0)
    -- a name, its spec
    refine ⟨_, rfl, _, rfl, p, kl, kv, rfl, nkp.symm, hp, SqL.of hk, fun G k => SqL.of (k _ _ nkp hk), (fun z => kne (by rw [z] at kvl; exact List.length_eq_zero_iff.mp kvl.symm)), (by omega), fun y H1 ym k1 hp1 => ?_⟩
    obtain ⟨j, ej⟩ := List.getElem?_of_mem ym
    obtain ⟨k, ekj, dkj⟩ := DpAll.map dk ej
    obtain ⟨q, sv, rfl, hq, hs⟩ := knot_inv dkj
    obtain ⟨x0, ex0, nmk⟩ := Al.get' al0 ekj
    have km : k ∈ ks := List.mem_of_getElem? ekj
    have xm : x0 ∈ nm := List.mem_of_getElem? ex0
    have sok := web.b.sp k km
    have nmo := web.b.nm k km
    obtain ⟨k1', k2⟩ := k
    obtain ⟨en, ei, _⟩ := nmk
    have en : x0.name = k1' := en
    subst en
    have ei : x0.inf = infS k2 := ei
    have inst : ∀ {G : Hp}, Kept p H G → NodeS K cl dd k2 x0.adr G := fun {G} kG => by
      obtain ⟨_, alG, _⟩ := here G kG
      obtain ⟨x1, e1, h1⟩ := Al.get' alG ekj
      rw [ex0] at e1
      obtain rfl := Option.some.inj e1
      exact h1.2.2
    refine ⟨q, _, rfl, k1.tup hp hq, rfl, _, _, rfl, _, _, rfl, rfl, ?_⟩
    have hs1 := hs.kt (KT.kept k1 hp)
    -- the way
    refine ⟨_, rfl, p, _, rfl, hp1, by decide, by decide, fun e2 H2 e20 e24 k2' hp2 => ?_⟩
    have k12 := k1.trans k2'
    have hs2 := hs1.kt (KT.kept k2' hp1)
    refine ⟨fun σ' G => ∃ (v' : V) (s' : Spec), σ' = [some (.ref p), some (.ref x), some (.ref kl), some (.ref cl0), some (.str x0.name), some sv, some (.int e2), some v', none, none, none, none, none] ∧ SpecOk s' ∧ SpecAt K G v' s' ∧ Kept p H2 G ∧ PotAt G p, ?_, ?_⟩
    · refine ⟨_, rfl, _, _, rfl, rfl, _, rfl, ite2 (fun _ => ?_) (fun _ => ?_)⟩
      · exact ⟨_, rfl, _, rfl, p, sv, k2, rfl, hp2, hs2, sok, fun v' s' G o _ _ kG hpG hsG => ⟨_, _, rfl, o, hsG, kG, hpG⟩⟩
      · exact ⟨_, rfl, p, rfl, hp2, fun v' s' G o kG hpG hsG => ⟨_, _, rfl, o, hsG, kG, hpG⟩⟩
    rintro σ' G3 ⟨v', s', rfl, ok', hs', k3, hp3⟩
    have k03 := k12.trans k3
    have hs3 := hs2.kt (KT.kept k3 hp2)
    -- the thing
    refine ⟨_, rfl, v', s', rfl, hs', ok', fun n G4 fn s4 hn => ?_⟩
    have k04 := k03.trans (Kept.same s4)
    have hp4 := hp3.keep s4
    obtain ⟨dx, d0, dl, ld0, dv, hx4, _⟩ := id (here G4 k04).1
    by_cases z3 : e2 = 3
    · subst z3
      refine ⟨_, rfl, rfl, _, rfl, iteT_ (decide_eq_true rfl) ?_⟩
      refine ⟨_, rfl, (by show 0 ≤ sizeLine; decide), fun ta hta => ?_⟩
      have s5 := Same.new (o := .tup []) (Same.refl G4) hta
      have ht5 : upd G4 ta (.tup []) ta = some (.tup []) := upd_same
      generalize upd G4 ta (.tup []) = G5 at s5 ht5
      refine ⟨(by show 0 ≤ sizeLine; decide), fun la hla => ?_⟩
      have s6 := Same.new (o := .lst []) (Same.refl G5) hla
      have hl6 : upd G5 la (.lst []) la = some (.lst []) := upd_same
      generalize upd G5 la (.lst []) = G6 at s6 hl6
      refine fun da hda => ?_
      have s7 := Same.new (o := .dK []) (Same.refl G6) hda
      have hd7 : upd G6 da (.dK []) da = some (.dK []) := upd_same
      generalize upd G6 da (.dK []) = G7 at s7 hd7
      refine ⟨_, rfl, (by show 8 ≤ sizeLine; decide), fun ll hll => ?_⟩
      obtain ⟨L, hL⟩ : ∃ L, L = [V.non, .int 7, .str "gain", .ref ta, .ref la, .ref da, .bl true, .str x0.name] := ⟨_, rfl⟩
      have s8 := Same.new (o := .lst L) (Same.refl G7) hll
      have hl8 : upd G7 ll (.lst L) ll = some (.lst L) := upd_same
      rw [← hL]
      have u7 := s5.trans (s6.trans s7)
      have nlp : ll ≠ p := (hp4.keep u7).ne hll
      have nap : ta ≠ p := hp4.ne hta
      have nbp : la ≠ p := (hp4.keep s5).ne hla
      have ncp : da ≠ p := (hp4.keep (s5.trans s6)).ne hda
      generalize upd G7 ll (.lst L) = G8 at s8 hl8
      have u8 := u7.trans s8
      refine ⟨p, ll, L, rfl, nlp.symm, hp4.keep u8, SqL.of hl8, fun G k => SqL.of (k _ _ nlp hl8), (by rw [hL]; simp), (by rw [hL]; show 8 < 1073741824; decide), fun y G9 ym9 k9 hp9 => ?_⟩
      have k49 : Kept p G4 G9 := (Kept.same u8).trans k9
      have k09 := k04.trans k49
      obtain ⟨Ty, ty, ki⟩ : ∃ T : String, (∀ G, Same G9 G → TyX K G y (.type T)) ∧ PySem.W.kitOne K (.type T) (.ref CN) = some false := by
        rw [hL] at ym9
        simp only [List.mem_cons, List.not_mem_nil, or_false] at ym9
        rcases ym9 with rfl | rfl | rfl | rfl | rfl | rfl | rfl | rfl
        · exact ⟨"NoneType", fun G _ => TyX.base TyOf.non, noN _ (by decide)⟩
        · exact ⟨"int", fun G _ => TyX.base (TyOf.int 7), noN _ (by decide)⟩
        · exact ⟨"str", fun G _ => TyX.base (TyOf.str _), noN _ (by decide)⟩
        · exact ⟨"tuple", fun G s => TyX.base (TyOf.tup (s _ _ (k9 _ _ nap ((s6.trans (s7.trans s8)) _ _ ht5)))), noN _ (by decide)⟩
        · exact ⟨"list", fun G s => TyX.base (TyOf.lst (s _ _ (k9 _ _ nbp ((s7.trans s8) _ _ hl6)))), noN _ (by decide)⟩
        · exact ⟨"dict", fun G s => TyX.base (TyOf.dK (s _ _ (k9 _ _ ncp (s8 _ _ hd7)))), noN _ (by decide)⟩
        · exact ⟨"bool", fun G _ => TyX.base (TyOf.bl true), noN _ (by decide)⟩
        · exact ⟨"str", fun G _ => TyX.base (TyOf.str _), noN _ (by decide)⟩
      obtain ⟨wv9, _, _, _⟩ := here G9 k09
      obtain ⟨dx9, _, _, _, _, hx9, _⟩ := id wv9
      obtain ⟨dB, S, dpB, sh1, sh2, sh3, hS⟩ := brief_repr (K := K) (fun H => Dp.str "node") (brief_str (x := "node") (by unfold NmOk; decide +kernel)) true false false false
      refine ⟨_, rfl, _, rfl, _, rfl, .inl ⟨x, dx9, _, .str x0.name, y, .str "node", rfl, hx9, rfl, fun H1 Q1 E1 s r => ⟨x, nm, cs, x0, y, rfl, wv9.keep s, wok.nms, xm, ⟨Ty, ty _ s, ki⟩, r⟩, fun l G10 s10 nl hl => ?_⟩⟩
      refine ⟨_, rfl, rfl, _, rfl, iteT_ (decide_eq_true rfl) ?_⟩
      refine ⟨_, rfl, l, dB, S, rfl, dpB _ _ hl, sh1, sh2, sh3, hS, ?_⟩
      refine ⟨(by show 5 ≤ sizeLine; decide), fun l5 h5 => ?_⟩
      have s11 := Same.new (o := .lst [V.bl true, V.bl false, V.bl false, V.bl false, V.str "node"]) (Same.refl G10) h5
      refine ⟨l5, dB, S, rfl, dpB _ _ upd_same, sh1, sh2, sh3, hS, ?_⟩
      refine ⟨rfl, ?_⟩
      rw [decide_eq_true rfl]
      exact kk _ (k09.trans (Kept.same (s10.trans s11))) (hp9.keep (s10.trans s11))
    · have f3 : decide (V.int e2 = V.int 3) = false := decide_eq_false fun q => z3 (V.int.inj q)
      refine ⟨_, rfl, rfl, _, rfl, iteF_ f3 ?_⟩
      obtain ⟨wv4, al4, hkD4, hcD4⟩ := here G4 k04
      have hs4' := hs'.kt (KT.same s4)
      have hs4 := hs3.kt (KT.same s4)
      by_cases lk : tks s' = tks k2 ∧ gvs s' = gvs k2
      · obtain ⟨lk1, lk2⟩ := lk
        have inf : infS k2 = infS s' := inf_like sok ok' lk1.symm lk2.symm
        have hi : ∀ z ∈ ks, z.1 = x0.name → infS z.2 = infS s' := fun z hz e => by
          rw [knot_inj web.b.nd hz km e]
          exact inf
        have web' := web.put ok' hi
        have few' : (putK0 ks x0.name s').length ≤ 24 := by rw [putK0_len]; exact few
        have alP : ∀ {G : Hp}, Kept p H G → NodeS K cl dd s' n G → Al (NmK K cl dd G) (putN nm x0.name n) (putK0 ks x0.name s') := fun {G} kG hnG => al_put hnG (here G kG).2.1 hi
        refine ⟨_, rfl, _, rfl, _, rfl, .inr (.inr ⟨fun q G => WvAt K (sorts cl dd c) CW G q (putN nm x0.name n) cs, x, dx, _, .str x0.name, .ref n, rfl, hx4, rfl, fun q H1 H2 s w => w.keep s, fun H1 Q1 E1 s kq => ⟨x, n, nm, cs, x0, k2, s', rfl, wv4.keep s, wok, xm, (inst k04).keep s, hn.keep s, sok, ok', ei, lk1, lk2, kq⟩, fun l q G5 s5 nl nq hl wq => ?_⟩)⟩
        refine ⟨_, rfl, rfl, _, rfl, iteF_ f3 ?_⟩
        refine ⟨_, rfl, v', s', rfl, hs4'.kt (KT.same s5), ok', fun tq1 G6 s6 ht1 => ?_⟩
        refine ⟨_, rfl, sv, k2, rfl, hs4.kt (KT.same (s5.trans s6)), sok, fun tq2 G7 s7 ht2 => ?_⟩
        have u7 := s6.trans s7
        refine ⟨tkD (tks s'), tkD (tks k2), .tup (Same.tup s7 ht1) (tk_dp _), .tup ht2 (tk_dp _), tk_shaped _, tk_shaped _, _, rfl, ?_⟩
        rw [tk_eqv, decide_eq_true lk1]
        refine iteF_ rfl ?_
        refine ⟨_, rfl, v', s', rfl, hs4'.kt (KT.same (s5.trans u7)), ok', fun G8 s8 => ?_⟩
        have u8 := u7.trans s8
        refine ⟨_, rfl, sv, k2, rfl, hs4.kt (KT.same (s5.trans u8)), sok, fun G9 s9 => ⟨rfl, _, rfl, iteF_ ?_ ?_⟩⟩
        · rw [lk2, decide_eq_true rfl]
          rfl
        have u9 := u8.trans s9
        have t9 := s5.trans u9
        obtain ⟨kv9, hk9, dk9⟩ := hkD4.keep t9
        have kvl9 : kv9.length = ks.length := by rw [DpAll.len dk9, List.length_map]
        -- what is due
        refine ⟨_, rfl, kl, rfl, ⟨_, SqL.of hk9⟩, fun D hD => ?_⟩
        refine lc_list (xs := kv9) (fun j H' => ListD K H' D ((putK0 (ks.take j) x0.name s').map knotD) ∧ Same G9 H') ⟨⟨[], upd_same, .nil⟩, Same.past (Same.refl _) hD⟩ (fun j H' _ e => SqL.of (e.2 _ _ hk9)) (fun j v H' ev e => ?_) (fun G10 e => ?_)
        · obtain ⟨⟨pvs, hd, dps⟩, sm⟩ := e
          obtain ⟨kz, ekz, dkz⟩ := DpAll.map dk9 ev
          obtain ⟨qz, svz, rfl, hqz, hsz⟩ := knot_inv dkz
          have jl := (List.getElem?_eq_some_iff.mp ekz).1
          have stp := putK0_snoc (x := x0.name) (t := s') ekz
          refine ⟨qz, _, rfl, Same.tup sm hqz, rfl, _, _, rfl, _, _, rfl, rfl, rfl, ?_⟩
          refine yes_ite ?_
          have fin : ∀ (b : V) (t : Spec), (if kz.1 = x0.name then (kz.1, s') else kz) = (kz.1, t) → SpecAt K H' b t → 2 ≤ sizeLine ∧ ∀ u, H' u = none → ∃ acc, upd H' u (.tup [V.str kz.1, b]) D = some (.lst acc) ∧ acc.length < sizeLine ∧ ListD K (upd (upd H' u (.tup [V.str kz.1, b])) D (.lst (acc ++ [.ref u]))) D ((putK0 (ks.take (j + 1)) x0.name s').map knotD) ∧ Same G9 (upd (upd H' u (.tup [V.str kz.1, b])) D (.lst (acc ++ [.ref u]))) := fun b t eb hb => by
            refine ⟨by decide, fun u hu => ?_⟩
            have st := Same.new (o := .tup [V.str kz.1, b]) (Same.refl H') hu
            have ht1 : upd H' u (.tup [V.str kz.1, b]) u = some (.tup [V.str kz.1, b]) := upd_same
            generalize upd H' u (.tup [V.str kz.1, b]) = F5 at st ht1
            have kt : KT K F5 (upd F5 D (.lst (pvs ++ [V.ref u]))) := KT.lst (st _ _ hd)
            refine ⟨pvs, st _ _ hd, ?_, ⟨_, upd_same, ?_⟩, Same.past (sm.trans st) hD⟩
            · have l1 := DpAll.len dps
              rw [List.length_map, putK0_len, List.length_take] at l1
              exact Nat.lt_of_lt_of_le (show _ < 100 by omega) (by decide)
            · rw [stp, eb, List.map_append]
              have nl : noLists ((putK0 (ks.take j) x0.name s').map knotD ++ [(kz.1, t)].map knotD) = true := by
                rw [← List.map_append]
                exact noLists_map knot_noList _
              exact DpAll.kt kt nl (DpAll.snoc (.tup (.inl (.inl ht1)) (.cons (.str _) (.cons (Dp.kt (KT.same st) (spec_noList t) hb) .nil))) (DpAll.keep st dps))
          refine ⟨_, rfl, _, rfl, _, rfl, rfl, _, rfl, ite2 (fun z => ?_) (fun z => ?_)⟩
          · have z : kz.1 = x0.name := V.str.inj (of_decide_eq_true z)
            exact ⟨_, rfl, fin v' s' (if_pos z) (hs4'.kt (KT.same (t9.trans sm)))⟩
          · have z : kz.1 ≠ x0.name := fun q => z (decide_eq_true (by rw [q]))
            exact ⟨_, rfl, fin svz kz.2 (if_neg z) (Dp.kt (KT.same sm) (spec_noList kz.2) hsz)⟩
        obtain ⟨hdD, s10⟩ := e
        rw [kvl9, List.take_length] at hdD
        have t10 := t9.trans s10
        have u10 := u9.trans s10
        -- told
        refine ⟨_, rfl, l, _, _, _, rfl, rfl, SqL.of (u10 _ _ hl), atI_nat (j := 0) rfl, rfl, _, rfl, iteF_ (by decide +kernel) ?_⟩
        refine ⟨_, rfl, l, _, _, _, rfl, rfl, SqL.of (u10 _ _ hl), atI_nat (j := 1) rfl, _, rfl, _, rfl, q, D, cl0, _, _, cs, rfl, wq.keep u10, alP (k04.trans (Kept.same t10)) (hn.keep t10), hdD, hcD4.keep t10, web', few', fewc, fun G11 s11 => ⟨_, rfl, iteF_ rfl ?_⟩⟩
        have t11 := t10.trans s11
        have u11 := u10.trans s11
        -- put by the arguments' names
        refine ⟨_, rfl, x, dx, _, rfl, t11 _ _ hx4, rfl, _, rfl, _, rfl, rfl, x, n, nm, cs, x0, k2, s', rfl, wv4.keep t11, wok, xm, (inst k04).keep t11, hn.keep t11, sok, ok', ei, lk1, lk2, fun q2 G12 s12 fq2 wq2 => ?_⟩
        have t12 := t11.trans s12
        refine ⟨_, rfl, _, rfl, q2, D, cl0, _, _, cs, rfl, wq2, alP (k04.trans (Kept.same t12)) (hn.keep t12), hdD.keep (s11.trans s12), hcD4.keep t12, web', few', fewc, fun G13 s13 => ⟨_, rfl, iteF_ rfl ?_⟩⟩
        have t13 := t12.trans s13
        have u13 := u11.trans (s12.trans s13)
        have wq13 := wq.keep u13
        obtain ⟨dxq, _, _, _, _, hq13, _⟩ := id wq13
        -- put back
        refine ⟨_, rfl, l, _, _, _, rfl, rfl, SqL.of (u13 _ _ hl), atI_nat (j := 1) rfl, q, dxq, _, rfl, hq13, rfl, _, rfl, _, rfl, sv, k2, rfl, hs4.kt (KT.same t13), sok, fun n2 G14 fn2 s14 hn2 => ?_⟩
        have t14 := t13.trans s14
        have wok' : WvOk (putN nm x0.name n) cs := wok.congr (putN_map _ _ _)
        have xm' : (⟨x0.name, n, x0.inf⟩ : Nm) ∈ putN nm x0.name n := List.mem_map.mpr ⟨x0, xm, if_pos rfl⟩
        refine ⟨q, n2, _, cs, ⟨x0.name, n, x0.inf⟩, s', k2, rfl, wq13.keep s14, wok', xm', hn.keep t14, hn2, ok', sok, ei.trans inf, lk1.symm, lk2.symm, fun q3 G15 s15 fq3 wq3 => ?_⟩
        have t15 := t14.trans s15
        have hi2 : ∀ z ∈ putK0 ks x0.name s', z.1 = x0.name → infS z.2 = infS k2 := fun z hz e => by
          obtain ⟨z0, hz0, rfl⟩ := List.mem_map.mp hz
          by_cases q : z0.1 = x0.name
          · rw [if_pos q]
            exact inf.symm
          · rw [if_neg q] at e
            exact absurd e q
        have al3 := al_put (hn2.keep s15) (alP (k04.trans (Kept.same t15)) (hn.keep t15)) hi2
        have bk := putK0_back web.b.nd km s'
        dsimp only at bk
        rw [bk] at al3
        refine ⟨_, rfl, _, rfl, q3, kl, cl0, _, ks, cs, rfl, wq3, al3, hkD4.keep t15, hcD4.keep t15, web, few, fewc, fun G16 s16 => ⟨_, rfl, iteT_ rfl ?_⟩⟩
        have t16 := t15.trans s16
        have u16 := u13.trans (s14.trans (s15.trans s16))
        exact ⟨_, rfl, l, _, _, _, rfl, rfl, SqL.of (u16 _ _ hl), atI_nat (j := 1) rfl, _, rfl, _, rfl, q, D, cl0, _, _, cs, rfl, wq.keep u16, alP (k04.trans (Kept.same t16)) (hn.keep t16), hdD.keep (s11.trans (s12.trans (s13.trans (s14.trans (s15.trans s16))))), hcD4.keep t16, web', few', fewc, fun G17 s17 => kk G17 (k04.trans (Kept.same (t16.trans s17))) (hp4.keep (t16.trans s17))⟩
      · obtain ⟨dB, S, dpB, sh1, sh2, sh3, hS⟩ := brief_repr (K := K) (fun H => Dp.str x0.name) (brief_str nmo) false true false false
        refine ⟨_, rfl, _, rfl, _, rfl, .inr (.inl ⟨x, dx, _, .str x0.name, .ref n, .str x0.name, rfl, hx4, rfl, fun H1 Q1 E1 s r => ⟨x, n, nm, cs, x0, k2, s', rfl, wv4.keep s, wok.nms, xm, (inst k04).keep s, hn.keep s, sok, ok', lk, r⟩, fun l G5 s5 nl hl => ?_⟩)⟩
        refine ⟨_, rfl, rfl, _, rfl, iteF_ f3 ?_⟩
        refine ⟨_, rfl, v', s', rfl, hs4'.kt (KT.same s5), ok', fun tq1 G6 s6 ht1 => ?_⟩
        refine ⟨_, rfl, sv, k2, rfl, hs4.kt (KT.same (s5.trans s6)), sok, fun tq2 G7 s7 ht2 => ?_⟩
        have u7 := s6.trans s7
        refine ⟨tkD (tks s'), tkD (tks k2), .tup (Same.tup s7 ht1) (tk_dp _), .tup ht2 (tk_dp _), tk_shaped _, tk_shaped _, _, rfl, ?_⟩
        rw [tk_eqv]
        by_cases z : tks s' = tks k2
        · rw [decide_eq_true z]
          refine iteF_ rfl ?_
          refine ⟨_, rfl, v', s', rfl, hs4'.kt (KT.same (s5.trans u7)), ok', fun G8 s8 => ?_⟩
          have u8 := u7.trans s8
          refine ⟨_, rfl, sv, k2, rfl, hs4.kt (KT.same (s5.trans u8)), sok, fun G9 s9 => ⟨rfl, _, rfl, iteT_ ?_ ?_⟩⟩
          · rw [decide_eq_false (fun q => lk ⟨z, by injection q with q; omega⟩)]
            rfl
          have u9 := u8.trans s9
          refine ⟨_, rfl, l, dB, S, rfl, dpB _ _ (u9 _ _ hl), sh1, sh2, sh3, hS, ⟨_, rfl, (by show 5 ≤ sizeLine; decide), fun l5 h5 => ⟨l5, dB, S, rfl, dpB _ _ upd_same, sh1, sh2, sh3, hS, rfl, ?_⟩⟩⟩
          rw [decide_eq_true rfl]
          have s11 := Same.new (o := .lst [V.bl false, V.bl true, V.bl false, V.bl false, V.str x0.name]) (Same.refl _) h5
          exact kk _ (k04.trans (Kept.same (s5.trans (u9.trans s11)))) (hp4.keep (s5.trans (u9.trans s11)))
        · rw [decide_eq_false z]
          refine iteT_ rfl ?_
          refine ⟨_, rfl, l, dB, S, rfl, dpB _ _ (u7 _ _ hl), sh1, sh2, sh3, hS, ⟨_, rfl, (by show 5 ≤ sizeLine; decide), fun l5 h5 => ⟨l5, dB, S, rfl, dpB _ _ upd_same, sh1, sh2, sh3, hS, rfl, ?_⟩⟩⟩
          rw [decide_eq_true rfl]
          have s11 := Same.new (o := .lst [V.bl false, V.bl true, V.bl false, V.bl false, V.str x0.name]) (Same.refl _) h5
          exact kk _ (k04.trans (Kept.same (s5.trans (u7.trans s11)))) (hp4.keep (s5.trans (u7.trans s11)))
end
end Sw
namespace Sw
open PySem PySem.Spec PyProof.Rows L2
/-! ### delayed is right -/
theorem sl_tupAK {X : Cx} {K : PySem.W.Frag} (h : X.K = K) : SlR X (rSlA K) := by
  subst h
  exact sl_tupA
theorem op_catAK {X : Cx} {K : PySem.W.Frag} (h : X.K = K) : OpR X (binaryOp .Add) (rCatA K) := by
  subst h
  exact op_catA
/-- none of the whole numbers that are delays, but small ones -/
def OddH (D : Addr) (H : Hp) (v : V) : Prop := v = .non ∨ (∃ b, v = .bl b) ∨ v = .str "1" ∨ (∃ a, a ≠ D ∧ v = .ref a ∧ H a = some (.lst [.int 1])) ∨ ∃ a, a ≠ D ∧ v = .ref a ∧ H a = some (.tup [])
def HoldV (D : Addr) (H : Hp) (v : V) : Prop := (∃ i : Int, v = .int i ∧ i.natAbs.log2 < 1920) ∨ OddH D H v
theorem HoldV.mono {D : Addr} {H H1 : Hp} {v : V} (h : HoldV D H v) (k : ∀ a, a ≠ D → H a = some (.lst [.int 1]) ∨ H a = some (.tup []) → H1 a = H a) : HoldV D H1 v := by
  rcases h with h | h | h | h | ⟨a, n, e, h⟩ | ⟨a, n, e, h⟩
  · exact .inl h
  · exact .inr (.inl h)
  · exact .inr (.inr (.inl h))
  · exact .inr (.inr (.inr (.inl h)))
  · exact .inr (.inr (.inr (.inr (.inl ⟨a, n, e, (k a n (.inl h)).trans h⟩))))
  · exact .inr (.inr (.inr (.inr (.inr ⟨a, n, e, (k a n (.inr h)).trans h⟩))))
theorem HoldV.keep {D : Addr} {H H1 : Hp} {v : V} (h : HoldV D H v) (s : Same H H1) : HoldV D H1 v := h.mono fun a _ e => by
  rcases e with e | e <;> rw [s _ _ e, e]
theorem HoldV.kept {D p : Addr} {H H1 : Hp} {v : V} (h : HoldV D H v) (k : Kept p H H1) (hp : PotAt H p) : HoldV D H1 v := h.mono fun a _ e => by
  obtain ⟨_, _, _, _, _, g⟩ := hp
  rcases e with e | e
  · rw [k.at g e (fun z => by injection z with z; exact absurd (congrArg List.length z) (by simp)), e]
  · rw [k.at g e (fun z => by cases z), e]
theorem HoldV.upd {D : Addr} {H : Hp} {v : V} {o : HO} (h : HoldV D H v) : HoldV D (L2.upd H D o) v := h.mono fun a n _ => upd_ne n
def isI : V → Bool
  | .int _ => true
  | _ => false
def badV : V → Bool
  | .int i => !decide (0 ≤ i ∧ i ≤ 9999)
  | _ => true
/-- the numbers, up to n, of what is no delay -/
def badL (hs : List V) (n : Nat) : List Nat := (List.range n).filter fun k => badV (hs.getD k .non)
theorem badL_snoc {hs : List V} {j : Nat} {v : V} (e : hs[j]? = some v) : badL hs (j + 1) = badL hs j ++ (if badV v = true then [j] else []) := by
  unfold badL
  rw [List.range_succ, List.filter_append]
  have : hs.getD j .non = v := by rw [List.getD_eq_getElem?_getD, e]; rfl
  by_cases z : badV v = true
  · rw [if_pos z, List.filter_cons_of_pos (by rw [this]; exact z), List.filter_nil]
  · rw [if_neg z, List.filter_cons_of_neg (by rw [this]; exact z), List.filter_nil]
theorem badL_len (hs : List V) (n : Nat) : (badL hs n).length ≤ n := by
  unfold badL
  refine Nat.le_trans (List.length_filter_le _ _) ?_
  rw [List.length_range]
  exact Nat.le_refl _
theorem badL_nil {hs : List V} (h : badL hs hs.length = []) : ∀ v ∈ hs, badV v = false := fun v hv => by
  obtain ⟨j, ej⟩ := List.getElem?_of_mem hv
  have jl := (List.getElem?_eq_some_iff.mp ej).1
  unfold badL at h
  have := List.filter_eq_nil_iff.mp h j (List.mem_range.mpr jl)
  rw [List.getD_eq_getElem?_getD, ej] at this
  exact Bool.eq_false_iff.mpr this
theorem badL_first {hs : List V} {b : Nat} {r : List Nat} (h : badL hs hs.length = b :: r) : (∃ v, hs[b]? = some v ∧ badV v = true) ∧ ∀ j v, j < b → hs[j]? = some v → badV v = false := by
  unfold badL at h
  obtain ⟨l1, l2, e, n1, pb, _⟩ := List.filter_eq_cons_iff.mp h
  have bl : l1.length = b := by
    have : (List.range hs.length)[l1.length]? = some b := by rw [e]; simp
    obtain ⟨h1, h2⟩ := List.getElem?_eq_some_iff.mp this
    rw [List.getElem_range] at h2
    exact h2
  have bh : b < hs.length := by
    have := congrArg List.length e
    rw [List.length_range, List.length_append, List.length_cons] at this
    omega
  refine ⟨⟨hs[b], List.getElem?_eq_getElem bh, ?_⟩, fun j v jb ev => ?_⟩
  · rw [List.getD_eq_getElem?_getD, List.getElem?_eq_getElem bh] at pb
    exact pb
  · have jm : j ∈ l1 := by
      have : (List.range hs.length)[j]? = some j := by
        rw [List.getElem?_range (by omega)]
      rw [e, List.getElem?_append_left (by omega)] at this
      exact List.mem_of_getElem? this
    have := n1 j jm
    rw [List.getD_eq_getElem?_getD, ev] at this
    exact Bool.eq_false_iff.mpr this
/-- all are delays -/
theorem all_good {hs : List V} (h : ∀ v ∈ hs, badV v = false) : ∃ ds : List Nat, hs = ds.map natV ∧ ∀ d ∈ ds, d ≤ 9999 := by
  induction hs with
  | nil => exact ⟨[], rfl, fun _ h => (List.not_mem_nil h).elim⟩
  | cons v r ih =>
    obtain ⟨ds, e, g⟩ := ih fun v hv => h v (List.mem_cons_of_mem _ hv)
    have hv := h v List.mem_cons_self
    cases v with
    | int i =>
      have hv : (!decide (0 ≤ i ∧ i ≤ 9999)) = false := hv
      have hi : 0 ≤ i ∧ i ≤ 9999 := by
        by_cases z : 0 ≤ i ∧ i ≤ 9999
        · exact z
        · rw [decide_eq_false z] at hv
          cases hv
      refine ⟨i.toNat :: ds, ?_, fun d hd => ?_⟩
      · rw [List.map_cons, e]
        show V.int i :: _ = V.int (i.toNat : Int) :: _
        rw [Int.toNat_of_nonneg hi.1]
      · rcases List.mem_cons.mp hd with rfl | hd
        · omega
        · exact g d hd
    | _ => cases hv
/-- the delay, or nought -/
def toD : V → Nat
  | .int i => if 0 ≤ i ∧ i ≤ 9999 then i.toNat else 0
  | _ => 0
theorem toD_le {hs : List V} : ∀ d ∈ hs.map toD, d ≤ 9999 := fun d hd => by
  obtain ⟨v, _, rfl⟩ := List.mem_map.mp hd
  cases v with
  | int i =>
    show (if 0 ≤ i ∧ i ≤ 9999 then i.toNat else 0) ≤ 9999
    split <;> omega
  | _ => exact Nat.zero_le _
theorem toD_good {v : V} (h : badV v = false) : V.int (toD v : Int) = v := by
  obtain ⟨ds, e, g⟩ := all_good (hs := [v]) fun z hz => by
    rw [List.mem_singleton.mp hz]
    exact h
  cases ds with
  | nil => cases e
  | cons d r =>
    injection e with e _
    subst e
    have := g d List.mem_cons_self
    show V.int ((if 0 ≤ (d : Int) ∧ (d : Int) ≤ 9999 then (d : Int).toNat else 0 : Nat) : Int) = V.int (d : Int)
    rw [if_pos ⟨by omega, by omega⟩, Int.toNat_natCast]
theorem DelaysB.keep {K : PySem.W.Frag} {H H1 : Hp} {hs : List V} {ds : List Nat} {bi : Nat} (h : DelaysB K H hs ds bi) (s : Same H H1) : DelaysB K H1 hs ds bi := by
  obtain ⟨h1, h2, h3, h4, v, h5, h6⟩ := h
  exact ⟨h1, h2, h3, h4, v, h5, fun H' s' => h6 H' (s.trans s')⟩
theorem HoldV.badD {K : PySem.W.Frag} {D : Addr} {H : Hp} {v : V} (h : HoldV D H v) (b : badV v = true) : BadD K H v := by
  rcases h with ⟨i, rfl, _⟩ | rfl | ⟨bb, rfl⟩ | rfl | ⟨a, _, rfl, h⟩ | ⟨a, _, rfl, h⟩
  · refine .inl ⟨i, rfl, fun z => ?_⟩
    have b : (!decide (0 ≤ i ∧ i ≤ 9999)) = true := b
    rw [decide_eq_true z] at b
    cases b
  · exact .inr (.inr ⟨"NoneType", TyX.base TyOf.non, by decide +kernel⟩)
  · exact .inr (.inl ⟨bb, rfl⟩)
  · exact .inr (.inr ⟨"str", TyX.base (TyOf.str _), by decide +kernel⟩)
  · exact .inr (.inr ⟨"list", TyX.base (TyOf.lst h), by decide +kernel⟩)
  · exact .inr (.inr ⟨"tuple", TyX.base (TyOf.tup h), by decide +kernel⟩)
/-- data that are not long -/
def Brief2 (d : PyData) : Prop := PyData.canLay0 d = true ∧ d.depth ≤ 3 ∧ d.showable = true ∧ d.shown.length ≤ 2000
theorem HoldV.data {K : PySem.W.Frag} {D : Addr} {H : Hp} {v : V} (h : HoldV D H v) : ∃ d, Dp K H v d ∧ Brief2 d := by
  rcases h with ⟨i, rfl, l⟩ | rfl | ⟨b, rfl⟩ | rfl | ⟨a, _, rfl, h⟩ | ⟨a, _, rfl, h⟩
  · exact ⟨_, .int i, by rw [PyData.canLay0], by rw [PyData.depth]; decide, by rw [PyData.showable]; exact decide_eq_true l, Nat.le_trans (shown_num l) (by decide)⟩
  · exact ⟨_, .non, by rw [PyData.canLay0], by rw [PyData.depth]; decide, by rw [PyData.showable], by rw [PyData.shown]; decide⟩
  · exact ⟨_, .bl b, by rw [PyData.canLay0], by rw [PyData.depth]; decide, by rw [PyData.showable], by rw [PyData.shown]; cases b <;> decide +kernel⟩
  · refine ⟨_, .str "1", by rw [PyData.canLay0]; decide +kernel, by rw [PyData.depth]; decide, by rw [PyData.showable], ?_⟩
    rw [PyData.shown]
    decide +kernel
  · refine ⟨_, .lst (SqL.of h) (.cons (.int 1) .nil), ?_, ?_, ?_, ?_⟩
    · rw [PyData.canLay0, PyData.canLayAll0, PyData.canLayAll0, PyData.canLay0]; rfl
    · rw [PyData.depth, PyData.depthAll, PyData.depthAll, PyData.depth]; decide
    · rw [PyData.showable, PyData.showableAll, PyData.showableAll, PyData.showable]; decide +kernel
    · refine Nat.le_trans (shown_list (B := 1921) fun d hd => ?_) (by show (1921 + 2) * 1 + 3 ≤ 2000; decide)
      rw [List.mem_singleton.mp hd]
      exact shown_num (by decide +kernel)
  · refine ⟨_, .tup (.inl (.inl h)) .nil, ?_, ?_, ?_, ?_⟩
    · rw [PyData.canLay0, PyData.canLayAll0]
    · rw [PyData.depth, PyData.depthAll]; decide
    · rw [PyData.showable, PyData.showableAll]
    · refine Nat.le_trans (shown_tuple (B := 1) fun d hd => ?_) (by show (1 + 2) * 0 + 3 ≤ 2000; decide)
      cases hd
theorem holds_data {K : PySem.W.Frag} {D : Addr} {H : Hp} : ∀ {hs : List V}, (∀ v ∈ hs, HoldV D H v) → ∃ pd, DpAll K H hs pd ∧ (∀ d ∈ pd, Brief2 d) ∧ PyData.canLayAll0 pd = true ∧ PyData.depthAll pd ≤ 3 ∧ PyData.showableAll pd = true
  | [], _ => ⟨[], .nil, fun _ h => (List.not_mem_nil h).elim, by rw [PyData.canLayAll0], by rw [PyData.depthAll]; decide, by rw [PyData.showableAll]⟩
  | v :: r, h => by
    obtain ⟨d, dp, b⟩ := (h v List.mem_cons_self).data (K := K)
    obtain ⟨pd, dps, bs, l, dd, s⟩ := holds_data (K := K) fun v hv => h v (List.mem_cons_of_mem _ hv)
    refine ⟨d :: pd, .cons dp dps, fun x hx => ?_, ?_, ?_, ?_⟩
    · rcases List.mem_cons.mp hx with rfl | hx
      · exact b
      · exact bs x hx
    · rw [PyData.canLayAll0, b.1, l]; rfl
    · rw [PyData.depthAll]
      have := b.2.1
      omega
    · rw [PyData.showableAll, b.2.2.1, s]; rfl
theorem nats_shaped (ts : List Nat) : SeqAt.shaped (.list (ts.map natD)) = true := by
  obtain ⟨a1, a2⟩ := tk_lay ts
  unfold SeqAt.shaped
  rw [PyData.canLay0, a1, PyData.depth, a2]
  rfl
theorem nats_eqv (a b : List Nat) : PyData.eqv (.list (a.map natD)) (.list (b.map natD)) = decide (a = b) := by
  rw [PyData.eqv]
  exact tk_eqvA a b
theorem brief_nat {n : Nat} (h : n ≤ 9999) : Brief (natD n) := ⟨by unfold natD; rw [PyData.canLay0], by unfold natD; rw [PyData.depth]; decide, by
  unfold natD
  rw [PyData.showable]
  refine decide_eq_true ?_
  rw [Int.natAbs_natCast]
  refine Nat.lt_of_le_of_lt (show n.log2 ≤ 13 from ?_) (by decide)
  by_cases z : n = 0
  · rw [z]
    decide
  · exact Nat.le_of_lt_succ ((Nat.log2_lt z).mpr (by omega)), Nat.le_trans (nat_shown h) (by decide)⟩
theorem delW_snoc {cs : List Wr} {ds : List Nat} {j : Nat} {c : Wr} {d : Nat} (e : cs[j]? = some c) (e' : ds[j]? = some d) : (delW cs ds).take (j + 1) = (delW cs ds).take j ++ [⟨c.src, c.goal, c.place, d⟩] := by
  rw [List.take_succ, delW_get e e']
  rfl
theorem delW_back (cs : List Wr) {ds : List Nat} (h : ds.length = cs.length) : delW (delW cs ds) (cs.map Wr.delay) = cs := by
  apply List.ext_getElem?
  intro j
  by_cases jl : j < cs.length
  · have e1 : cs[j]? = some cs[j] := List.getElem?_eq_getElem jl
    have e2 : ds[j]? = some (ds[j]'(by omega)) := List.getElem?_eq_getElem (by omega)
    rw [delW_get (delW_get e1 e2) (d := cs[j].delay) (by rw [List.getElem?_map, e1]; rfl), e1]
  · rw [List.getElem?_eq_none (by rw [delW_len (by rw [List.length_map, delW_len h]), delW_len h]; omega), List.getElem?_eq_none (by omega)]
def spDelRight (K : PySem.W.Frag) {CN CO CI : Addr} {cl : Srt → Addr} (dd : Addr) (c : ClsS K cl CN CO CI) (CW : Addr) : Sp := fun vs H Q _ => ∃ (p x kl cl0 : Addr) (nm : List Nm) (ks : List Knot) (cs : List Wr), vs = [.ref p, .ref x, .ref kl, .ref cl0] ∧ PotAt H p ∧ cl0 ≠ p ∧ (∀ G, Kept p H G → WvAt K (sorts cl dd c) CW G x nm cs ∧ Al (NmK K cl dd G) nm ks ∧ ListD K G kl (ks.map knotD) ∧ ListD K G cl0 (cs.map cordD)) ∧ Web ks cs ∧ ks.length ≤ 24 ∧ cs.length ≤ 48 ∧ ∀ H', Kept p H H' → PotAt H' p → Q (.bl true) H'
def spToldD (K : PySem.W.Frag) {CN CO CI : Addr} (S : Sorts K CN CO CI) (CW C2 : Addr) : Sp := fun vs H Q E => spToldR CW C2 (spDelayedND K S CW C2) false false false true "wire" vs H Q E ∨ ∃ R : Addr → Hp → Prop, spToldG CW (spDelayed K S CW) false R vs H Q E
section
variable {P : Program} {w : World} {K : PySem.W.Frag} {mg : Str → Option Value} {base : Heap} {f f1 f2 f3 f4 f5 f6 f7 f8 f9 f10 C CN CO CI CW CU C2 dd : Addr} {cl : Srt → Addr} {fd fd10 fd1 fd2 fd3 fd4 fd5 fd6 fd7 fd8 fd9 : FuncData}
abbrev nLDelayedRight : List Str := ["_law_pot_here", "_law_web", "_law_knots", "_law_cords", "_law_holds", "_law_turn", "_law_whole", "_law_bad", "_law_handed", "_law_told_here", "_law_due", "_law_again", "_law_row", "_law_one", "_law_k"]
theorem scLDelayedRight : FnScope nLDelayedRight ["_law_pot_here", "_law_web", "_law_knots", "_law_cords"] (defScope sLDelayedRight) := ⟨rfl, rfl, rfl, by decide +kernel, rfl, by decide +kernel, by decide +kernel⟩
theorem ok_delRight {gK : List Value → List Value → List Value} (c : ClsS K cl CN CO CI) (F : FnP K "_law_delayed_right" sLDelayedRight f fd) (c0 : Cls K CW)
    (GPi : FnOk P w K mg base CX0 2 f1 fd1 ["_law_pot_here", "_law_some"] (spPick K)) (gPi : mg "_law_pick" = some (.ref f1)) (kPi : PySem.W.keepIn K (.ref f1) = true) (bPi : Binds K fd1 ["_law_pot_here", "_law_some"] [])
    (GT : FnOk P w K mg base CX0 1 f2 fd2 ["_law_pot_here", "_law_many"] spTake) (gT : mg "_law_take" = some (.ref f2)) (kT : PySem.W.keepIn K (.ref f2) = true) (bT : Binds K fd2 ["_law_pot_here", "_law_many"] [])
    (GTo : FnOk P w K mg base CX0 8 f6 fd6 ["_law_web", "_law_way", "_law_tag", "_law_thing"] (spToldD K (sorts cl dd c) CW C2)) (gTo : mg "_law_told" = some (.ref f6)) (kTo : PySem.W.keepIn K (.ref f6) = true) (bTo : Binds K fd6 ["_law_web", "_law_way", "_law_tag", "_law_thing"] [])
    (GI : FnG P w K mg base CX0 7 f9 fd9 ["_law_web", "_law_knots", "_law_cords"] (spIs K dd c CW)) (gI : mg "_law_is" = some (.ref f9)) (kI : PySem.W.keepIn K (.ref f9) = true) (bI : Binds K fd9 ["_law_web", "_law_knots", "_law_cords"] [])
    (mD : Meth K CW "delayed" f10) (GD : FnOk P w K mg base CX0 7 f10 fd10 ["self", "delays"] (spDelayed K (sorts cl dd c) CW)) (bD : Binds K fd10 ["self", "delays"] []) (kD : KBn K fd10 ["self", "delays"] 1 ["delays"] gK (fun vs zs => vs ++ zs))
    (gRepr : mg "repr" = none) (gLen : mg "len" = none) (gRange : mg "range" = none) (gIs : mg "isinstance" = none) (gInt : mg "int" = none) (gBool : mg "bool" = none) (gEnum : mg "enumerate" = none) (gList : mg "list" = none) (gZip : mg "zip" = none) : FnG P w K mg base CX0 9 f fd ["_law_pot_here", "_law_web", "_law_knots", "_law_cords"] (spDelRight K dd c CW) := by
  refine F.okG scLDelayedRight (fun vs H Q E h => ?_) (fun cdv A ou s H vs Q E hr guard h => ?_)
  · obtain ⟨p, x, kl, cl0, nm, ks, cs, rfl, _⟩ := h
    rfl
  · obtain ⟨p, x, kl, cl0, nm, ks, cs, rfl, hp, ncp, here, web, few, fewc, kk⟩ := h
    have nd := scLDelayedRight.nd
    have hr8 : Room 8 _ := hr
    have hr7 : Room 7 _ := hr.mono (by decide)
    have hr2 : Room 2 _ := hr.mono (by decide)
    have hr1 : Room 1 _ := hr.mono (by decide)
    have hu6 := hr.units
    have un := hr.un
    have R : ∀ {X : Cx}, X.A = A.deeper (envOfC "_law_delayed_right" (defScope sLDelayedRight) s.heap.objs.size f cdv) → CallR X (.builtin "repr") (rReprD X.K) := fun {X} e => call_reprD (by rw [e]; exact guard) (by rw [e]; omega)
    refine ⟨_, PSs.nox (pss_cons (ps_setLc (i := 4) (own := [("_law_row", 12)]) (g := (gName 12)) (tt := tYes) rfl nd rfl rfl (sw_true rfl rfl rfl rfl) (pi_list (pv 3)) (blkOk_by (N := nLDelayedRight) (sc := defScope sLDelayedRight) (by decide +kernel))
        (fun _ _ _ _ _ => (pg_name (i := 12) nd rfl (Or.inl rfl))) (fun _ _ _ _ _ => pts_nil) (fun _ _ _ _ _ => (pe_ix (ix_listK (K := K) rfl) (pe_lst (pa_cons pe_int (pa_cons pe_int (pa_cons (pe_ix (ix_tupK (K := K) rfl) (pv 12) pe_int (fun _ _ => rfl)) (pa_cons (pe_call GT hr1 rfl gT kT bT .nil pass0 (pa_cons (pv 0) (pa_cons pe_int pa_nil))) pa_nil))))) (pe_call GT hr1 rfl gT kT bT .nil pass0 (pa_cons (pv 0) (pa_cons pe_int pa_nil))) (fun _ _ => rfl))))
      (C8.pss_cut (ps_if (PW.pt (pw_and (pt_cmpR (op_neD hu6) (pv 4) (pe_lst pa_nil) (nomark _)) (pw_and1 (pt_cmpR op_eq (pe_call GT hr1 rfl gT kT bT .nil pass0 (pa_cons (pv 0) (pa_cons pe_int pa_nil))) pe_int (nomark _))))) (pss_one (ps_for PassesOwn.never rfl (pi_range1 rfl gRange (pa_cons (pe_op op_add pe_int (pe_call GT hr1 rfl gT kT bT .nil pass0 (pa_cons (pv 0) (pa_cons pe_int pa_nil)))) pa_nil)) (pg_name (i := 5) nd rfl (Or.inl rfl))
      (pss_one (ps_asg (pe_call GPi hr2 rfl gPi kPi bPi .nil pass0 (pa_cons (pv 0) (pa_cons (pe_lst (pa_cons (pe_un un_neg pe_int) (pa_cons pe_int (pa_cons (pe_op op_pow pe_int pe_int) (pa_cons pe_non (pa_cons pe_bl (pa_cons pe_bl (pa_cons pe_str (pa_cons (pe_lst (pa_cons pe_int pa_nil)) (pa_cons (pe_tup pa_nil) pa_nil)))))))))) pa_nil))) (pg_sub (pv 4) (pe_call GT hr1 rfl gT kT bT .nil pass0 (pa_cons (pv 0) (pa_cons (pe_callB call_len_seq (by rfl) gLen PySem.boot_len (pa_cons (pv 4) pa_nil)) pa_nil))) set_list (by intro _; rfl)))))) pss_nil)
      (pss_cons (ps_set (i := 6) nd rfl (Or.inr rfl) (pe_lc (own := [("_law_one", 13)]) (g := (gName 13)) (tt := tYes) rfl nd (pi_list (pv 4)) (blkOk_by (N := nLDelayedRight) (sc := defScope sLDelayedRight) (by decide +kernel))
        (fun _ _ _ _ _ => (pg_name (i := 13) nd rfl (Or.inl rfl))) (fun _ _ _ _ _ => pts_nil) (fun _ _ _ _ _ => (pe_and (pe_callB (call_isiG (K := K) rfl) (by rfl) gIs boot_isinstance (pa_cons (pv 13) (pa_cons (pe_bltn (v := .ty "int") rfl gInt PyProof.Rows.boot_int rfl) pa_nil))) (pe_one (pe_not (pe_callB (call_isiG (K := K) rfl) (by rfl) gIs boot_isinstance (pa_cons (pv 13) (pa_cons (pe_bltn (v := .ty "bool") rfl gBool PyProof.Rows.boot_bool rfl) pa_nil)))))))))
      (pss_cons (ps_setLc (i := 7) (own := [("_law_k", 14), ("_law_one", 13)]) (g := (gTup K 2 (gCons (gName 14) (gCons (gName 13) gNil)))) (tt := _) rfl nd rfl rfl (sw_true rfl rfl rfl rfl) (pi_enum rfl gEnum (pa_cons (pv 4) pa_nil)) (blkOk_by (N := nLDelayedRight) (sc := defScope sLDelayedRight) (by decide +kernel))
        (fun _ _ _ _ _ => (pg_tup rfl (pgs_cons (pg_name (i := 14) nd rfl (Or.inl rfl)) (pgs_cons (pg_name (i := 13) nd rfl (Or.inl rfl)) pgs_nil)))) (fun _ _ _ _ _ => (pts_one (PW.pt (pw_or (pt_not (pt_val (pe_ix (ix_listK (K := K) rfl) (pv 6) (pv 14) (fun _ _ => rfl)))) (pw_or1 (pt_not (pt_chain op_le op_le pe_int (pv 13) pe_int))))))) (fun _ _ _ _ _ => (pv 14)))
      (pss_cons (ps_set (i := 8) nd rfl (Or.inl rfl) (pe_callTy call_list_of (by rfl) gList PyProof.Rows.boot_list (pa_cons (pv 4) pa_nil)))
      (pss_cons (ps_set (i := 9) nd rfl (Or.inl rfl) (pe_call GTo hr8 rfl gTo kTo bTo .nil pass0 (pa_cons (pv 1) (pa_cons pe_int (pa_cons pe_str (pa_cons (pv 8) pa_nil))))))
      (pss_cons (ps_if (pt_cmpR op_ne (pe_callB (R rfl) (by rfl) gRepr boot_repr (pa_cons (pv 8) pa_nil)) (pe_callB (R rfl) (by rfl) gRepr boot_repr (pa_cons (pv 4) pa_nil)) (nomark _)) pss_never pss_nil)
      (pss_cons (ps_if (pt_cmpR (op_neD hu6) (pv 7) (pe_lst pa_nil) (nomark _)) (pss_one (ps_ret (pe_cmpR op_eq (pe_callB (R rfl) (by rfl) gRepr boot_repr (pa_cons (pv 9) pa_nil)) (pe_callB (R rfl) (by rfl) gRepr boot_repr (pa_cons (pe_lst (pa_cons pe_bl (pa_cons pe_bl (pa_cons pe_bl (pa_cons pe_bl (pa_cons (pe_ix ix_list (pv 7) pe_int (fun _ _ => rfl)) pa_nil)))))) pa_nil)) (nomark _)))) pss_nil)
      (pss_cons (ps_expr (pe_bm0 PySem.F.plainAttrs_list PySem.F.slot_list_clear PySem.F.type_list_clear mt_clear (pv 8)))
      (pss_cons (ps_setLc (i := 10) (own := [("_law_row", 12), ("_law_one", 13)]) (g := (gTup K 2 (gCons (gName 12) (gCons (gName 13) gNil)))) (tt := tYes) rfl nd rfl rfl (sw_true rfl rfl rfl rfl) (pi_zip (by rfl) gZip (pa_cons (pv 3) (pa_cons (pv 4) pa_nil))) (blkOk_by (N := nLDelayedRight) (sc := defScope sLDelayedRight) (by decide +kernel))
        (fun _ _ _ _ _ => (pg_tup rfl (pgs_cons (pg_name (i := 12) nd rfl (Or.inl rfl)) (pgs_cons (pg_name (i := 13) nd rfl (Or.inl rfl)) pgs_nil)))) (fun _ _ _ _ _ => pts_nil) (fun _ _ _ _ _ => (pe_op (op_catAK (K := K) rfl) (pe_slice (sl_tupAK (K := K) rfl) (pv 12) po_none (po_some pe_int)) (pe_tup (pa_cons (pv 13) pa_nil)))))
      (pss_cons (ps_if (PW.pt (pw_or (pt_cmpR op_ne (pe_ix ix_list (pv 9) pe_int (fun _ _ => rfl)) pe_str (nomark _)) (pw_or1 (pt_not (pt_val (pe_callG GI hr7 guard rfl gI kI bI .nil pass0 (pa_cons (pe_ix ix_list (pv 9) pe_int (fun _ _ => rfl)) (pa_cons (pv 2) (pa_cons (pv 10) pa_nil))))))))) pss_never pss_nil)
      (pss_cons (ps_set (i := 11) nd rfl (Or.inl rfl) (pe_methK0 (pe_ix ix_list (pv 9) pe_int (fun _ _ => rfl)) c0 mD GD hr7 kD pass0 (pk_cons (pe_lc (own := [("_law_row", 12)]) (g := (gName 12)) (tt := tYes) rfl nd (pi_list (pv 3)) (blkOk_by (N := nLDelayedRight) (sc := defScope sLDelayedRight) (by decide +kernel))
        (fun _ _ _ _ _ => (pg_name (i := 12) nd rfl (Or.inl rfl))) (fun _ _ _ _ _ => pts_nil) (fun _ _ _ _ _ => (pe_ix (ix_tupK (K := K) rfl) (pv 12) pe_int (fun _ _ => rfl)))) pk_nil)))
      (pss_one (ps_ret (pe_and (pe_callG GI hr7 guard rfl gI kI bI .nil pass0 (pa_cons (pv 11) (pa_cons (pv 2) (pa_cons (pv 3) pa_nil)))) (pe_one (pe_callG GI hr7 guard rfl gI kI bI .nil pass0 (pa_cons (pe_ix ix_list (pv 9) pe_int (fun _ _ => rfl)) (pa_cons (pv 2) (pa_cons (pv 10) pa_nil)))))))))))))))))))), ?_⟩
    obtain ⟨wv0, al0, hkD0, hcD0⟩ := here H Kept.refl
    obtain ⟨cv, hc, dc⟩ := id hcD0
    have cvl : cv.length = cs.length := by rw [DpAll.len dc, List.length_map]
    have cok := web.cordsOk fewc
    have wok := web.ok few fewc (nmK_map al0)
    -- the delays
    refine ⟨_, rfl, cl0, rfl, ⟨_, SqL.of hc⟩, fun D hD => ?_⟩
    have nD : D ≠ p := hp.ne hD
    refine lc_list (xs := cv) (fun j H' => ∃ ds : List Nat, ds.length = j ∧ (∀ d ∈ ds, d ≤ 9999) ∧ H' D = some (.lst (ds.map natV)) ∧ Kept p H H' ∧ PotAt H' p) ⟨[], rfl, fun _ h => (List.not_mem_nil h).elim, upd_same, Kept.new Kept.refl hD, hp.upd nD⟩ (fun j H' _ e => by obtain ⟨_, _, _, _, k, _⟩ := e; exact SqL.of (k _ _ ncp hc)) (fun j v H' ev e => ?_) (fun H1 e => ?_)
    · obtain ⟨ds, dl0, dok, hd, kH, hpH⟩ := e
      obtain ⟨cd, eci, dci⟩ := DpAll.map dc ev
      obtain ⟨q1, rfl, hq1⟩ := cord_inv dci
      have jl := (List.getElem?_eq_some_iff.mp eci).1
      have cdd := (cok.num cd (List.mem_of_getElem? eci)).2
      refine ⟨rfl, yes_ite ?_⟩
      refine ⟨_, rfl, q1, _, _, _, rfl, rfl, kH.tup hp hq1, atI_nat (j := 3) rfl, ?_⟩
      refine ⟨_, rfl, p, _, rfl, hpH, by decide, by decide, fun e1 G1 e10 e11 k1 hp1 => ?_⟩
      refine ⟨(by show 4 ≤ sizeLine; decide), fun la hla => ?_⟩
      obtain ⟨m, rfl⟩ : ∃ m : Nat, e1 = (m : Int) := ⟨e1.toNat, by omega⟩
      have s2 := Same.new (o := .lst [V.int 0, V.int 9999, V.int (cd.delay : Int), V.int (m : Int)]) (Same.refl G1) hla
      have hl2 : upd G1 la (.lst [V.int 0, V.int 9999, V.int (cd.delay : Int), V.int (m : Int)]) la = some (.lst [V.int 0, V.int 9999, V.int (cd.delay : Int), V.int (m : Int)]) := upd_same
      have nla : la ≠ p := hp1.ne hla
      generalize upd G1 la (.lst [V.int 0, V.int 9999, V.int (cd.delay : Int), V.int (m : Int)]) = G2 at s2 hl2
      refine ⟨_, rfl, p, _, rfl, hp1.keep s2, by decide, by decide, fun g G3 g0 g1 k3 hp3 => ?_⟩
      have hl3 := k3 _ _ nla hl2
      have hd3 := k3 _ _ nD (s2 _ _ (k1 _ _ nD hd))
      have kA : Kept p H G3 := ((kH.trans k1).trans (Kept.same s2)).trans k3
      have fin : ∀ d : Nat, d ≤ 9999 → ∃ acc, G3 D = some (.lst acc) ∧ acc.length < sizeLine ∧ ∃ ds : List Nat, ds.length = j + 1 ∧ (∀ d ∈ ds, d ≤ 9999) ∧ upd G3 D (.lst (acc ++ [natV d])) D = some (.lst (ds.map natV)) ∧ Kept p H (upd G3 D (.lst (acc ++ [natV d]))) ∧ PotAt (upd G3 D (.lst (acc ++ [natV d]))) p := fun d hd9 => by
        refine ⟨_, hd3, ?_, ds ++ [d], ?_, fun z hz => ?_, ?_, kA.past hD, hp3.upd nD⟩
        · rw [List.length_map, dl0]
          exact Nat.lt_of_lt_of_le (show j < 100 by omega) (by decide)
        · rw [List.length_append, dl0]
          rfl
        · rcases List.mem_append.mp hz with hz | hz
          · exact dok z hz
          · rw [List.mem_singleton.mp hz]
            exact hd9
        · rw [List.map_append]
          exact upd_same
      have g4 : g = 0 ∨ g = 1 ∨ g = 2 ∨ g = 3 := by omega
      rcases g4 with rfl | rfl | rfl | rfl
      · exact ⟨la, _, _, _, rfl, rfl, SqL.of hl3, atI_nat (j := 0) rfl, fin 0 (by decide)⟩
      · exact ⟨la, _, _, _, rfl, rfl, SqL.of hl3, atI_nat (j := 1) rfl, fin 9999 (by decide)⟩
      · exact ⟨la, _, _, _, rfl, rfl, SqL.of hl3, atI_nat (j := 2) rfl, fin cd.delay cdd⟩
      · exact ⟨la, _, _, _, rfl, rfl, SqL.of hl3, atI_nat (j := 3) rfl, fin m (by omega)⟩
    obtain ⟨ds0, dl0, dok0, hD1, k1, hp1⟩ := e
    rw [cvl] at dl0
    -- some of them are none
    refine ⟨fun σ' G => ∃ (w5 : Option V) (hs : List V), σ' = [some (.ref p), some (.ref x), some (.ref kl), some (.ref cl0), some (.ref D), w5, none, none, none, none, none, none, none, none, none] ∧ G D = some (.lst hs) ∧ hs.length = cs.length ∧ (∀ v ∈ hs, HoldV D G v) ∧ Kept p H G ∧ PotAt G p, ?_, ?_⟩
    · have small : ∀ {G : Hp}, ∀ v ∈ ds0.map natV, HoldV D G v := fun {G} v hv => by
        obtain ⟨d, hd, rfl⟩ := List.mem_map.mp hv
        have := dok0 d hd
        refine .inl ⟨(d : Int), rfl, ?_⟩
        exact log2_of (b := 20) (by omega) (by decide) (by decide)
      refine ⟨_, rfl, (by show 0 ≤ sizeLine; decide), fun lz hlz => ?_⟩
      have s2 := Same.new (o := .lst []) (Same.refl H1) hlz
      have hz2 : upd H1 lz (.lst []) lz = some (.lst []) := upd_same
      generalize upd H1 lz (.lst []) = H2 at s2 hz2
      have hD2 := s2 _ _ hD1
      have hp2 := hp1.keep s2
      have k2 := k1.trans (Kept.same s2)
      refine ⟨.list (ds0.map natD), .list (([] : List Nat).map natD), .lst (SqL.of hD2) (tk_dp ds0), .lst (SqL.of hz2) .nil, nats_shaped ds0, nats_shaped [], _, rfl, ?_⟩
      rw [nats_eqv]
      by_cases z : ds0 = []
      · rw [decide_eq_true z]
        exact iteF_ rfl ⟨_, _, rfl, hD2, by rw [List.length_map]; exact dl0, small, k2, hp2⟩
      rw [decide_eq_false z]
      refine iteT_ rfl ?_
      refine ⟨_, rfl, p, _, rfl, hp2, by decide, by decide, fun e3 G3 e30 e31 k3 hp3 => ⟨rfl, _, rfl, ite2 (fun _ => ?_) (fun _ => ⟨_, _, rfl, k3 _ _ nD hD2, by rw [List.length_map]; exact dl0, small, k2.trans k3, hp3⟩)⟩⟩
      refine ⟨_, rfl, p, _, rfl, hp3, by decide, by decide, fun e5 G5 e50 e51 k5 hp5 => ⟨_, _, rfl, rfl, _, rfl, by omega, by omega, ?_⟩⟩
      refine for_range (fun i σ G => ∃ (w5 : Option V) (hs : List V), σ = [some (.ref p), some (.ref x), some (.ref kl), some (.ref cl0), some (.ref D), w5, none, none, none, none, none, none, none, none, none] ∧ G D = some (.lst hs) ∧ hs.length = cs.length ∧ (∀ v ∈ hs, HoldV D G v) ∧ Kept p H G ∧ PotAt G p) ⟨_, _, rfl, k5 _ _ nD (k3 _ _ nD hD2), by rw [List.length_map]; exact dl0, small, (k2.trans k3).trans k5, hp5⟩ ?_ ?_
      · rintro i σ G6 il ⟨w5, hs, rfl, hD6, hl6, hh6, k6, hp6⟩
        refine ⟨_, rfl, _, rfl, _, _, rfl, rfl, ⟨by decide, by decide, by decide⟩, (by show 1 ≤ sizeLine; decide), fun l1 h1 => ?_⟩
        have s7 := Same.new (o := .lst [V.int 1]) (Same.refl G6) h1
        have hl7 : upd G6 l1 (.lst [V.int 1]) l1 = some (.lst [V.int 1]) := upd_same
        have n1D : l1 ≠ D := (ne_of_none hD6 h1).symm
        have n1p : l1 ≠ p := hp6.ne h1
        generalize upd G6 l1 (.lst [V.int 1]) = G7 at s7 hl7
        refine ⟨(by show 0 ≤ sizeLine; decide), fun t1 ht1 => ?_⟩
        have s8 := Same.new (o := .tup []) (Same.refl G7) ht1
        have ht8 : upd G7 t1 (.tup []) t1 = some (.tup []) := upd_same
        have n2D : t1 ≠ D := (ne_of_none (s7 _ _ hD6) ht1).symm
        have n2p : t1 ≠ p := (hp6.keep s7).ne ht1
        generalize upd G7 t1 (.tup []) = G8 at s8 ht8
        refine ⟨(by show 9 ≤ sizeLine; decide), fun ll hll => ?_⟩
        obtain ⟨L, hL⟩ : ∃ L, L = [V.int (-1), .int 10000, .int ((10 : Int) ^ (59 : Int).toNat), .non, .bl true, .bl false, .str "1", .ref l1, .ref t1] := ⟨_, rfl⟩
        have s9 := Same.new (o := .lst L) (Same.refl G8) hll
        have hl9 : upd G8 ll (.lst L) ll = some (.lst L) := upd_same
        rw [← hL]
        have u8 := s7.trans s8
        have nlp : ll ≠ p := (hp6.keep u8).ne hll
        generalize upd G8 ll (.lst L) = G9 at s9 hl9
        have u9 := u8.trans s9
        refine ⟨p, ll, L, rfl, nlp.symm, hp6.keep u9, SqL.of hl9, fun G k => SqL.of (k _ _ nlp hl9), (by rw [hL]; simp), (by rw [hL]; show 9 < 1073741824; decide), fun y G10 ym k10 hp10 => ?_⟩
        have hD10 := k10 _ _ nD (u9 _ _ hD6)
        have yh : HoldV D G10 y := by
          rw [hL] at ym
          simp only [List.mem_cons, List.not_mem_nil, or_false] at ym
          rcases ym with rfl | rfl | rfl | rfl | rfl | rfl | rfl | rfl | rfl
          · exact .inl ⟨_, rfl, by decide +kernel⟩
          · exact .inl ⟨_, rfl, by decide +kernel⟩
          · exact .inl ⟨_, rfl, by decide +kernel⟩
          · exact .inr (.inl rfl)
          · exact .inr (.inr (.inl ⟨_, rfl⟩))
          · exact .inr (.inr (.inl ⟨_, rfl⟩))
          · exact .inr (.inr (.inr (.inl rfl)))
          · exact .inr (.inr (.inr (.inr (.inl ⟨l1, n1D, rfl, k10 _ _ n1p ((s8.trans s9) _ _ hl7)⟩))))
          · exact .inr (.inr (.inr (.inr (.inr ⟨t1, n2D, rfl, k10 _ _ n2p (s9 _ _ ht8)⟩))))
        have dpos : 0 < cs.length := by
          have := List.length_pos_iff.mpr z
          omega
        refine ⟨_, rfl, _, rfl, _, rfl, D, _, rfl, .inl (SqL.of hD10), p, _, rfl, hp10, (by omega), (by omega), fun g G11 g0 g1 k11 hp11 => ?_⟩
        have hD11 := k11 _ _ nD hD10
        obtain ⟨m, rfl⟩ : ∃ m : Nat, g = (m : Int) := ⟨g.toNat, by omega⟩
        have ml : m < hs.length := by omega
        have kA := ((k6.trans (Kept.same u9)).trans k10).trans k11
        refine ⟨D, _, _, m, rfl, rfl, hD11, ixN_nat ml, _, hs.set m y, rfl, upd_same, by rw [List.length_set]; exact hl6, fun v hv => ?_, kA.past hD, hp11.upd nD⟩
        rcases List.mem_or_eq_of_mem_set hv with hv | rfl
        · exact ((((hh6 v hv).keep u9).kept k10 (hp6.keep u9)).kept k11 hp10).upd
        · exact (yh.kept k11 hp10).upd
      · rintro σ G ⟨w5, hs, rfl, q⟩
        exact ⟨_, _, rfl, q⟩
    rintro σ' G4 ⟨w5, hs, rfl, hD4, hl4, hh4, k4, hp4⟩
    -- the whole ones
    refine ⟨_, rfl, D, rfl, ⟨_, SqL.of hD4⟩, fun W hW => ?_⟩
    refine lc_list (xs := hs) (fun j H' => H' W = some (.lst ((hs.take j).map fun v => V.bl (isI v))) ∧ Same G4 H') ⟨by rw [List.take_zero]; exact upd_same, Same.past (Same.refl _) hW⟩ (fun j H' _ e => SqL.of (e.2 _ _ hD4)) (fun j v H' ev e => ?_) (fun G5 e => ?_)
    · obtain ⟨hd, sm⟩ := e
      have jl := (List.getElem?_eq_some_iff.mp ev).1
      have vh := (hh4 v (List.mem_of_getElem? ev)).keep sm
      have fin : ∀ b, isI v = b → ∃ acc, H' W = some (.lst acc) ∧ acc.length < sizeLine ∧ upd H' W (.lst (acc ++ [.bl b])) W = some (.lst ((hs.take (j + 1)).map fun v => V.bl (isI v))) ∧ Same G4 (upd H' W (.lst (acc ++ [.bl b]))) := fun b eb => by
        refine ⟨_, hd, ?_, ?_, Same.past sm hW⟩
        · rw [List.length_map, List.length_take]
          exact Nat.lt_of_lt_of_le (show _ < 100 by omega) (by decide)
        · rw [List.take_succ, ev, List.map_append, ← eb]
          exact upd_same
      refine ⟨rfl, yes_ite ?_⟩
      rcases vh with ⟨i, rfl, _⟩ | rfl | ⟨b, rfl⟩ | rfl | ⟨a, _, rfl, h⟩ | ⟨a, _, rfl, h⟩
      · refine ⟨_, rfl, _, _, _, _, true, rfl, ClsV.ty _, TyX.base (TyOf.int i), kit_ty (by decide +kernel), _, rfl, iteT ?_⟩
        exact ⟨_, rfl, _, _, _, _, false, rfl, ClsV.ty _, TyX.base (TyOf.int i), kit_ty (by decide +kernel), _, rfl, fin true rfl⟩
      · exact ⟨_, rfl, _, _, _, _, false, rfl, ClsV.ty _, TyX.base TyOf.non, kit_ty (by decide +kernel), _, rfl, iteF (fin false rfl)⟩
      · refine ⟨_, rfl, _, _, _, _, true, rfl, ClsV.ty _, TyX.base (TyOf.bl b), kit_ty (by decide +kernel), _, rfl, iteT ?_⟩
        exact ⟨_, rfl, _, _, _, _, true, rfl, ClsV.ty _, TyX.base (TyOf.bl b), kit_ty (by decide +kernel), _, rfl, fin false rfl⟩
      · exact ⟨_, rfl, _, _, _, _, false, rfl, ClsV.ty _, TyX.base (TyOf.str _), kit_ty (by decide +kernel), _, rfl, iteF (fin false rfl)⟩
      · exact ⟨_, rfl, _, _, _, _, false, rfl, ClsV.ty _, TyX.base (TyOf.lst h), kit_ty (by decide +kernel), _, rfl, iteF (fin false rfl)⟩
      · exact ⟨_, rfl, _, _, _, _, false, rfl, ClsV.ty _, TyX.base (TyOf.tup h), kit_ty (by decide +kernel), _, rfl, iteF (fin false rfl)⟩
    obtain ⟨hW5, s5⟩ := e
    rw [List.take_length] at hW5
    have hD5 := s5 _ _ hD4
    -- the bad ones
    refine ⟨_, rfl, D, _, rfl, SqL.of hD5, fun B hB => ?_⟩
    refine lc_it (walk_enum (xs := hs)) (fun j H' => H' B = some (.lst ((badL hs j).map natV)) ∧ Same G5 H') ⟨upd_same, Same.past (Same.refl _) hB⟩ (fun j H' _ e => SqL.of (e.2 _ _ hD5)) (fun j v H' H'' hj e y => ?_) (fun G6 e => ?_)
    · obtain ⟨hd, sm⟩ := e
      obtain ⟨TT, x1, x2, rfl, hT, rfl, e1, e2⟩ := y
      cases e1
      have e2 : hs[j]? = some x2 := e2
      have jl := (List.getElem?_eq_some_iff.mp e2).1
      have sT := Same.new (o := .tup [V.int ((j : Nat) : Int), x2]) (Same.refl H') hT
      have snoc := badL_snoc e2
      have bl := badL_len hs j
      have hWj := (sm.trans sT) _ _ hW5
      have atj : atI (hs.map fun v => V.bl (isI v)) ((j : Nat) : Int) = some (V.bl (isI x2)) := atI_nat (by rw [List.getElem?_map, e2]; rfl)
      refine ⟨TT, _, rfl, .inl (.inl upd_same), rfl, _, _, rfl, _, _, rfl, rfl, rfl, ?_⟩
      have yes : badV x2 = true → ∃ acc, upd H' TT (.tup [V.int ((j : Nat) : Int), x2]) B = some (.lst acc) ∧ acc.length < sizeLine ∧ upd (upd H' TT (.tup [V.int ((j : Nat) : Int), x2])) B (.lst (acc ++ [V.int ((j : Nat) : Int)])) B = some (.lst ((badL hs (j + 1)).map natV)) ∧ Same G5 (upd (upd H' TT (.tup [V.int ((j : Nat) : Int), x2])) B (.lst (acc ++ [V.int ((j : Nat) : Int)]))) := fun b => by
        refine ⟨_, sT _ _ hd, ?_, ?_, Same.past (sm.trans sT) hB⟩
        · rw [List.length_map]
          exact Nat.lt_of_lt_of_le (show _ < 100 by omega) (by decide)
        · rw [snoc, if_pos b, List.map_append]
          exact upd_same
      have no : badV x2 = false → upd H' TT (.tup [V.int ((j : Nat) : Int), x2]) B = some (.lst ((badL hs (j + 1)).map natV)) ∧ Same G5 (upd H' TT (.tup [V.int ((j : Nat) : Int), x2])) := fun b => by
        rw [snoc, b]
        exact ⟨by rw [if_neg (by decide), List.append_nil]; exact sT _ _ hd, sm.trans sT⟩
      refine ⟨_, rfl, _, rfl, W, _, _, _, rfl, rfl, SqL.of hWj, atj, _, rfl, ?_⟩
      cases hv : isI x2 with
      | true =>
        obtain ⟨i, rfl⟩ : ∃ i : Int, x2 = .int i := by
          cases x2 with
          | int i => exact ⟨i, rfl⟩
          | _ => cases hv
        refine iteF_ rfl ?_
        refine ⟨_, rfl, _, _, rfl, rfl, _, rfl, ite2 (fun g1 => ?_) (fun g1 => ?_)⟩
        · have g1 : 0 ≤ i := of_decide_eq_true g1
          refine ⟨_, _, rfl, rfl, _, rfl, ?_⟩
          by_cases z2 : i ≤ 9999
          · rw [decide_eq_true z2]
            refine iteF_ rfl (no ?_)
            show (!decide (0 ≤ i ∧ i ≤ 9999)) = false
            rw [decide_eq_true ⟨g1, z2⟩]
            rfl
          · rw [decide_eq_false z2]
            refine iteT_ rfl ⟨_, rfl, yes ?_⟩
            show (!decide (0 ≤ i ∧ i ≤ 9999)) = true
            rw [decide_eq_false fun z => z2 z.2]
            rfl
        · refine ⟨_, rfl, iteT_ rfl ⟨_, rfl, yes ?_⟩⟩
          show (!decide (0 ≤ i ∧ i ≤ 9999)) = true
          rw [decide_eq_false fun z => g1 (decide_eq_true z.1)]
          rfl
      | false =>
        have bad : badV x2 = true := by
          cases x2 with
          | int i => cases hv
          | _ => rfl
        exact iteT_ rfl (iteT_ rfl ⟨_, rfl, yes bad⟩)
    obtain ⟨hB6, s6⟩ := e
    have t6 := s5.trans s6
    have hD6 := t6 _ _ hD4
    -- what is handed in
    refine ⟨_, rfl, D, _, rfl, .inl (SqL.of hD6), fun ha hha => ?_⟩
    have nhp : ha ≠ p := (hp4.keep t6).ne hha
    have s7 := Same.new (o := .lst hs) (Same.refl G6) hha
    have hh7 : upd G6 ha (.lst hs) ha = some (.lst hs) := upd_same
    generalize upd G6 ha (.lst hs) = G7 at s7 hh7
    have t7 := t6.trans s7
    have k7 := k4.trans (Kept.same t7)
    obtain ⟨wv7, al7, hkD7, hcD7⟩ := here G7 k7
    obtain ⟨dx7, _, _, _, _, hx7, _⟩ := id wv7
    obtain ⟨pd, dps, bs, lay, dep, sho⟩ := holds_data (K := K) (fun v hv => (hh4 v hv).keep t7)
    have shL : SeqAt.shaped (.list pd) = true := by
      unfold SeqAt.shaped
      rw [PyData.canLay0, lay, PyData.depth]
      refine Bool.and_eq_true_iff.mpr ⟨rfl, decide_eq_true ?_⟩
      omega
    have swL : (PyData.list pd).showable = true := by
      rw [PyData.showable]
      exact sho
    have lnL : (PyData.list pd).shown.length ≤ sizeLine := by
      have pl := DpAll.len dps
      refine Nat.le_trans (shown_list (B := 2000) fun d hd => (bs d hd).2.2.2) (Nat.le_trans (show (2000 + 2) * pd.length + 3 ≤ 100000 by omega) (by decide))
    obtain ⟨SL, hSL⟩ : ∃ S, (PyData.list pd).shown = S := ⟨_, rfl⟩
    cases eb : badL hs hs.length with
    | cons bi r =>
      obtain ⟨⟨vb, evb, bb⟩, firsts⟩ := badL_first eb
      have bh : bi < hs.length := (List.getElem?_eq_some_iff.mp evb).1
      have dB0 : DelaysB K G7 hs (hs.map toD) bi := ⟨(List.length_map _).symm, toD_le, fun j d jb ed => by
        rw [List.getElem?_map] at ed
        obtain ⟨v, ev, rfl⟩ := Option.map_eq_some_iff.mp ed
        exact ev.trans (congrArg some (toD_good (firsts j v jb ev)).symm), by rw [List.length_map]; exact bh, vb, evb, fun H' s' => (((hh4 vb (List.mem_of_getElem? evb)).keep t7).keep s').badD bb⟩
      obtain ⟨dB, S, dpB, sh1, sh2, sh3, hS⟩ := brief_repr (K := K) (v := natV bi) (d := natD bi) (fun H => Dp.int _) (brief_nat (by omega)) false false true false
      refine ⟨_, rfl, _, rfl, .inl ⟨x, dx7, _, .str "", .ref ha, natV bi, rfl, hx7, rfl, fun H1 Q1 E1 s r => ⟨x, ha, nm, cs, hs, hs.map toD, bi, rfl, wv7.keep s, wok, s _ _ hh7, (by rw [List.length_map]; exact hl4), dB0.keep s, r⟩, fun l G8 s8 nl hl => ?_⟩⟩

      have t8 := s7.trans s8
      have hh8 := s8 _ _ hh7
      have hD8 := t8 _ _ hD6
      refine ⟨_, rfl, ha, .list pd, SL, rfl, .lst (SqL.of hh8) (DpAll.keep s8 dps), shL, swL, lnL, hSL, _, rfl, D, .list pd, SL, rfl, .lst (SqL.of hD8) (DpAll.keep s8 dps), shL, swL, lnL, hSL, rfl, _, rfl, iteF_ ?_ ?_⟩
      · rw [decide_eq_true rfl]
        rfl
      have hB8 := t8 _ _ hB6
      rw [eb] at hB8
      refine ⟨_, rfl, (by show 0 ≤ sizeLine; decide), fun lz hlz => ?_⟩
      have s9 := Same.new (o := .lst []) (Same.refl G8) hlz
      have hz9 : upd G8 lz (.lst []) lz = some (.lst []) := upd_same
      generalize upd G8 lz (.lst []) = G9 at s9 hz9
      refine ⟨.list ((bi :: r).map natD), .list (([] : List Nat).map natD), .lst (SqL.of (s9 _ _ hB8)) (tk_dp _), .lst (SqL.of hz9) .nil, nats_shaped _, nats_shaped [], _, rfl, ?_⟩
      rw [nats_eqv, decide_eq_false (fun z => by cases z)]
      refine iteT_ rfl ?_
      refine ⟨_, rfl, l, dB, S, rfl, dpB _ _ (s9 _ _ hl), sh1, sh2, sh3, hS, ?_⟩
      refine ⟨_, rfl, B, _, _, _, rfl, rfl, SqL.of (s9 _ _ hB8), atI_nat (j := 0) rfl, (by show 5 ≤ sizeLine; decide), fun l5 h5 => ?_⟩
      have s10 := Same.new (o := .lst [V.bl false, V.bl false, V.bl true, V.bl false, natV bi]) (Same.refl G9) h5
      refine ⟨l5, dB, S, rfl, dpB _ _ upd_same, sh1, sh2, sh3, hS, ?_⟩
      refine ⟨rfl, ?_⟩
      rw [decide_eq_true rfl]
      exact kk _ (k7.trans (Kept.same (s8.trans (s9.trans s10)))) (hp4.keep (t7.trans (s8.trans (s9.trans s10))))
    | nil =>
      obtain ⟨ds, rfl, dok⟩ := all_good (badL_nil eb)
      have dsl : ds.length = cs.length := by
        rw [List.length_map] at hl4
        exact hl4
      refine ⟨_, rfl, _, rfl, .inr ⟨fun q G => ∀ F, Kept ha G F → Nodes (sorts cl dd c) nm F → WvAt K (sorts cl dd c) CW F q nm (delW cs ds), x, dx7, _, .str "", .ref ha, rfl, hx7, rfl, fun q H1 H2 s w F kF nF => w F (fun b o n e => kF b o n (s _ _ e)) nF, fun H1 Q1 E1 s kq => ⟨x, ha, nm, cs, ds, rfl, wv7.keep s, wok, s _ _ hh7, dsl, dok, fun q H2 s2 f2 w => kq q H2 s2 f2 w⟩, fun l q G8 s8 nl nq hl wq => ?_⟩⟩

      have t8 := s7.trans s8
      have hh8 := s8 _ _ hh7
      have hD8 := t8 _ _ hD6
      refine ⟨_, rfl, ha, .list pd, SL, rfl, .lst (SqL.of hh8) (DpAll.keep s8 dps), shL, swL, lnL, hSL, _, rfl, D, .list pd, SL, rfl, .lst (SqL.of hD8) (DpAll.keep s8 dps), shL, swL, lnL, hSL, rfl, _, rfl, iteF_ ?_ ?_⟩
      · rw [decide_eq_true rfl]
        rfl
      have hB8 := t8 _ _ hB6
      rw [eb] at hB8
      refine ⟨_, rfl, (by show 0 ≤ sizeLine; decide), fun lz hlz => ?_⟩
      have s9 := Same.new (o := .lst []) (Same.refl G8) hlz
      have hz9 : upd G8 lz (.lst []) lz = some (.lst []) := upd_same
      generalize upd G8 lz (.lst []) = G9 at s9 hz9
      refine ⟨.list (([] : List Nat).map natD), .list (([] : List Nat).map natD), .lst (SqL.of (s9 _ _ hB8)) .nil, .lst (SqL.of hz9) .nil, nats_shaped [], nats_shaped [], _, rfl, ?_⟩
      rw [nats_eqv, decide_eq_true rfl]
      refine iteF_ rfl ?_
      -- what was handed in is cleared
      have hh9 := s9 _ _ hh8
      have nlh : l ≠ ha := fun z => by
        rw [z, hh7] at nl
        cases nl
      have hl9 := s9 _ _ hl
      refine ⟨_, rfl, .inl ⟨rfl, _, SqL.of hh9⟩, ha, _, rfl, rfl, hh9, ?_⟩
      have t10 : Same G6 (upd G9 ha (.lst [])) := Same.past (t8.trans s9) hha
      have kF : Kept ha G8 (upd G9 ha (.lst [])) := fun b o n e => by
        rw [upd_ne n]
        exact s9 _ _ e
      have hl10 : upd G9 ha (.lst []) l = some (.lst [V.str "told", V.ref q]) := by
        rw [upd_ne nlh]
        exact hl9
      generalize upd G9 ha (.lst []) = G10 at t10 kF hl10
      have t410 : Same G4 G10 := t6.trans t10
      have k10 := k4.trans (Kept.same t410)
      obtain ⟨wv10, al10, hkD10, hcD10⟩ := here G10 k10
      have wq10 := wq G10 kF (nodes_of al10 web.b.sp)
      obtain ⟨cv10, hc10, dc10⟩ := id hcD10
      have cvl10 : cv10.length = cs.length := by rw [DpAll.len dc10, List.length_map]
      have hD10 := t10 _ _ hD6
      -- what is due
      refine ⟨_, rfl, _, rfl, cl0, D, _, _, rfl, SqL.of hc10, SqL.of hD10, fun DD hDD => ?_⟩
      refine lc_it (walk_zip (xs := cv10) (ys := ds.map natV) (n := cs.length) (by rw [List.length_map, cvl10, dsl, Nat.min_self])) (fun j H' => ListD K H' DD (((delW cs ds).take j).map cordD) ∧ Same G10 H') ⟨⟨[], upd_same, .nil⟩, Same.past (Same.refl _) hDD⟩ (fun j H' _ e => ⟨SqL.of (e.2 _ _ hc10), SqL.of (e.2 _ _ hD10)⟩) (fun j v H' H'' hj e y => ?_) (fun G11 e => ?_)
      · obtain ⟨⟨pvs, hd, dps'⟩, sm⟩ := e
        obtain ⟨TT, a, b, rfl, hT, rfl, ea, eb'⟩ := y
        have ea : cv10[j]? = some a := ea
        have eb' : (ds.map natV)[j]? = some b := eb'
        obtain ⟨cz, ecz, dcz⟩ := DpAll.map dc10 ea
        obtain ⟨q1, rfl, hq1⟩ := cord_inv dcz
        rw [List.getElem?_map] at eb'
        obtain ⟨dz, edz, rfl⟩ := Option.map_eq_some_iff.mp eb'
        have sT := Same.new (o := .tup [V.ref q1, natV dz]) (Same.refl H') hT
        have hqT := Same.tup (sm.trans sT) hq1
        refine ⟨TT, _, rfl, .inl (.inl upd_same), rfl, _, _, rfl, _, _, rfl, rfl, rfl, yes_ite ?_⟩
        generalize upd H' TT (.tup [V.ref q1, natV dz]) = F1 at sT hqT
        refine ⟨_, rfl, _, rfl, q1, _, rfl, hqT, (fun z => absurd z.2 (by show ¬ (3 : Nat) = 4; decide)), fun _ u hu => ?_⟩
        have e6 : cutV [V.str cz.src, V.str cz.goal, V.int (cz.place : Int), V.int (cz.delay : Int)] none (some 3) = [V.str cz.src, V.str cz.goal, V.int (cz.place : Int)] := rfl
        rw [e6]
        have s2 := Same.new (o := .tup [V.str cz.src, V.str cz.goal, V.int (cz.place : Int)]) (Same.refl F1) hu
        have hu2 : upd F1 u (.tup [V.str cz.src, V.str cz.goal, V.int (cz.place : Int)]) u = some (.tup [V.str cz.src, V.str cz.goal, V.int (cz.place : Int)]) := upd_same
        generalize upd F1 u (.tup [V.str cz.src, V.str cz.goal, V.int (cz.place : Int)]) = F2 at s2 hu2
        refine ⟨_, rfl, (by show 1 ≤ sizeLine; decide), fun t ht => ?_⟩
        have s3 := Same.new (o := .tup [natV dz]) (Same.refl F2) ht
        have ht3 : upd F2 t (.tup [natV dz]) t = some (.tup [natV dz]) := upd_same
        generalize upd F2 t (.tup [natV dz]) = F3 at s3 ht3
        refine ⟨u, t, _, _, rfl, rfl, .inl (.inl (s3 _ _ hu2)), .inl (.inl ht3), (by show 4 ≤ sizeLine; decide), (fun z => by cases z), (fun _ z => by cases z), fun _ _ r hr => ?_⟩
        have s4 := Same.new (o := .tup ([V.str cz.src, V.str cz.goal, V.int (cz.place : Int)] ++ [natV dz])) (Same.refl F3) hr
        have hr4 : upd F3 r (.tup ([V.str cz.src, V.str cz.goal, V.int (cz.place : Int)] ++ [natV dz])) r = some (.tup [V.str cz.src, V.str cz.goal, V.int (cz.place : Int), V.int (dz : Int)]) := upd_same
        generalize upd F3 r (.tup ([V.str cz.src, V.str cz.goal, V.int (cz.place : Int)] ++ [natV dz])) = F4 at s4 hr4
        have u4 := sT.trans (s2.trans (s3.trans s4))
        have kt : KT K F4 (upd F4 DD (.lst (pvs ++ [V.ref r]))) := KT.lst (u4 _ _ hd)
        refine ⟨pvs, u4 _ _ hd, ?_, ⟨_, upd_same, ?_⟩, Same.past (sm.trans u4) hDD⟩
        · have l1 := DpAll.len dps'
          rw [List.length_map, List.length_take, delW_len dsl] at l1
          exact Nat.lt_of_lt_of_le (show _ < 100 by omega) (by decide)
        · rw [delW_snoc ecz edz, List.map_append]
          have nl : noLists (((delW cs ds).take j).map cordD ++ [(⟨cz.src, cz.goal, cz.place, dz⟩ : Wr)].map cordD) = true := by
            rw [← List.map_append]
            exact noLists_map cord_noList _
          exact DpAll.kt kt nl (DpAll.snoc (cord_mk (c := ⟨cz.src, cz.goal, cz.place, dz⟩) (.inl (.inl hr4))) (DpAll.keep u4 dps'))
      obtain ⟨hdD, s11⟩ := e
      rw [List.take_of_length_le (by rw [delW_len dsl]; exact Nat.le_refl _)] at hdD
      have web' : Web ks (delW cs ds) := web.delayed dsl dok
      have fewc' : (delW cs ds).length ≤ 48 := by rw [delW_len dsl]; exact fewc
      -- told
      refine ⟨_, rfl, l, _, _, _, rfl, rfl, SqL.of (s11 _ _ hl10), atI_nat (j := 0) rfl, rfl, _, rfl, iteF_ (by decide +kernel) ?_⟩
      refine ⟨_, rfl, l, _, _, _, rfl, rfl, SqL.of (s11 _ _ hl10), atI_nat (j := 1) rfl, _, rfl, _, rfl, q, kl, DD, nm, ks, _, rfl, wq10.keep s11, al10.imp (fun x k h => h.keep s11), hkD10.keep s11, hdD, web', few, fewc', fun G12 s12 => ⟨_, rfl, iteF_ rfl ?_⟩⟩
      have u12 := s11.trans s12
      have wq12 := wq10.keep u12
      obtain ⟨dxq, _, _, _, _, hq12, _⟩ := id wq12
      -- once more
      refine ⟨_, rfl, l, _, _, _, rfl, rfl, SqL.of (u12 _ _ hl10), atI_nat (j := 1) rfl, q, dxq, _, rfl, hq12, rfl, _, rfl, cl0, rfl, ⟨_, SqL.of (u12 _ _ hc10)⟩, fun DE hDE => ?_⟩
      refine lc_list (xs := cv10) (fun j H' => H' DE = some (.lst (((cs.map Wr.delay).take j).map natV)) ∧ Same G12 H') ⟨by rw [List.take_zero]; exact upd_same, Same.past (Same.refl _) hDE⟩ (fun j H' _ e => SqL.of ((u12.trans e.2) _ _ hc10)) (fun j v H' ev e => ?_) (fun G13 e => ?_)
      · obtain ⟨hd, sm⟩ := e
        obtain ⟨cz, ecz, dcz⟩ := DpAll.map dc10 ev
        obtain ⟨q1, rfl, hq1⟩ := cord_inv dcz
        have jl := (List.getElem?_eq_some_iff.mp ecz).1
        refine ⟨rfl, yes_ite ?_⟩
        refine ⟨_, rfl, q1, _, _, _, rfl, rfl, Same.tup (u12.trans sm) hq1, atI_nat (j := 3) rfl, _, hd, ?_, ?_, Same.past sm hDE⟩
        · rw [List.length_map, List.length_take, List.length_map]
          exact Nat.lt_of_lt_of_le (show _ < 100 by omega) (by decide)
        · rw [List.take_succ, List.getElem?_map, ecz, List.map_append]
          exact upd_same
      obtain ⟨hE13, s13⟩ := e
      rw [List.take_of_length_le (by rw [List.length_map, cvl10]; exact Nat.le_refl _)] at hE13
      have u13 := u12.trans s13
      have wok' : WvOk nm (delW cs ds) := wok.delayed dsl dok
      have ok9 : ∀ d ∈ cs.map Wr.delay, d ≤ 9999 := fun d hd => by
        obtain ⟨c, hc, rfl⟩ := List.mem_map.mp hd
        exact (cok.num c hc).2
      refine ⟨rfl, q, DE, nm, delW cs ds, cs.map Wr.delay, rfl, wq10.keep u13, wok', hE13, by rw [List.length_map, delW_len dsl], ok9, fun q2 G14 s14 fq2 wq2 => ?_⟩
      have u14 := u13.trans s14
      have al14 := al10.imp (fun x k h => h.keep u14)
      have wq14 := wq2 G14 Kept.refl (nodes_of al14 web.b.sp)
      rw [delW_back cs dsl] at wq14
      refine ⟨_, rfl, _, rfl, _, rfl, q2, kl, cl0, nm, ks, cs, rfl, wq14, al14, hkD10.keep u14, hcD10.keep u14, web, few, fewc, fun G15 s15 => ⟨_, rfl, iteT_ rfl ?_⟩⟩
      have u15 := u14.trans s15
      exact ⟨_, rfl, l, _, _, _, rfl, rfl, SqL.of (u15 _ _ hl10), atI_nat (j := 1) rfl, _, rfl, _, rfl, q, kl, DD, nm, ks, _, rfl, wq10.keep u15, al10.imp (fun x k h => h.keep u15), hkD10.keep u15, hdD.keep (s12.trans (s13.trans (s14.trans s15))), web', few, fewc', fun G16 s16 => kk G16 (k10.trans (Kept.same (u15.trans s16))) ((hp4.keep t410).keep (u15.trans s16))⟩
end
end Sw
namespace Sw
open PySem PySem.Spec PyProof.Rows L2
section
variable {P : Program} {w : World} {K : PySem.W.Frag} {mg : Str → Option Value} {base : Heap} {f f1 f2 f3 f4 f5 f6 f7 f8 f9 f10 C CN CO CI CW CU dd : Addr} {cl : Srt → Addr} {fd fd10 fd1 fd2 fd3 fd4 fd5 fd6 fd7 fd8 fd9 : FuncData}
abbrev nLaw : List Str := ["_law_script", "_law_k", "_law_pot_here", "_law_knots", "_law_cords", "_law_web", "_law_turn"]
theorem scLaw : FnScope nLaw ["_law_script"] (defScope sLaw) := ⟨rfl, rfl, rfl, by decide +kernel, rfl, by decide +kernel, by decide +kernel⟩
def spLaw (K : PySem.W.Frag) : Sp := fun vs H Q _ => ∃ (a : Addr) (ns : List Int), vs = [.ref a] ∧ SqL K H a (ns.map V.int) ∧ ns.length ≤ 63 ∧ ∀ H', Q (.bl true) H'
theorem ok_law (c : ClsS K cl CN CO CI) (F : FnP K "law" sLaw f fd) (c0 : Cls K CW)
    (GDr : FnOk P w K mg base CX0 3 f1 fd1 ["_law_pot_here"] (spDrawn K)) (gDr : mg "_law_drawn" = some (.ref f1)) (kDr : PySem.W.keepIn K (.ref f1) = true) (bDr : Binds K fd1 ["_law_pot_here"] [])
    (GPo : FnOk P w K mg base CX0 1 f2 fd2 ["_law_script", "_law_k"] (spPot K)) (gPo : mg "_law_pot" = some (.ref f2)) (kPo : PySem.W.keepIn K (.ref f2) = true) (bPo : Binds K fd2 ["_law_script", "_law_k"] [])
    (MW : Mk K CW f4) (GW : FnOk P w K mg base CX0 5 f4 fd4 ["self", "nodes", "wires"] (spWvInit K (sorts cl dd c) CW)) (gW : mg "Weave" = some (.ref CW)) (bW : Binds K fd4 ["self", "nodes", "wires"] [])
    (GPa : FnG P w K mg base CX0 7 f5 fd5 ["_law_knots"] (spPairs K cl dd)) (gPa : mg "_law_pairs" = some (.ref f5)) (kPa : PySem.W.keepIn K (.ref f5) = true) (bPa : Binds K fd5 ["_law_knots"] [])
    (GPR : FnG P w K mg base CX0 9 f6 fd6 ["_law_pot_here", "_law_web", "_law_knots", "_law_cords"] (spPutRight K dd c CW)) (gPR : mg "_law_put_right" = some (.ref f6)) (kPR : PySem.W.keepIn K (.ref f6) = true) (bPR : Binds K fd6 ["_law_pot_here", "_law_web", "_law_knots", "_law_cords"] [])
    (GDR : FnG P w K mg base CX0 9 f7 fd7 ["_law_pot_here", "_law_web", "_law_knots", "_law_cords"] (spDelRight K dd c CW)) (gDR : mg "_law_delayed_right" = some (.ref f7)) (kDR : PySem.W.keepIn K (.ref f7) = true) (bDR : Binds K fd7 ["_law_pot_here", "_law_web", "_law_knots", "_law_cords"] [])
    (GI : FnG P w K mg base CX0 7 f8 fd8 ["_law_web", "_law_knots", "_law_cords"] (spIs K dd c CW)) (gI : mg "_law_is" = some (.ref f8)) (kI : PySem.W.keepIn K (.ref f8) = true) (bI : Binds K fd8 ["_law_web", "_law_knots", "_law_cords"] [])
    (mD : Meth K CW "delayed" f9) (GD : FnOk P w K mg base CX0 7 f9 fd9 ["self", "delays"] (spDelayed K (sorts cl dd c) CW)) (bD : Binds K fd9 ["self", "delays"] [])
    (GLn : FnOk P w K mg base CX0 1 f10 fd10 ["self"] (spWvLen K (sorts cl dd c) CW)) (sLn : PySem.W.findIn K (.ref CW) "__len__" = some (some (.ref f10))) (iLn : PySem.W.isFn K (.ref f10) = true) (bLn : Binds K fd10 ["self"] [])
    (gRange : mg "range" = none) (gMax : mg "max" = none) (gMin : mg "min" = none) (gLen : mg "len" = none) (gList : mg "list" = none) : FnG P w K mg base CX0 10 f fd ["_law_script"] (spLaw K) := by
  refine F.okG scLaw (fun vs H Q E h => ?_) (fun cdv A ou s H vs Q E hr guard h => ?_)
  · obtain ⟨a, ns, rfl, _⟩ := h
    rfl
  · obtain ⟨a, ns, rfl, hS, few, kk⟩ := h
    have nd := scLaw.nd
    have hr9 : Room 9 _ := hr
    have hr7 : Room 7 _ := hr.mono (by decide)
    have hr6 : Room 6 _ := hr.mono (by decide)
    have hr3 : Room 3 _ := hr.mono (by decide)
    have hr2 : Room 2 _ := hr.mono (by decide)
    have hr1 : Room 1 _ := hr.mono (by decide)
    have un := hr.un
    refine ⟨_, PSs.nox (pss_cons (ps_for PassesOwn.never rfl (pi_range1 rfl gRange (pa_cons (pe_callB (call_max2 rfl) (by rfl) gMax (by decide +kernel) (pa_cons pe_int (pa_cons (pe_callB (call_min2 rfl) (by rfl) gMin (by decide +kernel) (pa_cons pe_int (pa_cons (pe_callB call_len_seq (by rfl) gLen PySem.boot_len (pa_cons (pv 0) pa_nil)) pa_nil))) pa_nil))) pa_nil)) (pg_name (i := 1) nd rfl (Or.inl rfl))
      (pss_cons (ps_set (i := 2) nd rfl (Or.inl rfl) (pe_call GPo hr1 rfl gPo kPo bPo .nil pass0 (pa_cons (pv 0) (pa_cons (pv 1) pa_nil))))
      (pss_cons (ps_asg (pe_call GDr hr3 rfl gDr kDr bDr .nil pass0 (pa_cons (pv 2) pa_nil)) (pg_tup rfl (pgs_cons (pg_name (i := 3) nd rfl (Or.inl rfl)) (pgs_cons (pg_name (i := 4) nd rfl (Or.inl rfl)) pgs_nil))))
      (pss_cons (ps_set (i := 5) nd rfl (Or.inl rfl) (pe_make MW GW hr6 rfl gW bW .nil pass0 (pa_cons (pe_callG GPa hr7 guard rfl gPa kPa bPa .nil pass0 (pa_cons (pv 3) pa_nil)) (pa_cons (pe_callTy call_list_of (by rfl) gList PyProof.Rows.boot_list (pa_cons (pv 4) pa_nil)) pa_nil))))
      (pss_cons (ps_for PassesOwn.never rfl (pi_range1 rfl gRange (pa_cons pe_int pa_nil)) (pg_name (i := 6) nd rfl (Or.inl rfl))
      (pss_one (ps_if (PW.pt (pw_or (pt_not (pt_val (pe_callG GPR hr9 guard rfl gPR kPR bPR .nil pass0 (pa_cons (pv 2) (pa_cons (pv 5) (pa_cons (pv 3) (pa_cons (pv 4) pa_nil))))))) (pw_or1 (pt_not (pt_val (pe_callG GDR hr9 guard rfl gDR kDR bDR .nil pass0 (pa_cons (pv 2) (pa_cons (pv 5) (pa_cons (pv 3) (pa_cons (pv 4) pa_nil)))))))))) pss_never pss_nil)))
      (pss_one (ps_if (pt_not (pt_val (pe_callG GI hr7 guard rfl gI kI bI .nil pass0 (pa_cons (pv 5) (pa_cons (pv 3) (pa_cons (pv 4) pa_nil)))))) pss_never pss_nil)))))))
      (pss_one (ps_ret (pe_cmpR op_eq (pe_callB (call_lenO GLn sLn iLn bLn hr2 pass0) (by rfl) gLen PySem.boot_len (pa_cons (pe_meth (pe_make MW GW hr6 rfl gW bW .nil pass0 (pa_cons (pe_lst pa_nil) (pa_cons (pe_lst pa_nil) pa_nil))) c0 mD GD hr7 bD .nil pass0 (pa_cons (pe_lst pa_nil) pa_nil)) pa_nil)) pe_int (nomark _))))), ?_⟩
    refine ⟨_, rfl, a, _, rfl, .inl hS, _, _, rfl, _, _, rfl, _, rfl, ?_, ?_, ?_⟩
    · rw [List.length_map]
      split
      · split <;> omega
      · decide
    · rw [List.length_map]
      split
      · split <;> omega
      · decide
    obtain ⟨n, en, n8⟩ : ∃ n : Nat, (if (if ((ns.map V.int).length : Int) < 8 then ((ns.map V.int).length : Int) else 8) > 1 then (if ((ns.map V.int).length : Int) < 8 then ((ns.map V.int).length : Int) else 8) else 1).toNat = n ∧ n ≤ 63 := by
      refine ⟨_, rfl, ?_⟩
      rw [List.length_map]
      split
      · split <;> omega
      · decide
    rw [en]
    refine for_range (fun i σ G => ∃ (w1 w2 w3 w4 w5 w6 : Option V), σ = [some (.ref a), w1, w2, w3, w4, w5, w6] ∧ Same H G) ⟨_, _, _, _, _, _, rfl, Same.refl _⟩ ?_ ?_
    · rintro i σ G il ⟨w1, w2, w3, w4, w5, w6, rfl, sG⟩
      refine ⟨_, rfl, _, rfl, a, ns, i, congrArg (fun z => [V.ref a, V.int z]) (Int.zero_add _), sG.seq hS, by omega, fun p G1 fp s1 hp => ?_⟩
      refine ⟨_, rfl, p, rfl, hp, fun t0 kl cl0 ks cs H1 k1 hp1 ht0 hkD hcD fk fc nkc web few fewc kne => ⟨t0, _, rfl, ht0, rfl, _, _, rfl, _, _, rfl, rfl, ?_⟩⟩
      obtain ⟨kv, hk, dk⟩ := id hkD
      obtain ⟨cv, hc, dc⟩ := id hcD
      have sk : Same G H1 := Same.kept s1 fp k1
      have nkp : kl ≠ p := hp.ne fk
      refine ⟨_, rfl, kl, kv, ks, rfl, hk, dk, fun k hk => web.b.sp k hk, few, fun pl nm Hn H2 sn fpl s2 hpl aln => ?_⟩
      have t2 := sn.trans s2
      refine ⟨_, rfl, cl0, _, rfl, .inl (SqL.of (t2 _ _ hc)), fun rl hrl => ?_⟩
      have s3 := Same.new (o := .lst cv) (Same.refl H2) hrl
      have hr3' : (upd H2 rl (.lst cv)) rl = some (.lst cv) := upd_same
      obtain ⟨pv, hpl2, alp⟩ := hpl
      generalize upd H2 rl (.lst cv) = H3 at s3 hr3'
      have t3 : Same H1 H3 := t2.trans s3
      have n3 : Same Hn H3 := s2.trans s3
      have wok := web.ok few fewc (nmK_map aln)
      have alp3 : Al (PairAt K H3) pv nm := alp.imp fun v x ⟨q, e, h⟩ => ⟨q, e, Same.tup s3 h⟩
      have plB : PairsAt K H3 pl nm := ⟨pv, s3 _ _ hpl2, alp3⟩
      have rlB : WiresAt K H3 rl cs := ⟨cv, hr3', dp_wires (DpAll.keep t3 dc)⟩
      have alB : Al (NmK K cl dd H3) nm ks := aln.imp fun x k h => h.keep n3
      have ndB : Nodes (sorts cl dd c) nm H3 := nodes_of alB web.b.sp
      refine fun x dx nx ndx ne => ⟨H3, x, dx, pl, rl, nm, cs, rfl, Same.new (Same.new (Same.refl H3) ndx) (by rw [upd_ne ne.symm]; exact nx), nx, upd_same, plB, rlB, wok, ndB, fun G4 s4 wvn => ⟨rfl, ?_⟩⟩
      have t4 : Same H1 G4 := t3.trans s4
      have hp4 := hp1.keep t4
      have al4 : Al (NmK K cl dd G4) nm ks := alB.imp fun x k h => h.keep s4
      have hp3 : PotAt H3 p := hp1.keep t3
      have ncp : cl0 ≠ p := hp.ne fc
      have here : ∀ {G' : Hp}, Kept p G4 G' → WvAt K (sorts cl dd c) CW G' x nm cs ∧ Al (NmK K cl dd G') nm ks ∧ ListD K G' kl (ks.map knotD) ∧ ListD K G' cl0 (cs.map cordD) := fun {G'} k => by
        have kt := KT.kept (K := K) k hp4
        have al' : Al (NmK K cl dd G') nm ks := al4.imp fun x k' h => ⟨h.1, h.2.1, h.2.2.kept k hp4⟩
        exact ⟨wvn.to nx (fun b o n e => k b o (hp3.ne n) e) kt (nodes_of al' web.b.sp), al', (hkD.keep t4).kt (noLists_map knot_noList _) kt (fun o e => k _ _ nkp e), (hcD.keep t4).kt (noLists_map cord_noList _) kt (fun o e => k _ _ ncp e)⟩
      -- three times
      refine ⟨_, rfl, by decide, by decide, ?_⟩
      refine for_range (fun j σ G' => ∃ w6 : Option V, σ = [some (.ref a), some (.int ((0 : Int) + (i : Int))), some (.ref p), some (.ref kl), some (.ref cl0), some (.ref x), w6] ∧ Kept p G4 G' ∧ PotAt G' p) ⟨_, rfl, Kept.refl, hp4⟩ ?_ ?_
      · rintro j σ G5 jl ⟨w6', rfl, k5, hp5⟩
        refine ⟨_, rfl, _, rfl, _, rfl, _, rfl, p, x, kl, cl0, nm, ks, cs, rfl, hp5, nkp, fun G' k => here (k5.trans k), web, few, fewc, kne, fun G6 k6 hp6 => ⟨_, rfl, iteF_ rfl ?_⟩⟩
        exact ⟨_, rfl, _, rfl, _, rfl, _, rfl, p, x, kl, cl0, nm, ks, cs, rfl, hp6, ncp, fun G' k => here ((k5.trans k6).trans k), web, few, fewc, fun G7 k7 hp7 => ⟨_, rfl, iteF_ rfl ⟨_, rfl, (k5.trans k6).trans k7, hp7⟩⟩⟩
      rintro σ G5 ⟨w6', rfl, k5, hp5⟩
      obtain ⟨wv5, al5, kl5, cl5⟩ := here k5
      exact ⟨_, rfl, _, rfl, _, rfl, x, kl, cl0, nm, ks, cs, rfl, wv5, al5, kl5, cl5, web, few, fewc, fun G6 s6 => ⟨_, rfl, iteF_ rfl ⟨_, _, _, _, _, _, rfl, sG.trans (Same.kept s1 fp ((k1.trans (Kept.same t4)).trans (k5.trans (Kept.same s6))))⟩⟩⟩
    · rintro σ G ⟨w1, w2, w3, w4, w5, w6, rfl, sG⟩
      refine ⟨(by show 0 ≤ sizeLine; decide), fun l1 h1 => ⟨(by show 0 ≤ sizeLine; decide), fun l2 h2 => ?_⟩⟩
      have s1 := Same.new (o := .lst []) (Same.refl G) h1
      have hl1 : (upd G l1 (.lst [])) l1 = some (.lst []) := upd_same
      generalize upd G l1 (.lst []) = H1 at s1 hl1 h2
      have s2 := Same.new (o := .lst []) (Same.refl H1) h2
      have hl2 : (upd H1 l2 (.lst [])) l2 = some (.lst []) := upd_same
      generalize upd H1 l2 (.lst []) = H2 at s2 hl2
      have wok0 : WvOk [] [] := Web.nil.ok (by decide) (by decide) rfl
      refine fun x dx nx ndx ne => ⟨H2, x, dx, l1, l2, [], [], rfl, Same.new (Same.new (Same.refl H2) ndx) (by rw [upd_ne ne.symm]; exact nx), nx, upd_same, ⟨[], s2 _ _ hl1, trivial⟩, ⟨[], hl2, trivial⟩, wok0, (fun _ h => (List.not_mem_nil h).elim), fun H3 s3 wv => ⟨rfl, ?_⟩⟩
      obtain ⟨dx3, _, _, _, _, hx3, _⟩ := id wv.at
      refine ⟨x, dx3, _, rfl, hx3, rfl, (by show 0 ≤ sizeLine; decide), fun l4 h4 => ?_⟩
      have s4 := Same.new (o := .lst []) (Same.refl H3) h4
      have hl4 : (upd H3 l4 (.lst [])) l4 = some (.lst []) := upd_same
      generalize upd H3 l4 (.lst []) = H4 at s4 hl4
      refine ⟨x, l4, [], [], [], rfl, wv.at.keep s4, wok0, hl4, rfl, (fun _ h => (List.not_mem_nil h).elim), fun q H5 s5 fq wq => ?_⟩
      have wq5 := wq H5 Kept.refl (fun _ h => (List.not_mem_nil h).elim)
      obtain ⟨dx5, _, _, _, _, hx5, _⟩ := id wq5
      refine ⟨q, dx5, _, rfl, hx5, q, [], _, rfl, wq5, wok0.nms, ⟨0, rfl, by decide, ?_⟩⟩
      refine ⟨rfl, ?_⟩
      exact kk _
end
end Sw
namespace Sw
open PySem PySem.Spec PyProof.Rows L2
def clK (K : PySem.W.Frag) : Srt → Addr
  | .gain => He.ga K "Gain"
  | .mix => He.ga K "Mix"
  | .times => He.ga K "Times"
  | .choose => He.ga K "Choose"
  | .up => He.ga K "Up"
  | .down => He.ga K "Down"
  | .resample => He.ga K "Resample"
  | .own => He.ga K "Own"
  | .outlet => He.ga K "Outlet"
  | .inlet => He.ga K "Inlet"
theorem iniB_ok {K : PySem.W.Frag} {mg : Str → Option Value} {x fld : Str} {C : Addr} (h : iniB K C fld = true) (g : mg x = some (.ref C)) : RefC K mg x C (He.ma K C "__init__") fld := by
  obtain ⟨h1, h⟩ := He.ba h
  obtain ⟨h2, h⟩ := He.ba h
  obtain ⟨h3, h4⟩ := He.ba h
  exact ⟨oexB_ok h1, of_decide_eq_true h2, of_decide_eq_true h3, g, of_decide_eq_true h4⟩
theorem FnOk.toX {P : Program} {w : World} {K : PySem.W.Frag} {mg : Str → Option Value} {base : Heap} {CX : CXT} {k : Nat} {f : Addr} {fd : FuncData} {ps : List Str} {sp : Sp} (F : FnOk P w K mg base CX0 k f fd ps sp) : FnOk P w K mg base CX k f fd ps sp :=
  ⟨F.len, fun A outer s H args us vs Q E a b c d e => codeAny_mono (F.run A outer s H args us vs Q E a b c d e) fun r s' h => by
    cases r with
    | error z => exact (show False from h).elim
    | ok z =>
      cases z with
      | ret u => exact h
      | _ => exact h⟩
theorem facts {P : Program} {w : World} {K : PySem.W.Frag} {h : Heap} {mg : Str → Option Value} {f : Addr} (X : K.In h) (G : h.Ns mainGlobals mg) (hfa : mg ("law" : Str) = some (.ref f)) (cx : ex K = true) (c : He.SaysD fa fn K) :
    ∃ fd : FuncData, (∀ (s : Shared) (v : Value), BindsTo s fd ⟨[v], []⟩ [("_law_script", v)]) ∧ ∀ base : Heap, K.In base → base.Ns mainGlobals mg → FnG P w K mg base CX0 10 f fd ["_law_script"] (spLaw K) := by
  unfold ex at cx
  obtain ⟨d_is_whole, F_is_whole⟩ := c.def_ 0 (d := dfn "is_whole" sWhole) rfl
  have g_is_whole := He.glo_ok X G (c.fact 0 (f := .glo "is_whole") rfl)
  have b_is_whole : Binds K d_is_whole ["thing"] [] := FunD.bindsN F_is_whole fun _ _ _ _ _ _ us hl => match us, hl with | [_], _ => rfl
  obtain ⟨d_is_whole_within, F_is_whole_within⟩ := c.def_ 1 (d := dfn "is_whole_within" sWithin) rfl
  have g_is_whole_within := He.glo_ok X G (c.fact 1 (f := .glo "is_whole_within") rfl)
  have b_is_whole_within : Binds K d_is_whole_within ["thing", "least", "most"] [] := FunD.bindsN F_is_whole_within fun _ _ _ _ _ _ us hl => match us, hl with | [_, _, _], _ => rfl
  obtain ⟨d_is_truth, F_is_truth⟩ := c.def_ 2 (d := dfn "is_truth" sTruth) rfl
  have g_is_truth := He.glo_ok X G (c.fact 2 (f := .glo "is_truth") rfl)
  have b_is_truth : Binds K d_is_truth ["thing"] [] := FunD.bindsN F_is_truth fun _ _ _ _ _ _ us hl => match us, hl with | [_], _ => rfl
  obtain ⟨d_are_wholes, F_are_wholes⟩ := c.def_ 3 (d := dfn "are_wholes" sWholes) rfl
  have g_are_wholes := He.glo_ok X G (c.fact 3 (f := .glo "are_wholes") rfl)
  have b_are_wholes : Binds K d_are_wholes ["things"] [] := FunD.bindsN F_are_wholes fun _ _ _ _ _ _ us hl => match us, hl with | [_], _ => rfl
  obtain ⟨d_are_wholes_within, F_are_wholes_within⟩ := c.def_ 4 (d := dfn "are_wholes_within" sAreWholesWithin) rfl
  have g_are_wholes_within := He.glo_ok X G (c.fact 4 (f := .glo "are_wholes_within") rfl)
  have b_are_wholes_within : Binds K d_are_wholes_within ["things", "least", "most"] [] := FunD.bindsN F_are_wholes_within fun _ _ _ _ _ _ us hl => match us, hl with | [_, _, _], _ => rfl
  obtain ⟨d_is_list_of_wholes, F_is_list_of_wholes⟩ := c.def_ 5 (d := dfn "is_list_of_wholes" sListOf) rfl
  have g_is_list_of_wholes := He.glo_ok X G (c.fact 5 (f := .glo "is_list_of_wholes") rfl)
  have b_is_list_of_wholes : Binds K d_is_list_of_wholes ["thing", "least", "most"] [] := FunD.bindsN F_is_list_of_wholes fun _ _ _ _ _ _ us hl => match us, hl with | [_, _, _], _ => rfl
  obtain ⟨d_need, F_need⟩ := c.def_ 6 (d := dfn "need" sNeed) rfl
  have g_need := He.glo_ok X G (c.fact 6 (f := .glo "need") rfl)
  have b_need : Binds K d_need ["holds", "field"] [] := FunD.bindsN F_need fun _ _ _ _ _ _ us hl => match us, hl with | [_, _], _ => rfl
  obtain ⟨d_is_name, F_is_name⟩ := c.def_ 7 (d := dfn "is_name" sIsName) rfl
  have g_is_name := He.glo_ok X G (c.fact 7 (f := .glo "is_name") rfl)
  have b_is_name : Binds K d_is_name ["thing"] [] := FunD.bindsN F_is_name fun _ _ _ _ _ _ us hl => match us, hl with | [_], _ => rfl
  obtain ⟨d_is_one_of, F_is_one_of⟩ := c.def_ 8 (d := dfn "is_one_of" sIsOneOf) rfl
  have g_is_one_of := He.glo_ok X G (c.fact 8 (f := .glo "is_one_of") rfl)
  have b_is_one_of : Binds K d_is_one_of ["thing", "names"] [] := FunD.bindsN F_is_one_of fun _ _ _ _ _ _ us hl => match us, hl with | [_, _], _ => rfl
  obtain ⟨d_all_reached, F_all_reached⟩ := c.def_ 9 (d := dfn "all_reached" sAllReached) rfl
  have g_all_reached := He.glo_ok X G (c.fact 9 (f := .glo "all_reached") rfl)
  have b_all_reached : Binds K d_all_reached ["starts", "onward"] [] := FunD.bindsN F_all_reached fun _ _ _ _ _ _ us hl => match us, hl with | [_, _], _ => rfl
  obtain ⟨d_nodes_by_name, F_nodes_by_name⟩ := c.def_ 10 (d := dfn "nodes_by_name" sNodesByName) rfl
  have g_nodes_by_name := He.glo_ok X G (c.fact 10 (f := .glo "nodes_by_name") rfl)
  have b_nodes_by_name : Binds K d_nodes_by_name ["nodes"] [] := FunD.bindsN F_nodes_by_name fun _ _ _ _ _ _ us hl => match us, hl with | [_], _ => rfl
  obtain ⟨d_check_wire, F_check_wire⟩ := c.def_ 11 (d := dfn "check_wire" sCheckWire) rfl
  have g_check_wire := He.glo_ok X G (c.fact 11 (f := .glo "check_wire") rfl)
  have b_check_wire : Binds K d_check_wire ["number", "wire", "named"] [] := FunD.bindsN F_check_wire fun _ _ _ _ _ _ us hl => match us, hl with | [_, _, _], _ => rfl
  obtain ⟨d_wires_by_goal, F_wires_by_goal⟩ := c.def_ 12 (d := dfn "wires_by_goal" sWiresByGoal) rfl
  have g_wires_by_goal := He.glo_ok X G (c.fact 12 (f := .glo "wires_by_goal") rfl)
  have b_wires_by_goal : Binds K d_wires_by_goal ["wires", "named"] [] := FunD.bindsN F_wires_by_goal fun _ _ _ _ _ _ us hl => match us, hl with | [_, _], _ => rfl
  obtain ⟨d_refuse_bare, F_refuse_bare⟩ := c.def_ 13 (d := dfn "refuse_bare" sRefuseBare) rfl
  have g_refuse_bare := He.glo_ok X G (c.fact 13 (f := .glo "refuse_bare") rfl)
  have b_refuse_bare : Binds K d_refuse_bare ["leading"] [] := FunD.bindsN F_refuse_bare fun _ _ _ _ _ _ us hl => match us, hl with | [_], _ => rfl
  obtain ⟨d_wires_by_source, F_wires_by_source⟩ := c.def_ 14 (d := dfn "wires_by_source" sWiresBySource) rfl
  have g_wires_by_source := He.glo_ok X G (c.fact 14 (f := .glo "wires_by_source") rfl)
  have b_wires_by_source : Binds K d_wires_by_source ["wires", "named"] [] := FunD.bindsN F_wires_by_source fun _ _ _ _ _ _ us hl => match us, hl with | [_, _], _ => rfl
  obtain ⟨d_refuse_unfed, F_refuse_unfed⟩ := c.def_ 15 (d := dfn "refuse_unfed" sRefuseUnfed) rfl
  have g_refuse_unfed := He.glo_ok X G (c.fact 15 (f := .glo "refuse_unfed") rfl)
  have b_refuse_unfed : Binds K d_refuse_unfed ["named", "wires", "leaving"] [] := FunD.bindsN F_refuse_unfed fun _ _ _ _ _ _ us hl => match us, hl with | [_, _, _], _ => rfl
  obtain ⟨d__law_pot, F__law_pot⟩ := c.def_ 16 (d := dfn "_law_pot" sPot) rfl
  have g__law_pot := He.glo_ok X G (c.fact 16 (f := .glo "_law_pot") rfl)
  have b__law_pot : Binds K d__law_pot ["_law_script", "_law_k"] [] := FunD.bindsN F__law_pot fun _ _ _ _ _ _ us hl => match us, hl with | [_, _], _ => rfl
  obtain ⟨d__law_take, F__law_take⟩ := c.def_ 17 (d := dfn "_law_take" sLTake) rfl
  have g__law_take := He.glo_ok X G (c.fact 17 (f := .glo "_law_take") rfl)
  have b__law_take : Binds K d__law_take ["_law_pot_here", "_law_many"] [] := FunD.bindsN F__law_take fun _ _ _ _ _ _ us hl => match us, hl with | [_, _], _ => rfl
  obtain ⟨d__law_name, F__law_name⟩ := c.def_ 18 (d := dfn "_law_name" sLName) rfl
  have g__law_name := He.glo_ok X G (c.fact 18 (f := .glo "_law_name") rfl)
  have b__law_name : Binds K d__law_name ["_law_pot_here", "_law_taken"] [] := FunD.bindsN F__law_name fun _ _ _ _ _ _ us hl => match us, hl with | [_, _], _ => rfl
  obtain ⟨d__law_spec, F__law_spec⟩ := c.def_ 19 (d := dfn "_law_spec" sLSpec) rfl
  have g__law_spec := He.glo_ok X G (c.fact 19 (f := .glo "_law_spec") rfl)
  have b__law_spec : Binds K d__law_spec ["_law_pot_here"] [] := FunD.bindsN F__law_spec fun _ _ _ _ _ _ us hl => match us, hl with | [_], _ => rfl
  obtain ⟨d__law_takes, F__law_takes⟩ := c.def_ 20 (d := dfn "_law_takes" sLTakes) rfl
  have g__law_takes := He.glo_ok X G (c.fact 20 (f := .glo "_law_takes") rfl)
  have b__law_takes : Binds K d__law_takes ["_law_spec_here"] [] := FunD.bindsN F__law_takes fun _ _ _ _ _ _ us hl => match us, hl with | [_], _ => rfl
  obtain ⟨d__law_made, F__law_made⟩ := c.def_ 21 (d := dfn "_law_made" sLMade) rfl
  have g__law_made := He.glo_ok X G (c.fact 21 (f := .glo "_law_made") rfl)
  have b__law_made : Binds K d__law_made ["_law_spec_here"] [] := FunD.bindsN F__law_made fun _ _ _ _ _ _ us hl => match us, hl with | [_], _ => rfl
  obtain ⟨d__law_turned, F__law_turned⟩ := c.def_ 22 (d := dfn "_law_turned" sLTurned) rfl
  have g__law_turned := He.glo_ok X G (c.fact 22 (f := .glo "_law_turned") rfl)
  have b__law_turned : Binds K d__law_turned ["_law_pot_here", "_law_row"] [] := FunD.bindsN F__law_turned fun _ _ _ _ _ _ us hl => match us, hl with | [_, _], _ => rfl
  obtain ⟨d__law_sources, F__law_sources⟩ := c.def_ 23 (d := dfn "_law_sources" sLSources) rfl
  have g__law_sources := He.glo_ok X G (c.fact 23 (f := .glo "_law_sources") rfl)
  have b__law_sources : Binds K d__law_sources ["_law_knots"] [] := FunD.bindsN F__law_sources fun _ _ _ _ _ _ us hl => match us, hl with | [_], _ => rfl
  obtain ⟨d__law_pick, F__law_pick⟩ := c.def_ 24 (d := dfn "_law_pick" sLPick) rfl
  have g__law_pick := He.glo_ok X G (c.fact 24 (f := .glo "_law_pick") rfl)
  have b__law_pick : Binds K d__law_pick ["_law_pot_here", "_law_some"] [] := FunD.bindsN F__law_pick fun _ _ _ _ _ _ us hl => match us, hl with | [_, _], _ => rfl
  obtain ⟨d__law_drawn, F__law_drawn⟩ := c.def_ 25 (d := dfn "_law_drawn" sLDrawn) rfl
  have g__law_drawn := He.glo_ok X G (c.fact 25 (f := .glo "_law_drawn") rfl)
  have b__law_drawn : Binds K d__law_drawn ["_law_pot_here"] [] := FunD.bindsN F__law_drawn fun _ _ _ _ _ _ us hl => match us, hl with | [_], _ => rfl
  obtain ⟨d__law_pairs, F__law_pairs⟩ := c.def_ 26 (d := dfn "_law_pairs" sLPairs) rfl
  have g__law_pairs := He.glo_ok X G (c.fact 26 (f := .glo "_law_pairs") rfl)
  have b__law_pairs : Binds K d__law_pairs ["_law_knots"] [] := FunD.bindsN F__law_pairs fun _ _ _ _ _ _ us hl => match us, hl with | [_], _ => rfl
  obtain ⟨d__law_gives, F__law_gives⟩ := c.def_ 27 (d := dfn "_law_gives" sLGives) rfl
  have g__law_gives := He.glo_ok X G (c.fact 27 (f := .glo "_law_gives") rfl)
  have b__law_gives : Binds K d__law_gives ["_law_spec_here"] [] := FunD.bindsN F__law_gives fun _ _ _ _ _ _ us hl => match us, hl with | [_], _ => rfl
  obtain ⟨d__law_like, F__law_like⟩ := c.def_ 28 (d := dfn "_law_like" sLLike) rfl
  have g__law_like := He.glo_ok X G (c.fact 28 (f := .glo "_law_like") rfl)
  have b__law_like : Binds K d__law_like ["_law_pot_here", "_law_spec_here"] [] := FunD.bindsN F__law_like fun _ _ _ _ _ _ us hl => match us, hl with | [_, _], _ => rfl
  obtain ⟨d__law_is, F__law_is⟩ := c.def_ 29 (d := dfn "_law_is" sLIs) rfl
  have g__law_is := He.glo_ok X G (c.fact 29 (f := .glo "_law_is") rfl)
  have b__law_is : Binds K d__law_is ["_law_web", "_law_knots", "_law_cords"] [] := FunD.bindsN F__law_is fun _ _ _ _ _ _ us hl => match us, hl with | [_, _, _], _ => rfl
  obtain ⟨d__law_told, F__law_told⟩ := c.def_ 30 (d := dfn "_law_told" sLTold) rfl
  have g__law_told := He.glo_ok X G (c.fact 30 (f := .glo "_law_told") rfl)
  have b__law_told : Binds K d__law_told ["_law_web", "_law_way", "_law_tag", "_law_thing"] [] := FunD.bindsN F__law_told fun _ _ _ _ _ _ us hl => match us, hl with | [_, _, _, _], _ => rfl
  obtain ⟨d__law_put_right, F__law_put_right⟩ := c.def_ 31 (d := dfn "_law_put_right" sLPutRight) rfl
  have g__law_put_right := He.glo_ok X G (c.fact 31 (f := .glo "_law_put_right") rfl)
  have b__law_put_right : Binds K d__law_put_right ["_law_pot_here", "_law_web", "_law_knots", "_law_cords"] [] := FunD.bindsN F__law_put_right fun _ _ _ _ _ _ us hl => match us, hl with | [_, _, _, _], _ => rfl
  obtain ⟨d__law_delayed_right, F__law_delayed_right⟩ := c.def_ 32 (d := dfn "_law_delayed_right" sLDelayedRight) rfl
  have g__law_delayed_right := He.glo_ok X G (c.fact 32 (f := .glo "_law_delayed_right") rfl)
  have b__law_delayed_right : Binds K d__law_delayed_right ["_law_pot_here", "_law_web", "_law_knots", "_law_cords"] [] := FunD.bindsN F__law_delayed_right fun _ _ _ _ _ _ us hl => match us, hl with | [_, _, _, _], _ => rfl
  obtain ⟨d_law, F_law⟩ := c.def_ 33 (d := dfn "law" sLaw) rfl
  have e := hfa.symm.trans (He.glo_ok X G (c.fact 33 (f := .glo "law") rfl))
  cases e
  have bL := FunD.bindsA (ps := ["_law_script"]) F_law fun _ _ _ _ _ _ us hl => match us, hl with | [_], _ => rfl
  obtain ⟨d_Node_DinitD, F_Node_DinitD⟩ := c.def_ 34 (d := (⟨("Node", some "__init__"), "__init__", "Node.__init__", defArgs sNodeInit, defBody sNodeInit, defScope sNodeInit, [], []⟩ : He.DefD)) rfl
  have b_Node_DinitD : Binds K d_Node_DinitD ["self", "arguments", "late", "begin"] [] := FunD.bindsN F_Node_DinitD fun _ _ _ _ _ _ us hl => match us, hl with | [_, _, _, _], _ => rfl
  obtain ⟨d_Gain_DinitD, F_Gain_DinitD⟩ := c.def_ 35 (d := (⟨("Gain", some "__init__"), "__init__", "Gain.__init__", defArgs sGainInit, defBody sGainInit, defScope sGainInit, [], [("late", .int 0), ("begin", .int 0)]⟩ : He.DefD)) rfl
  obtain ⟨d_Gain_takes, F_Gain_takes⟩ := c.def_ 36 (d := (⟨("Gain", some "takes"), "takes", "Gain.takes", defArgs sGainTakes, defBody sGainTakes, defScope sGainTakes, [], []⟩ : He.DefD)) rfl
  have b_Gain_takes : Binds K d_Gain_takes ["self"] [] := FunD.bindsN F_Gain_takes fun _ _ _ _ _ _ us hl => match us, hl with | [_], _ => rfl
  obtain ⟨d_Gain_DeqD, F_Gain_DeqD⟩ := c.def_ 37 (d := (⟨("Gain", some "__eq__"), "__eq__", "Gain.__eq__", defArgs sGainEq, defBody sGainEq, defScope sGainEq, [], []⟩ : He.DefD)) rfl
  have b_Gain_DeqD : Binds K d_Gain_DeqD ["self", "other"] [] := FunD.bindsN F_Gain_DeqD fun _ _ _ _ _ _ us hl => match us, hl with | [_, _], _ => rfl
  obtain ⟨d_Mix_DinitD, F_Mix_DinitD⟩ := c.def_ 38 (d := (⟨("Mix", some "__init__"), "__init__", "Mix.__init__", defArgs sMixInit, defBody sMixInit, defScope sMixInit, [], [("late", .int 0), ("begin", .int 0)]⟩ : He.DefD)) rfl
  obtain ⟨d_Mix_takes, F_Mix_takes⟩ := c.def_ 39 (d := (⟨("Mix", some "takes"), "takes", "Mix.takes", defArgs sMixTakes, defBody sMixTakes, defScope sMixTakes, [], []⟩ : He.DefD)) rfl
  have b_Mix_takes : Binds K d_Mix_takes ["self"] [] := FunD.bindsN F_Mix_takes fun _ _ _ _ _ _ us hl => match us, hl with | [_], _ => rfl
  obtain ⟨d_Mix_DeqD, F_Mix_DeqD⟩ := c.def_ 40 (d := (⟨("Mix", some "__eq__"), "__eq__", "Mix.__eq__", defArgs sMixEq, defBody sMixEq, defScope sMixEq, [], []⟩ : He.DefD)) rfl
  have b_Mix_DeqD : Binds K d_Mix_DeqD ["self", "other"] [] := FunD.bindsN F_Mix_DeqD fun _ _ _ _ _ _ us hl => match us, hl with | [_, _], _ => rfl
  obtain ⟨d_Times_DinitD, F_Times_DinitD⟩ := c.def_ 41 (d := (⟨("Times", some "__init__"), "__init__", "Times.__init__", defArgs sTimesInit, defBody sTimesInit, defScope sTimesInit, [], [("late", .int 0), ("begin", .int 0)]⟩ : He.DefD)) rfl
  obtain ⟨d_Times_takes, F_Times_takes⟩ := c.def_ 42 (d := (⟨("Times", some "takes"), "takes", "Times.takes", defArgs sTimesTakes, defBody sTimesTakes, defScope sTimesTakes, [], []⟩ : He.DefD)) rfl
  have b_Times_takes : Binds K d_Times_takes ["self"] [] := FunD.bindsN F_Times_takes fun _ _ _ _ _ _ us hl => match us, hl with | [_], _ => rfl
  obtain ⟨d_Times_DeqD, F_Times_DeqD⟩ := c.def_ 43 (d := (⟨("Times", some "__eq__"), "__eq__", "Times.__eq__", defArgs sTimesEq, defBody sTimesEq, defScope sTimesEq, [], []⟩ : He.DefD)) rfl
  have b_Times_DeqD : Binds K d_Times_DeqD ["self", "other"] [] := FunD.bindsN F_Times_DeqD fun _ _ _ _ _ _ us hl => match us, hl with | [_, _], _ => rfl
  obtain ⟨d_Choose_DinitD, F_Choose_DinitD⟩ := c.def_ 44 (d := (⟨("Choose", some "__init__"), "__init__", "Choose.__init__", defArgs sChooseInit, defBody sChooseInit, defScope sChooseInit, [], [("late", .int 0), ("begin", .int 0)]⟩ : He.DefD)) rfl
  obtain ⟨d_Choose_takes, F_Choose_takes⟩ := c.def_ 45 (d := (⟨("Choose", some "takes"), "takes", "Choose.takes", defArgs sChooseTakes, defBody sChooseTakes, defScope sChooseTakes, [], []⟩ : He.DefD)) rfl
  have b_Choose_takes : Binds K d_Choose_takes ["self"] [] := FunD.bindsN F_Choose_takes fun _ _ _ _ _ _ us hl => match us, hl with | [_], _ => rfl
  obtain ⟨d_Choose_DeqD, F_Choose_DeqD⟩ := c.def_ 46 (d := (⟨("Choose", some "__eq__"), "__eq__", "Choose.__eq__", defArgs sChooseEq, defBody sChooseEq, defScope sChooseEq, [], []⟩ : He.DefD)) rfl
  have b_Choose_DeqD : Binds K d_Choose_DeqD ["self", "other"] [] := FunD.bindsN F_Choose_DeqD fun _ _ _ _ _ _ us hl => match us, hl with | [_, _], _ => rfl
  obtain ⟨d_Up_DinitD, F_Up_DinitD⟩ := c.def_ 47 (d := (⟨("Up", some "__init__"), "__init__", "Up.__init__", defArgs sUpInit, defBody sUpInit, defScope sUpInit, [.bl false], [("late", .int 0), ("begin", .int 0)]⟩ : He.DefD)) rfl
  obtain ⟨d_Up_takes, F_Up_takes⟩ := c.def_ 48 (d := (⟨("Up", some "takes"), "takes", "Up.takes", defArgs sUpTakes, defBody sUpTakes, defScope sUpTakes, [], []⟩ : He.DefD)) rfl
  have b_Up_takes : Binds K d_Up_takes ["self"] [] := FunD.bindsN F_Up_takes fun _ _ _ _ _ _ us hl => match us, hl with | [_], _ => rfl
  obtain ⟨d_Up_DeqD, F_Up_DeqD⟩ := c.def_ 49 (d := (⟨("Up", some "__eq__"), "__eq__", "Up.__eq__", defArgs sUpEq, defBody sUpEq, defScope sUpEq, [], []⟩ : He.DefD)) rfl
  have b_Up_DeqD : Binds K d_Up_DeqD ["self", "other"] [] := FunD.bindsN F_Up_DeqD fun _ _ _ _ _ _ us hl => match us, hl with | [_, _], _ => rfl
  obtain ⟨d_Down_DinitD, F_Down_DinitD⟩ := c.def_ 50 (d := (⟨("Down", some "__init__"), "__init__", "Down.__init__", defArgs sDownInit, defBody sDownInit, defScope sDownInit, [], [("late", .int 0), ("begin", .int 0)]⟩ : He.DefD)) rfl
  obtain ⟨d_Down_takes, F_Down_takes⟩ := c.def_ 51 (d := (⟨("Down", some "takes"), "takes", "Down.takes", defArgs sDownTakes, defBody sDownTakes, defScope sDownTakes, [], []⟩ : He.DefD)) rfl
  have b_Down_takes : Binds K d_Down_takes ["self"] [] := FunD.bindsN F_Down_takes fun _ _ _ _ _ _ us hl => match us, hl with | [_], _ => rfl
  obtain ⟨d_Down_DeqD, F_Down_DeqD⟩ := c.def_ 52 (d := (⟨("Down", some "__eq__"), "__eq__", "Down.__eq__", defArgs sDownEq, defBody sDownEq, defScope sDownEq, [], []⟩ : He.DefD)) rfl
  have b_Down_DeqD : Binds K d_Down_DeqD ["self", "other"] [] := FunD.bindsN F_Down_DeqD fun _ _ _ _ _ _ us hl => match us, hl with | [_, _], _ => rfl
  obtain ⟨d_Resample_DinitD, F_Resample_DinitD⟩ := c.def_ 53 (d := (⟨("Resample", some "__init__"), "__init__", "Resample.__init__", defArgs sResampleInit, defBody sResampleInit, defScope sResampleInit, [], [("late", .int 0), ("begin", .int 0)]⟩ : He.DefD)) rfl
  obtain ⟨d_Resample_takes, F_Resample_takes⟩ := c.def_ 54 (d := (⟨("Resample", some "takes"), "takes", "Resample.takes", defArgs sResampleTakes, defBody sResampleTakes, defScope sResampleTakes, [], []⟩ : He.DefD)) rfl
  have b_Resample_takes : Binds K d_Resample_takes ["self"] [] := FunD.bindsN F_Resample_takes fun _ _ _ _ _ _ us hl => match us, hl with | [_], _ => rfl
  obtain ⟨d_Resample_DeqD, F_Resample_DeqD⟩ := c.def_ 55 (d := (⟨("Resample", some "__eq__"), "__eq__", "Resample.__eq__", defArgs sResampleEq, defBody sResampleEq, defScope sResampleEq, [], []⟩ : He.DefD)) rfl
  have b_Resample_DeqD : Binds K d_Resample_DeqD ["self", "other"] [] := FunD.bindsN F_Resample_DeqD fun _ _ _ _ _ _ us hl => match us, hl with | [_, _], _ => rfl
  obtain ⟨d_Own_DinitD, F_Own_DinitD⟩ := c.def_ 56 (d := (⟨("Own", some "__init__"), "__init__", "Own.__init__", defArgs sOwnInit, defBody sOwnInit, defScope sOwnInit, [.adr ownT, .int 1, .int 0], [("late", .int 0), ("begin", .int 0)]⟩ : He.DefD)) rfl
  obtain ⟨d_Own_takes, F_Own_takes⟩ := c.def_ 57 (d := (⟨("Own", some "takes"), "takes", "Own.takes", defArgs sOwnTakes, defBody sOwnTakes, defScope sOwnTakes, [], []⟩ : He.DefD)) rfl
  have b_Own_takes : Binds K d_Own_takes ["self"] [] := FunD.bindsN F_Own_takes fun _ _ _ _ _ _ us hl => match us, hl with | [_], _ => rfl
  obtain ⟨d_Own_DeqD, F_Own_DeqD⟩ := c.def_ 58 (d := (⟨("Own", some "__eq__"), "__eq__", "Own.__eq__", defArgs sOwnEq, defBody sOwnEq, defScope sOwnEq, [], []⟩ : He.DefD)) rfl
  have b_Own_DeqD : Binds K d_Own_DeqD ["self", "other"] [] := FunD.bindsN F_Own_DeqD fun _ _ _ _ _ _ us hl => match us, hl with | [_, _], _ => rfl
  obtain ⟨d_Outlet_DinitD, F_Outlet_DinitD⟩ := c.def_ 59 (d := (⟨("Outlet", some "__init__"), "__init__", "Outlet.__init__", defArgs sOutletInit, defBody sOutletInit, defScope sOutletInit, [], []⟩ : He.DefD)) rfl
  have b_Outlet_DinitD : Binds K d_Outlet_DinitD ["self"] [] := FunD.bindsN F_Outlet_DinitD fun _ _ _ _ _ _ us hl => match us, hl with | [_], _ => rfl
  obtain ⟨d_Outlet_takes, F_Outlet_takes⟩ := c.def_ 60 (d := (⟨("Outlet", some "takes"), "takes", "Outlet.takes", defArgs sOutletTakes, defBody sOutletTakes, defScope sOutletTakes, [], []⟩ : He.DefD)) rfl
  have b_Outlet_takes : Binds K d_Outlet_takes ["self"] [] := FunD.bindsN F_Outlet_takes fun _ _ _ _ _ _ us hl => match us, hl with | [_], _ => rfl
  obtain ⟨d_Outlet_DeqD, F_Outlet_DeqD⟩ := c.def_ 61 (d := (⟨("Outlet", some "__eq__"), "__eq__", "Outlet.__eq__", defArgs sOutletEq, defBody sOutletEq, defScope sOutletEq, [], []⟩ : He.DefD)) rfl
  have b_Outlet_DeqD : Binds K d_Outlet_DeqD ["self", "other"] [] := FunD.bindsN F_Outlet_DeqD fun _ _ _ _ _ _ us hl => match us, hl with | [_, _], _ => rfl
  obtain ⟨d_Inlet_DinitD, F_Inlet_DinitD⟩ := c.def_ 62 (d := (⟨("Inlet", some "__init__"), "__init__", "Inlet.__init__", defArgs sInletInit, defBody sInletInit, defScope sInletInit, [], []⟩ : He.DefD)) rfl
  have b_Inlet_DinitD : Binds K d_Inlet_DinitD ["self"] [] := FunD.bindsN F_Inlet_DinitD fun _ _ _ _ _ _ us hl => match us, hl with | [_], _ => rfl
  obtain ⟨d_Inlet_takes, F_Inlet_takes⟩ := c.def_ 63 (d := (⟨("Inlet", some "takes"), "takes", "Inlet.takes", defArgs sInletTakes, defBody sInletTakes, defScope sInletTakes, [], []⟩ : He.DefD)) rfl
  have b_Inlet_takes : Binds K d_Inlet_takes ["self"] [] := FunD.bindsN F_Inlet_takes fun _ _ _ _ _ _ us hl => match us, hl with | [_], _ => rfl
  obtain ⟨d_Inlet_DeqD, F_Inlet_DeqD⟩ := c.def_ 64 (d := (⟨("Inlet", some "__eq__"), "__eq__", "Inlet.__eq__", defArgs sInletEq, defBody sInletEq, defScope sInletEq, [], []⟩ : He.DefD)) rfl
  have b_Inlet_DeqD : Binds K d_Inlet_DeqD ["self", "other"] [] := FunD.bindsN F_Inlet_DeqD fun _ _ _ _ _ _ us hl => match us, hl with | [_, _], _ => rfl
  obtain ⟨d_Weave_DinitD, F_Weave_DinitD⟩ := c.def_ 65 (d := (⟨("Weave", some "__init__"), "__init__", "Weave.__init__", defArgs sWeaveInit, defBody sWeaveInit, defScope sWeaveInit, [], []⟩ : He.DefD)) rfl
  have b_Weave_DinitD : Binds K d_Weave_DinitD ["self", "nodes", "wires"] [] := FunD.bindsN F_Weave_DinitD fun _ _ _ _ _ _ us hl => match us, hl with | [_, _, _], _ => rfl
  obtain ⟨d_Weave_names, F_Weave_names⟩ := c.def_ 66 (d := (⟨("Weave", some "names"), "names", "Weave.names", defArgs sWeaveNames, defBody sWeaveNames, defScope sWeaveNames, [], []⟩ : He.DefD)) rfl
  have b_Weave_names : Binds K d_Weave_names ["self"] [] := FunD.bindsN F_Weave_names fun _ _ _ _ _ _ us hl => match us, hl with | [_], _ => rfl
  obtain ⟨d_Weave_wires, F_Weave_wires⟩ := c.def_ 67 (d := (⟨("Weave", some "wires"), "wires", "Weave.wires", defArgs sWeaveWires, defBody sWeaveWires, defScope sWeaveWires, [], []⟩ : He.DefD)) rfl
  have b_Weave_wires : Binds K d_Weave_wires ["self"] [] := FunD.bindsN F_Weave_wires fun _ _ _ _ _ _ us hl => match us, hl with | [_], _ => rfl
  obtain ⟨d_Weave_node, F_Weave_node⟩ := c.def_ 68 (d := (⟨("Weave", some "node"), "node", "Weave.node", defArgs sWeaveNode, defBody sWeaveNode, defScope sWeaveNode, [], []⟩ : He.DefD)) rfl
  have b_Weave_node : Binds K d_Weave_node ["self", "name"] [] := FunD.bindsN F_Weave_node fun _ _ _ _ _ _ us hl => match us, hl with | [_, _], _ => rfl
  obtain ⟨d_Weave_check_known, F_Weave_check_known⟩ := c.def_ 69 (d := (⟨("Weave", some "check_known"), "check_known", "Weave.check_known", defArgs sWeaveCheckKnown, defBody sWeaveCheckKnown, defScope sWeaveCheckKnown, [], []⟩ : He.DefD)) rfl
  have b_Weave_check_known : Binds K d_Weave_check_known ["self", "name"] [] := FunD.bindsN F_Weave_check_known fun _ _ _ _ _ _ us hl => match us, hl with | [_, _], _ => rfl
  obtain ⟨d_Weave_pairs, F_Weave_pairs⟩ := c.def_ 70 (d := (⟨("Weave", some "pairs"), "pairs", "Weave.pairs", defArgs sWeavePairs, defBody sWeavePairs, defScope sWeavePairs, [], []⟩ : He.DefD)) rfl
  have b_Weave_pairs : Binds K d_Weave_pairs ["self"] [] := FunD.bindsN F_Weave_pairs fun _ _ _ _ _ _ us hl => match us, hl with | [_], _ => rfl
  obtain ⟨d_Weave_put, F_Weave_put⟩ := c.def_ 71 (d := (⟨("Weave", some "put"), "put", "Weave.put", defArgs sWeavePut, defBody sWeavePut, defScope sWeavePut, [], []⟩ : He.DefD)) rfl
  have b_Weave_put : Binds K d_Weave_put ["self", "name", "node"] [] := FunD.bindsN F_Weave_put fun _ _ _ _ _ _ us hl => match us, hl with | [_, _, _], _ => rfl
  obtain ⟨d_Weave_delayed, F_Weave_delayed⟩ := c.def_ 72 (d := (⟨("Weave", some "delayed"), "delayed", "Weave.delayed", defArgs sWeaveDelayed, defBody sWeaveDelayed, defScope sWeaveDelayed, [], []⟩ : He.DefD)) rfl
  have b_Weave_delayed : Binds K d_Weave_delayed ["self", "delays"] [] := FunD.bindsN F_Weave_delayed fun _ _ _ _ _ _ us hl => match us, hl with | [_, _], _ => rfl
  obtain ⟨d_Weave_DlenD, F_Weave_DlenD⟩ := c.def_ 73 (d := (⟨("Weave", some "__len__"), "__len__", "Weave.__len__", defArgs sWeaveLen, defBody sWeaveLen, defScope sWeaveLen, [], []⟩ : He.DefD)) rfl
  have b_Weave_DlenD : Binds K d_Weave_DlenD ["self"] [] := FunD.bindsN F_Weave_DlenD fun _ _ _ _ _ _ us hl => match us, hl with | [_], _ => rfl
  obtain ⟨d_NoNode_DinitD, F_NoNode_DinitD⟩ := c.def_ 74 (d := (⟨("NoNode", some "__init__"), "__init__", "NoNode.__init__", defArgs sNoNodeInit, defBody sNoNodeInit, defScope sNoNodeInit, [], []⟩ : He.DefD)) rfl
  have b_NoNode_DinitD : Binds K d_NoNode_DinitD ["self", "field"] [] := FunD.bindsN F_NoNode_DinitD fun _ _ _ _ _ _ us hl => match us, hl with | [_, _], _ => rfl
  obtain ⟨d_Unlike_DinitD, F_Unlike_DinitD⟩ := c.def_ 75 (d := (⟨("Unlike", some "__init__"), "__init__", "Unlike.__init__", defArgs sUnlikeInit, defBody sUnlikeInit, defScope sUnlikeInit, [], []⟩ : He.DefD)) rfl
  have b_Unlike_DinitD : Binds K d_Unlike_DinitD ["self", "who"] [] := FunD.bindsN F_Unlike_DinitD fun _ _ _ _ _ _ us hl => match us, hl with | [_, _], _ => rfl
  obtain ⟨d_NoDelay_DinitD, F_NoDelay_DinitD⟩ := c.def_ 76 (d := (⟨("NoDelay", some "__init__"), "__init__", "NoDelay.__init__", defArgs sNoDelayInit, defBody sNoDelayInit, defScope sNoDelayInit, [], []⟩ : He.DefD)) rfl
  have b_NoDelay_DinitD : Binds K d_NoDelay_DinitD ["self", "wire"] [] := FunD.bindsN F_NoDelay_DinitD fun _ _ _ _ _ _ us hl => match us, hl with | [_, _], _ => rfl
  obtain ⟨d_Gain_gives, F_Gain_gives⟩ := c.def_ 77 (d := (⟨("Gain", some "gives"), "gives", "Gain.gives", defArgs sGainGives, defBody sGainGives, defScope sGainGives, [], []⟩ : He.DefD)) rfl
  have b_Gain_gives : Binds K d_Gain_gives ["self"] [] := FunD.bindsN F_Gain_gives fun _ _ _ _ _ _ us hl => match us, hl with | [_], _ => rfl
  obtain ⟨d_Mix_gives, F_Mix_gives⟩ := c.def_ 78 (d := (⟨("Mix", some "gives"), "gives", "Mix.gives", defArgs sMixGives, defBody sMixGives, defScope sMixGives, [], []⟩ : He.DefD)) rfl
  have b_Mix_gives : Binds K d_Mix_gives ["self"] [] := FunD.bindsN F_Mix_gives fun _ _ _ _ _ _ us hl => match us, hl with | [_], _ => rfl
  obtain ⟨d_Times_gives, F_Times_gives⟩ := c.def_ 79 (d := (⟨("Times", some "gives"), "gives", "Times.gives", defArgs sTimesGives, defBody sTimesGives, defScope sTimesGives, [], []⟩ : He.DefD)) rfl
  have b_Times_gives : Binds K d_Times_gives ["self"] [] := FunD.bindsN F_Times_gives fun _ _ _ _ _ _ us hl => match us, hl with | [_], _ => rfl
  obtain ⟨d_Choose_gives, F_Choose_gives⟩ := c.def_ 80 (d := (⟨("Choose", some "gives"), "gives", "Choose.gives", defArgs sChooseGives, defBody sChooseGives, defScope sChooseGives, [], []⟩ : He.DefD)) rfl
  have b_Choose_gives : Binds K d_Choose_gives ["self"] [] := FunD.bindsN F_Choose_gives fun _ _ _ _ _ _ us hl => match us, hl with | [_], _ => rfl
  obtain ⟨d_Up_gives, F_Up_gives⟩ := c.def_ 81 (d := (⟨("Up", some "gives"), "gives", "Up.gives", defArgs sUpGives, defBody sUpGives, defScope sUpGives, [], []⟩ : He.DefD)) rfl
  have b_Up_gives : Binds K d_Up_gives ["self"] [] := FunD.bindsN F_Up_gives fun _ _ _ _ _ _ us hl => match us, hl with | [_], _ => rfl
  obtain ⟨d_Down_gives, F_Down_gives⟩ := c.def_ 82 (d := (⟨("Down", some "gives"), "gives", "Down.gives", defArgs sDownGives, defBody sDownGives, defScope sDownGives, [], []⟩ : He.DefD)) rfl
  have b_Down_gives : Binds K d_Down_gives ["self"] [] := FunD.bindsN F_Down_gives fun _ _ _ _ _ _ us hl => match us, hl with | [_], _ => rfl
  obtain ⟨d_Resample_gives, F_Resample_gives⟩ := c.def_ 83 (d := (⟨("Resample", some "gives"), "gives", "Resample.gives", defArgs sResampleGives, defBody sResampleGives, defScope sResampleGives, [], []⟩ : He.DefD)) rfl
  have b_Resample_gives : Binds K d_Resample_gives ["self"] [] := FunD.bindsN F_Resample_gives fun _ _ _ _ _ _ us hl => match us, hl with | [_], _ => rfl
  obtain ⟨d_Own_gives, F_Own_gives⟩ := c.def_ 84 (d := (⟨("Own", some "gives"), "gives", "Own.gives", defArgs sOwnGives, defBody sOwnGives, defScope sOwnGives, [], []⟩ : He.DefD)) rfl
  have b_Own_gives : Binds K d_Own_gives ["self"] [] := FunD.bindsN F_Own_gives fun _ _ _ _ _ _ us hl => match us, hl with | [_], _ => rfl
  obtain ⟨d_Outlet_gives, F_Outlet_gives⟩ := c.def_ 85 (d := (⟨("Outlet", some "gives"), "gives", "Outlet.gives", defArgs sOutletGives, defBody sOutletGives, defScope sOutletGives, [], []⟩ : He.DefD)) rfl
  have b_Outlet_gives : Binds K d_Outlet_gives ["self"] [] := FunD.bindsN F_Outlet_gives fun _ _ _ _ _ _ us hl => match us, hl with | [_], _ => rfl
  obtain ⟨d_Inlet_gives, F_Inlet_gives⟩ := c.def_ 86 (d := (⟨("Inlet", some "gives"), "gives", "Inlet.gives", defArgs sInletGives, defBody sInletGives, defScope sInletGives, [], []⟩ : He.DefD)) rfl
  have b_Inlet_gives : Binds K d_Inlet_gives ["self"] [] := FunD.bindsN F_Inlet_gives fun _ _ _ _ _ _ us hl => match us, hl with | [_], _ => rfl
  have z_len := He.free_ok X G (c.fact 34 (f := .free "len") rfl)
  have z_max := He.free_ok X G (c.fact 35 (f := .free "max") rfl)
  have z_min := He.free_ok X G (c.fact 36 (f := .free "min") rfl)
  have z_range := He.free_ok X G (c.fact 37 (f := .free "range") rfl)
  have z_isinstance := He.free_ok X G (c.fact 38 (f := .free "isinstance") rfl)
  have z_int := He.free_ok X G (c.fact 39 (f := .free "int") rfl)
  have z_bool := He.free_ok X G (c.fact 40 (f := .free "bool") rfl)
  have z_list := He.free_ok X G (c.fact 41 (f := .free "list") rfl)
  have z_tuple := He.free_ok X G (c.fact 42 (f := .free "tuple") rfl)
  have z_str := He.free_ok X G (c.fact 43 (f := .free "str") rfl)
  have z_repr := He.free_ok X G (c.fact 44 (f := .free "repr") rfl)
  have z_all := He.free_ok X G (c.fact 45 (f := .free "all") rfl)
  have z_divmod := He.free_ok X G (c.fact 46 (f := .free "divmod") rfl)
  have z_enumerate := He.free_ok X G (c.fact 47 (f := .free "enumerate") rfl)
  have z_zip := He.free_ok X G (c.fact 48 (f := .free "zip") rfl)
  have z_MOST_LATE := He.int_ok X G (c.fact 49 (f := .int "MOST_LATE" 99) rfl)
  have z_MOST_BEGIN := He.int_ok X G (c.fact 50 (f := .int "MOST_BEGIN" 9999) rfl)
  have z_MOST_MIXED := He.int_ok X G (c.fact 51 (f := .int "MOST_MIXED" 8) rfl)
  have z_MOST_OWN_PLACES := He.int_ok X G (c.fact 52 (f := .int "MOST_OWN_PLACES" 4) rfl)
  have z_MOST_OWN_SAMPLES := He.int_ok X G (c.fact 53 (f := .int "MOST_OWN_SAMPLES" 8) rfl)
  have z_MOST_NODES := He.int_ok X G (c.fact 54 (f := .int "MOST_NODES" 24) rfl)
  have z_MOST_WIRES := He.int_ok X G (c.fact 55 (f := .int "MOST_WIRES" 48) rfl)
  have z_MOST_DELAY := He.int_ok X G (c.fact 56 (f := .int "MOST_DELAY" 9999) rfl)
  have z_MOST_TAPS := He.int_ok X G (c.fact 57 (f := .int "MOST_TAPS" 12) rfl)
  have z_MOST_RATE := He.int_ok X G (c.fact 58 (f := .int "MOST_RATE" 8) rfl)
  have z_LONGEST_NAME := He.int_ok X G (c.fact 59 (f := .int "LONGEST_NAME" 8) rfl)
  have G_Node := He.glo_ok X G (c.fact 60 (f := .glo "Node") rfl)
  have G_Weave := He.glo_ok X G (c.fact 61 (f := .glo "Weave") rfl)
  have G_Gain := He.glo_ok X G (c.fact 62 (f := .glo "Gain") rfl)
  have G_Mix := He.glo_ok X G (c.fact 63 (f := .glo "Mix") rfl)
  have G_Times := He.glo_ok X G (c.fact 64 (f := .glo "Times") rfl)
  have G_Choose := He.glo_ok X G (c.fact 65 (f := .glo "Choose") rfl)
  have G_Up := He.glo_ok X G (c.fact 66 (f := .glo "Up") rfl)
  have G_Down := He.glo_ok X G (c.fact 67 (f := .glo "Down") rfl)
  have G_Resample := He.glo_ok X G (c.fact 68 (f := .glo "Resample") rfl)
  have G_Own := He.glo_ok X G (c.fact 69 (f := .glo "Own") rfl)
  have G_Outlet := He.glo_ok X G (c.fact 70 (f := .glo "Outlet") rfl)
  have G_Inlet := He.glo_ok X G (c.fact 71 (f := .glo "Inlet") rfl)
  have G__law_deed := He.glo_ok X G (c.fact 72 (f := .glo "_law_deed") rfl)
  have G_WeaveError := He.glo_ok X G (c.fact 73 (f := .glo "WeaveError") rfl)
  have G_NoNode := He.glo_ok X G (c.fact 74 (f := .glo "NoNode") rfl)
  have G_Unlike := He.glo_ok X G (c.fact 75 (f := .glo "Unlike") rfl)
  have G_NoDelay := He.glo_ok X G (c.fact 76 (f := .glo "NoDelay") rfl)
  have G_Unknown := He.glo_ok X G (c.fact 77 (f := .glo "Unknown") rfl)
  have c_Gain := He.cls_ok (c.fact 78 (f := .cls "Gain") rfl)
  have n_Gain_made := He.noat_ok (c.fact 79 (f := .noat "Gain" "made") rfl)
  have n_Gain_late_by := He.noat_ok (c.fact 80 (f := .noat "Gain" "late_by") rfl)
  have n_Gain_begin_at := He.noat_ok (c.fact 81 (f := .noat "Gain" "begin_at") rfl)
  have n_Gain_by := He.noat_ok (c.fact 82 (f := .noat "Gain" "by") rfl)
  have mk_Gain := He.mkr_ok (c.fact 83 (f := .mkr "Gain") rfl)
  have m_Gain_takes := He.meth_ok (c.fact 84 (f := .meth "Gain" "takes") rfl)
  have m_Gain_gives := He.meth_ok (c.fact 85 (f := .meth "Gain" "gives") rfl)
  have c_Mix := He.cls_ok (c.fact 86 (f := .cls "Mix") rfl)
  have n_Mix_made := He.noat_ok (c.fact 87 (f := .noat "Mix" "made") rfl)
  have n_Mix_late_by := He.noat_ok (c.fact 88 (f := .noat "Mix" "late_by") rfl)
  have n_Mix_begin_at := He.noat_ok (c.fact 89 (f := .noat "Mix" "begin_at") rfl)
  have n_Mix_many := He.noat_ok (c.fact 90 (f := .noat "Mix" "many") rfl)
  have mk_Mix := He.mkr_ok (c.fact 91 (f := .mkr "Mix") rfl)
  have m_Mix_takes := He.meth_ok (c.fact 92 (f := .meth "Mix" "takes") rfl)
  have m_Mix_gives := He.meth_ok (c.fact 93 (f := .meth "Mix" "gives") rfl)
  have c_Times := He.cls_ok (c.fact 94 (f := .cls "Times") rfl)
  have n_Times_made := He.noat_ok (c.fact 95 (f := .noat "Times" "made") rfl)
  have n_Times_late_by := He.noat_ok (c.fact 96 (f := .noat "Times" "late_by") rfl)
  have n_Times_begin_at := He.noat_ok (c.fact 97 (f := .noat "Times" "begin_at") rfl)
  have mk_Times := He.mkr_ok (c.fact 98 (f := .mkr "Times") rfl)
  have m_Times_takes := He.meth_ok (c.fact 99 (f := .meth "Times" "takes") rfl)
  have m_Times_gives := He.meth_ok (c.fact 100 (f := .meth "Times" "gives") rfl)
  have c_Choose := He.cls_ok (c.fact 101 (f := .cls "Choose") rfl)
  have n_Choose_made := He.noat_ok (c.fact 102 (f := .noat "Choose" "made") rfl)
  have n_Choose_late_by := He.noat_ok (c.fact 103 (f := .noat "Choose" "late_by") rfl)
  have n_Choose_begin_at := He.noat_ok (c.fact 104 (f := .noat "Choose" "begin_at") rfl)
  have mk_Choose := He.mkr_ok (c.fact 105 (f := .mkr "Choose") rfl)
  have m_Choose_takes := He.meth_ok (c.fact 106 (f := .meth "Choose" "takes") rfl)
  have m_Choose_gives := He.meth_ok (c.fact 107 (f := .meth "Choose" "gives") rfl)
  have c_Up := He.cls_ok (c.fact 108 (f := .cls "Up") rfl)
  have n_Up_made := He.noat_ok (c.fact 109 (f := .noat "Up" "made") rfl)
  have n_Up_late_by := He.noat_ok (c.fact 110 (f := .noat "Up" "late_by") rfl)
  have n_Up_begin_at := He.noat_ok (c.fact 111 (f := .noat "Up" "begin_at") rfl)
  have n_Up_many := He.noat_ok (c.fact 112 (f := .noat "Up" "many") rfl)
  have n_Up_hold := He.noat_ok (c.fact 113 (f := .noat "Up" "hold") rfl)
  have mk_Up := He.mkr_ok (c.fact 114 (f := .mkr "Up") rfl)
  have m_Up_takes := He.meth_ok (c.fact 115 (f := .meth "Up" "takes") rfl)
  have m_Up_gives := He.meth_ok (c.fact 116 (f := .meth "Up" "gives") rfl)
  have c_Down := He.cls_ok (c.fact 117 (f := .cls "Down") rfl)
  have n_Down_made := He.noat_ok (c.fact 118 (f := .noat "Down" "made") rfl)
  have n_Down_late_by := He.noat_ok (c.fact 119 (f := .noat "Down" "late_by") rfl)
  have n_Down_begin_at := He.noat_ok (c.fact 120 (f := .noat "Down" "begin_at") rfl)
  have n_Down_many := He.noat_ok (c.fact 121 (f := .noat "Down" "many") rfl)
  have mk_Down := He.mkr_ok (c.fact 122 (f := .mkr "Down") rfl)
  have m_Down_takes := He.meth_ok (c.fact 123 (f := .meth "Down" "takes") rfl)
  have m_Down_gives := He.meth_ok (c.fact 124 (f := .meth "Down" "gives") rfl)
  have c_Resample := He.cls_ok (c.fact 125 (f := .cls "Resample") rfl)
  have n_Resample_made := He.noat_ok (c.fact 126 (f := .noat "Resample" "made") rfl)
  have n_Resample_late_by := He.noat_ok (c.fact 127 (f := .noat "Resample" "late_by") rfl)
  have n_Resample_begin_at := He.noat_ok (c.fact 128 (f := .noat "Resample" "begin_at") rfl)
  have n_Resample_up := He.noat_ok (c.fact 129 (f := .noat "Resample" "up") rfl)
  have n_Resample_down := He.noat_ok (c.fact 130 (f := .noat "Resample" "down") rfl)
  have n_Resample_numbers := He.noat_ok (c.fact 131 (f := .noat "Resample" "numbers") rfl)
  have mk_Resample := He.mkr_ok (c.fact 132 (f := .mkr "Resample") rfl)
  have m_Resample_takes := He.meth_ok (c.fact 133 (f := .meth "Resample" "takes") rfl)
  have m_Resample_gives := He.meth_ok (c.fact 134 (f := .meth "Resample" "gives") rfl)
  have c_Own := He.cls_ok (c.fact 135 (f := .cls "Own") rfl)
  have n_Own_made := He.noat_ok (c.fact 136 (f := .noat "Own" "made") rfl)
  have n_Own_late_by := He.noat_ok (c.fact 137 (f := .noat "Own" "late_by") rfl)
  have n_Own_begin_at := He.noat_ok (c.fact 138 (f := .noat "Own" "begin_at") rfl)
  have n_Own_deed := He.noat_ok (c.fact 139 (f := .noat "Own" "deed") rfl)
  have n_Own_taken := He.noat_ok (c.fact 140 (f := .noat "Own" "taken") rfl)
  have n_Own_given := He.noat_ok (c.fact 141 (f := .noat "Own" "given") rfl)
  have n_Own_first := He.noat_ok (c.fact 142 (f := .noat "Own" "first") rfl)
  have mk_Own := He.mkr_ok (c.fact 143 (f := .mkr "Own") rfl)
  have m_Own_takes := He.meth_ok (c.fact 144 (f := .meth "Own" "takes") rfl)
  have m_Own_gives := He.meth_ok (c.fact 145 (f := .meth "Own" "gives") rfl)
  have c_Outlet := He.cls_ok (c.fact 146 (f := .cls "Outlet") rfl)
  have n_Outlet_made := He.noat_ok (c.fact 147 (f := .noat "Outlet" "made") rfl)
  have n_Outlet_late_by := He.noat_ok (c.fact 148 (f := .noat "Outlet" "late_by") rfl)
  have n_Outlet_begin_at := He.noat_ok (c.fact 149 (f := .noat "Outlet" "begin_at") rfl)
  have mk_Outlet := He.mkr_ok (c.fact 150 (f := .mkr "Outlet") rfl)
  have m_Outlet_takes := He.meth_ok (c.fact 151 (f := .meth "Outlet" "takes") rfl)
  have m_Outlet_gives := He.meth_ok (c.fact 152 (f := .meth "Outlet" "gives") rfl)
  have c_Inlet := He.cls_ok (c.fact 153 (f := .cls "Inlet") rfl)
  have n_Inlet_made := He.noat_ok (c.fact 154 (f := .noat "Inlet" "made") rfl)
  have n_Inlet_late_by := He.noat_ok (c.fact 155 (f := .noat "Inlet" "late_by") rfl)
  have n_Inlet_begin_at := He.noat_ok (c.fact 156 (f := .noat "Inlet" "begin_at") rfl)
  have mk_Inlet := He.mkr_ok (c.fact 157 (f := .mkr "Inlet") rfl)
  have m_Inlet_takes := He.meth_ok (c.fact 158 (f := .meth "Inlet" "takes") rfl)
  have m_Inlet_gives := He.meth_ok (c.fact 159 (f := .meth "Inlet" "gives") rfl)
  have c_Weave := He.cls_ok (c.fact 160 (f := .cls "Weave") rfl)
  have n_Weave_named := He.noat_ok (c.fact 161 (f := .noat "Weave" "named") rfl)
  have n_Weave_leading := He.noat_ok (c.fact 162 (f := .noat "Weave" "leading") rfl)
  have n_Weave_laid := He.noat_ok (c.fact 163 (f := .noat "Weave" "laid") rfl)
  have n_Weave_leaving := He.noat_ok (c.fact 164 (f := .noat "Weave" "leaving") rfl)
  have mk_Weave := He.mkr_ok (c.fact 165 (f := .mkr "Weave") rfl)
  have m_Weave_names := He.meth_ok (c.fact 166 (f := .meth "Weave" "names") rfl)
  have m_Weave_wires := He.meth_ok (c.fact 167 (f := .meth "Weave" "wires") rfl)
  have m_Weave_node := He.meth_ok (c.fact 168 (f := .meth "Weave" "node") rfl)
  have m_Weave_check_known := He.meth_ok (c.fact 169 (f := .meth "Weave" "check_known") rfl)
  have m_Weave_pairs := He.meth_ok (c.fact 170 (f := .meth "Weave" "pairs") rfl)
  have m_Weave_put := He.meth_ok (c.fact 171 (f := .meth "Weave" "put") rfl)
  have m_Weave_delayed := He.meth_ok (c.fact 172 (f := .meth "Weave" "delayed") rfl)
  have z_LETTERS := He.str_ok X G (c.fact 173 (f := .str "LETTERS" "abcdefghijklmnopqrstuvwxyz") rfl)
  obtain ⟨x_iN_Gain, cx⟩ := He.ba cx
  obtain ⟨x_iS_Gain, cx⟩ := He.ba cx
  obtain ⟨x_kO_Gain, cx⟩ := He.ba cx
  obtain ⟨x_kI_Gain, cx⟩ := He.ba cx
  obtain ⟨x_eq_Gain, cx⟩ := He.ba cx
  obtain ⟨x_iN_Mix, cx⟩ := He.ba cx
  obtain ⟨x_iS_Mix, cx⟩ := He.ba cx
  obtain ⟨x_kO_Mix, cx⟩ := He.ba cx
  obtain ⟨x_kI_Mix, cx⟩ := He.ba cx
  obtain ⟨x_eq_Mix, cx⟩ := He.ba cx
  obtain ⟨x_iN_Times, cx⟩ := He.ba cx
  obtain ⟨x_iS_Times, cx⟩ := He.ba cx
  obtain ⟨x_kO_Times, cx⟩ := He.ba cx
  obtain ⟨x_kI_Times, cx⟩ := He.ba cx
  obtain ⟨x_eq_Times, cx⟩ := He.ba cx
  obtain ⟨x_iN_Choose, cx⟩ := He.ba cx
  obtain ⟨x_iS_Choose, cx⟩ := He.ba cx
  obtain ⟨x_kO_Choose, cx⟩ := He.ba cx
  obtain ⟨x_kI_Choose, cx⟩ := He.ba cx
  obtain ⟨x_eq_Choose, cx⟩ := He.ba cx
  obtain ⟨x_iN_Up, cx⟩ := He.ba cx
  obtain ⟨x_iS_Up, cx⟩ := He.ba cx
  obtain ⟨x_kO_Up, cx⟩ := He.ba cx
  obtain ⟨x_kI_Up, cx⟩ := He.ba cx
  obtain ⟨x_eq_Up, cx⟩ := He.ba cx
  obtain ⟨x_iN_Down, cx⟩ := He.ba cx
  obtain ⟨x_iS_Down, cx⟩ := He.ba cx
  obtain ⟨x_kO_Down, cx⟩ := He.ba cx
  obtain ⟨x_kI_Down, cx⟩ := He.ba cx
  obtain ⟨x_eq_Down, cx⟩ := He.ba cx
  obtain ⟨x_iN_Resample, cx⟩ := He.ba cx
  obtain ⟨x_iS_Resample, cx⟩ := He.ba cx
  obtain ⟨x_kO_Resample, cx⟩ := He.ba cx
  obtain ⟨x_kI_Resample, cx⟩ := He.ba cx
  obtain ⟨x_eq_Resample, cx⟩ := He.ba cx
  obtain ⟨x_iN_Own, cx⟩ := He.ba cx
  obtain ⟨x_iS_Own, cx⟩ := He.ba cx
  obtain ⟨x_kO_Own, cx⟩ := He.ba cx
  obtain ⟨x_kI_Own, cx⟩ := He.ba cx
  obtain ⟨x_eq_Own, cx⟩ := He.ba cx
  obtain ⟨x_iN_Outlet, cx⟩ := He.ba cx
  obtain ⟨x_iS_Outlet, cx⟩ := He.ba cx
  obtain ⟨x_kO_Outlet, cx⟩ := He.ba cx
  obtain ⟨x_kI_Outlet, cx⟩ := He.ba cx
  obtain ⟨x_eq_Outlet, cx⟩ := He.ba cx
  obtain ⟨x_iN_Inlet, cx⟩ := He.ba cx
  obtain ⟨x_iS_Inlet, cx⟩ := He.ba cx
  obtain ⟨x_kO_Inlet, cx⟩ := He.ba cx
  obtain ⟨x_kI_Inlet, cx⟩ := He.ba cx
  obtain ⟨x_eq_Inlet, cx⟩ := He.ba cx
  obtain ⟨x_wl, cx⟩ := He.ba cx
  obtain ⟨x_ini_NoNode, cx⟩ := He.ba cx
  obtain ⟨x_ex_NoNode, cx⟩ := He.ba cx
  obtain ⟨x_te_NoNode, cx⟩ := He.ba cx
  obtain ⟨x_xf_NoNode, cx⟩ := He.ba cx
  obtain ⟨x_k_NoNode_NoNode, cx⟩ := He.ba cx
  obtain ⟨x_k_NoNode_Unlike, cx⟩ := He.ba cx
  obtain ⟨x_k_NoNode_NoDelay, cx⟩ := He.ba cx
  obtain ⟨x_k_NoNode_Unknown, cx⟩ := He.ba cx
  obtain ⟨x_ini_Unlike, cx⟩ := He.ba cx
  obtain ⟨x_ex_Unlike, cx⟩ := He.ba cx
  obtain ⟨x_te_Unlike, cx⟩ := He.ba cx
  obtain ⟨x_xf_Unlike, cx⟩ := He.ba cx
  obtain ⟨x_k_Unlike_NoNode, cx⟩ := He.ba cx
  obtain ⟨x_k_Unlike_Unlike, cx⟩ := He.ba cx
  obtain ⟨x_k_Unlike_NoDelay, cx⟩ := He.ba cx
  obtain ⟨x_k_Unlike_Unknown, cx⟩ := He.ba cx
  obtain ⟨x_ini_NoDelay, cx⟩ := He.ba cx
  obtain ⟨x_ex_NoDelay, cx⟩ := He.ba cx
  obtain ⟨x_te_NoDelay, cx⟩ := He.ba cx
  obtain ⟨x_xf_NoDelay, cx⟩ := He.ba cx
  obtain ⟨x_k_NoDelay_NoNode, cx⟩ := He.ba cx
  obtain ⟨x_k_NoDelay_Unlike, cx⟩ := He.ba cx
  obtain ⟨x_k_NoDelay_NoDelay, cx⟩ := He.ba cx
  obtain ⟨x_k_NoDelay_Unknown, cx⟩ := He.ba cx
  obtain ⟨x_nt_NoneType, cx⟩ := He.ba cx
  obtain ⟨x_nt_int, cx⟩ := He.ba cx
  obtain ⟨x_nt_str, cx⟩ := He.ba cx
  obtain ⟨x_nt_tuple, cx⟩ := He.ba cx
  obtain ⟨x_nt_list, cx⟩ := He.ba cx
  obtain ⟨x_nt_dict, cx⟩ := He.ba cx
  obtain ⟨x_nt_bool, cx⟩ := He.ba cx
  have mB := baseB_ok cx
  obtain ⟨mvG, kbGain⟩ := FunD.kbinds0 (ps := ["self", "by", "late", "begin"]) F_Gain_DinitD 2 ["late", "begin"] [] (fun us mv ws => us ++ ws) (by intro z; cases z) (fun _ h => (List.not_mem_nil h).elim) (fun r1 _ r3 => r1.append r3) (by
      intro D doc pm an cdv ct us mv ws l1 l2 l3
      match us, mv, ws, l1, l2, l3 with
      | [_, _], [], [_, _], _, _, _ => exact rfl)
  obtain ⟨dsMix, vMix, bMix⟩ := FunD.binds0 (ps := ["self", "many", "late", "begin"]) F_Mix_DinitD 2 (by intro z; cases z) rfl (by
      intro D doc pm an cdv ct us ks l1 l2
      match us, ks, l1, l2 with
      | [_, _], [_, _], _, _ => exact ⟨_, _, _, _, _, _, rfl, rfl, _, _, _, _, _, _, rfl, rfl, rfl⟩)
  obtain ⟨dsTimes, vTimes, bTimes⟩ := FunD.binds0 (ps := ["self", "late", "begin"]) F_Times_DinitD 1 (by intro z; cases z) rfl (by
      intro D doc pm an cdv ct us ks l1 l2
      match us, ks, l1, l2 with
      | [_], [_, _], _, _ => exact ⟨_, _, _, _, _, _, rfl, rfl, _, _, _, _, _, _, rfl, rfl, rfl⟩)
  obtain ⟨dsChoose, vChoose, bChoose⟩ := FunD.binds0 (ps := ["self", "late", "begin"]) F_Choose_DinitD 1 (by intro z; cases z) rfl (by
      intro D doc pm an cdv ct us ks l1 l2
      match us, ks, l1, l2 with
      | [_], [_, _], _, _ => exact ⟨_, _, _, _, _, _, rfl, rfl, _, _, _, _, _, _, rfl, rfl, rfl⟩)
  obtain ⟨dsUp, vUp, bUp⟩ := FunD.binds (ps := ["self", "many", "hold", "late", "begin"]) F_Up_DinitD 2 0 (by intro z; cases z) rfl (by
      intro T D doc pm an cdv ct us its ks l1 l2 l3
      match us, its, ks, l1, l2, l3 with
      | [_, _], [_], [_, _], _, _, _ => exact ⟨_, rfl, _, _, _, _, _, _, rfl, rfl, _, _, _, _, _, _, rfl, rfl, rfl⟩) (by intro z; cases z)
  obtain ⟨dsDown, vDown, bDown⟩ := FunD.binds0 (ps := ["self", "many", "late", "begin"]) F_Down_DinitD 2 (by intro z; cases z) rfl (by
      intro D doc pm an cdv ct us ks l1 l2
      match us, ks, l1, l2 with
      | [_, _], [_, _], _, _ => exact ⟨_, _, _, _, _, _, rfl, rfl, _, _, _, _, _, _, rfl, rfl, rfl⟩)
  obtain ⟨dsResample, vResample, bResample⟩ := FunD.binds0 (ps := ["self", "up", "down", "numbers", "late", "begin"]) F_Resample_DinitD 4 (by intro z; cases z) rfl (by
      intro D doc pm an cdv ct us ks l1 l2
      match us, ks, l1, l2 with
      | [_, _, _, _], [_, _], _, _ => exact ⟨_, _, _, _, _, _, rfl, rfl, _, _, _, _, _, _, rfl, rfl, rfl⟩)
  obtain ⟨dsOwn, vOwn, bOwn⟩ := FunD.binds (ps := ["self", "deed", "takes", "gives", "first", "late", "begin"]) F_Own_DinitD 4 2 (by intro z; cases z) rfl (by
      intro T D doc pm an cdv ct us its ks l1 l2 l3
      match us, its, ks, l1, l2, l3 with
      | [_, _, _, _], [_, _, _], [_, _], _, _, _ => exact ⟨_, rfl, _, _, _, _, _, _, rfl, rfl, _, _, _, _, _, _, rfl, rfl, rfl⟩) (by intro z; cases z)
  have kP := FunD.kbN (ps := ["self", "name", "node"]) F_Weave_put 1 ["name", "node"] (fun us ws => us ++ ws) (fun r1 r2 => r1.append r2) (fun _ _ _ _ _ _ us ws l1 l2 => match us, ws, l1, l2 with | [_], [_, _], _, _ => rfl)
  have kD := FunD.kbN (ps := ["self", "delays"]) F_Weave_delayed 1 ["delays"] (fun us ws => us ++ ws) (fun r1 r2 => r1.append r2) (fun _ _ _ _ _ _ us ws l1 l2 => match us, ws, l1, l2 with | [_], [_], _, _ => rfl)
  refine ⟨d_law, fun s v => bL s [v] rfl, fun base _ _ => ?_⟩
  have T_Gain : NodeC K (He.ga K "Gain") := ⟨c_Gain, n_Gain_made, n_Gain_late_by, n_Gain_begin_at⟩
  have T_Mix : NodeC K (He.ga K "Mix") := ⟨c_Mix, n_Mix_made, n_Mix_late_by, n_Mix_begin_at⟩
  have T_Times : NodeC K (He.ga K "Times") := ⟨c_Times, n_Times_made, n_Times_late_by, n_Times_begin_at⟩
  have T_Choose : NodeC K (He.ga K "Choose") := ⟨c_Choose, n_Choose_made, n_Choose_late_by, n_Choose_begin_at⟩
  have T_Up : NodeC K (He.ga K "Up") := ⟨c_Up, n_Up_made, n_Up_late_by, n_Up_begin_at⟩
  have T_Down : NodeC K (He.ga K "Down") := ⟨c_Down, n_Down_made, n_Down_late_by, n_Down_begin_at⟩
  have T_Resample : NodeC K (He.ga K "Resample") := ⟨c_Resample, n_Resample_made, n_Resample_late_by, n_Resample_begin_at⟩
  have T_Own : NodeC K (He.ga K "Own") := ⟨c_Own, n_Own_made, n_Own_late_by, n_Own_begin_at⟩
  have T_Outlet : NodeC K (He.ga K "Outlet") := ⟨c_Outlet, n_Outlet_made, n_Outlet_late_by, n_Outlet_begin_at⟩
  have T_Inlet : NodeC K (He.ga K "Inlet") := ⟨c_Inlet, n_Inlet_made, n_Inlet_late_by, n_Inlet_begin_at⟩
  have cS : ClsS K (clK K) (He.ga K "Node") (He.ga K "Outlet") (He.ga K "Inlet") := by
    refine ⟨fun A => ?_, fun A => ?_, fun A => ?_, fun A => ?_, fun A => ?_⟩
    · cases A with
      | gain => exact T_Gain
      | mix => exact T_Mix
      | times => exact T_Times
      | choose => exact T_Choose
      | up => exact T_Up
      | down => exact T_Down
      | resample => exact T_Resample
      | own => exact T_Own
      | outlet => exact T_Outlet
      | inlet => exact T_Inlet
    · cases A with
      | gain => exact insB_ok x_iN_Gain
      | mix => exact insB_ok x_iN_Mix
      | times => exact insB_ok x_iN_Times
      | choose => exact insB_ok x_iN_Choose
      | up => exact insB_ok x_iN_Up
      | down => exact insB_ok x_iN_Down
      | resample => exact insB_ok x_iN_Resample
      | own => exact insB_ok x_iN_Own
      | outlet => exact insB_ok x_iN_Outlet
      | inlet => exact insB_ok x_iN_Inlet
    · cases A with
      | gain => exact insB_ok x_iS_Gain
      | mix => exact insB_ok x_iS_Mix
      | times => exact insB_ok x_iS_Times
      | choose => exact insB_ok x_iS_Choose
      | up => exact insB_ok x_iS_Up
      | down => exact insB_ok x_iS_Down
      | resample => exact insB_ok x_iS_Resample
      | own => exact insB_ok x_iS_Own
      | outlet => exact insB_ok x_iS_Outlet
      | inlet => exact insB_ok x_iS_Inlet
    · cases A with
      | gain => exact of_decide_eq_true x_kO_Gain
      | mix => exact of_decide_eq_true x_kO_Mix
      | times => exact of_decide_eq_true x_kO_Times
      | choose => exact of_decide_eq_true x_kO_Choose
      | up => exact of_decide_eq_true x_kO_Up
      | down => exact of_decide_eq_true x_kO_Down
      | resample => exact of_decide_eq_true x_kO_Resample
      | own => exact of_decide_eq_true x_kO_Own
      | outlet => exact of_decide_eq_true x_kO_Outlet
      | inlet => exact of_decide_eq_true x_kO_Inlet
    · cases A with
      | gain => exact of_decide_eq_true x_kI_Gain
      | mix => exact of_decide_eq_true x_kI_Mix
      | times => exact of_decide_eq_true x_kI_Times
      | choose => exact of_decide_eq_true x_kI_Choose
      | up => exact of_decide_eq_true x_kI_Up
      | down => exact of_decide_eq_true x_kI_Down
      | resample => exact of_decide_eq_true x_kI_Resample
      | own => exact of_decide_eq_true x_kI_Own
      | outlet => exact of_decide_eq_true x_kI_Outlet
      | inlet => exact of_decide_eq_true x_kI_Inlet
  have G0 : FnOk P w K mg base CX0 1 _ d_is_whole ["thing"] (spWhole K) := ok_whole F_is_whole z_isinstance z_int z_bool
  have G1 : FnOk P w K mg base CX0 2 _ d_is_whole_within ["thing", "least", "most"] (spWithin K) := ok_within F_is_whole_within G0 g_is_whole F_is_whole.kp b_is_whole
  have G2 : FnOk P w K mg base CX0 1 _ d_need ["holds", "field"] spNeed := ok_need F_need
  have G3 : FnOk P w K mg base CX0 2 _ d_are_wholes ["things"] (spWholes K) := ok_wholes F_are_wholes G0 g_is_whole F_is_whole.kp b_is_whole z_all
  have G4 : FnOk P w K mg base CX0 3 _ d_is_list_of_wholes ["thing", "least", "most"] (spListOf K) := ok_listOf F_is_list_of_wholes G3 g_are_wholes F_are_wholes.kp b_are_wholes z_isinstance z_list z_len
  have G5 : FnOk P w K mg base CX0 1 _ d_is_truth ["thing"] spTruth := ok_truth F_is_truth
  have G6 : FnOk P w K mg base CX0 3 _ d_are_wholes_within ["things", "least", "most"] (spWholesIn K) := ok_wholesIn F_are_wholes_within G1 g_is_whole_within F_is_whole_within.kp b_is_whole_within z_all
  have NI_Gain : FnOk P w K mg base CX0 3 _ d_Node_DinitD ["self", "arguments", "late", "begin"] (spNodeInit K (He.ga K "Gain")) := ok_nodeInit F_Node_DinitD G2 g_need F_need.kp b_need G1 g_is_whole_within F_is_whole_within.kp b_is_whole_within z_MOST_LATE z_MOST_BEGIN T_Gain
  have NI_Mix : FnOk P w K mg base CX0 3 _ d_Node_DinitD ["self", "arguments", "late", "begin"] (spNodeInit K (He.ga K "Mix")) := ok_nodeInit F_Node_DinitD G2 g_need F_need.kp b_need G1 g_is_whole_within F_is_whole_within.kp b_is_whole_within z_MOST_LATE z_MOST_BEGIN T_Mix
  have NI_Times : FnOk P w K mg base CX0 3 _ d_Node_DinitD ["self", "arguments", "late", "begin"] (spNodeInit K (He.ga K "Times")) := ok_nodeInit F_Node_DinitD G2 g_need F_need.kp b_need G1 g_is_whole_within F_is_whole_within.kp b_is_whole_within z_MOST_LATE z_MOST_BEGIN T_Times
  have NI_Choose : FnOk P w K mg base CX0 3 _ d_Node_DinitD ["self", "arguments", "late", "begin"] (spNodeInit K (He.ga K "Choose")) := ok_nodeInit F_Node_DinitD G2 g_need F_need.kp b_need G1 g_is_whole_within F_is_whole_within.kp b_is_whole_within z_MOST_LATE z_MOST_BEGIN T_Choose
  have NI_Up : FnOk P w K mg base CX0 3 _ d_Node_DinitD ["self", "arguments", "late", "begin"] (spNodeInit K (He.ga K "Up")) := ok_nodeInit F_Node_DinitD G2 g_need F_need.kp b_need G1 g_is_whole_within F_is_whole_within.kp b_is_whole_within z_MOST_LATE z_MOST_BEGIN T_Up
  have NI_Down : FnOk P w K mg base CX0 3 _ d_Node_DinitD ["self", "arguments", "late", "begin"] (spNodeInit K (He.ga K "Down")) := ok_nodeInit F_Node_DinitD G2 g_need F_need.kp b_need G1 g_is_whole_within F_is_whole_within.kp b_is_whole_within z_MOST_LATE z_MOST_BEGIN T_Down
  have NI_Resample : FnOk P w K mg base CX0 3 _ d_Node_DinitD ["self", "arguments", "late", "begin"] (spNodeInit K (He.ga K "Resample")) := ok_nodeInit F_Node_DinitD G2 g_need F_need.kp b_need G1 g_is_whole_within F_is_whole_within.kp b_is_whole_within z_MOST_LATE z_MOST_BEGIN T_Resample
  have NI_Own : FnOk P w K mg base CX0 3 _ d_Node_DinitD ["self", "arguments", "late", "begin"] (spNodeInit K (He.ga K "Own")) := ok_nodeInit F_Node_DinitD G2 g_need F_need.kp b_need G1 g_is_whole_within F_is_whole_within.kp b_is_whole_within z_MOST_LATE z_MOST_BEGIN T_Own
  have NI_Outlet : FnOk P w K mg base CX0 3 _ d_Node_DinitD ["self", "arguments", "late", "begin"] (spNodeInit K (He.ga K "Outlet")) := ok_nodeInit F_Node_DinitD G2 g_need F_need.kp b_need G1 g_is_whole_within F_is_whole_within.kp b_is_whole_within z_MOST_LATE z_MOST_BEGIN T_Outlet
  have NI_Inlet : FnOk P w K mg base CX0 3 _ d_Node_DinitD ["self", "arguments", "late", "begin"] (spNodeInit K (He.ga K "Inlet")) := ok_nodeInit F_Node_DinitD G2 g_need F_need.kp b_need G1 g_is_whole_within F_is_whole_within.kp b_is_whole_within z_MOST_LATE z_MOST_BEGIN T_Inlet
  have I_Gain : FnOk P w K mg base CX0 4 _ d_Gain_DinitD ["self", "by", "late", "begin"] (spMk K .gain (clK K .gain) (He.ga K "_law_deed")) := ok_gainInit F_Gain_DinitD NI_Gain G_Node mB b_Node_DinitD T_Gain G2 g_need F_need.kp b_need G0 g_is_whole F_is_whole.kp b_is_whole n_Gain_by 
  have I_Mix : FnOk P w K mg base CX0 4 _ d_Mix_DinitD ["self", "many", "late", "begin"] (spMk K .mix (clK K .mix) (He.ga K "_law_deed")) := ok_mixInit F_Mix_DinitD NI_Mix G_Node mB b_Node_DinitD T_Mix G2 g_need F_need.kp b_need G1 g_is_whole_within F_is_whole_within.kp b_is_whole_within n_Mix_many z_MOST_MIXED
  have I_Times : FnOk P w K mg base CX0 4 _ d_Times_DinitD ["self", "late", "begin"] (spMk K .times (clK K .times) (He.ga K "_law_deed")) := ok_timesInit F_Times_DinitD NI_Times G_Node mB b_Node_DinitD T_Times 
  have I_Choose : FnOk P w K mg base CX0 4 _ d_Choose_DinitD ["self", "late", "begin"] (spMk K .choose (clK K .choose) (He.ga K "_law_deed")) := ok_chooseInit F_Choose_DinitD NI_Choose G_Node mB b_Node_DinitD T_Choose 
  have I_Up : FnOk P w K mg base CX0 4 _ d_Up_DinitD ["self", "many", "hold", "late", "begin"] (spMk K .up (clK K .up) (He.ga K "_law_deed")) := ok_upInit F_Up_DinitD NI_Up G_Node mB b_Node_DinitD T_Up G2 g_need F_need.kp b_need G1 g_is_whole_within F_is_whole_within.kp b_is_whole_within G5 g_is_truth F_is_truth.kp b_is_truth n_Up_many n_Up_hold z_MOST_RATE
  have I_Down : FnOk P w K mg base CX0 4 _ d_Down_DinitD ["self", "many", "late", "begin"] (spMk K .down (clK K .down) (He.ga K "_law_deed")) := ok_downInit F_Down_DinitD NI_Down G_Node mB b_Node_DinitD T_Down G2 g_need F_need.kp b_need G1 g_is_whole_within F_is_whole_within.kp b_is_whole_within n_Down_many z_MOST_RATE
  have I_Resample : FnOk P w K mg base CX0 4 _ d_Resample_DinitD ["self", "up", "down", "numbers", "late", "begin"] (spMk K .resample (clK K .resample) (He.ga K "_law_deed")) := ok_resampleInit F_Resample_DinitD NI_Resample G_Node mB b_Node_DinitD T_Resample G2 g_need F_need.kp b_need G1 g_is_whole_within F_is_whole_within.kp b_is_whole_within G4 g_is_list_of_wholes F_is_list_of_wholes.kp b_is_list_of_wholes n_Resample_numbers n_Resample_up n_Resample_down z_MOST_RATE z_MOST_TAPS z_list
  have I_Own : FnOk P w K mg base CX0 4 _ d_Own_DinitD ["self", "deed", "takes", "gives", "first", "late", "begin"] (spMk K .own (clK K .own) (He.ga K "_law_deed")) := ok_ownInit F_Own_DinitD NI_Own G_Node mB b_Node_DinitD T_Own G2 g_need F_need.kp b_need G0 g_is_whole F_is_whole.kp b_is_whole G1 g_is_whole_within F_is_whole_within.kp b_is_whole_within G6 g_are_wholes_within F_are_wholes_within.kp b_are_wholes_within G3 g_are_wholes F_are_wholes.kp b_are_wholes n_Own_deed n_Own_taken n_Own_given n_Own_first z_MOST_OWN_SAMPLES z_MOST_OWN_PLACES z_isinstance z_tuple z_len
  have I_Outlet : FnOk P w K mg base CX0 4 _ d_Outlet_DinitD ["self"] (spMk K .outlet (clK K .outlet) (He.ga K "_law_deed")) := ok_outletInit F_Outlet_DinitD NI_Outlet G_Node mB b_Node_DinitD T_Outlet 
  have I_Inlet : FnOk P w K mg base CX0 4 _ d_Inlet_DinitD ["self"] (spMk K .inlet (clK K .inlet) (He.ga K "_law_deed")) := ok_inletInit F_Inlet_DinitD NI_Inlet G_Node mB b_Node_DinitD T_Inlet 
  have tk_Gain : FnOk P w K mg base CX0 1 _ d_Gain_takes ["self"] (spTkS K (clK K) (He.ga K "_law_deed") .gain) := ok_gainTakes F_Gain_takes 
  have eq_Gain : FnOk P w K mg base CX0 3 _ d_Gain_DeqD ["self", "other"] (spEq (RS K (clK K) (He.ga K "_law_deed") .gain)) := ok_gainEq F_Gain_DeqD cS G_Gain z_isinstance
  have tk_Mix : FnOk P w K mg base CX0 1 _ d_Mix_takes ["self"] (spTkS K (clK K) (He.ga K "_law_deed") .mix) := ok_mixTakes F_Mix_takes T_Mix n_Mix_many
  have eq_Mix : FnOk P w K mg base CX0 3 _ d_Mix_DeqD ["self", "other"] (spEq (RS K (clK K) (He.ga K "_law_deed") .mix)) := ok_mixEq F_Mix_DeqD cS G_Mix z_isinstance
  have tk_Times : FnOk P w K mg base CX0 1 _ d_Times_takes ["self"] (spTkS K (clK K) (He.ga K "_law_deed") .times) := ok_timesTakes F_Times_takes 
  have eq_Times : FnOk P w K mg base CX0 3 _ d_Times_DeqD ["self", "other"] (spEq (RS K (clK K) (He.ga K "_law_deed") .times)) := ok_timesEq F_Times_DeqD cS G_Times z_isinstance
  have tk_Choose : FnOk P w K mg base CX0 1 _ d_Choose_takes ["self"] (spTkS K (clK K) (He.ga K "_law_deed") .choose) := ok_chooseTakes F_Choose_takes 
  have eq_Choose : FnOk P w K mg base CX0 3 _ d_Choose_DeqD ["self", "other"] (spEq (RS K (clK K) (He.ga K "_law_deed") .choose)) := ok_chooseEq F_Choose_DeqD cS G_Choose z_isinstance
  have tk_Up : FnOk P w K mg base CX0 1 _ d_Up_takes ["self"] (spTkS K (clK K) (He.ga K "_law_deed") .up) := ok_upTakes F_Up_takes 
  have eq_Up : FnOk P w K mg base CX0 3 _ d_Up_DeqD ["self", "other"] (spEq (RS K (clK K) (He.ga K "_law_deed") .up)) := ok_upEq F_Up_DeqD cS G_Up z_isinstance
  have tk_Down : FnOk P w K mg base CX0 1 _ d_Down_takes ["self"] (spTkS K (clK K) (He.ga K "_law_deed") .down) := ok_downTakes F_Down_takes T_Down n_Down_many
  have eq_Down : FnOk P w K mg base CX0 3 _ d_Down_DeqD ["self", "other"] (spEq (RS K (clK K) (He.ga K "_law_deed") .down)) := ok_downEq F_Down_DeqD cS G_Down z_isinstance
  have tk_Resample : FnOk P w K mg base CX0 1 _ d_Resample_takes ["self"] (spTkS K (clK K) (He.ga K "_law_deed") .resample) := ok_resampleTakes F_Resample_takes T_Resample n_Resample_down
  have eq_Resample : FnOk P w K mg base CX0 3 _ d_Resample_DeqD ["self", "other"] (spEq (RS K (clK K) (He.ga K "_law_deed") .resample)) := ok_resampleEq F_Resample_DeqD cS G_Resample z_isinstance
  have tk_Own : FnOk P w K mg base CX0 1 _ d_Own_takes ["self"] (spTkS K (clK K) (He.ga K "_law_deed") .own) := ok_ownTakes F_Own_takes T_Own n_Own_taken
  have eq_Own : FnOk P w K mg base CX0 3 _ d_Own_DeqD ["self", "other"] (spEq (RS K (clK K) (He.ga K "_law_deed") .own)) := ok_ownEq F_Own_DeqD cS G_Own z_isinstance
  have tk_Outlet : FnOk P w K mg base CX0 1 _ d_Outlet_takes ["self"] (spTkS K (clK K) (He.ga K "_law_deed") .outlet) := ok_outletTakes F_Outlet_takes 
  have eq_Outlet : FnOk P w K mg base CX0 3 _ d_Outlet_DeqD ["self", "other"] (spEq (RS K (clK K) (He.ga K "_law_deed") .outlet)) := ok_outletEq F_Outlet_DeqD cS G_Outlet z_isinstance
  have tk_Inlet : FnOk P w K mg base CX0 1 _ d_Inlet_takes ["self"] (spTkS K (clK K) (He.ga K "_law_deed") .inlet) := ok_inletTakes F_Inlet_takes 
  have eq_Inlet : FnOk P w K mg base CX0 3 _ d_Inlet_DeqD ["self", "other"] (spEq (RS K (clK K) (He.ga K "_law_deed") .inlet)) := ok_inletEq F_Inlet_DeqD cS G_Inlet z_isinstance
  have hT : ∀ A, A ∈ (sorts (clK K) (He.ga K "_law_deed") cS).As → MethC P w K mg base 1 "takes" ["self"] (spTk (sorts (clK K) (He.ga K "_law_deed") cS) A) ((sorts (clK K) (He.ga K "_law_deed") cS).cl A) := fun A _ => by
    cases (A : Srt) with
    | gain => exact ⟨_, _, c_Gain, m_Gain_takes, tk_Gain, b_Gain_takes⟩
    | mix => exact ⟨_, _, c_Mix, m_Mix_takes, tk_Mix, b_Mix_takes⟩
    | times => exact ⟨_, _, c_Times, m_Times_takes, tk_Times, b_Times_takes⟩
    | choose => exact ⟨_, _, c_Choose, m_Choose_takes, tk_Choose, b_Choose_takes⟩
    | up => exact ⟨_, _, c_Up, m_Up_takes, tk_Up, b_Up_takes⟩
    | down => exact ⟨_, _, c_Down, m_Down_takes, tk_Down, b_Down_takes⟩
    | resample => exact ⟨_, _, c_Resample, m_Resample_takes, tk_Resample, b_Resample_takes⟩
    | own => exact ⟨_, _, c_Own, m_Own_takes, tk_Own, b_Own_takes⟩
    | outlet => exact ⟨_, _, c_Outlet, m_Outlet_takes, tk_Outlet, b_Outlet_takes⟩
    | inlet => exact ⟨_, _, c_Inlet, m_Inlet_takes, tk_Inlet, b_Inlet_takes⟩
  have hEq : ∀ A, EqC P w K mg base 3 (RS K (clK K) (He.ga K "_law_deed") A) (clK K A) := fun A => by
    cases A with
    | gain => exact ⟨_, _, _, eq_Gain, (eqB_ok x_eq_Gain).1, (eqB_ok x_eq_Gain).2, b_Gain_DeqD⟩
    | mix => exact ⟨_, _, _, eq_Mix, (eqB_ok x_eq_Mix).1, (eqB_ok x_eq_Mix).2, b_Mix_DeqD⟩
    | times => exact ⟨_, _, _, eq_Times, (eqB_ok x_eq_Times).1, (eqB_ok x_eq_Times).2, b_Times_DeqD⟩
    | choose => exact ⟨_, _, _, eq_Choose, (eqB_ok x_eq_Choose).1, (eqB_ok x_eq_Choose).2, b_Choose_DeqD⟩
    | up => exact ⟨_, _, _, eq_Up, (eqB_ok x_eq_Up).1, (eqB_ok x_eq_Up).2, b_Up_DeqD⟩
    | down => exact ⟨_, _, _, eq_Down, (eqB_ok x_eq_Down).1, (eqB_ok x_eq_Down).2, b_Down_DeqD⟩
    | resample => exact ⟨_, _, _, eq_Resample, (eqB_ok x_eq_Resample).1, (eqB_ok x_eq_Resample).2, b_Resample_DeqD⟩
    | own => exact ⟨_, _, _, eq_Own, (eqB_ok x_eq_Own).1, (eqB_ok x_eq_Own).2, b_Own_DeqD⟩
    | outlet => exact ⟨_, _, _, eq_Outlet, (eqB_ok x_eq_Outlet).1, (eqB_ok x_eq_Outlet).2, b_Outlet_DeqD⟩
    | inlet => exact ⟨_, _, _, eq_Inlet, (eqB_ok x_eq_Inlet).1, (eqB_ok x_eq_Inlet).2, b_Inlet_DeqD⟩
  have TW : WvC K (He.ga K "Weave") := ⟨c_Weave, n_Weave_named, n_Weave_leading, n_Weave_laid, n_Weave_leaving⟩
  have Gnm := ok_isName (P := P) (w := w) (mg := mg) (base := base) F_is_name z_LETTERS z_LONGEST_NAME z_isinstance z_str z_len z_all
  have Gon := ok_oneOf (P := P) (w := w) (mg := mg) (base := base) F_is_one_of z_isinstance z_str
  have Gna := ok_named (P := P) (w := w) (base := base) (sorts (clK K) (He.ga K "_law_deed") cS) F_nodes_by_name Gnm g_is_name F_is_name.kp b_is_name G_Node z_isinstance
  have Gck := ok_check (sorts (clK K) (He.ga K "_law_deed") cS) F_check_wire Gon g_is_one_of F_is_one_of.kp b_is_one_of G1 g_is_whole_within F_is_whole_within.kp b_is_whole_within hT G_Outlet z_MOST_DELAY z_isinstance z_len
  have Gle := ok_lead (sorts (clK K) (He.ga K "_law_deed") cS) F_wires_by_goal Gck g_check_wire F_check_wire.kp b_check_wire hT z_enumerate z_len
  have Gba := ok_bare (P := P) (w := w) (mg := mg) (base := base) F_refuse_bare z_enumerate
  have Glv := ok_leav (P := P) (w := w) (mg := mg) (base := base) F_wires_by_source z_enumerate
  have Gre := ok_reached (P := P) (w := w) (mg := mg) (base := base) F_all_reached z_list
  have Gun := ok_unfed (sorts (clK K) (He.ga K "_law_deed") cS) F_refuse_unfed Gre g_all_reached F_all_reached.kp b_all_reached G_Inlet z_isinstance
  have Gwi := ok_wvInit (sorts (clK K) (He.ga K "_law_deed") cS) F_Weave_DinitD Gna g_nodes_by_name F_nodes_by_name.kp b_nodes_by_name Gle g_wires_by_goal F_wires_by_goal.kp b_wires_by_goal Gba g_refuse_bare F_refuse_bare.kp b_refuse_bare Glv g_wires_by_source F_wires_by_source.kp b_wires_by_source Gun g_refuse_unfed F_refuse_unfed.kp b_refuse_unfed z_MOST_NODES z_MOST_WIRES z_len c_Weave n_Weave_named n_Weave_leading n_Weave_laid n_Weave_leaving
  have gw_names := ok_wvNames (P := P) (w := w) (mg := mg) (base := base) (sorts (clK K) (He.ga K "_law_deed") cS) F_Weave_names TW z_list
  have gw_wires := ok_wvWires (P := P) (w := w) (mg := mg) (base := base) (sorts (clK K) (He.ga K "_law_deed") cS) F_Weave_wires TW z_list
  have gw_check_known := ok_wvKnown (sorts (clK K) (He.ga K "_law_deed") cS) F_Weave_check_known TW Gon g_is_one_of F_is_one_of.kp b_is_one_of
  have gw_DlenD := ok_wvLen (P := P) (w := w) (mg := mg) (base := base) (sorts (clK K) (He.ga K "_law_deed") cS) F_Weave_DlenD TW z_len
  have gw_node := ok_wvNode (sorts (clK K) (He.ga K "_law_deed") cS) F_Weave_node TW c_Weave m_Weave_check_known gw_check_known b_Weave_check_known
  have Gta := ok_take (P := P) (w := w) (mg := mg) (base := base) F__law_take z_divmod
  have Gpo := ok_pot (P := P) (w := w) (mg := mg) (base := base) F__law_pot z_max z_len
  have Gpi := ok_pick F__law_pick Gta g__law_take F__law_take.kp b__law_take z_len
  have Gln := ok_lName F__law_name Gta g__law_take F__law_take.kp b__law_take z_range
  have Gsp := ok_spec F__law_spec Gta g__law_take F__law_take.kp b__law_take z_range z_tuple
  have Gtk := ok_takes (P := P) (w := w) (mg := mg) (base := base) F__law_takes
  have Gtu := ok_turned F__law_turned Gta g__law_take F__law_take.kp b__law_take z_len z_list
  have Gso := ok_sources (P := P) (w := w) (mg := mg) (base := base) F__law_sources
  have Gdr := ok_drawn F__law_drawn Gta g__law_take F__law_take.kp b__law_take Gln g__law_name F__law_name.kp b__law_name Gsp g__law_spec F__law_spec.kp b__law_spec Gtk g__law_takes F__law_takes.kp b__law_takes Gso g__law_sources F__law_sources.kp b__law_sources Gpi g__law_pick F__law_pick.kp b__law_pick Gtu g__law_turned F__law_turned.kp b__law_turned z_range z_max z_int z_len
  have Gma := ok_made (cl := clK K) F__law_made mk_Gain I_Gain G_Gain kbGain mk_Mix I_Mix G_Mix bMix vMix mk_Times I_Times G_Times bTimes vTimes mk_Choose I_Choose G_Choose bChoose vChoose mk_Up I_Up G_Up bUp vUp mk_Down I_Down G_Down bDown vDown mk_Resample I_Resample G_Resample bResample vResample mk_Own I_Own G_Own bOwn vOwn mk_Outlet I_Outlet G_Outlet b_Outlet_DinitD .nil mk_Inlet I_Inlet G_Inlet b_Inlet_DinitD .nil G__law_deed
  have Gpa := ok_pairs (cl := clK K) F__law_pairs Gma g__law_made F__law_made.kp b__law_made z_repr
  have R_NoNode : RefC K mg "NoNode" (He.ga K "NoNode") (He.ma K (He.ga K "NoNode") "__init__") "field" := iniB_ok x_ini_NoNode G_NoNode
  have C_NoNode : CatR K mg (He.ga K "NoNode") (He.ga K "WeaveError") (He.ga K "NoNode") (He.ga K "Unlike") (He.ga K "NoDelay") (He.ga K "Unknown") true false false "field" := ⟨G_WeaveError, of_decide_eq_true x_te_NoNode, excB_ok x_ex_NoNode, G_NoNode, G_Unlike, G_NoDelay, G_Unknown, of_decide_eq_true x_k_NoNode_NoNode, of_decide_eq_true x_k_NoNode_Unlike, of_decide_eq_true x_k_NoNode_NoDelay, of_decide_eq_true x_k_NoNode_Unknown, xfB_ok x_xf_NoNode, R_NoNode.no⟩
  have R_Unlike : RefC K mg "Unlike" (He.ga K "Unlike") (He.ma K (He.ga K "Unlike") "__init__") "who" := iniB_ok x_ini_Unlike G_Unlike
  have C_Unlike : CatR K mg (He.ga K "Unlike") (He.ga K "WeaveError") (He.ga K "NoNode") (He.ga K "Unlike") (He.ga K "NoDelay") (He.ga K "Unknown") false true false "who" := ⟨G_WeaveError, of_decide_eq_true x_te_Unlike, excB_ok x_ex_Unlike, G_NoNode, G_Unlike, G_NoDelay, G_Unknown, of_decide_eq_true x_k_Unlike_NoNode, of_decide_eq_true x_k_Unlike_Unlike, of_decide_eq_true x_k_Unlike_NoDelay, of_decide_eq_true x_k_Unlike_Unknown, xfB_ok x_xf_Unlike, R_Unlike.no⟩
  have R_NoDelay : RefC K mg "NoDelay" (He.ga K "NoDelay") (He.ma K (He.ga K "NoDelay") "__init__") "wire" := iniB_ok x_ini_NoDelay G_NoDelay
  have C_NoDelay : CatR K mg (He.ga K "NoDelay") (He.ga K "WeaveError") (He.ga K "NoNode") (He.ga K "Unlike") (He.ga K "NoDelay") (He.ga K "Unknown") false false true "wire" := ⟨G_WeaveError, of_decide_eq_true x_te_NoDelay, excB_ok x_ex_NoDelay, G_NoNode, G_Unlike, G_NoDelay, G_Unknown, of_decide_eq_true x_k_NoDelay_NoNode, of_decide_eq_true x_k_NoDelay_Unlike, of_decide_eq_true x_k_NoDelay_NoDelay, of_decide_eq_true x_k_NoDelay_Unknown, xfB_ok x_xf_NoDelay, R_NoDelay.no⟩
  have gv_Gain : FnOk P w K mg base CX0 1 _ d_Gain_gives ["self"] (spGvS K (clK K) (He.ga K "_law_deed") .gain) := ok_gainGives F_Gain_gives 
  have gv_Mix : FnOk P w K mg base CX0 1 _ d_Mix_gives ["self"] (spGvS K (clK K) (He.ga K "_law_deed") .mix) := ok_mixGives F_Mix_gives 
  have gv_Times : FnOk P w K mg base CX0 1 _ d_Times_gives ["self"] (spGvS K (clK K) (He.ga K "_law_deed") .times) := ok_timesGives F_Times_gives 
  have gv_Choose : FnOk P w K mg base CX0 1 _ d_Choose_gives ["self"] (spGvS K (clK K) (He.ga K "_law_deed") .choose) := ok_chooseGives F_Choose_gives 
  have gv_Up : FnOk P w K mg base CX0 1 _ d_Up_gives ["self"] (spGvS K (clK K) (He.ga K "_law_deed") .up) := ok_upGives F_Up_gives T_Up n_Up_many
  have gv_Down : FnOk P w K mg base CX0 1 _ d_Down_gives ["self"] (spGvS K (clK K) (He.ga K "_law_deed") .down) := ok_downGives F_Down_gives 
  have gv_Resample : FnOk P w K mg base CX0 1 _ d_Resample_gives ["self"] (spGvS K (clK K) (He.ga K "_law_deed") .resample) := ok_resampleGives F_Resample_gives T_Resample n_Resample_up
  have gv_Own : FnOk P w K mg base CX0 1 _ d_Own_gives ["self"] (spGvS K (clK K) (He.ga K "_law_deed") .own) := ok_ownGives F_Own_gives T_Own n_Own_given
  have gv_Outlet : FnOk P w K mg base CX0 1 _ d_Outlet_gives ["self"] (spGvS K (clK K) (He.ga K "_law_deed") .outlet) := ok_outletGives F_Outlet_gives 
  have gv_Inlet : FnOk P w K mg base CX0 1 _ d_Inlet_gives ["self"] (spGvS K (clK K) (He.ga K "_law_deed") .inlet) := ok_inletGives F_Inlet_gives 
  have hT2 : ∀ A, A ∈ allS → MethC P w K mg base 1 "takes" ["self"] (spTkS K (clK K) (He.ga K "_law_deed") A) (clK K A) := fun A _ => by
    cases (A : Srt) with
    | gain => exact ⟨_, _, c_Gain, m_Gain_takes, tk_Gain, b_Gain_takes⟩
    | mix => exact ⟨_, _, c_Mix, m_Mix_takes, tk_Mix, b_Mix_takes⟩
    | times => exact ⟨_, _, c_Times, m_Times_takes, tk_Times, b_Times_takes⟩
    | choose => exact ⟨_, _, c_Choose, m_Choose_takes, tk_Choose, b_Choose_takes⟩
    | up => exact ⟨_, _, c_Up, m_Up_takes, tk_Up, b_Up_takes⟩
    | down => exact ⟨_, _, c_Down, m_Down_takes, tk_Down, b_Down_takes⟩
    | resample => exact ⟨_, _, c_Resample, m_Resample_takes, tk_Resample, b_Resample_takes⟩
    | own => exact ⟨_, _, c_Own, m_Own_takes, tk_Own, b_Own_takes⟩
    | outlet => exact ⟨_, _, c_Outlet, m_Outlet_takes, tk_Outlet, b_Outlet_takes⟩
    | inlet => exact ⟨_, _, c_Inlet, m_Inlet_takes, tk_Inlet, b_Inlet_takes⟩
  have hG : ∀ A, A ∈ allS → MethC P w K mg base 1 "gives" ["self"] (spGvS K (clK K) (He.ga K "_law_deed") A) (clK K A) := fun A _ => by
    cases (A : Srt) with
    | gain => exact ⟨_, _, c_Gain, m_Gain_gives, gv_Gain, b_Gain_gives⟩
    | mix => exact ⟨_, _, c_Mix, m_Mix_gives, gv_Mix, b_Mix_gives⟩
    | times => exact ⟨_, _, c_Times, m_Times_gives, gv_Times, b_Times_gives⟩
    | choose => exact ⟨_, _, c_Choose, m_Choose_gives, gv_Choose, b_Choose_gives⟩
    | up => exact ⟨_, _, c_Up, m_Up_gives, gv_Up, b_Up_gives⟩
    | down => exact ⟨_, _, c_Down, m_Down_gives, gv_Down, b_Down_gives⟩
    | resample => exact ⟨_, _, c_Resample, m_Resample_gives, gv_Resample, b_Resample_gives⟩
    | own => exact ⟨_, _, c_Own, m_Own_gives, gv_Own, b_Own_gives⟩
    | outlet => exact ⟨_, _, c_Outlet, m_Outlet_gives, gv_Outlet, b_Outlet_gives⟩
    | inlet => exact ⟨_, _, c_Inlet, m_Inlet_gives, gv_Inlet, b_Inlet_gives⟩
  have noN : ∀ T ∈ (["NoneType", "int", "str", "tuple", "list", "dict", "bool"] : List String), PySem.W.kitOne K (.type T) (.ref (He.ga K "Node")) = some false := fun T hT => by
    simp only [List.mem_cons, List.not_mem_nil, or_false] at hT
    rcases hT with rfl | rfl | rfl | rfl | rfl | rfl | rfl
    · exact of_decide_eq_true x_nt_NoneType
    · exact of_decide_eq_true x_nt_int
    · exact of_decide_eq_true x_nt_str
    · exact of_decide_eq_true x_nt_tuple
    · exact of_decide_eq_true x_nt_list
    · exact of_decide_eq_true x_nt_dict
    · exact of_decide_eq_true x_nt_bool
  have gw_pairs := ok_wvPairs (P := P) (w := w) (mg := mg) (base := base) (sorts (clK K) (He.ga K "_law_deed") cS) F_Weave_pairs TW
  have Gpu := ok_put cS F_Weave_put TW c_Weave m_Weave_node gw_node b_Weave_node hT2 hG mk_Weave Gwi G_Weave b_Weave_DinitD G_Node z_isinstance
  have Gde := ok_delayed (sorts (clK K) (He.ga K "_law_deed") cS) F_Weave_delayed TW c_Weave m_Weave_pairs gw_pairs b_Weave_pairs mk_Weave Gwi G_Weave b_Weave_DinitD z_zip
  have GiNo := ok_noNodeInit (P := P) (w := w) (mg := mg) (base := base) F_NoNode_DinitD R_NoNode.oex R_NoNode.no
  have GiUn := ok_unlikeInit (P := P) (w := w) (mg := mg) (base := base) F_Unlike_DinitD R_Unlike.oex R_Unlike.no
  have GiDe := ok_noDelayInit (P := P) (w := w) (mg := mg) (base := base) F_NoDelay_DinitD R_NoDelay.oex R_NoDelay.no
  have GpuNN := ok_putNN (sorts (clK K) (He.ga K "_law_deed") cS) F_Weave_put c_Weave m_Weave_node gw_node b_Weave_node G_Node z_isinstance R_NoNode GiNo b_NoNode_DinitD
  have GpuUn := ok_putUn cS F_Weave_put c_Weave m_Weave_node gw_node b_Weave_node hT2 hG G_Node z_isinstance R_Unlike GiUn b_Unlike_DinitD
  have GckND := ok_checkND (sorts (clK K) (He.ga K "_law_deed") cS) F_check_wire Gon g_is_one_of F_is_one_of.kp b_is_one_of G1 g_is_whole_within F_is_whole_within.kp b_is_whole_within hT G_Outlet z_MOST_DELAY z_isinstance z_len R_NoDelay GiDe b_NoDelay_DinitD
  have GleND := ok_leadND (sorts (clK K) (He.ga K "_law_deed") cS) F_wires_by_goal (FnOk.or (FnOk.toX Gck) GckND) g_check_wire F_check_wire.kp b_check_wire hT z_enumerate z_len
  have GwiND := ok_wvInitND (sorts (clK K) (He.ga K "_law_deed") cS) F_Weave_DinitD Gna g_nodes_by_name F_nodes_by_name.kp b_nodes_by_name GleND g_wires_by_goal F_wires_by_goal.kp b_wires_by_goal z_MOST_NODES z_MOST_WIRES z_len c_Weave n_Weave_named
  have GdeND := ok_delayedND (sorts (clK K) (He.ga K "_law_deed") cS) F_Weave_delayed TW c_Weave m_Weave_pairs gw_pairs b_Weave_pairs mk_Weave GwiND G_Weave b_Weave_DinitD z_zip
  have GtoP : FnOk P w K mg base CX0 8 _ d__law_told ["_law_web", "_law_way", "_law_tag", "_law_thing"] (spToldP K (clK K) (He.ga K "_law_deed") cS (He.ga K "Weave") (He.ga K "NoNode") (He.ga K "Unlike")) := FnOk.or (ok_told0 F__law_told C_NoNode c_Weave m_Weave_put GpuNN b_Weave_put m_Weave_delayed (FnOk.toX Gde) b_Weave_delayed z_isinstance) (FnOk.or (ok_told1 F__law_told C_Unlike c_Weave m_Weave_put GpuUn b_Weave_put m_Weave_delayed (FnOk.toX Gde) b_Weave_delayed z_isinstance) (FnOk.ex fun R => ok_toldGP (R := R) F__law_told C_NoNode c_Weave m_Weave_put (FnOk.toX Gpu) b_Weave_put m_Weave_delayed (FnOk.toX Gde) b_Weave_delayed z_isinstance))
  have GtoD : FnOk P w K mg base CX0 8 _ d__law_told ["_law_web", "_law_way", "_law_tag", "_law_thing"] (spToldD K (sorts (clK K) (He.ga K "_law_deed") cS) (He.ga K "Weave") (He.ga K "NoDelay")) := FnOk.or (ok_told2 F__law_told C_NoDelay c_Weave m_Weave_put (FnOk.toX Gpu) b_Weave_put m_Weave_delayed GdeND b_Weave_delayed z_isinstance) (FnOk.ex fun R => ok_toldGD (R := R) F__law_told C_NoNode c_Weave m_Weave_put (FnOk.toX Gpu) b_Weave_put m_Weave_delayed (FnOk.toX Gde) b_Weave_delayed z_isinstance)
  have Ggv := ok_lGives (P := P) (w := w) (mg := mg) (base := base) F__law_gives
  have Glk := ok_like F__law_like Gtk g__law_takes F__law_takes.kp b__law_takes Ggv g__law_gives F__law_gives.kp b__law_gives Gta g__law_take F__law_take.kp b__law_take z_len
  have Gis := ok_is cS F__law_is c_Weave m_Weave_names gw_names b_Weave_names m_Weave_wires gw_wires b_Weave_wires m_Weave_node gw_node b_Weave_node Gma g__law_made F__law_made.kp b__law_made hEq z_repr z_all
  have Gpr := ok_putRight cS F__law_put_right c_Weave Gpi g__law_pick F__law_pick.kp b__law_pick Gta g__law_take F__law_take.kp b__law_take Glk g__law_like F__law_like.kp b__law_like Gsp g__law_spec F__law_spec.kp b__law_spec Gma g__law_made F__law_made.kp b__law_made GtoP g__law_told F__law_told.kp b__law_told Gtk g__law_takes F__law_takes.kp b__law_takes Ggv g__law_gives F__law_gives.kp b__law_gives Gis g__law_is F__law_is.kp b__law_is m_Weave_put Gpu b_Weave_put kP noN z_repr
  have Gdl := ok_delRight cS F__law_delayed_right c_Weave Gpi g__law_pick F__law_pick.kp b__law_pick Gta g__law_take F__law_take.kp b__law_take GtoD g__law_told F__law_told.kp b__law_told Gis g__law_is F__law_is.kp b__law_is m_Weave_delayed Gde b_Weave_delayed kD z_repr z_len z_range z_isinstance z_int z_bool z_enumerate z_list z_zip
  exact ok_law cS F_law c_Weave Gdr g__law_drawn F__law_drawn.kp b__law_drawn Gpo g__law_pot F__law_pot.kp b__law_pot mk_Weave Gwi G_Weave b_Weave_DinitD Gpa g__law_pairs F__law_pairs.kp b__law_pairs Gpr g__law_put_right F__law_put_right.kp b__law_put_right Gdl g__law_delayed_right F__law_delayed_right.kp b__law_delayed_right Gis g__law_is F__law_is.kp b__law_is m_Weave_delayed Gde b_Weave_delayed gw_DlenD (eqB_ok x_wl).1 (eqB_ok x_wl).2 b_Weave_DlenD z_range z_max z_min z_len z_list
end Sw
open PySem PySem.W PySem.Calls PyProof.Rows
theorem PySem.Challenge.cw_sampleweave_k24_put_and_delayed_holds : PySem.Challenge.rw_sampleweave_k24_put_and_delayed.Holds := by
  w_on; o_law
  refine HandSHeadRun.head_any (r := OpenLaw.row PySem.Challenge.rw_sampleweave_k24_put_and_delayed) (q := view (OpenLaw.row PySem.Challenge.rw_sampleweave_k24_put_and_delayed).prog [78]) (H := Sw.hk) (ob := Sw.ob) (M := 30000) (loose := Sw.loose) (d := HandSHeadRun.topDef (OpenLaw.row PySem.Challenge.rw_sampleweave_k24_put_and_delayed).prog 78) (kwd := []) Sw.ob_eq
    (by kernel_rfl) (fun s => by kernel_rfl) Sw.run (by kernel_rfl) (by kernel_rfl) (by kernel_rfl) (by rfl) (by first | assumption | decide +kernel) (by decide +kernel) ⟨rfl, rfl, rfl, rfl, rfl, by decide +kernel⟩ ?hw ?hc
  case hw => w_witness2
  case hc =>
    refine L2.walk_goes (l := PySem.Challenge.rw_sampleweave_k24_put_and_delayed) (n := 63) (k := 10) (x := "_law_script") (CX := L2.CX0) rfl (by decide) (by kernel_rfl) ⟨rfl, by decide, by decide⟩ ?F (fun _ _ _ _ z => z)
    intro w mg fa h Y G hmg0
    obtain ⟨K, KX, cx, c⟩ := Y
    have hmg : mg ("law" : PySem.Str) = some (.ref fa) := by
      have e : (HandSHeadRun.topDef (OpenLaw.row PySem.Challenge.rw_sampleweave_k24_put_and_delayed).prog 78).name = ("law" : PySem.Str) := by kernel_rfl
      rw [← e]
      exact hmg0
    obtain ⟨fd, hb, hF⟩ := Sw.facts (P := (PySem.Challenge.rw_sampleweave_k24_put_and_delayed).prog) (w := w) KX G hmg cx c
    exact ⟨K, fd, Sw.spLaw K, KX, hb, fun H a ns hl _ hS => ⟨a, ns, rfl, hS, hl, fun _ => rfl⟩, hF⟩

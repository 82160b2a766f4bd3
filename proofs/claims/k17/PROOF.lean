import PyProof.Rows.All
import Wide.All
import OpenK.AllK
import Wide.FinOn
import KE.KStateDown
import Lean
import HandS.Base
import HandS.Call
import HandS.List
import HandS.Comp
import HandS.Ends
import HandS.Dict
import HandS.Iter
import HandS.Exc
import HandS.TryOnly
import HandS.ExcOwn
import HandS.Words
import HandS.WordsList
import HandS.WordsDict
import HandS.WordsExc
import HandS.Wide
import HandS.IsInst
import HandS.ExcIs
import HandS.Defaults
import HandS.More
import HandS.Star
import HandS.ClsMeth
import HandS.MakeKw
import HandS.MakeKwOnly
import HandS.Conv
import HandS.TupMul
import HandS.TupLe
import HandS.Flow
import HandS.Zip
import HandS.CallLocal
import HandS.Head0
import HandS.Head1
import HandS.Head2
import HandS.HeadEnd
import HandS.HeadHook1
import HandS.HeadHook2
import PyProof.ReprLen
import HandS.Walk
import HandS.Zip0
import HandS.TupAny
import HandS.Style
import HandS.Codes
import PySem.Challenge.RW_sampleweave_k17_whole_resampled
set_option Elab.async false
set_option linter.all false
set_option maxRecDepth 100000
set_option maxHeartbeats 0
namespace L2
open PySem PySem.Spec PyProof.Rows
/-! ## Own words, 1: defs that are called where no repr is under way -/
/-- as FnOk, but called only while no guard (a repr under way) is around -/
structure FnG (P : Program) (w : World) (K : PySem.W.Frag) (mg : Str → Option Value) (base : Heap) (CX : CXT) (k : Nat) (f : Addr) (fd : FuncData) (ps : List Str) (sp : Sp) : Prop where
  size : ∀ vs H Q E, sp vs H Q E → vs.length = ps.length
  goes : ∀ (A : Around) (outer : List Env) (s : Shared) (H : Hp) (args : Args) (us : List Value) (vs : List V) (Q : VK) (E : XK), Room k A → A.guards = some [] → Env0 P w K mg base A outer s H →
    BindsTo s fd args (ps.zip us) → Vals vs us → sp vs H Q E → codeAny (model P w) A (.call (.ref f) args) (CR CX outer P w H s Q E) s
section
variable {P : Program} {w : World} {K : PySem.W.Frag} {mg : Str → Option Value} {base : Heap} {CX : CXT} {k : Nat} {f : Addr} {fd : FuncData} {ps N : List Str} {sp : Sp} {x qual : Str} {params : Arguments} {body : List Stmt} {scope : Scope} {dvs : List V} {kws : List (Str × V)}
/-- a def's body, where the guards are known -/
theorem FunD.okG (F : FunD K x qual params body scope dvs kws f fd) (S : FnScope N ps scope) (size : ∀ vs H Q E, sp vs H Q E → vs.length = ps.length)
    (does : ∀ (cdv : Value) (A : Around) (outer : List Env) (s : Shared) (H : Hp) (vs : List V) (Q : VK) (E : XK), Room k (A.deeper (envOfC qual scope s.heap.objs.size f cdv)) → A.guards = some [] → sp vs H Q E →
      ∃ t, PSs (cxOf CX P w K mg base N qual scope f cdv A outer s H E) body t ∧ t { nx := fun _ H' => Q .non H', rt := Q } (start N vs) H) : FnG P w K mg base CX (k + 1) f fd ps sp := by
  obtain ⟨oc, od, dV, kV, doc, pm, an, cdv, ct, osl, rfl, lk, hcd, _, _⟩ := F.ex
  refine ⟨size, fun A outer s H args us vs Q E room guard env bind rel prom => ?_⟩
  have only : StX.Bnd CX P w K mg base (PySem.W.fnOf x qual params body scope dV kV doc pm an cdv ct) args ps A outer s H E (fun vs' H' => vs' = vs ∧ H' = H) :=
    fun A' Ex Q' h' => bind _ _ _ _ (h' s H vs us env Un.refl rfl (fun _ _ z => z) rel (size _ _ _ _ prom) ⟨rfl, rfl⟩)
  refine StX.run_bnd (k := k) lk hcd S room env only fun s2 H2 vs2 same room2 => ?_
  obtain ⟨rfl, rfl⟩ := same
  exact does cdv A outer s2 H2 vs2 Q E room2 guard prom
/-- a plain def is one of these too -/
theorem FnOk.toG (F : FnOk P w K mg base CX k f fd ps sp) : FnG P w K mg base CX k f fd ps sp := ⟨F.len, fun A outer s H args us vs Q E room _ env bind rel prom => F.run A outer s H args us vs Q E room env bind rel prom⟩
end
section
variable {X : Cx} {CX : CXT} {k i : Nat} {f : Addr} {fd : FuncData} {ps : List Str} {sp : Sp} {dvs : List V} {ds : List Value} {E : XK} {x : Str} {p pos : Pos} {e : Expr} {es : List Expr} {t : TA}
theorem goes_fn {pins : List (Addr × Obj)} {σ : St} {H : Hp} {s : Shared} {Q : VK} {us : List Value} {vs : List V} (F : FnG X.prog X.w X.K X.mg X.base CX k f fd ps sp) (room : Room k X.A) (guard : X.A.guards = some []) (hb : Binds X.K fd ps ds) (hd : Vals dvs ds)
    (hx : Passes CX X E) (I : Inv X pins σ H s) (rel : Vals vs us) (prom : sp (vs ++ dvs) H Q E) : wpAny (model X.prog X.w) X.A (call (.ref f) us) (EP X pins σ Q) X.xe s := by
  have both := rel.append hd
  have many : (us ++ ds).length = ps.length := both.length.symm.trans (F.size _ _ _ _ prom)
  refine wpAny_call (codeAny_mono (F.goes X.A X.stack s H ⟨us, []⟩ (us ++ ds) (vs ++ dvs) Q E room guard I.env0 (hb s us I.kIn many) both prom) ?_)
  rintro (_ | u | _ | _ | _ ) s' z
  all_goals first
    | exact hx pins σ H s _ s' I z
    | exact I.after z
    | exact z.elim
theorem pe_callG (F : FnG X.prog X.w X.K X.mg X.base CX k f fd ps sp) (room : Room k X.A) (guard : X.A.guards = some []) (hg : Gl X x) (hm : X.mg x = some (.ref f)) (hk : PySem.W.keepIn X.K (.ref f) = true) (hb : Binds X.K fd ps ds) (hd : Vals dvs ds)
    (hx : Passes CX X E) (ha : PA X (e :: es) t) (hdb : (x == ("__debug__" : Str)) = false := by decide) (he : starEach (e :: es) X.env = (false, eval e X.env) :: starEach es X.env := by rfl)
    (hpl : (backTo pos (starEach es X.env)).any (·.1) = false := by rfl) : PE X (.Call (.Name x p) (e :: es) [] pos) (tCall sp dvs E t) := by
  refine ⟨fun pins s σ H Q I h => wpAny_Call_Name_kw (ld_glob I hg hm ?_ hdb)⟩
  exact PySem.W.callWith_K (h₀ := X.base) I.ok.mod.kin hk (thn (ha.run pos pins s σ H _ I h) fun us s1 ⟨vs, H1, I1, r, q⟩ => ⟨I1.kIn, goes_fn F room guard hb hd hx I1 r q⟩) he hpl
end
/-- the law's call, its def being one of these -/
theorem law_goes {P : Program} {w : World} {K : PySem.W.Frag} {mg mb : Str → Option Value} {CX : CXT} {k : Nat} {fa a : Addr} {fd : FuncData} {x : Str} {sp : Sp} {s₁ : Shared} {vs : List Value} {ns : List Int}
    (inK : K.In s₁.heap) (glob : s₁.heap.Ns mainGlobals mg) (blt : s₁.heap.Ns builtinsNs mb) (boot : ∀ x : Str, x ≠ "__name__" → mb x = bootBuiltins x) (lim : s₁.heap.NoLimit) (gens : s₁.gens = #[])
    (scr : s₁.heap.get? a = some { cls := .type "list", data := .seq vs.toArray }) (nums : IntsAre vs ns) (few : ns.length ≤ sizeLine) (room : Room k callerA)
    (F : ∀ base : Heap, K.In base → base.Ns mainGlobals mg → FnG P w K mg base CX k fa fd [x] sp) (bind : ∀ (s : Shared) (u : Value), BindsTo s fd ⟨[u], []⟩ [(x, u)])
    (prom : ∀ H : Hp, Only H → SqL K H a (ns.map V.int) → sp [.ref a] H (fun v _ => v = .bl true) fun _ _ _ => False) (none_out : ∀ H e s', CX [] H s₁ (fun _ _ _ => False) e s' → False) :
    codeAny (model P w) callerA (.call (.ref fa) ⟨[.ref a], []⟩) (fun r s' => r = .ok (.ret (.bool true)) ∧ OldK s₁.heap s'.heap ∧ s'.os = s₁.os ∧ AllBare s'.gens) s₁ := by
  have rel := vals_ints nums
  have from_heap : ∀ H : Hp, (∀ b, H b = none ∨ (b = a ∧ K.lookup a = none ∧ H b = some (.frz { cls := .type "list", data := .seq vs.toArray } (.lst (ns.map V.int))))) → SqL K H a (ns.map V.int) →
      codeAny (model P w) callerA (.call (.ref fa) ⟨[.ref a], []⟩) (fun r s' => r = .ok (.ret (.bool true)) ∧ OldK s₁.heap s'.heap ∧ s'.os = s₁.os ∧ AllBare s'.gens) s₁ := by
    intro H which seen
    have small : Only H := fun b => (which b).imp id fun z => ⟨_, _, z.2.2⟩
    have space : ∀ {b : Addr} {m : Str → Option Value}, s₁.heap.Ns b m → (hidT s₁.heap H).Ns b m := by
      rintro b m ⟨o, es, ep, e, d, r⟩
      refine ⟨o, es, ep, hidT_get e ((which b).resolve_right fun ⟨eb, _⟩ => ?_), d, r⟩
      rw [eb, scr] at e
      cases e
      cases d
    have written : K.In (hidT s₁.heap H) := fun b o e => hidT_get (inK b o e) ((which b).resolve_right fun ⟨eb, n, _⟩ => by
      rw [eb, n] at e
      cases e)
    have fits : HOk P w H s₁.heap := fun b u z => by
      rcases which b with n | ⟨rfl, _, n⟩
      · rw [n] at z
        cases z
      · rw [n] at z
        cases z
        exact ⟨scr, by rw [List.length_map]; exact few, vs, _, rel, scr⟩
    obtain ⟨mc, c1, c2⟩ := lim
    have env : Env0 P w K mg (hidT s₁.heap H) callerA [] s₁ H :=
      ⟨rfl, ⟨written, space glob, ⟨mb, space blt, boot⟩, mc, space c1, c2⟩, fun _ _ e => of_hidT e, Nat.le_of_eq (hidT_size _ _), trivial, fun _ z => (List.not_mem_nil z).elim, fits, .of_eq gens⟩
    refine codeAny_mono ((F _ written (space glob)).goes callerA [] s₁ H ⟨[.ref a], []⟩ [.ref a] [.ref a] _ _ room rfl env (bind s₁ (.ref a)) (.cons rfl .nil) (prom H small seen)) ?_
    intro res s' z
    match res, z with
    | .error e, z => exact (none_out H e s' z).elim
    | .ok .next, z => exact z.elim
    | .ok .brk, z => exact z.elim
    | .ok .cont, z => exact z.elim
    | .ok (.ret u), z =>
      obtain ⟨v, H', os, bare, un, fits', rv, (rfl : v = V.bl true)⟩ := z
      obtain rfl : u = Value.bool true := rv
      refine ⟨rfl, OldK.of_keep fun b o e => ?_, os, bare⟩
      rcases which b with n | ⟨_, _, n⟩
      · exact un.keep b o e n (fun z => (List.not_mem_nil z).elim) List.not_mem_nil
      · obtain ⟨e1, _⟩ := fits b _ n
        obtain ⟨e2, _⟩ := fits' b _ (un.frzs b _ _ n)
        rw [e] at e1
        cases e1
        exact e2
  by_cases own : K.lookup a = none
  · refine from_heap (fun b => if b = a then some (.frz { cls := .type "list", data := .seq vs.toArray } (.lst (ns.map V.int))) else none) (fun b => ?_) (.inl (.inr ⟨_, if_pos rfl⟩))
    by_cases eb : b = a
    · exact .inr ⟨eb, own, if_pos eb⟩
    · exact .inl (if_neg eb)
  · obtain ⟨o, own⟩ := Option.ne_none_iff_exists'.mp own
    have e := inK a o own
    rw [scr] at e
    cases e
    exact from_heap (fun _ => none) (fun _ => .inl rfl) (.inr ⟨_, vs.toArray, _, own, rfl, rfl, rfl, by rw [List.size_toArray, nums.length]; exact few, by simpa using rel⟩)
theorem walk_goes {l : PySem.W.OpenLaw} {n k : Nat} {q : Program} {loose : List Str} {XP : (Str → Option Value) → Heap → Prop} {YP : World → Heap → Prop} {d : DefRec} {CX : CXT} {x : Str}
    (most : l.most = some n) (few : n ≤ sizeLine) (nodef : d.params.defaults = []) (room : Room k callerA)
    (F : ∀ (w : World) (mg : Str → Option Value) (fa : Addr) (h : Heap), YP w h → h.Ns mainGlobals mg → mg d.name = some (.ref fa) →
      ∃ (K : PySem.W.Frag) (fd : FuncData) (sp : Sp), K.In h ∧ (∀ (s : Shared) (u : Value), BindsTo s fd ⟨[u], []⟩ [(x, u)]) ∧
        (∀ (H : Hp) (a : Addr) (ns : List Int), ns.length ≤ n → Only H → SqL K H a (ns.map V.int) → sp [.ref a] H (fun v _ => v = .bl true) fun _ _ _ => False) ∧
        ∀ base : Heap, K.In base → base.Ns mainGlobals mg → FnG l.prog w K mg base CX k fa fd [x] sp)
    (none_out : ∀ (H : Hp) (s : Shared) (e : Value) (s' : Shared), CX [] H s (fun _ _ _ => False) e s' → False) : PySem.W.WalkO q loose XP YP l.row.toRowW d [] (fun f vs => PySem.call f vs) := by
  refine Att.attach_call most nodef ?_
  intro w s₀ s₁ mg mb fa o pm cd doc a vs ns G Y ho hd hcd named obj nums len gens
  obtain ⟨K, fd, sp, inK, bind, prom, does⟩ := F w mg fa _ Y G.T.g named
  exact law_goes inK G.T.g G.T.b G.T.builtins G.T.nolimit gens obj nums (Nat.le_trans len few) room does bind (fun H hO hS => prom H a ns len hO hS) fun H e s' => none_out H s₁ e s'
end L2
namespace L2
open PySem PySem.Spec PyProof.Rows
/-! ## Own words, 2: repr of data; a base class's def called by the class's name -/
section
variable {X : Cx}
/-- repr(x), x a list or a tuple of data -/
def rReprD (K : PySem.W.Frag) : List V → Hp → VK → Prop := fun xs H Q => ∃ (a : Addr) (d : PyData) (S : Str), xs = [.ref a] ∧ Dp K H (.ref a) d ∧ SeqAt.shaped d = true ∧ d.showable = true ∧ d.shown.length ≤ sizeLine ∧ d.shown = S ∧ Q (.str S) H
theorem call_reprD (guard : X.A.guards = some []) (units : X.A.units + 66 < cLine) : CallR X (.builtin "repr") (rReprD X.K) := by
  intro pins s σ H xs us Q I r h
  obtain ⟨a, d, S, rfl, dp, sh, sw, sz, rfl, q⟩ := h
  obtain ⟨u, rfl, ru⟩ := vals1 r
  obtain rfl : u = Value.ref a := ru
  obtain ⟨as, rd⟩ := Dp.reads I d _ _ dp rfl
  have dep := SeqAt.depth_of_shaped sh
  exact repr_of_reads' rd sw (PyData.noDict_hsm (PyData.hasDict_of_canLay d (SeqAt.canLay_of_shaped sh))) guard (by omega) (fun _ _ e => e) (fun h' u tk hk => ⟨.str d.shown, H, I.kept (t' := tk) hk, ⟨u, rfl⟩, q⟩) sz
/-- C.m(e, ..), C a class of one's own by name, m a def of its body -/
structure BaseM (K : PySem.W.Frag) (C : Addr) (m : Str) (f : Addr) : Prop where
  rd : PySem.W.readsIn K C (.type "type") = true
  ga : PySem.W.specialIn K (.ref C) "__getattribute__" = some (some (.builtin "type.__getattribute__"))
  at_ : PySem.W.findCls K (.ref C) (.type "type") m = some (.val (.ref f))
  kp : PySem.W.keepIn K (.ref f) = true
variable {CX : CXT} {k : Nat} {f C : Addr} {fd : FuncData} {ps : List Str} {sp : Sp} {dvs : List V} {ds : List Value} {E : XK} {x m : Str} {p pos apos : Pos} {e o : Expr} {es : List Expr} {ta : TE} {t : TA}
def tBase (C : Addr) (sp : Sp) (dvs : List V) (E : XK) (ta : TE) (t : TA) : TE := fun σ H Q => ta σ H fun x H1 => x = .ref C ∧ t σ H1 fun vs H2 => sp (vs ++ dvs) H2 Q E
theorem pe_base {pl : Sem Bool} (ho : PE X o ta) (b : BaseM X.K C m f) (F : FnOk X.prog X.w X.K X.mg X.base CX k f fd ps sp) (room : Room k X.A) (hb : Binds X.K fd ps ds) (hd : Vals dvs ds) (hx : Passes CX X E) (ha : PA X (e :: es) t)
    (hst : starEach (e :: es) X.env = (false, eval e X.env) :: starEach es X.env := by rfl) (hpl : (backTo pos (starEach es X.env)).any (·.1) = false := by rfl)
    (ht : eval (.Call (.Attribute o m apos) (e :: es) [] pos) X.env = (do
      let ov ← eval o X.env
      standAt apos.atName
      let (f, first) ← holding [ov] (getMethod ov m pl)
      callWith pos f first (backTo pos (starEach (e :: es) X.env)) (backToKw pos (keywordEach [] X.env))) := by rfl) :
    PE X (.Call (.Attribute o m apos) (e :: es) [] pos) (tBase C sp dvs E ta t) := by
  refine ⟨fun pins s σ H Q I h => ?_⟩
  refine PySem.W.methodCall_KW (pl := pl) (thn (ho.run pins s σ H _ I h) fun u s1 ⟨x, H1, I1, rx, ex, q⟩ => ?_) ht
  subst ex
  obtain rfl : u = Value.ref C := rx
  refine PySem.W.method_cls I1.kIn b.ga (PySem.W.cls_value I1.kIn b.rd b.at_ rfl ?_)
  have I2 := I1.tok (s1.toks + 1)
  exact PySem.W.callWith_K (first := []) (h₀ := X.base) I.ok.mod.kin b.kp (thn (ha.run pos pins _ σ H1 _ I2 q) fun us s2 ⟨vs, H2, I3, r, q2⟩ => ⟨I3.kIn, run_fn F room hb hd hx I3 r q2⟩) hst hpl
end
/-! ### how long a repr is -/
theorem shown_sum {B : Nat} : ∀ ds : List PyData, (∀ d ∈ ds, d.shown.length ≤ B) → ((PyData.shownAll ds).map (·.length)).sum ≤ B * ds.length
  | [], _ => by rw [PyData.shownAll]; exact Nat.zero_le _
  | d :: ds, h => by
    have h1 := h d List.mem_cons_self
    have h2 := shown_sum ds fun z hz => h z (List.mem_cons_of_mem _ hz)
    rw [PyData.shownAll, List.map_cons, List.sum_cons, List.length_cons, Nat.mul_succ]
    omega
theorem shown_list {B : Nat} {ds : List PyData} (h : ∀ d ∈ ds, d.shown.length ≤ B) : (PyData.shown (.list ds)).length ≤ (B + 2) * ds.length + 3 := by
  have h1 := shown_sum ds h
  have h2 := listText_len_le (PyData.shownAll ds)
  rw [PyData.shownAll_length] at h2
  rw [PyData.shown, Nat.add_mul]
  omega
theorem shown_tuple {B : Nat} {ds : List PyData} (h : ∀ d ∈ ds, d.shown.length ≤ B) : (PyData.shown (.tuple ds)).length ≤ (B + 2) * ds.length + 3 := by
  have h1 := shown_sum ds h
  have h2 := tupleText_len_le (PyData.shownAll ds)
  rw [PyData.shownAll_length] at h2
  rw [PyData.shown, Nat.add_mul]
  omega
theorem shown_num {i : Int} (h : i.natAbs.log2 < 1920) : (PyData.shown (.int i)).length ≤ 1921 := by
  exact int_text_len_1921 h
theorem log2_of {i : Int} {b : Nat} (h : i.natAbs < 2 ^ b) (h0 : 0 < b) (h1 : b ≤ 1920) : i.natAbs.log2 < 1920 := Nat.lt_of_lt_of_le (PySem.Flt.log2_lt_of h0 h) h1
end L2
namespace L2
open PySem PySem.Spec PyProof.Rows
/-! ## Own words, 3: a method called in a try; a local that holds one of some defs -/
section
variable {X : Cx} {CX : CXT} {k i : Nat} {f C : Addr} {fd : FuncData} {ps : List Str} {sp : Sp} {E : St → XK} {x m : Str} {p pos apos : Pos} {e o : Expr} {es : List Expr} {ta : TE} {t : TA}
def tMethT (C : Addr) (m : Str) (sp : Sp) (E : St → XK) (ta : TE) (t : TA) : TE := fun σ H Q => ta σ H fun x H1 => ∃ a dx fs, x = .ref a ∧ H1 a = some (.ins C dx fs) ∧ fs.lookup m = none ∧ t σ H1 fun vs H2 => sp (x :: vs) H2 Q (E σ)
theorem pe_methT {pl : Sem Bool} (ho : PE X o ta) (c : Cls X.K C) (hm : Meth X.K C m f) (F : FnOk X.prog X.w X.K X.mg X.base CX k f fd ps sp) (room : Room k X.A) (hb : Binds X.K fd ps []) (hx : ∀ σ, PassesAt CX X σ (E σ)) (ha : PA X (e :: es) t)
    (hst : starEach (e :: es) X.env = (false, eval e X.env) :: starEach es X.env := by rfl) (hpl : (backTo pos (starEach es X.env)).any (·.1) = false := by rfl)
    (ht : eval (.Call (.Attribute o m apos) (e :: es) [] pos) X.env = (do
      let ov ← eval o X.env
      standAt apos.atName
      let (f, first) ← holding [ov] (getMethod ov m pl)
      callWith pos f first (backTo pos (starEach (e :: es) X.env)) (backToKw pos (keywordEach [] X.env))) := by rfl) :
    PE X (.Call (.Attribute o m apos) (e :: es) [] pos) (tMethT C m sp E ta t) := by
  refine ⟨fun pins s σ H Q I h => ?_⟩
  refine PySem.W.methodCall_KW (pl := pl) (thn (ho.run pins s σ H _ I h) fun u s1 ⟨x, H1, I1, rx, a, dx, fs, ex, ea, l, q⟩ => ?_) ht
  subst ex
  obtain rfl : u = Value.ref a := rx
  refine getmeth_ok I1 ea c hm l (PySem.W.callWith_K (first := [.ref a]) (h₀ := X.base) I.ok.mod.kin hm.kp (thn (ha.run pos pins s1 σ H1 _ I1 q) fun us s2 ⟨vs, H2, I2, r, q2⟩ => ⟨I2.kIn, ?_⟩) hst hpl)
  exact run_fnS (us := .ref a :: us) (vs := .ref a :: vs) F room hb (hx σ) I2 (.cons rfl r) q2
/-- the i-th slot holds one of these defs, all of one promise -/
def tOneOf (i : Nat) (fs : List Addr) (sp : Sp) (t : TA) : TE := fun σ H Q => ∃ f, f ∈ fs ∧ σ[i]? = some (some (.ref f)) ∧ t σ H fun vs H1 => sp vs H1 Q E0
theorem pe_oneOf {fs : List Addr} (F : ∀ f, f ∈ fs → ∃ fd ps, FnG X.prog X.w X.K X.mg X.base CX0 k f fd ps sp ∧ PySem.W.keepIn X.K (.ref f) = true ∧ Binds X.K fd ps []) (room : Room k X.A) (guard : X.A.guards = some []) (hN : X.N[i]? = some x) (hv : Vis X.env.scope x) (ha : PA X (e :: es) t)
    (hdb : (x == ("__debug__" : Str)) = false := by decide) (hcd : (x == ("__classdict__" : Str)) = false := by decide) (he : starEach (e :: es) X.env = (false, eval e X.env) :: starEach es X.env := by rfl)
    (hpl : (backTo pos (starEach es X.env)).any (·.1) = false := by rfl) : PE X (.Call (.Name x p) (e :: es) [] pos) (tOneOf i fs sp t) := by
  refine ⟨fun pins s σ H Q I h => ?_⟩
  obtain ⟨f, hf, hs, q0⟩ := h
  obtain ⟨fd, ps, G, kp, hb⟩ := F f hf
  have look := (pe_var (pos := p) hN hv hdb hcd).run pins s σ H (fun v H1 => v = .ref f ∧ H1 = H) I ⟨.ref f, hs, rfl, rfl⟩
  refine wpAny_Call_Name_kw (thn look fun u s1 ⟨v, H1, I1, r1, ev, eH⟩ => ?_)
  subst ev eH
  obtain rfl : u = Value.ref f := r1
  refine PySem.W.callWith_K (h₀ := X.base) I.ok.mod.kin kp (thn (ha.run pos pins s1 σ _ _ I1 q0) fun us s2 ⟨vs, H2, I2, r, q⟩ => ⟨I2.kIn, ?_⟩) he hpl
  exact goes_fn (dvs := []) (E := E0) G room guard hb .nil pass0 I2 r (by rw [List.append_nil]; exact q)
end
end L2
namespace L2
open PySem PySem.Spec PyProof.Rows
/-! ## Own words, 4: a tuple times 0 or 1 -/
theorem tup_once (l : Addr) (items : Array Value) (n : Nat) (dd : Option Addr) (sl : Array (Option Value)) (u : Tok) :
    Meets (Builtin.«tuple.__mul__» ⟨[.ref l, .int 1 u], []⟩) (fun _ R s => s.heap.get? l = some { cls := .type "tuple", dict := dd, data := .seq items n, slots := sl } ∧ R (.ok (.ret (Value.ref l))) s) :=
  .of_wp fun prog w A R s h => by
    obtain ⟨hp, g, d, tk, os⟩ := s
    obtain ⟨at_, h⟩ := h
    have f1 := AutoSeq1.idx_int
    wp_walk using wpAny_loadPart' at_
    exact ⟨_, rfl, h⟩
theorem tup_never (l : Addr) (items : Array Value) (n : Nat) (dd : Option Addr) (sl : Array (Option Value)) (u : Tok) (c1 : items.isEmpty = false) :
    Meets (Builtin.«tuple.__mul__» ⟨[.ref l, .int 0 u], []⟩) (fun _ R s => s.heap.get? l = some { cls := .type "tuple", dict := dd, data := .seq items n, slots := sl } ∧ R (.ok (.ret (Value.ref s.heap.objs.size))) { s with heap := s.heap.push { cls := Value.type "tuple", data := Data.seq #[] }, toks := s.toks }) :=
  .of_wp fun prog w A R s h => by
    obtain ⟨hp, g, d, tk, os⟩ := s
    obtain ⟨at_, h⟩ := h
    have f1 := AutoSeq1.idx_int
    wp_walk using wpAny_loadPart' at_
    exact ⟨_, rfl, h⟩
/-- t * k, t a tuple that holds something, k from 0 on -/
def rTimes (K : PySem.W.Frag) : R2 := fun x y H Q => ∃ (l : Addr) (k : Nat) (xs : List V), x = .ref l ∧ y = .int (k : Int) ∧ SqT K H l xs ∧ xs ≠ [] ∧ k ≤ 1000 ∧ xs.length ≤ 1000 ∧ (k = 1 → Q (.ref l) H) ∧ (k ≠ 1 → ∀ p, H p = none → Q (.ref p) (upd H p (.tup (List.replicate k xs).flatten)))
theorem op_times {X : Cx} : OpR X (binaryOp .Mult) (rTimes X.K) := by
  intro pins s σ H x y v u Q I rx ry h
  obtain ⟨l, k, xs, rfl, rfl, hT, hne, h2, hz, q1, qn⟩ := h
  by_cases two : 2 ≤ k
  · exact op_repT pins s σ H _ _ v u Q I rx ry ⟨l, (k : Int), xs, rfl, rfl, hT, hne, by omega, by omega, hz, fun p hp => qn (by omega) p hp⟩
  · cases rx
    obtain ⟨t, rfl⟩ := ry
    obtain ⟨its, r, ⟨⟨cls, dd, data, sl⟩, ho, hc, n, hd⟩, hs⟩ := I.tuple hT
    simp only at hc hd
    subst hc hd
    have which : k = 0 ∨ k = 1 := by omega
    rcases which with rfl | rfl
    · have some_ : its.toArray.isEmpty = false := by
        cases its with
        | nil =>
          have e := r.length
          cases xs with
          | nil => exact absurd rfl hne
          | cons _ _ => cases e
        | cons _ _ => rfl
      refine wpAny_binaryOp_repeat_ref (T := "tuple") (U := "int") (by decide) ⟨_, ho, rfl⟩ (fun s' => typeIs_int s' 0 t) noFill_tuple_mul F.fills_int_mul F.slot_int_rmul repeat_tuple F.slot_int_index.lookup ?_
      refine call_meets F.slot_int_rmul (typeIs_int s 0 t) F.entry_int_rmul (F.args_int_rmul_2 _ _) (int_rmul_tuple 0 t l its.toArray n dd sl) ⟨ho, rfl, ⟨_, ho, rfl⟩, ?_⟩
      refine call_meets F.slot_tuple_mul ⟨_, ho, rfl⟩ F.entry_tuple_mul (F.args_tuple_mul_2 _ _) (tup_never l its.toArray n dd sl t some_) ⟨ho, ?_⟩
      have fresh := I.hok.fresh (Nat.le_refl s.heap.objs.size)
      refine ⟨.ref s.heap.objs.size, _, I.laid (t' := s.toks) (o := .tup []) (fun b ob q => Heap.get?_push_of_some _ q) (Nat.le_refl _) ?_, rfl, qn (by decide) _ fresh⟩
      exact ⟨Nat.zero_le _, [], .nil, IsTup.new _ _⟩
    · refine wpAny_binaryOp_repeat_ref (T := "tuple") (U := "int") (by decide) ⟨_, ho, rfl⟩ (fun s' => typeIs_int s' 1 t) noFill_tuple_mul F.fills_int_mul F.slot_int_rmul repeat_tuple F.slot_int_index.lookup ?_
      refine call_meets F.slot_int_rmul (typeIs_int s 1 t) F.entry_int_rmul (F.args_int_rmul_2 _ _) (int_rmul_tuple 1 t l its.toArray n dd sl) ⟨ho, rfl, ⟨_, ho, rfl⟩, ?_⟩
      refine call_meets F.slot_tuple_mul ⟨_, ho, rfl⟩ F.entry_tuple_mul (F.args_tuple_mul_2 _ _) (tup_once l its.toArray n dd sl t) ⟨ho, ?_⟩
      exact ⟨.ref l, H, I, rfl, q1 rfl⟩
end L2
namespace L2
open PySem PySem.Spec PyProof.Rows
/-! ## Own words, 5: one of two promises; the call of a value -/
section
variable {P : Program} {w : World} {K : PySem.W.Frag} {mg : Str → Option Value} {base : Heap} {CX : CXT} {k : Nat} {f : Addr} {fd : FuncData} {ps : List Str} {sp sp' : Sp}
theorem FnG.or (F : FnG P w K mg base CX k f fd ps sp) (F' : FnG P w K mg base CX k f fd ps sp') : FnG P w K mg base CX k f fd ps (fun vs H Q E => sp vs H Q E ∨ sp' vs H Q E) := by
  refine ⟨fun vs H Q E h => h.elim (F.size vs H Q E) (F'.size vs H Q E), fun A outer s H args us vs Q E room guard env bind rel h => ?_⟩
  rcases h with h | h
  · exact F.goes A outer s H args us vs Q E room guard env bind rel h
  · exact F'.goes A outer s H args us vs Q E room guard env bind rel h
theorem FnOk.or (F : FnOk P w K mg base CX k f fd ps sp) (F' : FnOk P w K mg base CX k f fd ps sp') : FnOk P w K mg base CX k f fd ps (fun vs H Q E => sp vs H Q E ∨ sp' vs H Q E) := by
  refine ⟨fun vs H Q E h => h.elim (F.len vs H Q E) (F'.len vs H Q E), fun A outer s H args us vs Q E room env bind rel h => ?_⟩
  rcases h with h | h
  · exact F.run A outer s H args us vs Q E room env bind rel h
  · exact F'.run A outer s H args us vs Q E room env bind rel h
end
section
variable {X : Cx} {k : Nat} {sp : Sp} {pos : Pos} {fe e : Expr} {es : List Expr} {tf : TE} {t : TA}
def tCallOf (fs : List Addr) (sp : Sp) (tf : TE) (t : TA) : TE := fun σ H Q => tf σ H fun y H1 => ∃ f, f ∈ fs ∧ y = .ref f ∧ t σ H1 fun vs H2 => sp vs H2 Q E0
theorem pe_callOf {fs : List Addr} (hf : PE X fe tf) (F : ∀ f, f ∈ fs → ∃ fd ps, FnOk X.prog X.w X.K X.mg X.base CX0 k f fd ps sp ∧ PySem.W.keepIn X.K (.ref f) = true ∧ Binds X.K fd ps []) (room : Room k X.A) (ha : PA X (e :: es) t)
    (ht : eval (.Call fe (e :: es) [] pos) X.env = (do callWith pos (← eval fe X.env) [] (backTo pos (starEach (e :: es) X.env)) (backToKw pos (keywordEach [] X.env))) := by rfl)
    (he : starEach (e :: es) X.env = (false, eval e X.env) :: starEach es X.env := by rfl) (hpl : (backTo pos (starEach es X.env)).any (·.1) = false := by rfl) : PE X (.Call fe (e :: es) [] pos) (tCallOf fs sp tf t) := by
  refine ⟨fun pins s σ H Q I h => ?_⟩
  refine Call_ (thn (hf.run pins s σ H _ I h) fun u s1 ⟨y, H1, I1, ry, f, hm, ey, q⟩ => ?_) ht
  subst ey
  obtain rfl : u = Value.ref f := ry
  obtain ⟨fd, ps, G, kp, hb⟩ := F f hm
  refine PySem.W.callWith_K (h₀ := X.base) I.ok.mod.kin kp (thn (ha.run pos pins s1 σ H1 _ I1 q) fun us s2 ⟨vs, H2, I2, r, q2⟩ => ⟨I2.kIn, ?_⟩) he hpl
  exact run_fn (dvs := []) (E := E0) G room hb .nil pass0 I2 r (by rw [List.append_nil]; exact q2)
end
end L2
universe u
namespace L2
open PySem PySem.Spec PyProof.Rows
/-! ## Own words, 6: a method of an object of one of some sorts; isinstance against a base class -/
/-- a sort's method and its promise -/
structure MethC (P : Program) (w : World) (K : PySem.W.Frag) (mg : Str → Option Value) (base : Heap) (k : Nat) (m : Str) (ps : List Str) (sp : Sp) (C : Addr) : Prop where
  ex : ∃ f fd, Cls K C ∧ Meth K C m f ∧ FnOk P w K mg base CX0 k f fd ps sp ∧ Binds K fd ps []
section
variable {X : Cx} {k : Nat} {α : Type u} {As : List α} {cl : α → Addr} {sp : α → Sp} {m : Str} {ps : List Str} {pos apos : Pos} {o e : Expr} {es : List Expr} {ta : TE} {t : TA}
def tMethOf (As : List α) (cl : α → Addr) (m : Str) (sp : α → Sp) (ta : TE) (t : TA) : TE := fun σ H Q => ta σ H fun x H1 => ∃ (A : α) (a dx : Addr) (fs : List (Str × V)), A ∈ As ∧ x = .ref a ∧ H1 a = some (.ins (cl A) dx fs) ∧ fs.lookup m = none ∧ t σ H1 fun vs H2 => sp A (x :: vs) H2 Q E0
theorem pe_methOf {pl : Sem Bool} (he : PE X o ta) (F : ∀ A, A ∈ As → MethC X.prog X.w X.K X.mg X.base k m ps (sp A) (cl A)) (hr : Room k X.A) (ha : PA X (e :: es) t)
    (hst : starEach (e :: es) X.env = (false, eval e X.env) :: starEach es X.env := by rfl) (hpl : (backTo pos (starEach es X.env)).any (·.1) = false := by rfl)
    (ht : eval (.Call (.Attribute o m apos) (e :: es) [] pos) X.env = (do
      let ov ← eval o X.env
      standAt apos.atName
      let (f, first) ← holding [ov] (getMethod ov m pl)
      callWith pos f first (backTo pos (starEach (e :: es) X.env)) (backToKw pos (keywordEach [] X.env))) := by rfl) :
    PE X (.Call (.Attribute o m apos) (e :: es) [] pos) (tMethOf As cl m sp ta t) := by
  refine ⟨fun pins s σ H Q I h => ?_⟩
  refine PySem.W.methodCall_KW (pl := pl) (thn (he.run pins s σ H _ I h) fun u s1 ⟨x, H1, I1, rx, A, a, dx, fs, hA, ex, ea, l, q⟩ => ?_) ht
  subst ex
  obtain rfl : u = Value.ref a := rx
  obtain ⟨f, fd, c, hm, G, hb⟩ := (F A hA).ex
  refine getmeth_ok I1 ea c hm l ?_
  refine PySem.W.callWith_K (first := [.ref a]) (h₀ := X.base) I.ok.mod.kin hm.kp (thn (ha.run pos pins s1 σ H1 _ I1 q) fun us s2 ⟨vs, H2, I2, r, q2⟩ => ⟨I2.kIn, ?_⟩) hst hpl
  exact run_fn (us := .ref a :: us) (vs := .ref a :: vs) (dvs := []) (E := E0) G hr hb .nil pass0 I2 (.cons rfl r) (by rw [List.append_nil]; exact q2)
theorem pe_methOf0 {pl : Sem Bool} (he : PE X o ta) (F : ∀ A, A ∈ As → MethC X.prog X.w X.K X.mg X.base k m ps (sp A) (cl A)) (hr : Room k X.A)
    (ht : eval (.Call (.Attribute o m apos) [] [] pos) X.env = (do
      let ov ← eval o X.env
      standAt apos.atName
      let (f, first) ← holding [ov] (getMethod ov m pl)
      callWith pos f first (backTo pos (starEach [] X.env)) (backToKw pos (keywordEach [] X.env))) := by rfl) :
    PE X (.Call (.Attribute o m apos) [] [] pos) (tMethOf As cl m sp ta tNil) := by
  refine ⟨fun pins s σ H Q I h => ?_⟩
  refine PySem.W.methodCall_KW (pl := pl) (thn (he.run pins s σ H _ I h) fun u s1 ⟨x, H1, I1, rx, A, a, dx, fs, hA, ex, ea, l, q⟩ => ?_) ht
  subst ex
  obtain rfl : u = Value.ref a := rx
  obtain ⟨f, fd, c, hm, G, hb⟩ := (F A hA).ex
  refine getmeth_ok I1 ea c hm l ?_
  exact PySem.W.callWith_K0 (first := [.ref a]) I1.kIn hm.kp (run_fn (us := [.ref a]) (vs := [.ref a]) (dvs := []) (E := E0) G hr hb .nil pass0 I1 (.cons rfl .nil) q)
end
section
variable {P : Program} {w : World} {K : PySem.W.Frag} {mg : Str → Option Value} {base : Heap} {CX : CXT} {k : Nat} {f : Addr} {fd : FuncData} {ps : List Str} {α : Type u} {As : List α} {sp : α → Sp}
theorem FnG.any (F : ∀ A, A ∈ As → FnG P w K mg base CX k f fd ps (sp A)) : FnG P w K mg base CX k f fd ps (fun vs H Q E => ∃ A, A ∈ As ∧ sp A vs H Q E) :=
  ⟨fun vs H Q E ⟨A, hA, h⟩ => (F A hA).size vs H Q E h, fun A outer s H args us vs Q E room guard env bind rel ⟨B, hB, h⟩ => (F B hB).goes A outer s H args us vs Q E room guard env bind rel h⟩
end
/-- what isinstance(o, CN) asks of o's class -/
structure InsC (K : PySem.W.Frag) (C CN : Addr) : Prop where
  ha : PySem.W.findIn K (.ref C) "__class__" = some (some (.builtin "object.__class__"))
  hn : PySem.W.specialIn K (.builtin "object.__class__") "__get__" = some (some (.builtin "getset_descriptor.__get__"))
  tk : PySem.W.takesIn K (.builtin "object.__class__") = some true
  mr : PySem.W.mroIn K C (.type "object") = some true
  kit : PySem.W.kitOne K (.ref C) (.ref CN) = some true
def insB (K : PySem.W.Frag) (C CN : Addr) : Bool :=
  decide (PySem.W.findIn K (.ref C) "__class__" = some (some (.builtin "object.__class__"))) && (decide (PySem.W.specialIn K (.builtin "object.__class__") "__get__" = some (some (.builtin "getset_descriptor.__get__"))) &&
  (decide (PySem.W.takesIn K (.builtin "object.__class__") = some true) && (decide (PySem.W.mroIn K C (.type "object") = some true) && decide (PySem.W.kitOne K (.ref C) (.ref CN) = some true))))
theorem insB_ok {K : PySem.W.Frag} {C CN : Addr} (h : insB K C CN = true) : InsC K C CN := by
  obtain ⟨h1, h⟩ := He.ba h
  obtain ⟨h2, h⟩ := He.ba h
  obtain ⟨h3, h⟩ := He.ba h
  obtain ⟨h4, h5⟩ := He.ba h
  exact ⟨of_decide_eq_true h1, of_decide_eq_true h2, of_decide_eq_true h3, of_decide_eq_true h4, of_decide_eq_true h5⟩
theorem InsC.ty {K : PySem.W.Frag} {C CN a dx : Addr} {H : Hp} {fs : List (Str × V)} (i : InsC K C CN) (c : Cls K C) (h : H a = some (.ins C dx fs)) : TyX K H (.ref a) (.ref C) := .base (.ins h c i.ha i.hn i.tk i.mr)
end L2
namespace L2
open PySem PySem.Spec PyProof.Rows
/-! ## Own words, 7: rules whose written part is given (within comprehensions) -/
section
variable {X : Cx} {K : PySem.W.Frag} {tg l e : Expr} {tl ta : TE} {f : Str} {pos : Pos}
theorem pe_fldK (h : X.K = K) (he : PE X e ta) (hb : attributeBase e f X.env (eval e X.env) = eval e X.env) : PE X (.Attribute e f pos) (tFld K ta f) := by
  subst h
  exact pe_fld he hb
theorem call_len_seqK (h : X.K = K) : CallR X (.builtin "len") (fun xs H Q => ∃ p ys, xs = [.ref p] ∧ (SqL K H p ys ∨ SqT K H p ys) ∧ Q (.int ys.length) H) := by
  subst h
  exact call_len_seq
theorem ix_listK (h : X.K = K) : IxR X (rIxL K) := by
  subst h
  exact ix_list
theorem ix_tupK (h : X.K = K) : IxR X (rIxT K) := by
  subst h
  exact ix_tup
theorem call_list_ofK (h : X.K = K) : CallR X (.type "list") (fun xs H Q => ∃ p ys, xs = [.ref p] ∧ (SqL K H p ys ∨ SqT K H p ys) ∧ ∀ l, H l = none → Q (.ref l) (upd H l (.lst ys))) := by
  subst h
  exact call_list_of
theorem call_tuple_ofK (h : X.K = K) : CallR X (.type "tuple") (fun xs H Q => ∃ p ys, xs = [.ref p] ∧ ((SqL K H p ys ∧ ∀ l, H l = none → Q (.ref l) (upd H l (.tup ys))) ∨ (SqT K H p ys ∧ Q (.ref p) H))) := by
  subst h
  exact call_tuple_of
theorem sl_listK (h : X.K = K) : SlR X (rSlL K) := by
  subst h
  exact sl_list
theorem pi_listK (h : X.K = K) (hl : PE X l tl) : PI X tg l (iList K tl) := by
  subst h
  exact pi_list hl
theorem pi_tupK (h : X.K = K) (hl : PE X l tl) : PI X tg l (iTup K tl) := by
  subst h
  exact pi_tup hl
end
theorem yes_ite {σ : L2.St} {H : Hp} {a b : Hp → Prop} (h : a H) : tYes σ H (fun t H' => if t = true then a H' else b H') := by
  unfold tYes
  exact iteT h
end L2
/-! ## Own words, 6: zip of a list and a tuple (or any two of them) -/
namespace L2
open PySem PySem.Spec PyProof.Rows
/-- an iterator that stands at the k-th of a list's or a tuple's items -/
inductive Src (h : Heap) (it l : Addr) (k : Nat) (its : Array Value) : Bool → Prop
  | ofList (a : h.IsListIter it l k) (b : h.IsList l its) : Src h it l k its false
  | ofTup (a : h.IsTupleIter it l k) (b : h.IsTuple l its) : Src h it l k its true
theorem Src.but {h h' : Heap} {it l c : Addr} {k : Nat} {its : Array Value} {t : Bool} (S : Src h it l k its t) (x : Heap.ExtBut c h h') (n1 : it ≠ c) (n2 : l ≠ c) : Src h' it l k its t := by
  cases S with
  | ofList a b => exact .ofList (a.extBut x n1) (b.extBut x n2)
  | ofTup a b => exact .ofTup (a.extBut x n1) (b.extBut x n2)
section
variable {prog : Program} {w : World} {A : Around} {E : Value → Shared → Prop} {s : Shared} {it l : Addr} {k : Nat} {its : Array Value} {t : Bool}
theorem Src.next {x : Value} {Q : Value → Shared → Prop} (S : Src s.heap it l k its t) (ne : l ≠ it) (hx : its[k]? = some x) (q : ∀ h', Src h' it l (k + 1) its t → Heap.SameBut it s.heap h' → Q x { s with heap := h' }) :
    wpAny (model prog w) A (Builtin.SmallTypes.nextOf (.ref it)) Q E s := by
  cases S with
  | ofList a b => exact wpAny_nextOf_list_item a b hx fun h' a' sb => q h' (.ofList a' (b.extBut sb.extBut ne)) sb
  | ofTup a b => exact RZ.nextOf_tuple_item a b hx fun h' a' sb => q h' (.ofTup a' (b.extBut sb.extBut ne)) sb
theorem Src.last {Q : Value → Shared → Prop} (S : Src s.heap it l k its t) (hh : A.handled = none) (hx : its[k]? = none) (q : ∀ h' e, Heap.ExtBut it s.heap h' → (∃ o, h'.get? e = some o ∧ o.cls = .type "StopIteration") → E (.ref e) { s with heap := h' }) :
    wpAny (model prog w) A (Builtin.SmallTypes.nextOf (.ref it)) Q E s := by
  cases S with
  | ofList a b => exact wpAny_nextOf_list_end hh a b hx q
  | ofTup a b => exact RZ.nextOf_tuple_end hh a b hx q
end
section
variable {prog : Program} {w : World} {A : Around} {E : Value → Shared → Prop} {s : Shared} {z TI TO i1 i2 l1 l2 : Addr} {k1 k2 : Nat} {xs ys : Array Value} {a b : Value} {t1 t2 : Bool}
/-- what a turn of zip leaves as it was -/
def ZKeep (z TO i1 i2 : Addr) (h h' : Heap) : Prop := ∀ c o, c ≠ z → c ≠ TO → c ≠ i1 → c ≠ i2 → h.get? c = some o → h'.get? c = some o
theorem zipS_item {x y : Value} {Q : Value → Shared → Prop} (D : ZipApart z TI TO i1 i2 l1 l2) (hz : IsZip s.heap z TI TO .none) (hI : IsPair s.heap TI (.ref i1) (.ref i2)) (hO : IsPair s.heap TO a b)
    (S1 : Src s.heap i1 l1 k1 xs t1) (S2 : Src s.heap i2 l2 k2 ys t2) (hx : xs[k1]? = some x) (hy : ys[k2]? = some y)
    (q : ∀ h', IsZip h' z TI TO (rawInt s.heap.objs.size) → IsPair h' TO x y → Src h' i1 l1 (k1 + 1) xs t1 → Src h' i2 l2 (k2 + 1) ys t2 → IsPair h' s.heap.objs.size x y → ZKeep z TO i1 i2 s.heap h' → Q (.ref s.heap.objs.size) { s with heap := h' }) :
    wpAny (model prog w) A (Builtin.«zip.__next__» ⟨[.ref z], []⟩) (fun fin s' => ∃ v, fin = .done (.ret v) ∧ Q v s') E s := by
  show wpAny _ _ (field (.ref z) 2 >>= _) _ _ _
  refine wpAny_bind (wpAny_field hz rfl (x := .bool false) rfl ?_)
  show wpAny _ _ (field (.ref z) 3 >>= _) _ _ _
  refine wpAny_bind (wpAny_field hz rfl (x := .ref TI) rfl (wpAny_bind (wpAny_seqItems hI rfl ?_)))
  show wpAny _ _ (Builtin.SmallTypes.ownedTupleIsFree (.ref z) >>= _) _ _ _
  refine wpAny_bind ?_
  unfold Builtin.SmallTypes.ownedTupleIsFree
  refine wpAny_bind (wpAny_field hz rfl (x := .none) rfl (wpAny_pure ?_))
  simp only [if_true]
  refine wpAny_bind (wpAny_rule (wpAny_bind (wpAny_field hz rfl (x := .ref TO) rfl (wpAny_bind (wpAny_setField_rec hz (by simp) fun g1 z1 e1 => ?_)))))
  replace z1 : IsZip g1 z TI TO .ellipsis := z1
  refine wpAny_bind ?_
  simp only [List.zipIdx_cons, List.zipIdx_nil, List.forIn_cons, List.forIn_nil]
  refine wpAny_bind (wpAny_bind (wpAny_onRaise ?_))
  show wpAny _ _ (Builtin.SmallTypes.nextOf (.ref i1) >>= _) _ _ _
  refine wpAny_bind ((S1.but e1.extBut D.i1z D.l1z).next D.l1i1 hx fun g2 T2 e2 => wpAny_pure ?_)
  have O2 : IsPair g2 TO a b := e2.extBut _ _ D.TOi1 (e1.extBut _ _ D.TOz hO)
  refine wpAny_bind (wpAny_seqItems O2 rfl (wpAny_bind (wpAny_updateSeq_pair O2 fun g3 O3 e3 => ?_)))
  replace O3 : IsPair g3 TO x b := O3
  refine wpAny_bind (wpAny_letGo (wpAny_pure ?_))
  refine wpAny_bind (wpAny_bind (wpAny_onRaise ?_))
  show wpAny _ _ (Builtin.SmallTypes.nextOf (.ref i2) >>= _) _ _ _
  refine wpAny_bind ((((S2.but e1.extBut D.i2z D.l2z).but e2.extBut D.i12.symm D.l2i1).but e3.extBut D.TOi2.symm D.l2TO).next D.l2i2 hy fun g4 T4 e4 => wpAny_pure ?_)
  have O4 : IsPair g4 TO x b := e4.extBut _ _ D.TOi2 O3
  refine wpAny_bind (wpAny_seqItems O4 rfl (wpAny_bind (wpAny_updateSeq_pair O4 fun g5 O5 e5 => ?_)))
  replace O5 : IsPair g5 TO x y := O5
  refine wpAny_bind (wpAny_letGo (wpAny_pure (wpAny_pure ?_)))
  refine wpAny_bind (wpAny_seqItems O5 rfl (wpAny_bind (wpAny_newTuple ?_)))
  have size : g5.objs.size = s.heap.objs.size := by rw [e5.1, e4.1, e3.1, e2.1, e1.1]
  have Z5 : IsZip g5 z TI TO .ellipsis := e5.extBut _ _ D.TOz.symm (e4.extBut _ _ D.i2z.symm (e3.extBut _ _ D.TOz.symm (e2.extBut _ _ D.i1z.symm z1)))
  have A5 : Src g5 i1 l1 (k1 + 1) xs t1 := ((T2.but e3.extBut D.TOi1.symm D.l1TO).but e4.extBut D.i12 D.l1i2).but e5.extBut D.TOi1.symm D.l1TO
  have B5 : Src g5 i2 l2 (k2 + 1) ys t2 := T4.but e5.extBut D.TOi2.symm D.l2TO
  have zlt : z < g5.objs.size := Heap.lt_size Z5
  show wpAny _ _ (Builtin.SmallTypes.ownedTupleHandOut (.ref z) (.ref g5.objs.size) >>= _) _ _ _
  refine wpAny_bind ?_
  unfold Builtin.SmallTypes.ownedTupleHandOut
  refine wpAny_bind (wpAny_setField_rec (Heap.get?_push_of_some _ Z5) (by simp) fun g7 z7 e7 => wpAny_setField_rec z7 (by simp) fun g8 z8 e8 => ?_)
  have last : Heap.ExtBut z g5 g8 := fun c o n e => e8.extBut _ _ n (e7.extBut _ _ n (Heap.get?_push_of_some _ e))
  have new : IsPair g8 g5.objs.size x y := e8.extBut _ _ (Nat.ne_of_gt zlt) (e7.extBut _ _ (Nat.ne_of_gt zlt) (Heap.get?_push_size _ rfl))
  replace z8 : IsZip g8 z TI TO (rawInt g5.objs.size) := z8
  rw [size] at new z8
  refine wpAny_pure ⟨_, rfl, ?_⟩
  show Q (.ref g5.objs.size) _
  rw [size]
  exact q g8 z8 (last _ _ D.TOz O5) (A5.but last D.i1z D.l1z) (B5.but last D.i2z D.l2z) new fun c o c1 c2 c3 c4 e => last c o c1 (e5.extBut _ _ c2 (e4.extBut _ _ c4 (e3.extBut _ _ c2 (e2.extBut _ _ c3 (e1.extBut _ _ c1 e)))))
/-- the first of the two is at its end -/
theorem zipS_end {Q : Fin → Shared → Prop} (hh : A.handled = none) (D : ZipApart z TI TO i1 i2 l1 l2) (hz : IsZip s.heap z TI TO .none) (hI : IsPair s.heap TI (.ref i1) (.ref i2)) (S1 : Src s.heap i1 l1 k1 xs t1) (hx : xs[k1]? = none)
    (q : ∀ h' e, ZKeep z TO i1 i2 s.heap h' → (∃ o, h'.get? e = some o ∧ o.cls = .type "StopIteration") → E (.ref e) { s with heap := h' }) :
    wpAny (model prog w) A (Builtin.«zip.__next__» ⟨[.ref z], []⟩) Q E s := by
  show wpAny _ _ (field (.ref z) 2 >>= _) _ _ _
  refine wpAny_bind (wpAny_field hz rfl (x := .bool false) rfl ?_)
  show wpAny _ _ (field (.ref z) 3 >>= _) _ _ _
  refine wpAny_bind (wpAny_field hz rfl (x := .ref TI) rfl (wpAny_bind (wpAny_seqItems hI rfl ?_)))
  show wpAny _ _ (Builtin.SmallTypes.ownedTupleIsFree (.ref z) >>= _) _ _ _
  refine wpAny_bind ?_
  unfold Builtin.SmallTypes.ownedTupleIsFree
  refine wpAny_bind (wpAny_field hz rfl (x := .none) rfl (wpAny_pure ?_))
  simp only [if_true]
  refine wpAny_bind (wpAny_rule (wpAny_bind (wpAny_field hz rfl (x := .ref TO) rfl (wpAny_bind (wpAny_setField_rec hz (by simp) fun g1 z1 e1 => ?_)))))
  replace z1 : IsZip g1 z TI TO .ellipsis := z1
  refine wpAny_bind ?_
  simp only [List.zipIdx_cons, List.zipIdx_nil, List.forIn_cons, List.forIn_nil]
  refine wpAny_bind (wpAny_bind (wpAny_onRaise ?_))
  show wpAny _ _ (Builtin.SmallTypes.nextOf (.ref i1) >>= _) _ _ _
  refine wpAny_bind ((S1.but e1.extBut D.i1z D.l1z).last hh hx fun g2 e e2 he => ?_)
  obtain ⟨oe, hoe, hce⟩ := he
  have z2 : IsZip g2 z TI TO .ellipsis := e2 _ _ D.i1z.symm z1
  have ne : e ≠ z := fun x => by
    rw [x, z2] at hoe
    cases hoe
    simp at hce
  exact wpAny_setField_rec z2 (by simp) fun g3 _ e3 => q g3 e (fun c o c1 _ c3 _ x => e3.extBut _ _ c1 (e2 _ _ c3 (e1.extBut _ _ c1 x))) ⟨oe, e3.extBut _ _ ne hoe, hce⟩
end
/-- a list and a tuple as they stand at each turn, the items in new pairs; the list is at its end first -/
def ItzLT (K : PySem.W.Frag) (a b : Addr) : It :=
  ⟨fun i H => ∃ (xs ys : List V) (x y : V), SqL K H a xs ∧ SqT K H b ys ∧ xs[i]? = some x ∧ ys[i]? = some y,
    fun i H v H' => ∃ T x y, v = .ref T ∧ H T = none ∧ H' = upd H T (.tup [x, y]) ∧ (∀ xs, SqL K H a xs → xs[i]? = some x) ∧ ∀ ys, SqT K H b ys → ys[i]? = some y,
    fun i H => ∃ xs : List V, SqL K H a xs ∧ xs.length ≤ i⟩
theorem Src.list {h : Heap} {it l : Addr} {k : Nat} {its : Array Value} (S : Src h it l k its false) : h.IsListIter it l k := by
  cases S with
  | ofList a b => exact a
theorem Src.tup {h : Heap} {it l : Addr} {k : Nat} {its : Array Value} (S : Src h it l k its true) : h.IsTupleIter it l k := by
  cases S with
  | ofTup a b => exact a
theorem turn_zipLT {P : Program} {w : World} {K : PySem.W.Frag} {elts : List Expr} {kk : Nat} {tpos : Pos} {a b z TI TO i1 i2 : Addr} (D : ZipApart z TI TO i1 i2 a b) :
    Turn P w K (.Tuple elts kk tpos) (ItzLT K a b) [z, TI, TO, i1, i2] z (fun i h => IsZip h z TI TO .none ∧ IsPair h TI (.ref i1) (.ref i2) ∧ (∃ x y, IsPair h TO x y) ∧ h.IsListIter i1 a i ∧ h.IsTupleIter i2 b i) where
  mem := List.mem_cons_self
  obj := fun i h st c hc => by
    obtain ⟨hz, hI, ⟨x, y, hO⟩, ⟨o1, e1, _, d1⟩, ⟨o2, e2, _, d2⟩⟩ := st
    simp only [List.mem_cons, List.not_mem_nil, or_false] at hc
    rcases hc with rfl | rfl | rfl | rfl | rfl
    · exact ⟨_, hz, fun v q => nomatch q⟩
    · exact ⟨_, hI, fun v q => nomatch q⟩
    · exact ⟨_, hO, fun v q => nomatch q⟩
    · exact ⟨o1, e1, fun v q => by rw [d1] at q; cases q⟩
    · exact ⟨o2, e2, fun v q => by rw [d2] at q; cases q⟩
  keep := fun i h h' st k => by
    obtain ⟨hz, hI, ⟨x, y, hO⟩, h1, h2⟩ := st
    exact ⟨k z (by simp) _ hz, k TI (by simp) _ hI, ⟨x, y, k TO (by simp) _ hO⟩, h1.at fun o q => k i1 (by simp) o q, h2.at fun o q => k i2 (by simp) o q⟩
  item := by
    intro X hP hw hK hc i pins s σ H E I hf st hg
    subst hP hw hK
    obtain ⟨hz, hI, ⟨x0, y0, hO⟩, h1, h2⟩ := st
    obtain ⟨xs, ys, x, y, sx, sy, hx, hy⟩ := hg
    obtain ⟨its, rv, p, _⟩ := I.list sx
    obtain ⟨its2, rv2, p2, _⟩ := I.tuple sy
    obtain ⟨u, hu, ru⟩ := rv.get hx
    obtain ⟨u2, hu2, ru2⟩ := rv2.get hy
    have zlt : z < s.heap.objs.size := Heap.lt_size hz
    have lower : ∀ c ∈ [z, TI, TO, i1, i2], c < s.heap.objs.size := fun c hcm => by
      simp only [List.mem_cons, List.not_mem_nil, or_false] at hcm
      rcases hcm with rfl | rfl | rfl | rfl | rfl
      · exact zlt
      · exact Heap.lt_size hI
      · exact Heap.lt_size hO
      · obtain ⟨_, e1, _⟩ := h1; exact Heap.lt_size e1
      · obtain ⟨_, e2, _⟩ := h2; exact Heap.lt_size e2
    unfold pyNext
    refine wpAny_bind (wpAny_attempt (wpAny_callSpecial?_slot (name := Str.ofString "__next__") ⟨_, hz, rfl⟩ F.slot_zip_next (wpAny_call_entry F.slot_zip_next ⟨_, hz, rfl⟩ F.entry_zip_next ?_ (F.args_zip_next_1 _))))
    refine zipS_item D hz hI hO (.ofList h1 p.isList) (.ofTup h2 p2) (x := u) (y := u2) (by simpa using hu) (by simpa using hu2) fun h' z' O' S1 S2 new keep => wpAny_pure ?_
    refine ⟨_, rfl, wpAny_letOwnedTupleGo_zip (s := { s with heap := h' }) z' fun h'' z'' sb => ?_⟩
    have pair : h''.get? s.heap.objs.size = some { cls := .type "tuple", data := .seq #[u, u2] } := (sb.2 _ (Nat.ne_of_gt zlt)).trans new
    have ok : ObjOk X.prog X.w (upd H s.heap.objs.size (.tup [x, y])) h'' s.heap.objs.size (.tup [x, y]) := ⟨by show 2 ≤ sizeLine; decide, [u, u2], .cons ru (.cons ru2 .nil), ⟨_, pair, rfl, _, rfl⟩⟩
    have I1 : Inv X pins σ (upd H s.heap.objs.size (.tup [x, y])) { s with heap := h'' } :=
      I.turnedNew (t' := s.toks) (ch := [z, TI, TO, i1, i2]) (fun c o nb e => (sb.2 c (fun e' => nb (by simp [e']))).trans (keep c o (fun e' => nb (by simp [e'])) (fun e' => nb (by simp [e'])) (fun e' => nb (by simp [e'])) (fun e' => nb (by simp [e'])) e)) hf (Nat.le_refl _) ok
    refine ⟨.ref s.heap.objs.size, _, I1, rfl, ⟨_, x, y, rfl, I.hok.fresh (Nat.le_refl _), rfl, fun l hl => by rw [I.list_inj hl sx]; exact hx, fun l hl => by rw [I.tuple_inj hl sy]; exact hy⟩, ⟨z'', ?_, ⟨u, u2, (sb.2 _ D.TOz).trans O'⟩, ?_, ?_⟩, fun c hcm => ?_⟩
    · exact (sb.2 _ D.TIz).trans (keep _ _ D.TIz D.TITO D.TIi1 D.TIi2 hI)
    · exact S1.list.at fun o q => (sb.2 _ D.i1z).trans q
    · exact S2.tup.at fun o q => (sb.2 _ D.i2z).trans q
    · rw [upd_ne (Nat.ne_of_lt (lower c hcm))]
      exact (hf c hcm).1
  done := by
    intro X hP hw hK hc i pins s σ H E I hf st hg
    subst hP hw hK
    obtain ⟨hz, hI, ⟨x0, y0, hO⟩, h1, h2⟩ := st
    obtain ⟨xs, sx, hend⟩ := hg
    obtain ⟨its, rv, p, _⟩ := I.list sx
    have l1 := rv.length
    unfold pyNext
    refine wpAny_bind (wpAny_attempt (wpAny_callSpecial?_slot (name := Str.ofString "__next__") ⟨_, hz, rfl⟩ F.slot_zip_next (wpAny_call_entry F.slot_zip_next ⟨_, hz, rfl⟩ F.entry_zip_next ?_ (F.args_zip_next_1 _))))
    refine zipS_end (I.ok.hd hc) D hz hI (.ofList h1 p.isList) (by simp; omega) fun h' e keep he => ?_
    obtain ⟨o, ho, hce⟩ := he
    refine wpAny_bind (wpAny_isInstance (T := "StopIteration") (b := true) ⟨o, ho, hce⟩ isSubtype_stop (wpAny_pure ⟨rfl, ?_⟩))
    exact I.turnedL (t' := s.toks) (ch := [z, TI, TO, i1, i2]) (fun c o nb e => keep c o (fun e' => nb (by simp [e'])) (fun e' => nb (by simp [e'])) (fun e' => nb (by simp [e'])) (fun e' => nb (by simp [e'])) e) hf
  self := fun A i s Q E st h => wpAny_pyIter_zip st.1 h
/-- the heap behind zip(l1, l2): two iterators, their pair, the pair to hand out, the zip -/
def zipHp (h : Heap) (l1 l2 : Addr) : Heap :=
  ((((h.push { cls := .type "list_iterator", data := .fields #[.ref l1, .int 0 0] }).push { cls := .type "tuple_iterator", data := .fields #[.ref l2, .int 0 0] }).push { cls := .type "tuple", data := .seq #[.ref h.objs.size, .ref (h.objs.size + 1)] }).push
    { cls := .type "tuple", data := .seq #[.none, .none] }).push { cls := .type "zip", data := .fields #[.none, .bool false, .bool false, .ref (h.objs.size + 2), .ref (h.objs.size + 3)] }
theorem zipLT_new (l1 l2 : Addr) (xs ys : Array Value) : Meets (Builtin.«zip.__new__» ⟨[.type "zip", .ref l1, .ref l2], []⟩) (fun _ R s => s.heap.IsList l1 xs ∧ s.heap.IsTuple l2 ys ∧ R (.ok (.ret (.ref (s.heap.objs.size + 4)))) { s with heap := zipHp s.heap l1 l2 }) :=
  .of_wp fun prog w A R s h => by
    obtain ⟨hp, g, d, tk, os⟩ := s
    obtain ⟨hl1, hl2, h⟩ := h
    have sub := sub_zip
    have L1 : Heap.IsList (Shared.heap ⟨hp, g, d, tk, os⟩) l1 xs := hl1
    have L2 : Heap.IsTuple (Shared.heap ⟨hp.push { cls := .type "list_iterator", data := .fields #[.ref l1, .int 0 0] }, g, d, tk, os⟩) l2 ys := Heap.IsTuple.push hl2 _
    wp_walk using wpAny_pyIter_list L1, wpAny_pyIter_tuple L2
    refine ⟨_, rfl, ?_⟩
    simp only [Heap.size_push] at h ⊢
    exact h
theorem call_zipLT {prog : Program} {w : World} {A : Around} {E : Value → Shared → Prop} {s : Shared} {l1 l2 : Addr} {xs ys : Array Value} {Q : Value → Shared → Prop} (h1 : s.heap.IsList l1 xs) (h2 : s.heap.IsTuple l2 ys)
    (q : ∀ h', IsZip h' (s.heap.objs.size + 4) (s.heap.objs.size + 2) (s.heap.objs.size + 3) .none → IsPair h' (s.heap.objs.size + 2) (.ref s.heap.objs.size) (.ref (s.heap.objs.size + 1)) → IsPair h' (s.heap.objs.size + 3) .none .none →
      h'.IsListIter s.heap.objs.size l1 0 → h'.IsTupleIter (s.heap.objs.size + 1) l2 0 → (∀ c o, s.heap.get? c = some o → h'.get? c = some o) → Q (.ref (s.heap.objs.size + 4)) { s with heap := h' }) :
    wpAny (model prog w) A (call (.type "zip") [.ref l1, .ref l2]) Q E s := by
  refine callType_new F.called_zip (by decide) (F.typeCall_zip_2 _ _) (F.newCall_zip_2 _ _) (fun obj => F.args_object_init_3 obj _ _) F.entry_zip_new (zipLT_new l1 l2 xs ys) ⟨h1, h2, ?_⟩
  have at0 : (zipHp s.heap l1 l2).get? s.heap.objs.size = some { cls := .type "list_iterator", data := .fields #[.ref l1, .int 0 0] } := Heap.get?_push_of_some _ (Heap.get?_push_of_some _ (Heap.get?_push_of_some _ (Heap.get?_push_of_some _ (Heap.get?_push_size _ rfl))))
  have at1 : (zipHp s.heap l1 l2).get? (s.heap.objs.size + 1) = some { cls := .type "tuple_iterator", data := .fields #[.ref l2, .int 0 0] } := by
    refine Heap.get?_push_of_some _ (Heap.get?_push_of_some _ (Heap.get?_push_of_some _ ?_))
    rw [← Heap.size_push s.heap { cls := .type "list_iterator", data := .fields #[.ref l1, .int 0 0] }]
    exact Heap.get?_push_size _ rfl
  have at2 : (zipHp s.heap l1 l2).get? (s.heap.objs.size + 2) = some { cls := .type "tuple", data := .seq #[.ref s.heap.objs.size, .ref (s.heap.objs.size + 1)] } := by
    refine Heap.get?_push_of_some _ (Heap.get?_push_of_some _ ?_)
    have e : s.heap.objs.size + 2 = ((s.heap.push { cls := .type "list_iterator", data := .fields #[.ref l1, .int 0 0] }).push { cls := .type "tuple_iterator", data := .fields #[.ref l2, .int 0 0] }).objs.size := by rw [Heap.size_push, Heap.size_push]
    rw [e]
    exact Heap.get?_push_size _ rfl
  have at3 : (zipHp s.heap l1 l2).get? (s.heap.objs.size + 3) = some { cls := .type "tuple", data := .seq #[.none, .none] } := by
    refine Heap.get?_push_of_some _ ?_
    have e : s.heap.objs.size + 3 = (((s.heap.push { cls := .type "list_iterator", data := .fields #[.ref l1, .int 0 0] }).push { cls := .type "tuple_iterator", data := .fields #[.ref l2, .int 0 0] }).push { cls := .type "tuple", data := .seq #[.ref s.heap.objs.size, .ref (s.heap.objs.size + 1)] }).objs.size := by rw [Heap.size_push, Heap.size_push, Heap.size_push]
    rw [e]
    exact Heap.get?_push_size _ rfl
  have at4 : (zipHp s.heap l1 l2).get? (s.heap.objs.size + 4) = some { cls := .type "zip", data := .fields #[.none, .bool false, .bool false, .ref (s.heap.objs.size + 2), .ref (s.heap.objs.size + 3)] } := by
    have e : s.heap.objs.size + 4 = ((((s.heap.push { cls := .type "list_iterator", data := .fields #[.ref l1, .int 0 0] }).push { cls := .type "tuple_iterator", data := .fields #[.ref l2, .int 0 0] }).push { cls := .type "tuple", data := .seq #[.ref s.heap.objs.size, .ref (s.heap.objs.size + 1)] }).push { cls := .type "tuple", data := .seq #[.none, .none] }).objs.size := by rw [Heap.size_push, Heap.size_push, Heap.size_push, Heap.size_push]
    unfold zipHp
    rw [e]
    exact Heap.get?_push_size _ rfl
  refine ⟨⟨_, at4, rfl⟩, q _ at4 at2 at3 ⟨_, at0, rfl, rfl⟩ ⟨_, at1, rfl, rfl⟩ fun c o x => ?_⟩
  exact Heap.get?_push_of_some _ (Heap.get?_push_of_some _ (Heap.get?_push_of_some _ (Heap.get?_push_of_some _ (Heap.get?_push_of_some _ x))))
def iZipLT (K : PySem.W.Frag) (ta : TA) : TI := fun σ H R => ta σ H fun vs H1 => ∃ a b xs ys, vs = [.ref a, .ref b] ∧ SqL K H1 a xs ∧ SqT K H1 b ys ∧ R (ItzLT K a b) H1
theorem pi_zipLT {X : Cx} {e e2 : Expr} {ta : TA} {p pos tpos : Pos} {elts : List Expr} {kk : Nat} (hg : Gl X "zip") (hm : X.mg "zip" = none) (ha : PA X [e, e2] ta)
    (hs : starEach [e, e2] X.env = (false, eval e X.env) :: starEach [e2] X.env := by rfl) (hpl : (backTo pos (starEach [e2] X.env)).any (·.1) = false := by rfl) :
    PI X (.Tuple elts kk tpos) (.Call (.Name "zip" p) [e, e2] [] pos) (iZipLT X.K ta) := by
  refine ⟨fun pins s σ H R I h => ?_⟩
  refine Call_ (ld_blt I hg hm PyProof.Rows.boot_zip (PyProof.Rows.callWith_type1 (thn (ha.run pos pins s σ H _ I h) fun us s1 ⟨vs, H1, I1, r1, q1⟩ => ?_) hs hpl))
  obtain ⟨a, b, xs, ys, rfl, sx, sy, q⟩ := q1
  obtain ⟨u, v, rfl, ru, rv⟩ := vals2 r1
  cases ru
  cases rv
  obtain ⟨its, _, p1, _⟩ := I1.list sx
  obtain ⟨its2, _, p2, _⟩ := I1.tuple sy
  obtain ⟨o2, ho2, _⟩ := id p2
  refine call_zipLT p1.isList p2 fun h' hz hI hO t1 t2 keep => wpAny_pyIter_zip hz ?_
  refine ⟨s1.heap.objs.size + 4, [s1.heap.objs.size + 4, s1.heap.objs.size + 2, s1.heap.objs.size + 3, s1.heap.objs.size, s1.heap.objs.size + 1], _, _, H1, rfl, I1.kept (t' := s1.toks) keep, turn_zipLT (PySem.W.ktu_apart s1.heap.objs.size a b p1.lt (Heap.lt_size ho2)), ⟨hz, hI, ⟨_, _, hO⟩, t1, t2⟩, fun c hc => ?_, q⟩
  have up : s1.heap.objs.size ≤ c := by
    simp only [List.mem_cons, List.not_mem_nil, or_false] at hc
    rcases hc with rfl | rfl | rfl | rfl | rfl <;> omega
  exact I1.fpOk up (I1.hok.fresh up)
theorem walk_zipLT {K : PySem.W.Frag} {a b : Addr} {xs ys : List V} (hn : xs.length = ys.length) : Walk (ItzLT K a b) xs.length (fun H => SqL K H a xs ∧ SqT K H b ys) (YPair (fun i => xs[i]?) (fun i => ys[i]?)) where
  goes := fun i H hi ⟨h1, h2⟩ => ⟨xs, ys, xs[i], ys[i], h1, h2, List.getElem?_eq_getElem hi, List.getElem?_eq_getElem (hn ▸ hi)⟩
  stops := fun H ⟨h1, _⟩ => ⟨xs, h1, Nat.le_refl _⟩
  yields := fun i H v H' _ ⟨h1, h2⟩ ⟨T, x, y, e1, e2, e3, e4, e5⟩ => ⟨T, x, y, e1, e2, e3, e4 _ h1, e5 _ h2⟩
end L2
namespace Sw
open PySem PySem.Spec PyProof.Rows L2
/-! ### 1. the text by places -/
def top (i : Nat) : Stmt := PySem.Challenge.pw_sampleweave_k17_whole_resampled.main.body.getD i (.Pass ⟨0, 0, 0, 0⟩)
abbrev FnP (K : PySem.W.Frag) (x : Str) (st : Stmt) (f : Addr) (fd : FuncData) : Prop := FunD K x x (defArgs st) (defBody st) (defScope st) [] [] f fd
abbrev sWall : Stmt := top 0
abbrev sNoNodeInit : Stmt := inClass (top 3) 0
abbrev sWhole : Stmt := top 5
abbrev sWithin : Stmt := top 6
abbrev sTruth : Stmt := top 7
abbrev sWholes : Stmt := top 8
abbrev sListOf : Stmt := top 9
abbrev sNeed : Stmt := top 10
abbrev sFiring : Stmt := top 12
abbrev sNodeInit : Stmt := inClass (top 16) 0
abbrev sNodeTakes : Stmt := inClass (top 16) 1
abbrev sNodeGives : Stmt := inClass (top 16) 2
abbrev sNodeLate : Stmt := inClass (top 16) 3
abbrev sNodeBegin : Stmt := inClass (top 16) 4
abbrev sNodeFresh : Stmt := inClass (top 16) 5
abbrev sNodeFire : Stmt := inClass (top 16) 6
abbrev sNodeBegun : Stmt := inClass (top 16) 7
abbrev sNodeShown : Stmt := inClass (top 16) 8
abbrev sTapsInit : Stmt := inClass (top 19) 0
abbrev sTapsTakes : Stmt := inClass (top 19) 1
abbrev sTapsGives : Stmt := inClass (top 19) 2
abbrev sTapsLate : Stmt := inClass (top 19) 3
abbrev sTapsBegin : Stmt := inClass (top 19) 4
abbrev sTapsFresh : Stmt := inClass (top 19) 5
abbrev sTapsFire : Stmt := inClass (top 19) 6
abbrev sTapsWork : Stmt := inClass (top 19) 7
abbrev sTapsBegun : Stmt := inClass (top 19) 8
abbrev sTapsEq : Stmt := inClass (top 19) 9
abbrev sTapsRepr : Stmt := inClass (top 19) 10
abbrev sUpInit : Stmt := inClass (top 22) 0
abbrev sUpTakes : Stmt := inClass (top 22) 1
abbrev sUpGives : Stmt := inClass (top 22) 2
abbrev sUpLate : Stmt := inClass (top 22) 3
abbrev sUpBegin : Stmt := inClass (top 22) 4
abbrev sUpFresh : Stmt := inClass (top 22) 5
abbrev sUpFire : Stmt := inClass (top 22) 6
abbrev sUpWork : Stmt := inClass (top 22) 7
abbrev sUpBegun : Stmt := inClass (top 22) 8
abbrev sUpEq : Stmt := inClass (top 22) 9
abbrev sUpRepr : Stmt := inClass (top 22) 10
abbrev sDownInit : Stmt := inClass (top 23) 0
abbrev sDownTakes : Stmt := inClass (top 23) 1
abbrev sDownGives : Stmt := inClass (top 23) 2
abbrev sDownLate : Stmt := inClass (top 23) 3
abbrev sDownBegin : Stmt := inClass (top 23) 4
abbrev sDownFresh : Stmt := inClass (top 23) 5
abbrev sDownFire : Stmt := inClass (top 23) 6
abbrev sDownWork : Stmt := inClass (top 23) 7
abbrev sDownBegun : Stmt := inClass (top 23) 8
abbrev sDownEq : Stmt := inClass (top 23) 9
abbrev sDownRepr : Stmt := inClass (top 23) 10
abbrev sResampleInit : Stmt := inClass (top 24) 0
abbrev sResampleTakes : Stmt := inClass (top 24) 1
abbrev sResampleGives : Stmt := inClass (top 24) 2
abbrev sResampleLate : Stmt := inClass (top 24) 3
abbrev sResampleBegin : Stmt := inClass (top 24) 4
abbrev sResampleFresh : Stmt := inClass (top 24) 5
abbrev sResampleFire : Stmt := inClass (top 24) 6
abbrev sResampleWork : Stmt := inClass (top 24) 7
abbrev sResampleTapped : Stmt := inClass (top 24) 8
abbrev sResampleBegun : Stmt := inClass (top 24) 9
abbrev sResampleEq : Stmt := inClass (top 24) 10
abbrev sResampleRepr : Stmt := inClass (top 24) 11
abbrev sCell : Stmt := top 26
abbrev sPot : Stmt := top 27
abbrev sDraw : Stmt := top 28
abbrev sNumber : Stmt := top 29
abbrev sNumbers : Stmt := top 30
abbrev sLSample : Stmt := top 31
abbrev sLGiven : Stmt := top 32
abbrev sLFired : Stmt := top 33
abbrev sLByThree : Stmt := top 34
abbrev sLRight : Stmt := top 35
abbrev sLaw : Stmt := top 36
/-! ### 2. pots -/
/-- all but what stands at p is as it was -/
def Kept (p : Addr) (H H' : Hp) : Prop := ∀ b o, b ≠ p → H b = some o → H' b = some o
theorem Kept.refl {p : Addr} {H : Hp} : Kept p H H := fun _ _ _ h => h
theorem Kept.trans {p : Addr} {H H1 H2 : Hp} (a : Kept p H H1) (b : Kept p H1 H2) : Kept p H H2 := fun c o n h => b c o n (a c o n h)
theorem Kept.upd {p : Addr} {H H1 : Hp} {o : HO} (a : Kept p H H1) : Kept p H (upd H1 p o) := fun c o n h => by
  rw [upd_ne n]
  exact a c o n h
theorem Kept.new {p q : Addr} {H H1 : Hp} {o : HO} (a : Kept p H H1) (h : H1 q = none) : Kept p H (L2.upd H1 q o) := fun c o n e => by
  have e1 := a c o n e
  rw [upd_ne (ne_of_none e1 h)]
  exact e1
theorem Kept.same {p : Addr} {H H1 : Hp} (a : Same H H1) : Kept p H H1 := fun c o _ e => a c o e
/-- behind a heap in which nothing stood at p -/
theorem Same.kept {p : Addr} {H0 H H1 : Hp} (s : Same H0 H) (h : H0 p = none) (k : Kept p H H1) : Same H0 H1 := fun b o e =>
  k b o (fun z => by rw [z, h] at e; cases e) (s b o e)
theorem Same.new {H H1 : Hp} {q : Addr} {o : HO} (a : Same H H1) (h : H1 q = none) : Same H (upd H1 q o) := fun c u e => by
  have e1 := a c u e
  rw [upd_ne (ne_of_none e1 h)]
  exact e1
/-- a pot: two numbers from 0 on, the second one small -/
def PotAt (H : Hp) (p : Addr) : Prop := ∃ a b : Int, 0 ≤ a ∧ 0 ≤ b ∧ b < 2147483647 ∧ H p = some (.lst [.int a, .int b])
theorem PotAt.keep {H H1 : Hp} {p : Addr} (h : PotAt H p) (s : Same H H1) : PotAt H1 p := by
  obtain ⟨a, b, h1, h2, h3, h4⟩ := h
  exact ⟨a, b, h1, h2, h3, s _ _ h4⟩
/-! ### 3. promises -/
def spCell (K : PySem.W.Frag) : Sp := fun vs H Q _ => ∃ (a : Addr) (ns : List Int) (k : Nat), vs = [.ref a, .int (k : Int)] ∧ SqL K H a (ns.map V.int) ∧ ∀ c : Int, Q (.int c) H
def spPot : Sp := fun vs H Q _ => ∃ c : Int, vs = [.int c] ∧ ∀ (p : Addr) (H' : Hp), H p = none → Same H H' → PotAt H' p → Q (.ref p) H'
def spDraw : Sp := fun vs H Q _ => ∃ (p : Addr) (m : Int), vs = [.ref p, .int m] ∧ PotAt H p ∧ 0 < m ∧ m < 2 ^ 64 ∧ ∀ (d : Int) (H' : Hp), 0 ≤ d → d < m → Kept p H H' → PotAt H' p → Q (.int d) H'
def spNumber : Sp := fun vs H Q _ => ∃ p : Addr, vs = [.ref p] ∧ PotAt H p ∧ ∀ (d : Int) (H' : Hp), -(10 ^ 56) < d → d < 10 ^ 56 → Kept p H H' → PotAt H' p → Q (.int d) H'
section
variable {P : Program} {w : World} {K : PySem.W.Frag} {mg : Str → Option Value} {base : Heap} {f f1 f2 f3 f4 f5 f6 C CW CN : Addr} {fd fd1 fd2 fd3 fd4 fd5 fd6 : FuncData}
theorem scCell : FnScope ["_law_script", "_law_k"] ["_law_script", "_law_k"] (defScope sCell) := ⟨rfl, rfl, rfl, by decide +kernel, rfl, by decide +kernel, by decide +kernel⟩
theorem ok_cell (F : FnP K "_law_cell" sCell f fd) (gLen : mg "len" = none) : FnOk P w K mg base CX0 1 f fd ["_law_script", "_law_k"] (spCell K) := by
  refine F.ok scCell (fun vs H Q E h => ?_) (fun cdv A outer s H vs Q E hr h => ?_)
  · obtain ⟨a, ns, k, rfl, _⟩ := h
    rfl
  · obtain ⟨a, ns, k, rfl, hS, kk⟩ := h
    refine ⟨_, PSs.nox (pss_one (ps_ret (pe_ifExp (pt_cmpR op_lt (pv 1) (pe_callB call_len_seq (by rfl) gLen PySem.boot_len (pa_cons (pv 0) pa_nil)) (nomark _)) (pe_ix ix_list (pv 0) (pv 1) (fun _ _ => rfl)) pe_int))), ?_⟩
    refine ⟨_, rfl, _, rfl, a, _, rfl, .inl hS, _, _, rfl, rfl, _, rfl, ?_⟩
    refine ite2 (fun h => ?_) (fun _ => kk 0)
    have h1 := of_decide_eq_true h
    rw [List.length_map] at h1
    have h2 : k < ns.length := by omega
    refine ⟨_, rfl, _, rfl, a, _, _, V.int (ns[k]), rfl, rfl, hS, atI_nat ?_, kk _⟩
    rw [List.getElem?_map, List.getElem?_eq_getElem h2]
    rfl
theorem scPot : FnScope ["_law_cell_here"] ["_law_cell_here"] (defScope sPot) := ⟨rfl, rfl, rfl, by decide +kernel, rfl, by decide +kernel, by decide +kernel⟩
theorem ok_pot (F : FnP K "_law_pot" sPot f fd) (gMax : mg "max" = none) : FnOk P w K mg base CX0 1 f fd ["_law_cell_here"] spPot := by
  refine F.ok scPot (fun vs H Q E h => ?_) (fun cdv A outer s H vs Q E hr h => ?_)
  · obtain ⟨c, rfl, _⟩ := h
    rfl
  · obtain ⟨c, rfl, kk⟩ := h
    refine ⟨_, PSs.nox (pss_one (ps_ret (pe_lst (pa_cons (pe_callB (call_max2 rfl) (by rfl) gMax (by decide +kernel) (pa_cons pe_int (pa_cons (pe_op op_sub (pv 0) (pe_op op_pow pe_int pe_int)) pa_nil)))
      (pa_cons (pe_op op_mod (pe_op op_add (pe_op op_mul (pe_op op_mod (pv 0) pe_int) pe_int) pe_int) pe_int) pa_nil))))), ?_⟩
    refine ⟨_, rfl, _, _, rfl, rfl, ⟨by decide, by decide, by decide⟩, _, _, rfl, rfl, _, _, rfl, ?_⟩
    have q0 := Int.emod_nonneg c (show (2147483629 : Int) ≠ 0 by decide)
    have q1 := Int.emod_lt_of_pos c (show (0 : Int) < 2147483629 by decide)
    refine ⟨_, rfl, _, _, rfl, rfl, (by show (0 : Int) < _; decide), _, _, rfl, rfl, .inr ⟨by decide, by decide⟩, _, _, rfl, rfl, _, _, rfl, rfl, (by show (0 : Int) < _; decide), ?_⟩
    refine ⟨(by show 2 ≤ sizeLine; decide), fun p hp => kk p _ hp (Same.new (Same.refl _) hp) ⟨_, _, ?_, ?_, ?_, upd_same⟩⟩
    · split
      · omega
      · decide
    · exact Int.emod_nonneg _ (by decide)
    · exact Int.emod_lt_of_pos _ (by decide)
theorem scDraw : FnScope ["_law_pot_here", "_law_many", "_law_digit"] ["_law_pot_here", "_law_many"] (defScope sDraw) := ⟨rfl, rfl, rfl, by decide +kernel, rfl, by decide +kernel, by decide +kernel⟩
theorem div_wide {i m : Int} (h0 : 0 < m) (h1 : m < 2 ^ 64) : CDivW i m := wide_div (b := 64) h0 (by omega) (by decide) (by decide)
theorem ok_draw (F : FnP K "_law_draw" sDraw f fd) : FnOk P w K mg base CX0 1 f fd ["_law_pot_here", "_law_many"] spDraw := by
  refine F.ok scDraw (fun vs H Q E h => ?_) (fun cdv A outer s H vs Q E hr h => ?_)
  · obtain ⟨p, m, rfl, _⟩ := h
    rfl
  · obtain ⟨p, m, rfl, ⟨a, b, a0, b0, b1, hp⟩, m0, m1, kk⟩ := h
    refine ⟨_, PSs.nox (pss_cons (ps_if (pt_cmpR op_gt (pe_ix ix_list (pv 0) pe_int (fun _ _ => rfl)) pe_int (nomark _))
        (pss_cons (ps_set (i := 2) scDraw.nd rfl (Or.inl rfl) (pe_op op_mod (pe_ix ix_list (pv 0) pe_int (fun _ _ => rfl)) (pv 1)))
          (pss_cons (ps_asg (pe_op op_fdivW (pe_ix ix_list (pv 0) pe_int (fun _ _ => rfl)) (pv 1)) (pg_sub (pv 0) pe_int set_list (by intro _; rfl)))
            (pss_one (ps_ret (pv 2))))) pss_nil)
      (pss_cons (ps_asg (pe_op op_mod (pe_op op_add (pe_op op_mul (pe_ix ix_list (pv 0) pe_int (fun _ _ => rfl)) pe_int) pe_int) pe_int) (pg_sub (pv 0) pe_int set_list (by intro _; rfl)))
        (pss_one (ps_ret (pe_op op_mod (pe_op op_fdiv (pe_op op_mod (pe_op op_mul (pe_ix ix_list (pv 0) pe_int (fun _ _ => rfl)) (pe_ix ix_list (pv 0) pe_int (fun _ _ => rfl))) pe_int) pe_int) (pv 1)))))), ?_⟩
    refine ⟨_, rfl, p, _, _, _, rfl, rfl, SqL.of hp, atI_nat (j := 0) rfl, _, _, rfl, rfl, _, rfl, ?_⟩
    refine ite2 (fun h => ?_) (fun _ => ?_)
    · refine ⟨_, rfl, p, _, _, _, rfl, rfl, SqL.of hp, atI_nat (j := 0) rfl, _, rfl, _, _, rfl, rfl, m0, ?_⟩
      refine ⟨_, rfl, p, _, _, _, rfl, rfl, SqL.of hp, atI_nat (j := 0) rfl, _, rfl, _, _, rfl, rfl, div_wide m0 m1, ?_⟩
      refine ⟨_, rfl, p, _, _, 0, rfl, rfl, hp, rfl, ?_⟩
      refine ⟨_, rfl, kk _ _ (Int.emod_nonneg _ (by omega)) (Int.emod_lt_of_pos _ m0) (Kept.upd Kept.refl) ⟨_, _, Int.ediv_nonneg a0 (by omega), b0, b1, upd_same⟩⟩
    · refine ⟨_, rfl, p, _, _, _, rfl, rfl, SqL.of hp, atI_nat (j := 1) rfl, _, _, rfl, rfl, .inr ⟨by decide, by decide⟩, _, _, rfl, rfl, _, _, rfl, rfl, (by show (0 : Int) < _; decide), ?_⟩
      refine ⟨_, rfl, p, _, _, 1, rfl, rfl, hp, rfl, ?_⟩
      have c0 := Int.emod_nonneg (b * 39373 + 8191) (show (2147483587 : Int) ≠ 0 by decide)
      have c1 := Int.emod_lt_of_pos (b * 39373 + 8191) (show (0 : Int) < 2147483587 by decide)
      have hq : (upd H p (.lst ([V.int a, V.int b].set 1 (V.int ((b * 39373 + 8191) % 2147483587))))) p = some (.lst [V.int a, V.int ((b * 39373 + 8191) % 2147483587)]) := upd_same
      refine ⟨_, rfl, p, _, _, _, rfl, rfl, SqL.of hq, atI_nat (j := 1) rfl, _, rfl, p, _, _, _, rfl, rfl, SqL.of hq, atI_nat (j := 1) rfl, _, _, rfl, rfl, .inl ⟨by omega, by omega⟩, ?_⟩
      refine ⟨_, _, rfl, rfl, (by show (0 : Int) < _; decide), _, _, rfl, rfl, ⟨by decide, by decide⟩, _, rfl, _, _, rfl, rfl, m0, ?_⟩
      exact kk _ _ (Int.emod_nonneg _ (by omega)) (Int.emod_lt_of_pos _ m0) (Kept.upd Kept.refl) ⟨_, _, a0, c0, by omega, hq⟩
theorem scNumber : FnScope ["_law_pot_here", "_law_way", "_law_found", "_law_k"] ["_law_pot_here"] (defScope sNumber) := ⟨rfl, rfl, rfl, by decide +kernel, rfl, by decide +kernel, by decide +kernel⟩
def tabM : List V := [.int 21, .int 21, .int 21, .int 3, .int 201, .int 2001, .int (10 ^ 9)]
def tabO : List V := [.int 10, .int 10, .int 5, .int 1, .int 100, .int 1000, .int 500000000]
theorem tab_at {d : Int} (h0 : 0 < d) (h8 : d < 8) : ∃ m o : Int, atI tabM (d - 1) = some (.int m) ∧ atI tabO (d - 1) = some (.int o) ∧ 0 < m ∧ m ≤ 10 ^ 9 ∧ 0 ≤ o ∧ o ≤ 10 ^ 9 := by
  have : d = 1 ∨ d = 2 ∨ d = 3 ∨ d = 4 ∨ d = 5 ∨ d = 6 ∨ d = 7 := by omega
  rcases this with rfl | rfl | rfl | rfl | rfl | rfl | rfl
  all_goals exact ⟨_, _, rfl, rfl, by decide, by decide, by decide, by decide⟩
theorem ten_step {x d : Int} {i : Nat} (h0 : 0 ≤ x) (h1 : x < 10 ^ (14 * i)) (d0 : 0 ≤ d) (d1 : d < 10 ^ 14) : x * 10 ^ 14 + d < 10 ^ (14 * (i + 1)) := by
  rw [show 14 * (i + 1) = 14 * i + 14 by omega, Int.pow_add]
  generalize hy : (10 : Int) ^ (14 * i) = y at *
  omega
theorem ok_number (F : FnP K "_law_number" sNumber f fd) (FD : FnP K "_law_draw" sDraw f1 fd1) (gDraw : mg "_law_draw" = some (.ref f1)) (gRange : mg "range" = none) : FnOk P w K mg base CX0 2 f fd ["_law_pot_here"] spNumber := by
  have GD : FnOk P w K mg base CX0 1 f1 fd1 ["_law_pot_here", "_law_many"] spDraw := ok_draw FD
  have bD : Binds K fd1 ["_law_pot_here", "_law_many"] [] := FD.bindsN fun _ _ _ _ _ _ us hl => match us, hl with | [_, _], _ => rfl
  refine F.ok scNumber (fun vs H Q E h => ?_) (fun cdv A outer s H vs Q E hr h => ?_)
  · obtain ⟨p, rfl, _⟩ := h
    rfl
  · obtain ⟨p, rfl, hp, kk⟩ := h
    refine ⟨_, PSs.nox (pss_cons (ps_set (i := 1) scNumber.nd rfl (Or.inl rfl) (pe_call GD hr rfl gDraw FD.kp bD .nil pass0 (pa_cons (pv 0) (pa_cons pe_int pa_nil))))
      (pss_cons (ps_if (pt_cmpR op_eq (pv 1) pe_int (nomark _))
        (pss_cons (ps_set (i := 2) scNumber.nd rfl (Or.inl rfl) pe_int)
          (pss_cons (ps_for PassesOwn.never rfl (pi_range1 rfl gRange (pa_cons pe_int pa_nil)) (pg_name (i := 3) scNumber.nd rfl (Or.inl rfl))
              (pss_one (ps_set (i := 2) scNumber.nd rfl (Or.inl rfl) (pe_op op_add (pe_op op_mul (pv 2) (pe_op op_pow pe_int pe_int)) (pe_call GD hr rfl gDraw FD.kp bD .nil pass0 (pa_cons (pv 0) (pa_cons (pe_op op_pow pe_int pe_int) pa_nil)))))))
            (pss_one (ps_ret (pe_op op_mul (pv 2) (pe_op op_sub pe_int (pe_op op_mul pe_int (pe_call GD hr rfl gDraw FD.kp bD .nil pass0 (pa_cons (pv 0) (pa_cons pe_int pa_nil))))))))))
        pss_nil)
      (pss_one (ps_ret (pe_op op_sub (pe_call GD hr rfl gDraw FD.kp bD .nil pass0 (pa_cons (pv 0) (pa_cons (pe_ix ix_list
          (pe_lst (pa_cons pe_int (pa_cons pe_int (pa_cons pe_int (pa_cons pe_int (pa_cons pe_int (pa_cons pe_int (pa_cons (pe_op op_pow pe_int pe_int) pa_nil)))))))) (pe_op op_sub (pv 1) pe_int) (fun _ _ => rfl)) pa_nil)))
        (pe_ix ix_list (pe_lst (pa_cons pe_int (pa_cons pe_int (pa_cons pe_int (pa_cons pe_int (pa_cons pe_int (pa_cons pe_int (pa_cons pe_int pa_nil)))))))) (pe_op op_sub (pv 1) pe_int) (fun _ _ => rfl))))))), ?_⟩
    refine ⟨_, rfl, p, 8, rfl, hp, by decide, by decide, fun d H1 d0 d8 k1 hp1 => ?_⟩
    refine ⟨_, rfl, rfl, _, rfl, ?_⟩
    refine ite2 (fun h => ?_) (fun h => ?_)
    · refine ⟨4, rfl, by decide, by decide, for_range (n := 4) (fun i σ H' => ∃ (x : Int) (v : Option V), σ = [some (.ref p), some (.int d), some (.int x), v] ∧ 0 ≤ x ∧ x < 10 ^ (14 * i) ∧ Kept p H H' ∧ PotAt H' p)
        ⟨0, none, rfl, by decide, by decide, k1, hp1⟩ ?_ ?_⟩
      · rintro i σ H' hi ⟨x, v, rfl, x0, x1, k2, hp2⟩
        refine ⟨_, rfl, _, _, rfl, rfl, ⟨by decide, by decide, by decide⟩, _, _, rfl, rfl, .inr ⟨by decide, by decide⟩, ?_⟩
        refine ⟨_, rfl, _, _, rfl, rfl, ⟨by decide, by decide, by decide⟩, p, _, rfl, hp2, by decide, by decide, fun e H3 e0 e1 k3 hp3 => ?_⟩
        exact ⟨_, _, rfl, rfl, x * 10 ^ 14 + e, _, rfl, by omega, ten_step x0 x1 e0 e1, k2.trans k3, hp3⟩
      · rintro σ H' ⟨x, v, rfl, x0, x1, k2, hp2⟩
        refine ⟨_, rfl, _, rfl, p, 2, rfl, hp2, by decide, by decide, fun e H3 e0 e1 k3 hp3 => ?_⟩
        refine ⟨_, _, rfl, rfl, .inl ⟨by decide, by decide⟩, _, _, rfl, rfl, _, _, rfl, rfl, .inr ⟨by omega, by omega⟩, ?_⟩
        have : e = 0 ∨ e = 1 := by omega
        have x2 : x < 10 ^ 56 := x1
        refine kk _ _ ?_ ?_ (k2.trans k3) hp3
        · rcases this with rfl | rfl <;> omega
        · rcases this with rfl | rfl <;> omega
    · have dn : d ≠ 0 := fun z => h (decide_eq_true (by rw [z]))
      obtain ⟨m, o, e1, e2, m0, m1, o0, o1⟩ := tab_at (d := d) (by omega) d8
      refine ⟨_, rfl, _, _, rfl, rfl, ⟨by decide, by decide, by decide⟩, (by show 7 ≤ sizeLine; decide), fun l hl => ?_⟩
      refine ⟨_, rfl, _, _, rfl, rfl, l, _, _, _, rfl, rfl, SqL.of upd_same, e1, ?_⟩
      have hp2 : PotAt (upd H1 l (.lst tabM)) p := hp1.keep (Same.new (Same.refl _) hl)
      refine ⟨p, m, rfl, hp2, m0, by omega, fun e H3 e0 e1' k3 hp3 => ?_⟩
      refine ⟨(by show 7 ≤ sizeLine; decide), fun l2 hl2 => ?_⟩
      refine ⟨_, rfl, _, _, rfl, rfl, l2, _, _, _, rfl, rfl, SqL.of upd_same, e2, _, _, rfl, rfl, ?_⟩
      exact kk _ _ (by omega) (by omega) (((k1.new hl).trans k3).new hl2) (hp3.keep (Same.new (Same.refl _) hl2))
end
/-! ### is_whole, is_whole_within -/
def NoInt (K : PySem.W.Frag) (H : Hp) (v : V) : Prop := (∃ b, v = .bl b) ∨ ∃ T : String, TyX K H v (.type T) ∧ kitB T "int" = some false
def OddV (K : PySem.W.Frag) (H : Hp) (v : V) : Prop := (∃ i : Int, v = .int i ∧ (i < 0 ∨ 400 < i)) ∨ NoInt K H v
def spWhole (K : PySem.W.Frag) : Sp := fun vs H Q _ => ∃ v : V, vs = [v] ∧ ((∃ i : Int, v = .int i ∧ Q (.bl true) H) ∨ (NoInt K H v ∧ Q (.bl false) H))
def spWithin (K : PySem.W.Frag) : Sp := fun vs H Q _ => ∃ (v : V) (lo hi : Int), vs = [v, .int lo, .int hi] ∧ ((∃ i : Int, v = .int i ∧ Q (.bl (decide (lo ≤ i ∧ i ≤ hi))) H) ∨ (NoInt K H v ∧ Q (.bl false) H))
section
variable {P : Program} {w : World} {K : PySem.W.Frag} {mg : Str → Option Value} {base : Heap} {f f1 f2 f3 f4 f5 f6 C CW CN : Addr} {fd fd1 fd2 fd3 fd4 fd5 fd6 : FuncData}
theorem scWhole : FnScope ["thing"] ["thing"] (defScope sWhole) := ⟨rfl, rfl, rfl, by decide +kernel, rfl, by decide +kernel, by decide +kernel⟩
theorem ok_whole (F : FnP K "is_whole" sWhole f fd) (gIs : mg "isinstance" = none) (gInt : mg "int" = none) (gBool : mg "bool" = none) : FnOk P w K mg base CX0 1 f fd ["thing"] (spWhole K) := by
  refine F.ok scWhole (fun vs H Q E h => ?_) (fun cdv A outer s H vs Q E hr h => ?_)
  · obtain ⟨v, rfl, _⟩ := h
    rfl
  · obtain ⟨v, rfl, h⟩ := h
    refine ⟨_, PSs.nox (pss_one (ps_ret (pe_and (pe_callB call_isi (by rfl) gIs boot_isinstance (pa_cons (pv 0) (pa_cons (pe_bltn (v := .ty "int") rfl gInt PyProof.Rows.boot_int rfl) pa_nil)))
      (pe_one (pe_not (pe_callB call_isi (by rfl) gIs boot_isinstance (pa_cons (pv 0) (pa_cons (pe_bltn (v := .ty "bool") rfl gBool PyProof.Rows.boot_bool rfl) pa_nil)))))))), ?_⟩
    rcases h with ⟨i, rfl, k⟩ | ⟨⟨b, rfl⟩ | ⟨T, ty, ki⟩, k⟩
    · refine ⟨_, rfl, _, _, _, _, true, rfl, ClsV.ty _, TyX.base (TyOf.int i), kit_ty (by decide +kernel), _, rfl, iteT ?_⟩
      exact ⟨_, rfl, _, _, _, _, false, rfl, ClsV.ty _, TyX.base (TyOf.int i), kit_ty (by decide +kernel), _, rfl, k⟩
    · refine ⟨_, rfl, _, _, _, _, true, rfl, ClsV.ty _, TyX.base (TyOf.bl b), kit_ty (by decide +kernel), _, rfl, iteT ?_⟩
      exact ⟨_, rfl, _, _, _, _, true, rfl, ClsV.ty _, TyX.base (TyOf.bl b), kit_ty (by decide +kernel), _, rfl, k⟩
    · exact ⟨_, rfl, _, _, _, _, false, rfl, ClsV.ty _, ty, kit_ty ki, _, rfl, iteF k⟩
theorem scWithin : FnScope ["thing", "least", "most"] ["thing", "least", "most"] (defScope sWithin) := ⟨rfl, rfl, rfl, by decide +kernel, rfl, by decide +kernel, by decide +kernel⟩
theorem ok_within (F : FnP K "is_whole_within" sWithin f fd) (GI : FnOk P w K mg base CX0 1 f1 fd1 ["thing"] (spWhole K)) (gI : mg "is_whole" = some (.ref f1)) (kI : PySem.W.keepIn K (.ref f1) = true) (bI : Binds K fd1 ["thing"] []) : FnOk P w K mg base CX0 2 f fd ["thing", "least", "most"] (spWithin K) := by
  refine F.ok scWithin (fun vs H Q E h => ?_) (fun cdv A outer s H vs Q E hr h => ?_)
  · obtain ⟨v, lo, hi, rfl, _⟩ := h
    rfl
  · obtain ⟨v, lo, hi, rfl, h⟩ := h
    refine ⟨_, PSs.nox (pss_one (ps_ret (pe_and (pe_call GI hr rfl gI kI bI .nil pass0 (pa_cons (pv 0) pa_nil)) (pe_one (pe_chain op_le op_le (pv 1) (pv 0) (pv 2)))))), ?_⟩
    rcases h with ⟨i, rfl, k⟩ | ⟨no, k⟩
    · refine ⟨_, rfl, _, rfl, .inl ⟨i, rfl, _, rfl, iteT ?_⟩⟩
      refine ⟨_, rfl, _, rfl, _, _, rfl, rfl, _, rfl, ?_⟩
      refine ite2 (fun h => ?_) (fun h => ?_)
      · refine ⟨_, rfl, _, _, rfl, rfl, ?_⟩
        have e : decide (lo ≤ i ∧ i ≤ hi) = decide (i ≤ hi) := decide_eq_decide.mpr ⟨fun z => z.2, fun z => ⟨of_decide_eq_true h, z⟩⟩
        rw [e] at k
        exact k
      · have e : decide (lo ≤ i ∧ i ≤ hi) = false := decide_eq_false fun z => h (decide_eq_true z.1)
        rw [e] at k
        exact k
    · exact ⟨_, rfl, _, rfl, .inr ⟨no, _, rfl, iteF k⟩⟩
end
/-! ### lists of ints as data -/
theorem dp_ints {K : PySem.W.Frag} {H : Hp} : ∀ ns : List Int, DpAll K H (ns.map V.int) (ns.map PyData.int)
  | [] => .nil
  | n :: ns => .cons (.int n) (dp_ints ns)
theorem lay_ints : ∀ ns : List Int, PyData.canLayAll0 (ns.map PyData.int) = true
  | [] => rfl
  | n :: ns => by
    rw [List.map_cons, PyData.canLayAll0, lay_ints ns]
    rfl
theorem depth_ints : ∀ ns : List Int, PyData.depthAll (ns.map PyData.int) = 0
  | [] => by rw [List.map_nil, PyData.depthAll]
  | n :: ns => by
    rw [List.map_cons, PyData.depthAll, depth_ints ns, PyData.depth]
    rfl
theorem shaped_ints (ns : List Int) : SeqAt.shaped (.list (ns.map PyData.int)) = true := by
  unfold SeqAt.shaped
  rw [PyData.canLay0, lay_ints, PyData.depth, depth_ints]
  rfl
theorem eqv_ints (ns : List Int) : PyData.eqv (.list (ns.map PyData.int)) (.list (ns.map PyData.int)) = true := by
  refine SeqAt.eqv_refl _ ?_
  rw [PyData.canLay0]
  exact lay_ints ns
theorem dp_at {K : PySem.W.Frag} {H : Hp} {a : Addr} {ns : List Int} (h : H a = some (.lst (ns.map V.int))) : Dp K H (.ref a) (.list (ns.map PyData.int)) := .lst (SqL.of h) (dp_ints ns)
/-! ### need, Node.__init__, run_firing -/
abbrev FnM (K : PySem.W.Frag) (x q : Str) (st : Stmt) (f : Addr) (fd : FuncData) : Prop := FunD K x q (defArgs st) (defBody st) (defScope st) [] [] f fd
theorem Same.tup {K : PySem.W.Frag} {H H1 : Hp} {a : Addr} {xs : List V} (s : Same H H1) (h : SqT K H a xs) : SqT K H1 a xs := by
  rcases h with (h | ⟨o, h⟩) | h
  · exact .inl (.inl (s _ _ h))
  · exact .inl (.inr ⟨o, s _ _ h⟩)
  · exact .inr h
theorem Kept.at {p b : Addr} {H H1 : Hp} {o u : HO} (k : Kept p H H1) (hp : H p = some u) (hb : H b = some o) (n : o ≠ u) : H1 b = some o := k b o (fun z => n (by rw [z, hp] at hb; exact (Option.some.inj hb).symm)) hb
theorem Kept.tup {K : PySem.W.Frag} {p a : Addr} {H H1 : Hp} {xs : List V} (k : Kept p H H1) (hp : PotAt H p) (h : SqT K H a xs) : SqT K H1 a xs := by
  obtain ⟨x, y, _, _, _, hp⟩ := hp
  rcases h with (h | ⟨o, h⟩) | h
  · exact .inl (.inl (k.at hp h (fun z => by cases z)))
  · exact .inl (.inr ⟨o, k.at hp h (fun z => by cases z)⟩)
  · exact .inr h
/-- an instance of the class at C, with these fields -/
def InsAt (H : Hp) (p C : Addr) (fs : List (Str × V)) : Prop := ∃ dx, H p = some (.ins C dx fs)
theorem InsAt.keep {H H1 : Hp} {p C : Addr} {fs : List (Str × V)} (h : InsAt H p C fs) (s : Same H H1) : InsAt H1 p C fs := by
  obtain ⟨dx, h⟩ := h
  exact ⟨dx, s _ _ h⟩
theorem InsAt.kept {H H1 : Hp} {p q C : Addr} {fs : List (Str × V)} (h : InsAt H p C fs) (k : Kept q H H1) (hq : PotAt H q) : InsAt H1 p C fs := by
  obtain ⟨dx, h⟩ := h
  obtain ⟨x, y, _, _, _, hq⟩ := hq
  exact ⟨dx, k.at hq h (fun z => by cases z)⟩
def spNeed : Sp := fun vs H Q _ => ∃ v : V, vs = [.bl true, v] ∧ Q .non H
/-- what all sorts keep -/
def nodeF (tm : Addr) (l b : Int) (fs : List (Str × V)) : List (Str × V) := putF "begin_at" (.int b) (putF "late_by" (.int l) (putF "made" (.ref tm) fs))
def spNodeInit (K : PySem.W.Frag) (C : Addr) : Sp := fun vs H Q _ => ∃ (p t dx : Addr) (fs : List (Str × V)) (xs : List V) (l b : Int), vs = [.ref p, .ref t, .int l, .int b] ∧ H p = some (.ins C dx fs) ∧ SqT K H t xs ∧ (0 ≤ l ∧ l ≤ 99) ∧ (0 ≤ b ∧ b ≤ 9999) ∧
  fs.length < 900 ∧ xs.length ≤ 1000 ∧ ∀ tm, H tm = none → Q .non (upd (upd H tm (.tup (xs ++ [.int l, .int b]))) p (.ins C dx (nodeF tm l b fs)))
structure NodeC (K : PySem.W.Frag) (C : Addr) : Prop where
  cl : Cls K C
  nM : NoAttr K C "made"
  nL : NoAttr K C "late_by"
  nB : NoAttr K C "begin_at"
theorem putF_le (f : Str) (v : V) : ∀ fs : List (Str × V), (putF f v fs).length ≤ fs.length + 1
  | [] => Nat.le_refl _
  | (g, x) :: r => by
    unfold putF
    split
    · exact Nat.le_succ _
    · exact Nat.succ_le_succ (putF_le f v r)
section
variable {P : Program} {w : World} {K : PySem.W.Frag} {mg : Str → Option Value} {base : Heap} {f f1 f2 f3 f4 f5 f6 C CW CN : Addr} {fd fd1 fd2 fd3 fd4 fd5 fd6 : FuncData}
theorem scNeed : FnScope ["holds", "field"] ["holds", "field"] (defScope sNeed) := ⟨rfl, rfl, rfl, by decide +kernel, rfl, by decide +kernel, by decide +kernel⟩
theorem ok_need (F : FnP K "need" sNeed f fd) : FnOk P w K mg base CX0 1 f fd ["holds", "field"] spNeed := by
  refine F.ok scNeed (fun vs H Q E h => ?_) (fun cdv A outer s H vs Q E hr h => ?_)
  · obtain ⟨v, rfl, _⟩ := h
    rfl
  · obtain ⟨v, rfl, k⟩ := h
    refine ⟨_, PSs.nox (pss_one (ps_if (pt_not (pt_val (pv 0))) pss_never pss_nil)), ?_⟩
    exact ⟨_, rfl, _, rfl, iteF k⟩
theorem scNodeInit : FnScope ["self", "arguments", "late", "begin"] ["self", "arguments", "late", "begin"] (defScope sNodeInit) := ⟨rfl, rfl, rfl, by decide +kernel, rfl, by decide +kernel, by decide +kernel⟩
theorem ok_nodeInit (F : FnM K "__init__" "Node.__init__" sNodeInit f fd) (GN : FnOk P w K mg base CX0 1 f1 fd1 ["holds", "field"] spNeed) (gN : mg "need" = some (.ref f1)) (kN : PySem.W.keepIn K (.ref f1) = true) (bN : Binds K fd1 ["holds", "field"] [])
    (GW : FnOk P w K mg base CX0 2 f2 fd2 ["thing", "least", "most"] (spWithin K)) (gW : mg "is_whole_within" = some (.ref f2)) (kW : PySem.W.keepIn K (.ref f2) = true) (bW : Binds K fd2 ["thing", "least", "most"] [])
    (gML : ∃ t, mg "MOST_LATE" = some (.int 99 t)) (gMB : ∃ t, mg "MOST_BEGIN" = some (.int 9999 t)) (T : NodeC K C) : FnOk P w K mg base CX0 3 f fd ["self", "arguments", "late", "begin"] (spNodeInit K C) := by
  obtain ⟨tL, gL⟩ := gML
  obtain ⟨tB, gB⟩ := gMB
  refine F.ok scNodeInit (fun vs H Q E h => ?_) (fun cdv A outer s H vs Q E hr h => ?_)
  · obtain ⟨p, t, dx, fs, xs, l, b, rfl, _⟩ := h
    rfl
  · obtain ⟨p, t, dx, fs, xs, l, b, rfl, hp, ht, hl, hb, hfs, hxs, k⟩ := h
    have hr1 : Room 1 _ := hr.mono (by decide)
    refine ⟨_, PSs.nox (pss_cons (ps_expr (pe_call GN hr1 rfl gN kN bN .nil pass0 (pa_cons (pe_call GW hr rfl gW kW bW .nil pass0 (pa_cons (pv 2) (pa_cons pe_int (pa_cons (pe_glob (v := .int 99) rfl gL ⟨_, rfl⟩) pa_nil)))) (pa_cons pe_str pa_nil))))
      (pss_cons (ps_expr (pe_call GN hr1 rfl gN kN bN .nil pass0 (pa_cons (pe_call GW hr rfl gW kW bW .nil pass0 (pa_cons (pv 3) (pa_cons pe_int (pa_cons (pe_glob (v := .int 9999) rfl gB ⟨_, rfl⟩) pa_nil)))) (pa_cons pe_str pa_nil))))
      (pss_cons (ps_fld (pv 0) (pe_tup (StX.pa_star (pv 1) (pa_cons (pv 2) (pa_cons (pv 3) pa_nil)))) rfl)
      (pss_cons (ps_fld (pv 0) (pv 2) rfl) (pss_one (ps_fld (pv 0) (pv 3) rfl)))))), ?_⟩
    refine ⟨_, rfl, _, 0, 99, rfl, .inl ⟨l, rfl, ?_⟩⟩
    rw [show decide ((0 : Int) ≤ l ∧ l ≤ 99) = true from decide_eq_true hl]
    refine ⟨_, rfl, ?_⟩
    refine ⟨_, rfl, _, 0, 9999, rfl, .inl ⟨b, rfl, ?_⟩⟩
    rw [show decide ((0 : Int) ≤ b ∧ b ≤ 9999) = true from decide_eq_true hb]
    refine ⟨_, rfl, ?_⟩
    refine ⟨_, rfl, t, xs, rfl, .inl ht, _, rfl, _, rfl, ?_, fun tm htm => ?_⟩
    · rw [List.length_append]
      exact Nat.le_trans (Nat.add_le_add_right hxs _) (by show 1000 + 2 ≤ sizeLine; decide)
    have npt : p ≠ tm := ne_of_none hp htm
    have l1 := putF_le "made" (.ref tm) fs
    have l2 := putF_le "late_by" (.int l) (putF "made" (.ref tm) fs)
    refine ⟨_, rfl, p, C, dx, _, rfl, (by rw [upd_ne npt]; exact hp), T.cl, T.nM, by omega, ?_⟩
    refine ⟨_, rfl, _, rfl, p, C, dx, _, rfl, upd_same, T.cl, T.nL, by omega, ?_⟩
    refine ⟨_, rfl, _, rfl, p, C, dx, _, rfl, upd_same, T.cl, T.nB, by omega, ?_⟩
    rw [upd_upd, upd_upd]
    exact k tm htm
end
/-! ### run_firing, for a memory that isn't mute -/
/-- what a firing tells: a tuple of (mutes, behind) and the list of what is given, all of it new but what is behind -/
def Told (H : Hp) (Q : VK) (m : Int) (bh gv : V) : Hp → Prop := fun H1 => ∀ (q t : Addr) (H2 : Hp), Same H1 H2 → H q = none → H2 q = some (.tup [.ref t, gv]) → H2 t = some (.tup [.int m, bh]) → Q (.ref q) H2
def spFiring0 (K : PySem.W.Frag) (C : Addr) (spW : Sp) : Sp := fun vs H Q _ => ∃ (p tm : Addr) (fs : List (Str × V)) (kept rows : V), vs = [.ref p, .ref tm, rows] ∧ InsAt H p C fs ∧ fs.lookup ("work" : Str) = none ∧ SqT K H tm [.int 0, kept] ∧
   spW [.ref p, kept, rows] H (fun v H1 => ∃ (z : Addr) (bh gv : V), v = .ref z ∧ Same H H1 ∧ SqT K H1 z [bh, gv] ∧ Told H Q 0 bh gv H1) E0
/-- what is promised of more is promised of less -/
def Wide1 (sp : Sp) : Prop := ∀ (vs : List V) (H : Hp) (Q Q' : VK) (E : XK), (∀ v H', Q v H' → Q' v H') → sp vs H Q E → sp vs H Q' E
section
variable {P : Program} {w : World} {K : PySem.W.Frag} {mg : Str → Option Value} {base : Heap} {f f1 f2 f3 f4 f5 f6 C CW CN : Addr} {fd fd1 fd2 fd3 fd4 fd5 fd6 : FuncData}
theorem scFiring : FnScope ["node", "memory", "rows", "mutes", "kept", "behind", "given"] ["node", "memory", "rows"] (defScope sFiring) := ⟨rfl, rfl, rfl, by decide +kernel, rfl, by decide +kernel, by decide +kernel⟩
theorem ok_firing0 {spW : Sp} {k : Nat} (F : FnP K "run_firing" sFiring f fd) (c : Cls K C)
    (GW : FnOk P w K mg base CX0 (k + 1) f2 fd2 ["self", "kept", "rows"] spW) (mW : Meth K C "work" f2) (bW : Binds K fd2 ["self", "kept", "rows"] []) (wd : Wide1 spW) : FnOk P w K mg base CX0 (k + 2) f fd ["node", "memory", "rows"] (spFiring0 K C spW) := by
  refine F.ok scFiring (fun vs H Q E h => ?_) (fun cdv A outer s H vs Q E hr h => ?_)
  · obtain ⟨p, tm, fs, kept, rows, rfl, _⟩ := h
    rfl
  · obtain ⟨p, tm, fs, kept, rows, rfl, hp, nW, hm, h⟩ := h
    refine ⟨_, PSs.nox (pss_cons (ps_asg (pv 1) (pg_tup rfl (pgs_cons (pg_name (i := 3) scFiring.nd rfl (Or.inl rfl)) (pgs_cons (pg_name (i := 4) scFiring.nd rfl (Or.inl rfl)) pgs_nil))))
      (pss_cons (ps_if (pt_cmpR op_gt (pv 3) pe_int (nomark _)) pss_never pss_nil)
      (pss_cons (ps_asg (pe_meth (pv 0) c mW GW hr bW .nil pass0 (pa_cons (pv 4) (pa_cons (pv 2) pa_nil))) (pg_tup rfl (pgs_cons (pg_name (i := 5) scFiring.nd rfl (Or.inl rfl)) (pgs_cons (pg_name (i := 6) scFiring.nd rfl (Or.inl rfl)) pgs_nil))))
      (pss_one (ps_ret (pe_tup (pa_cons (pe_tup (pa_cons (pv 3) (pa_cons (pv 5) pa_nil))) (pa_cons (pv 6) pa_nil)))))))), ?_⟩
    refine ⟨_, rfl, tm, _, rfl, hm, rfl, _, _, rfl, _, _, rfl, rfl, ?_⟩
    refine ⟨_, rfl, _, _, rfl, rfl, _, rfl, ?_⟩
    refine ite2 (fun z => absurd (of_decide_eq_true z) (by decide)) (fun _ => ?_)
    obtain ⟨dx, hp2⟩ := hp
    refine ⟨_, rfl, p, dx, fs, rfl, hp2, nW, _, rfl, _, rfl, ?_⟩
    refine wd _ _ _ _ _ (fun v H1 hv => ?_) h
    obtain ⟨z, bh, gv, rfl, s1, hz, told⟩ := hv
    refine ⟨z, _, rfl, hz, rfl, _, _, rfl, _, _, rfl, rfl, ?_⟩
    refine ⟨_, rfl, _, rfl, (by show 2 ≤ sizeLine; decide), fun t ht => ?_⟩
    refine ⟨_, rfl, (by show 2 ≤ sizeLine; decide), fun q hq => ?_⟩
    have s2 := Same.new (o := .tup [V.int 0, bh]) (Same.refl H1) ht
    refine told q t _ (Same.new s2 hq) ((s1.trans s2).free hq) upd_same ?_
    exact Same.new (Same.refl _) hq _ _ upd_same
end
/-! ### is_truth -/
def spTruth : Sp := fun vs H Q _ => ∃ b : Bool, vs = [.bl b] ∧ Q (.bl true) H
section
variable {P : Program} {w : World} {K : PySem.W.Frag} {mg : Str → Option Value} {base : Heap} {f f1 f2 f3 f4 f5 f6 C CW CN : Addr} {fd fd1 fd2 fd3 fd4 fd5 fd6 : FuncData}
theorem scTruth : FnScope ["thing"] ["thing"] (defScope sTruth) := ⟨rfl, rfl, rfl, by decide +kernel, rfl, by decide +kernel, by decide +kernel⟩
theorem ok_truth (F : FnP K "is_truth" sTruth f fd) : FnOk P w K mg base CX0 1 f fd ["thing"] spTruth := by
  refine F.ok scTruth (fun vs H Q E h => ?_) (fun cdv A outer s H vs Q E hr h => ?_)
  · obtain ⟨b, rfl, _⟩ := h
    rfl
  · obtain ⟨b, rfl, k⟩ := h
    refine ⟨_, PSs.nox (pss_one (ps_ret (pe_or (pe_cmpR op_isBl (pv 0) pe_bl (nomark _)) (pe_one (pe_cmpR op_isBl (pv 0) pe_bl (nomark _)))))), ?_⟩
    cases b with
    | true => exact ⟨_, rfl, true, true, rfl, rfl, true, rfl, iteT k⟩
    | false => exact ⟨_, rfl, false, true, rfl, rfl, false, rfl, iteF ⟨_, rfl, false, false, rfl, rfl, k⟩⟩
end
theorem nodeF_be (tm : Addr) (l b : Int) (fs : List (Str × V)) : (nodeF tm l b fs).lookup ("begin_at" : Str) = some (.int b) := by
  unfold nodeF
  rw [lookup_putF, if_pos rfl]
theorem nodeF_no {tm : Addr} {l b : Int} {fs : List (Str × V)} {m : Str} (h1 : m ≠ "begin_at") (h2 : m ≠ "late_by") (h3 : m ≠ "made") : (nodeF tm l b fs).lookup m = fs.lookup m := by
  unfold nodeF
  rw [lookup_putF, if_neg h1, lookup_putF, if_neg h2, lookup_putF, if_neg h3]
theorem nodeF_le (tm : Addr) (l b : Int) (fs : List (Str × V)) : (nodeF tm l b fs).length ≤ fs.length + 3 := by
  unfold nodeF
  have l1 := putF_le "made" (.ref tm) fs
  have l2 := putF_le "late_by" (.int l) (putF "made" (.ref tm) fs)
  have l3 := putF_le "begin_at" (.int b) (putF "late_by" (.int l) (putF "made" (.ref tm) fs))
  omega
/-! ### the fields of a node -/
def Num (n : Int) : Prop := -(10 ^ 56) < n ∧ n < 10 ^ 56
theorem Num.lt {n : Int} (h : Num n) : n.natAbs < 2 ^ 200 := by
  unfold Num at h
  omega
theorem Num.mul {x y : Int} (h : Num x) (h' : Num y) : CMulW x y := wide_mul h.lt h'.lt (by decide) (by decide) (by decide)
structure PlV (fs : List (Str × V)) (own : List (Str × V)) (b : Int) : Prop where
  be : fs.lookup ("begin_at" : Str) = some (.int b)
  fld : ∀ (m : Str) (x : V), own.lookup m = some x → fs.lookup m = some x
  no : ∀ m : Str, own.lookup m = none → m ≠ "begin_at" → m ≠ "late_by" → m ≠ "made" → fs.lookup m = none
theorem plV_mk {tm : Addr} {l b : Int} {fs own : List (Str × V)} (h : ∀ m : Str, fs.lookup m = own.lookup m) (n1 : own.lookup ("begin_at" : Str) = none) (n2 : own.lookup ("late_by" : Str) = none) (n3 : own.lookup ("made" : Str) = none) : PlV (nodeF tm l b fs) own b := by
  refine ⟨nodeF_be _ _ _ _, fun m x e => ?_, fun m e h3 h4 h5 => ?_⟩
  · rw [nodeF_no (fun z => by rw [z, n1] at e; cases e) (fun z => by rw [z, n2] at e; cases e) (fun z => by rw [z, n3] at e; cases e), h]
    exact e
  · rw [nodeF_no h3 h4 h5, h]
    exact e
theorem PlV.put {fs own : List (Str × V)} {b : Int} (h : PlV fs own b) (m : Str) (x : V) (n : m ≠ "begin_at") : PlV (putF m x fs) ((m, x) :: own) b := by
  refine ⟨?_, fun m' x' e => ?_, fun m' e h3 h4 h5 => ?_⟩
  · rw [lookup_putF, if_neg (Ne.symm n)]
    exact h.be
  · rw [lookup_putF]
    rw [List.lookup_cons] at e
    by_cases z : m' = m
    · rw [if_pos z]
      rw [z, beq_self_eq_true] at e
      exact e
    · rw [if_neg z]
      rw [beq_false_of_ne z] at e
      exact h.fld m' x' e
  · rw [lookup_putF]
    rw [List.lookup_cons] at e
    by_cases z : m' = m
    · rw [z, beq_self_eq_true] at e
      cases e
    · rw [if_neg z]
      rw [beq_false_of_ne z] at e
      exact h.no m' e h3 h4 h5
theorem made_same {C x dx : Addr} {H H' : Hp} (nx : H x = none) (nd : H dx = none) (ne : dx ≠ x) (k : Kept x (upd (upd H dx (.own x)) x (.ins C dx [])) H') : Same H H' :=
  Same.kept (Same.new (Same.new (Same.refl H) nd) (by rw [upd_ne ne.symm]; exact nx)) nx k
theorem Same.past {H0 H : Hp} {q : Addr} {o : HO} (k : Same H0 H) (h : H0 q = none) : Same H0 (L2.upd H q o) := fun b u e => by
  rw [upd_ne (ne_of_none e h)]
  exact k b u e
theorem Kept.past {p q : Addr} {H H1 : Hp} {o : HO} (k : Kept p H H1) (h : H q = none) : Kept p H (L2.upd H1 q o) := fun b u n e => by
  rw [upd_ne (ne_of_none e h)]
  exact k b u n e
/-! ### are_wholes, is_list_of_wholes -/
def spWholes (K : PySem.W.Frag) : Sp := fun vs H Q _ => ∃ (l : Addr) (ns : List Int), vs = [.ref l] ∧ SqL K H l (ns.map V.int) ∧ ns.length ≤ 1000 ∧ ∀ H', Same H H' → Q (.bl true) H'
def spListOf (K : PySem.W.Frag) : Sp := fun vs H Q _ => ∃ (l : Addr) (ns : List Int) (lo hi : Int), vs = [.ref l, .int lo, .int hi] ∧ H l = some (.lst (ns.map V.int)) ∧ ns.length ≤ 1000 ∧ lo ≤ (ns.length : Int) ∧ (ns.length : Int) ≤ hi ∧ ∀ H', Same H H' → Q (.bl true) H'
theorem all_true (n : Nat) : (List.replicate n true).all id = true := by
  rw [List.all_eq_true]
  intro b hb
  exact (List.mem_replicate.mp hb).2
section
variable {P : Program} {w : World} {K : PySem.W.Frag} {mg : Str → Option Value} {base : Heap} {f f1 f2 f3 f4 f5 f6 C CW CN : Addr} {fd fd1 fd2 fd3 fd4 fd5 fd6 : FuncData}
theorem scWholes : FnScope ["things", "thing"] ["things"] (defScope sWholes) := ⟨rfl, rfl, rfl, by decide +kernel, rfl, by decide +kernel, by decide +kernel⟩
theorem ok_wholes (F : FnP K "are_wholes" sWholes f fd) (GI : FnOk P w K mg base CX0 1 f1 fd1 ["thing"] (spWhole K)) (gI : mg "is_whole" = some (.ref f1)) (kI : PySem.W.keepIn K (.ref f1) = true) (bI : Binds K fd1 ["thing"] []) (gAll : mg "all" = none) :
    FnOk P w K mg base CX0 2 f fd ["things"] (spWholes K) := by
  refine F.ok scWholes (fun vs H Q E h => ?_) (fun cdv A outer s H vs Q E hr h => ?_)
  · obtain ⟨l, ns, rfl, _⟩ := h
    rfl
  · obtain ⟨l, ns, rfl, hl, few, k⟩ := h
    refine ⟨_, PSs.nox (pss_one (ps_ret (pe_callB (cr_all rfl) (by rfl) gAll (by decide +kernel) (pa_cons (pe_lc (own := [("thing", 1)]) (g := gName 1) (tt := tYes) rfl scWholes.nd (pi_list (pv 0)) (blkOk_by (N := ["things", "thing"]) (sc := defScope sWholes) (by decide +kernel))
      (fun _ _ _ _ _ => pg_name (i := 1) scWholes.nd rfl (Or.inl rfl)) (fun _ _ _ _ _ => pts_nil) (fun _ _ _ _ _ => pe_call GI hr rfl gI kI bI .nil pass0 (pa_cons (pv 1) pa_nil))) pa_nil)))), ?_⟩
    refine ⟨_, rfl, l, rfl, ⟨_, hl⟩, fun D hD => lc_list (K := K) (a := l) (xs := ns.map V.int) (fun i H' => H' = upd H D (.lst ((List.replicate i true).map V.bl))) rfl (fun i H' _ e => by rw [e]; exact Same.seq (Same.new (Same.refl _) hD) hl) (fun i v H' hv e => ?_) (fun H' e => ?_)⟩
    · subst e
      obtain ⟨u, rfl⟩ : ∃ u, v = V.int u := by
        rw [List.getElem?_map] at hv
        obtain ⟨u, _, e2⟩ := Option.map_eq_some_iff.mp hv
        exact ⟨u, e2.symm⟩
      have hi : i < ns.length := by
        have q := (List.getElem?_eq_some_iff.mp hv).1
        rw [List.length_map] at q
        exact q
      refine ⟨rfl, ?_⟩
      unfold tYes
      refine iteT ?_
      refine ⟨_, rfl, _, rfl, .inl ⟨u, rfl, _, upd_same, ?_, ?_⟩⟩
      · rw [List.length_map, List.length_replicate]
        exact Nat.lt_of_lt_of_le (show i < 1001 by omega) (by decide)
      · rw [upd_upd, List.replicate_succ', List.map_append]
        rfl
    · subst e
      refine ⟨D, _, rfl, SqL.of upd_same, ?_⟩
      rw [all_true]
      exact k _ (Same.new (Same.refl _) hD)
theorem scListOf : FnScope ["thing", "least", "most"] ["thing", "least", "most"] (defScope sListOf) := ⟨rfl, rfl, rfl, by decide +kernel, rfl, by decide +kernel, by decide +kernel⟩
theorem ok_listOf (F : FnP K "is_list_of_wholes" sListOf f fd) (GA : FnOk P w K mg base CX0 2 f1 fd1 ["things"] (spWholes K)) (gA : mg "are_wholes" = some (.ref f1)) (kA : PySem.W.keepIn K (.ref f1) = true) (bA : Binds K fd1 ["things"] [])
    (gIs : mg "isinstance" = none) (gList : mg "list" = none) (gLen : mg "len" = none) : FnOk P w K mg base CX0 3 f fd ["thing", "least", "most"] (spListOf K) := by
  refine F.ok scListOf (fun vs H Q E h => ?_) (fun cdv A outer s H vs Q E hr h => ?_)
  · obtain ⟨l, ns, lo, hi, rfl, _⟩ := h
    rfl
  · obtain ⟨l, ns, lo, hi, rfl, hl, few, h1, h2, k⟩ := h
    refine ⟨_, PSs.nox (pss_one (ps_ret (pe_and (pe_callB call_isi (by rfl) gIs boot_isinstance (pa_cons (pv 0) (pa_cons (pe_bltn (v := .ty "list") rfl gList PyProof.Rows.boot_list rfl) pa_nil)))
      (pe_and (pe_chain op_le op_le (pv 1) (pe_callB call_len_seq (by rfl) gLen PySem.boot_len (pa_cons (pv 0) pa_nil)) (pv 2)) (pe_one (pe_call GA hr rfl gA kA bA .nil pass0 (pa_cons (pv 0) pa_nil))))))), ?_⟩
    refine ⟨_, rfl, _, _, _, _, true, rfl, ClsV.ty _, TyX.base (TyOf.lst hl), kit_ty (by decide +kernel), _, rfl, iteT ?_⟩
    refine ⟨_, rfl, _, rfl, l, _, rfl, .inl (SqL.of hl), _, _, rfl, rfl, _, rfl, ?_⟩
    rw [List.length_map]
    refine ite2 (fun _ => ?_) (fun z => absurd (decide_eq_true h1) z)
    refine ⟨_, rfl, _, _, rfl, rfl, ?_⟩
    refine ⟨decide ((ns.length : Int) ≤ hi), rfl, ?_⟩
    rw [decide_eq_true h2]
    refine iteT ?_
    exact ⟨_, rfl, l, ns, rfl, SqL.of hl, few, k⟩
end
/-! ### lists of ints shown -/
theorem Num.log {n : Int} (h : Num n) : n.natAbs.log2 < 1920 := log2_of (b := 200) h.lt (by decide) (by decide)
theorem show_ints : ∀ cs : List Int, (∀ c ∈ cs, c.natAbs.log2 < 1920) → PyData.showableAll (cs.map PyData.int) = true
  | [], _ => by rw [List.map_nil, PyData.showableAll]
  | c :: r, h => by
    rw [List.map_cons, PyData.showableAll, show_ints r fun z hz => h z (List.mem_cons_of_mem _ hz), PyData.showable, decide_eq_true (h c List.mem_cons_self)]
    rfl
theorem intsD_show {ns : List Int} (h : ∀ n ∈ ns, n.natAbs.log2 < 1920) : (PyData.list (ns.map PyData.int)).showable = true := by
  rw [PyData.showable]
  exact show_ints ns h
theorem intsD_len {ns : List Int} (h : ∀ n ∈ ns, n.natAbs.log2 < 1920) (l : ns.length ≤ 1000) : (PyData.list (ns.map PyData.int)).shown.length ≤ sizeLine := by
  refine Nat.le_trans (shown_list (B := 1921) fun d hd => ?_) ?_
  · obtain ⟨n, hn, rfl⟩ := List.mem_map.mp hd
    exact shown_num (h n hn)
  · rw [List.length_map]
    exact Nat.le_trans (show (1921 + 2) * ns.length + 3 ≤ 1923 * 1000 + 3 by omega) (by decide)
/-- a list of one list of ints -/
theorem row1_shaped (xs : List Int) : SeqAt.shaped (.list [.list (xs.map PyData.int)]) = true := by
  unfold SeqAt.shaped
  rw [PyData.canLay0, PyData.canLayAll0, PyData.canLayAll0, PyData.canLay0, lay_ints, PyData.depth, PyData.depthAll, PyData.depthAll, PyData.depth, depth_ints]
  rfl
theorem row1_eqv (xs : List Int) : PyData.eqv (.list [.list (xs.map PyData.int)]) (.list [.list (xs.map PyData.int)]) = true := by
  refine SeqAt.eqv_refl _ ?_
  rw [PyData.canLay0, PyData.canLayAll0, PyData.canLayAll0, PyData.canLay0, lay_ints]
  rfl
theorem row1_dp {K : PySem.W.Frag} {H : Hp} {r r0 : Addr} {xs : List Int} (h : H r = some (.lst [.ref r0])) (h0 : H r0 = some (.lst (xs.map V.int))) : Dp K H (.ref r) (.list [.list (xs.map PyData.int)]) := .lst (SqL.of h) (.cons (dp_at h0) .nil)
def spNumbers : Sp := fun vs H Q _ => ∃ (p : Addr) (m : Int), vs = [.ref p, .int m] ∧ PotAt H p ∧ 0 < m ∧ m ≤ 100 ∧ ∀ (l : Addr) (ns : List Int) (H' : Hp), Kept p H H' → PotAt H' p → H l = none → H' l = some (.lst (ns.map V.int)) → 1 ≤ ns.length → (ns.length : Int) ≤ m → (∀ n ∈ ns, Num n) → Q (.ref l) H'
section
variable {P : Program} {w : World} {K : PySem.W.Frag} {mg : Str → Option Value} {base : Heap} {f f1 f2 f3 f4 f5 f6 C CC CT CN : Addr} {fd fd1 fd2 fd3 fd4 fd5 fd6 : FuncData}
theorem scNumbers : FnScope ["_law_pot_here", "_law_most", "_law_k"] ["_law_pot_here", "_law_most"] (defScope sNumbers) := ⟨rfl, rfl, rfl, by decide +kernel, rfl, by decide +kernel, by decide +kernel⟩
theorem ok_numbers (F : FnP K "_law_numbers" sNumbers f fd) (GW : FnOk P w K mg base CX0 1 f1 fd1 ["_law_pot_here", "_law_many"] spDraw) (gW : mg "_law_draw" = some (.ref f1)) (kW : PySem.W.keepIn K (.ref f1) = true) (bW : Binds K fd1 ["_law_pot_here", "_law_many"] [])
    (GU : FnOk P w K mg base CX0 2 f2 fd2 ["_law_pot_here"] spNumber) (gU : mg "_law_number" = some (.ref f2)) (kU : PySem.W.keepIn K (.ref f2) = true) (bU : Binds K fd2 ["_law_pot_here"] []) (gRange : mg "range" = none) : FnOk P w K mg base CX0 3 f fd ["_law_pot_here", "_law_most"] spNumbers := by
  refine F.ok scNumbers (fun vs H Q E h => ?_) (fun cdv A outer s H vs Q E hr h => ?_)
  · obtain ⟨p, m, rfl, _⟩ := h
    rfl
  · obtain ⟨p, m, rfl, hp, m0, m1, k⟩ := h
    have hr1 : Room 1 _ := hr.mono (by decide)
    refine ⟨_, PSs.nox (pss_one (ps_ret (pe_lc (own := [("_law_k", 2)]) (g := gName 2) (tt := tYes) rfl scNumbers.nd (pi_range1 rfl gRange (pa_cons (pe_op op_add pe_int (pe_call GW hr1 rfl gW kW bW .nil pass0 (pa_cons (pv 0) (pa_cons (pv 1) pa_nil)))) pa_nil))
      (blkOk_by (N := ["_law_pot_here", "_law_most", "_law_k"]) (sc := defScope sNumbers) (by decide +kernel)) (fun _ _ _ _ _ => pg_name (i := 2) scNumbers.nd rfl (Or.inl rfl)) (fun _ _ _ _ _ => pts_nil) (fun _ _ _ _ _ => pe_call GU hr rfl gU kU bU .nil pass0 (pa_cons (pv 0) pa_nil))))), ?_⟩
    refine ⟨_, rfl, _, rfl, p, m, rfl, hp, m0, by omega, fun d H1 d0 d1 k1 hp1 => ?_⟩
    refine ⟨_, _, rfl, rfl, _, rfl, by omega, by omega, fun D hD => ?_⟩
    have nD : D ≠ p := fun z => by
      obtain ⟨_, _, _, _, _, hx⟩ := hp1
      rw [z, hx] at hD
      cases hD
    have nH : H D = none := by
      cases e : H D with
      | none => rfl
      | some o =>
        rw [k1 D o nD e] at hD
        cases hD
    refine lc_range (fun i H' => ∃ ns : List Int, ns.length = i ∧ H' D = some (.lst (ns.map V.int)) ∧ Kept p H H' ∧ PotAt H' p ∧ ∀ n ∈ ns, Num n) ⟨[], rfl, upd_same, k1.new hD, hp1.keep (Same.new (Same.refl _) hD), fun _ h => (List.not_mem_nil h).elim⟩ (fun i H' hi e => ?_) (fun H' e => ?_)
    · obtain ⟨ns, en, hd, kk, hpp, hn⟩ := e
      refine ⟨rfl, ?_⟩
      unfold tYes
      refine iteT ?_
      refine ⟨_, rfl, p, rfl, hpp, fun x H2 x0 x1 k2 hp2 => ?_⟩
      have hd2 := k2 _ _ nD hd
      refine ⟨_, hd2, ?_, ns ++ [x], ?_, ?_, (kk.trans k2).past nH, ?_, fun n hm => ?_⟩
      · rw [List.length_map, en]
        exact Nat.lt_of_lt_of_le (show i < 200 by omega) (by decide)
      · rw [List.length_append, en]
        rfl
      · rw [List.map_append]
        exact upd_same
      · obtain ⟨a1, a2, a3, a4, a5, a6⟩ := hp2
        exact ⟨a1, a2, a3, a4, a5, by rw [upd_ne nD.symm]; exact a6⟩
      · rcases List.mem_append.mp hm with h | h
        · exact hn n h
        · rcases List.mem_cons.mp h with rfl | h
          · exact ⟨x0, x1⟩
          · cases h
    · obtain ⟨ns, en, hd, kk, hpp, hn⟩ := e
      exact k D ns H' kk hpp nH hd (by omega) (by omega) hn
end
end Sw
namespace Sw
/-! ### streams spread, tapped, thinned out: plain lists -/
/-- the sample at a place among noughts -/
def samp (s : List Int) (m : Nat) (t : Int) : Int := if t < 0 ∨ t % (m : Int) > 0 then 0 else s.getD (t / (m : Int)).toNat 0
def tapU (u : Int → Int) (ns : List Int) (t : Int) : Int := ((List.range ns.length).map fun (q : Nat) => ns.getD q 0 * u (t - (q : Int))).sum
def tapsMem (u : Int → Int) (T : Int) (n : Nat) : List Int := (List.range n).map fun (i : Nat) => u (T - 1 - (i : Int))
def resMem (u : Int → Int) (T : Int) (n : Nat) : List Int := (List.range n).map fun (i : Nat) => u (T - (n : Int) + (i : Int))
def cut (u : Int → Int) (T : Int) (n : Nat) : List Int := (List.range n).map fun (i : Nat) => u (T + (i : Int))
def spreadL (m : Nat) : List Int → List Int
  | [] => []
  | x :: r => (x :: List.replicate (m - 1) 0) ++ spreadL m r
theorem cut_add (u : Int → Int) (T : Int) (a b : Nat) : cut u T (a + b) = cut u T a ++ cut u (T + (a : Int)) b := by
  unfold cut
  rw [List.range_add, List.map_append, List.map_map]
  congr 1
  apply List.map_congr_left
  intro i _
  show u (T + ((a + i : Nat) : Int)) = u (T + (a : Int) + (i : Int))
  congr 1
  omega
theorem cut_one (u : Int → Int) (T : Int) : cut u T 1 = [u T] := by
  unfold cut
  simp
theorem cut_succ (u : Int → Int) (T : Int) (n : Nat) : cut u T (n + 1) = cut u T n ++ [u (T + (n : Int))] := by
  rw [cut_add, cut_one]
theorem cut_cons (u : Int → Int) (T : Int) (n : Nat) : cut u T (n + 1) = u T :: cut u (T + 1) n := by
  rw [Nat.add_comm, cut_add, cut_one]
  rfl
theorem cut_congr {u v : Int → Int} {T : Int} {n : Nat} (h : ∀ t, T ≤ t → t < T + (n : Int) → u t = v t) : cut u T n = cut v T n := by
  unfold cut
  apply List.map_congr_left
  intro i hi
  have := List.mem_range.mp hi
  exact h _ (by omega) (by omega)
theorem cut_len (u : Int → Int) (T : Int) (n : Nat) : (cut u T n).length = n := by
  unfold cut
  simp
theorem cut_get {u : Int → Int} {T : Int} {n i : Nat} (h : i < n) : (cut u T n)[i]? = some (u (T + (i : Int))) := by
  unfold cut
  rw [List.getElem?_map, List.getElem?_range h]
  rfl
theorem resMem_cut (u : Int → Int) (T : Int) (n : Nat) : resMem u T n = cut u (T - (n : Int)) n := rfl
/-- within one sample's place -/
theorem spread_one {u : Int → Int} {T x : Int} {m : Nat} (hm : 1 ≤ m) (h0 : u T = x) (h : ∀ i : Nat, 1 ≤ i → i < m → u (T + (i : Int)) = 0) : cut u T m = x :: List.replicate (m - 1) 0 := by
  obtain ⟨n, rfl⟩ : ∃ n, m = n + 1 := ⟨m - 1, by omega⟩
  rw [cut_cons, h0]
  congr 1
  rw [Nat.add_sub_cancel, List.eq_replicate_iff]
  refine ⟨cut_len _ _ _, fun b hb => ?_⟩
  obtain ⟨i, hi, rfl⟩ := List.mem_map.mp hb
  have := List.mem_range.mp hi
  have e := h (i + 1) (by omega) (by omega)
  rw [← e]
  congr 1
  omega
theorem spread_cut {m : Nat} (hm : 1 ≤ m) : ∀ (r s : List Int), spreadL m r = cut (samp (s ++ r) m) ((s.length * m : Nat) : Int) (r.length * m)
  | [], s => by
    unfold spreadL
    rw [List.length_nil, Nat.zero_mul]
    rfl
  | x :: r, s => by
    have ih := spread_cut hm r (s ++ [x])
    rw [List.append_assoc] at ih
    have e1 : (x :: r).length * m = m + r.length * m := by
      rw [List.length_cons, Nat.succ_mul]
      omega
    rw [e1, cut_add]
    show (x :: List.replicate (m - 1) 0) ++ spreadL m r = _
    rw [ih]
    have pm : (0 : Int) < (m : Int) := by omega
    have base : ∀ i : Nat, ((s.length * m : Nat) : Int) + (i : Int) = (i : Int) + (s.length : Int) * (m : Int) := fun i => by
      rw [Int.natCast_mul]
      omega
    congr 1
    · symm
      refine spread_one hm ?_ ?_
      · unfold samp
        have b0 := base 0
        rw [show ((s.length * m : Nat) : Int) = (0 : Int) + (s.length : Int) * (m : Int) by rw [Int.natCast_mul]; omega]
        rw [Int.add_mul_emod_self_right, Int.add_mul_ediv_right _ _ (by omega)]
        have n1 : ¬ ((0 : Int) + (s.length : Int) * (m : Int) < 0) := by
          have := Int.mul_nonneg (show (0 : Int) ≤ (s.length : Int) by omega) (show (0 : Int) ≤ (m : Int) by omega)
          omega
        rw [if_neg (by
          rintro (z | z)
          · exact n1 z
          · simp at z)]
        rw [show ((0 : Int) / (m : Int) + (s.length : Int)).toNat = s.length by simp]
        simp
      · intro i i1 im
        unfold samp
        rw [base i, Int.add_mul_emod_self_right, if_pos]
        right
        rw [Int.emod_eq_of_lt (by omega) (by omega)]
        omega
    · rw [List.length_append]
      show cut _ (((s.length + 1) * m : Nat) : Int) _ = _
      congr 1
      rw [Nat.succ_mul]
      omega
/-- what comes behind has no bearing ahead -/
theorem samp_ahead {s r : List Int} {m : Nat} (hm : 1 ≤ m) {t : Int} (h : t < ((s.length * m : Nat) : Int)) : samp (s ++ r) m t = samp s m t := by
  unfold samp
  split
  · rfl
  · rename_i z
    have t0 : 0 ≤ t := by omega
    have lt : t / (m : Int) < (s.length : Int) := Int.ediv_lt_of_lt_mul (by omega) (by rw [← Int.natCast_mul]; exact h)
    have ge : 0 ≤ t / (m : Int) := Int.ediv_nonneg t0 (by omega)
    rw [List.getD_eq_getElem?_getD, List.getD_eq_getElem?_getD, List.getElem?_append_left (by omega)]
theorem samp_neg {s : List Int} {m : Nat} {t : Int} (h : t < 0) : samp s m t = 0 := by
  unfold samp
  rw [if_pos (.inl h)]
theorem resMem_congr {u v : Int → Int} {T : Int} {n : Nat} (h : ∀ t, t < T → u t = v t) : resMem u T n = resMem v T n := by
  rw [resMem_cut, resMem_cut]
  exact cut_congr fun t _ h2 => h t (by omega)
theorem tapsMem_congr {u v : Int → Int} {T : Int} {n : Nat} (h : ∀ t, t < T → u t = v t) : tapsMem u T n = tapsMem v T n := by
  unfold tapsMem
  apply List.map_congr_left
  intro i hi
  exact h _ (by omega)
theorem resMem_zero {u : Int → Int} (n : Nat) (h : ∀ t, t < 0 → u t = 0) : resMem u 0 n = List.replicate n 0 := by
  rw [resMem_cut, List.eq_replicate_iff]
  refine ⟨cut_len _ _ _, fun b hb => ?_⟩
  obtain ⟨i, hi, rfl⟩ := List.mem_map.mp hb
  have := List.mem_range.mp hi
  exact h _ (by omega)
theorem tapsMem_zero {u : Int → Int} (n : Nat) (h : ∀ t, t < 0 → u t = 0) : tapsMem u 0 n = List.replicate n 0 := by
  unfold tapsMem
  rw [List.eq_replicate_iff]
  refine ⟨by simp, fun b hb => ?_⟩
  obtain ⟨i, hi, rfl⟩ := List.mem_map.mp hb
  exact h _ (by omega)
theorem tapsMem_len (u : Int → Int) (T : Int) (n : Nat) : (tapsMem u T n).length = n := by
  unfold tapsMem
  simp
/-- a new sample ahead of the kept ones -/
theorem tapsMem_step (u : Int → Int) (T : Int) (n : Nat) : u T :: tapsMem u T n = tapsMem u (T + 1) (n + 1) := by
  unfold tapsMem
  rw [List.range_succ_eq_map, List.map_cons, List.map_map]
  congr 1
  · congr 1
    omega
  · apply List.map_congr_left
    intro i _
    show u (T - 1 - (i : Int)) = u (T + 1 - 1 - ((i + 1 : Nat) : Int))
    congr 1
    omega
theorem tapsMem_drop (u : Int → Int) (T : Int) (n : Nat) : (tapsMem u T (n + 1)).dropLast = tapsMem u T n := by
  unfold tapsMem
  rw [List.range_succ, List.map_append]
  simp
/-- a dot product by places -/
def dot (ns xs : List Int) : Int := (List.zipWith (· * ·) ns xs).sum
theorem dot_tap (u : Int → Int) (T : Int) : ∀ ns : List Int, dot ns (tapsMem u (T + 1) ns.length) = tapU u ns T := by
  intro ns
  unfold dot tapU tapsMem
  congr 1
  apply List.ext_getElem?
  intro i
  rw [List.getElem?_zipWith, List.getElem?_map, List.getElem?_map]
  by_cases h : i < ns.length
  · rw [List.getElem?_range h]
    rw [List.getElem?_eq_getElem h]
    simp only [Option.map_some]
    rw [List.getD_eq_getElem?_getD, List.getElem?_eq_getElem h]
    simp only [Option.getD_some]
    congr 3
    omega
  · rw [List.getElem?_eq_none (by omega), List.getElem?_eq_none (by simp; omega)]
    rfl
/-- the taps over a spread row -/
def tapAt (ns sp : List Int) (at_ : Nat) : Int := ((List.range ns.length).map fun (q : Nat) => ns.getD q 0 * sp.getD (at_ - q) 0).sum
theorem tapAt_cut {u : Int → Int} {T : Int} {n L a : Nat} {ns : List Int} (hL : ns.length ≤ L + 1) (h1 : L ≤ a) (h2 : a < n) : tapAt ns (cut u (T - (L : Int)) n) a = tapU u ns (T + ((a - L : Nat) : Int)) := by
  unfold tapAt tapU
  congr 1
  apply List.map_congr_left
  intro q hq
  have := List.mem_range.mp hq
  congr 1
  rw [List.getD_eq_getElem?_getD, cut_get (by omega)]
  show u _ = u _
  congr 1
  omega
end Sw
namespace Sw
open PySem PySem.Spec PyProof.Rows L2
def rTimesS (K : PySem.W.Frag) : R2 := fun x y H Q => ∃ (l : Addr) (k : Nat) (xs : List V), x = .ref l ∧ y = .int (k : Int) ∧ SqT K H l xs ∧ xs ≠ [] ∧ k ≤ 1000 ∧ xs.length ≤ 1000 ∧ ∀ (q : Addr) (H' : Hp), Same H H' → SqT K H' q (List.replicate k xs).flatten → Q (.ref q) H'
theorem op_timesS {X : Cx} : OpR X (binaryOp .Mult) (rTimesS X.K) := by
  intro pins s σ H x y v u Q I rx ry ⟨l, k, xs, e1, e2, h1, h2, h3, h4, q⟩
  refine op_times pins s σ H x y v u Q I rx ry ⟨l, k, xs, e1, e2, h1, h2, h3, h4, fun e => q l H (Same.refl _) ?_, fun e p hp => q p _ (Same.new (Same.refl _) hp) (.inl (.inl upd_same))⟩
  rw [e]
  simpa using h1
/-! ### lists outside of which all is kept -/
def KD (D : List Addr) (H H' : Hp) : Prop := ∀ b o, b ∉ D → H b = some o → H' b = some o
theorem KD.refl {D : List Addr} {H : Hp} : KD D H H := fun _ _ _ e => e
theorem KD.trans {D : List Addr} {H H1 H2 : Hp} (a : KD D H H1) (b : KD D H1 H2) : KD D H H2 := fun c o n e => b c o n (a c o n e)
theorem KD.same {D : List Addr} {H H1 : Hp} (a : Same H H1) : KD D H H1 := fun c o _ e => a c o e
theorem KD.kept {D : List Addr} {p : Addr} {H H1 : Hp} (a : Kept p H H1) (h : p ∈ D) : KD D H H1 := fun c o n e => a c o (fun z => n (z ▸ h)) e
theorem KD.sub {D D' : List Addr} {H H1 : Hp} (a : KD D H H1) (h : ∀ x ∈ D, x ∈ D') : KD D' H H1 := fun c o n e => a c o (fun z => n (h c z)) e
theorem KD.upd {D : List Addr} {p : Addr} {H : Hp} {o : HO} (h : p ∈ D) : KD D H (L2.upd H p o) := fun c u n e => by
  have ne : c ≠ p := fun z => n (by rw [z]; exact h)
  rw [upd_ne ne]
  exact e
def Lsts (D : List Addr) (H : Hp) : Prop := ∀ d ∈ D, ∃ xs, H d = some (.lst xs)
theorem KD.tup {K : PySem.W.Frag} {D : List Addr} {H H1 : Hp} {a : Addr} {xs : List V} (k : KD D H H1) (l : Lsts D H) (h : SqT K H a xs) : SqT K H1 a xs := by
  have out : ∀ o, H a = some o → (∀ ys, o ≠ .lst ys) → a ∉ D := fun o e n m => by
    obtain ⟨ys, q⟩ := l a m
    rw [e] at q
    exact n ys (Option.some.inj q)
  rcases h with (h | ⟨o, h⟩) | h
  · exact .inl (.inl (k _ _ (out _ h (fun ys z => by cases z)) h))
  · exact .inl (.inr ⟨o, k _ _ (out _ h (fun ys z => by cases z)) h⟩)
  · exact .inr h
theorem KD.ins {D : List Addr} {H H1 : Hp} {a C : Addr} {fs : List (Str × V)} (k : KD D H H1) (l : Lsts D H) (h : InsAt H a C fs) : InsAt H1 a C fs := by
  obtain ⟨dx, h⟩ := h
  refine ⟨dx, k _ _ (fun m => ?_) h⟩
  obtain ⟨ys, q⟩ := l a m
  rw [h] at q
  cases q
/-! ### the four sorts -/
inductive Rk
  | up (m : Nat)
  | down (m : Nat)
  | taps (ln : Addr) (ns : List Int)
  | res (u d : Nat) (ln : Addr) (ns : List Int)
def tagR : Rk → Nat
  | .up _ => 0
  | .down _ => 1
  | .taps _ _ => 2
  | .res _ _ _ _ => 3
def widR : Rk → Nat
  | .up _ => 1
  | .down m => m
  | .taps _ _ => 1
  | .res _ d _ _ => d
def givR : Rk → Nat
  | .up m => m
  | .down _ => 1
  | .taps _ _ => 1
  | .res u _ _ _ => u
def spr (u : Nat) (ks xs : List Int) : List Int := ks ++ spreadL u xs
def stepR : Rk → List Int → List Int → List Int × List Int
  | .up m, ks, xs => (ks, xs.headD 0 :: List.replicate (m - 1) 0)
  | .down _, ks, xs => (ks, [xs.headD 0])
  | .taps _ ns, ks, xs => ((xs.headD 0 :: ks).dropLast, [dot ns (xs.headD 0 :: ks)])
  | .res u d _ ns, ks, xs => ((spr u ks xs).drop ((spr u ks xs).length - ks.length), (List.range u).map fun j => tapAt ns (spr u ks xs) (ks.length + d * j))
def freshR : Rk → List Int
  | .up _ => []
  | .down _ => []
  | .taps _ ns => List.replicate (ns.length - 1) 0
  | .res _ _ _ ns => List.replicate (ns.length - 1) 0
def ownR : Rk → List (Str × V)
  | .up m => [("hold", .bl false), ("many", .int (m : Int))]
  | .down m => [("many", .int (m : Int))]
  | .taps ln _ => [("numbers", .ref ln)]
  | .res u d ln _ => [("down", .int (d : Int)), ("up", .int (u : Int)), ("numbers", .ref ln)]
def NsOk (ns : List Int) : Prop := 1 ≤ ns.length ∧ ns.length ≤ 12 ∧ ∀ n ∈ ns, Num n
def okR : Rk → Prop
  | .up m => 1 ≤ m ∧ m ≤ 8
  | .down m => 1 ≤ m ∧ m ≤ 8
  | .taps _ ns => NsOk ns
  | .res u d _ ns => (1 ≤ u ∧ u ≤ 8) ∧ (1 ≤ d ∧ d ≤ 8) ∧ NsOk ns
def lnR : Rk → Hp → Prop
  | .up _, _ => True
  | .down _, _ => True
  | .taps ln ns, H => H ln = some (.lst (ns.map V.int))
  | .res _ _ ln ns, H => H ln = some (.lst (ns.map V.int))
def objR : Rk → List Addr
  | .up _ => []
  | .down _ => []
  | .taps ln _ => [ln]
  | .res _ _ ln _ => [ln]
abbrev Kr := Addr × Nat
def NdR (A : Kr) (k : Rk) (n : Addr) (H : Hp) : Prop := A.2 = tagR k ∧ okR k ∧ lnR k H ∧ ∃ fs, InsAt H n A.1 fs ∧ PlV fs (ownR k) 0
theorem NdR.kd {A : Kr} {k : Rk} {n : Addr} {D : List Addr} {H H1 : Hp} (h : NdR A k n H) (s : KD D H H1) (l : Lsts D H) (o : ∀ a ∈ objR k, a ∉ D) : NdR A k n H1 := by
  obtain ⟨h1, h2, h3, fs, h4, h5⟩ := h
  refine ⟨h1, h2, ?_, fs, s.ins l h4, h5⟩
  cases k with
  | up m => trivial
  | down m => trivial
  | taps ln ns => exact s _ _ (o ln List.mem_cons_self) h3
  | res u d ln ns => exact s _ _ (o ln List.mem_cons_self) h3
theorem NdR.keep {A : Kr} {k : Rk} {n : Addr} {H H1 : Hp} (h : NdR A k n H) (s : Same H H1) : NdR A k n H1 := h.kd (D := []) (KD.same s) (fun d hd => (List.not_mem_nil hd).elim) (fun a _ => List.not_mem_nil)
theorem NdR.ins {A : Kr} {k : Rk} {n : Addr} {H : Hp} (h : NdR A k n H) : ∃ dx fs, H n = some (.ins A.1 dx fs) ∧ ∀ m : Str, m ∈ (["takes", "gives", "fresh", "fire", "work", "tapped"] : List Str) → fs.lookup m = none := by
  obtain ⟨h1, h2, _, fs, ⟨dx, h3⟩, h4⟩ := h
  refine ⟨dx, fs, h3, fun m hm => ?_⟩
  have : m = "takes" ∨ m = "gives" ∨ m = "fresh" ∨ m = "fire" ∨ m = "work" ∨ m = "tapped" := by simpa using hm
  cases k <;> rcases this with rfl | rfl | rfl | rfl | rfl | rfl <;> exact h4.no _ rfl (by decide +kernel) (by decide +kernel) (by decide +kernel)
def MemP (K : PySem.W.Frag) (H : Hp) (v : V) (ks : List Int) : Prop := ks = [] ∧ ∃ q, v = .ref q ∧ SqT K H q [.int 0, .non]
def MemT (K : PySem.W.Frag) (H : Hp) (v : V) (ks : List Int) (n : Nat) : Prop := ks.length + 1 = n ∧ (∀ x ∈ ks, Num x) ∧ ∃ q c, v = .ref q ∧ SqT K H q [.int 0, .ref c] ∧ SqT K H c (ks.map V.int)
def MemR (K : PySem.W.Frag) (H : Hp) (v : V) (ks : List Int) : Rk → Prop
  | .up _ => MemP K H v ks
  | .down _ => MemP K H v ks
  | .taps _ ns => MemT K H v ks ns.length
  | .res _ _ _ ns => MemT K H v ks ns.length
theorem MemR.kd {K : PySem.W.Frag} {D : List Addr} {H H1 : Hp} {v : V} {ks : List Int} {k : Rk} (s : KD D H H1) (l : Lsts D H) (h : MemR K H v ks k) : MemR K H1 v ks k := by
  have hp : MemP K H v ks → MemP K H1 v ks := fun ⟨e, q, e2, hq⟩ => ⟨e, q, e2, s.tup l hq⟩
  have ht : ∀ n, MemT K H v ks n → MemT K H1 v ks n := fun n ⟨e, nu, q, c, e2, hq, hc⟩ => ⟨e, nu, q, c, e2, s.tup l hq, s.tup l hc⟩
  cases k with
  | up m => exact hp h
  | down m => exact hp h
  | taps ln ns => exact ht _ h
  | res u d ln ns => exact ht _ h
theorem MemR.keep {K : PySem.W.Frag} {H H1 : Hp} {v : V} {ks : List Int} {k : Rk} (s : Same H H1) (h : MemR K H v ks k) : MemR K H1 v ks k := MemR.kd (D := []) (KD.same s) (fun d hd => (List.not_mem_nil hd).elim) h
/-- what is taken: a list of one list -/
def RowU (H : Hp) (r : Addr) (xs : List Int) : Prop := ∃ r0, H r = some (.lst [.ref r0]) ∧ H r0 = some (.lst (xs.map V.int))
/-- numbers that are reckoned with are small enough -/
def numR : Rk → List Int → Prop
  | .up _, _ => True
  | .down _, _ => True
  | .taps _ _, xs => ∀ x ∈ xs, Num x
  | .res _ _ _ _, xs => ∀ x ∈ xs, Num x
theorem flat_one {α : Type} (y : α) : ∀ m : Nat, (List.replicate m [y]).flatten = List.replicate m y
  | 0 => rfl
  | m + 1 => by
    rw [List.replicate_succ, List.flatten_cons, flat_one y m]
    rfl
section
variable (K : PySem.W.Frag) (A : Kr)
def spRTakes : Sp := fun vs H Q _ => ∃ (n : Addr) (k : Rk), vs = [.ref n] ∧ NdR A k n H ∧ ∀ t H', Same H H' → SqT K H' t [.int (widR k : Int)] → Q (.ref t) H'
def spRGives : Sp := fun vs H Q _ => ∃ (n : Addr) (k : Rk), vs = [.ref n] ∧ NdR A k n H ∧ Q (.int (givR k : Int)) H
def spRFresh : Sp := fun vs H Q _ => ∃ (n : Addr) (k : Rk), vs = [.ref n] ∧ NdR A k n H ∧ ∀ v H', Same H H' → MemR K H' v (freshR k) k → Q v H'
def spRFire : Sp := fun vs H Q _ => ∃ (n r : Addr) (k : Rk) (v : V) (ks xs : List Int), vs = [.ref n, v, .ref r] ∧ NdR A k n H ∧ MemR K H v ks k ∧ RowU H r xs ∧ xs.length = widR k ∧ numR k xs ∧
  ∀ (t l : Addr) (v' : V) (H' : Hp), Same H H' → H' t = some (.tup [v', .ref l]) → MemR K H' v' (stepR k ks xs).1 k → H' l = some (.lst ((stepR k ks xs).2.map V.int)) → Q (.ref t) H'
/-- what a node keeps, as its work is handed it -/
def KepR (K : PySem.W.Frag) (H : Hp) (kv : V) (ks : List Int) : Rk → Prop
  | .up _ => ks = [] ∧ kv = .non
  | .down _ => ks = [] ∧ kv = .non
  | .taps _ ns => ks.length + 1 = ns.length ∧ (∀ x ∈ ks, Num x) ∧ ∃ c, kv = .ref c ∧ SqT K H c (ks.map V.int)
  | .res _ _ _ ns => ks.length + 1 = ns.length ∧ (∀ x ∈ ks, Num x) ∧ ∃ c, kv = .ref c ∧ SqT K H c (ks.map V.int)
def spRWork : Sp := fun vs H Q _ => ∃ (n r : Addr) (k : Rk) (kv : V) (ks xs : List Int), vs = [.ref n, kv, .ref r] ∧ NdR A k n H ∧ KepR K H kv ks k ∧ RowU H r xs ∧ xs.length = widR k ∧ numR k xs ∧
  ∀ (t l : Addr) (kv' : V) (H' : Hp), Same H H' → SqT K H' t [kv', .ref l] → KepR K H' kv' (stepR k ks xs).1 k → H' l = some (.lst ((stepR k ks xs).2.map V.int)) → Q (.ref t) H'
theorem wide_rWork : Wide1 (spRWork K A) := by
  rintro vs H Q Q' E hq ⟨n, r, k, kv, ks, xs, e, h1, h2, h3, h4, h5, kk⟩
  exact ⟨n, r, k, kv, ks, xs, e, h1, h2, h3, h4, h5, fun t l kv' H' a1 a2 a3 a4 => hq _ _ (kk t l kv' H' a1 a2 a3 a4)⟩
end
theorem MemR.split {K : PySem.W.Frag} {H : Hp} {v : V} {ks : List Int} {k : Rk} (h : MemR K H v ks k) : ∃ q kv, v = .ref q ∧ SqT K H q [.int 0, kv] ∧ KepR K H kv ks k := by
  cases k with
  | up m =>
    obtain ⟨e, q, e2, hq⟩ := h
    exact ⟨q, _, e2, hq, e, rfl⟩
  | down m =>
    obtain ⟨e, q, e2, hq⟩ := h
    exact ⟨q, _, e2, hq, e, rfl⟩
  | taps ln ns =>
    obtain ⟨e, nu, q, c, e2, hq, hc⟩ := h
    exact ⟨q, _, e2, hq, e, nu, c, rfl, hc⟩
  | res u d ln ns =>
    obtain ⟨e, nu, q, c, e2, hq, hc⟩ := h
    exact ⟨q, _, e2, hq, e, nu, c, rfl, hc⟩
theorem KepR.join {K : PySem.W.Frag} {H : Hp} {kv : V} {ks : List Int} {k : Rk} {q : Addr} (h : KepR K H kv ks k) (hq : SqT K H q [.int 0, kv]) : MemR K H (.ref q) ks k := by
  cases k with
  | up m =>
    obtain ⟨e, rfl⟩ := h
    exact ⟨e, q, rfl, hq⟩
  | down m =>
    obtain ⟨e, rfl⟩ := h
    exact ⟨e, q, rfl, hq⟩
  | taps ln ns =>
    obtain ⟨e, nu, c, rfl, hc⟩ := h
    exact ⟨e, nu, q, c, rfl, hq, hc⟩
  | res u d ln ns =>
    obtain ⟨e, nu, c, rfl, hc⟩ := h
    exact ⟨e, nu, q, c, rfl, hq, hc⟩
theorem KepR.keep {K : PySem.W.Frag} {H H1 : Hp} {kv : V} {ks : List Int} {k : Rk} (h : KepR K H kv ks k) (s : Same H H1) : KepR K H1 kv ks k := by
  cases k with
  | up m => exact h
  | down m => exact h
  | taps ln ns =>
    obtain ⟨e, nu, c, rfl, hc⟩ := h
    exact ⟨e, nu, c, rfl, Same.tup s hc⟩
  | res u d ln ns =>
    obtain ⟨e, nu, c, rfl, hc⟩ := h
    exact ⟨e, nu, c, rfl, Same.tup s hc⟩
section
variable {P : Program} {w : World} {K : PySem.W.Frag} {mg : Str → Option Value} {base : Heap} {f f1 f2 f3 f4 f5 f6 f7 f8 f9 C CN CU CD : Addr} {fd fd1 fd2 fd3 fd4 fd5 fd6 fd7 fd8 fd9 : FuncData}
abbrev nUpTakes : List Str := ["self"]
theorem scUpTakes : FnScope nUpTakes ["self"] (defScope sUpTakes) := ⟨rfl, rfl, rfl, by decide +kernel, rfl, by decide +kernel, by decide +kernel⟩
theorem ok_upTakes (F : FnM K "takes" "Up.takes" sUpTakes f fd) : FnOk P w K mg base CX0 1 f fd ["self"] (spRTakes K (C, 0)) := by
  refine F.ok scUpTakes (fun vs H Q E h => ?_) (fun cdv A outer s H vs Q E hr h => ?_)
  · obtain ⟨n, k, rfl, _⟩ := h
    rfl
  · obtain ⟨n, k, rfl, ⟨e, _, _, fs, ⟨dx, hi⟩, c⟩, kk⟩ := h
    cases k with
    | down m => cases e
    | taps ln ns => cases e
    | res u d ln ns => cases e
    | up m =>
      refine ⟨_, PSs.nox (pss_one (ps_ret (pe_tup (pa_cons pe_int pa_nil)))), ?_⟩
      exact ⟨(by show 1 ≤ sizeLine; decide), fun t ht => kk t _ (Same.new (Same.refl _) ht) (.inl (.inl upd_same))⟩
abbrev nDownTakes : List Str := ["self"]
theorem scDownTakes : FnScope nDownTakes ["self"] (defScope sDownTakes) := ⟨rfl, rfl, rfl, by decide +kernel, rfl, by decide +kernel, by decide +kernel⟩
theorem ok_downTakes (F : FnM K "takes" "Down.takes" sDownTakes f fd) (T : NodeC K C) (nM : NoAttr K C "many") : FnOk P w K mg base CX0 1 f fd ["self"] (spRTakes K (C, 1)) := by
  refine F.ok scDownTakes (fun vs H Q E h => ?_) (fun cdv A outer s H vs Q E hr h => ?_)
  · obtain ⟨n, k, rfl, _⟩ := h
    rfl
  · obtain ⟨n, k, rfl, ⟨e, _, _, fs, ⟨dx, hi⟩, c⟩, kk⟩ := h
    cases k with
    | up m => cases e
    | taps ln ns => cases e
    | res u d ln ns => cases e
    | down m =>
      refine ⟨_, PSs.nox (pss_one (ps_ret (pe_tup (pa_cons (pe_fld (pv 0) rfl) pa_nil)))), ?_⟩
      exact ⟨_, rfl, n, C, dx, _, _, rfl, hi, T.cl, nM, c.fld _ _ rfl, (by show 1 ≤ sizeLine; decide), fun t ht => kk t _ (Same.new (Same.refl _) ht) (.inl (.inl upd_same))⟩
abbrev nTapsTakes : List Str := ["self"]
theorem scTapsTakes : FnScope nTapsTakes ["self"] (defScope sTapsTakes) := ⟨rfl, rfl, rfl, by decide +kernel, rfl, by decide +kernel, by decide +kernel⟩
theorem ok_tapsTakes (F : FnM K "takes" "Taps.takes" sTapsTakes f fd) : FnOk P w K mg base CX0 1 f fd ["self"] (spRTakes K (C, 2)) := by
  refine F.ok scTapsTakes (fun vs H Q E h => ?_) (fun cdv A outer s H vs Q E hr h => ?_)
  · obtain ⟨n, k, rfl, _⟩ := h
    rfl
  · obtain ⟨n, k, rfl, ⟨e, _, _, fs, ⟨dx, hi⟩, c⟩, kk⟩ := h
    cases k with
    | up m => cases e
    | down m => cases e
    | res u d ln ns => cases e
    | taps ln ns =>
      refine ⟨_, PSs.nox (pss_one (ps_ret (pe_tup (pa_cons pe_int pa_nil)))), ?_⟩
      exact ⟨(by show 1 ≤ sizeLine; decide), fun t ht => kk t _ (Same.new (Same.refl _) ht) (.inl (.inl upd_same))⟩
abbrev nResampleTakes : List Str := ["self"]
theorem scResampleTakes : FnScope nResampleTakes ["self"] (defScope sResampleTakes) := ⟨rfl, rfl, rfl, by decide +kernel, rfl, by decide +kernel, by decide +kernel⟩
theorem ok_resampleTakes (F : FnM K "takes" "Resample.takes" sResampleTakes f fd) (T : NodeC K C) (nD : NoAttr K C "down") : FnOk P w K mg base CX0 1 f fd ["self"] (spRTakes K (C, 3)) := by
  refine F.ok scResampleTakes (fun vs H Q E h => ?_) (fun cdv A outer s H vs Q E hr h => ?_)
  · obtain ⟨n, k, rfl, _⟩ := h
    rfl
  · obtain ⟨n, k, rfl, ⟨e, _, _, fs, ⟨dx, hi⟩, c⟩, kk⟩ := h
    cases k with
    | up m => cases e
    | down m => cases e
    | taps ln ns => cases e
    | res u d ln ns =>
      refine ⟨_, PSs.nox (pss_one (ps_ret (pe_tup (pa_cons (pe_fld (pv 0) rfl) pa_nil)))), ?_⟩
      exact ⟨_, rfl, n, C, dx, _, _, rfl, hi, T.cl, nD, c.fld _ _ rfl, (by show 1 ≤ sizeLine; decide), fun t ht => kk t _ (Same.new (Same.refl _) ht) (.inl (.inl upd_same))⟩
abbrev nResampleGives : List Str := ["self"]
theorem scResampleGives : FnScope nResampleGives ["self"] (defScope sResampleGives) := ⟨rfl, rfl, rfl, by decide +kernel, rfl, by decide +kernel, by decide +kernel⟩
theorem ok_resampleGives (F : FnM K "gives" "Resample.gives" sResampleGives f fd) (T : NodeC K C) (nU : NoAttr K C "up") : FnOk P w K mg base CX0 1 f fd ["self"] (spRGives (C, 3)) := by
  refine F.ok scResampleGives (fun vs H Q E h => ?_) (fun cdv A outer s H vs Q E hr h => ?_)
  · obtain ⟨n, k, rfl, _⟩ := h
    rfl
  · obtain ⟨n, k, rfl, ⟨e, _, _, fs, ⟨dx, hi⟩, c⟩, kk⟩ := h
    cases k with
    | up m => cases e
    | down m => cases e
    | taps ln ns => cases e
    | res u d ln ns =>
      refine ⟨_, PSs.nox (pss_one (ps_ret (pe_fld (pv 0) rfl))), ?_⟩
      exact ⟨_, rfl, n, C, dx, _, _, rfl, hi, T.cl, nU, c.fld _ _ rfl, kk⟩
abbrev nUpFresh : List Str := ["self"]
theorem scUpFresh : FnScope nUpFresh ["self"] (defScope sUpFresh) := ⟨rfl, rfl, rfl, by decide +kernel, rfl, by decide +kernel, by decide +kernel⟩
theorem ok_upFresh (F : FnM K "fresh" "Up.fresh" sUpFresh f fd) (T : NodeC K C) : FnOk P w K mg base CX0 1 f fd ["self"] (spRFresh K (C, 0)) := by
  refine F.ok scUpFresh (fun vs H Q E h => ?_) (fun cdv A outer s H vs Q E hr h => ?_)
  · obtain ⟨n, k, rfl, _⟩ := h
    rfl
  · obtain ⟨n, k, rfl, ⟨e, _, _, fs, ⟨dx, hi⟩, c⟩, kk⟩ := h
    cases k with
    | down m => cases e
    | taps ln ns => cases e
    | res u d ln ns => cases e
    | up m =>
      refine ⟨_, PSs.nox (pss_one (ps_ret (pe_tup (pa_cons (pe_fld (pv 0) rfl) (pa_cons pe_non pa_nil))))), ?_⟩
      refine ⟨_, rfl, n, C, dx, _, _, rfl, hi, T.cl, T.nB, c.be, (by show 2 ≤ sizeLine; decide), fun q hq => ?_⟩
      exact kk _ _ (Same.new (Same.refl _) hq) ⟨rfl, q, rfl, .inl (.inl upd_same)⟩
abbrev nDownFresh : List Str := ["self"]
theorem scDownFresh : FnScope nDownFresh ["self"] (defScope sDownFresh) := ⟨rfl, rfl, rfl, by decide +kernel, rfl, by decide +kernel, by decide +kernel⟩
theorem ok_downFresh (F : FnM K "fresh" "Down.fresh" sDownFresh f fd) (T : NodeC K C) : FnOk P w K mg base CX0 1 f fd ["self"] (spRFresh K (C, 1)) := by
  refine F.ok scDownFresh (fun vs H Q E h => ?_) (fun cdv A outer s H vs Q E hr h => ?_)
  · obtain ⟨n, k, rfl, _⟩ := h
    rfl
  · obtain ⟨n, k, rfl, ⟨e, _, _, fs, ⟨dx, hi⟩, c⟩, kk⟩ := h
    cases k with
    | up m => cases e
    | taps ln ns => cases e
    | res u d ln ns => cases e
    | down m =>
      refine ⟨_, PSs.nox (pss_one (ps_ret (pe_tup (pa_cons (pe_fld (pv 0) rfl) (pa_cons pe_non pa_nil))))), ?_⟩
      refine ⟨_, rfl, n, C, dx, _, _, rfl, hi, T.cl, T.nB, c.be, (by show 2 ≤ sizeLine; decide), fun q hq => ?_⟩
      exact kk _ _ (Same.new (Same.refl _) hq) ⟨rfl, q, rfl, .inl (.inl upd_same)⟩
abbrev nTapsFresh : List Str := ["self"]
theorem scTapsFresh : FnScope nTapsFresh ["self"] (defScope sTapsFresh) := ⟨rfl, rfl, rfl, by decide +kernel, rfl, by decide +kernel, by decide +kernel⟩
theorem ok_tapsFresh (F : FnM K "fresh" "Taps.fresh" sTapsFresh f fd) (T : NodeC K C) (nN : NoAttr K C "numbers") (gLen : mg "len" = none) : FnOk P w K mg base CX0 1 f fd ["self"] (spRFresh K (C, 2)) := by
  refine F.ok scTapsFresh (fun vs H Q E h => ?_) (fun cdv A outer s H vs Q E hr h => ?_)
  · obtain ⟨n, k, rfl, _⟩ := h
    rfl
  · obtain ⟨n, k, rfl, ⟨e, ok, hl, fs, ⟨dx, hi⟩, c⟩, kk⟩ := h
    cases k with
    | up m => cases e
    | down m => cases e
    | res u d ln ns => cases e
    | taps ln ns =>
      have nok : NsOk ns := ok
      obtain ⟨n1, n12, _⟩ := nok
      have hl : H ln = some (.lst (ns.map V.int)) := hl
      refine ⟨_, PSs.nox (pss_one (ps_ret (pe_tup (pa_cons (pe_fld (pv 0) rfl) (pa_cons (pe_op op_timesS (pe_tup (pa_cons pe_int pa_nil)) (pe_op op_sub (pe_callB call_len_seq (by rfl) gLen PySem.boot_len (pa_cons (pe_fld (pv 0) rfl) pa_nil)) pe_int)) pa_nil))))), ?_⟩
      refine ⟨_, rfl, n, C, dx, _, _, rfl, hi, T.cl, T.nB, c.be, (by show 1 ≤ sizeLine; decide), fun q hq => ?_⟩
      have s1 := Same.new (o := .tup [V.int 0]) (Same.refl H) hq
      refine ⟨_, rfl, n, C, dx, _, _, rfl, s1 _ _ hi, T.cl, nN, c.fld _ _ rfl, _, _, rfl, .inl (SqL.of (s1 _ _ hl)), _, _, rfl, rfl, ?_⟩
      obtain ⟨m, em⟩ : ∃ m : Nat, ns.length = m + 1 := ⟨ns.length - 1, by omega⟩
      refine ⟨q, m, [V.int 0], rfl, ?_, .inl (.inl upd_same), by simp, by omega, by decide, fun t H2 s2 ht => ⟨(by show 2 ≤ sizeLine; decide), fun t2 ht2 => ?_⟩⟩
      · have e1 : (((ns.map V.int).length : Nat) : Int) - 1 = (m : Int) := by
          rw [List.length_map, em]
          omega
        exact congrArg V.int e1
      · have s3 := Same.new (o := .tup [V.int 0, V.ref t]) (Same.refl H2) ht2
        rw [flat_one] at ht
        have ef : freshR (.taps ln ns) = List.replicate m 0 := by
          show List.replicate (ns.length - 1) 0 = _
          rw [em]
          rfl
        rw [ef] at kk
        refine kk _ _ ((s1.trans s2).trans s3) ⟨by rw [List.length_replicate, em], fun x hx => ?_, t2, t, rfl, .inl (.inl upd_same), ?_⟩
        · rw [List.eq_of_mem_replicate hx]
          exact ⟨by decide, by decide⟩
        · rw [List.map_replicate]
          exact Same.tup s3 ht
abbrev nResampleFresh : List Str := ["self"]
theorem scResampleFresh : FnScope nResampleFresh ["self"] (defScope sResampleFresh) := ⟨rfl, rfl, rfl, by decide +kernel, rfl, by decide +kernel, by decide +kernel⟩
theorem ok_resampleFresh (F : FnM K "fresh" "Resample.fresh" sResampleFresh f fd) (T : NodeC K C) (nN : NoAttr K C "numbers") (gLen : mg "len" = none) : FnOk P w K mg base CX0 1 f fd ["self"] (spRFresh K (C, 3)) := by
  refine F.ok scResampleFresh (fun vs H Q E h => ?_) (fun cdv A outer s H vs Q E hr h => ?_)
  · obtain ⟨n, k, rfl, _⟩ := h
    rfl
  · obtain ⟨n, k, rfl, ⟨e, ok, hl, fs, ⟨dx, hi⟩, c⟩, kk⟩ := h
    cases k with
    | up m => cases e
    | down m => cases e
    | taps ln ns => cases e
    | res u d ln ns =>
      have nok : NsOk ns := ok.2.2
      obtain ⟨n1, n12, _⟩ := nok
      have hl : H ln = some (.lst (ns.map V.int)) := hl
      refine ⟨_, PSs.nox (pss_one (ps_ret (pe_tup (pa_cons (pe_fld (pv 0) rfl) (pa_cons (pe_op op_timesS (pe_tup (pa_cons pe_int pa_nil)) (pe_op op_sub (pe_callB call_len_seq (by rfl) gLen PySem.boot_len (pa_cons (pe_fld (pv 0) rfl) pa_nil)) pe_int)) pa_nil))))), ?_⟩
      refine ⟨_, rfl, n, C, dx, _, _, rfl, hi, T.cl, T.nB, c.be, (by show 1 ≤ sizeLine; decide), fun q hq => ?_⟩
      have s1 := Same.new (o := .tup [V.int 0]) (Same.refl H) hq
      refine ⟨_, rfl, n, C, dx, _, _, rfl, s1 _ _ hi, T.cl, nN, c.fld _ _ rfl, _, _, rfl, .inl (SqL.of (s1 _ _ hl)), _, _, rfl, rfl, ?_⟩
      obtain ⟨m, em⟩ : ∃ m : Nat, ns.length = m + 1 := ⟨ns.length - 1, by omega⟩
      refine ⟨q, m, [V.int 0], rfl, ?_, .inl (.inl upd_same), by simp, by omega, by decide, fun t H2 s2 ht => ⟨(by show 2 ≤ sizeLine; decide), fun t2 ht2 => ?_⟩⟩
      · have e1 : (((ns.map V.int).length : Nat) : Int) - 1 = (m : Int) := by
          rw [List.length_map, em]
          omega
        exact congrArg V.int e1
      · have s3 := Same.new (o := .tup [V.int 0, V.ref t]) (Same.refl H2) ht2
        rw [flat_one] at ht
        have ef : freshR (.res u d ln ns) = List.replicate m 0 := by
          show List.replicate (ns.length - 1) 0 = _
          rw [em]
          rfl
        rw [ef] at kk
        refine kk _ _ ((s1.trans s2).trans s3) ⟨by rw [List.length_replicate, em], fun x hx => ?_, t2, t, rfl, .inl (.inl upd_same), ?_⟩
        · rw [List.eq_of_mem_replicate hx]
          exact ⟨by decide, by decide⟩
        · rw [List.map_replicate]
          exact Same.tup s3 ht
abbrev nUpFire : List Str := ["self", "memory", "rows"]
theorem scUpFire : FnScope nUpFire ["self", "memory", "rows"] (defScope sUpFire) := ⟨rfl, rfl, rfl, by decide +kernel, rfl, by decide +kernel, by decide +kernel⟩
theorem ok_upFire (F : FnM K "fire" "Up.fire" sUpFire f fd) {j : Nat} (GF : FnOk P w K mg base CX0 j f1 fd1 ["node", "memory", "rows"] (spFiring0 K C (spRWork K (C, 0)))) (gF : mg "run_firing" = some (.ref f1)) (kF : PySem.W.keepIn K (.ref f1) = true) (bF : Binds K fd1 ["node", "memory", "rows"] []) :
    FnOk P w K mg base CX0 (j + 1) f fd ["self", "memory", "rows"] (spRFire K (C, 0)) := by
  refine F.ok scUpFire (fun vs H Q E h => ?_) (fun cdv A outer s H vs Q E hr h => ?_)
  · obtain ⟨n, r, k, v, ks, xs, rfl, _⟩ := h
    rfl
  · obtain ⟨n, r, k, v, ks, xs, rfl, hn, hv, hrow, hm, hnum, kk⟩ := h
    obtain ⟨q, kv, rfl, hq, hk⟩ := hv.split
    obtain ⟨dx, fs, hi, no⟩ := hn.ins
    refine ⟨_, PSs.nox (pss_one (ps_ret (pe_call GF hr rfl gF kF bF .nil pass0 (pa_cons (pv 0) (pa_cons (pv 1) (pa_cons (pv 2) pa_nil)))))), ?_⟩
    refine ⟨_, rfl, _, rfl, _, rfl, n, q, fs, kv, .ref r, rfl, ⟨dx, hi⟩, no _ (by decide +kernel), hq, ?_⟩
    refine ⟨n, r, k, kv, ks, xs, rfl, hn, hk, hrow, hm, hnum, fun t l kv' H1 s1 ht hk' hl => ?_⟩
    refine ⟨t, _, _, rfl, s1, ht, fun t2 t3 H2 s2 _ h2 h3 => ?_⟩
    exact kk t2 l (.ref t3) H2 (s1.trans s2) h2 ((hk'.keep s2).join (.inl (.inl h3))) (s2 _ _ hl)
abbrev nDownFire : List Str := ["self", "memory", "rows"]
theorem scDownFire : FnScope nDownFire ["self", "memory", "rows"] (defScope sDownFire) := ⟨rfl, rfl, rfl, by decide +kernel, rfl, by decide +kernel, by decide +kernel⟩
theorem ok_downFire (F : FnM K "fire" "Down.fire" sDownFire f fd) {j : Nat} (GF : FnOk P w K mg base CX0 j f1 fd1 ["node", "memory", "rows"] (spFiring0 K C (spRWork K (C, 1)))) (gF : mg "run_firing" = some (.ref f1)) (kF : PySem.W.keepIn K (.ref f1) = true) (bF : Binds K fd1 ["node", "memory", "rows"] []) :
    FnOk P w K mg base CX0 (j + 1) f fd ["self", "memory", "rows"] (spRFire K (C, 1)) := by
  refine F.ok scDownFire (fun vs H Q E h => ?_) (fun cdv A outer s H vs Q E hr h => ?_)
  · obtain ⟨n, r, k, v, ks, xs, rfl, _⟩ := h
    rfl
  · obtain ⟨n, r, k, v, ks, xs, rfl, hn, hv, hrow, hm, hnum, kk⟩ := h
    obtain ⟨q, kv, rfl, hq, hk⟩ := hv.split
    obtain ⟨dx, fs, hi, no⟩ := hn.ins
    refine ⟨_, PSs.nox (pss_one (ps_ret (pe_call GF hr rfl gF kF bF .nil pass0 (pa_cons (pv 0) (pa_cons (pv 1) (pa_cons (pv 2) pa_nil)))))), ?_⟩
    refine ⟨_, rfl, _, rfl, _, rfl, n, q, fs, kv, .ref r, rfl, ⟨dx, hi⟩, no _ (by decide +kernel), hq, ?_⟩
    refine ⟨n, r, k, kv, ks, xs, rfl, hn, hk, hrow, hm, hnum, fun t l kv' H1 s1 ht hk' hl => ?_⟩
    refine ⟨t, _, _, rfl, s1, ht, fun t2 t3 H2 s2 _ h2 h3 => ?_⟩
    exact kk t2 l (.ref t3) H2 (s1.trans s2) h2 ((hk'.keep s2).join (.inl (.inl h3))) (s2 _ _ hl)
abbrev nTapsFire : List Str := ["self", "memory", "rows"]
theorem scTapsFire : FnScope nTapsFire ["self", "memory", "rows"] (defScope sTapsFire) := ⟨rfl, rfl, rfl, by decide +kernel, rfl, by decide +kernel, by decide +kernel⟩
theorem ok_tapsFire (F : FnM K "fire" "Taps.fire" sTapsFire f fd) {j : Nat} (GF : FnOk P w K mg base CX0 j f1 fd1 ["node", "memory", "rows"] (spFiring0 K C (spRWork K (C, 2)))) (gF : mg "run_firing" = some (.ref f1)) (kF : PySem.W.keepIn K (.ref f1) = true) (bF : Binds K fd1 ["node", "memory", "rows"] []) :
    FnOk P w K mg base CX0 (j + 1) f fd ["self", "memory", "rows"] (spRFire K (C, 2)) := by
  refine F.ok scTapsFire (fun vs H Q E h => ?_) (fun cdv A outer s H vs Q E hr h => ?_)
  · obtain ⟨n, r, k, v, ks, xs, rfl, _⟩ := h
    rfl
  · obtain ⟨n, r, k, v, ks, xs, rfl, hn, hv, hrow, hm, hnum, kk⟩ := h
    obtain ⟨q, kv, rfl, hq, hk⟩ := hv.split
    obtain ⟨dx, fs, hi, no⟩ := hn.ins
    refine ⟨_, PSs.nox (pss_one (ps_ret (pe_call GF hr rfl gF kF bF .nil pass0 (pa_cons (pv 0) (pa_cons (pv 1) (pa_cons (pv 2) pa_nil)))))), ?_⟩
    refine ⟨_, rfl, _, rfl, _, rfl, n, q, fs, kv, .ref r, rfl, ⟨dx, hi⟩, no _ (by decide +kernel), hq, ?_⟩
    refine ⟨n, r, k, kv, ks, xs, rfl, hn, hk, hrow, hm, hnum, fun t l kv' H1 s1 ht hk' hl => ?_⟩
    refine ⟨t, _, _, rfl, s1, ht, fun t2 t3 H2 s2 _ h2 h3 => ?_⟩
    exact kk t2 l (.ref t3) H2 (s1.trans s2) h2 ((hk'.keep s2).join (.inl (.inl h3))) (s2 _ _ hl)
abbrev nResampleFire : List Str := ["self", "memory", "rows"]
theorem scResampleFire : FnScope nResampleFire ["self", "memory", "rows"] (defScope sResampleFire) := ⟨rfl, rfl, rfl, by decide +kernel, rfl, by decide +kernel, by decide +kernel⟩
theorem ok_resampleFire (F : FnM K "fire" "Resample.fire" sResampleFire f fd) {j : Nat} (GF : FnOk P w K mg base CX0 j f1 fd1 ["node", "memory", "rows"] (spFiring0 K C (spRWork K (C, 3)))) (gF : mg "run_firing" = some (.ref f1)) (kF : PySem.W.keepIn K (.ref f1) = true) (bF : Binds K fd1 ["node", "memory", "rows"] []) :
    FnOk P w K mg base CX0 (j + 1) f fd ["self", "memory", "rows"] (spRFire K (C, 3)) := by
  refine F.ok scResampleFire (fun vs H Q E h => ?_) (fun cdv A outer s H vs Q E hr h => ?_)
  · obtain ⟨n, r, k, v, ks, xs, rfl, _⟩ := h
    rfl
  · obtain ⟨n, r, k, v, ks, xs, rfl, hn, hv, hrow, hm, hnum, kk⟩ := h
    obtain ⟨q, kv, rfl, hq, hk⟩ := hv.split
    obtain ⟨dx, fs, hi, no⟩ := hn.ins
    refine ⟨_, PSs.nox (pss_one (ps_ret (pe_call GF hr rfl gF kF bF .nil pass0 (pa_cons (pv 0) (pa_cons (pv 1) (pa_cons (pv 2) pa_nil)))))), ?_⟩
    refine ⟨_, rfl, _, rfl, _, rfl, n, q, fs, kv, .ref r, rfl, ⟨dx, hi⟩, no _ (by decide +kernel), hq, ?_⟩
    refine ⟨n, r, k, kv, ks, xs, rfl, hn, hk, hrow, hm, hnum, fun t l kv' H1 s1 ht hk' hl => ?_⟩
    refine ⟨t, _, _, rfl, s1, ht, fun t2 t3 H2 s2 _ h2 h3 => ?_⟩
    exact kk t2 l (.ref t3) H2 (s1.trans s2) h2 ((hk'.keep s2).join (.inl (.inl h3))) (s2 _ _ hl)
end
end Sw
namespace Sw
open PySem PySem.Spec PyProof.Rows L2
theorem zipWith_take {ns ms : List Int} {j : Nat} {a b : Int} (h1 : ns[j]? = some a) (h2 : ms[j]? = some b) : (List.zipWith (· * ·) ns ms).take (j + 1) = (List.zipWith (· * ·) ns ms).take j ++ [a * b] := by
  rw [List.take_succ, List.getElem?_zipWith, h1, h2]
  rfl
theorem sIx_last (n d : Nat) : HT.sIx n d (some (-1)) = n - 1 := by
  show ((-1 : Int) + (n : Int)).toNat = n - 1
  omega
theorem cut_last {xs : List V} {n : Nat} (h : xs.length = n) (h1 : 1 ≤ n) : cutV xs none (some (-1)) = xs.take (n - 1) := by
  unfold cutV
  rw [HT.sIx_none, List.drop_zero]
  rw [sIx_last, h]
  rfl
section
variable {P : Program} {w : World} {K : PySem.W.Frag} {mg : Str → Option Value} {base : Heap} {f f1 f2 f3 f4 f5 f6 f7 f8 f9 C CN CU CD : Addr} {fd fd1 fd2 fd3 fd4 fd5 fd6 fd7 fd8 fd9 : FuncData}
abbrev nUpWork : List Str := ["self", "kept", "rows", "sample", "further"]
theorem scUpWork : FnScope nUpWork ["self", "kept", "rows"] (defScope sUpWork) := ⟨rfl, rfl, rfl, by decide +kernel, rfl, by decide +kernel, by decide +kernel⟩
theorem ok_upWork (F : FnM K "work" "Up.work" sUpWork f fd) (T : NodeC K C) (nM : NoAttr K C "many") (nH : NoAttr K C "hold") : FnOk P w K mg base CX0 1 f fd ["self", "kept", "rows"] (spRWork K (C, 0)) := by
  refine F.ok scUpWork (fun vs H Q E h => ?_) (fun cdv A outer s H vs Q E hr h => ?_)
  · obtain ⟨n, r, k, kv, ks, xs, rfl, _⟩ := h
    rfl
  · obtain ⟨n, r, k, kv, ks, xs, rfl, ⟨e, ok, _, fs, ⟨dx, hi⟩, c⟩, hk, ⟨r0, hr0, hr1⟩, hm, _, kk⟩ := h
    have nd := scUpWork.nd
    cases k with
    | down m => cases e
    | taps ln ns => cases e
    | res u d ln ns => cases e
    | up m =>
      obtain ⟨rfl, rfl⟩ := hk
      have hm : xs.length = 1 := hm
      have ok : 1 ≤ m ∧ m ≤ 8 := ok
      obtain ⟨x, rfl⟩ : ∃ x, xs = [x] := match xs, hm with | [x], _ => ⟨x, rfl⟩
      refine ⟨_, PSs.nox (pss_cons (ps_set (i := 3) nd rfl (Or.inl rfl) (pe_ix ix_list (pe_ix ix_list (pv 2) pe_int (fun _ _ => rfl)) pe_int (fun _ _ => rfl)))
      (pss_cons (ps_set (i := 4) nd rfl (Or.inl rfl) (pe_ifExp (pt_val (pe_fld (pv 0) rfl)) (pv 3) pe_int))
      (pss_one (ps_ret (pe_tup (pa_cons (pv 1) (pa_cons (pe_op op_cat (pe_lst (pa_cons (pv 3) pa_nil)) (pe_op op_rep (pe_lst (pa_cons (pv 4) pa_nil)) (pe_op op_sub (pe_fld (pv 0) rfl) pe_int))) pa_nil))))))), ?_⟩
      refine ⟨_, rfl, r, _, _, _, rfl, rfl, SqL.of hr0, atI_nat (j := 0) rfl, r0, _, _, _, rfl, rfl, SqL.of hr1, atI_nat (j := 0) rfl, ?_⟩
      have em : ((m : Int) - 1).toNat = m - 1 := by omega
      refine ⟨_, rfl, n, C, dx, _, _, rfl, hi, T.cl, nH, c.fld _ _ rfl, _, rfl, iteF ?_⟩
      refine ⟨_, rfl, _, rfl, (by show 1 ≤ sizeLine; decide), fun l1 h1 => ⟨_, rfl, (by show 1 ≤ sizeLine; decide), fun l2 h2 => ?_⟩⟩
      have sm := Same.new (o := .lst [V.int 0]) (Same.new (o := .lst [V.int x]) (Same.refl H) h1) h2
      refine ⟨_, rfl, n, C, dx, _, _, rfl, sm _ _ hi, T.cl, nM, c.fld _ _ rfl, _, _, rfl, rfl, l2, _, _, rfl, rfl, upd_same, by omega, by omega, ?_, fun l3 h3 => ?_⟩
      · rw [em]
        exact Nat.le_trans (show 1 * (m - 1) ≤ 8 by omega) (by decide)
      rw [em]
      refine ⟨l1, l3, _, _, rfl, rfl, Same.new (Same.refl _) h3 _ _ (Same.new (Same.refl _) h2 _ _ upd_same), upd_same, ?_, fun l h4 => ⟨(by show 2 ≤ sizeLine; decide), fun t h5 => ?_⟩⟩
      · rw [flat_one, List.length_replicate]
        exact Nat.le_trans (show 1 + (m - 1) ≤ 8 by omega) (by decide)
      have e : [V.int x] ++ (List.replicate (m - 1) [V.int 0]).flatten = (stepR (.up m) [] [x]).2.map V.int := by
        show _ = V.int x :: (List.replicate (m - 1) (0 : Int)).map V.int
        rw [List.map_replicate, flat_one]
        rfl
      rw [e] at h5 ⊢
      exact kk t l .non _ (Same.new (Same.new (Same.new sm h3) h4) h5) (.inl (.inl upd_same)) ⟨rfl, rfl⟩ (Same.new (Same.refl _) h5 _ _ upd_same)
abbrev nDownWork : List Str := ["self", "kept", "rows"]
theorem scDownWork : FnScope nDownWork ["self", "kept", "rows"] (defScope sDownWork) := ⟨rfl, rfl, rfl, by decide +kernel, rfl, by decide +kernel, by decide +kernel⟩
theorem ok_downWork (F : FnM K "work" "Down.work" sDownWork f fd) : FnOk P w K mg base CX0 1 f fd ["self", "kept", "rows"] (spRWork K (C, 1)) := by
  refine F.ok scDownWork (fun vs H Q E h => ?_) (fun cdv A outer s H vs Q E hr h => ?_)
  · obtain ⟨n, r, k, kv, ks, xs, rfl, _⟩ := h
    rfl
  · obtain ⟨n, r, k, kv, ks, xs, rfl, ⟨e, ok, _, fs, ⟨dx, hi⟩, c⟩, hk, ⟨r0, hr0, hr1⟩, hm, _, kk⟩ := h
    cases k with
    | up m => cases e
    | taps ln ns => cases e
    | res u d ln ns => cases e
    | down m =>
      obtain ⟨rfl, rfl⟩ := hk
      have hm : xs.length = m := hm
      have ok : 1 ≤ m ∧ m ≤ 8 := ok
      obtain ⟨x, ys, rfl⟩ : ∃ x ys, xs = x :: ys := match xs, hm with
        | x :: ys, _ => ⟨x, ys, rfl⟩
        | [], z => absurd z (by intro e; rw [← e] at ok; exact absurd ok.1 (by decide))
      refine ⟨_, PSs.nox (pss_one (ps_ret (pe_tup (pa_cons (pv 1) (pa_cons (pe_lst (pa_cons (pe_ix ix_list (pe_ix ix_list (pv 2) pe_int (fun _ _ => rfl)) pe_int (fun _ _ => rfl)) pa_nil)) pa_nil))))), ?_⟩
      refine ⟨_, rfl, _, rfl, r, _, _, _, rfl, rfl, SqL.of hr0, atI_nat (j := 0) rfl, r0, _, _, _, rfl, rfl, SqL.of hr1, atI_nat (j := 0) rfl, (by show 1 ≤ sizeLine; decide), fun l hl => ⟨(by show 2 ≤ sizeLine; decide), fun t ht => ?_⟩⟩
      exact kk t l .non _ (Same.new (Same.new (Same.refl _) hl) ht) (.inl (.inl upd_same)) ⟨rfl, rfl⟩ (Same.new (Same.refl _) ht _ _ upd_same)
abbrev nTapsWork : List Str := ["self", "kept", "rows", "samples", "total", "number", "sample"]
theorem scTapsWork : FnScope nTapsWork ["self", "kept", "rows"] (defScope sTapsWork) := ⟨rfl, rfl, rfl, by decide +kernel, rfl, by decide +kernel, by decide +kernel⟩
theorem ok_tapsWork (F : FnM K "work" "Taps.work" sTapsWork f fd) (T : NodeC K C) (nN : NoAttr K C "numbers") (gSum : mg "sum" = none) (gZip : mg "zip" = none) : FnOk P w K mg base CX0 1 f fd ["self", "kept", "rows"] (spRWork K (C, 2)) := by
  refine F.ok scTapsWork (fun vs H Q E h => ?_) (fun cdv A outer s H vs Q E hr h => ?_)
  · obtain ⟨n, r, k, kv, ks, xs, rfl, _⟩ := h
    rfl
  · obtain ⟨n, r, k, kv, ks, xs, rfl, ⟨e, ok, hl, fs, ⟨dx, hi⟩, c⟩, hk, ⟨r0, hr0, hr1⟩, hm, hnum, kk⟩ := h
    have nd := scTapsWork.nd
    cases k with
    | up m => cases e
    | down m => cases e
    | res u d ln ns => cases e
    | taps ln ns =>
      obtain ⟨kl, kn, kt, rfl, hkt⟩ := hk
      obtain ⟨n1, n12, hns⟩ := (show NsOk ns from ok)
      have hl : H ln = some (.lst (ns.map V.int)) := hl
      have hm : xs.length = 1 := hm
      obtain ⟨x, rfl⟩ : ∃ x, xs = [x] := match xs, hm with | [x], _ => ⟨x, rfl⟩
      have nx : Num x := hnum x List.mem_cons_self
      refine ⟨_, PSs.nox (pss_cons (ps_set (i := 3) nd rfl (Or.inl rfl) (pe_tup (pa_cons (pe_ix ix_list (pe_ix ix_list (pv 2) pe_int (fun _ _ => rfl)) pe_int (fun _ _ => rfl)) (StX.pa_star (pv 1) pa_nil))))
        (pss_cons (ps_set (i := 4) nd rfl (Or.inl rfl) (pe_callB (cr_sum rfl) (by rfl) gSum (by decide +kernel) (pa_cons
            (pe_lc (own := [("number", 5), ("sample", 6)]) (g := gTup K 2 (gCons (gName 5) (gCons (gName 6) gNil))) (tt := tYes) rfl nd (pi_zipLT rfl gZip (pa_cons (pe_fld (pv 0) rfl) (pa_cons (pv 3) pa_nil)))
              (blkOk_by (N := nTapsWork) (sc := defScope sTapsWork) (by decide +kernel)) (fun _ _ _ _ _ => pg_tup rfl (pgs_cons (pg_name (i := 5) nd rfl (Or.inl rfl)) (pgs_cons (pg_name (i := 6) nd rfl (Or.inl rfl)) pgs_nil))) (fun _ _ _ _ _ => pts_nil) (fun _ _ _ _ _ => pe_op op_mulW (pv 5) (pv 6))) pa_nil)))
        (pss_one (ps_ret (pe_tup (pa_cons (pe_slice sl_tup (pv 3) po_none (po_some (pe_un un_neg pe_int))) (pa_cons (pe_lst (pa_cons (pv 4) pa_nil)) pa_nil))))))), ?_⟩
      have eL : (V.int x :: (ks.map V.int ++ [])) = (x :: ks).map V.int := by rw [List.append_nil]; rfl
      have lL : (x :: ks).length = ns.length := by
        rw [List.length_cons]
        exact kl
      refine ⟨_, rfl, r, _, _, _, rfl, rfl, SqL.of hr0, atI_nat (j := 0) rfl, r0, _, _, _, rfl, rfl, SqL.of hr1, atI_nat (j := 0) rfl, _, rfl, kt, _, rfl, .inl hkt, ?_⟩
      refine ⟨?_, fun st hst => ?_⟩
      · show (V.int x :: (ks.map V.int ++ [])).length ≤ sizeLine
        rw [eL, List.length_map, lL]
        exact Nat.le_trans n12 (by decide)
      obtain ⟨H1, eH1, s1, hst1⟩ : ∃ H1, upd H st (.tup (V.int x :: (ks.map V.int ++ []))) = H1 ∧ Same H H1 ∧ H1 st = some (.tup ((x :: ks).map V.int)) := ⟨_, rfl, Same.new (Same.refl H) hst, by rw [eL]; exact upd_same⟩
      show tSeq _ _ _ _ (upd H st (.tup (V.int x :: (ks.map V.int ++ []))))
      rw [eH1]
      refine ⟨_, rfl, n, C, dx, _, _, rfl, s1 _ _ hi, T.cl, nN, c.fld _ _ rfl, _, rfl, ln, st, _, _, rfl, SqL.of (s1 _ _ hl), .inl (.inl hst1), fun D hD => ?_⟩
      refine lc_it (walk_zipLT (xs := ns.map V.int) (ys := (x :: ks).map V.int) (by rw [List.length_map, List.length_map, lL])) (fun j H' => H' D = some (.lst (((List.zipWith (· * ·) ns (x :: ks)).take j).map V.int)) ∧ Same H1 H') ⟨upd_same, Same.past (Same.refl _) hD⟩ (fun j H' _ e => ⟨SqL.of (e.2 _ _ (s1 _ _ hl)), .inl (.inl (e.2 _ _ hst1))⟩) (fun j v H' H'' hj e y => ?_) (fun H' e => ?_)
      · obtain ⟨hd, s2⟩ := e
        obtain ⟨TT, a, b, rfl, hT, rfl, ea, eb⟩ := y
        have ea : (ns.map V.int)[j]? = some a := ea
        have eb : ((x :: ks).map V.int)[j]? = some b := eb
        rw [List.getElem?_map] at ea eb
        obtain ⟨a', ea', rfl⟩ := Option.map_eq_some_iff.mp ea
        obtain ⟨b', eb', rfl⟩ := Option.map_eq_some_iff.mp eb
        refine ⟨TT, _, rfl, .inl (.inl upd_same), rfl, _, _, rfl, _, _, rfl, rfl, rfl, ?_⟩
        refine yes_ite ?_
        have na : Num a' := hns _ (List.mem_of_getElem? ea')
        have nb : Num b' := by
          rcases List.mem_cons.mp (List.mem_of_getElem? eb') with h | h
          · exact h ▸ nx
          · exact kn _ h
        have nTD : D ≠ TT := fun z => by
          rw [← z, hd] at hT
          cases hT
        refine ⟨_, rfl, _, rfl, _, _, rfl, rfl, na.mul nb, _, by rw [upd_ne nTD]; exact hd, ?_, ?_, ?_⟩
        · rw [List.length_map, List.length_take, List.length_zipWith, lL]
          exact Nat.lt_of_le_of_lt (show _ ≤ 12 by omega) (by decide)
        · rw [zipWith_take ea' eb', List.map_append]
          exact upd_same
        · exact Same.past (Same.new s2 hT) hD
      · obtain ⟨hd, s2⟩ := e
        rw [List.take_of_length_le (by rw [List.length_zipWith, lL, List.length_map]; omega)] at hd
        refine ⟨D, _, rfl, SqL.of hd, ?_⟩
        have lx : ((x :: ks).map V.int).length = ns.length := by rw [List.length_map, lL]
        refine ⟨_, rfl, _, rfl, _, rfl, st, _, rfl, .inl (.inl (s2 _ _ hst1)), fun z => ?_, fun kt' hkt' => ?_⟩
        · have z2 : HT.sIx ((x :: ks).map V.int).length ((x :: ks).map V.int).length (some (-1)) = ((x :: ks).map V.int).length := z.2
          rw [sIx_last, lx] at z2
          omega
        refine ⟨_, rfl, (by show 1 ≤ sizeLine; decide), fun l hl' => ⟨(by show 2 ≤ sizeLine; decide), fun t ht => ?_⟩⟩
        have s3 := Same.new (o := .tup (cutV ((x :: ks).map V.int) none (some (-1)))) (Same.refl H') hkt'
        have s4 := Same.new (o := .lst [V.int (dot ns (x :: ks))]) (Same.refl _) hl'
        have s5 := Same.new (o := .tup [V.ref kt', V.ref l]) (Same.refl _) ht
        refine kk t l (.ref kt') _ ((((s1.trans s2).trans s3).trans s4).trans s5) (.inl (.inl upd_same)) ⟨?_, fun y hy => ?_, kt', rfl, .inl (.inl ?_)⟩ (s5 _ _ upd_same)
        · show (x :: ks).dropLast.length + 1 = _
          rw [List.length_dropLast, lL]
          omega
        · rcases List.mem_cons.mp (List.dropLast_subset _ hy) with rfl | h
          · exact nx
          · exact kn _ h
        · have e2 : ((x :: ks).dropLast).map V.int = cutV ((x :: ks).map V.int) none (some (-1)) := by
            rw [cut_last lx n1, List.dropLast_eq_take, List.map_take, lL]
          show _ = some (HO.tup (((x :: ks).dropLast).map V.int))
          rw [e2]
          exact s5 _ _ (s4 _ _ upd_same)
end
end Sw
namespace Sw
open PySem PySem.Spec PyProof.Rows L2
def spTapped (A : Kr) : Sp := fun vs H Q _ => ∃ (n sp : Addr) (u d : Nat) (ln : Addr) (ns sps : List Int) (a : Nat), vs = [.ref n, .ref sp, .int (a : Int)] ∧ NdR A (.res u d ln ns) n H ∧ H sp = some (.lst (sps.map V.int)) ∧ ns.length ≤ a + 1 ∧ a < sps.length ∧ (∀ x ∈ sps, Num x) ∧ ∀ H', Same H H' → Q (.int (tapAt ns sps a)) H'
theorem spreadL_append (u : Nat) (ys : List Int) : ∀ xs : List Int, spreadL u (xs ++ ys) = spreadL u xs ++ spreadL u ys
  | [] => rfl
  | x :: r => by
    show (x :: List.replicate (u - 1) 0) ++ spreadL u (r ++ ys) = ((x :: List.replicate (u - 1) 0) ++ spreadL u r) ++ spreadL u ys
    rw [spreadL_append u ys r, List.append_assoc]
theorem spreadL_one (u : Nat) (x : Int) : spreadL u [x] = x :: List.replicate (u - 1) 0 := by
  unfold spreadL
  rw [show spreadL u [] = [] from rfl, List.append_nil]
theorem spreadL_len {u : Nat} (h : 1 ≤ u) : ∀ xs : List Int, (spreadL u xs).length = xs.length * u
  | [] => by simp [spreadL]
  | x :: r => by
    show ((x :: List.replicate (u - 1) 0) ++ spreadL u r).length = _
    rw [List.length_append, spreadL_len h r, List.length_cons, List.length_replicate, List.length_cons, Nat.succ_mul]
    omega
theorem spreadL_num {u : Nat} : ∀ {xs : List Int}, (∀ x ∈ xs, Num x) → ∀ y ∈ spreadL u xs, Num y
  | [], _, y, hy => by cases hy
  | x :: r, h, y, hy => by
    rcases List.mem_append.mp (show y ∈ (x :: List.replicate (u - 1) 0) ++ spreadL u r from hy) with hy | hy
    · rcases List.mem_cons.mp hy with rfl | hy
      · exact h _ List.mem_cons_self
      · rw [List.eq_of_mem_replicate hy]
        exact ⟨by decide, by decide⟩
    · exact spreadL_num (fun z hz => h z (List.mem_cons_of_mem _ hz)) y hy
theorem cut_from {xs : List V} {i : Nat} (h : i ≤ xs.length) : cutV xs (some (i : Int)) none = xs.drop i := by
  unfold cutV
  rw [HT.sIx_nat, HT.sIx_none, Nat.min_eq_left h, List.take_of_length_le]
  rw [List.length_drop]
  exact Nat.le_refl _
section
variable {P : Program} {w : World} {K : PySem.W.Frag} {mg : Str → Option Value} {base : Heap} {f f1 f2 f3 f4 f5 f6 f7 f8 f9 C CN CU CD : Addr} {fd fd1 fd2 fd3 fd4 fd5 fd6 fd7 fd8 fd9 : FuncData}
abbrev nResampleTapped : List Str := ["self", "spread", "at", "k", "number"]
theorem scResampleTapped : FnScope nResampleTapped ["self", "spread", "at"] (defScope sResampleTapped) := ⟨rfl, rfl, rfl, by decide +kernel, rfl, by decide +kernel, by decide +kernel⟩
theorem ok_tapped (F : FnM K "tapped" "Resample.tapped" sResampleTapped f fd) (T : NodeC K C) (nN : NoAttr K C "numbers") (gSum : mg "sum" = none) (gEnum : mg "enumerate" = none) : FnOk P w K mg base CX0 1 f fd ["self", "spread", "at"] (spTapped (C, 3)) := by
  refine F.ok scResampleTapped (fun vs H Q E h => ?_) (fun cdv A outer s H vs Q E hr h => ?_)
  · obtain ⟨n, sp, u, d, ln, ns, sps, a, rfl, _⟩ := h
    rfl
  · obtain ⟨n, sp, u, d, ln, ns, sps, a, rfl, ⟨e, ok, hl, fs, ⟨dx, hi⟩, c⟩, hsp, a1, a2, nsp, kk⟩ := h
    have nd := scResampleTapped.nd
    obtain ⟨n1, n12, hns⟩ := (show NsOk ns from ok.2.2)
    have hl : H ln = some (.lst (ns.map V.int)) := hl
    refine ⟨_, PSs.nox (pss_one (ps_ret (pe_callB (cr_sum rfl) (by rfl) gSum (by decide +kernel) (pa_cons (pe_lc (own := [("k", 3), ("number", 4)]) (g := (gTup K 2 (gCons (gName 3) (gCons (gName 4) gNil)))) (tt := tYes) rfl nd (pi_enum rfl gEnum (pa_cons (pe_fld (pv 0) rfl) pa_nil)) (blkOk_by (N := nResampleTapped) (sc := defScope sResampleTapped) (by decide +kernel))
        (fun _ _ _ _ _ => (pg_tup rfl (pgs_cons (pg_name (i := 3) nd rfl (Or.inl rfl)) (pgs_cons (pg_name (i := 4) nd rfl (Or.inl rfl)) pgs_nil)))) (fun _ _ _ _ _ => pts_nil) (fun _ _ _ _ _ => (pe_op op_mulW (pv 4) (pe_ix (ix_listK (K := K) rfl) (pv 1) (pe_op op_sub (pv 2) (pv 3)) (fun _ _ => rfl))))) pa_nil)))), ?_⟩
    refine ⟨_, rfl, n, C, dx, _, _, rfl, hi, T.cl, nN, c.fld _ _ rfl, ln, _, rfl, SqL.of hl, fun D hD => ?_⟩
    refine lc_it (walk_enum (xs := ns.map V.int)) (fun j H' => H' D = some (.lst (((List.range j).map fun (q : Nat) => ns.getD q 0 * sps.getD (a - q) 0).map V.int)) ∧ Same H H') ⟨upd_same, Same.past (Same.refl _) hD⟩ (fun j H' _ e => SqL.of (e.2 _ _ hl)) (fun j v H' H'' hj e y => ?_) (fun H' e => ?_)
    · obtain ⟨hd, s2⟩ := e
      obtain ⟨TT, x1, x2, rfl, hT, rfl, e1, e2⟩ := y
      rw [List.length_map] at hj
      cases e1
      have e2 : (ns.map V.int)[j]? = some x2 := e2
      rw [List.getElem?_map] at e2
      obtain ⟨b, eb, rfl⟩ := Option.map_eq_some_iff.mp e2
      refine ⟨TT, _, rfl, .inl (.inl upd_same), rfl, _, _, rfl, _, _, rfl, rfl, rfl, ?_⟩
      refine yes_ite ?_
      have nTD : D ≠ TT := fun z => by
        rw [← z, hd] at hT
        cases hT
      have hsp2 : (upd H' TT (.tup [.int ((j : Nat) : Int), .int b])) sp = some (.lst (sps.map V.int)) := by
        rw [upd_ne (ne_of_none (s2 _ _ hsp) hT)]
        exact s2 _ _ hsp
      have nb : Num b := hns _ (List.mem_of_getElem? eb)
      have lt : a - j < sps.length := by omega
      have ex : sps[a - j]? = some (sps.getD (a - j) 0) := by
        rw [List.getD_eq_getElem?_getD, List.getElem?_eq_getElem lt]
        rfl
      have nx : Num (sps.getD (a - j) 0) := nsp _ (List.mem_of_getElem? ex)
      refine ⟨_, rfl, _, rfl, _, rfl, _, rfl, _, _, rfl, rfl, sp, _, _, .int (sps.getD (a - j) 0), rfl, rfl, SqL.of hsp2, ?_, _, _, rfl, rfl, nb.mul nx, _, by rw [upd_ne nTD]; exact hd, ?_, ?_, ?_⟩
      · rw [show (a : Int) - ((j : Nat) : Int) = ((a - j : Nat) : Int) by omega]
        refine atI_nat (j := a - j) ?_
        rw [List.getElem?_map, ex]
        rfl
      · rw [List.length_map, List.length_map, List.length_range]
        exact Nat.lt_of_lt_of_le (show j < 12 by omega) (by decide)
      · rw [List.range_succ, List.map_append, List.map_append]
        have eg : ns.getD j 0 = b := by
          rw [List.getD_eq_getElem?_getD, eb]
          rfl
        show _ = some (HO.lst (_ ++ [V.int (ns.getD j 0 * sps.getD (a - j) 0)]))
        rw [eg]
        exact upd_same
      · exact Same.past (Same.new s2 hT) hD
    · obtain ⟨hd, s2⟩ := e
      rw [List.length_map] at hd
      exact ⟨D, _, rfl, SqL.of hd, kk _ s2⟩
abbrev nResampleWork : List Str := ["self", "kept", "rows", "spread", "sample", "given", "k"]
theorem scResampleWork : FnScope nResampleWork ["self", "kept", "rows"] (defScope sResampleWork) := ⟨rfl, rfl, rfl, by decide +kernel, rfl, by decide +kernel, by decide +kernel⟩
theorem ok_resampleWork (F : FnM K "work" "Resample.work" sResampleWork f fd) (T : NodeC K C) (nU : NoAttr K C "up") (nD : NoAttr K C "down") (c0 : Cls K C) (mT : Meth K C "tapped" f2) (GT : FnOk P w K mg base CX0 1 f2 fd2 ["self", "spread", "at"] (spTapped (C, 3))) (bT : Binds K fd2 ["self", "spread", "at"] [])
    (gList : mg "list" = none) (gTuple : mg "tuple" = none) (gLen : mg "len" = none) (gRange : mg "range" = none) : FnOk P w K mg base CX0 2 f fd ["self", "kept", "rows"] (spRWork K (C, 3)) := by
  refine F.ok scResampleWork (fun vs H Q E h => ?_) (fun cdv A outer s H vs Q E hr h => ?_)
  · obtain ⟨n, r, k, kv, ks, xs, rfl, _⟩ := h
    rfl
  · obtain ⟨n, r, k, kv, ks, xs, rfl, hn, hk, ⟨r0, hr0, hr1⟩, hm, hnum, kk⟩ := h
    have nd := scResampleWork.nd
    obtain ⟨e, ok, hl, fs, ⟨dx, hi⟩, c⟩ := id hn
    cases k with
    | up m => cases e
    | down m => cases e
    | taps ln ns => cases e
    | res u d ln ns =>
      obtain ⟨kl, kn, kt, rfl, hkt⟩ := hk
      obtain ⟨⟨u1, u8⟩, ⟨d1, d8⟩, n1, n12, hns⟩ := (show (1 ≤ u ∧ u ≤ 8) ∧ (1 ≤ d ∧ d ≤ 8) ∧ NsOk ns from ok)
      have hm : xs.length = d := hm
      have hnum : ∀ x ∈ xs, Num x := hnum
      have em : ((u : Int) - 1).toNat = u - 1 := by omega
      refine ⟨_, PSs.nox (pss_cons (ps_set (i := 3) nd rfl (Or.inr rfl) (pe_callTy call_list_of (by rfl) gList PyProof.Rows.boot_list (pa_cons (pv 1) pa_nil)))
      (pss_cons (ps_for PassesOwn.never rfl (pi_list (pe_ix ix_list (pv 2) pe_int (fun _ _ => rfl))) (pg_name (i := 4) nd rfl (Or.inl rfl))
      (pss_one (ps_expr (pe_bm PySem.F.plainAttrs_list PySem.F.slot_list_extend PySem.F.type_list_extend mt_extend (pv 3) (pa_cons (pe_op op_cat (pe_lst (pa_cons (pv 4) pa_nil)) (pe_op op_rep (pe_lst (pa_cons pe_int pa_nil)) (pe_op op_sub (pe_fld (pv 0) rfl) pe_int))) pa_nil)))))
      (pss_cons (ps_setLc (i := 5) (own := [("k", 6)]) (g := (gName 6)) (tt := tYes) rfl nd rfl rfl (sw_true rfl rfl rfl rfl) (pi_range1 rfl gRange (pa_cons (pe_fld (pv 0) rfl) pa_nil)) (blkOk_by (N := nResampleWork) (sc := defScope sResampleWork) (by decide +kernel))
        (fun _ _ _ _ _ => (pg_name (i := 6) nd rfl (Or.inl rfl))) (fun _ _ _ _ _ => pts_nil) (fun _ _ _ _ _ => (pe_meth (pv 0) c0 mT GT hr bT .nil pass0 (pa_cons (pv 3) (pa_cons (pe_op op_add (pe_callB (call_len_seqK (K := K) rfl) (by rfl) gLen PySem.boot_len (pa_cons (pv 1) pa_nil)) (pe_op op_mul (pe_fldK (K := K) rfl (pv 0) rfl) (pv 6))) pa_nil)))))
      (pss_one (ps_ret (pe_tup (pa_cons (pe_callTy call_tuple_of (by rfl) gTuple PyProof.Rows.boot_tuple (pa_cons (pe_slice sl_list (pv 3) (po_some (pe_op op_sub (pe_callB call_len_seq (by rfl) gLen PySem.boot_len (pa_cons (pv 3) pa_nil)) (pe_callB call_len_seq (by rfl) gLen PySem.boot_len (pa_cons (pv 1) pa_nil)))) po_none) pa_nil)) (pa_cons (pv 5) pa_nil)))))))), ?_⟩
      refine ⟨_, rfl, kt, _, rfl, .inr hkt, fun sp hsp => ?_⟩
      have s1 := Same.new (o := .lst (ks.map V.int)) (Same.refl H) hsp
      refine ⟨_, rfl, r, _, _, _, rfl, rfl, SqL.of (s1 _ _ hr0), atI_nat (j := 0) rfl, r0, rfl, ⟨_, SqL.of (s1 _ _ hr1)⟩, ?_⟩
      refine for_list (xs := xs.map V.int) (fun j σ G => ∃ w4 : Option V, σ = [some (.ref n), some (.ref kt), some (.ref r), some (.ref sp), w4, none, none] ∧ G sp = some (.lst ((spr u ks (xs.take j)).map V.int)) ∧ Same H G)
        ⟨_, rfl, ?_, s1⟩ (fun j σ G _ e => by obtain ⟨_, _, _, sm⟩ := e; exact SqL.of (sm _ _ hr1)) ?_ ?_
      · rw [List.take_zero]
        show _ = some (HO.lst ((ks ++ []).map V.int))
        rw [List.append_nil]
        exact upd_same
      · rintro j x σ G ex ⟨w4, rfl, hG, sG⟩
        rw [List.getElem?_map] at ex
        obtain ⟨y, ey, e0⟩ := Option.map_eq_some_iff.mp ex
        clear ex
        subst e0
        have lj : j < xs.length := (List.getElem?_eq_some_iff.mp ey).1
        refine ⟨_, rfl, .inl ⟨rfl, _, SqL.of hG⟩, _, rfl, (by show 1 ≤ sizeLine; decide), fun l1 h1 => ⟨(by show 1 ≤ sizeLine; decide), fun l2 h2 => ?_⟩⟩
        have sa := Same.new (o := .lst [V.int 0]) (Same.new (o := .lst [V.int y]) (Same.refl G) h1) h2
        refine ⟨_, rfl, n, C, dx, _, _, rfl, sa _ _ (sG _ _ hi), T.cl, nU, c.fld _ _ rfl, _, _, rfl, rfl, l2, _, _, rfl, rfl, upd_same, by omega, by omega, ?_, fun l3 h3 => ?_⟩
        · rw [em]
          exact Nat.le_trans (show 1 * (u - 1) ≤ 8 by omega) (by decide)
        rw [em, flat_one]
        have sb := Same.new (o := .lst (List.replicate (u - 1) (V.int 0))) sa h3
        refine ⟨l1, l3, _, _, rfl, rfl, Same.new (Same.refl _) h3 _ _ (Same.new (Same.refl _) h2 _ _ upd_same), upd_same, ?_, fun l4 h4 => ?_⟩
        · rw [List.length_replicate]
          exact Nat.le_trans (show 1 + (u - 1) ≤ 8 by omega) (by decide)
        have sc := Same.new (o := .lst ([V.int y] ++ List.replicate (u - 1) (V.int 0))) sb h4
        refine ⟨sp, l4, _, _, rfl, rfl, sc _ _ hG, upd_same, ?_, ?_⟩
        · rw [List.length_map, List.length_append, List.length_replicate]
          unfold spr
          rw [List.length_append, spreadL_len u1, List.length_take]
          have : min j xs.length * u ≤ 8 * 8 := Nat.mul_le_mul (by omega) u8
          exact Nat.le_trans (show _ ≤ 100 by simp only [List.length_cons, List.length_nil]; omega) (by decide)
        · refine ⟨_, rfl, ?_, Same.past (sG.trans sc) hsp⟩
          rw [List.take_succ, ey]
          have e3 : (spr u ks (xs.take j)).map V.int ++ ([V.int y] ++ List.replicate (u - 1) (V.int 0)) = (spr u ks (xs.take j ++ [y])).map V.int := by
            simp [spr, spreadL_append, spreadL_one, List.map_append, List.map_replicate]
          rw [e3]
          exact upd_same
      · rintro σ G ⟨w4, rfl, hG, sG⟩
        rw [List.length_map, List.take_length] at hG
        generalize eS : spr u ks xs = S at hG
        have lS : S.length = ks.length + d * u := by
          rw [← eS]
          unfold spr
          rw [List.length_append, spreadL_len u1, hm]
        have nS : ∀ y ∈ S, Num y := fun y hy => by
          rw [← eS] at hy
          rcases List.mem_append.mp hy with hy | hy
          · exact kn y hy
          · exact spreadL_num hnum y hy
        have lk : ks.length ≤ 11 := by omega
        have du : d * u ≤ 8 * 8 := Nat.mul_le_mul d8 u8
        refine ⟨_, rfl, _, C, dx, _, _, rfl, sG _ _ hi, T.cl, nU, c.fld _ _ rfl, _, rfl, by omega, by omega, fun D hD => ?_⟩
        have nDS : D ≠ sp := (ne_of_none hG hD).symm
        refine lc_range (fun j H' => H' D = some (.lst (((List.range j).map fun (i : Nat) => tapAt ns S (ks.length + d * i)).map V.int)) ∧ Same G H') ⟨upd_same, Same.past (Same.refl _) hD⟩ (fun j H' hj e => ?_) (fun H' e => ?_)
        · obtain ⟨hd, s2⟩ := e
          refine ⟨rfl, ?_⟩
          refine yes_ite ?_
          have nj := hn.keep (sG.trans s2)
          obtain ⟨dxj, fsj, hij, noj⟩ := nj.ins
          refine ⟨_, rfl, n, dxj, fsj, rfl, hij, noj "tapped" (by decide +kernel), _, rfl, _, rfl, kt, _, rfl, .inr (Same.tup (sG.trans s2) hkt), ?_⟩
          refine ⟨_, rfl, n, C, dx, _, _, rfl, (sG.trans s2) _ _ hi, T.cl, nD, c.fld _ _ rfl, _, rfl, _, _, rfl, rfl, .inl ⟨by omega, by omega⟩, _, _, rfl, rfl, ?_⟩
          have ju : j < u := by omega
          have dj : d * j + d ≤ d * u := by
            have := Nat.mul_le_mul_left d (show j + 1 ≤ u by omega)
            rw [Nat.mul_succ] at this
            exact this
          refine ⟨n, sp, u, d, ln, ns, S, ks.length + d * j, ?_, nj, s2 _ _ hG, by omega, by omega, nS, fun H2 s3 => ?_⟩
          · rw [List.length_map, Int.zero_add]
            show [V.ref n, V.ref sp, V.int ((ks.length : Int) + (d : Int) * (j : Int))] = [V.ref n, V.ref sp, V.int ((ks.length + d * j : Nat) : Int)]
            rw [Int.natCast_add, Int.natCast_mul]
          · refine ⟨_, s3 _ _ hd, ?_, ?_, Same.past (s2.trans s3) hD⟩
            · rw [List.length_map, List.length_map, List.length_range]
              exact Nat.lt_of_lt_of_le (show j < 9 by omega) (by decide)
            · rw [List.range_succ, List.map_append, List.map_append]
              exact upd_same
        · obtain ⟨hd, s2⟩ := e
          rw [Int.toNat_natCast] at hd
          have hG' := s2 _ _ hG
          have hkt' := Same.tup (sG.trans s2) hkt
          refine ⟨_, rfl, _, rfl, sp, _, rfl, .inl (SqL.of hG'), _, rfl, kt, _, rfl, .inr hkt', _, _, rfl, rfl, _, rfl, ?_⟩
          refine ⟨sp, _, rfl, SqL.of hG', fun q hq => ?_⟩
          have ei : ((S.map V.int).length : Int) - ((ks.map V.int).length : Int) = ((S.length - ks.length : Nat) : Int) := by
            rw [List.length_map, List.length_map]
            omega
          have ec : cutV (S.map V.int) (some (((S.map V.int).length : Int) - ((ks.map V.int).length : Int))) none = (S.drop (S.length - ks.length)).map V.int := by
            rw [ei, cut_from (by rw [List.length_map]; omega), List.map_drop]
          rw [ec]
          refine ⟨q, _, rfl, .inl ⟨SqL.of upd_same, fun tq htq => ?_⟩⟩
          refine ⟨_, rfl, (by show 2 ≤ sizeLine; decide), fun t ht => ?_⟩
          have s3 := Same.new (o := .lst ((S.drop (S.length - ks.length)).map V.int)) (Same.refl H') hq
          have s4 := Same.new (o := .tup ((S.drop (S.length - ks.length)).map V.int)) (Same.refl _) htq
          have s5 := Same.new (o := .tup [V.ref tq, V.ref D]) (Same.refl _) ht
          have s345 := (s3.trans s4).trans s5
          have e1 : (stepR (.res u d ln ns) ks xs).1 = S.drop (S.length - ks.length) := by
            rw [← eS]
            rfl
          have e2 : (stepR (.res u d ln ns) ks xs).2 = (List.range u).map fun (i : Nat) => tapAt ns S (ks.length + d * i) := by
            rw [← eS]
            rfl
          rw [e1, e2] at kk
          refine kk t D (.ref tq) _ ((sG.trans s2).trans s345) (.inl (.inl upd_same)) ⟨?_, fun y hy => nS y (List.mem_of_mem_drop hy), tq, rfl, .inl (.inl (s5 _ _ upd_same))⟩ (s345 _ _ hd)
          rw [List.length_drop]
          omega
end
end Sw
namespace Sw
open PySem PySem.Spec PyProof.Rows L2
def spUpInit (C : Addr) : Sp := fun vs H Q _ => ∃ (p dx : Addr) (m : Nat), vs = [.ref p, .int (m : Int), .bl false, .int 0, .int 0] ∧ H p = some (.ins C dx []) ∧ 1 ≤ m ∧ m ≤ 8 ∧
  ∀ (fs : List (Str × V)) (H' : Hp), PlV fs (ownR (.up m)) 0 → Kept p H H' → H' p = some (.ins C dx fs) → Q .non H'
def spDownInit (C : Addr) : Sp := fun vs H Q _ => ∃ (p dx : Addr) (m : Nat), vs = [.ref p, .int (m : Int), .int 0, .int 0] ∧ H p = some (.ins C dx []) ∧ 1 ≤ m ∧ m ≤ 8 ∧
  ∀ (fs : List (Str × V)) (H' : Hp), PlV fs (ownR (.down m)) 0 → Kept p H H' → H' p = some (.ins C dx fs) → Q .non H'
def spTapsInit (C : Addr) : Sp := fun vs H Q _ => ∃ (p dx ln0 : Addr) (ns : List Int), vs = [.ref p, .ref ln0, .int 0, .int 0] ∧ H p = some (.ins C dx []) ∧ H ln0 = some (.lst (ns.map V.int)) ∧ NsOk ns ∧
  ∀ (fs : List (Str × V)) (ln : Addr) (H' : Hp), PlV fs (ownR (.taps ln ns)) 0 → Kept p H H' → H' p = some (.ins C dx fs) → H ln = none → H' ln = some (.lst (ns.map V.int)) → Q .non H'
def spResInit (C : Addr) : Sp := fun vs H Q _ => ∃ (p dx ln0 : Addr) (u d : Nat) (ns : List Int), vs = [.ref p, .int (u : Int), .int (d : Int), .ref ln0, .int 0, .int 0] ∧ H p = some (.ins C dx []) ∧ H ln0 = some (.lst (ns.map V.int)) ∧ (1 ≤ u ∧ u ≤ 8) ∧ (1 ≤ d ∧ d ≤ 8) ∧ NsOk ns ∧
  ∀ (fs : List (Str × V)) (ln : Addr) (H' : Hp), PlV fs (ownR (.res u d ln ns)) 0 → Kept p H H' → H' p = some (.ins C dx fs) → H ln = none → H' ln = some (.lst (ns.map V.int)) → Q .non H'
theorem plV_num (tm ln : Addr) : PlV (nodeF tm 0 0 (putF "numbers" (.ref ln) [])) [("numbers", .ref ln)] 0 := by
  refine plV_mk (fun m => ?_) rfl rfl rfl
  rw [lookup_putF, List.lookup_cons]
  by_cases z : m = "numbers"
  · rw [if_pos z, z, beq_self_eq_true]
  · rw [if_neg z, beq_false_of_ne z]
section
variable {P : Program} {w : World} {K : PySem.W.Frag} {mg : Str → Option Value} {base : Heap} {f f1 f2 f3 f4 f5 f6 f7 f8 f9 C CN CU CD : Addr} {fd fd1 fd2 fd3 fd4 fd5 fd6 fd7 fd8 fd9 : FuncData}
abbrev nUpInit : List Str := ["self", "many", "hold", "late", "begin"]
theorem scUpInit : FnScope nUpInit ["self", "many", "hold", "late", "begin"] (defScope sUpInit) := ⟨rfl, rfl, rfl, by decide +kernel, rfl, by decide +kernel, by decide +kernel⟩
theorem ok_upInit {dvs : List V} {kws : List (Str × V)} (F : FunD K "__init__" "Up.__init__" (defArgs sUpInit) (defBody sUpInit) (defScope sUpInit) dvs kws f fd) (GN : FnOk P w K mg base CX0 1 f1 fd1 ["holds", "field"] spNeed) (gN : mg "need" = some (.ref f1)) (kN : PySem.W.keepIn K (.ref f1) = true) (bN : Binds K fd1 ["holds", "field"] [])
    (GW : FnOk P w K mg base CX0 2 f2 fd2 ["thing", "least", "most"] (spWithin K)) (gW : mg "is_whole_within" = some (.ref f2)) (kW : PySem.W.keepIn K (.ref f2) = true) (bW : Binds K fd2 ["thing", "least", "most"] [])
    (GT : FnOk P w K mg base CX0 1 f4 fd4 ["thing"] spTruth) (gT : mg "is_truth" = some (.ref f4)) (kT : PySem.W.keepIn K (.ref f4) = true) (bT : Binds K fd4 ["thing"] [])
    (GB : FnOk P w K mg base CX0 3 f3 fd3 ["self", "arguments", "late", "begin"] (spNodeInit K C)) (gB : mg "Node" = some (.ref CN)) (mB : BaseM K CN "__init__" f3) (bB : Binds K fd3 ["self", "arguments", "late", "begin"] [])
    (gM : ∃ t, mg "MOST_RATE" = some (.int 8 t)) (T : NodeC K C) (nM : NoAttr K C "many") (nH : NoAttr K C "hold") : FnOk P w K mg base CX0 4 f fd ["self", "many", "hold", "late", "begin"] (spUpInit C) := by
  obtain ⟨tM, gM⟩ := gM
  refine F.ok scUpInit (fun vs H Q E h => ?_) (fun cdv A outer s H vs Q E hr h => ?_)
  · obtain ⟨p, dx, m, rfl, _⟩ := h
    rfl
  · obtain ⟨p, dx, m, rfl, hp, m1, m8, k⟩ := h
    have hr2 : Room 2 _ := hr.mono (by decide)
    have hr1 : Room 1 _ := hr.mono (by decide)
    have nd := scUpInit.nd
    refine ⟨_, PSs.nox (pss_cons (ps_expr (pe_call GN hr1 rfl gN kN bN .nil pass0 (pa_cons (pe_call GW hr2 rfl gW kW bW .nil pass0 (pa_cons (pv 1) (pa_cons pe_int (pa_cons (pe_glob (v := .int 8) rfl gM ⟨_, rfl⟩) pa_nil)))) (pa_cons pe_str pa_nil))))
      (pss_cons (ps_expr (pe_call GN hr1 rfl gN kN bN .nil pass0 (pa_cons (pe_call GT hr1 rfl gT kT bT .nil pass0 (pa_cons (pv 2) pa_nil)) (pa_cons pe_str pa_nil))))
      (pss_cons (ps_expr (pe_base (pe_glob (v := .ref CN) rfl gB rfl) mB GB hr bB .nil pass0 (pa_cons (pv 0) (pa_cons (pe_tup (pa_cons (pv 1) (pa_cons (pv 2) pa_nil))) (pa_cons (pv 3) (pa_cons (pv 4) pa_nil))))))
      (pss_cons (ps_fld (pv 0) (pv 1) rfl)
      (pss_one (ps_fld (pv 0) (pv 2) rfl)))))), ?_⟩
    refine ⟨_, rfl, _, 1, 8, rfl, .inl ⟨_, rfl, ?_⟩⟩
    rw [show decide ((1 : Int) ≤ (m : Int) ∧ (m : Int) ≤ 8) = true from decide_eq_true (by omega)]
    refine ⟨_, rfl, ?_⟩
    refine ⟨_, rfl, false, rfl, _, rfl, ?_⟩
    refine ⟨rfl, _, rfl, _, rfl, _, rfl, (by show 2 ≤ sizeLine; decide), fun t ht => ?_⟩
    have hp4 := Same.new (o := .tup [V.int (m : Int), V.bl false]) (Same.refl _) ht _ _ hp
    refine ⟨_, rfl, _, rfl, p, t, dx, [], _, 0, 0, rfl, hp4, .inl (.inl upd_same), by decide, by decide, (by show 0 < 900; decide), (by show 2 ≤ 1000; decide), fun tm htm => ?_⟩
    refine ⟨_, rfl, _, rfl, p, C, dx, _, rfl, upd_same, T.cl, nM, ?_, ?_⟩
    · exact Nat.lt_of_le_of_lt (nodeF_le _ _ _ _) (by show 0 + 3 < _; decide)
    refine ⟨_, rfl, _, rfl, p, C, dx, _, rfl, upd_same, T.cl, nH, ?_, ?_⟩
    · exact Nat.lt_of_le_of_lt (Nat.le_trans (putF_le _ _ _) (Nat.succ_le_succ (nodeF_le _ _ _ _))) (by show 0 + 3 + 1 < _; decide)
    exact k _ _ (((plV_mk (own := []) (fun m => rfl) rfl rfl rfl).put "many" _ (by decide +kernel)).put "hold" _ (by decide +kernel)) (Kept.upd (Kept.upd (Kept.upd (Kept.new (Kept.new Kept.refl ht) htm)))) upd_same
abbrev nDownInit : List Str := ["self", "many", "late", "begin"]
theorem scDownInit : FnScope nDownInit ["self", "many", "late", "begin"] (defScope sDownInit) := ⟨rfl, rfl, rfl, by decide +kernel, rfl, by decide +kernel, by decide +kernel⟩
theorem ok_downInit {dvs : List V} {kws : List (Str × V)} (F : FunD K "__init__" "Down.__init__" (defArgs sDownInit) (defBody sDownInit) (defScope sDownInit) dvs kws f fd) (GN : FnOk P w K mg base CX0 1 f1 fd1 ["holds", "field"] spNeed) (gN : mg "need" = some (.ref f1)) (kN : PySem.W.keepIn K (.ref f1) = true) (bN : Binds K fd1 ["holds", "field"] [])
    (GW : FnOk P w K mg base CX0 2 f2 fd2 ["thing", "least", "most"] (spWithin K)) (gW : mg "is_whole_within" = some (.ref f2)) (kW : PySem.W.keepIn K (.ref f2) = true) (bW : Binds K fd2 ["thing", "least", "most"] [])
    (GB : FnOk P w K mg base CX0 3 f3 fd3 ["self", "arguments", "late", "begin"] (spNodeInit K C)) (gB : mg "Node" = some (.ref CN)) (mB : BaseM K CN "__init__" f3) (bB : Binds K fd3 ["self", "arguments", "late", "begin"] [])
    (gM : ∃ t, mg "MOST_RATE" = some (.int 8 t)) (T : NodeC K C) (nM : NoAttr K C "many") : FnOk P w K mg base CX0 4 f fd ["self", "many", "late", "begin"] (spDownInit C) := by
  obtain ⟨tM, gM⟩ := gM
  refine F.ok scDownInit (fun vs H Q E h => ?_) (fun cdv A outer s H vs Q E hr h => ?_)
  · obtain ⟨p, dx, m, rfl, _⟩ := h
    rfl
  · obtain ⟨p, dx, m, rfl, hp, m1, m8, k⟩ := h
    have hr2 : Room 2 _ := hr.mono (by decide)
    have hr1 : Room 1 _ := hr.mono (by decide)
    have nd := scDownInit.nd
    refine ⟨_, PSs.nox (pss_cons (ps_expr (pe_call GN hr1 rfl gN kN bN .nil pass0 (pa_cons (pe_call GW hr2 rfl gW kW bW .nil pass0 (pa_cons (pv 1) (pa_cons pe_int (pa_cons (pe_glob (v := .int 8) rfl gM ⟨_, rfl⟩) pa_nil)))) (pa_cons pe_str pa_nil))))
      (pss_cons (ps_expr (pe_base (pe_glob (v := .ref CN) rfl gB rfl) mB GB hr bB .nil pass0 (pa_cons (pv 0) (pa_cons (pe_tup (pa_cons (pv 1) pa_nil)) (pa_cons (pv 2) (pa_cons (pv 3) pa_nil))))))
      (pss_one (ps_fld (pv 0) (pv 1) rfl)))), ?_⟩
    refine ⟨_, rfl, _, 1, 8, rfl, .inl ⟨_, rfl, ?_⟩⟩
    rw [show decide ((1 : Int) ≤ (m : Int) ∧ (m : Int) ≤ 8) = true from decide_eq_true (by omega)]
    refine ⟨_, rfl, ?_⟩
    refine ⟨rfl, _, rfl, _, rfl, (by show 1 ≤ sizeLine; decide), fun t ht => ?_⟩
    have hp4 := Same.new (o := .tup [V.int (m : Int)]) (Same.refl _) ht _ _ hp
    refine ⟨_, rfl, _, rfl, p, t, dx, [], _, 0, 0, rfl, hp4, .inl (.inl upd_same), by decide, by decide, (by show 0 < 900; decide), (by show 1 ≤ 1000; decide), fun tm htm => ?_⟩
    refine ⟨_, rfl, _, rfl, p, C, dx, _, rfl, upd_same, T.cl, nM, ?_, ?_⟩
    · exact Nat.lt_of_le_of_lt (nodeF_le _ _ _ _) (by show 0 + 3 < _; decide)
    exact k _ _ ((plV_mk (own := []) (fun m => rfl) rfl rfl rfl).put "many" _ (by decide +kernel)) (Kept.upd (Kept.upd (Kept.new (Kept.new Kept.refl ht) htm))) upd_same
abbrev nTapsInit : List Str := ["self", "numbers", "late", "begin"]
theorem scTapsInit : FnScope nTapsInit ["self", "numbers", "late", "begin"] (defScope sTapsInit) := ⟨rfl, rfl, rfl, by decide +kernel, rfl, by decide +kernel, by decide +kernel⟩
theorem ok_tapsInit {dvs : List V} {kws : List (Str × V)} (F : FunD K "__init__" "Taps.__init__" (defArgs sTapsInit) (defBody sTapsInit) (defScope sTapsInit) dvs kws f fd) (GN : FnOk P w K mg base CX0 1 f1 fd1 ["holds", "field"] spNeed) (gN : mg "need" = some (.ref f1)) (kN : PySem.W.keepIn K (.ref f1) = true) (bN : Binds K fd1 ["holds", "field"] [])
    (GL : FnOk P w K mg base CX0 3 f2 fd2 ["thing", "least", "most"] (spListOf K)) (gL : mg "is_list_of_wholes" = some (.ref f2)) (kL : PySem.W.keepIn K (.ref f2) = true) (bL : Binds K fd2 ["thing", "least", "most"] [])
    (GB : FnOk P w K mg base CX0 3 f3 fd3 ["self", "arguments", "late", "begin"] (spNodeInit K C)) (gB : mg "Node" = some (.ref CN)) (mB : BaseM K CN "__init__" f3) (bB : Binds K fd3 ["self", "arguments", "late", "begin"] [])
    (gP : ∃ t, mg "MOST_TAPS" = some (.int 12 t)) (gList : mg "list" = none) (T : NodeC K C) (nN : NoAttr K C "numbers") : FnOk P w K mg base CX0 4 f fd ["self", "numbers", "late", "begin"] (spTapsInit C) := by
  obtain ⟨tM, gP⟩ := gP
  refine F.ok scTapsInit (fun vs H Q E h => ?_) (fun cdv A outer s H vs Q E hr h => ?_)
  · obtain ⟨p, dx, ln0, ns, rfl, _⟩ := h
    rfl
  · obtain ⟨p, dx, ln0, ns, rfl, hp, hl0, ⟨n1, n12, hns⟩, k⟩ := h
    have hr1 : Room 1 _ := hr.mono (by decide)
    have nd := scTapsInit.nd
    refine ⟨_, PSs.nox (pss_cons (ps_expr (pe_call GN hr1 rfl gN kN bN .nil pass0 (pa_cons (pe_call GL hr rfl gL kL bL .nil pass0 (pa_cons (pv 1) (pa_cons pe_int (pa_cons (pe_glob (v := .int 12) rfl gP ⟨_, rfl⟩) pa_nil)))) (pa_cons pe_str pa_nil))))
      (pss_cons (ps_fld (pv 0) (pe_callTy call_list_of (by rfl) gList PyProof.Rows.boot_list (pa_cons (pv 1) pa_nil)) rfl)
      (pss_one (ps_expr (pe_base (pe_glob (v := .ref CN) rfl gB rfl) mB GB hr bB .nil pass0 (pa_cons (pv 0) (pa_cons (pe_tup (pa_cons (pe_fld (pv 0) rfl) pa_nil)) (pa_cons (pv 2) (pa_cons (pv 3) pa_nil))))))))), ?_⟩
    refine ⟨_, rfl, ln0, ns, 1, 12, rfl, hl0, by omega, by omega, by omega, fun H1 s1 => ⟨_, rfl, ?_⟩⟩
    refine ⟨_, rfl, ln0, _, rfl, .inl (SqL.of (s1 _ _ hl0)), fun ln hln => ?_⟩
    have s2 := Same.new (o := .lst (ns.map V.int)) s1 hln
    have hp2 := s2 _ _ hp
    have nln : H ln = none := s1.free hln
    have npl : ln ≠ p := (ne_of_none hp nln).symm
    have hln2 : (upd H1 ln (.lst (ns.map V.int))) ln = some (.lst (ns.map V.int)) := upd_same
    generalize upd H1 ln (.lst (ns.map V.int)) = H2 at s2 hp2 hln2
    refine ⟨_, rfl, p, C, dx, _, rfl, hp2, T.cl, nN, by decide, ?_⟩
    have hp3 : (upd H2 p (.ins C dx (putF "numbers" (.ref ln) []))) p = some (.ins C dx (putF "numbers" (.ref ln) [])) := upd_same
    refine ⟨rfl, _, rfl, _, rfl, p, C, dx, _, _, rfl, hp3, T.cl, nN, rfl, (by show 1 ≤ sizeLine; decide), fun t ht => ?_⟩
    have hp4 := Same.new (o := .tup [V.ref ln]) (Same.refl _) ht _ _ hp3
    refine ⟨_, rfl, _, rfl, p, t, dx, putF "numbers" (.ref ln) [], [.ref ln], 0, 0, rfl, hp4, .inl (.inl upd_same), by decide, by decide, by show 1 < 900; decide, by show 1 ≤ 1000; decide, fun tm htm => ?_⟩
    have k3 : Kept p H (upd H2 p (.ins C dx (putF "numbers" (.ref ln) []))) := Kept.upd (Kept.same s2)
    have k5 : Kept p H (upd (upd (upd H2 p (.ins C dx (putF "numbers" (.ref ln) []))) t (.tup [V.ref ln])) tm (.tup ([V.ref ln] ++ [V.int 0, V.int 0]))) := (k3.new ht).new htm
    refine k _ ln _ (plV_num tm ln) (Kept.upd k5) upd_same nln ?_
    have h5 : (upd (upd (upd H2 p (.ins C dx (putF "numbers" (.ref ln) []))) t (.tup [V.ref ln])) tm (.tup ([V.ref ln] ++ [V.int 0, V.int 0]))) ln = some (.lst (ns.map V.int)) :=
      Same.new (Same.new (Same.refl _) ht) htm _ _ (by rw [upd_ne npl]; exact hln2)
    rw [upd_ne npl]
    exact h5
abbrev nResampleInit : List Str := ["self", "up", "down", "numbers", "late", "begin"]
theorem scResampleInit : FnScope nResampleInit ["self", "up", "down", "numbers", "late", "begin"] (defScope sResampleInit) := ⟨rfl, rfl, rfl, by decide +kernel, rfl, by decide +kernel, by decide +kernel⟩
theorem ok_resInit {dvs : List V} {kws : List (Str × V)} (F : FunD K "__init__" "Resample.__init__" (defArgs sResampleInit) (defBody sResampleInit) (defScope sResampleInit) dvs kws f fd) (GN : FnOk P w K mg base CX0 1 f1 fd1 ["holds", "field"] spNeed) (gN : mg "need" = some (.ref f1)) (kN : PySem.W.keepIn K (.ref f1) = true) (bN : Binds K fd1 ["holds", "field"] [])
    (GW : FnOk P w K mg base CX0 2 f4 fd4 ["thing", "least", "most"] (spWithin K)) (gW : mg "is_whole_within" = some (.ref f4)) (kW : PySem.W.keepIn K (.ref f4) = true) (bW : Binds K fd4 ["thing", "least", "most"] [])
    (GL : FnOk P w K mg base CX0 3 f2 fd2 ["thing", "least", "most"] (spListOf K)) (gL : mg "is_list_of_wholes" = some (.ref f2)) (kL : PySem.W.keepIn K (.ref f2) = true) (bL : Binds K fd2 ["thing", "least", "most"] [])
    (GB : FnOk P w K mg base CX0 3 f3 fd3 ["self", "arguments", "late", "begin"] (spNodeInit K C)) (gB : mg "Node" = some (.ref CN)) (mB : BaseM K CN "__init__" f3) (bB : Binds K fd3 ["self", "arguments", "late", "begin"] [])
    (gM : ∃ t, mg "MOST_RATE" = some (.int 8 t)) (gP : ∃ t, mg "MOST_TAPS" = some (.int 12 t)) (gList : mg "list" = none) (T : NodeC K C) (nN : NoAttr K C "numbers") (nU : NoAttr K C "up") (nD : NoAttr K C "down") : FnOk P w K mg base CX0 4 f fd ["self", "up", "down", "numbers", "late", "begin"] (spResInit C) := by
  obtain ⟨tM, gP⟩ := gP
  obtain ⟨tM2, gM⟩ := gM
  refine F.ok scResampleInit (fun vs H Q E h => ?_) (fun cdv A outer s H vs Q E hr h => ?_)
  · obtain ⟨p, dx, ln0, u, d, ns, rfl, _⟩ := h
    rfl
  · obtain ⟨p, dx, ln0, u, d, ns, rfl, hp, hl0, ⟨u1, u8⟩, ⟨d1, d8⟩, ⟨n1, n12, hns⟩, k⟩ := h
    have hr2 : Room 2 _ := hr.mono (by decide)
    have hr1 : Room 1 _ := hr.mono (by decide)
    have nd := scResampleInit.nd
    refine ⟨_, PSs.nox (pss_cons (ps_expr (pe_call GN hr1 rfl gN kN bN .nil pass0 (pa_cons (pe_call GW hr2 rfl gW kW bW .nil pass0 (pa_cons (pv 1) (pa_cons pe_int (pa_cons (pe_glob (v := .int 8) rfl gM ⟨_, rfl⟩) pa_nil)))) (pa_cons pe_str pa_nil))))
      (pss_cons (ps_expr (pe_call GN hr1 rfl gN kN bN .nil pass0 (pa_cons (pe_call GW hr2 rfl gW kW bW .nil pass0 (pa_cons (pv 2) (pa_cons pe_int (pa_cons (pe_glob (v := .int 8) rfl gM ⟨_, rfl⟩) pa_nil)))) (pa_cons pe_str pa_nil))))
      (pss_cons (ps_expr (pe_call GN hr1 rfl gN kN bN .nil pass0 (pa_cons (pe_call GL hr rfl gL kL bL .nil pass0 (pa_cons (pv 3) (pa_cons pe_int (pa_cons (pe_glob (v := .int 12) rfl gP ⟨_, rfl⟩) pa_nil)))) (pa_cons pe_str pa_nil))))
      (pss_cons (ps_fld (pv 0) (pe_callTy call_list_of (by rfl) gList PyProof.Rows.boot_list (pa_cons (pv 3) pa_nil)) rfl)
      (pss_cons (ps_expr (pe_base (pe_glob (v := .ref CN) rfl gB rfl) mB GB hr bB .nil pass0 (pa_cons (pv 0) (pa_cons (pe_tup (pa_cons (pv 1) (pa_cons (pv 2) (pa_cons (pe_fld (pv 0) rfl) pa_nil)))) (pa_cons (pv 4) (pa_cons (pv 5) pa_nil))))))
      (pss_cons (ps_fld (pv 0) (pv 1) rfl)
      (pss_one (ps_fld (pv 0) (pv 2) rfl)))))))), ?_⟩
    refine ⟨_, rfl, _, 1, 8, rfl, .inl ⟨_, rfl, ?_⟩⟩
    rw [show decide ((1 : Int) ≤ (u : Int) ∧ (u : Int) ≤ 8) = true from decide_eq_true (by omega)]
    refine ⟨_, rfl, ?_⟩
    refine ⟨_, rfl, _, 1, 8, rfl, .inl ⟨_, rfl, ?_⟩⟩
    rw [show decide ((1 : Int) ≤ (d : Int) ∧ (d : Int) ≤ 8) = true from decide_eq_true (by omega)]
    refine ⟨_, rfl, ?_⟩
    refine ⟨_, rfl, ln0, ns, 1, 12, rfl, hl0, by omega, by omega, by omega, fun H1 s1 => ⟨_, rfl, ?_⟩⟩
    refine ⟨_, rfl, ln0, _, rfl, .inl (SqL.of (s1 _ _ hl0)), fun ln hln => ?_⟩
    have s2 := Same.new (o := .lst (ns.map V.int)) s1 hln
    have hp2 := s2 _ _ hp
    have nln : H ln = none := s1.free hln
    have npl : ln ≠ p := (ne_of_none hp nln).symm
    have hln2 : (upd H1 ln (.lst (ns.map V.int))) ln = some (.lst (ns.map V.int)) := upd_same
    generalize upd H1 ln (.lst (ns.map V.int)) = H2 at s2 hp2 hln2
    refine ⟨_, rfl, p, C, dx, _, rfl, hp2, T.cl, nN, by decide, ?_⟩
    have hp3 : (upd H2 p (.ins C dx (putF "numbers" (.ref ln) []))) p = some (.ins C dx (putF "numbers" (.ref ln) [])) := upd_same
    refine ⟨rfl, _, rfl, _, rfl, _, rfl, _, rfl, p, C, dx, _, _, rfl, hp3, T.cl, nN, rfl, (by show 3 ≤ sizeLine; decide), fun t ht => ?_⟩
    have hp4 := Same.new (o := .tup [V.int (u : Int), V.int (d : Int), V.ref ln]) (Same.refl _) ht _ _ hp3
    refine ⟨_, rfl, _, rfl, p, t, dx, putF "numbers" (.ref ln) [], [V.int (u : Int), V.int (d : Int), .ref ln], 0, 0, rfl, hp4, .inl (.inl upd_same), by decide, by decide, by show 1 < 900; decide, by show 3 ≤ 1000; decide, fun tm htm => ?_⟩
    have k3 : Kept p H (upd H2 p (.ins C dx (putF "numbers" (.ref ln) []))) := Kept.upd (Kept.same s2)
    have k5 : Kept p H (upd (upd (upd H2 p (.ins C dx (putF "numbers" (.ref ln) []))) t (.tup [V.int (u : Int), V.int (d : Int), V.ref ln])) tm (.tup ([V.int (u : Int), V.int (d : Int), V.ref ln] ++ [V.int 0, V.int 0]))) := (k3.new ht).new htm
    have h5 : (upd (upd (upd H2 p (.ins C dx (putF "numbers" (.ref ln) []))) t (.tup [V.int (u : Int), V.int (d : Int), V.ref ln])) tm (.tup ([V.int (u : Int), V.int (d : Int), V.ref ln] ++ [V.int 0, V.int 0]))) ln = some (.lst (ns.map V.int)) :=
      Same.new (Same.new (Same.refl _) ht) htm _ _ (by rw [upd_ne npl]; exact hln2)
    generalize upd (upd (upd H2 p (.ins C dx (putF "numbers" (.ref ln) []))) t (.tup [V.int (u : Int), V.int (d : Int), V.ref ln])) tm (.tup ([V.int (u : Int), V.int (d : Int), V.ref ln] ++ [V.int 0, V.int 0])) = H5 at k5 h5
    refine ⟨_, rfl, _, rfl, p, C, dx, _, rfl, upd_same, T.cl, nU, ?_, ?_⟩
    · exact Nat.lt_of_le_of_lt (nodeF_le _ _ _ _) (by show 1 + 3 < _; decide)
    refine ⟨_, rfl, _, rfl, p, C, dx, _, rfl, upd_same, T.cl, nD, ?_, ?_⟩
    · exact Nat.lt_of_le_of_lt (Nat.le_trans (putF_le _ _ _) (Nat.succ_le_succ (nodeF_le _ _ _ _))) (by show 1 + 3 + 1 < _; decide)
    refine k _ ln _ (((plV_num tm ln).put "up" _ (by decide +kernel)).put "down" _ (by decide +kernel)) (Kept.upd (Kept.upd (Kept.upd k5))) upd_same nln ?_
    rw [upd_ne npl, upd_ne npl, upd_ne npl]
    exact h5
end
end Sw
namespace Sw
open PySem PySem.Spec PyProof.Rows L2
def AsR (CU CD CT CR : Addr) : List Kr := [(CU, 0), (CD, 1), (CT, 2), (CR, 3)]
def runsR (k : Rk) (xs : List Int) : Nat → List Int → List Int × List Int
  | 0, ks => (ks, [])
  | i + 1, ks => ((stepR k (runsR k xs i ks).1 ((xs.drop (widR k * i)).take (widR k))).1, (runsR k xs i ks).2 ++ (stepR k (runsR k xs i ks).1 ((xs.drop (widR k * i)).take (widR k))).2)
theorem rg_ok : ∀ c : Nat, c ≤ 8 → 1 ≤ c → ∀ n : Nat, n ≤ 64 → RgC 0 ((c * n : Nat) : Int) (c : Int) n := by
  unfold RgC
  decide +kernel
theorem cut_mid {xs : List V} {a b : Nat} (h1 : a ≤ b) (h2 : b ≤ xs.length) : cutV xs (some (a : Int)) (some (b : Int)) = (xs.drop a).take (b - a) := by
  unfold cutV
  rw [HT.sIx_nat, HT.sIx_nat, Nat.min_eq_left (show a ≤ xs.length by omega), Nat.min_eq_left h2]
def spSample : Sp := fun vs H Q _ => ∃ (s : Addr) (str : List Int) (u : Nat) (t : Int), vs = [.ref s, .int (u : Int), .int t] ∧ H s = some (.lst (str.map V.int)) ∧ 1 ≤ u ∧ u ≤ 8 ∧ t < ((str.length * u : Nat) : Int) ∧ Q (.int (samp str u t)) H
def dueR (str ns : List Int) (u d fi : Nat) (n : Nat) : List Int := (List.range n).map fun (k : Nat) => tapU (samp str u) ns ((((fi * u + k) * d : Nat)) : Int)
def spGiven : Sp := fun vs H Q _ => ∃ (s ln : Addr) (str ns : List Int) (u d fi : Nat), vs = [.ref s, .int (u : Int), .int (d : Int), .ref ln, .int (fi : Int)] ∧ H s = some (.lst (str.map V.int)) ∧ H ln = some (.lst (ns.map V.int)) ∧ (1 ≤ u ∧ u ≤ 8) ∧ (1 ≤ d ∧ d ≤ 8) ∧ NsOk ns ∧ fi ≤ 100 ∧ str.length = (fi + 1) * d ∧ (∀ x ∈ str, Num x) ∧
  ∀ (l : Addr) (H' : Hp), Same H H' → H' l = some (.lst ((dueR str ns u d fi u).map V.int)) → Q (.ref l) H'
def spFired (K : PySem.W.Frag) (CU CD CT CR : Addr) : Sp := fun vs H Q _ => ∃ (A : Kr) (n sm : Addr) (k : Rk) (v : V) (ks xs : List Int) (c : Nat), vs = [.ref n, v, .ref sm] ∧ A ∈ AsR CU CD CT CR ∧ NdR A k n H ∧ MemR K H v ks k ∧ H sm = some (.lst (xs.map V.int)) ∧ xs.length = widR k * c ∧ c ≤ 64 ∧ numR k xs ∧
  ∀ (t l : Addr) (v' : V) (H' : Hp), Same H H' → H l = none → H' t = some (.tup [v', .ref l]) → MemR K H' v' (runsR k xs c ks).1 k → H' l = some (.lst ((runsR k xs c ks).2.map V.int)) → Q (.ref t) H'
theorem iteT_ {p : Bool} {a b : Prop} (h : p = true) (x : a) : if p = true then a else b := by
  rw [if_pos h]
  exact x
theorem iteF_ {p : Bool} {a b : Prop} (h : p = false) (x : b) : if p = true then a else b := by
  rw [if_neg (by rw [h]; decide)]
  exact x
theorem samp_num {str : List Int} {u : Nat} (h : ∀ x ∈ str, Num x) (t : Int) : Num (samp str u t) := by
  unfold samp
  split
  · exact ⟨by decide, by decide⟩
  · rw [List.getD_eq_getElem?_getD]
    cases e : str[(t / (u : Int)).toNat]? with
    | none => exact ⟨by decide, by decide⟩
    | some x => exact h x (List.mem_of_getElem? e)
theorem step_len {k : Rk} {ks xs : List Int} (ok : okR k) : (stepR k ks xs).2.length = givR k := by
  cases k with
  | up m =>
    have ok : 1 ≤ m ∧ m ≤ 8 := ok
    show (_ :: List.replicate (m - 1) _).length = m
    rw [List.length_cons, List.length_replicate]
    omega
  | down m => rfl
  | taps ln ns => rfl
  | res u d ln ns =>
    show ((List.range u).map _).length = u
    rw [List.length_map, List.length_range]
theorem wid8 {k : Rk} (ok : okR k) : 1 ≤ widR k ∧ widR k ≤ 8 ∧ givR k ≤ 8 := by
  cases k with
  | up m => exact ⟨Nat.le_refl 1, by show 1 ≤ 8; decide, ok.2⟩
  | down m => exact ⟨ok.1, ok.2, by show 1 ≤ 8; decide⟩
  | taps ln ns => exact ⟨Nat.le_refl 1, by show 1 ≤ 8; decide, by show 1 ≤ 8; decide⟩
  | res u d ln ns => exact ⟨ok.2.1.1, ok.2.1.2, ok.1.2⟩
theorem runs_len {k : Rk} {xs ks : List Int} (ok : okR k) : ∀ i, (runsR k xs i ks).2.length = givR k * i
  | 0 => by simp [runsR]
  | i + 1 => by
    show ((runsR k xs i ks).2 ++ (stepR k _ _).2).length = _
    rw [List.length_append, runs_len ok i, step_len ok, Nat.mul_succ]
theorem numR_sub {k : Rk} {xs ys : List Int} (h : numR k xs) (hs : ∀ y ∈ ys, y ∈ xs) : numR k ys := by
  cases k with
  | up m => trivial
  | down m => trivial
  | taps ln ns => exact fun y hy => h y (hs y hy)
  | res u d ln ns => exact fun y hy => h y (hs y hy)
section
variable {P : Program} {w : World} {K : PySem.W.Frag} {mg : Str → Option Value} {base : Heap} {f f1 f2 f3 f4 f5 f6 f7 f8 f9 C CN CU CD CT CR : Addr} {fd fd1 fd2 fd3 fd4 fd5 fd6 fd7 fd8 fd9 : FuncData}
abbrev nLSample : List Str := ["_law_stream", "_law_width", "_law_at"]
theorem scLSample : FnScope nLSample ["_law_stream", "_law_width", "_law_at"] (defScope sLSample) := ⟨rfl, rfl, rfl, by decide +kernel, rfl, by decide +kernel, by decide +kernel⟩
theorem ok_sample (F : FnP K "_law_sample" sLSample f fd) : FnOk P w K mg base CX0 1 f fd ["_law_stream", "_law_width", "_law_at"] spSample := by
  refine F.ok scLSample (fun vs H Q E h => ?_) (fun cdv A outer s H vs Q E hr h => ?_)
  · obtain ⟨s, str, u, t, rfl, _⟩ := h
    rfl
  · obtain ⟨s, str, u, t, rfl, hs, u1, u8, lt, kk⟩ := h
    have nd := scLSample.nd
    have u0 : (0 : Int) < (u : Int) := by omega
    refine ⟨_, PSs.nox (pss_cons (ps_if (PW.pt (pw_or (pt_cmpR op_lt (pv 2) pe_int (nomark _)) (pw_or1 (pt_cmpR op_gt (pe_op op_mod (pv 2) (pv 1)) pe_int (nomark _))))) (pss_one (ps_ret pe_int)) pss_nil)
      (pss_one (ps_ret (pe_ix ix_list (pv 0) (pe_op op_fdiv (pv 2) (pv 1)) (fun _ _ => rfl))))), ?_⟩
    by_cases h0 : t < 0
    · refine ⟨_, rfl, _, _, rfl, rfl, _, rfl, iteT_ (decide_eq_true h0) ?_⟩
      have e : samp str u t = 0 := samp_neg h0
      rw [e] at kk
      exact kk
    · refine ⟨_, rfl, _, _, rfl, rfl, _, rfl, iteF_ (decide_eq_false h0) ?_⟩
      refine ⟨_, rfl, _, rfl, _, _, rfl, rfl, u0, _, _, rfl, rfl, _, rfl, ite2 (fun h => ?_) (fun h => ?_)⟩
      · have h1 : t % (u : Int) > 0 := of_decide_eq_true h
        have e : samp str u t = 0 := by
          unfold samp
          rw [if_pos (.inr h1)]
        rw [e] at kk
        exact kk
      · have h1 : ¬ t % (u : Int) > 0 := fun z => h (decide_eq_true z)
        have ge : 0 ≤ t / (u : Int) := Int.ediv_nonneg (by omega) (by omega)
        have lt2 : t / (u : Int) < (str.length : Int) := Int.ediv_lt_of_lt_mul u0 (by rw [← Int.natCast_mul]; exact lt)
        have e : samp str u t = str.getD (t / (u : Int)).toNat 0 := by
          unfold samp
          rw [if_neg (by omega)]
        have lt3 : (t / (u : Int)).toNat < str.length := by omega
        refine ⟨_, rfl, _, rfl, _, rfl, _, _, rfl, rfl, ⟨u0, by omega⟩, s, _, _, .int (samp str u t), rfl, rfl, SqL.of hs, ?_, kk⟩
        rw [show t / (u : Int) = (((t / (u : Int)).toNat : Nat) : Int) by omega]
        refine atI_nat (j := (t / (u : Int)).toNat) ?_
        rw [List.getElem?_map, List.getElem?_eq_getElem lt3, e, List.getD_eq_getElem?_getD, List.getElem?_eq_getElem lt3]
        rfl
abbrev nLGiven : List Str := ["_law_stream", "_law_up", "_law_down", "_law_numbers_here", "_law_firing", "_law_found", "_law_j", "_law_some", "_law_k"]
theorem scLGiven : FnScope nLGiven ["_law_stream", "_law_up", "_law_down", "_law_numbers_here", "_law_firing"] (defScope sLGiven) := ⟨rfl, rfl, rfl, by decide +kernel, rfl, by decide +kernel, by decide +kernel⟩
theorem ok_given (F : FnP K "_law_given" sLGiven f fd) (GSa : FnOk P w K mg base CX0 1 f1 fd1 ["_law_stream", "_law_width", "_law_at"] spSample) (gSa : mg "_law_sample" = some (.ref f1)) (kSa : PySem.W.keepIn K (.ref f1) = true) (bSa : Binds K fd1 ["_law_stream", "_law_width", "_law_at"] [])
    (gRange : mg "range" = none) (gLen : mg "len" = none) (gSum : mg "sum" = none) : FnOk P w K mg base CX0 2 f fd ["_law_stream", "_law_up", "_law_down", "_law_numbers_here", "_law_firing"] spGiven := by
  refine F.ok scLGiven (fun vs H Q E h => ?_) (fun cdv A outer s H vs Q E hr h => ?_)
  · obtain ⟨s, ln, str, ns, u, d, fi, rfl, _⟩ := h
    rfl
  · obtain ⟨s, ln, str, ns, u, d, fi, rfl, hs, hl, ⟨u1, u8⟩, ⟨d1, d8⟩, ⟨n1, n12, hns⟩, fi100, hlen, nstr, kk⟩ := h
    have nd := scLGiven.nd
    refine ⟨_, PSs.nox (pss_cons (ps_set (i := 5) nd rfl (Or.inl rfl) (pe_lst pa_nil))
      (pss_cons (ps_for PassesOwn.never rfl (pi_range2 rfl gRange (pa_cons (pe_op op_mul (pv 4) (pv 1)) (pa_cons (pe_op op_add (pe_op op_mul (pv 4) (pv 1)) (pv 1)) pa_nil))) (pg_name (i := 6) nd rfl (Or.inr rfl))
      (pss_cons (ps_setLc (i := 7) (own := [("_law_k", 8)]) (g := (gName 8)) (tt := tYes) rfl nd rfl rfl (sw_true rfl rfl rfl rfl) (pi_range1 rfl gRange (pa_cons (pe_callB call_len_seq (by rfl) gLen PySem.boot_len (pa_cons (pv 3) pa_nil)) pa_nil)) (blkOk_by (N := nLGiven) (sc := defScope sLGiven) (by decide +kernel))
        (fun _ _ _ _ _ => (pg_name (i := 8) nd rfl (Or.inl rfl))) (fun _ _ _ _ _ => pts_nil) (fun _ _ _ _ _ => (pe_op op_mulW (pe_ix (ix_listK (K := K) rfl) (pv 3) (pv 8) (fun _ _ => rfl)) (pe_call GSa hr rfl gSa kSa bSa .nil pass0 (pa_cons (pv 0) (pa_cons (pv 1) (pa_cons (pe_op op_sub (pe_op op_mul (pv 6) (pv 2)) (pv 8)) pa_nil)))))))
      (pss_one (ps_expr (pe_bm PySem.F.plainAttrs_list PySem.F.slot_list_append PySem.F.type_list_append mt_append (pv 5) (pa_cons (pe_callB (cr_sum rfl) (by rfl) gSum (by decide +kernel) (pa_cons (pv 7) pa_nil)) pa_nil))))))
      (pss_one (ps_ret (pv 5))))), ?_⟩
    refine ⟨(by show 0 ≤ sizeLine; decide), fun l hl0 => ?_⟩
    have s1 := Same.new (o := .lst []) (Same.refl H) hl0
    have fu : (fi : Int) * (u : Int) = ((fi * u : Nat) : Int) := (Int.natCast_mul _ _).symm
    have fu8 : fi * u ≤ 100 * 8 := Nat.mul_le_mul fi100 u8
    have en : ((fi : Int) * (u : Int) + (u : Int) - (fi : Int) * (u : Int)).toNat = u := by omega
    refine ⟨_, rfl, _, rfl, _, _, rfl, rfl, .inl ⟨by omega, by omega⟩, _, rfl, _, rfl, _, _, rfl, rfl, .inl ⟨by omega, by omega⟩, _, rfl, _, _, rfl, rfl, _, _, rfl, ⟨by omega, by omega, by omega, by omega⟩, ?_⟩
    refine for_range (fun j σ G => ∃ (w6 w7 : Option V), σ = [some (.ref s), some (.int (u : Int)), some (.int (d : Int)), some (.ref ln), some (.int (fi : Int)), some (.ref l), w6, w7, none] ∧ G l = some (.lst ((dueR str ns u d fi j).map V.int)) ∧ Same H G)
      ⟨_, _, rfl, upd_same, s1⟩ ?_ ?_
    · rintro j σ G hj ⟨w6, w7, rfl, hG, sG⟩
      rw [en] at hj
      have hlG := sG _ _ hl
      refine ⟨_, rfl, ln, _, rfl, .inl (SqL.of hlG), _, rfl, by rw [List.length_map]; omega, by rw [List.length_map]; omega, fun D hD => ?_⟩
      have jd : (fi * u + j) * d < str.length * u := by
        rw [hlen]
        have e1 : (fi + 1) * d * u = (fi * u + u) * d := by
          rw [Nat.mul_right_comm, Nat.succ_mul, Nat.add_mul]
        rw [e1]
        exact Nat.mul_lt_mul_of_pos_right (by omega) d1
      refine lc_range (fun q H' => H' D = some (.lst (((List.range q).map fun (i : Nat) => ns.getD i 0 * samp str u ((((fi * u + j) * d : Nat) : Int) - (i : Int))).map V.int)) ∧ Same G H') ⟨upd_same, Same.past (Same.refl _) hD⟩ (fun q H' hq e => ?_) (fun H' e => ?_)
      · obtain ⟨hd, s2⟩ := e
        rw [List.length_map] at hq
        have hq : q < ns.length := by omega
        refine ⟨rfl, ?_⟩
        refine yes_ite ?_
        have eq : ns[q]? = some (ns.getD q 0) := by
          rw [List.getD_eq_getElem?_getD, List.getElem?_eq_getElem hq]
          rfl
        refine ⟨_, rfl, _, rfl, ln, _, _, .int (ns.getD q 0), rfl, rfl, SqL.of (s2 _ _ hlG), ?_, _, rfl, _, rfl, _, rfl, _, rfl, _, _, rfl, rfl, .inr ⟨by omega, by omega⟩, _, rfl, _, _, rfl, rfl, ?_⟩
        · rw [Int.zero_add]
          refine atI_nat (j := q) ?_
          rw [List.getElem?_map, eq]
          rfl
        have et : ((fi : Int) * (u : Int) + (j : Int)) * (d : Int) - (0 + (q : Int)) = (((fi * u + j) * d : Nat) : Int) - (q : Int) := by
          rw [fu, Int.zero_add, Int.natCast_mul (fi * u + j) d, Int.natCast_add]
        refine ⟨s, str, u, (((fi * u + j) * d : Nat) : Int) - (q : Int), ?_, (sG.trans s2) _ _ hs, u1, u8, by omega, ?_⟩
        · show [V.ref s, V.int (u : Int), V.int (((fi : Int) * (u : Int) + (j : Int)) * (d : Int) - (0 + (q : Int)))] = _
          rw [et]
        have nx := hns _ (List.mem_of_getElem? eq)
        refine ⟨_, _, rfl, rfl, nx.mul (samp_num nstr _), _, hd, ?_, ?_, Same.past s2 hD⟩
        · rw [List.length_map, List.length_map, List.length_range]
          exact Nat.lt_of_lt_of_le (show q < 12 by omega) (by decide)
        · rw [List.range_succ, List.map_append, List.map_append]
          exact upd_same
      · obtain ⟨hd, s2⟩ := e
        rw [Int.toNat_natCast, List.length_map] at hd
        have nlD : l ≠ D := ne_of_none hG hD
        refine ⟨_, rfl, .inl ⟨rfl, _, SqL.of (s2 _ _ hG)⟩, _, rfl, D, _, rfl, SqL.of hd, l, _, _, rfl, rfl, s2 _ _ hG, ?_, ?_⟩
        · rw [List.length_map]
          unfold dueR
          rw [List.length_map, List.length_range]
          exact Nat.lt_of_lt_of_le (show j < 9 by omega) (by decide)
        · refine ⟨_, _, rfl, ?_, Same.past (sG.trans s2) hl0⟩
          have e4 : dueR str ns u d fi (j + 1) = dueR str ns u d fi j ++ [tapU (samp str u) ns (((fi * u + j) * d : Nat) : Int)] := by
            unfold dueR
            rw [List.range_succ, List.map_append]
            rfl
          rw [e4, List.map_append]
          exact upd_same
    · rintro σ G ⟨w6, w7, rfl, hG, sG⟩
      rw [en] at hG
      exact ⟨_, rfl, kk l G sG hG⟩
abbrev nLFired : List Str := ["_law_node", "_law_memory", "_law_samples", "_law_found", "_law_k", "_law_given_here"]
theorem scLFired : FnScope nLFired ["_law_node", "_law_memory", "_law_samples"] (defScope sLFired) := ⟨rfl, rfl, rfl, by decide +kernel, rfl, by decide +kernel, by decide +kernel⟩
theorem ok_fired (F : FnP K "_law_fired" sLFired f fd) (hT : ∀ A, A ∈ AsR CU CD CT CR → MethC P w K mg base 1 "takes" ["self"] (spRTakes K A) A.1) (hI : ∀ A, A ∈ AsR CU CD CT CR → MethC P w K mg base 4 "fire" ["self", "memory", "rows"] (spRFire K A) A.1)
    (gRange : mg "range" = none) (gLen : mg "len" = none) : FnOk P w K mg base CX0 5 f fd ["_law_node", "_law_memory", "_law_samples"] (spFired K CU CD CT CR) := by
  refine F.ok scLFired (fun vs H Q E h => ?_) (fun cdv A outer s H vs Q E hr h => ?_)
  · obtain ⟨B, n, sm, k, v, ks, xs, c, rfl, _⟩ := h
    rfl
  · obtain ⟨B, n, sm, k, v, ks, xs, c, rfl, hB, hn, hv, hsm, hlen, c64, hnum, kk⟩ := h
    have nd := scLFired.nd
    have hr1 : Room 1 _ := hr.mono (by decide)
    have ok := hn.2.1
    obtain ⟨w1, w8, g8⟩ := wid8 ok
    refine ⟨_, PSs.nox (pss_cons (ps_set (i := 3) nd rfl (Or.inl rfl) (pe_lst pa_nil))
      (pss_cons (ps_for PassesOwn.never rfl (pi_range3 rfl gRange (pa_cons pe_int (pa_cons (pe_callB call_len_seq (by rfl) gLen PySem.boot_len (pa_cons (pv 2) pa_nil)) (pa_cons (pe_ix ix_tup (pe_methOf0 (As := AsR CU CD CT CR) (cl := fun A => A.1) (sp := spRTakes K) (pv 0) hT hr1) pe_int (fun _ _ => rfl)) pa_nil)))) (pg_name (i := 4) nd rfl (Or.inl rfl))
      (pss_cons (ps_asg (pe_methOf (As := AsR CU CD CT CR) (cl := fun A => A.1) (sp := spRFire K) (pv 0) hI hr (pa_cons (pv 1) (pa_cons (pe_lst (pa_cons (pe_slice sl_list (pv 2) (po_some (pv 4)) (po_some (pe_op op_add (pv 4) (pe_ix ix_tup (pe_methOf0 (As := AsR CU CD CT CR) (cl := fun A => A.1) (sp := spRTakes K) (pv 0) hT hr1) pe_int (fun _ _ => rfl))))) pa_nil)) pa_nil))) (pg_tup rfl (pgs_cons (pg_name (i := 1) nd rfl (Or.inl rfl)) (pgs_cons (pg_name (i := 5) nd rfl (Or.inl rfl)) pgs_nil))))
      (pss_one (ps_expr (pe_bm PySem.F.plainAttrs_list PySem.F.slot_list_extend PySem.F.type_list_extend mt_extend (pv 3) (pa_cons (pv 5) pa_nil))))))
      (pss_one (ps_ret (pe_tup (pa_cons (pv 1) (pa_cons (pv 3) pa_nil))))))), ?_⟩
    refine ⟨(by show 0 ≤ sizeLine; decide), fun l hl0 => ?_⟩
    have s1 := Same.new (o := .lst []) (Same.refl H) hl0
    obtain ⟨dx, fs, hin, no⟩ := (hn.keep s1).ins
    refine ⟨_, rfl, sm, _, rfl, .inl (SqL.of (s1 _ _ hsm)), _, rfl, B, n, dx, fs, hB, rfl, hin, no "takes" (by decide +kernel), n, k, rfl, hn.keep s1, fun t H2 s2 ht => ?_⟩
    refine ⟨t, _, _, _, rfl, rfl, ht, atI_nat (j := 0) rfl, _, _, _, c, rfl, ?_, ?_⟩
    · rw [List.length_map, hlen]
      exact rg_ok _ w8 w1 c c64
    refine for_rangeC (fun j σ G => ∃ (w4 w5 : Option V) (v1 : V), σ = [some (.ref n), some v1, some (.ref sm), some (.ref l), w4, w5] ∧ MemR K G v1 (runsR k xs j ks).1 k ∧ G l = some (.lst ((runsR k xs j ks).2.map V.int)) ∧ Same H G)
      ⟨_, _, v, rfl, hv.keep (s1.trans s2), s2 _ _ upd_same, s1.trans s2⟩ ?_ ?_
    · rintro j σ G hj ⟨w4, w5, v1, rfl, hv1, hG, sG⟩
      have nG := hn.keep sG
      obtain ⟨dx2, fs2, hin2, no2⟩ := nG.ins
      have wj : widR k * j + widR k ≤ xs.length := by
        rw [hlen]
        have := Nat.mul_le_mul_left (widR k) (show j + 1 ≤ c by omega)
        rw [Nat.mul_succ] at this
        exact this
      refine ⟨_, rfl, B, n, dx2, fs2, hB, rfl, hin2, no2 "fire" (by decide +kernel), _, rfl, _, rfl, _, rfl, _, rfl, _, rfl, _, rfl, B, n, dx2, fs2, hB, rfl, hin2, no2 "takes" (by decide +kernel), n, k, rfl, nG, fun t3 G3 s3 ht3 => ?_⟩
      refine ⟨t3, _, _, _, rfl, rfl, ht3, atI_nat (j := 0) rfl, _, _, rfl, rfl, _, rfl, sm, _, rfl, SqL.of ((sG.trans s3) _ _ hsm), fun q hq => ⟨(by show 1 ≤ sizeLine; decide), fun r hr' => ?_⟩⟩
      have ec : cutV (xs.map V.int) (some (0 + (j : Int) * (widR k : Int))) (some (0 + (j : Int) * (widR k : Int) + (widR k : Int))) = ((xs.drop (widR k * j)).take (widR k)).map V.int := by
        have e1 : 0 + (j : Int) * (widR k : Int) = ((widR k * j : Nat) : Int) := by
          rw [Int.zero_add, Int.natCast_mul, Int.mul_comm]
        have e2 : 0 + (j : Int) * (widR k : Int) + (widR k : Int) = ((widR k * j + widR k : Nat) : Int) := by
          rw [e1, Int.natCast_add]
        rw [e2, e1, cut_mid (by omega) (by rw [List.length_map]; exact wj), Nat.add_sub_cancel_left, List.map_take, List.map_drop]
      have hq2 : G3 q = none := hq
      rw [ec] at hr' ⊢
      have s4 := Same.new (o := .lst (((xs.drop (widR k * j)).take (widR k)).map V.int)) (Same.refl G3) hq
      have s5 := Same.new (o := .lst [V.ref q]) (Same.refl _) hr'
      have s345 := s3.trans (s4.trans s5)
      have lch : ((xs.drop (widR k * j)).take (widR k)).length = widR k := by
        rw [List.length_take, List.length_drop]
        omega
      refine ⟨n, r, k, v1, _, _, rfl, nG.keep s345, hv1.keep s345, ⟨q, upd_same, s5 _ _ upd_same⟩, lch, numR_sub hnum (fun y hy => List.mem_of_mem_drop (List.mem_of_mem_take hy)), fun t6 l6 v6 G6 s6 ht6 hv6 hl6 => ?_⟩
      refine ⟨t6, _, rfl, .inl (.inl ht6), rfl, _, _, rfl, _, _, rfl, rfl, ?_⟩
      have s36 := s345.trans s6
      refine ⟨_, rfl, .inl ⟨rfl, _, SqL.of (s36 _ _ hG)⟩, _, rfl, l, l6, _, _, rfl, rfl, s36 _ _ hG, hl6, ?_, ?_⟩
      · rw [List.length_map, List.length_map, runs_len ok, step_len ok]
        have : givR k * j ≤ 8 * 64 := Nat.mul_le_mul g8 (by omega)
        exact Nat.le_trans (show _ ≤ 600 by omega) (by decide)
      · have fr : H l = none := hl0
        refine ⟨_, _, v6, rfl, ?_, ?_, Same.past (sG.trans s36) hl0⟩
        · refine MemR.kd (D := [l]) (KD.upd List.mem_cons_self) (fun d hd => ?_) hv6
          rcases List.mem_cons.mp hd with rfl | hd
          · exact ⟨_, s36 _ _ hG⟩
          · cases hd
        · rw [← List.map_append]
          exact upd_same
    · rintro σ G ⟨w4, w5, v1, rfl, hv1, hG, sG⟩
      refine ⟨_, rfl, _, rfl, (by show 2 ≤ sizeLine; decide), fun t ht => ?_⟩
      have s2 := Same.new (o := .tup [v1, V.ref l]) (Same.refl G) ht
      exact kk t l v1 _ (sG.trans s2) hl0 upd_same (hv1.keep s2) (s2 _ _ hG)
end
end Sw
namespace Sw
open PySem PySem.Spec PyProof.Rows L2
/-! ### one behind the other -/
theorem drop_one {xs : List Int} {i : Nat} {x : Int} (h : xs[i]? = some x) : (xs.drop (1 * i)).take 1 = [x] := by
  rw [Nat.one_mul, List.take_one, List.head?_drop, h]
  rfl
theorem up_runs {u : Nat} {xs : List Int} : ∀ i, i ≤ xs.length → runsR (.up u) xs i [] = ([], spreadL u (xs.take i))
  | 0, _ => by
    rw [List.take_zero]
    rfl
  | i + 1, h => by
    have lt : i < xs.length := by omega
    have e : xs[i]? = some xs[i] := List.getElem?_eq_getElem lt
    have ch : (xs.drop (widR (.up u) * i)).take (widR (.up u)) = [xs[i]] := drop_one e
    show ((stepR (.up u) (runsR (.up u) xs i []).1 _).1, (runsR (.up u) xs i []).2 ++ (stepR (.up u) (runsR (.up u) xs i []).1 _).2) = _
    rw [ch, up_runs i (by omega), List.take_succ, e]
    show (([] : List Int), spreadL u (xs.take i) ++ (xs[i] :: List.replicate (u - 1) 0)) = ([], spreadL u (xs.take i ++ [xs[i]]))
    rw [spreadL_append, spreadL_one]
theorem taps_runs {U : Int → Int} {T : Int} {N : Nat} {ns : List Int} {lt : Addr} (h1 : 1 ≤ ns.length) : ∀ i, i ≤ N → runsR (.taps lt ns) (cut U T N) i (tapsMem U T (ns.length - 1)) = (tapsMem U (T + (i : Int)) (ns.length - 1), cut (tapU U ns) T i)
  | 0, _ => by
    show (tapsMem U T (ns.length - 1), ([] : List Int)) = (tapsMem U (T + ((0 : Nat) : Int)) (ns.length - 1), cut (tapU U ns) T 0)
    rw [Int.natCast_zero, Int.add_zero]
    rfl
  | i + 1, h => by
    have ch : ((cut U T N).drop (widR (.taps lt ns) * i)).take (widR (.taps lt ns)) = [U (T + (i : Int))] := drop_one (cut_get (by omega))
    show ((stepR (.taps lt ns) (runsR (.taps lt ns) (cut U T N) i _).1 _).1, (runsR (.taps lt ns) (cut U T N) i _).2 ++ (stepR (.taps lt ns) (runsR (.taps lt ns) (cut U T N) i _).1 _).2) = _
    rw [ch, taps_runs h1 i (by omega)]
    obtain ⟨m, em⟩ : ∃ m, ns.length = m + 1 := ⟨ns.length - 1, by omega⟩
    have e1 : U (T + (i : Int)) :: tapsMem U (T + (i : Int)) (ns.length - 1) = tapsMem U (T + (i : Int) + 1) ns.length := by
      rw [tapsMem_step, em]
      rfl
    show ((U (T + (i : Int)) :: tapsMem U (T + (i : Int)) (ns.length - 1)).dropLast, cut (tapU U ns) T i ++ [dot ns (U (T + (i : Int)) :: tapsMem U (T + (i : Int)) (ns.length - 1))]) = _
    rw [e1, dot_tap, cut_succ]
    have e2 : (tapsMem U (T + (i : Int) + 1) ns.length).dropLast = tapsMem U (T + ((i + 1 : Nat) : Int)) (ns.length - 1) := by
      rw [em, tapsMem_drop, Nat.add_sub_cancel]
      congr 1
      omega
    rw [e2]
theorem down_runs {g : Int → Int} {T : Int} {d u : Nat} (d1 : 1 ≤ d) : ∀ i, i ≤ u → runsR (.down d) (cut g T (d * u)) i [] = ([], (List.range i).map fun (j : Nat) => g (T + ((d * j : Nat) : Int)))
  | 0, _ => rfl
  | i + 1, h => by
    have di : d * i < d * u := Nat.mul_lt_mul_of_pos_left (by omega) d1
    have ch : (((cut g T (d * u)).drop (widR (.down d) * i)).take (widR (.down d))).headD 0 = g (T + ((d * i : Nat) : Int)) := by
      show (((cut g T (d * u)).drop (d * i)).take d).headD 0 = _
      rw [List.headD_eq_head?_getD, List.head?_take, if_neg (by omega), List.head?_drop, cut_get di]
      rfl
    show ((stepR (.down d) (runsR (.down d) (cut g T (d * u)) i []).1 _).1, (runsR (.down d) (cut g T (d * u)) i []).2 ++ (stepR (.down d) (runsR (.down d) (cut g T (d * u)) i []).1 _).2) = _
    rw [down_runs d1 i (by omega), List.range_succ, List.map_append]
    show (([] : List Int), _ ++ [(((cut g T (d * u)).drop (widR (.down d) * i)).take (widR (.down d))).headD 0]) = _
    rw [ch]
    rfl
/-- the row of what is due, by the place of the first of it -/
theorem due_at {s xs ns : List Int} {u d fi : Nat} (hs : s.length = fi * d) : dueR (s ++ xs) ns u d fi u = (List.range u).map fun (j : Nat) => tapU (samp (s ++ xs) u) ns (((s.length * u : Nat) : Int) + ((d * j : Nat) : Int)) := by
  unfold dueR
  apply List.map_congr_left
  intro j _
  congr 1
  rw [hs, ← Int.natCast_add]
  congr 1
  rw [Nat.add_mul, Nat.mul_comm d j, Nat.mul_right_comm]
/-- the three one behind the other -/
theorem chain_due {s xs ns : List Int} {u d fi : Nat} {lt : Addr} (u1 : 1 ≤ u) (d1 : 1 ≤ d) (n1 : 1 ≤ ns.length) (hs : s.length = fi * d) (hx : xs.length = d) :
    (runsR (.up u) xs d []).1 = [] ∧ (runsR (.up u) xs d []).2 = spreadL u xs ∧
    (runsR (.taps lt ns) (spreadL u xs) (d * u) (tapsMem (samp s u) ((s.length * u : Nat) : Int) (ns.length - 1))).1 = tapsMem (samp (s ++ xs) u) (((s ++ xs).length * u : Nat) : Int) (ns.length - 1) ∧
    ∀ y2, y2 = (runsR (.taps lt ns) (spreadL u xs) (d * u) (tapsMem (samp s u) ((s.length * u : Nat) : Int) (ns.length - 1))).2 → y2.length = d * u ∧ (runsR (.down d) y2 u []).1 = [] ∧ (runsR (.down d) y2 u []).2 = dueR (s ++ xs) ns u d fi u := by
  have eu := up_runs (u := u) (xs := xs) d (by omega)
  rw [List.take_of_length_le (by omega)] at eu
  have es : spreadL u xs = cut (samp (s ++ xs) u) ((s.length * u : Nat) : Int) (d * u) := by
    rw [spread_cut u1 xs s, hx]
  have em : tapsMem (samp s u) ((s.length * u : Nat) : Int) (ns.length - 1) = tapsMem (samp (s ++ xs) u) ((s.length * u : Nat) : Int) (ns.length - 1) := tapsMem_congr fun t ht => (samp_ahead u1 ht).symm
  have et := taps_runs (U := samp (s ++ xs) u) (T := ((s.length * u : Nat) : Int)) (N := d * u) (lt := lt) n1 (d * u) (Nat.le_refl _)
  rw [es, em, et]
  refine ⟨by rw [eu], by rw [eu, es], ?_, fun y2 e2 => ?_⟩
  · show tapsMem _ _ _ = _
    congr 1
    rw [List.length_append, hx, Nat.add_mul, Int.natCast_add]
  · subst e2
    rw [down_runs d1 u (Nat.le_refl _), due_at hs]
    exact ⟨cut_len _ _ _, rfl, rfl⟩
theorem res_due {s xs ns : List Int} {u d fi : Nat} {ln : Addr} (u1 : 1 ≤ u) (d1 : 1 ≤ d) (n1 : 1 ≤ ns.length) (hs : s.length = fi * d) (hx : xs.length = d) :
    (stepR (.res u d ln ns) (resMem (samp s u) ((s.length * u : Nat) : Int) (ns.length - 1)) xs).1 = resMem (samp (s ++ xs) u) (((s ++ xs).length * u : Nat) : Int) (ns.length - 1) ∧
    (stepR (.res u d ln ns) (resMem (samp s u) ((s.length * u : Nat) : Int) (ns.length - 1)) xs).2 = dueR (s ++ xs) ns u d fi u := by
  have es : spreadL u xs = cut (samp (s ++ xs) u) ((s.length * u : Nat) : Int) (d * u) := by
    rw [spread_cut u1 xs s, hx]
  have em : resMem (samp s u) ((s.length * u : Nat) : Int) (ns.length - 1) = resMem (samp (s ++ xs) u) ((s.length * u : Nat) : Int) (ns.length - 1) := resMem_congr fun t ht => (samp_ahead u1 ht).symm
  rw [em, due_at hs]
  generalize hU : samp (s ++ xs) u = U at *
  generalize hT : ((s.length * u : Nat) : Int) = T at *
  have hT2 : (((s ++ xs).length * u : Nat) : Int) = T + ((d * u : Nat) : Int) := by
    rw [← hT, List.length_append, hx, Nat.add_mul, Int.natCast_add]
  rw [hT2]
  generalize hL : ns.length - 1 = L at *
  have esp : spr u (resMem U T L) xs = cut U (T - (L : Int)) (L + d * u) := by
    unfold spr
    rw [es, resMem_cut, cut_add]
    congr 2
    omega
  have len : (resMem U T L).length = L := cut_len _ _ _
  constructor
  · show (spr u (resMem U T L) xs).drop ((spr u (resMem U T L) xs).length - (resMem U T L).length) = _
    rw [esp, len, cut_len, Nat.add_sub_cancel_left, Nat.add_comm L, cut_add, List.drop_left' (cut_len _ _ _)]
    rw [resMem_cut]
    congr 1
    omega
  · show (List.range u).map (fun (j : Nat) => tapAt ns (spr u (resMem U T L) xs) ((resMem U T L).length + d * j)) = _
    rw [esp, len]
    apply List.map_congr_left
    intro j hj
    have ju := List.mem_range.mp hj
    have dj : d * j < d * u := Nat.mul_lt_mul_of_pos_left ju d1
    rw [tapAt_cut (by omega) (by omega) (by omega), Nat.add_sub_cancel_left]
def spByThree (K : PySem.W.Frag) (CU CD CT : Addr) : Sp := fun vs H Q _ => ∃ (th ca sm nu nt nd lt : Addr) (mu mt md : V) (u d fi : Nat) (ns s xs : List Int), vs = [.ref th, .ref ca, .ref sm] ∧ H th = some (.lst [.ref nu, .ref nt, .ref nd]) ∧ NdR (CU, 0) (.up u) nu H ∧ NdR (CT, 2) (.taps lt ns) nt H ∧ NdR (CD, 1) (.down d) nd H ∧
  H ca = some (.lst [mu, mt, md]) ∧ MemR K H mu [] (.up u) ∧ MemR K H mt (tapsMem (samp s u) ((s.length * u : Nat) : Int) (ns.length - 1)) (.taps lt ns) ∧ MemR K H md [] (.down d) ∧ H sm = some (.lst (xs.map V.int)) ∧ xs.length = d ∧ (∀ x ∈ xs, Num x) ∧ s.length = fi * d ∧ th ≠ ca ∧ sm ≠ ca ∧ lt ≠ ca ∧
  ∀ (l : Addr) (mu' mt' md' : V) (H' : Hp), KD [ca] H H' → H' ca = some (.lst [mu', mt', md']) → MemR K H' mu' [] (.up u) → MemR K H' mt' (tapsMem (samp (s ++ xs) u) (((s ++ xs).length * u : Nat) : Int) (ns.length - 1)) (.taps lt ns) → MemR K H' md' [] (.down d) → H' l = some (.lst ((dueR (s ++ xs) ns u d fi u).map V.int)) → Q (.ref l) H'
/-- how far the three are -/
def Stg (K : PySem.W.Frag) (u d fi : Nat) (ns st xs y2 : List Int) (lt sm : Addr) (mu mt md : V) (j : Nat) (G : Hp) (l : Addr) (ms : List V) : Prop :=
  (j = 0 ∧ l = sm ∧ ms = [mu, mt, md]) ∨ (j = 1 ∧ ∃ mu', ms = [mu', mt, md] ∧ MemR K G mu' [] (.up u) ∧ G l = some (.lst ((spreadL u xs).map V.int))) ∨
  (j = 2 ∧ ∃ mu' mt', ms = [mu', mt', md] ∧ MemR K G mu' [] (.up u) ∧ MemR K G mt' (tapsMem (samp (st ++ xs) u) (((st ++ xs).length * u : Nat) : Int) (ns.length - 1)) (.taps lt ns) ∧ G l = some (.lst (y2.map V.int))) ∨
  (j = 3 ∧ ∃ mu' mt' md', ms = [mu', mt', md'] ∧ MemR K G mu' [] (.up u) ∧ MemR K G mt' (tapsMem (samp (st ++ xs) u) (((st ++ xs).length * u : Nat) : Int) (ns.length - 1)) (.taps lt ns) ∧ MemR K G md' [] (.down d) ∧ G l = some (.lst ((dueR (st ++ xs) ns u d fi u).map V.int)))
theorem MemR.kd' {K : PySem.W.Frag} {D : List Addr} {H H1 : Hp} {v : V} {ks : List Int} {k : Rk} (h : MemR K H v ks k) (s : KD D H H1) (l : Lsts D H) : MemR K H1 v ks k := MemR.kd s l h
section
variable {P : Program} {w : World} {K : PySem.W.Frag} {mg : Str → Option Value} {base : Heap} {f f1 f2 f3 f4 f5 f6 f7 f8 f9 C CN CU CD CT CR : Addr} {fd fd1 fd2 fd3 fd4 fd5 fd6 fd7 fd8 fd9 : FuncData}
abbrev nLByThree : List Str := ["_law_three", "_law_memories", "_law_samples", "_law_found", "_law_k"]
theorem scLByThree : FnScope nLByThree ["_law_three", "_law_memories", "_law_samples"] (defScope sLByThree) := ⟨rfl, rfl, rfl, by decide +kernel, rfl, by decide +kernel, by decide +kernel⟩
theorem ok_byThree (F : FnP K "_law_by_three" sLByThree f fd) (GFi : FnOk P w K mg base CX0 5 f1 fd1 ["_law_node", "_law_memory", "_law_samples"] (spFired K CU CD CT CR)) (gFi : mg "_law_fired" = some (.ref f1)) (kFi : PySem.W.keepIn K (.ref f1) = true) (bFi : Binds K fd1 ["_law_node", "_law_memory", "_law_samples"] []) (gRange : mg "range" = none) : FnOk P w K mg base CX0 6 f fd ["_law_three", "_law_memories", "_law_samples"] (spByThree K CU CD CT) := by
  refine F.ok scLByThree (fun vs H Q E h => ?_) (fun cdv A outer s H vs Q E hr h => ?_)
  · obtain ⟨th, ca, sm, nu, nt, nd, lt, mu, mt, md, u, d, fi, ns, st, xs, rfl, _⟩ := h
    rfl
  · obtain ⟨th, ca, sm, nu, nt, ndn, lt, mu, mt, md, u, d, fi, ns, st, xs, rfl, hth, hnu, hnt, hnd, hca, hmu, hmt, hmd, hsm, hx, nx, hs, tc, sc, lc, kk⟩ := h
    have nd := scLByThree.nd
    obtain ⟨u1, u8⟩ := (show 1 ≤ u ∧ u ≤ 8 from hnu.2.1)
    obtain ⟨d1, d8⟩ := (show 1 ≤ d ∧ d ≤ 8 from hnd.2.1)
    obtain ⟨n1, n12, hns⟩ := (show NsOk ns from hnt.2.1)
    obtain ⟨c1, c2, c3, c4⟩ := chain_due (lt := lt) (ns := ns) u1 d1 n1 hs hx
    obtain ⟨c5, c6, c7⟩ := c4 _ rfl
    have du : d * u ≤ 8 * 8 := Nat.mul_le_mul d8 u8
    generalize ey2 : (runsR (.taps lt ns) (spreadL u xs) (d * u) (tapsMem (samp st u) ((st.length * u : Nat) : Int) (ns.length - 1))).2 = y2 at c5 c6 c7
    have lca : ∀ {G : Hp} {ms : List V}, G ca = some (.lst ms) → Lsts [ca] G := fun {G ms} e d hd => by
      rcases List.mem_cons.mp hd with rfl | hd
      · exact ⟨_, e⟩
      · cases hd
    have nca : ∀ {a : Addr}, a ≠ ca → a ∉ [ca] := fun {a} h z => by
      rcases List.mem_cons.mp z with z | z
      · exact h z
      · cases z
    have nu2 : ∀ {G : Hp}, KD [ca] H G → NdR (CU, 0) (.up u) nu G := fun {G} k => hnu.kd k (lca hca) (fun a h => (List.not_mem_nil h).elim)
    have nt2 : ∀ {G : Hp}, KD [ca] H G → NdR (CT, 2) (.taps lt ns) nt G := fun {G} k => hnt.kd k (lca hca) (fun a h => by
      rcases List.mem_cons.mp h with rfl | h
      · exact nca lc
      · cases h)
    have nd2 : ∀ {G : Hp}, KD [ca] H G → NdR (CD, 1) (.down d) ndn G := fun {G} k => hnd.kd k (lca hca) (fun a h => (List.not_mem_nil h).elim)
    have th2 : ∀ {G : Hp}, KD [ca] H G → G th = some (.lst [.ref nu, .ref nt, .ref ndn]) := fun {G} k => k _ _ (nca tc) hth
    refine ⟨_, PSs.nox (pss_cons (ps_set (i := 3) nd rfl (Or.inl rfl) (pv 2))
      (pss_cons (ps_for PassesOwn.never rfl (pi_range1 rfl gRange (pa_cons pe_int pa_nil)) (pg_name (i := 4) nd rfl (Or.inl rfl))
      (pss_one (ps_asg (pe_call GFi hr rfl gFi kFi bFi .nil pass0 (pa_cons (pe_ix ix_list (pv 0) (pv 4) (fun _ _ => rfl)) (pa_cons (pe_ix ix_list (pv 1) (pv 4) (fun _ _ => rfl)) (pa_cons (pv 3) pa_nil)))) (pg_tup rfl (pgs_cons (pg_sub (pv 1) (pv 4) set_list (by intro _; rfl)) (pgs_cons (pg_name (i := 3) nd rfl (Or.inl rfl)) pgs_nil))))))
      (pss_one (ps_ret (pv 3))))), ?_⟩
    refine ⟨_, rfl, 3, rfl, by decide, by decide, for_range (n := 3) (fun j σ G => ∃ (w4 : Option V) (l : Addr) (ms : List V), σ = [some (.ref th), some (.ref ca), some (.ref sm), some (.ref l), w4] ∧ KD [ca] H G ∧ G ca = some (.lst ms) ∧ l ≠ ca ∧ Stg K u d fi ns st xs y2 lt sm mu mt md j G l ms)
      ⟨_, sm, _, rfl, KD.refl, hca, sc, .inl ⟨rfl, rfl, rfl⟩⟩ ?_ ?_⟩
    · rintro j σ G hj ⟨w4, l, ms, rfl, kG, hcG, lca', st4⟩
      have key : ∃ (B : Kr) (n : Addr) (k : Rk) (v : V) (ks zs : List Int) (c : Nat), B ∈ AsR CU CD CT CR ∧ NdR B k n G ∧ MemR K G v ks k ∧ [V.ref nu, V.ref nt, V.ref ndn][j]? = some (.ref n) ∧ ms[j]? = some v ∧ ms.length = 3 ∧ G l = some (.lst (zs.map V.int)) ∧ zs.length = widR k * c ∧ c ≤ 64 ∧ numR k zs ∧
          ∀ (l' : Addr) (v' : V) (G' : Hp), KD [ca] G G' → MemR K G' v' (runsR k zs c ks).1 k → G' l' = some (.lst ((runsR k zs c ks).2.map V.int)) → Stg K u d fi ns st xs y2 lt sm mu mt md (j + 1) G' l' (ms.set j v') := by
        rcases st4 with ⟨rfl, rfl, rfl⟩ | ⟨rfl, mu', rfl, m1, hl⟩ | ⟨rfl, mu', mt', rfl, m1, m2, hl⟩ | ⟨rfl, _⟩
        · refine ⟨(CU, 0), nu, .up u, mu, [], xs, d, .head _, nu2 kG, hmu.kd' kG (lca hca), rfl, rfl, rfl, kG _ _ (nca sc) hsm, ?_, by omega, trivial, fun l' v' G' k2 m' hl' => ?_⟩
          · show xs.length = 1 * d
            omega
          · rw [c1] at m'
            rw [c2] at hl'
            exact .inr (.inl ⟨rfl, v', rfl, m', hl'⟩)
        · refine ⟨(CT, 2), nt, .taps lt ns, mt, _, spreadL u xs, d * u, .tail _ (.tail _ (.head _)), nt2 kG, hmt.kd' kG (lca hca), rfl, rfl, rfl, hl, ?_, by omega, spreadL_num nx, fun l' v' G' k2 m' hl' => ?_⟩
          · show (spreadL u xs).length = 1 * (d * u)
            rw [spreadL_len u1, hx]
            omega
          · rw [c3] at m'
            rw [ey2] at hl'
            exact .inr (.inr (.inl ⟨rfl, mu', v', rfl, m1.kd' k2 (lca hcG), m', hl'⟩))
        · refine ⟨(CD, 1), ndn, .down d, md, [], y2, u, .tail _ (.head _), nd2 kG, hmd.kd' kG (lca hca), rfl, rfl, rfl, hl, c5, by omega, trivial, fun l' v' G' k2 m' hl' => ?_⟩
          rw [c6] at m'
          rw [c7] at hl'
          exact .inr (.inr (.inr ⟨rfl, mu', mt', v', rfl, m1.kd' k2 (lca hcG), m2.kd' k2 (lca hcG), m', hl'⟩))
        · exact absurd hj (by decide)
      obtain ⟨B, n, k, v, ks, zs, c, hB, hn, hv, e1, e2, e3, hlz, e4, e5, e6, fin⟩ := key
      have a1 : atI [V.ref nu, V.ref nt, V.ref ndn] (0 + (j : Int)) = some (.ref n) := by
        rw [Int.zero_add]
        exact atI_nat (j := j) e1
      have a2 : atI ms (0 + (j : Int)) = some v := by
        rw [Int.zero_add]
        exact atI_nat (j := j) e2
      refine ⟨_, rfl, _, rfl, th, _, _, .ref n, rfl, rfl, SqL.of (th2 kG), a1, _, rfl, _, rfl, ca, _, _, v, rfl, rfl, SqL.of hcG, a2, _, rfl, ?_⟩
      refine ⟨B, n, l, k, v, ks, zs, c, rfl, hB, hn, hv, hlz, e4, e5, e6, fun t l' v' G' s' fr ht hv' hl' => ?_⟩
      have exn : ixN ms.length (0 + (j : Int)) = some j := by
        rw [e3, Int.zero_add]
        unfold ixN
        simp
        omega
      have hcG' := s' _ _ hcG
      have nl' : l' ≠ ca := (ne_of_none hcG fr).symm
      refine ⟨t, _, rfl, .inl (.inl ht), rfl, _, _, rfl, _, rfl, _, rfl, ca, _, _, j, rfl, rfl, hcG', exn, _, _, rfl, rfl, ?_⟩
      have k2 : KD [ca] G (upd G' ca (.lst (ms.set j v'))) := (KD.same s').trans (KD.upd List.mem_cons_self)
      refine ⟨_, l', _, rfl, kG.trans k2, upd_same, nl', fin l' v' _ k2 (hv'.kd' (KD.upd List.mem_cons_self) (lca hcG')) ?_⟩
      rw [upd_ne nl']
      exact hl'
    · rintro σ G ⟨w4, l, ms, rfl, kG, hcG, lca', st4⟩
      rcases st4 with ⟨h, _⟩ | ⟨h, _⟩ | ⟨h, _⟩ | ⟨_, mu', mt', md', rfl, m1, m2, m3, hl⟩
      · cases h
      · cases h
      · cases h
      · exact ⟨_, rfl, kk l mu' mt' md' G kG hcG m1 m2 m3 hl⟩
end
end Sw
namespace Sw
open PySem PySem.Spec PyProof.Rows L2
/-! ### things that live at places of their own -/
def Live (H : Hp) (L : List Addr) : Prop := L.Nodup ∧ ∀ a ∈ L, ∃ o, H a = some o
theorem Live.same {H H1 : Hp} {L : List Addr} (h : Live H L) (s : Same H H1) : Live H1 L := ⟨h.1, fun a ha => by
  obtain ⟨o, e⟩ := h.2 a ha
  exact ⟨o, s _ _ e⟩⟩
theorem Live.add {H H1 : Hp} {L : List Addr} {x : Addr} {o : HO} (h : Live H L) (s : Same H H1) (n : H x = none) (e : H1 x = some o) : Live H1 (x :: L) := by
  refine ⟨List.nodup_cons.mpr ⟨fun m => ?_, h.1⟩, fun a ha => ?_⟩
  · obtain ⟨o', e'⟩ := h.2 x m
    rw [n] at e'
    cases e'
  · rcases List.mem_cons.mp ha with rfl | ha
    · exact ⟨o, e⟩
    · exact (h.same s).2 a ha
theorem Live.upd {H : Hp} {L : List Addr} {x : Addr} {o : HO} (h : Live H L) : Live (L2.upd H x o) L := ⟨h.1, fun a ha => by
  by_cases e : a = x
  · exact ⟨o, by rw [e]; exact upd_same⟩
  · rw [upd_ne e]
    exact h.2 a ha⟩
theorem upd_free {H : Hp} {a b : Addr} {o : HO} (h : L2.upd H a o b = none) : H b = none := by
  by_cases e : b = a
  · rw [e, upd_same] at h
    cases h
  · rw [upd_ne e] at h
    exact h
theorem Live.new {H : Hp} {L : List Addr} {x : Addr} {o : HO} (h : Live H L) (n : H x = none) : Live (L2.upd H x o) (x :: L) := h.add (Same.new (Same.refl H) n) n upd_same
set_option exponentiation.threshold 1000 in
theorem tapU_log {u : Int → Int} {ns : List Int} {t : Int} (hn : NsOk ns) (hu : ∀ t, Num (u t)) : (tapU u ns t).natAbs.log2 < 1920 := by
  obtain ⟨n1, n12, nn⟩ := hn
  refine log2_of (b := 500) ?_ (by decide) (by decide +kernel)
  have big : ∀ l : List Int, (∀ x ∈ l, x.natAbs ≤ 10 ^ 112) → l.sum.natAbs ≤ l.length * 10 ^ 112 := by
    intro l
    induction l with
    | nil => intro _; simp
    | cons a r ih =>
      intro h
      have h1 := ih fun x hx => h x (List.mem_cons_of_mem _ hx)
      have h2 := h a List.mem_cons_self
      rw [List.sum_cons, List.length_cons, Nat.succ_mul]
      omega
  have b := big ((List.range ns.length).map fun (q : Nat) => ns.getD q 0 * u (t - (q : Int))) (fun x hx => by
    obtain ⟨q, hq, rfl⟩ := List.mem_map.mp hx
    have lt := List.mem_range.mp hq
    have n0 : Num (ns.getD q 0) := by
      rw [List.getD_eq_getElem?_getD, List.getElem?_eq_getElem lt]
      exact nn _ (List.getElem_mem lt)
    have a1 : (ns.getD q 0).natAbs ≤ 10 ^ 56 := by
      unfold Num at n0
      omega
    have a2 : (u (t - (q : Int))).natAbs ≤ 10 ^ 56 := by
      have := hu (t - (q : Int))
      unfold Num at this
      omega
    rw [Int.natAbs_mul]
    exact Nat.le_trans (Nat.mul_le_mul a1 a2) (by decide))
  rw [List.length_map, List.length_range] at b
  have b2 : ns.length * 10 ^ 112 ≤ 12 * 10 ^ 112 := Nat.mul_le_mul_right _ n12
  exact Nat.lt_of_le_of_lt (Nat.le_trans b b2) (by decide)
theorem dueR_log {str ns : List Int} {u d fi n : Nat} (hn : NsOk ns) (hs : ∀ x ∈ str, Num x) : ∀ y ∈ dueR str ns u d fi n, y.natAbs.log2 < 1920 := by
  intro y hy
  obtain ⟨k, _, rfl⟩ := List.mem_map.mp hy
  exact tapU_log hn fun t => samp_num hs t
/-- one of the two lanes -/
structure Lane (K : PySem.W.Frag) (G : Hp) (u d : Nat) (lr lt : Addr) (ns : List Int) (sa ca : Addr) (v : V) (str : List Int) (fi : Nat) : Prop where
  hs : G sa = some (.lst (str.map V.int))
  len : str.length = fi * d
  num : ∀ x ∈ str, Num x
  mem : MemR K G v (resMem (samp str u) ((str.length * u : Nat) : Int) (ns.length - 1)) (.res u d lr ns)
  ch : ∃ mu mt md, G ca = some (.lst [mu, mt, md]) ∧ MemR K G mu [] (.up u) ∧ MemR K G mt (tapsMem (samp str u) ((str.length * u : Nat) : Int) (ns.length - 1)) (.taps lt ns) ∧ MemR K G md [] (.down d)
theorem Lane.kd {K : PySem.W.Frag} {G G' : Hp} {u d : Nat} {lr lt : Addr} {ns : List Int} {sa ca : Addr} {v : V} {str : List Int} {fi : Nat} {D : List Addr} (h : Lane K G u d lr lt ns sa ca v str fi) (k : KD D G G') (l : Lsts D G) (n1 : sa ∉ D) (n2 : ca ∉ D) : Lane K G' u d lr lt ns sa ca v str fi := by
  obtain ⟨mu, mt, md, e, a, b, c⟩ := h.ch
  exact ⟨k _ _ n1 h.hs, h.len, h.num, h.mem.kd' k l, mu, mt, md, k _ _ n2 e, a.kd' k l, b.kd' k l, c.kd' k l⟩
def pair {α : Type} (n : Nat) (a b : α) : List α := if n = 0 then [a, b] else [b, a]
theorem pair_get {α : Type} {n : Nat} (h : n < 2) (a b : α) : (pair n a b)[n]? = some a := by
  have : n = 0 ∨ n = 1 := by omega
  rcases this with rfl | rfl <;> rfl
theorem pair_set {α : Type} {n : Nat} (h : n < 2) (a b c : α) : (pair n a b).set n c = pair n c b := by
  have : n = 0 ∨ n = 1 := by omega
  rcases this with rfl | rfl <;> rfl
theorem pair_len {α : Type} (n : Nat) (a b : α) : (pair n a b).length = 2 := by
  unfold pair
  split <;> rfl
/-- the static things -/
structure Sta (G : Hp) (u d : Nat) (ns : List Int) (CU CD CT CR : Addr) (SL CL TL ln lr lt nr nu nt nd : Addr) (s0 s1 c0 c1 : Addr) : Prop where
  hS : G SL = some (.lst [.ref s0, .ref s1])
  hC : G CL = some (.lst [.ref c0, .ref c1])
  hT : G TL = some (.lst [.ref nu, .ref nt, .ref nd])
  hl : G ln = some (.lst (ns.map V.int))
  nr : NdR (CR, 3) (.res u d lr ns) nr G
  nu : NdR (CU, 0) (.up u) nu G
  nt : NdR (CT, 2) (.taps lt ns) nt G
  nd : NdR (CD, 1) (.down d) nd G
theorem Sta.kd {G G' : Hp} {u d : Nat} {ns : List Int} {CU CD CT CR : Addr} {SL CL TL ln lr lt nr nu nt nd : Addr} {s0 s1 c0 c1 : Addr} {D : List Addr} (h : Sta G u d ns CU CD CT CR SL CL TL ln lr lt nr nu nt nd s0 s1 c0 c1) (k : KD D G G') (l : Lsts D G) (n : ∀ a ∈ [SL, CL, TL, ln, lr, lt], a ∉ D) : Sta G' u d ns CU CD CT CR SL CL TL ln lr lt nr nu nt nd s0 s1 c0 c1 := by
  refine ⟨k _ _ (n _ (by simp)) h.hS, k _ _ (n _ (by simp)) h.hC, k _ _ (n _ (by simp)) h.hT, k _ _ (n _ (by simp)) h.hl, h.nr.kd k l fun a ha => ?_, h.nu.kd k l fun a ha => (List.not_mem_nil ha).elim, h.nt.kd k l fun a ha => ?_, h.nd.kd k l fun a ha => (List.not_mem_nil ha).elim⟩
  · have ha' : a ∈ [lr] := ha
    rw [List.mem_singleton.mp ha']
    exact n _ (by simp)
  · have ha' : a ∈ [lt] := ha
    rw [List.mem_singleton.mp ha']
    exact n _ (by simp)
/-- fresh memories of the three, as far as they are -/
def Frs (K : PySem.W.Frag) (u d : Nat) (lt : Addr) (ns : List Int) (G : Hp) (j : Nat) (ms : List V) : Prop :=
  (j = 0 ∧ ms = []) ∨ (j = 1 ∧ ∃ a, ms = [a] ∧ MemR K G a [] (.up u)) ∨ (j = 2 ∧ ∃ a b, ms = [a, b] ∧ MemR K G a [] (.up u) ∧ MemR K G b (freshR (.taps lt ns)) (.taps lt ns)) ∨
  (j = 3 ∧ ∃ a b c, ms = [a, b, c] ∧ MemR K G a [] (.up u) ∧ MemR K G b (freshR (.taps lt ns)) (.taps lt ns) ∧ MemR K G c [] (.down d))
theorem Frs.len {K : PySem.W.Frag} {u d : Nat} {lt : Addr} {ns : List Int} {G : Hp} {j : Nat} {ms : List V} (h : Frs K u d lt ns G j ms) : ms.length ≤ 3 := by
  rcases h with ⟨_, rfl⟩ | ⟨_, a, rfl, _⟩ | ⟨_, a, b, rfl, _⟩ | ⟨_, a, b, c, rfl, _⟩ <;> simp
theorem frs_step {K : PySem.W.Frag} {u d : Nat} {lt nu nt ndn CU CD CT CR : Addr} {ns : List Int} {G : Hp} (hu : NdR (CU, 0) (.up u) nu G) (ht : NdR (CT, 2) (.taps lt ns) nt G) (hd : NdR (CD, 1) (.down d) ndn G) {j : Nat} {x : V} (ex : [V.ref nu, V.ref nt, V.ref ndn][j]? = some x) :
    ∃ (A : Kr) (n : Addr) (k : Rk), x = .ref n ∧ A ∈ AsR CU CD CT CR ∧ NdR A k n G ∧ ∀ (H' H'' : Hp) (ms : List V) (v : V), Frs K u d lt ns H' j ms → (∀ m ks r, MemR K H' m ks r → MemR K H'' m ks r) → MemR K H'' v (freshR k) k → Frs K u d lt ns H'' (j + 1) (ms ++ [v]) := by
  match j, ex with
  | 0, ex =>
    cases ex
    refine ⟨(CU, 0), nu, .up u, rfl, .head _, hu, fun H' H'' ms v h k m => ?_⟩
    rcases h with ⟨_, rfl⟩ | ⟨z, _⟩ | ⟨z, _⟩ | ⟨z, _⟩
    · exact .inr (.inl ⟨rfl, v, rfl, m⟩)
    all_goals cases z
  | 1, ex =>
    cases ex
    refine ⟨(CT, 2), nt, .taps lt ns, rfl, .tail _ (.tail _ (.head _)), ht, fun H' H'' ms v h k m => ?_⟩
    rcases h with ⟨z, _⟩ | ⟨_, a, rfl, ha⟩ | ⟨z, _⟩ | ⟨z, _⟩
    · cases z
    · exact .inr (.inr (.inl ⟨rfl, a, v, rfl, k _ _ _ ha, m⟩))
    all_goals cases z
  | 2, ex =>
    cases ex
    refine ⟨(CD, 1), ndn, .down d, rfl, .tail _ (.head _), hd, fun H' H'' ms v h k m => ?_⟩
    rcases h with ⟨z, _⟩ | ⟨z, _⟩ | ⟨_, a, b, rfl, ha, hb⟩ | ⟨z, _⟩
    · cases z
    · cases z
    · exact .inr (.inr (.inr ⟨rfl, a, b, v, rfl, k _ _ _ ha, k _ _ _ hb, m⟩))
    · cases z
  | j + 3, ex => cases ex
theorem lane_fresh {K : PySem.W.Frag} {G : Hp} {u d : Nat} {lr lt : Addr} {ns : List Int} {sa ca : Addr} {v : V} {ms : List V} (hs : G sa = some (.lst [])) (hc : G ca = some (.lst ms)) (hf : Frs K u d lt ns G 3 ms) (hv : MemR K G v (freshR (.res u d lr ns)) (.res u d lr ns)) : Lane K G u d lr lt ns sa ca v [] 0 := by
  have z : ∀ t : Int, t < 0 → samp [] u t = 0 := fun t h => samp_neg h
  have e0 : ((([] : List Int).length * u : Nat) : Int) = 0 := by simp
  refine ⟨hs, by simp, fun _ h => (List.not_mem_nil h).elim, ?_, ?_⟩
  · rw [e0, resMem_zero _ z]
    exact hv
  · rcases hf with ⟨z, _⟩ | ⟨z, _⟩ | ⟨z, _⟩ | ⟨_, a, b, c, rfl, ha, hb, hcc⟩
    · cases z
    · cases z
    · cases z
    · refine ⟨a, b, c, hc, ha, ?_, hcc⟩
      rw [e0, tapsMem_zero _ z]
      exact hb
theorem dis {α : Type} {L : List α} (h : L.Nodup) {i j : Nat} {a b : α} (ea : L[i]? = some a) (eb : L[j]? = some b) (ij : i ≠ j) : a ≠ b := fun z => by
  subst z
  obtain ⟨hi, e1⟩ := List.getElem?_eq_some_iff.mp ea
  obtain ⟨hj, e2⟩ := List.getElem?_eq_some_iff.mp eb
  rcases Nat.lt_or_gt_of_ne ij with l | l
  · exact List.pairwise_iff_getElem.mp h i j hi hj l (e1.trans e2.symm)
  · exact List.pairwise_iff_getElem.mp h j i hj hi l (e2.trans e1.symm)
def LvP (K : PySem.W.Frag) (H : Hp) (u d : Nat) (ns : List Int) (CU CD CT CR p SL CL TL ln lr lt nr nu nt ndn s0 s1 c0 c1 ML FL : Addr) (j : Nat) (G : Hp) : Prop :=
  ∃ (v0 v1 : V) (st0 st1 : List Int) (f0 f1 : Nat), Kept p H G ∧ PotAt G p ∧ Sta G u d ns CU CD CT CR SL CL TL ln lr lt nr nu nt ndn s0 s1 c0 c1 ∧ G ML = some (.lst [v0, v1]) ∧ G FL = some (.lst [.int (f0 : Int), .int (f1 : Int)]) ∧ Lane K G u d lr lt ns s0 c0 v0 st0 f0 ∧ Lane K G u d lr lt ns s1 c1 v1 st1 f1 ∧ f0 ≤ j ∧ f1 ≤ j
/-- the lane at hand, and the other one -/
theorem LvP.turn {K : PySem.W.Frag} {H : Hp} {u d : Nat} {ns : List Int} {CU CD CT CR p SL CL TL ln lr lt nr nu nt ndn s0 s1 c0 c1 ML FL : Addr} {j : Nat} {G : Hp} (h : LvP K H u d ns CU CD CT CR p SL CL TL ln lr lt nr nu nt ndn s0 s1 c0 c1 ML FL j G) (nod : [FL, CL, c1, c0, ML, SL, s1, s0, TL, lt, lr, ln, p].Nodup) (fr : H s0 = none ∧ H s1 = none ∧ H ML = none ∧ H c0 = none ∧ H c1 = none ∧ H FL = none) {n : Nat} (hn : n < 2) :
    ∃ (sa ca sb cb : Addr) (v vb : V) (st stb : List Int) (fi fib : Nat), [V.ref s0, V.ref s1] = pair n (.ref sa) (.ref sb) ∧ [V.ref c0, V.ref c1] = pair n (.ref ca) (.ref cb) ∧ G ML = some (.lst (pair n v vb)) ∧ G FL = some (.lst (pair n (.int (fi : Int)) (.int (fib : Int)))) ∧
      Lane K G u d lr lt ns sa ca v st fi ∧ Lane K G u d lr lt ns sb cb vb stb fib ∧ fi ≤ j ∧ [p, ML, FL, sa, ca, sb, cb, SL, CL, TL, ln, lr, lt].Nodup ∧ H sa = none ∧ H ca = none ∧ H ML = none ∧ H FL = none ∧ Kept p H G ∧ PotAt G p ∧ Sta G u d ns CU CD CT CR SL CL TL ln lr lt nr nu nt ndn s0 s1 c0 c1 ∧
      ∀ (G' : Hp) (v' : V) (st' : List Int), Kept p H G' → PotAt G' p → Sta G' u d ns CU CD CT CR SL CL TL ln lr lt nr nu nt ndn s0 s1 c0 c1 → G' ML = some (.lst (pair n v' vb)) → G' FL = some (.lst (pair n (.int ((fi + 1 : Nat) : Int)) (.int (fib : Int)))) → Lane K G' u d lr lt ns sa ca v' st' (fi + 1) → Lane K G' u d lr lt ns sb cb vb stb fib → LvP K H u d ns CU CD CT CR p SL CL TL ln lr lt nr nu nt ndn s0 s1 c0 c1 ML FL (j + 1) G' := by
  obtain ⟨v0, v1, st0, st1, f0, f1, k, hp, sta, hM, hF, l0, l1, j0, j1⟩ := h
  obtain ⟨r0, r1, rM, q0, q1, rF⟩ := fr
  have which : n = 0 ∨ n = 1 := by omega
  rcases which with rfl | rfl
  · refine ⟨s0, c0, s1, c1, v0, v1, st0, st1, f0, f1, rfl, rfl, hM, hF, l0, l1, j0, ?_, r0, q0, rM, rF, k, hp, sta, fun G' v' st' a1 a2 a3 a4 a5 a6 a7 => ⟨v', v1, st', st1, f0 + 1, f1, a1, a2, a3, a4, a5, a6, a7, by omega, by omega⟩⟩
    refine (List.Perm.nodup_iff (List.perm_iff_count.mpr fun a => ?_)).mp nod
    simp only [List.count_cons, List.count_nil]
    omega
  · refine ⟨s1, c1, s0, c0, v1, v0, st1, st0, f1, f0, rfl, rfl, hM, hF, l1, l0, j1, ?_, r1, q1, rM, rF, k, hp, sta, fun G' v' st' a1 a2 a3 a4 a5 a6 a7 => ⟨v0, v', st0, st', f0, f1 + 1, a1, a2, a3, a4, a5, a7, a6, by omega, by omega⟩⟩
    refine (List.Perm.nodup_iff (List.perm_iff_count.mpr fun a => ?_)).mp nod
    simp only [List.count_cons, List.count_nil]
    omega
theorem nin {L : List Addr} {a : Addr} (h : ∀ b ∈ L, a ≠ b) : a ∉ L := fun z => h a z rfl
theorem ixN_pair {n : Nat} (h : n < 2) : ixN 2 (n : Int) = some n := by
  unfold ixN
  simp
  omega
def spRight : Sp := fun vs H Q _ => ∃ (p ln : Addr) (u d : Nat) (ns : List Int), vs = [.ref p, .int (u : Int), .int (d : Int), .ref ln] ∧ PotAt H p ∧ H ln = some (.lst (ns.map V.int)) ∧ ln ≠ p ∧ (1 ≤ u ∧ u ≤ 8) ∧ (1 ≤ d ∧ d ≤ 8) ∧ NsOk ns ∧ ∀ H', Kept p H H' → PotAt H' p → Q (.bl true) H'
def widD (m : Nat) : PyData := .tuple [.int (m : Int)]
theorem widD_ok : ∀ m : Nat, m ≤ 8 → SeqAt.shaped (widD m) = true ∧ PyData.eqv (widD m) (widD m) = true := by decide +kernel
section
variable {P : Program} {w : World} {K : PySem.W.Frag} {mg : Str → Option Value} {base : Heap} {f f1 f2 f3 f4 f5 f6 f7 f8 f9 C CN CU CD CT CR : Addr} {fd fd1 fd2 fd3 fd4 fd5 fd6 fd7 fd8 fd9 : FuncData}
abbrev nLRight : List Str := ["_law_pot_here", "_law_up", "_law_down", "_law_numbers_here", "_law_handed", "_law_node", "_law_three", "_law_streams", "_law_memories", "_law_chains", "_law_fired_here", "_law_k", "_law_at", "_law_samples", "_law_given_here", "_law_due", "_law_one", "_law_place"]
theorem scLRight : FnScope nLRight ["_law_pot_here", "_law_up", "_law_down", "_law_numbers_here"] (defScope sLRight) := ⟨rfl, rfl, rfl, by decide +kernel, rfl, by decide +kernel, by decide +kernel⟩
theorem ok_right {dR dU dT dD : List Value} (F : FnP K "_law_right" sLRight f fd)
    (GDr : FnOk P w K mg base CX0 1 f1 fd1 ["_law_pot_here", "_law_many"] spDraw) (gDr : mg "_law_draw" = some (.ref f1)) (kDr : PySem.W.keepIn K (.ref f1) = true) (bDr : Binds K fd1 ["_law_pot_here", "_law_many"] [])
    (GNu : FnOk P w K mg base CX0 2 f2 fd2 ["_law_pot_here"] spNumber) (gNu : mg "_law_number" = some (.ref f2)) (kNu : PySem.W.keepIn K (.ref f2) = true) (bNu : Binds K fd2 ["_law_pot_here"] [])
    (GGi : FnOk P w K mg base CX0 2 f3 fd3 ["_law_stream", "_law_up", "_law_down", "_law_numbers_here", "_law_firing"] spGiven) (gGi : mg "_law_given" = some (.ref f3)) (kGi : PySem.W.keepIn K (.ref f3) = true) (bGi : Binds K fd3 ["_law_stream", "_law_up", "_law_down", "_law_numbers_here", "_law_firing"] [])
    (GBy : FnOk P w K mg base CX0 6 f4 fd4 ["_law_three", "_law_memories", "_law_samples"] (spByThree K CU CD CT)) (gBy : mg "_law_by_three" = some (.ref f4)) (kBy : PySem.W.keepIn K (.ref f4) = true) (bBy : Binds K fd4 ["_law_three", "_law_memories", "_law_samples"] [])
    (MR : Mk K CR f5) (GR : FnOk P w K mg base CX0 4 f5 fd5 ["self", "up", "down", "numbers", "late", "begin"] (spResInit CR)) (gR : mg "Resample" = some (.ref CR)) (bR : Binds K fd5 ["self", "up", "down", "numbers", "late", "begin"] dR) (vR : Vals [.int 0, .int 0] dR)
    (MU : Mk K CU f6) (GU : FnOk P w K mg base CX0 4 f6 fd6 ["self", "many", "hold", "late", "begin"] (spUpInit CU)) (gU : mg "Up" = some (.ref CU)) (bU : Binds K fd6 ["self", "many", "hold", "late", "begin"] dU) (vU : Vals [.bl false, .int 0, .int 0] dU)
    (MT : Mk K CT f7) (GT : FnOk P w K mg base CX0 4 f7 fd7 ["self", "numbers", "late", "begin"] (spTapsInit CT)) (gT : mg "Taps" = some (.ref CT)) (bT : Binds K fd7 ["self", "numbers", "late", "begin"] dT) (vT : Vals [.int 0, .int 0] dT)
    (MD : Mk K CD f8) (GD : FnOk P w K mg base CX0 4 f8 fd8 ["self", "many", "late", "begin"] (spDownInit CD)) (gD : mg "Down" = some (.ref CD)) (bD : Binds K fd8 ["self", "many", "late", "begin"] dD) (vD : Vals [.int 0, .int 0] dD)
    (cR : Cls K CR) (mG : Meth K CR "gives" f9) (GG : FnOk P w K mg base CX0 1 f9 fd9 ["self"] (spRGives (CR, 3))) (bG : Binds K fd9 ["self"] [])
    (hT : ∀ A, A ∈ AsR CU CD CT CR → MethC P w K mg base 1 "takes" ["self"] (spRTakes K A) A.1) (hFr : ∀ A, A ∈ AsR CU CD CT CR → MethC P w K mg base 1 "fresh" ["self"] (spRFresh K A) A.1) (hI : ∀ A, A ∈ AsR CU CD CT CR → MethC P w K mg base 4 "fire" ["self", "memory", "rows"] (spRFire K A) A.1)
    (gRange : mg "range" = none) (gList : mg "list" = none) (gRepr : mg "repr" = none) : FnG P w K mg base CX0 7 f fd ["_law_pot_here", "_law_up", "_law_down", "_law_numbers_here"] spRight := by
  refine F.okG scLRight (fun vs H Q E h => ?_) (fun cdv A outer s H vs Q E hr guard h => ?_)
  · obtain ⟨p, ln, u, d, ns, rfl, _⟩ := h
    rfl
  · obtain ⟨p, ln, u, d, ns, rfl, hp, hln, nlp, ⟨u1, u8⟩, ⟨d1, d8⟩, nok, kk⟩ := h
    have hr6 : Room 6 _ := hr
    have hr5 : Room 5 _ := hr.mono (by decide)
    have hr4 : Room 4 _ := hr.mono (by decide)
    have hr2 : Room 2 _ := hr.mono (by decide)
    have hr1 : Room 1 _ := hr.mono (by decide)
    have un := hr.un
    have hu := hr.units
    have nd := scLRight.nd
    have R : ∀ {X : Cx}, X.A = A.deeper (envOfC "_law_right" (defScope sLRight) s.heap.objs.size f cdv) → CallR X (.builtin "repr") (rReprD X.K) := fun {X} e => call_reprD (by rw [e]; exact guard) (by rw [e]; omega)
    refine ⟨_, PSs.nox (pss_cons (ps_set (i := 4) nd rfl (Or.inl rfl) (pe_callTy call_list_of (by rfl) gList PyProof.Rows.boot_list (pa_cons (pv 3) pa_nil)))
      (pss_cons (ps_set (i := 5) nd rfl (Or.inl rfl) (pe_make MR GR hr5 rfl gR bR vR pass0 (pa_cons (pv 1) (pa_cons (pv 2) (pa_cons (pv 4) pa_nil)))))
      (pss_cons (ps_expr (pe_bm0 PySem.F.plainAttrs_list PySem.F.slot_list_clear PySem.F.type_list_clear mt_clear (pv 4)))
      (pss_cons (ps_set (i := 6) nd rfl (Or.inl rfl) (pe_lst (pa_cons (pe_make MU GU hr5 rfl gU bU vU pass0 (pa_cons (pv 1) pa_nil)) (pa_cons (pe_make MT GT hr5 rfl gT bT vT pass0 (pa_cons (pe_callTy call_list_of (by rfl) gList PyProof.Rows.boot_list (pa_cons (pv 3) pa_nil)) pa_nil)) (pa_cons (pe_make MD GD hr5 rfl gD bD vD pass0 (pa_cons (pv 2) pa_nil)) pa_nil)))))
      (pss_cons (ps_if (PW.pt (pw_or (pt_cmpR (op_neD hu) (pe_methOf0 (As := AsR CU CD CT CR) (cl := fun A => A.1) (sp := spRTakes K) (pv 5) hT hr1) (pe_tup (pa_cons (pv 2) pa_nil)) (nomark _)) (pw_or1 (pt_cmpR op_ne (pe_meth0 (pv 5) cR mG GG hr1 bG .nil pass0) (pv 1) (nomark _))))) (pss_one (ps_ret pe_bl)) pss_nil)
      (pss_cons (ps_set (i := 7) nd rfl (Or.inl rfl) (pe_lst (pa_cons (pe_lst pa_nil) (pa_cons (pe_lst pa_nil) pa_nil))))
      (pss_cons (ps_set (i := 8) nd rfl (Or.inl rfl) (pe_lst (pa_cons (pe_methOf0 (As := AsR CU CD CT CR) (cl := fun A => A.1) (sp := spRFresh K) (pv 5) hFr hr1) (pa_cons (pe_methOf0 (As := AsR CU CD CT CR) (cl := fun A => A.1) (sp := spRFresh K) (pv 5) hFr hr1) pa_nil))))
      (pss_cons (ps_set (i := 9) nd rfl (Or.inl rfl) (pe_lst (pa_cons (pe_lc (own := [("_law_one", 16)]) (g := (gName 16)) (tt := tYes) rfl nd (pi_list (pv 6)) (blkOk_by (N := nLRight) (sc := defScope sLRight) (by decide +kernel))
        (fun _ _ _ _ _ => (pg_name (i := 16) nd rfl (Or.inl rfl))) (fun _ _ _ _ _ => pts_nil) (fun _ _ _ _ _ => (pe_methOf0 (As := AsR CU CD CT CR) (cl := fun A => A.1) (sp := spRFresh K) (pv 16) hFr hr1))) (pa_cons (pe_lc (own := [("_law_one", 16)]) (g := (gName 16)) (tt := tYes) rfl nd (pi_list (pv 6)) (blkOk_by (N := nLRight) (sc := defScope sLRight) (by decide +kernel))
        (fun _ _ _ _ _ => (pg_name (i := 16) nd rfl (Or.inl rfl))) (fun _ _ _ _ _ => pts_nil) (fun _ _ _ _ _ => (pe_methOf0 (As := AsR CU CD CT CR) (cl := fun A => A.1) (sp := spRFresh K) (pv 16) hFr hr1))) pa_nil))))
      (pss_cons (ps_set (i := 10) nd rfl (Or.inl rfl) (pe_lst (pa_cons pe_int (pa_cons pe_int pa_nil))))
      (pss_cons (ps_for PassesOwn.never rfl (pi_range1 rfl gRange (pa_cons (pe_op op_add pe_int (pe_call GDr hr1 rfl gDr kDr bDr .nil pass0 (pa_cons (pv 0) (pa_cons pe_int pa_nil)))) pa_nil)) (pg_name (i := 11) nd rfl (Or.inl rfl))
      (pss_cons (ps_set (i := 12) nd rfl (Or.inl rfl) (pe_call GDr hr1 rfl gDr kDr bDr .nil pass0 (pa_cons (pv 0) (pa_cons pe_int pa_nil))))
      (pss_cons (ps_setLc (i := 13) (own := [("_law_place", 17)]) (g := (gName 17)) (tt := tYes) rfl nd rfl rfl (sw_true rfl rfl rfl rfl) (pi_range1 rfl gRange (pa_cons (pv 2) pa_nil)) (blkOk_by (N := nLRight) (sc := defScope sLRight) (by decide +kernel))
        (fun _ _ _ _ _ => (pg_name (i := 17) nd rfl (Or.inl rfl))) (fun _ _ _ _ _ => pts_nil) (fun _ _ _ _ _ => (pe_call GNu hr2 rfl gNu kNu bNu .nil pass0 (pa_cons (pv 0) pa_nil))))
      (pss_cons (ps_expr (pe_bm PySem.F.plainAttrs_list PySem.F.slot_list_extend PySem.F.type_list_extend mt_extend (pe_ix ix_list (pv 7) (pv 12) (fun _ _ => rfl)) (pa_cons (pv 13) pa_nil)))
      (pss_cons (ps_asg (pe_methOf (As := AsR CU CD CT CR) (cl := fun A => A.1) (sp := spRFire K) (pv 5) hI hr4 (pa_cons (pe_ix ix_list (pv 8) (pv 12) (fun _ _ => rfl)) (pa_cons (pe_lst (pa_cons (pe_callTy call_list_of (by rfl) gList PyProof.Rows.boot_list (pa_cons (pv 13) pa_nil)) pa_nil)) pa_nil))) (pg_tup rfl (pgs_cons (pg_sub (pv 8) (pv 12) set_list (by intro _; rfl)) (pgs_cons (pg_name (i := 14) nd rfl (Or.inl rfl)) pgs_nil))))
      (pss_cons (ps_set (i := 15) nd rfl (Or.inl rfl) (pe_call GGi hr2 rfl gGi kGi bGi .nil pass0 (pa_cons (pe_ix ix_list (pv 7) (pv 12) (fun _ _ => rfl)) (pa_cons (pv 1) (pa_cons (pv 2) (pa_cons (pv 3) (pa_cons (pe_ix ix_list (pv 10) (pv 12) (fun _ _ => rfl)) pa_nil)))))))
      (pss_cons (ps_if (PW.pt (pw_or (pt_cmpR op_ne (pe_callB (R rfl) (by rfl) gRepr boot_repr (pa_cons (pv 14) pa_nil)) (pe_callB (R rfl) (by rfl) gRepr boot_repr (pa_cons (pv 15) pa_nil)) (nomark _)) (pw_or1 (pt_cmpR (op_neD hu) (pe_call GBy hr6 rfl gBy kBy bBy .nil pass0 (pa_cons (pv 6) (pa_cons (pe_ix ix_list (pv 9) (pv 12) (fun _ _ => rfl)) (pa_cons (pv 13) pa_nil)))) (pv 15) (nomark _))))) (pss_one (ps_ret pe_bl)) pss_nil)
      (pss_one (ps_asg (pe_op op_add (pe_ix ix_list (pv 10) (pv 12) (fun _ _ => rfl)) pe_int) (pg_sub (pv 10) (pv 12) set_list (by intro _; rfl)))))))))))
      (pss_one (ps_ret pe_bl)))))))))))), ?_⟩
    have L0 : Live H [ln, p] := ⟨by simpa using nlp, fun a ha => by
      rcases List.mem_cons.mp ha with rfl | ha
      · exact ⟨_, hln⟩
      · rw [List.mem_singleton.mp ha]
        obtain ⟨_, _, _, _, _, e⟩ := hp
        exact ⟨_, e⟩⟩
    -- the resample
    refine ⟨_, rfl, ln, _, rfl, .inl (SqL.of hln), fun ha hha => ?_⟩
    have s1 := Same.new (o := .lst (ns.map V.int)) (Same.refl H) hha
    have e1 : (upd H ha (.lst (ns.map V.int))) ha = some (.lst (ns.map V.int)) := upd_same
    generalize upd H ha (.lst (ns.map V.int)) = H1 at s1 e1
    refine ⟨_, rfl, _, rfl, _, rfl, fun nr dx nx ndx ne => ?_⟩
    have sx : Same H1 (upd (upd H1 dx (.own nr)) nr (.ins CR dx [])) := Same.new (Same.new (Same.refl H1) ndx) (by rw [upd_ne ne.symm]; exact nx)
    refine ⟨nr, dx, ha, u, d, ns, rfl, upd_same, sx _ _ e1, ⟨u1, u8⟩, ⟨d1, d8⟩, nok, fun fs lr H2 c k7 hx flr hlr => ⟨rfl, ?_⟩⟩
    have s2 := made_same nx ndx ne k7
    have nlr : H1 lr = none := upd_free (upd_free flr)
    have lrha : lr ≠ ha := (ne_of_none e1 nlr).symm
    have nd2 : NdR (CR, 3) (.res u d lr ns) nr H2 := ⟨rfl, ⟨⟨u1, u8⟩, ⟨d1, d8⟩, nok⟩, hlr, fs, ⟨dx, hx⟩, c⟩
    have L2' : Live H2 [lr, ln, p] := (L0.same s1).add s2 nlr hlr
    -- what was handed in is emptied
    refine ⟨_, rfl, .inl ⟨rfl, _, SqL.of (s2 _ _ e1)⟩, ha, _, rfl, rfl, s2 _ _ e1, ?_⟩
    have s3 : Same H (upd H2 ha (.lst [])) := Same.past (s1.trans s2) hha
    have nd3 : NdR (CR, 3) (.res u d lr ns) nr (upd H2 ha (.lst [])) := nd2.kd (D := [ha]) (KD.upd List.mem_cons_self) (fun b hb => by
      rw [List.mem_singleton.mp hb]
      exact ⟨_, s2 _ _ e1⟩) (fun a ha' z => lrha ((List.mem_singleton.mp ha').symm.trans (List.mem_singleton.mp z)))
    have L3 : Live (upd H2 ha (.lst [])) [lr, ln, p] := L2'.upd
    generalize upd H2 ha (.lst []) = H3 at s3 nd3 L3
    -- the three
    refine ⟨_, rfl, fun nu dx4 nx4 ndx4 ne4 => ⟨nu, dx4, u, rfl, upd_same, u1, u8, fun fs4 H4 c4 k4 hx4 => ⟨rfl, ?_⟩⟩⟩
    have s4 := made_same nx4 ndx4 ne4 k4
    have nu4 : NdR (CU, 0) (.up u) nu H4 := ⟨rfl, ⟨u1, u8⟩, trivial, fs4, ⟨dx4, hx4⟩, c4⟩
    refine ⟨_, rfl, ln, _, rfl, .inl (SqL.of ((s3.trans s4) _ _ hln)), fun l2 hl2 => ?_⟩
    have s5 := Same.new (o := .lst (ns.map V.int)) (Same.refl H4) hl2
    have e5 : (upd H4 l2 (.lst (ns.map V.int))) l2 = some (.lst (ns.map V.int)) := upd_same
    generalize upd H4 l2 (.lst (ns.map V.int)) = H5 at s5 e5
    intro nt dx6 nx6 ndx6 ne6
    have sx6 : Same H5 (upd (upd H5 dx6 (.own nt)) nt (.ins CT dx6 [])) := Same.new (Same.new (Same.refl H5) ndx6) (by rw [upd_ne ne6.symm]; exact nx6)
    refine ⟨nt, dx6, l2, ns, rfl, upd_same, sx6 _ _ e5, nok, fun fs6 lt H6 c6 k6 hx6 flt hlt => ⟨rfl, ?_⟩⟩
    have s6 := made_same nx6 ndx6 ne6 k6
    have nt6 : NdR (CT, 2) (.taps lt ns) nt H6 := ⟨rfl, nok, hlt, fs6, ⟨dx6, hx6⟩, c6⟩
    have L6 : Live H6 [lt, lr, ln, p] := (L3.same (s4.trans s5)).add s6 (upd_free (upd_free flt)) hlt
    refine ⟨_, rfl, fun ndn dx7 nx7 ndx7 ne7 => ⟨ndn, dx7, d, rfl, upd_same, d1, d8, fun fs7 H7 c7 k7' hx7 => ⟨rfl, (by show 3 ≤ sizeLine; decide), fun TL hTL => ?_⟩⟩⟩
    have s7 := made_same nx7 ndx7 ne7 k7'
    have nd7 : NdR (CD, 1) (.down d) ndn H7 := ⟨rfl, ⟨d1, d8⟩, trivial, fs7, ⟨dx7, hx7⟩, c7⟩
    have s8 := Same.new (o := .lst [V.ref nu, V.ref nt, V.ref ndn]) (Same.refl H7) hTL
    have e8 : (upd H7 TL (.lst [V.ref nu, V.ref nt, V.ref ndn])) TL = some (.lst [V.ref nu, V.ref nt, V.ref ndn]) := upd_same
    have L8 : Live (upd H7 TL (.lst [V.ref nu, V.ref nt, V.ref ndn])) [TL, lt, lr, ln, p] := (L6.same s7).new hTL
    generalize upd H7 TL (.lst [V.ref nu, V.ref nt, V.ref ndn]) = H8 at s8 e8 L8
    have nr8 := nd3.keep (s4.trans (s5.trans (s6.trans (s7.trans s8))))
    have nu8 := nu4.keep (s5.trans (s6.trans (s7.trans s8)))
    have nt8 := nt6.keep (s7.trans s8)
    have nd8 := nd7.keep s8
    have t8 : Same H H8 := s3.trans (s4.trans (s5.trans (s6.trans (s7.trans s8))))
    clear nd2 nd3 nu4 nt6 nd7 L2' L3 L6
    -- takes and gives
    obtain ⟨dxr, fsr, hir, nor⟩ := nr8.ins
    refine ⟨_, rfl, (CR, 3), nr, dxr, fsr, .tail _ (.tail _ (.tail _ (.head _))), rfl, hir, nor "takes" (by decide +kernel), nr, _, rfl, nr8, fun t9 H9 s9 ht9 => ?_⟩
    refine ⟨_, rfl, (by show 1 ≤ sizeLine; decide), fun t10 ht10 => ?_⟩
    have s10 := Same.new (o := .tup [V.int (d : Int)]) (Same.refl H9) ht10
    obtain ⟨o1, o2⟩ := widD_ok d d8
    refine ⟨widD d, widD d, .tup (Same.tup s10 ht9) (.cons (.int _) .nil), .tup (.inl (.inl upd_same)) (.cons (.int _) .nil), o1, o1, ?_⟩
    rw [o2]
    refine ⟨_, rfl, iteF ?_⟩
    have s810 := s9.trans s10
    generalize upd H9 t10 (.tup [V.int (d : Int)]) = H10 at s10 s810
    refine ⟨_, rfl, nr, dxr, fsr, rfl, s810 _ _ hir, nor "gives" (by decide +kernel), nr, _, rfl, nr8.keep s810, _, rfl, rfl, _, rfl, iteNS rfl ?_⟩
    -- the streams
    refine ⟨(by show 0 ≤ sizeLine; decide), fun s0 hs0 => ⟨(by show 0 ≤ sizeLine; decide), fun s1' hs1 => ⟨(by show 2 ≤ sizeLine; decide), fun SL hSL => ?_⟩⟩⟩
    have L10 := L8.same s810
    have L11 := L10.new (o := .lst []) hs0
    have L12 := L11.new (o := .lst []) hs1
    have L13 := L12.new (o := .lst [V.ref s0, V.ref s1']) hSL
    have g0 : (upd H10 s0 (.lst [])) s0 = some (.lst []) := upd_same
    have g1 : (upd (upd H10 s0 (.lst [])) s1' (.lst [])) s1' = some (.lst []) := upd_same
    have u11 := Same.new (o := .lst []) (Same.refl H10) hs0
    have u12 := Same.new (o := .lst []) (Same.refl _) hs1
    have u13 := Same.new (o := .lst [V.ref s0, V.ref s1']) (Same.refl _) hSL
    have e13 : (upd (upd (upd H10 s0 (.lst [])) s1' (.lst [])) SL (.lst [V.ref s0, V.ref s1'])) SL = some (.lst [V.ref s0, V.ref s1']) := upd_same
    have g0' := u13 _ _ (u12 _ _ g0)
    have g1' := u13 _ _ g1
    have s813 := s810.trans (u11.trans (u12.trans u13))
    generalize upd (upd (upd H10 s0 (.lst [])) s1' (.lst [])) SL (.lst [V.ref s0, V.ref s1']) = H13 at L13 e13 g0' g1' s813
    clear L10 L11 L12 g0 g1 u11 u12 u13
    -- two memories
    have nr13 := nr8.keep s813
    refine ⟨_, rfl, (CR, 3), nr, dxr, fsr, .tail _ (.tail _ (.tail _ (.head _))), rfl, s813 _ _ hir, nor "fresh" (by decide +kernel), nr, _, rfl, nr13, fun v0 H14 s14 hv0 => ?_⟩
    refine ⟨_, rfl, (CR, 3), nr, dxr, fsr, .tail _ (.tail _ (.tail _ (.head _))), rfl, (s813.trans s14) _ _ hir, nor "fresh" (by decide +kernel), nr, _, rfl, nr13.keep s14, fun v1 H15 s15 hv1 => ⟨(by show 2 ≤ sizeLine; decide), fun ML hML => ?_⟩⟩
    have u16 := Same.new (o := .lst [v0, v1]) (Same.refl H15) hML
    have e16 : (upd H15 ML (.lst [v0, v1])) ML = some (.lst [v0, v1]) := upd_same
    have L16 := ((L13.same (s14.trans s15)).new (o := .lst [v0, v1]) hML)
    have hv0' := (hv0.keep s15).keep u16
    have hv1' := hv1.keep u16
    have s1316 := s14.trans (s15.trans u16)
    generalize upd H15 ML (.lst [v0, v1]) = H16 at u16 e16 L16 hv0' hv1' s1316
    have e16T := (s813.trans s1316) _ _ e8
    have nu16 := nu8.keep (s813.trans s1316)
    have nt16 := nt8.keep (s813.trans s1316)
    have nd16 := nd8.keep (s813.trans s1316)
    refine ⟨_, rfl, TL, rfl, ⟨_, SqL.of e16T⟩, fun c0 hc0 => ?_⟩
    refine lc_list (xs := [V.ref nu, V.ref nt, V.ref ndn]) (fun j H' => ∃ ms, H' c0 = some (.lst ms) ∧ Same H16 H' ∧ Frs K u d lt ns H' j ms) ⟨[], upd_same, Same.past (Same.refl _) hc0, .inl ⟨rfl, rfl⟩⟩ (fun j H' _ e => by obtain ⟨_, _, sm, _⟩ := e; exact SqL.of (sm _ _ e16T)) (fun j x H' ex e => ?_) (fun H17 e => ?_)
    · obtain ⟨ms, hd, sm, fr⟩ := e
      obtain ⟨B, n, k, rfl, hB, hn, go⟩ := frs_step (K := K) (CR := CR) nu16 nt16 nd16 ex
      refine ⟨rfl, ?_⟩
      refine yes_ite ?_
      obtain ⟨dxn, fsn, hin, non⟩ := (hn.keep sm).ins
      refine ⟨_, rfl, B, n, dxn, fsn, hB, rfl, hin, non "fresh" (by decide +kernel), n, k, rfl, hn.keep sm, fun v H'' s'' hv => ?_⟩
      have hd' := s'' _ _ hd
      have ld : Lsts [c0] H'' := fun b hb => by
        rw [List.mem_singleton.mp hb]
        exact ⟨_, hd'⟩
      refine ⟨_, hd', Nat.lt_of_le_of_lt fr.len (by decide), ms ++ [v], upd_same, Same.past (sm.trans s'') hc0, go H' _ ms v fr (fun m ks r h => ?_) ?_⟩
      · exact (h.keep s'').kd' (KD.upd List.mem_cons_self) ld
      · exact hv.kd' (KD.upd List.mem_cons_self) ld
    · obtain ⟨ms0, hd0, s17, fr0⟩ := e
      refine ⟨_, rfl, TL, rfl, ⟨_, SqL.of (s17 _ _ e16T)⟩, fun c1 hc1 => ?_⟩
      refine lc_list (xs := [V.ref nu, V.ref nt, V.ref ndn]) (fun j H' => ∃ ms, H' c1 = some (.lst ms) ∧ Same H17 H' ∧ Frs K u d lt ns H' j ms) ⟨[], upd_same, Same.past (Same.refl _) hc1, .inl ⟨rfl, rfl⟩⟩ (fun j H' _ e => by obtain ⟨_, _, sm, _⟩ := e; exact SqL.of (sm _ _ (s17 _ _ e16T))) (fun j x H' ex e => ?_) (fun H18 e => ?_)
      · obtain ⟨ms, hd, sm, fr⟩ := e
        obtain ⟨B, n, k, rfl, hB, hn, go⟩ := frs_step (K := K) (CR := CR) (nu16.keep s17) (nt16.keep s17) (nd16.keep s17) ex
        refine ⟨rfl, ?_⟩
        refine yes_ite ?_
        obtain ⟨dxn, fsn, hin, non⟩ := (hn.keep sm).ins
        refine ⟨_, rfl, B, n, dxn, fsn, hB, rfl, hin, non "fresh" (by decide +kernel), n, k, rfl, hn.keep sm, fun v H'' s'' hv => ?_⟩
        have hd' := s'' _ _ hd
        have ld : Lsts [c1] H'' := fun b hb => by
          rw [List.mem_singleton.mp hb]
          exact ⟨_, hd'⟩
        refine ⟨_, hd', Nat.lt_of_le_of_lt fr.len (by decide), ms ++ [v], upd_same, Same.past (sm.trans s'') hc1, go H' _ ms v fr (fun m ks r h => ?_) ?_⟩
        · exact (h.keep s'').kd' (KD.upd List.mem_cons_self) ld
        · exact hv.kd' (KD.upd List.mem_cons_self) ld
      · obtain ⟨ms1, hd1, s18, fr1⟩ := e
        refine ⟨(by show 2 ≤ sizeLine; decide), fun CL hCL => ⟨(by show 2 ≤ sizeLine; decide), fun FL hFL => ?_⟩⟩
        have u19 := Same.new (o := .lst [V.ref c0, V.ref c1]) (Same.refl H18) hCL
        have e19 : (upd H18 CL (.lst [V.ref c0, V.ref c1])) CL = some (.lst [V.ref c0, V.ref c1]) := upd_same
        have u20 := Same.new (o := .lst [V.int 0, V.int 0]) (Same.refl _) hFL
        have e20 : (upd (upd H18 CL (.lst [V.ref c0, V.ref c1])) FL (.lst [V.int 0, V.int 0])) FL = some (.lst [V.int 0, V.int 0]) := upd_same
        have L17 := L16.add s17 hc0 hd0
        have L18 := L17.add s18 hc1 hd1
        have L20 := (L18.new (o := .lst [V.ref c0, V.ref c1]) hCL).new (o := .lst [V.int 0, V.int 0]) hFL
        have u1820 := u19.trans u20
        have e19' := u20 _ _ e19
        generalize upd (upd H18 CL (.lst [V.ref c0, V.ref c1])) FL (.lst [V.int 0, V.int 0]) = H20 at L20 e20 u1820 e19'
        have s1620 := s17.trans (s18.trans u1820)
        have t16 : Same H H16 := t8.trans (s813.trans s1316)
        have t20 : Same H H20 := t16.trans s1620
        have sta : Sta H20 u d ns CU CD CT CR SL CL TL ln lr lt nr nu nt ndn s0 s1' c0 c1 := ⟨(s1316.trans s1620) _ _ e13, e19', s1620 _ _ e16T, t20 _ _ hln, nr13.keep (s1316.trans s1620), nu16.keep s1620, nt16.keep s1620, nd16.keep s1620⟩
        have frk : ∀ {G G' : Hp} {j : Nat} {ms : List V}, Same G G' → Frs K u d lt ns G j ms → Frs K u d lt ns G' j ms := fun {G G' j ms} sm h => by
          rcases h with h | ⟨h, a, e, ha⟩ | ⟨h, a, b, e, ha, hb⟩ | ⟨h, a, b, c, e, ha, hb, hc⟩
          · exact .inl h
          · exact .inr (.inl ⟨h, a, e, ha.keep sm⟩)
          · exact .inr (.inr (.inl ⟨h, a, b, e, ha.keep sm, hb.keep sm⟩))
          · exact .inr (.inr (.inr ⟨h, a, b, c, e, ha.keep sm, hb.keep sm, hc.keep sm⟩))
        have lane0 : Lane K H20 u d lr lt ns s0 c0 v0 [] 0 := lane_fresh ((s1316.trans s1620) _ _ g0') ((s18.trans u1820) _ _ hd0) (frk (s18.trans u1820) fr0) (hv0'.keep s1620)
        have lane1 : Lane K H20 u d lr lt ns s1' c1 v1 [] 0 := lane_fresh ((s1316.trans s1620) _ _ g1') (u1820 _ _ hd1) (frk u1820 fr1) (hv1'.keep s1620)
        have eML := s1620 _ _ e16
        have hp20 := hp.keep t20
        have nod := L20.1
        have frees : H s0 = none ∧ H s1' = none ∧ H ML = none ∧ H c0 = none ∧ H c1 = none ∧ H FL = none := by
          exact ⟨(t8.trans s810).free hs0, (t8.trans s810).free (upd_free hs1), (t8.trans (s813.trans (s14.trans s15))).free hML, t16.free hc0, (t16.trans s17).free hc1, (t16.trans (s17.trans s18)).free (upd_free hFL)⟩
        clear fr0 fr1 hd0 hd1 hv0 hv1 hv0' hv1' L8 L13 L16 L17 L18 g0' g1' e8 e13 e16 e16T nr8 nu8 nt8 nd8 nr13 nu16 nt16 nd16
        refine ⟨_, rfl, p, 12, rfl, hp20, by decide, by decide, fun e0 G0 a0 a1 k0 hp0 => ?_⟩
        have start : LvP K H u d ns CU CD CT CR p SL CL TL ln lr lt nr nu nt ndn s0 s1' c0 c1 ML FL 0 G0 := by
          have kd : KD [p] H20 G0 := KD.kept k0 List.mem_cons_self
          have lp : Lsts [p] H20 := fun b hb => by
            rw [List.mem_singleton.mp hb]
            obtain ⟨_, _, _, _, _, e⟩ := hp20
            exact ⟨_, e⟩
          have ne : ∀ {i : Nat} {a : Addr}, [FL, CL, c1, c0, ML, SL, s1', s0, TL, lt, lr, ln, p][i]? = some a → i ≠ 12 → a ∉ [p] := fun {i a} e z => by
            have := dis nod e (show _ = some p from rfl) z
            exact fun m => this (List.mem_singleton.mp m)
          refine ⟨v0, v1, [], [], 0, 0, (Kept.same t20).trans k0, hp0, sta.kd kd lp fun a ha => ?_, kd _ _ (ne (i := 4) rfl (by decide)) eML, kd _ _ (ne (i := 0) rfl (by decide)) e20, lane0.kd kd lp (ne (i := 7) rfl (by decide)) (ne (i := 3) rfl (by decide)), lane1.kd kd lp (ne (i := 6) rfl (by decide)) (ne (i := 2) rfl (by decide)), Nat.le_refl _, Nat.le_refl _⟩
          simp only [List.mem_cons, List.not_mem_nil, or_false] at ha
          rcases ha with rfl | rfl | rfl | rfl | rfl | rfl
          · exact ne (i := 5) rfl (by decide)
          · exact ne (i := 1) rfl (by decide)
          · exact ne (i := 8) rfl (by decide)
          · exact ne (i := 11) rfl (by decide)
          · exact ne (i := 10) rfl (by decide)
          · exact ne (i := 9) rfl (by decide)
        refine ⟨_, _, rfl, rfl, _, rfl, by omega, by omega, for_range (fun j σ G => ∃ (w11 w12 w13 w14 w15 : Option V), σ = [some (.ref p), some (.int (u : Int)), some (.int (d : Int)), some (.ref ln), some (.ref ha), some (.ref nr), some (.ref TL), some (.ref SL), some (.ref ML), some (.ref CL), some (.ref FL), w11, w12, w13, w14, w15, none, none] ∧ LvP K H u d ns CU CD CT CR p SL CL TL ln lr lt nr nu nt ndn s0 s1' c0 c1 ML FL j G)
          ⟨_, _, _, _, _, rfl, start⟩ ?_ ?_⟩
        · rintro j σ G hj ⟨w11, w12, w13, w14, w15, rfl, lv⟩
          have j12 : j < 13 := by omega
          have hpG : PotAt G p := by
            obtain ⟨_, _, _, _, _, _, _, z, _⟩ := lv
            exact z
          refine ⟨_, rfl, p, 2, rfl, hpG, by decide, by decide, fun e1 G1 b0 b1 k1 hp1 => ?_⟩
          obtain ⟨n, rfl, n2⟩ : ∃ n : Nat, e1 = (n : Int) ∧ n < 2 := ⟨e1.toNat, by omega, by omega⟩
          obtain ⟨sa, ca, sb, cb, v, vb, st, stb, fi, fib, eS, eC, hM, hF, la, lb, fij, nod2, fsa, fca, fML, fFL, kG, _, sta2, fin⟩ := lv.turn nod frees n2
          have ne : ∀ {i k : Nat} {a b : Addr}, [p, ML, FL, sa, ca, sb, cb, SL, CL, TL, ln, lr, lt][i]? = some a → [p, ML, FL, sa, ca, sb, cb, SL, CL, TL, ln, lr, lt][k]? = some b → i ≠ k → a ≠ b := fun {i k a b} e e' z => dis nod2 e e' z
          have memD : ∀ {D : List Addr} {i : Nat} {a : Addr}, (∀ b ∈ D, ∃ k, [p, ML, FL, sa, ca, sb, cb, SL, CL, TL, ln, lr, lt][k]? = some b ∧ k ≠ i) → [p, ML, FL, sa, ca, sb, cb, SL, CL, TL, ln, lr, lt][i]? = some a → a ∉ D := fun {D i a} hD e z => by
            obtain ⟨k, ek, ki⟩ := hD a z
            exact ne ek e ki rfl
          have inP : ∀ {i : Nat}, i ≠ 0 → ∀ b ∈ [p], ∃ k, [p, ML, FL, sa, ca, sb, cb, SL, CL, TL, ln, lr, lt][k]? = some b ∧ k ≠ i := fun {i} hi b hb => ⟨0, by rw [List.mem_singleton.mp hb]; rfl, hi.symm⟩
          have inA : ∀ {i : Nat}, 5 ≤ i → ∀ b ∈ [p, ML, FL, sa, ca], ∃ k, [p, ML, FL, sa, ca, sb, cb, SL, CL, TL, ln, lr, lt][k]? = some b ∧ k ≠ i := fun {i} hi b hb => by
            simp only [List.mem_cons, List.not_mem_nil, or_false] at hb
            rcases hb with rfl | rfl | rfl | rfl | rfl
            · exact ⟨0, rfl, by omega⟩
            · exact ⟨1, rfl, by omega⟩
            · exact ⟨2, rfl, by omega⟩
            · exact ⟨3, rfl, by omega⟩
            · exact ⟨4, rfl, by omega⟩
          have one : ∀ {x : Addr} {G : Hp} {xs : List V}, G x = some (.lst xs) → Lsts [x] G := fun {x G xs} e b hb => by
            rw [List.mem_singleton.mp hb]
            exact ⟨_, e⟩
          have lstA : Lsts [p, ML, FL, sa, ca] G := fun b hb => by
            simp only [List.mem_cons, List.not_mem_nil, or_false] at hb
            rcases hb with rfl | rfl | rfl | rfl | rfl
            · obtain ⟨_, _, _, _, _, e⟩ := hpG
              exact ⟨_, e⟩
            · exact ⟨_, hM⟩
            · exact ⟨_, hF⟩
            · exact ⟨_, la.hs⟩
            · obtain ⟨_, _, _, e, _⟩ := la.ch
              exact ⟨_, e⟩
          -- the samples
          refine ⟨_, rfl, _, rfl, by omega, by omega, fun sm hsm => ?_⟩
          have nsp : sm ≠ p := fun z => by
            obtain ⟨_, _, _, _, _, hx⟩ := hp1
            rw [z, hx] at hsm
            cases hsm
          refine lc_range (fun c H' => ∃ xs : List Int, xs.length = c ∧ H' sm = some (.lst (xs.map V.int)) ∧ Kept p G1 H' ∧ PotAt H' p ∧ ∀ x ∈ xs, Num x)
            ⟨[], rfl, upd_same, Kept.past Kept.refl hsm, hp1.keep (Same.new (Same.refl _) hsm), fun _ h => (List.not_mem_nil h).elim⟩ (fun c H' hc e => ?_) (fun G2 e => ?_)
          · obtain ⟨xs, xl, hd, kx, hpx, nx⟩ := e
            refine ⟨rfl, ?_⟩
            refine yes_ite ?_
            refine ⟨_, rfl, p, rfl, hpx, fun x H7 x0 x1 k7 hp7 => ?_⟩
            have hd7 := k7 _ _ nsp hd
            refine ⟨_, hd7, ?_, xs ++ [x], by rw [List.length_append, xl]; rfl, ?_, (kx.trans k7).past hsm, ?_, fun y hy => ?_⟩
            · rw [List.length_map, xl]
              exact Nat.lt_of_lt_of_le (show c < 9 by omega) (by decide)
            · rw [List.map_append]
              exact upd_same
            · obtain ⟨b1, b2, b3, b4, b5, b6⟩ := hp7
              exact ⟨b1, b2, b3, b4, b5, by rw [upd_ne nsp.symm]; exact b6⟩
            · rcases List.mem_append.mp hy with hy | hy
              · exact nx y hy
              · rcases List.mem_cons.mp hy with rfl | hy
                · exact ⟨x0, x1⟩
                · cases hy
          · obtain ⟨xs, xl, hsmG, kx, hp2, nx⟩ := e
            have xl : xs.length = d := by omega
            have kp2 : Kept p G G2 := k1.trans kx
            have kd2 : KD [p] G G2 := KD.kept kp2 List.mem_cons_self
            have lp : Lsts [p] G := by
              obtain ⟨_, _, _, _, _, e⟩ := hpG
              exact one e
            have la2 := la.kd kd2 lp (memD (i := 3) (inP (by decide)) rfl) (memD (i := 4) (inP (by decide)) rfl)
            have hM2 := kd2 _ _ (memD (i := 1) (inP (by decide)) rfl) hM
            have hF2 := kd2 _ _ (memD (i := 2) (inP (by decide)) rfl) hF
            have inS : ∀ a ∈ [SL, CL, TL, ln, lr, lt], ∃ i, 7 ≤ i ∧ [p, ML, FL, sa, ca, sb, cb, SL, CL, TL, ln, lr, lt][i]? = some a := fun a ha => by
              simp only [List.mem_cons, List.not_mem_nil, or_false] at ha
              rcases ha with rfl | rfl | rfl | rfl | rfl | rfl
              · exact ⟨7, by decide, rfl⟩
              · exact ⟨8, by decide, rfl⟩
              · exact ⟨9, by decide, rfl⟩
              · exact ⟨10, by decide, rfl⟩
              · exact ⟨11, by decide, rfl⟩
              · exact ⟨12, by decide, rfl⟩
            have stK : ∀ {G' : Hp}, KD [p, ML, FL, sa, ca] G G' → Sta G' u d ns CU CD CT CR SL CL TL ln lr lt nr nu nt ndn s0 s1' c0 c1 := fun {G'} k => sta2.kd k lstA fun a ha => by
              obtain ⟨i, hi, e⟩ := inS a ha
              exact memD (i := i) (inA (by omega)) e
            have sub : ∀ {x : Addr}, x ∈ [p, ML, FL, sa, ca] → ∀ y ∈ [x], y ∈ [p, ML, FL, sa, ca] := fun {x} hx y hy => by
              rw [List.mem_singleton.mp hy]
              exact hx
            have kA2 : KD [p, ML, FL, sa, ca] G G2 := kd2.sub (sub (by simp))
            have smn : ∀ {i : Nat} {a : Addr} {o : HO}, G a = some o → i ≠ 0 → [p, ML, FL, sa, ca, sb, cb, SL, CL, TL, ln, lr, lt][i]? = some a → a ≠ sm := fun {i a o} e hi ei z => by
              have e2 := k1 _ _ (ne ei (show [p, ML, FL, sa, ca, sb, cb, SL, CL, TL, ln, lr, lt][0]? = some p from rfl) hi) e
              rw [z, hsm] at e2
              cases e2
            have smsa : sa ≠ sm := smn (i := 3) la.hs (by decide) rfl
            obtain ⟨mu, mt, md, hch, _⟩ := id la.ch
            have smca : ca ≠ sm := smn (i := 4) hch (by decide) rfl
            have smML : ML ≠ sm := smn (i := 1) hM (by decide) rfl
            -- put behind
            have aS : atI [V.ref s0, V.ref s1'] (n : Int) = some (.ref sa) := by
              rw [eS]
              exact atI_nat (j := n) (pair_get n2 _ _)
            have aC : atI [V.ref c0, V.ref c1] (n : Int) = some (.ref ca) := by
              rw [eC]
              exact atI_nat (j := n) (pair_get n2 _ _)
            have st2 := stK kA2
            have stl : st.length ≤ 13 * 8 := by
              rw [la.len]
              exact Nat.mul_le_mul (by omega) d8
            refine ⟨_, rfl, _, rfl, SL, _, _, .ref sa, rfl, rfl, SqL.of st2.hS, aS, .inl ⟨rfl, _, SqL.of la2.hs⟩, _, rfl, sa, sm, _, _, rfl, rfl, la2.hs, hsmG, ?_, ?_⟩
            · rw [List.length_map, List.length_map, xl]
              exact Nat.le_trans (show _ ≤ 200 by omega) (by decide)
            have es : st.map V.int ++ xs.map V.int = (st ++ xs).map V.int := by rw [List.map_append]
            rw [es]
            have kd3 : KD [sa] G2 (upd G2 sa (.lst ((st ++ xs).map V.int))) := KD.upd List.mem_cons_self
            have hs3 : (upd G2 sa (.lst ((st ++ xs).map V.int))) sa = some (.lst ((st ++ xs).map V.int)) := upd_same
            have hsm3 : (upd G2 sa (.lst ((st ++ xs).map V.int))) sm = some (.lst (xs.map V.int)) := by
              rw [upd_ne smsa.symm]
              exact hsmG
            have kp3 : Kept p H (upd G2 sa (.lst ((st ++ xs).map V.int))) := (kG.trans kp2).past fsa
            have hp3 : PotAt (upd G2 sa (.lst ((st ++ xs).map V.int))) p := by
              obtain ⟨b1, b2, b3, b4, b5, b6⟩ := hp2
              exact ⟨b1, b2, b3, b4, b5, by rw [upd_ne (ne (i := 0) (k := 3) rfl rfl (by decide))]; exact b6⟩
            generalize upd G2 sa (.lst ((st ++ xs).map V.int)) = G3 at kd3 hs3 hsm3 kp3 hp3
            have kA3 : KD [p, ML, FL, sa, ca] G G3 := kA2.trans (kd3.sub (sub (by simp)))
            have st3 := stK kA3
            have l2sa : Lsts [sa] G2 := one la2.hs
            have inSa : ∀ {i : Nat}, i ≠ 3 → ∀ b ∈ [sa], ∃ k, [p, ML, FL, sa, ca, sb, cb, SL, CL, TL, ln, lr, lt][k]? = some b ∧ k ≠ i := fun {i} hi b hb => ⟨3, by rw [List.mem_singleton.mp hb]; rfl, hi.symm⟩
            have hM3 := kd3 _ _ (memD (i := 1) (inSa (by decide)) rfl) hM2
            have hF3 := kd3 _ _ (memD (i := 2) (inSa (by decide)) rfl) hF2
            have mem3 := la2.mem.kd' kd3 l2sa
            obtain ⟨mu, mt, md, hc2, hmu2, hmt2, hmd2⟩ := la2.ch
            have hc3 := kd3 _ _ (memD (i := 4) (inSa (by decide)) rfl) hc2
            have hmu3 := hmu2.kd' kd3 l2sa
            have hmt3 := hmt2.kd' kd3 l2sa
            have hmd3 := hmd2.kd' kd3 l2sa
            -- the firing
            obtain ⟨dx3, fs3, hin3, no3⟩ := st3.nr.ins
            have aM : atI (pair n v vb) (n : Int) = some v := atI_nat (j := n) (pair_get n2 _ _)
            refine ⟨_, rfl, (CR, 3), nr, dx3, fs3, .tail _ (.tail _ (.tail _ (.head _))), rfl, hin3, no3 "fire" (by decide +kernel), _, rfl, _, rfl, ML, _, _, v, rfl, rfl, SqL.of hM3, aM, _, rfl, sm, _, rfl, .inl (SqL.of hsm3), fun q hq => ⟨(by show 1 ≤ sizeLine; decide), fun r hr' => ?_⟩⟩
            have s4 := Same.new (o := .lst (xs.map V.int)) (Same.refl G3) hq
            have s4' := Same.new (o := .lst [V.ref q]) (Same.refl _) hr'
            have q4 : (upd (upd G3 q (.lst (xs.map V.int))) r (.lst [V.ref q])) q = some (.lst (xs.map V.int)) := s4' _ _ upd_same
            have r4 : (upd (upd G3 q (.lst (xs.map V.int))) r (.lst [V.ref q])) r = some (.lst [V.ref q]) := upd_same
            have s34 := s4.trans s4'
            generalize upd (upd G3 q (.lst (xs.map V.int))) r (.lst [V.ref q]) = G4 at s34 q4 r4
            refine ⟨nr, r, .res u d lr ns, v, _, xs, rfl, st3.nr.keep s34, mem3.keep s34, ⟨q, r4, q4⟩, xl, nx, fun t5 l5 v5 G5 s5 ht5 hv5 hl5 => ?_⟩
            obtain ⟨rd1, rd2⟩ := res_due (ln := lr) (ns := ns) u1 d1 nok.1 la.len xl
            rw [rd1] at hv5
            rw [rd2] at hl5
            have s35 := s34.trans s5
            have hM5 := s35 _ _ hM3
            have exn : ixN (pair n v vb).length (n : Int) = some n := by
              rw [pair_len]
              exact ixN_pair n2
            refine ⟨t5, _, rfl, .inl (.inl ht5), rfl, _, _, rfl, _, rfl, _, rfl, ML, _, _, n, rfl, rfl, hM5, exn, _, _, rfl, rfl, ?_⟩
            rw [pair_set n2]
            have kd6 : KD [ML] G5 (upd G5 ML (.lst (pair n v5 vb))) := KD.upd List.mem_cons_self
            have hM6 : (upd G5 ML (.lst (pair n v5 vb))) ML = some (.lst (pair n v5 vb)) := upd_same
            have l5ML : Lsts [ML] G5 := one hM5
            have nlML : ∀ {a : Addr} {zs : List Int}, G5 a = some (.lst (zs.map V.int)) → a ≠ ML := fun {a zs} e z => by
              rw [z, hM5] at e
              have e := HO.lst.inj (Option.some.inj e)
              have hv5' := hv5
              obtain ⟨q', kv', ev5, _⟩ := (mem3.keep s35).split
              have : (pair n v vb)[n]? = (zs.map V.int)[n]? := by rw [e]
              rw [pair_get n2, List.getElem?_map, ev5] at this
              cases hz : zs[n]? with
              | none => rw [hz] at this; cases this
              | some y => rw [hz] at this; cases this
            have hl6 := kd6 _ _ (nin fun b hb => by rw [List.mem_singleton.mp hb]; exact nlML hl5) hl5
            have hs6 := kd6 _ _ (nin fun b hb => by rw [List.mem_singleton.mp hb]; exact ne (i := 3) (k := 1) rfl rfl (by decide)) (s35 _ _ hs3)
            have hsm6 := kd6 _ _ (nin fun b hb => by rw [List.mem_singleton.mp hb]; exact smML.symm) (s35 _ _ hsm3)
            have hF6 := kd6 _ _ (nin fun b hb => by rw [List.mem_singleton.mp hb]; exact ne (i := 2) (k := 1) rfl rfl (by decide)) (s35 _ _ hF3)
            have hc6 := kd6 _ _ (nin fun b hb => by rw [List.mem_singleton.mp hb]; exact ne (i := 4) (k := 1) rfl rfl (by decide)) (s35 _ _ hc3)
            have hv6 := hv5.kd' kd6 l5ML
            have hmu6 := (hmu3.keep s35).kd' kd6 l5ML
            have hmt6 := (hmt3.keep s35).kd' kd6 l5ML
            have hmd6 := (hmd3.keep s35).kd' kd6 l5ML
            have kA6 : KD [p, ML, FL, sa, ca] G (upd G5 ML (.lst (pair n v5 vb))) := (kA3.trans (KD.same s35)).trans (kd6.sub (sub (by simp)))
            have kp6 : Kept p H (upd G5 ML (.lst (pair n v5 vb))) := (kp3.trans (Kept.same s35)).past fML
            have hp6 : PotAt (upd G5 ML (.lst (pair n v5 vb))) p := by
              obtain ⟨b1, b2, b3, b4, b5, b6⟩ := hp3.keep s35
              exact ⟨b1, b2, b3, b4, b5, by rw [upd_ne (ne (i := 0) (k := 1) rfl rfl (by decide))]; exact b6⟩
            generalize upd G5 ML (.lst (pair n v5 vb)) = G6 at kd6 hM6 hl6 hs6 hsm6 hF6 hc6 hv6 hmu6 hmt6 hmd6 kA6 kp6 hp6
            have st6 := stK kA6
            -- what is due
            have aF : atI (pair n (V.int (fi : Int)) (V.int (fib : Int))) (n : Int) = some (.int (fi : Int)) := atI_nat (j := n) (pair_get n2 _ _)
            have nst : ∀ x ∈ st ++ xs, Num x := fun x hx => (List.mem_append.mp hx).elim (la.num x) (nx x)
            have lst : (st ++ xs).length = (fi + 1) * d := by
              rw [List.length_append, la.len, xl, Nat.succ_mul]
            refine ⟨_, rfl, _, rfl, SL, _, _, .ref sa, rfl, rfl, SqL.of st6.hS, aS, _, rfl, _, rfl, _, rfl, _, rfl, _, rfl, FL, _, _, .int (fi : Int), rfl, rfl, SqL.of hF6, aF, ?_⟩
            refine ⟨sa, ln, st ++ xs, ns, u, d, fi, rfl, hs6, st6.hl, ⟨u1, u8⟩, ⟨d1, d8⟩, nok, by omega, lst, nst, fun l7 G7 s7' hl7 => ?_⟩
            obtain ⟨S, hSh⟩ : ∃ S, (PyData.list ((dueR (st ++ xs) ns u d fi u).map PyData.int)).shown = S := ⟨_, rfl⟩
            have dlog := dueR_log (u := u) (d := d) (fi := fi) (n := u) nok nst
            have dlen : (dueR (st ++ xs) ns u d fi u).length ≤ 1000 := by
              unfold dueR
              rw [List.length_map, List.length_range]
              omega
            refine ⟨_, rfl, l5, _, S, rfl, dp_at (s7' _ _ hl6), shaped_ints _, intsD_show dlog, intsD_len dlog dlen, hSh, ?_⟩
            refine ⟨_, rfl, l7, _, S, rfl, dp_at hl7, shaped_ints _, intsD_show dlog, intsD_len dlog dlen, hSh, rfl, _, rfl, iteNS rfl ?_⟩
            -- by the three
            have kA7 := kA6.trans (KD.same s7')
            have st7 := stK kA7
            refine ⟨_, rfl, _, rfl, _, rfl, CL, _, _, .ref ca, rfl, rfl, SqL.of st7.hC, aC, _, rfl, ?_⟩
            refine ⟨TL, ca, sm, nu, nt, ndn, lt, mu, mt, md, u, d, fi, ns, st, xs, rfl, st7.hT, st7.nu, st7.nt, st7.nd, s7' _ _ hc6, hmu6.keep s7', hmt6.keep s7', hmd6.keep s7', s7' _ _ hsm6, xl, nx, la.len, ne (i := 9) (k := 4) rfl rfl (by decide), smca.symm, ne (i := 12) (k := 4) rfl rfl (by decide), fun l8 mu' mt' md' G8 kd8 hc8 hmu8 hmt8 hmd8 hl8 => ?_⟩
            have nl7 : l7 ≠ ca := fun z => by
              rw [z, s7' _ _ hc6] at hl7
              have e := HO.lst.inj (Option.some.inj hl7)
              obtain ⟨q', kv', ev, _⟩ := hmu6.split
              have : [mu, mt, md][0]? = ((dueR (st ++ xs) ns u d fi u).map V.int)[0]? := by rw [e]
              rw [List.getElem?_map, ev] at this
              cases hz : (dueR (st ++ xs) ns u d fi u)[0]? with
              | none => rw [hz] at this; cases this
              | some y => rw [hz] at this; cases this
            have l7ca : Lsts [ca] G7 := one (s7' _ _ hc6)
            refine ⟨_, rfl, _, _, dp_at hl8, dp_at (kd8 _ _ (nin fun b hb => by rw [List.mem_singleton.mp hb]; exact nl7) hl7), shaped_ints _, shaped_ints _, ?_⟩
            rw [eqv_ints]
            refine ⟨_, rfl, iteF ?_⟩
            have inCa : ∀ {i : Nat}, i ≠ 4 → ∀ b ∈ [ca], ∃ k, [p, ML, FL, sa, ca, sb, cb, SL, CL, TL, ln, lr, lt][k]? = some b ∧ k ≠ i := fun {i} hi b hb => ⟨4, by rw [List.mem_singleton.mp hb]; rfl, hi.symm⟩
            have hF8 := kd8 _ _ (memD (i := 2) (inCa (by decide)) rfl) (s7' _ _ hF6)
            have hM8 := kd8 _ _ (memD (i := 1) (inCa (by decide)) rfl) (s7' _ _ hM6)
            have hs8 := kd8 _ _ (memD (i := 3) (inCa (by decide)) rfl) (s7' _ _ hs6)
            have hv8 := (hv6.keep s7').kd' kd8 l7ca
            have kA8 := kA7.trans (kd8.sub (sub (by simp)))
            have kp8 : Kept p H G8 := fun b o nb e => kd8 _ _ (nin fun x hx => by rw [List.mem_singleton.mp hx]; exact ne_of_none e fca) (s7' _ _ (kp6 b o nb e))
            have hp8 : PotAt G8 p := by
              obtain ⟨b1, b2, b3, b4, b5, b6⟩ := hp6.keep s7'
              exact ⟨b1, b2, b3, b4, b5, kd8 _ _ (memD (i := 0) (inCa (by decide)) rfl) b6⟩
            -- counted
            have exF : ixN (pair n (V.int (fi : Int)) (V.int (fib : Int))).length (n : Int) = some n := by
              rw [pair_len]
              exact ixN_pair n2
            refine ⟨_, rfl, _, rfl, FL, _, _, .int (fi : Int), rfl, rfl, SqL.of hF8, aF, _, _, rfl, rfl, _, rfl, _, rfl, FL, _, _, n, rfl, rfl, hF8, exF, ?_⟩
            rw [pair_set n2]
            refine ⟨_, _, _, _, _, rfl, ?_⟩
            have kd9 : KD [FL] G8 (upd G8 FL (.lst (pair n (V.int ((fi : Int) + 1)) (V.int (fib : Int))))) := KD.upd List.mem_cons_self
            have inFL : ∀ {i : Nat}, i ≠ 2 → ∀ b ∈ [FL], ∃ k, [p, ML, FL, sa, ca, sb, cb, SL, CL, TL, ln, lr, lt][k]? = some b ∧ k ≠ i := fun {i} hi b hb => ⟨2, by rw [List.mem_singleton.mp hb]; rfl, hi.symm⟩
            have l8FL : Lsts [FL] G8 := one hF8
            have kA9 := kA8.trans (kd9.sub (sub (by simp)))
            refine fin _ v5 (st ++ xs) (kp8.past fFL) ?_ (stK kA9) (kd9 _ _ (memD (i := 1) (inFL (by decide)) rfl) hM8) upd_same ⟨kd9 _ _ (memD (i := 3) (inFL (by decide)) rfl) hs8, lst, nst, hv8.kd' kd9 l8FL, mu', mt', md', kd9 _ _ (memD (i := 4) (inFL (by decide)) rfl) hc8, hmu8.kd' kd9 l8FL, hmt8.kd' kd9 l8FL, hmd8.kd' kd9 l8FL⟩ (lb.kd kA9 lstA (memD (i := 5) (inA (by decide)) rfl) (memD (i := 6) (inA (by decide)) rfl))
            obtain ⟨b1, b2, b3, b4, b5, b6⟩ := hp8
            exact ⟨b1, b2, b3, b4, b5, kd9 _ _ (memD (i := 0) (inFL (by decide)) rfl) b6⟩
        · rintro σ G ⟨w11, w12, w13, w14, w15, rfl, v0', v1', st0, st1, f0, f1, kG, hpG, _⟩
          exact kk G kG hpG
end
end Sw
namespace Sw
open PySem PySem.Spec PyProof.Rows L2
def spLaw (K : PySem.W.Frag) : Sp := fun vs H Q _ => ∃ (a : Addr) (ns : List Int), vs = [.ref a] ∧ SqL K H a (ns.map V.int) ∧ ns.length ≤ 63 ∧ ∀ H', Q (.bl true) H'
section
variable {P : Program} {w : World} {K : PySem.W.Frag} {mg : Str → Option Value} {base : Heap} {f f1 f2 f3 f4 f5 f6 f7 f8 f9 C CN CU CD : Addr} {fd fd1 fd2 fd3 fd4 fd5 fd6 fd7 fd8 fd9 : FuncData}
abbrev nLaw : List Str := ["_law_script", "_law_k", "_law_pot_here", "_law_up", "_law_down"]
theorem scLaw : FnScope nLaw ["_law_script"] (defScope sLaw) := ⟨rfl, rfl, rfl, by decide +kernel, rfl, by decide +kernel, by decide +kernel⟩
theorem ok_law (F : FnP K "law" sLaw f fd)
    (GCe : FnOk P w K mg base CX0 1 f1 fd1 ["_law_script", "_law_k"] (spCell K)) (gCe : mg "_law_cell" = some (.ref f1)) (kCe : PySem.W.keepIn K (.ref f1) = true) (bCe : Binds K fd1 ["_law_script", "_law_k"] [])
    (GPo : FnOk P w K mg base CX0 1 f2 fd2 ["_law_cell_here"] spPot) (gPo : mg "_law_pot" = some (.ref f2)) (kPo : PySem.W.keepIn K (.ref f2) = true) (bPo : Binds K fd2 ["_law_cell_here"] [])
    (GDr : FnOk P w K mg base CX0 1 f3 fd3 ["_law_pot_here", "_law_many"] spDraw) (gDr : mg "_law_draw" = some (.ref f3)) (kDr : PySem.W.keepIn K (.ref f3) = true) (bDr : Binds K fd3 ["_law_pot_here", "_law_many"] [])
    (GNs : FnOk P w K mg base CX0 3 f4 fd4 ["_law_pot_here", "_law_most"] spNumbers) (gNs : mg "_law_numbers" = some (.ref f4)) (kNs : PySem.W.keepIn K (.ref f4) = true) (bNs : Binds K fd4 ["_law_pot_here", "_law_most"] [])
    (GRi : FnG P w K mg base CX0 7 f5 fd5 ["_law_pot_here", "_law_up", "_law_down", "_law_numbers_here"] spRight) (gRi : mg "_law_right" = some (.ref f5)) (kRi : PySem.W.keepIn K (.ref f5) = true) (bRi : Binds K fd5 ["_law_pot_here", "_law_up", "_law_down", "_law_numbers_here"] [])
    (gRange : mg "range" = none) (gMax : mg "max" = none) (gMin : mg "min" = none) (gLen : mg "len" = none) : FnG P w K mg base CX0 8 f fd ["_law_script"] (spLaw K) := by
  refine F.okG scLaw (fun vs H Q E h => ?_) (fun cdv A outer s H vs Q E hr guard h => ?_)
  · obtain ⟨a, ns, rfl, _⟩ := h
    rfl
  · obtain ⟨a, ns, rfl, hS, hlen, kk⟩ := h
    have hr7 : Room 7 _ := hr
    have hr3 : Room 3 _ := hr.mono (by decide)
    have hr1 : Room 1 _ := hr.mono (by decide)
    have nd := scLaw.nd
    refine ⟨_, PSs.nox (pss_cons (ps_for PassesOwn.never rfl (pi_range1 rfl gRange (pa_cons (pe_callB (call_max2 rfl) (by rfl) gMax (by decide +kernel) (pa_cons pe_int (pa_cons (pe_callB (call_min2 rfl) (by rfl) gMin (by decide +kernel) (pa_cons (pe_callB call_len_seq (by rfl) gLen PySem.boot_len (pa_cons (pv 0) pa_nil)) (pa_cons pe_int pa_nil))) pa_nil))) pa_nil)) (pg_name (i := 1) nd rfl (Or.inl rfl))
      (pss_cons (ps_set (i := 2) nd rfl (Or.inl rfl) (pe_call GPo hr1 rfl gPo kPo bPo .nil pass0 (pa_cons (pe_call GCe hr1 rfl gCe kCe bCe .nil pass0 (pa_cons (pv 0) (pa_cons (pv 1) pa_nil))) pa_nil)))
      (pss_cons (ps_par (i := 3) (j := 4) rfl nd rfl rfl (by decide) rfl rfl (pa_cons (pe_op op_add pe_int (pe_call GDr hr1 rfl gDr kDr bDr .nil pass0 (pa_cons (pv 2) (pa_cons pe_int pa_nil)))) (pa_cons (pe_op op_add pe_int (pe_call GDr hr1 rfl gDr kDr bDr .nil pass0 (pa_cons (pv 2) (pa_cons pe_int pa_nil)))) pa_nil)) rfl)
      (pss_one (ps_if (pt_not (pt_val (pe_callG GRi hr7 guard rfl gRi kRi bRi .nil pass0 (pa_cons (pv 2) (pa_cons (pv 3) (pa_cons (pv 4) (pa_cons (pe_call GNs hr3 rfl gNs kNs bNs .nil pass0 (pa_cons (pv 2) (pa_cons pe_int pa_nil))) pa_nil))))))) (pss_one (ps_ret pe_bl)) pss_nil)))))
      (pss_one (ps_ret pe_bl))), ?_⟩
    refine ⟨_, rfl, a, _, rfl, .inl hS, _, _, rfl, _, _, rfl, _, rfl, ?_, ?_, for_range (fun i σ H' => ∃ (u1 u2 u3 u4 : Option V), σ = [some (.ref a), u1, u2, u3, u4] ∧ Same H H') ⟨_, _, _, _, rfl, Same.refl _⟩ ?_ ?_⟩
    · rw [List.length_map]
      split <;> split <;> omega
    · rw [List.length_map]
      split <;> split <;> omega
    · rintro i σ H1 hi ⟨u1, u2, u3, u4, rfl, s1⟩
      refine ⟨_, rfl, _, rfl, a, ns, i, ?_, s1.seq hS, fun z => ?_⟩
      · rw [Int.zero_add]
        rfl
      refine ⟨z, rfl, fun p H2 np s2 hp => ?_⟩
      have p0 : H p = none := s1.free np
      have t2 := s1.trans s2
      refine ⟨_, rfl, p, 8, rfl, hp, by decide, by decide, fun d H3 d0 d1 k3 hp3 => ?_⟩
      refine ⟨_, _, rfl, rfl, _, rfl, p, 8, rfl, hp3, by decide, by decide, fun e H4 e0 e1 k4 hp4 => ?_⟩
      have t4 := Same.kept (Same.kept t2 p0 k3) p0 k4
      refine ⟨_, _, rfl, rfl, _, _, rfl, ?_⟩
      refine ⟨_, rfl, _, rfl, _, rfl, _, rfl, p, 12, rfl, hp4, by decide, by decide, fun ln ms H5 k5 hp5 fln hln m1 m2 hms => ?_⟩
      have t5 := Same.kept t4 p0 k5
      refine ⟨p, ln, (1 + d).toNat, (1 + e).toNat, ms, ?_, hp5, hln, fun z => ?_, ⟨by omega, by omega⟩, ⟨by omega, by omega⟩, ⟨m1, by omega, hms⟩, fun H6 k6 hp6 => ?_⟩
      · rw [Int.toNat_of_nonneg (by omega), Int.toNat_of_nonneg (by omega)]
        rfl
      · obtain ⟨_, _, _, _, _, hx⟩ := hp4
        rw [z, hx] at fln
        cases fln
      · refine ⟨_, rfl, iteF ?_⟩
        exact ⟨_, _, _, _, rfl, Same.kept t5 p0 k6⟩
    · rintro σ H1 ⟨u1, u2, u3, u4, rfl, s1⟩
      exact kk H1
end
end Sw
namespace Sw
open PySem PySem.Spec PyProof.Rows L2
/-! ### the head: facts by names -/
/-- as hookD, with one test more of the written part -/
def obsX (fa : List He.Fa) (fn : List He.DefD) (ex : PySem.W.Frag → Bool) (K : PySem.W.Frag) : Bool × He.AlD := (ex K, He.obsD fa fn K)
def obsXG (n : Nat) (fa : List He.Fa) (fn : List He.DefD) (ex : PySem.W.Frag → Bool) (g : Addr → Option Obj) : Bool × He.AlD := obsX fa fn ex (He.frG g (cStatics :: He.asD g n))
def hookX (n : Nat) (fa : List He.Fa) (fn : List He.DefD) (ex : PySem.W.Frag → Bool) : PySem.W.Hook where
  α := Bool × He.AlD
  obs := fun s => obsXG n fa fn ex s.heap.get?
  val := fun _ => (true, He.valD fn)
  says := fun _ h => ∃ K : PySem.W.Frag, K.In h ∧ ex K = true ∧ He.SaysD fa fn K
  of := fun _ _ e => ⟨_, He.frG_in, congrArg (fun z : Bool × He.AlD => z.1) e, congrArg (fun z : Bool × He.AlD => z.2) e⟩
  keeps := fun _ _ _ ⟨K, hK, c⟩ k => ⟨K, PySem.W.Frag.In.keeps hK k, c⟩
theorem obsXG_eq {n : Nat} {fa : List He.Fa} {fn : List He.DefD} {ex : PySem.W.Frag → Bool} {g : Addr → Option Obj} {s : Shared} (h : ∀ a, g a = s.heap.get? a) : obsXG n fa fn ex g = (hookX n fa fn ex).obs s := by
  have e : g = s.heap.get? := funext h
  rw [e] <;> rfl
def kitF (K : PySem.W.Frag) (t u : Value) (b : Bool) : Bool := decide (PySem.W.kitOne K t u = some b)
def dfn (x : Str) (st : Stmt) : He.DefD := ⟨(x, none), x, x, defArgs st, defBody st, defScope st, [], []⟩
def baseB (K : PySem.W.Frag) (C f : Addr) (m : Str) : Bool := PySem.W.readsIn K C (.type "type") && (decide (PySem.W.specialIn K (.ref C) "__getattribute__" = some (some (.builtin "type.__getattribute__"))) &&
  ((match PySem.W.findCls K (.ref C) (.type "type") m with
    | some (.val (.ref g)) => decide (g = f)
    | _ => false) && PySem.W.keepIn K (.ref f)))
theorem baseB_ok {K : PySem.W.Frag} {C f : Addr} {m : Str} (h : baseB K C f m = true) : BaseM K C m f := by
  obtain ⟨h1, h⟩ := He.ba h
  obtain ⟨h2, h⟩ := He.ba h
  obtain ⟨h3, h4⟩ := He.ba h
  refine ⟨h1, of_decide_eq_true h2, ?_, h4⟩
  cases e : PySem.W.findCls K (.ref C) (.type "type") m with
  | none =>
    rw [e] at h3
    cases h3
  | some r =>
    rw [e] at h3
    cases r with
    | val v =>
      cases v with
      | ref g => rw [of_decide_eq_true (show decide (g = f) = true from h3)]
      | _ => cases h3
    | get _ _ _ _ => cases h3
def fn : List He.DefD := [dfn "is_whole" sWhole, dfn "is_whole_within" sWithin, dfn "is_truth" sTruth, dfn "are_wholes" sWholes, dfn "is_list_of_wholes" sListOf, dfn "need" sNeed, dfn "run_firing" sFiring, dfn "_law_cell" sCell, dfn "_law_pot" sPot, dfn "_law_draw" sDraw, dfn "_law_number" sNumber, dfn "_law_numbers" sNumbers, dfn "_law_sample" sLSample, dfn "_law_given" sLGiven, dfn "_law_fired" sLFired, dfn "_law_by_three" sLByThree, dfn "_law_right" sLRight, dfn "law" sLaw, (⟨("Node", some "__init__"), "__init__", "Node.__init__", defArgs sNodeInit, defBody sNodeInit, defScope sNodeInit, [], []⟩ : He.DefD), (⟨("Up", some "__init__"), "__init__", "Up.__init__", defArgs sUpInit, defBody sUpInit, defScope sUpInit, [.bl false], [("late", .int 0), ("begin", .int 0)]⟩ : He.DefD), (⟨("Up", some "takes"), "takes", "Up.takes", defArgs sUpTakes, defBody sUpTakes, defScope sUpTakes, [], []⟩ : He.DefD), (⟨("Up", some "fresh"), "fresh", "Up.fresh", defArgs sUpFresh, defBody sUpFresh, defScope sUpFresh, [], []⟩ : He.DefD), (⟨("Up", some "fire"), "fire", "Up.fire", defArgs sUpFire, defBody sUpFire, defScope sUpFire, [], []⟩ : He.DefD), (⟨("Up", some "work"), "work", "Up.work", defArgs sUpWork, defBody sUpWork, defScope sUpWork, [], []⟩ : He.DefD), (⟨("Down", some "__init__"), "__init__", "Down.__init__", defArgs sDownInit, defBody sDownInit, defScope sDownInit, [], [("late", .int 0), ("begin", .int 0)]⟩ : He.DefD), (⟨("Down", some "takes"), "takes", "Down.takes", defArgs sDownTakes, defBody sDownTakes, defScope sDownTakes, [], []⟩ : He.DefD), (⟨("Down", some "fresh"), "fresh", "Down.fresh", defArgs sDownFresh, defBody sDownFresh, defScope sDownFresh, [], []⟩ : He.DefD), (⟨("Down", some "fire"), "fire", "Down.fire", defArgs sDownFire, defBody sDownFire, defScope sDownFire, [], []⟩ : He.DefD), (⟨("Down", some "work"), "work", "Down.work", defArgs sDownWork, defBody sDownWork, defScope sDownWork, [], []⟩ : He.DefD), (⟨("Taps", some "__init__"), "__init__", "Taps.__init__", defArgs sTapsInit, defBody sTapsInit, defScope sTapsInit, [], [("late", .int 0), ("begin", .int 0)]⟩ : He.DefD), (⟨("Taps", some "takes"), "takes", "Taps.takes", defArgs sTapsTakes, defBody sTapsTakes, defScope sTapsTakes, [], []⟩ : He.DefD), (⟨("Taps", some "fresh"), "fresh", "Taps.fresh", defArgs sTapsFresh, defBody sTapsFresh, defScope sTapsFresh, [], []⟩ : He.DefD), (⟨("Taps", some "fire"), "fire", "Taps.fire", defArgs sTapsFire, defBody sTapsFire, defScope sTapsFire, [], []⟩ : He.DefD), (⟨("Taps", some "work"), "work", "Taps.work", defArgs sTapsWork, defBody sTapsWork, defScope sTapsWork, [], []⟩ : He.DefD), (⟨("Resample", some "__init__"), "__init__", "Resample.__init__", defArgs sResampleInit, defBody sResampleInit, defScope sResampleInit, [], [("late", .int 0), ("begin", .int 0)]⟩ : He.DefD), (⟨("Resample", some "takes"), "takes", "Resample.takes", defArgs sResampleTakes, defBody sResampleTakes, defScope sResampleTakes, [], []⟩ : He.DefD), (⟨("Resample", some "fresh"), "fresh", "Resample.fresh", defArgs sResampleFresh, defBody sResampleFresh, defScope sResampleFresh, [], []⟩ : He.DefD), (⟨("Resample", some "fire"), "fire", "Resample.fire", defArgs sResampleFire, defBody sResampleFire, defScope sResampleFire, [], []⟩ : He.DefD), (⟨("Resample", some "work"), "work", "Resample.work", defArgs sResampleWork, defBody sResampleWork, defScope sResampleWork, [], []⟩ : He.DefD), (⟨("Resample", some "gives"), "gives", "Resample.gives", defArgs sResampleGives, defBody sResampleGives, defScope sResampleGives, [], []⟩ : He.DefD), (⟨("Resample", some "tapped"), "tapped", "Resample.tapped", defArgs sResampleTapped, defBody sResampleTapped, defScope sResampleTapped, [], []⟩ : He.DefD)]
def fa : List He.Fa := [.glo "is_whole", .glo "is_whole_within", .glo "is_truth", .glo "are_wholes", .glo "is_list_of_wholes", .glo "need", .glo "run_firing", .glo "_law_cell", .glo "_law_pot", .glo "_law_draw", .glo "_law_number", .glo "_law_numbers", .glo "_law_sample", .glo "_law_given", .glo "_law_fired", .glo "_law_by_three", .glo "_law_right", .glo "law", .free "len", .free "max", .free "min", .free "range", .free "isinstance", .free "int", .free "bool", .free "list", .free "tuple", .free "repr", .free "all", .free "sum", .free "zip", .free "enumerate", .int "MOST_LATE" 99, .int "MOST_BEGIN" 9999, .int "MOST_TAPS" 12, .int "MOST_RATE" 8, .glo "Node", .glo "Up", .glo "Down", .glo "Taps", .glo "Resample", .cls "Up", .noat "Up" "made", .noat "Up" "late_by", .noat "Up" "begin_at", .noat "Up" "many", .noat "Up" "hold", .mkr "Up", .meth "Up" "takes", .meth "Up" "fresh", .meth "Up" "fire", .meth "Up" "work", .cls "Down", .noat "Down" "made", .noat "Down" "late_by", .noat "Down" "begin_at", .noat "Down" "many", .mkr "Down", .meth "Down" "takes", .meth "Down" "fresh", .meth "Down" "fire", .meth "Down" "work", .cls "Taps", .noat "Taps" "made", .noat "Taps" "late_by", .noat "Taps" "begin_at", .noat "Taps" "numbers", .mkr "Taps", .meth "Taps" "takes", .meth "Taps" "fresh", .meth "Taps" "fire", .meth "Taps" "work", .cls "Resample", .noat "Resample" "made", .noat "Resample" "late_by", .noat "Resample" "begin_at", .noat "Resample" "numbers", .noat "Resample" "up", .noat "Resample" "down", .mkr "Resample", .meth "Resample" "takes", .meth "Resample" "fresh", .meth "Resample" "fire", .meth "Resample" "work", .meth "Resample" "gives", .meth "Resample" "tapped"]
def ex (K : PySem.W.Frag) : Bool := baseB K (He.ga K "Node") (He.ma K (He.ga K "Node") "__init__") "__init__"
abbrev R : PySem.W.OpenRow := PySem.W.OpenLaw.row PySem.Challenge.rw_sampleweave_k17_whole_resampled
abbrev hk : PySem.W.Hook := hookX 5 fa fn ex
def ob (s : PySem.W.SharedT) : Bool × He.AlD := obsXG 5 fa fn ex (HandSHeadRun.getT s)
theorem ob_eq (s : PySem.W.SharedT) : ob s = hk.obs s.abs := obsXG_eq (HandSHeadRun.getT_eq s)
def loose : List Str := ["_wall", "WeaveError", "NoNode", "is_whole", "is_whole_within", "is_truth", "are_wholes", "is_list_of_wholes", "need", "run_firing", "MOST_LATE", "MOST_BEGIN", "Node", "MOST_TAPS", "Taps", "MOST_RATE", "Up", "Down", "Resample", "_law_cell", "_law_pot", "_law_draw", "_law_number", "_law_numbers", "_law_sample", "_law_given", "_law_fired", "_law_by_three", "_law_right"]
theorem run (w : World) : HandSHeadRun.RunEq R (PySem.W.view R.prog [36]) hk ob 9000 loose w := by
  intro os
  kernel_rfl
theorem facts {P : Program} {w : World} {K : PySem.W.Frag} {h : Heap} {mg : Str → Option Value} {f : Addr} (X : K.In h) (G : h.Ns mainGlobals mg) (hfa : mg ("law" : Str) = some (.ref f)) (cx : ex K = true) (c : He.SaysD fa fn K) :
    ∃ fd : FuncData, (∀ (s : Shared) (v : Value), BindsTo s fd ⟨[v], []⟩ [("_law_script", v)]) ∧ ∀ base : Heap, K.In base → base.Ns mainGlobals mg → FnG P w K mg base CX0 8 f fd ["_law_script"] (spLaw K) := by
  unfold ex at cx
  obtain ⟨d_is_whole, F_is_whole⟩ := c.def_ 0 (d := dfn "is_whole" sWhole) rfl
  have g_is_whole := He.glo_ok X G (c.fact 0 (f := .glo "is_whole") rfl)
  have b_is_whole : Binds K d_is_whole ["thing"] [] := FunD.bindsN F_is_whole fun _ _ _ _ _ _ us hl => match us, hl with | [_], _ => rfl
  obtain ⟨d_is_whole_within, F_is_whole_within⟩ := c.def_ 1 (d := dfn "is_whole_within" sWithin) rfl
  have g_is_whole_within := He.glo_ok X G (c.fact 1 (f := .glo "is_whole_within") rfl)
  have b_is_whole_within : Binds K d_is_whole_within ["thing", "least", "most"] [] := FunD.bindsN F_is_whole_within fun _ _ _ _ _ _ us hl => match us, hl with | [_, _, _], _ => rfl
  obtain ⟨d_is_truth, F_is_truth⟩ := c.def_ 2 (d := dfn "is_truth" sTruth) rfl
  have g_is_truth := He.glo_ok X G (c.fact 2 (f := .glo "is_truth") rfl)
  have b_is_truth : Binds K d_is_truth ["thing"] [] := FunD.bindsN F_is_truth fun _ _ _ _ _ _ us hl => match us, hl with | [_], _ => rfl
  obtain ⟨d_are_wholes, F_are_wholes⟩ := c.def_ 3 (d := dfn "are_wholes" sWholes) rfl
  have g_are_wholes := He.glo_ok X G (c.fact 3 (f := .glo "are_wholes") rfl)
  have b_are_wholes : Binds K d_are_wholes ["things"] [] := FunD.bindsN F_are_wholes fun _ _ _ _ _ _ us hl => match us, hl with | [_], _ => rfl
  obtain ⟨d_is_list_of_wholes, F_is_list_of_wholes⟩ := c.def_ 4 (d := dfn "is_list_of_wholes" sListOf) rfl
  have g_is_list_of_wholes := He.glo_ok X G (c.fact 4 (f := .glo "is_list_of_wholes") rfl)
  have b_is_list_of_wholes : Binds K d_is_list_of_wholes ["thing", "least", "most"] [] := FunD.bindsN F_is_list_of_wholes fun _ _ _ _ _ _ us hl => match us, hl with | [_, _, _], _ => rfl
  obtain ⟨d_need, F_need⟩ := c.def_ 5 (d := dfn "need" sNeed) rfl
  have g_need := He.glo_ok X G (c.fact 5 (f := .glo "need") rfl)
  have b_need : Binds K d_need ["holds", "field"] [] := FunD.bindsN F_need fun _ _ _ _ _ _ us hl => match us, hl with | [_, _], _ => rfl
  obtain ⟨d_run_firing, F_run_firing⟩ := c.def_ 6 (d := dfn "run_firing" sFiring) rfl
  have g_run_firing := He.glo_ok X G (c.fact 6 (f := .glo "run_firing") rfl)
  have b_run_firing : Binds K d_run_firing ["node", "memory", "rows"] [] := FunD.bindsN F_run_firing fun _ _ _ _ _ _ us hl => match us, hl with | [_, _, _], _ => rfl
  obtain ⟨d__law_cell, F__law_cell⟩ := c.def_ 7 (d := dfn "_law_cell" sCell) rfl
  have g__law_cell := He.glo_ok X G (c.fact 7 (f := .glo "_law_cell") rfl)
  have b__law_cell : Binds K d__law_cell ["_law_script", "_law_k"] [] := FunD.bindsN F__law_cell fun _ _ _ _ _ _ us hl => match us, hl with | [_, _], _ => rfl
  obtain ⟨d__law_pot, F__law_pot⟩ := c.def_ 8 (d := dfn "_law_pot" sPot) rfl
  have g__law_pot := He.glo_ok X G (c.fact 8 (f := .glo "_law_pot") rfl)
  have b__law_pot : Binds K d__law_pot ["_law_cell_here"] [] := FunD.bindsN F__law_pot fun _ _ _ _ _ _ us hl => match us, hl with | [_], _ => rfl
  obtain ⟨d__law_draw, F__law_draw⟩ := c.def_ 9 (d := dfn "_law_draw" sDraw) rfl
  have g__law_draw := He.glo_ok X G (c.fact 9 (f := .glo "_law_draw") rfl)
  have b__law_draw : Binds K d__law_draw ["_law_pot_here", "_law_many"] [] := FunD.bindsN F__law_draw fun _ _ _ _ _ _ us hl => match us, hl with | [_, _], _ => rfl
  obtain ⟨d__law_number, F__law_number⟩ := c.def_ 10 (d := dfn "_law_number" sNumber) rfl
  have g__law_number := He.glo_ok X G (c.fact 10 (f := .glo "_law_number") rfl)
  have b__law_number : Binds K d__law_number ["_law_pot_here"] [] := FunD.bindsN F__law_number fun _ _ _ _ _ _ us hl => match us, hl with | [_], _ => rfl
  obtain ⟨d__law_numbers, F__law_numbers⟩ := c.def_ 11 (d := dfn "_law_numbers" sNumbers) rfl
  have g__law_numbers := He.glo_ok X G (c.fact 11 (f := .glo "_law_numbers") rfl)
  have b__law_numbers : Binds K d__law_numbers ["_law_pot_here", "_law_most"] [] := FunD.bindsN F__law_numbers fun _ _ _ _ _ _ us hl => match us, hl with | [_, _], _ => rfl
  obtain ⟨d__law_sample, F__law_sample⟩ := c.def_ 12 (d := dfn "_law_sample" sLSample) rfl
  have g__law_sample := He.glo_ok X G (c.fact 12 (f := .glo "_law_sample") rfl)
  have b__law_sample : Binds K d__law_sample ["_law_stream", "_law_width", "_law_at"] [] := FunD.bindsN F__law_sample fun _ _ _ _ _ _ us hl => match us, hl with | [_, _, _], _ => rfl
  obtain ⟨d__law_given, F__law_given⟩ := c.def_ 13 (d := dfn "_law_given" sLGiven) rfl
  have g__law_given := He.glo_ok X G (c.fact 13 (f := .glo "_law_given") rfl)
  have b__law_given : Binds K d__law_given ["_law_stream", "_law_up", "_law_down", "_law_numbers_here", "_law_firing"] [] := FunD.bindsN F__law_given fun _ _ _ _ _ _ us hl => match us, hl with | [_, _, _, _, _], _ => rfl
  obtain ⟨d__law_fired, F__law_fired⟩ := c.def_ 14 (d := dfn "_law_fired" sLFired) rfl
  have g__law_fired := He.glo_ok X G (c.fact 14 (f := .glo "_law_fired") rfl)
  have b__law_fired : Binds K d__law_fired ["_law_node", "_law_memory", "_law_samples"] [] := FunD.bindsN F__law_fired fun _ _ _ _ _ _ us hl => match us, hl with | [_, _, _], _ => rfl
  obtain ⟨d__law_by_three, F__law_by_three⟩ := c.def_ 15 (d := dfn "_law_by_three" sLByThree) rfl
  have g__law_by_three := He.glo_ok X G (c.fact 15 (f := .glo "_law_by_three") rfl)
  have b__law_by_three : Binds K d__law_by_three ["_law_three", "_law_memories", "_law_samples"] [] := FunD.bindsN F__law_by_three fun _ _ _ _ _ _ us hl => match us, hl with | [_, _, _], _ => rfl
  obtain ⟨d__law_right, F__law_right⟩ := c.def_ 16 (d := dfn "_law_right" sLRight) rfl
  have g__law_right := He.glo_ok X G (c.fact 16 (f := .glo "_law_right") rfl)
  have b__law_right : Binds K d__law_right ["_law_pot_here", "_law_up", "_law_down", "_law_numbers_here"] [] := FunD.bindsN F__law_right fun _ _ _ _ _ _ us hl => match us, hl with | [_, _, _, _], _ => rfl
  obtain ⟨d_law, F_law⟩ := c.def_ 17 (d := dfn "law" sLaw) rfl
  have e := hfa.symm.trans (He.glo_ok X G (c.fact 17 (f := .glo "law") rfl))
  cases e
  have bL := FunD.bindsA (ps := ["_law_script"]) F_law fun _ _ _ _ _ _ us hl => match us, hl with | [_], _ => rfl
  obtain ⟨d_Node_DinitD, F_Node_DinitD⟩ := c.def_ 18 (d := (⟨("Node", some "__init__"), "__init__", "Node.__init__", defArgs sNodeInit, defBody sNodeInit, defScope sNodeInit, [], []⟩ : He.DefD)) rfl
  have b_Node_DinitD : Binds K d_Node_DinitD ["self", "arguments", "late", "begin"] [] := FunD.bindsN F_Node_DinitD fun _ _ _ _ _ _ us hl => match us, hl with | [_, _, _, _], _ => rfl
  obtain ⟨d_Up_DinitD, F_Up_DinitD⟩ := c.def_ 19 (d := (⟨("Up", some "__init__"), "__init__", "Up.__init__", defArgs sUpInit, defBody sUpInit, defScope sUpInit, [.bl false], [("late", .int 0), ("begin", .int 0)]⟩ : He.DefD)) rfl
  obtain ⟨d_Up_takes, F_Up_takes⟩ := c.def_ 20 (d := (⟨("Up", some "takes"), "takes", "Up.takes", defArgs sUpTakes, defBody sUpTakes, defScope sUpTakes, [], []⟩ : He.DefD)) rfl
  have b_Up_takes : Binds K d_Up_takes ["self"] [] := FunD.bindsN F_Up_takes fun _ _ _ _ _ _ us hl => match us, hl with | [_], _ => rfl
  obtain ⟨d_Up_fresh, F_Up_fresh⟩ := c.def_ 21 (d := (⟨("Up", some "fresh"), "fresh", "Up.fresh", defArgs sUpFresh, defBody sUpFresh, defScope sUpFresh, [], []⟩ : He.DefD)) rfl
  have b_Up_fresh : Binds K d_Up_fresh ["self"] [] := FunD.bindsN F_Up_fresh fun _ _ _ _ _ _ us hl => match us, hl with | [_], _ => rfl
  obtain ⟨d_Up_fire, F_Up_fire⟩ := c.def_ 22 (d := (⟨("Up", some "fire"), "fire", "Up.fire", defArgs sUpFire, defBody sUpFire, defScope sUpFire, [], []⟩ : He.DefD)) rfl
  have b_Up_fire : Binds K d_Up_fire ["self", "memory", "rows"] [] := FunD.bindsN F_Up_fire fun _ _ _ _ _ _ us hl => match us, hl with | [_, _, _], _ => rfl
  obtain ⟨d_Up_work, F_Up_work⟩ := c.def_ 23 (d := (⟨("Up", some "work"), "work", "Up.work", defArgs sUpWork, defBody sUpWork, defScope sUpWork, [], []⟩ : He.DefD)) rfl
  have b_Up_work : Binds K d_Up_work ["self", "kept", "rows"] [] := FunD.bindsN F_Up_work fun _ _ _ _ _ _ us hl => match us, hl with | [_, _, _], _ => rfl
  obtain ⟨d_Down_DinitD, F_Down_DinitD⟩ := c.def_ 24 (d := (⟨("Down", some "__init__"), "__init__", "Down.__init__", defArgs sDownInit, defBody sDownInit, defScope sDownInit, [], [("late", .int 0), ("begin", .int 0)]⟩ : He.DefD)) rfl
  obtain ⟨d_Down_takes, F_Down_takes⟩ := c.def_ 25 (d := (⟨("Down", some "takes"), "takes", "Down.takes", defArgs sDownTakes, defBody sDownTakes, defScope sDownTakes, [], []⟩ : He.DefD)) rfl
  have b_Down_takes : Binds K d_Down_takes ["self"] [] := FunD.bindsN F_Down_takes fun _ _ _ _ _ _ us hl => match us, hl with | [_], _ => rfl
  obtain ⟨d_Down_fresh, F_Down_fresh⟩ := c.def_ 26 (d := (⟨("Down", some "fresh"), "fresh", "Down.fresh", defArgs sDownFresh, defBody sDownFresh, defScope sDownFresh, [], []⟩ : He.DefD)) rfl
  have b_Down_fresh : Binds K d_Down_fresh ["self"] [] := FunD.bindsN F_Down_fresh fun _ _ _ _ _ _ us hl => match us, hl with | [_], _ => rfl
  obtain ⟨d_Down_fire, F_Down_fire⟩ := c.def_ 27 (d := (⟨("Down", some "fire"), "fire", "Down.fire", defArgs sDownFire, defBody sDownFire, defScope sDownFire, [], []⟩ : He.DefD)) rfl
  have b_Down_fire : Binds K d_Down_fire ["self", "memory", "rows"] [] := FunD.bindsN F_Down_fire fun _ _ _ _ _ _ us hl => match us, hl with | [_, _, _], _ => rfl
  obtain ⟨d_Down_work, F_Down_work⟩ := c.def_ 28 (d := (⟨("Down", some "work"), "work", "Down.work", defArgs sDownWork, defBody sDownWork, defScope sDownWork, [], []⟩ : He.DefD)) rfl
  have b_Down_work : Binds K d_Down_work ["self", "kept", "rows"] [] := FunD.bindsN F_Down_work fun _ _ _ _ _ _ us hl => match us, hl with | [_, _, _], _ => rfl
  obtain ⟨d_Taps_DinitD, F_Taps_DinitD⟩ := c.def_ 29 (d := (⟨("Taps", some "__init__"), "__init__", "Taps.__init__", defArgs sTapsInit, defBody sTapsInit, defScope sTapsInit, [], [("late", .int 0), ("begin", .int 0)]⟩ : He.DefD)) rfl
  obtain ⟨d_Taps_takes, F_Taps_takes⟩ := c.def_ 30 (d := (⟨("Taps", some "takes"), "takes", "Taps.takes", defArgs sTapsTakes, defBody sTapsTakes, defScope sTapsTakes, [], []⟩ : He.DefD)) rfl
  have b_Taps_takes : Binds K d_Taps_takes ["self"] [] := FunD.bindsN F_Taps_takes fun _ _ _ _ _ _ us hl => match us, hl with | [_], _ => rfl
  obtain ⟨d_Taps_fresh, F_Taps_fresh⟩ := c.def_ 31 (d := (⟨("Taps", some "fresh"), "fresh", "Taps.fresh", defArgs sTapsFresh, defBody sTapsFresh, defScope sTapsFresh, [], []⟩ : He.DefD)) rfl
  have b_Taps_fresh : Binds K d_Taps_fresh ["self"] [] := FunD.bindsN F_Taps_fresh fun _ _ _ _ _ _ us hl => match us, hl with | [_], _ => rfl
  obtain ⟨d_Taps_fire, F_Taps_fire⟩ := c.def_ 32 (d := (⟨("Taps", some "fire"), "fire", "Taps.fire", defArgs sTapsFire, defBody sTapsFire, defScope sTapsFire, [], []⟩ : He.DefD)) rfl
  have b_Taps_fire : Binds K d_Taps_fire ["self", "memory", "rows"] [] := FunD.bindsN F_Taps_fire fun _ _ _ _ _ _ us hl => match us, hl with | [_, _, _], _ => rfl
  obtain ⟨d_Taps_work, F_Taps_work⟩ := c.def_ 33 (d := (⟨("Taps", some "work"), "work", "Taps.work", defArgs sTapsWork, defBody sTapsWork, defScope sTapsWork, [], []⟩ : He.DefD)) rfl
  have b_Taps_work : Binds K d_Taps_work ["self", "kept", "rows"] [] := FunD.bindsN F_Taps_work fun _ _ _ _ _ _ us hl => match us, hl with | [_, _, _], _ => rfl
  obtain ⟨d_Resample_DinitD, F_Resample_DinitD⟩ := c.def_ 34 (d := (⟨("Resample", some "__init__"), "__init__", "Resample.__init__", defArgs sResampleInit, defBody sResampleInit, defScope sResampleInit, [], [("late", .int 0), ("begin", .int 0)]⟩ : He.DefD)) rfl
  obtain ⟨d_Resample_takes, F_Resample_takes⟩ := c.def_ 35 (d := (⟨("Resample", some "takes"), "takes", "Resample.takes", defArgs sResampleTakes, defBody sResampleTakes, defScope sResampleTakes, [], []⟩ : He.DefD)) rfl
  have b_Resample_takes : Binds K d_Resample_takes ["self"] [] := FunD.bindsN F_Resample_takes fun _ _ _ _ _ _ us hl => match us, hl with | [_], _ => rfl
  obtain ⟨d_Resample_fresh, F_Resample_fresh⟩ := c.def_ 36 (d := (⟨("Resample", some "fresh"), "fresh", "Resample.fresh", defArgs sResampleFresh, defBody sResampleFresh, defScope sResampleFresh, [], []⟩ : He.DefD)) rfl
  have b_Resample_fresh : Binds K d_Resample_fresh ["self"] [] := FunD.bindsN F_Resample_fresh fun _ _ _ _ _ _ us hl => match us, hl with | [_], _ => rfl
  obtain ⟨d_Resample_fire, F_Resample_fire⟩ := c.def_ 37 (d := (⟨("Resample", some "fire"), "fire", "Resample.fire", defArgs sResampleFire, defBody sResampleFire, defScope sResampleFire, [], []⟩ : He.DefD)) rfl
  have b_Resample_fire : Binds K d_Resample_fire ["self", "memory", "rows"] [] := FunD.bindsN F_Resample_fire fun _ _ _ _ _ _ us hl => match us, hl with | [_, _, _], _ => rfl
  obtain ⟨d_Resample_work, F_Resample_work⟩ := c.def_ 38 (d := (⟨("Resample", some "work"), "work", "Resample.work", defArgs sResampleWork, defBody sResampleWork, defScope sResampleWork, [], []⟩ : He.DefD)) rfl
  have b_Resample_work : Binds K d_Resample_work ["self", "kept", "rows"] [] := FunD.bindsN F_Resample_work fun _ _ _ _ _ _ us hl => match us, hl with | [_, _, _], _ => rfl
  obtain ⟨d_Resample_gives, F_Resample_gives⟩ := c.def_ 39 (d := (⟨("Resample", some "gives"), "gives", "Resample.gives", defArgs sResampleGives, defBody sResampleGives, defScope sResampleGives, [], []⟩ : He.DefD)) rfl
  have b_Resample_gives : Binds K d_Resample_gives ["self"] [] := FunD.bindsN F_Resample_gives fun _ _ _ _ _ _ us hl => match us, hl with | [_], _ => rfl
  obtain ⟨d_Resample_tapped, F_Resample_tapped⟩ := c.def_ 40 (d := (⟨("Resample", some "tapped"), "tapped", "Resample.tapped", defArgs sResampleTapped, defBody sResampleTapped, defScope sResampleTapped, [], []⟩ : He.DefD)) rfl
  have b_Resample_tapped : Binds K d_Resample_tapped ["self", "spread", "at"] [] := FunD.bindsN F_Resample_tapped fun _ _ _ _ _ _ us hl => match us, hl with | [_, _, _], _ => rfl
  have z_len := He.free_ok X G (c.fact 18 (f := .free "len") rfl)
  have z_max := He.free_ok X G (c.fact 19 (f := .free "max") rfl)
  have z_min := He.free_ok X G (c.fact 20 (f := .free "min") rfl)
  have z_range := He.free_ok X G (c.fact 21 (f := .free "range") rfl)
  have z_isinstance := He.free_ok X G (c.fact 22 (f := .free "isinstance") rfl)
  have z_int := He.free_ok X G (c.fact 23 (f := .free "int") rfl)
  have z_bool := He.free_ok X G (c.fact 24 (f := .free "bool") rfl)
  have z_list := He.free_ok X G (c.fact 25 (f := .free "list") rfl)
  have z_tuple := He.free_ok X G (c.fact 26 (f := .free "tuple") rfl)
  have z_repr := He.free_ok X G (c.fact 27 (f := .free "repr") rfl)
  have z_all := He.free_ok X G (c.fact 28 (f := .free "all") rfl)
  have z_sum := He.free_ok X G (c.fact 29 (f := .free "sum") rfl)
  have z_zip := He.free_ok X G (c.fact 30 (f := .free "zip") rfl)
  have z_enumerate := He.free_ok X G (c.fact 31 (f := .free "enumerate") rfl)
  have z_MOST_LATE := He.int_ok X G (c.fact 32 (f := .int "MOST_LATE" 99) rfl)
  have z_MOST_BEGIN := He.int_ok X G (c.fact 33 (f := .int "MOST_BEGIN" 9999) rfl)
  have z_MOST_TAPS := He.int_ok X G (c.fact 34 (f := .int "MOST_TAPS" 12) rfl)
  have z_MOST_RATE := He.int_ok X G (c.fact 35 (f := .int "MOST_RATE" 8) rfl)
  have G_Node := He.glo_ok X G (c.fact 36 (f := .glo "Node") rfl)
  have G_Up := He.glo_ok X G (c.fact 37 (f := .glo "Up") rfl)
  have G_Down := He.glo_ok X G (c.fact 38 (f := .glo "Down") rfl)
  have G_Taps := He.glo_ok X G (c.fact 39 (f := .glo "Taps") rfl)
  have G_Resample := He.glo_ok X G (c.fact 40 (f := .glo "Resample") rfl)
  have c_Up := He.cls_ok (c.fact 41 (f := .cls "Up") rfl)
  have n_Up_made := He.noat_ok (c.fact 42 (f := .noat "Up" "made") rfl)
  have n_Up_late_by := He.noat_ok (c.fact 43 (f := .noat "Up" "late_by") rfl)
  have n_Up_begin_at := He.noat_ok (c.fact 44 (f := .noat "Up" "begin_at") rfl)
  have n_Up_many := He.noat_ok (c.fact 45 (f := .noat "Up" "many") rfl)
  have n_Up_hold := He.noat_ok (c.fact 46 (f := .noat "Up" "hold") rfl)
  have mk_Up := He.mkr_ok (c.fact 47 (f := .mkr "Up") rfl)
  have m_Up_takes := He.meth_ok (c.fact 48 (f := .meth "Up" "takes") rfl)
  have m_Up_fresh := He.meth_ok (c.fact 49 (f := .meth "Up" "fresh") rfl)
  have m_Up_fire := He.meth_ok (c.fact 50 (f := .meth "Up" "fire") rfl)
  have m_Up_work := He.meth_ok (c.fact 51 (f := .meth "Up" "work") rfl)
  have c_Down := He.cls_ok (c.fact 52 (f := .cls "Down") rfl)
  have n_Down_made := He.noat_ok (c.fact 53 (f := .noat "Down" "made") rfl)
  have n_Down_late_by := He.noat_ok (c.fact 54 (f := .noat "Down" "late_by") rfl)
  have n_Down_begin_at := He.noat_ok (c.fact 55 (f := .noat "Down" "begin_at") rfl)
  have n_Down_many := He.noat_ok (c.fact 56 (f := .noat "Down" "many") rfl)
  have mk_Down := He.mkr_ok (c.fact 57 (f := .mkr "Down") rfl)
  have m_Down_takes := He.meth_ok (c.fact 58 (f := .meth "Down" "takes") rfl)
  have m_Down_fresh := He.meth_ok (c.fact 59 (f := .meth "Down" "fresh") rfl)
  have m_Down_fire := He.meth_ok (c.fact 60 (f := .meth "Down" "fire") rfl)
  have m_Down_work := He.meth_ok (c.fact 61 (f := .meth "Down" "work") rfl)
  have c_Taps := He.cls_ok (c.fact 62 (f := .cls "Taps") rfl)
  have n_Taps_made := He.noat_ok (c.fact 63 (f := .noat "Taps" "made") rfl)
  have n_Taps_late_by := He.noat_ok (c.fact 64 (f := .noat "Taps" "late_by") rfl)
  have n_Taps_begin_at := He.noat_ok (c.fact 65 (f := .noat "Taps" "begin_at") rfl)
  have n_Taps_numbers := He.noat_ok (c.fact 66 (f := .noat "Taps" "numbers") rfl)
  have mk_Taps := He.mkr_ok (c.fact 67 (f := .mkr "Taps") rfl)
  have m_Taps_takes := He.meth_ok (c.fact 68 (f := .meth "Taps" "takes") rfl)
  have m_Taps_fresh := He.meth_ok (c.fact 69 (f := .meth "Taps" "fresh") rfl)
  have m_Taps_fire := He.meth_ok (c.fact 70 (f := .meth "Taps" "fire") rfl)
  have m_Taps_work := He.meth_ok (c.fact 71 (f := .meth "Taps" "work") rfl)
  have c_Resample := He.cls_ok (c.fact 72 (f := .cls "Resample") rfl)
  have n_Resample_made := He.noat_ok (c.fact 73 (f := .noat "Resample" "made") rfl)
  have n_Resample_late_by := He.noat_ok (c.fact 74 (f := .noat "Resample" "late_by") rfl)
  have n_Resample_begin_at := He.noat_ok (c.fact 75 (f := .noat "Resample" "begin_at") rfl)
  have n_Resample_numbers := He.noat_ok (c.fact 76 (f := .noat "Resample" "numbers") rfl)
  have n_Resample_up := He.noat_ok (c.fact 77 (f := .noat "Resample" "up") rfl)
  have n_Resample_down := He.noat_ok (c.fact 78 (f := .noat "Resample" "down") rfl)
  have mk_Resample := He.mkr_ok (c.fact 79 (f := .mkr "Resample") rfl)
  have m_Resample_takes := He.meth_ok (c.fact 80 (f := .meth "Resample" "takes") rfl)
  have m_Resample_fresh := He.meth_ok (c.fact 81 (f := .meth "Resample" "fresh") rfl)
  have m_Resample_fire := He.meth_ok (c.fact 82 (f := .meth "Resample" "fire") rfl)
  have m_Resample_work := He.meth_ok (c.fact 83 (f := .meth "Resample" "work") rfl)
  have m_Resample_gives := He.meth_ok (c.fact 84 (f := .meth "Resample" "gives") rfl)
  have m_Resample_tapped := He.meth_ok (c.fact 85 (f := .meth "Resample" "tapped") rfl)
  obtain ⟨dsU, vU, bU⟩ := FunD.binds (ps := ["self", "many", "hold", "late", "begin"]) F_Up_DinitD 2 0 (by intro z; cases z) rfl (by
      intro T D doc pm an cdv ct us its ks l1 l2 l3
      match us, its, ks, l1, l2, l3 with
      | [_, _], [_], [_, _], _, _, _ => exact ⟨_, rfl, _, _, _, _, _, _, rfl, rfl, _, _, _, _, _, _, rfl, rfl, rfl⟩) (by intro z; cases z)
  obtain ⟨dsD, vD, bD⟩ := FunD.binds0 (ps := ["self", "many", "late", "begin"]) F_Down_DinitD 2 (by intro z; cases z) rfl (by
      intro D doc pm an cdv ct us ks l1 l2
      match us, ks, l1, l2 with
      | [_, _], [_, _], _, _ => exact ⟨_, _, _, _, _, _, rfl, rfl, _, _, _, _, _, _, rfl, rfl, rfl⟩)
  obtain ⟨dsT, vT, bT⟩ := FunD.binds0 (ps := ["self", "numbers", "late", "begin"]) F_Taps_DinitD 2 (by intro z; cases z) rfl (by
      intro D doc pm an cdv ct us ks l1 l2
      match us, ks, l1, l2 with
      | [_, _], [_, _], _, _ => exact ⟨_, _, _, _, _, _, rfl, rfl, _, _, _, _, _, _, rfl, rfl, rfl⟩)
  obtain ⟨dsR, vR, bR⟩ := FunD.binds0 (ps := ["self", "up", "down", "numbers", "late", "begin"]) F_Resample_DinitD 4 (by intro z; cases z) rfl (by
      intro D doc pm an cdv ct us ks l1 l2
      match us, ks, l1, l2 with
      | [_, _, _, _], [_, _], _, _ => exact ⟨_, _, _, _, _, _, rfl, rfl, _, _, _, _, _, _, rfl, rfl, rfl⟩)
  refine ⟨d_law, fun s v => bL s [v] rfl, fun base _ _ => ?_⟩
  have T_Up : NodeC K (He.ga K "Up") := ⟨c_Up, n_Up_made, n_Up_late_by, n_Up_begin_at⟩
  have T_Down : NodeC K (He.ga K "Down") := ⟨c_Down, n_Down_made, n_Down_late_by, n_Down_begin_at⟩
  have T_Taps : NodeC K (He.ga K "Taps") := ⟨c_Taps, n_Taps_made, n_Taps_late_by, n_Taps_begin_at⟩
  have T_Resample : NodeC K (He.ga K "Resample") := ⟨c_Resample, n_Resample_made, n_Resample_late_by, n_Resample_begin_at⟩
  have G0 : FnOk P w K mg base CX0 1 _ d_is_whole ["thing"] (spWhole K) := ok_whole F_is_whole z_isinstance z_int z_bool
  have G1 : FnOk P w K mg base CX0 2 _ d_is_whole_within ["thing", "least", "most"] (spWithin K) := ok_within F_is_whole_within G0 g_is_whole F_is_whole.kp b_is_whole
  have G2 : FnOk P w K mg base CX0 1 _ d_need ["holds", "field"] spNeed := ok_need F_need
  have G3 : FnOk P w K mg base CX0 2 _ d_are_wholes ["things"] (spWholes K) := ok_wholes F_are_wholes G0 g_is_whole F_is_whole.kp b_is_whole z_all
  have G4 : FnOk P w K mg base CX0 3 _ d_is_list_of_wholes ["thing", "least", "most"] (spListOf K) := ok_listOf F_is_list_of_wholes G3 g_are_wholes F_are_wholes.kp b_are_wholes z_isinstance z_list z_len
  have G5 : FnOk P w K mg base CX0 1 _ d_is_truth ["thing"] spTruth := ok_truth F_is_truth
  have G7 : FnOk P w K mg base CX0 1 _ d__law_draw ["_law_pot_here", "_law_many"] spDraw := ok_draw F__law_draw
  have G8 : FnOk P w K mg base CX0 2 _ d__law_number ["_law_pot_here"] spNumber := ok_number F__law_number F__law_draw g__law_draw z_range
  have G9 : FnOk P w K mg base CX0 3 _ d__law_numbers ["_law_pot_here", "_law_most"] spNumbers := ok_numbers F__law_numbers G7 g__law_draw F__law_draw.kp b__law_draw G8 g__law_number F__law_number.kp b__law_number z_range
  have NI_Up : FnOk P w K mg base CX0 3 _ d_Node_DinitD ["self", "arguments", "late", "begin"] (spNodeInit K (He.ga K "Up")) := ok_nodeInit F_Node_DinitD G2 g_need F_need.kp b_need G1 g_is_whole_within F_is_whole_within.kp b_is_whole_within z_MOST_LATE z_MOST_BEGIN T_Up
  have NI_Down : FnOk P w K mg base CX0 3 _ d_Node_DinitD ["self", "arguments", "late", "begin"] (spNodeInit K (He.ga K "Down")) := ok_nodeInit F_Node_DinitD G2 g_need F_need.kp b_need G1 g_is_whole_within F_is_whole_within.kp b_is_whole_within z_MOST_LATE z_MOST_BEGIN T_Down
  have NI_Taps : FnOk P w K mg base CX0 3 _ d_Node_DinitD ["self", "arguments", "late", "begin"] (spNodeInit K (He.ga K "Taps")) := ok_nodeInit F_Node_DinitD G2 g_need F_need.kp b_need G1 g_is_whole_within F_is_whole_within.kp b_is_whole_within z_MOST_LATE z_MOST_BEGIN T_Taps
  have NI_Resample : FnOk P w K mg base CX0 3 _ d_Node_DinitD ["self", "arguments", "late", "begin"] (spNodeInit K (He.ga K "Resample")) := ok_nodeInit F_Node_DinitD G2 g_need F_need.kp b_need G1 g_is_whole_within F_is_whole_within.kp b_is_whole_within z_MOST_LATE z_MOST_BEGIN T_Resample
  have I_Up := ok_upInit (P := P) (w := w) (mg := mg) (base := base) F_Up_DinitD G2 g_need F_need.kp b_need G1 g_is_whole_within F_is_whole_within.kp b_is_whole_within G5 g_is_truth F_is_truth.kp b_is_truth NI_Up G_Node (baseB_ok cx) b_Node_DinitD z_MOST_RATE T_Up n_Up_many n_Up_hold
  have I_Down := ok_downInit (P := P) (w := w) (mg := mg) (base := base) F_Down_DinitD G2 g_need F_need.kp b_need G1 g_is_whole_within F_is_whole_within.kp b_is_whole_within NI_Down G_Node (baseB_ok cx) b_Node_DinitD z_MOST_RATE T_Down n_Down_many
  have I_Taps := ok_tapsInit (P := P) (w := w) (mg := mg) (base := base) F_Taps_DinitD G2 g_need F_need.kp b_need G4 g_is_list_of_wholes F_is_list_of_wholes.kp b_is_list_of_wholes NI_Taps G_Node (baseB_ok cx) b_Node_DinitD z_MOST_TAPS z_list T_Taps n_Taps_numbers
  have I_Resample := ok_resInit (P := P) (w := w) (mg := mg) (base := base) F_Resample_DinitD G2 g_need F_need.kp b_need G1 g_is_whole_within F_is_whole_within.kp b_is_whole_within G4 g_is_list_of_wholes F_is_list_of_wholes.kp b_is_list_of_wholes NI_Resample G_Node (baseB_ok cx) b_Node_DinitD z_MOST_RATE z_MOST_TAPS z_list T_Resample n_Resample_numbers n_Resample_up n_Resample_down
  have GTp : FnOk P w K mg base CX0 1 _ d_Resample_tapped ["self", "spread", "at"] (spTapped (He.ga K "Resample", 3)) := ok_tapped F_Resample_tapped T_Resample n_Resample_numbers z_sum z_enumerate
  have W_Up : FnOk P w K mg base CX0 1 _ d_Up_work ["self", "kept", "rows"] (spRWork K ((He.ga K "Up"), 0)) := ok_upWork F_Up_work T_Up n_Up_many n_Up_hold
  have R_Up : FnOk P w K mg base CX0 2 _ d_run_firing ["node", "memory", "rows"] (spFiring0 K (He.ga K "Up") (spRWork K ((He.ga K "Up"), 0))) := ok_firing0 (k := 0) F_run_firing c_Up W_Up m_Up_work b_Up_work (wide_rWork _ _)
  have tk_Up := ok_upTakes (P := P) (w := w) (mg := mg) (base := base) (C := (He.ga K "Up")) F_Up_takes 
  have fr_Up := ok_upFresh (P := P) (w := w) (mg := mg) (base := base) F_Up_fresh T_Up
  have fi_Up := (ok_upFire F_Up_fire R_Up g_run_firing F_run_firing.kp b_run_firing).mono (show 3 ≤ 4 by decide)
  have W_Down : FnOk P w K mg base CX0 1 _ d_Down_work ["self", "kept", "rows"] (spRWork K ((He.ga K "Down"), 1)) := ok_downWork F_Down_work 
  have R_Down : FnOk P w K mg base CX0 2 _ d_run_firing ["node", "memory", "rows"] (spFiring0 K (He.ga K "Down") (spRWork K ((He.ga K "Down"), 1))) := ok_firing0 (k := 0) F_run_firing c_Down W_Down m_Down_work b_Down_work (wide_rWork _ _)
  have tk_Down := ok_downTakes (P := P) (w := w) (mg := mg) (base := base) (C := (He.ga K "Down")) F_Down_takes T_Down n_Down_many
  have fr_Down := ok_downFresh (P := P) (w := w) (mg := mg) (base := base) F_Down_fresh T_Down
  have fi_Down := (ok_downFire F_Down_fire R_Down g_run_firing F_run_firing.kp b_run_firing).mono (show 3 ≤ 4 by decide)
  have W_Taps : FnOk P w K mg base CX0 1 _ d_Taps_work ["self", "kept", "rows"] (spRWork K ((He.ga K "Taps"), 2)) := ok_tapsWork F_Taps_work T_Taps n_Taps_numbers z_sum z_zip
  have R_Taps : FnOk P w K mg base CX0 2 _ d_run_firing ["node", "memory", "rows"] (spFiring0 K (He.ga K "Taps") (spRWork K ((He.ga K "Taps"), 2))) := ok_firing0 (k := 0) F_run_firing c_Taps W_Taps m_Taps_work b_Taps_work (wide_rWork _ _)
  have tk_Taps := ok_tapsTakes (P := P) (w := w) (mg := mg) (base := base) (C := (He.ga K "Taps")) F_Taps_takes 
  have fr_Taps := ok_tapsFresh (P := P) (w := w) (mg := mg) (base := base) F_Taps_fresh T_Taps n_Taps_numbers z_len
  have fi_Taps := (ok_tapsFire F_Taps_fire R_Taps g_run_firing F_run_firing.kp b_run_firing).mono (show 3 ≤ 4 by decide)
  have W_Resample : FnOk P w K mg base CX0 2 _ d_Resample_work ["self", "kept", "rows"] (spRWork K ((He.ga K "Resample"), 3)) := ok_resampleWork F_Resample_work T_Resample n_Resample_up n_Resample_down c_Resample m_Resample_tapped GTp b_Resample_tapped z_list z_tuple z_len z_range
  have R_Resample : FnOk P w K mg base CX0 3 _ d_run_firing ["node", "memory", "rows"] (spFiring0 K (He.ga K "Resample") (spRWork K ((He.ga K "Resample"), 3))) := ok_firing0 (k := 1) F_run_firing c_Resample W_Resample m_Resample_work b_Resample_work (wide_rWork _ _)
  have tk_Resample := ok_resampleTakes (P := P) (w := w) (mg := mg) (base := base) (C := (He.ga K "Resample")) F_Resample_takes T_Resample n_Resample_down
  have fr_Resample := ok_resampleFresh (P := P) (w := w) (mg := mg) (base := base) F_Resample_fresh T_Resample n_Resample_numbers z_len
  have fi_Resample := (ok_resampleFire F_Resample_fire R_Resample g_run_firing F_run_firing.kp b_run_firing)
  have hT : ∀ A, A ∈ AsR (He.ga K "Up") (He.ga K "Down") (He.ga K "Taps") (He.ga K "Resample") → MethC P w K mg base 1 "takes" ["self"] (spRTakes K A) A.1 := fun A hA => by
    unfold AsR at hA
    simp only [List.mem_cons, List.not_mem_nil, or_false] at hA
    rcases hA with rfl | rfl | rfl | rfl
    · exact ⟨_, _, c_Up, m_Up_takes, tk_Up, b_Up_takes⟩
    · exact ⟨_, _, c_Down, m_Down_takes, tk_Down, b_Down_takes⟩
    · exact ⟨_, _, c_Taps, m_Taps_takes, tk_Taps, b_Taps_takes⟩
    · exact ⟨_, _, c_Resample, m_Resample_takes, tk_Resample, b_Resample_takes⟩
  have hFr : ∀ A, A ∈ AsR (He.ga K "Up") (He.ga K "Down") (He.ga K "Taps") (He.ga K "Resample") → MethC P w K mg base 1 "fresh" ["self"] (spRFresh K A) A.1 := fun A hA => by
    unfold AsR at hA
    simp only [List.mem_cons, List.not_mem_nil, or_false] at hA
    rcases hA with rfl | rfl | rfl | rfl
    · exact ⟨_, _, c_Up, m_Up_fresh, fr_Up, b_Up_fresh⟩
    · exact ⟨_, _, c_Down, m_Down_fresh, fr_Down, b_Down_fresh⟩
    · exact ⟨_, _, c_Taps, m_Taps_fresh, fr_Taps, b_Taps_fresh⟩
    · exact ⟨_, _, c_Resample, m_Resample_fresh, fr_Resample, b_Resample_fresh⟩
  have hI : ∀ A, A ∈ AsR (He.ga K "Up") (He.ga K "Down") (He.ga K "Taps") (He.ga K "Resample") → MethC P w K mg base 4 "fire" ["self", "memory", "rows"] (spRFire K A) A.1 := fun A hA => by
    unfold AsR at hA
    simp only [List.mem_cons, List.not_mem_nil, or_false] at hA
    rcases hA with rfl | rfl | rfl | rfl
    · exact ⟨_, _, c_Up, m_Up_fire, fi_Up, b_Up_fire⟩
    · exact ⟨_, _, c_Down, m_Down_fire, fi_Down, b_Down_fire⟩
    · exact ⟨_, _, c_Taps, m_Taps_fire, fi_Taps, b_Taps_fire⟩
    · exact ⟨_, _, c_Resample, m_Resample_fire, fi_Resample, b_Resample_fire⟩
  have GG := ok_resampleGives (P := P) (w := w) (mg := mg) (base := base) F_Resample_gives T_Resample n_Resample_up
  have GSa : FnOk P w K mg base CX0 1 _ d__law_sample ["_law_stream", "_law_width", "_law_at"] spSample := ok_sample F__law_sample
  have GGi : FnOk P w K mg base CX0 2 _ d__law_given ["_law_stream", "_law_up", "_law_down", "_law_numbers_here", "_law_firing"] spGiven := ok_given F__law_given GSa g__law_sample F__law_sample.kp b__law_sample z_range z_len z_sum
  have GFi := ok_fired (P := P) (w := w) (mg := mg) (base := base) F__law_fired hT hI z_range z_len
  have GBy := ok_byThree (P := P) (w := w) (mg := mg) (base := base) F__law_by_three GFi g__law_fired F__law_fired.kp b__law_fired z_range
  have GRi : FnG P w K mg base CX0 7 _ d__law_right ["_law_pot_here", "_law_up", "_law_down", "_law_numbers_here"] spRight := ok_right F__law_right G7 g__law_draw F__law_draw.kp b__law_draw G8 g__law_number F__law_number.kp b__law_number GGi g__law_given F__law_given.kp b__law_given GBy g__law_by_three F__law_by_three.kp b__law_by_three
    mk_Resample I_Resample G_Resample bR vR mk_Up I_Up G_Up bU vU mk_Taps I_Taps G_Taps bT vT mk_Down I_Down G_Down bD vD c_Resample m_Resample_gives GG b_Resample_gives hT hFr hI z_range z_list z_repr
  exact ok_law F_law (ok_cell F__law_cell z_len) g__law_cell F__law_cell.kp b__law_cell (ok_pot F__law_pot z_max) g__law_pot F__law_pot.kp b__law_pot G7 g__law_draw F__law_draw.kp b__law_draw G9 g__law_numbers F__law_numbers.kp b__law_numbers GRi g__law_right F__law_right.kp b__law_right z_range z_max z_min z_len
end Sw
open PySem PySem.W PySem.Calls PyProof.Rows
theorem PySem.Challenge.cw_sampleweave_k17_whole_resampled_holds : PySem.Challenge.rw_sampleweave_k17_whole_resampled.Holds := by
  w_on; o_law
  refine HandSHeadRun.head_any (r := OpenLaw.row PySem.Challenge.rw_sampleweave_k17_whole_resampled) (q := view (OpenLaw.row PySem.Challenge.rw_sampleweave_k17_whole_resampled).prog [36]) (H := Sw.hk) (ob := Sw.ob) (M := 9000) (loose := Sw.loose) (d := HandSHeadRun.topDef (OpenLaw.row PySem.Challenge.rw_sampleweave_k17_whole_resampled).prog 36) (kwd := []) Sw.ob_eq
    (by kernel_rfl) (fun s => by kernel_rfl) Sw.run (by kernel_rfl) (by kernel_rfl) (by kernel_rfl) (by rfl) (by first | assumption | decide +kernel) (by decide +kernel) ⟨rfl, rfl, rfl, rfl, rfl, by decide +kernel⟩ ?hw ?hc
  case hw => w_witness2
  case hc =>
    refine L2.walk_goes (l := PySem.Challenge.rw_sampleweave_k17_whole_resampled) (n := 63) (k := 8) (x := "_law_script") (CX := L2.CX0) rfl (by decide) (by kernel_rfl) ⟨rfl, by decide, by decide⟩ ?F (fun _ _ _ _ z => z)
    intro w mg fa h Y G hmg0
    obtain ⟨K, KX, cx, c⟩ := Y
    have hmg : mg ("law" : PySem.Str) = some (.ref fa) := by
      have e : (HandSHeadRun.topDef (OpenLaw.row PySem.Challenge.rw_sampleweave_k17_whole_resampled).prog 36).name = ("law" : PySem.Str) := by kernel_rfl
      rw [← e]
      exact hmg0
    obtain ⟨fd, hb, hF⟩ := Sw.facts (P := (PySem.Challenge.rw_sampleweave_k17_whole_resampled).prog) (w := w) KX G hmg cx c
    exact ⟨K, fd, Sw.spLaw K, KX, hb, fun H a ns hl _ hS => ⟨a, ns, rfl, hS, hl, fun _ => rfl⟩, hF⟩

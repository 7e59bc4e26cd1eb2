import PyProof.Rows.All
import Wide.All
import OpenK.AllK
import Wide.FinOn
import HandS.ForMost
import HandS.Style
import HandS.EndBits
import HandS.Wide
import HandS.SortKw
import HandS.Rev
import HandS.Flow
import PyProof.ReprRoads
import PyProof.TupleOfSeq
import PySem.Challenge.RW_oddrounds_k03_ranks_and_mirrors
set_option Elab.async false
set_option maxRecDepth 100000
set_option maxHeartbeats 4000000
set_option linter.all false
namespace KX
open PySem PySem.Spec L2
open PyProof.Rows hiding St
/-! sorted of a tuple of ints -/
section
variable {prog : Program} {w : World} {A : Around} {E : Value → Shared → Prop} {s : Shared}
theorem sortSeq {kw : List (Str × Value)} {b : Bool} {l : Addr} {T : String} {o : Obj} {vs : List Value} {n : Nat} {ns : List Int} {Q : Value → Shared → Prop}
    (hT : T = "list" ∨ T = "tuple") (ho : s.heap.get? l = some o) (hc : o.cls = .type T) (hd : o.data = .seq vs.toArray n) (hz : vs.length ≤ sizeLine) (hI : IntsAre vs ns)
    (hk : ∀ a, Builtin.«list.sort» ⟨[.ref a], kw⟩ = Builtin.«list.sort» ⟨[.ref a], [(Str.ofString "reverse", .bool b)]⟩)
    (ha1 : argsOk "sorted" ⟨[.ref l], kw⟩) (ha2 : ∀ a, argsOk "list.sort" ⟨[a], kw⟩)
    (h : ∀ (h1 h' : Heap) (p : Addr) (out : List Value) (ns' : List Int) (e : Nat), (∀ c u, s.heap.get? c = some u → h1.get? c = some u) → (∀ c u, h1.get? c = some u → h'.get? c = some u) → h1.objs.size ≤ p → h'.get? p = some (seqObj "list" out.toArray e) → IntsAre out ns' → ns'.Perm ns → OrdB b ns' →
      Q (.ref p) { s with heap := h' }) :
    wpAny (model prog w) A (call (.builtin "sorted") [.ref l] kw) Q E s := by
  refine call_function_entry_kw kind_sorted plain_sorted entry_sorted ha1 ?_
  unfold Builtin.«sorted»; refine wpAny_bind (m := checkCount "sorted" 1 1 _) (wpAny_pure ?_)
  refine wpAny_bind (wpAny_collect_seq l hT ho hc hd (fun h1 k1 => ?_) (by rw [List.size_toArray]; exact hz))
  rw [show vs.toArray.toList = vs by simp]
  refine wpAny_bind (wpAny_newList ?_ hz)
  have hp : (h1.push (seqObj "list" vs.toArray 0)).get? h1.objs.size = some (seqObj "list" vs.toArray 0) := Heap.get?_push_size _ rfl
  show wpAny _ _ _ _ _ { s with heap := h1.push (seqObj "list" vs.toArray 0) }
  refine wpAny_bind (wpAny_holding (wpAny_call_entry_kw slot_list_sort ⟨_, hp, rfl⟩ entry_list_sort ?_ (ha2 _)))
  rw [hk]
  refine SrtR.list_sort_ordR SrtO.swo_int hp hz (fun h2 => SrtO.ints_sortable hI h2) fun out hs hb => ⟨_, rfl, ?_⟩
  refine wpAny_pure ⟨_, rfl, ?_⟩
  obtain ⟨ns', i1, i2, i3⟩ := SrtR.ints_outR hI hs hb
  obtain ⟨ep, he⟩ := sortedHeap_at (vs := vs) (out := (if b = true then out.toArray.reverse else out.toArray)) hp
  refine h h1 _ _ (if b = true then out.toArray.reverse else out.toArray).toList ns' ep k1 (fun c u q => ?_) (Nat.le_refl _) (by rw [Array.toArray_toList]; exact he) i1 i2 i3
  have lt := Heap.lt_size q
  rw [sortedHeap_old (Nat.ne_of_lt lt) (by rw [size_push']; exact Nat.lt_succ_of_lt lt)]
  exact Heap.get?_push_of_some _ q
end

section
variable {X : Cx}
/-- sorted(t), sorted(t, reverse=b), t a tuple or a list of ints -/
def rSrt (K : PySem.W.Frag) (b : Bool) : List V → Hp → VK → Prop := fun vs H Q => ∃ (a : Addr) (ns : List Int), vs = [V.ref a] ∧ (SqL K H a (ns.map V.int) ∨ SqT K H a (ns.map V.int)) ∧
  ∀ (ns' : List Int) (p : Addr), ns'.Perm ns → OrdB b ns' → H p = none → Q (.ref p) (upd H p (.lst (ns'.map V.int)))
theorem srt_run {b : Bool} {kw : List (Str × Value)} {pins : List (Addr × Obj)} {s : Shared} {σ : St} {H : Hp} {a : Addr} {ns : List Int} {Q : VK} (I : Inv X pins σ H s) (hs : SqL X.K H a (ns.map V.int) ∨ SqT X.K H a (ns.map V.int))
    (hk : ∀ c, Builtin.«list.sort» ⟨[.ref c], kw⟩ = Builtin.«list.sort» ⟨[.ref c], [(Str.ofString "reverse", .bool b)]⟩) (ha1 : argsOk "sorted" ⟨[.ref a], kw⟩) (ha2 : ∀ c, argsOk "list.sort" ⟨[c], kw⟩)
    (q : ∀ (ns' : List Int) (p : Addr), ns'.Perm ns → OrdB b ns' → H p = none → Q (.ref p) (upd H p (.lst (ns'.map V.int)))) :
    wpAny (model X.prog X.w) X.A (call (.builtin "sorted") [.ref a] kw) (EP X pins σ Q) X.xe s := by
  have fin : ∀ (its : List Value), Vals (ns.map V.int) its → (ns.map V.int).length ≤ sizeLine → ∀ (h1 h' : Heap) (p : Addr) (out : List Value) (ns' : List Int) (e : Nat), (∀ c u, s.heap.get? c = some u → h1.get? c = some u) → (∀ c u, h1.get? c = some u → h'.get? c = some u) →
      h1.objs.size ≤ p → h'.get? p = some (seqObj "list" out.toArray e) → IntsAre out ns' → ns'.Perm ns → OrdB b ns' → EP X pins σ Q (.ref p) { s with heap := h' } := by
    intro its rv hz h1 h' p out ns' e k1 k2 hp he i1 i2 i3
    have I1 : Inv X pins σ H { s with heap := h1 } := I.kept (t' := s.toks) k1
    refine ⟨.ref p, upd H p (.lst (ns'.map V.int)), I1.laid (t' := s.toks) k2 hp (show ObjOk X.prog X.w _ h' p (.lst (ns'.map V.int)) from ⟨?_, out, e, vals_of_ints i1, he⟩), rfl, q ns' p i2 i3 (I1.hok.fresh hp)⟩
    rw [List.length_map, i2.length_eq]; rw [List.length_map] at hz; exact hz
  rcases hs with hs | hs
  · obtain ⟨its, rv, pl, hz⟩ := I.list hs
    obtain ⟨o, ho, hc, n, hd⟩ := pl.isList
    exact sortSeq (.inl rfl) ho hc hd (by rw [← rv.length]; exact hz) rv.ints hk ha1 ha2 (fin its rv hz)
  · obtain ⟨its, rv, ⟨o, ho, hc, n, hd⟩, hz⟩ := I.tuple hs
    exact sortSeq (.inr rfl) ho hc hd (by rw [← rv.length]; exact hz) rv.ints hk ha1 ha2 (fin its rv hz)
theorem sort_nokw (a : Addr) : Builtin.«list.sort» ⟨[.ref a], []⟩ = Builtin.«list.sort» ⟨[.ref a], [(Str.ofString "reverse", .bool false)]⟩ := by
  rw [list_sort_rev]
  first | rfl | kernel_rfl
theorem cr_srt : CallR X (.builtin "sorted") (rSrt X.K false) := by
  intro pins s σ H vs us Q I r ⟨a, ns, e, hs, q⟩
  subst e
  rw [Vals.ref1 r]
  exact srt_run I hs sort_nokw (args_sorted1 _) (fun _ => args_list_sort _) q
theorem cr_srtRev {b : Bool} : CallRK X (.builtin "sorted") [Str.ofString "reverse"] (fun vs zs H Q => zs = [.bl b] ∧ rSrt X.K b vs H Q) := by
  intro pins s σ H vs zs us ws Q I r rz ⟨ez, a, ns, e, hs, q⟩
  subst e ez
  rw [Vals.ref1 r]
  obtain ⟨w1, rfl, e1⟩ := vals1 rz
  obtain rfl : w1 = Value.bool b := e1
  exact srt_run I hs (fun _ => rfl) (args_sorted_rev _ _) (fun _ => args_list_sort_rev _ _) q
/-! a list's slice with a step -/
def pickV (xs : List V) (lo hi st : Option Int) : List V := (sliceRange (sliceBounds lo hi st xs.length).1 (sliceBounds lo hi st xs.length).2.1 (sliceBounds lo hi st xs.length).2.2).filterMap (xs[·]?)
theorem vals_pick {xs : List V} {us : List Value} (r : Vals xs us) : ∀ js : List Nat, Vals (js.filterMap (xs[·]?)) (js.filterMap (us[·]?))
  | [] => .nil
  | j :: js => by
    cases e : xs[j]? with
    | none =>
      rw [List.filterMap_cons_none e, List.filterMap_cons_none (r.none_of e)]; exact vals_pick r js
    | some x =>
      obtain ⟨u, hu, rv⟩ := r.get e
      rw [List.filterMap_cons_some e, List.filterMap_cons_some hu]
      exact .cons rv (vals_pick r js)
def tStep (K : PySem.W.Frag) (te : TE) (tl th ts : TO) : TE := fun σ H Q => te σ H fun x H1 => tl σ H1 fun l H2 => th σ H2 fun u H3 => ts σ H3 fun t H4 => t ≠ some 0 ∧ ∃ a xs, x = .ref a ∧ SqL K H4 a xs ∧ ∀ p, H4 p = none → Q (.ref p) (upd H4 p (.lst (pickV xs l u t)))
theorem pe_step {e s1 : Expr} {lo hi : Option Expr} {te : TE} {tl th ts : TO} {p2 pos : Pos} (he : PE X e te) (hl : PO X lo tl) (hu : PO X hi th) (hs : PO X (some s1) ts) : PE X (.Subscript e (.Slice lo hi (some s1) p2) pos) (tStep X.K te tl th ts) := by
  constructor
  intro pins s σ H Q I h
  refine Subscript_ (thn (he.run pins s σ H _ I h) fun v s1 ⟨x, H1, I1, r1, q1⟩ => ?_)
  refine wpAny_Slice (thn (hl.run pins s1 σ H1 _ I1 q1) fun vl s2 ⟨l, H2, I2, pl, q2⟩ => thn (hu.run pins s2 σ H2 _ I2 q2) fun vu s3 ⟨u, H3, I3, pu, q3⟩ => thn (hs.run pins s3 σ H3 _ I3 q3) fun vt s4 ⟨t, H4, I4, pt, hn, a, xs, ex, hx, q⟩ => ?_)
  subst ex
  cases r1
  have I5 : Inv X pins σ H4 { s4 with heap := s4.heap.push { cls := .type "slice", data := .fields #[vl, vu, vt] } } := I4.kept (t' := s4.toks) fun b o z => Heap.get?_push_of_some _ z
  obtain ⟨its, r, ht, hz⟩ := I5.list hx
  have hlen := r.length
  refine tail_any (ops := [.ref a, .ref s4.heap.objs.size]) ht.isList.typeIs (PySem.slot_list_getitem.lookup) ?_ (by with_unfolding_all rfl)
  refine wpAny_getItem_list_slice ht.isList (Heap.IsSliceOf.new _ vl vu vt) pl pu pt hn ?_ (by rw [List.size_toArray]; omega)
  have e1 : slicePick its.toArray l u t = ((sliceRange (sliceBounds l u t xs.length).1 (sliceBounds l u t xs.length).2.1 (sliceBounds l u t xs.length).2.2).filterMap (its[·]?)).toArray := by
    unfold slicePick; rw [List.size_toArray, hlen]; simp
  rw [e1]
  refine ⟨.ref _, _, I5.laid (t' := s4.toks) (o := .lst (pickV xs l u t)) (fun b o z => Heap.get?_push_of_some _ z) (Nat.le_refl _) ⟨?_, _, 0, vals_pick r _, Heap.get?_push_size _ rfl⟩, rfl, q _ (I5.hok.fresh (Nat.le_refl _))⟩
  have h1 := slicePick_size_le its.toArray l u t
  rw [e1, List.size_toArray, List.size_toArray] at h1
  have h2 := (vals_pick r (sliceRange (sliceBounds l u t xs.length).1 (sliceBounds l u t xs.length).2.1 (sliceBounds l u t xs.length).2.2)).length
  unfold pickV; omega
end
end KX

namespace KX
open PySem PySem.Spec L2
open PyProof.Rows hiding St
/-! a def whose callers run no repr: its promise -/
structure FnOkG (P : Program) (w : World) (K : PySem.W.Frag) (mg : Str → Option Value) (base : Heap) (CX : CXT) (k : Nat) (f : Addr) (fd : FuncData) (ps : List Str) (sp : Sp) : Prop where
  len : ∀ vs H Q E, sp vs H Q E → vs.length = ps.length
  run : ∀ (A : Around) (outer : List Env) (s : Shared) (H : Hp) (args : Args) (us : List Value) (vs : List V) (Q : VK) (E : XK), A.guards = some [] → Room k A → Env0 P w K mg base A outer s H → BindsTo s fd args (ps.zip us) → Vals vs us → sp vs H Q E →
    codeAny (model P w) A (.call (.ref f) args) (CR CX outer P w H s Q E) s
theorem FnOk.toG {P : Program} {w : World} {K : PySem.W.Frag} {mg : Str → Option Value} {base : Heap} {CX : CXT} {k : Nat} {f : Addr} {fd : FuncData} {ps : List Str} {sp : Sp} (F : FnOk P w K mg base CX k f fd ps sp) : FnOkG P w K mg base CX k f fd ps sp :=
  ⟨F.len, fun A outer s H args us vs Q E _ => F.run A outer s H args us vs Q E⟩
section
variable {CX : CXT} {P : Program} {w : World} {K : PySem.W.Frag} {mg : Str → Option Value} {base : Heap} {k : Nat} {f : Addr} {N ps : List Str} {sp : Sp}
theorem fnG {name qual : Str} {params : Arguments} {body : List Stmt} {scope : Scope} {dV kV doc pm cdv ct oc : Value} {an od : Option Addr} {osl : Array (Option Value)}
    (lk : K.lookup f = some ⟨oc, od, .func (PySem.W.fnOf name qual params body scope dV kV doc pm an cdv ct), osl⟩) (hcd : PySem.W.codeIn K cdv qual = true) (S : FnScope N ps scope) (len : ∀ vs H Q E, sp vs H Q E → vs.length = ps.length)
    (hbody : ∀ (A : Around) (outer : List Env) (s : Shared) (H : Hp) (vs : List V) (Q : VK) (E : XK), A.guards = some [] → Room k (A.deeper (envOfC qual scope s.heap.objs.size f cdv)) → sp vs H Q E →
      ∃ t, PSs (cxOf CX P w K mg base N qual scope f cdv A outer s H E) body t ∧ t { nx := fun _ H' => Q .non H', rt := Q } (start N vs) H) :
    FnOkG P w K mg base CX (k + 1) f (PySem.W.fnOf name qual params body scope dV kV doc pm an cdv ct) ps sp := by
  constructor
  · exact len
  intro A outer s H args us vs Q E hgd hr e0 hb r hsp
  have hl := len _ _ _ _ hsp
  have KX := e0.mod.kin.keeps fun b o e => (e0.bs b o e).1
  have lim := e0.mod.nolimit.keeps fun b o e => (e0.bs b o e).1
  have hkind : ∀ y ∈ ps.zip us, scope.names.lookup y.1 = some .local ∨ (scope.names.lookup y.1 = some .cell ∧ ((cellsFrom (s.heap.objs.size + 1) scope.names []).lookup y.1).isSome = true) := by
    rintro ⟨n, v⟩ hy
    exact (S.par n (List.of_mem_zip hy).1).imp id fun q => ⟨q, PySem.W.cellsFrom_some _ _ _ (.inl q)⟩
  refine codeAny_call_function hr.depth (KX _ _ lk) rfl S.co S.gen rfl (PySem.W.codeRec_of KX hcd) (hb _ _ _ _ (wpAny_newFunctionEnv_cells S.kind hkind fun env he s1 x => ?_))
  subst he
  obtain ⟨t, ht, hq⟩ := hbody A outer s H vs Q E hgd (hr.deeper _) hsp
  have I := inv_start (CX := CX) (E := E) (qual := qual) (f := f) (cd := cdv) S hr.hd e0 hl r x
  refine ⟨lim.keeps x.toInCall.keep, codeAny_func (wpAny_mono (ht.run [] s1 (start N vs) H _ I hq) (fun fl s' hs => ?_) fun e s' hs => hs)⟩
  cases fl with
  | ret u =>
    obtain ⟨v, σ', H', J, rv, q⟩ := hs
    exact ⟨v, H', J.os, J.bare, J.base, J.hok, rv, q⟩
  | next =>
    obtain ⟨σ', H', J, q⟩ := hs
    exact ⟨V.non, H', J.os, J.bare, J.base, J.hok, rfl, q⟩
  | brk => obtain ⟨_, _, _, q⟩ := hs; exact False.elim q
  | cont => obtain ⟨_, _, _, q⟩ := hs; exact False.elim q
theorem Fun.okG {x qual : Str} {st : Stmt} {fd : FuncData} (F : Fun K x qual st f fd) (S : FnScope N ps (defScope st)) (len : ∀ vs H Q E, sp vs H Q E → vs.length = ps.length)
    (hbody : ∀ (cdv : Value) (A : Around) (outer : List Env) (s : Shared) (H : Hp) (vs : List V) (Q : VK) (E : XK), A.guards = some [] → Room k (A.deeper (envOfC qual (defScope st) s.heap.objs.size f cdv)) → sp vs H Q E →
      ∃ t, PSs (cxOf CX0 P w K mg base N qual (defScope st) f cdv A outer s H E).nox (defBody st) t ∧ t { nx := fun _ H' => Q .non H', rt := Q } (start N vs) H) : FnOkG P w K mg base CX0 (k + 1) f fd ps sp := by
  obtain ⟨oc, od, kV, doc, pm, an, cdv, ct, osl, rfl, lk, hcd⟩ := F.ex
  refine fnG lk hcd S len fun A outer s H vs Q E hgd hr hsp => ?_
  obtain ⟨t, h, q⟩ := hbody cdv A outer s H vs Q E hgd hr hsp
  exact ⟨t, h.nox, q⟩
end
section
variable {X : Cx} {CX : CXT} {k : Nat} {f C : Addr} {fd : FuncData} {ps : List Str} {sp : Sp} {dvs : List V} {ds : List Value} {E : XK} {x m : Str} {p pos : Pos} {e : Expr} {es : List Expr} {t : TA}
theorem pe_callG (F : FnOkG X.prog X.w X.K X.mg X.base CX k f fd ps sp) (hgd : X.A.guards = some []) (hr : Room k X.A) (hg : Gl X x) (hm : X.mg x = some (.ref f)) (hk : PySem.W.keepIn X.K (.ref f) = true) (hb : Binds X.K fd ps ds) (hd : Vals dvs ds) (hx : Passes CX X E)
    (ha : PA X (e :: es) t) (hdb : (x == ("__debug__" : Str)) = false := by decide) (he : starEach (e :: es) X.env = (false, eval e X.env) :: starEach es X.env := by rfl) (hpl : (backTo pos (starEach es X.env)).any (·.1) = false := by rfl) :
    PE X (.Call (.Name x p) (e :: es) [] pos) (tCall sp dvs E t) := by
  constructor
  intro pins s σ H Q I h
  refine wpAny_Call_Name_kw (ld_glob I hg hm (PySem.W.callWith_K (h₀ := X.base) I.ok.mod.kin hk (thn (ha.run pos pins s σ H _ I h) fun us s1 ⟨vs, H1, I1, r, q⟩ => ⟨I1.kIn, ?_⟩) he hpl) hdb)
  have r2 : Vals (vs ++ dvs) (us ++ ds) := r.append hd
  have hl : (us ++ ds).length = ps.length := r2.length.symm.trans (F.len _ _ _ _ q)
  refine wpAny_call (codeAny_mono (F.run X.A X.stack s1 H1 ⟨us, []⟩ (us ++ ds) (vs ++ dvs) Q E hgd hr I1.env0 (hb s1 us I1.kIn hl) r2 q) fun z s' hq => ?_)
  rcases z with e' | fl
  · exact hx pins σ H1 s1 e' s' I1 hq
  · cases fl <;> first | exact I1.after hq | exact False.elim hq
end
/-! repr of data -/
section
variable {X : Cx}
def rRepr (K : PySem.W.Frag) : List V → Hp → VK → Prop := fun vs H Q => ∃ v d, vs = [v] ∧ Dp K H v d ∧ d.hasDict = false ∧ d.showable = true ∧ d.depth ≤ 60 ∧ d.shown.length ≤ sizeLine ∧ Q (.str d.shown) H
theorem cr_repr (hgd : X.A.guards = some []) (hu : X.A.units + 64 < cLine) : CallR X (.builtin "repr") (rRepr X.K) := by
  intro pins s σ H vs us Q I r ⟨v, d, e, hd, hn, hs, h60, hz, q⟩
  subst e
  obtain ⟨u, rfl, rv⟩ := vals1 r
  have fin : ∀ (h' : Heap) (t : Tok) (tk : Nat), (∀ b o, s.heap.get? b = some o → h'.get? b = some o) → EP X pins σ Q (.str d.shown t) { s with heap := h', toks := tk } := fun h' t tk hk => ⟨.str d.shown, H, I.kept hk, ⟨t, rfl⟩, q⟩
  obtain ⟨as, rd⟩ := Dp.reads I d v u hd rv
  cases rd with
  | none => exact P.repr_of_none (fin s.heap _ _ fun _ _ z => z)
  | bool b => exact P.repr_of_bool (by have := fin s.heap s.toks (s.toks + 1) fun _ _ z => z; simpa only [PyData.shown] using this)
  | int i t => exact P.repr_of_int (by simpa [PyData.showable] using hs) (by have := fin s.heap s.toks (s.toks + 1) fun _ _ z => z; simpa only [PyData.shown] using this)
  | str x t => exact P.repr_of_str (by have := fin s.heap s.toks (s.toks + 1) fun _ _ z => z; simpa only [PyData.shown] using this) (by simpa only [PyData.shown] using hz)
  | list h1 h2 h3 h4 => exact repr_of_reads' (.list h1 h2 h3 h4) hs (PyData.noDict_hsm hn) hgd (by omega) (fun _ _ z => z) (fun h' t tk hk => fin h' t tk hk) hz
  | tuple h1 h2 h3 h4 => exact repr_of_reads' (.tuple h1 h2 h3 h4) hs (PyData.noDict_hsm hn) hgd (by omega) (fun _ _ z => z) (fun h' t tk hk => fin h' t tk hk) hz
  | dict h1 h2 h3 h4 h5 => cases hd
end
end KX

namespace KX
open PySem PySem.Spec L2
open PyProof.Rows hiding St
/-! the end of a law whose def runs repr -/
section
variable {P : Program} {w : World} {K : PySem.W.Frag} {mg mb : Str → Option Value} {k : Nat} {fa a : Addr} {fd : FuncData} {x : Str} {sp : Sp} {s1 : Shared} {vs : List Value} {ns : List Int}
abbrev LawEnd (s1 : Shared) : Result → Shared → Prop := fun r s' => r = .ok (.ret (.bool true)) ∧ OldK s1.heap s'.heap ∧ s'.os = s1.os ∧ AllBare s'.gens
theorem law_core (KX : K.In s1.heap) (hns : s1.heap.Ns mainGlobals mg) (hb : s1.heap.Ns builtinsNs mb) (hbb : ∀ y : Str, y ≠ "__name__" → mb y = bootBuiltins y) (hlim : s1.heap.NoLimit) (hg : s1.gens = #[])
    (ha : s1.heap.get? a = some { cls := .type "list", data := .seq vs.toArray }) (hr : Room k callerA)
    (F : ∀ base : Heap, K.In base → base.Ns mainGlobals mg → FnOkG P w K mg base CX0 k fa fd [x] sp) (hbind : ∀ (s : Shared) (u : Value), BindsTo s fd ⟨[u], []⟩ [(x, u)])
    (H : Hp) (hO : Only H) (hok : HOk P w H s1.heap) (hA : ∀ b, H b ≠ none → b = a) (hK : H a ≠ none → K.lookup a = none)
    (hsp : sp [.ref a] H (fun v _ => v = .bl true) fun _ _ _ => False) :
    codeAny (model P w) callerA (.call (.ref fa) ⟨[.ref a], []⟩) (LawEnd s1) s1 := by
  have free : ∀ {b : Addr} {o : Obj} {es : Array DictEntry} {n : Nat}, s1.heap.get? b = some o → o.data = .dict es n → H b = none := by
    intro b o es n e d
    cases q : H b with
    | none => rfl
    | some u =>
      obtain rfl := hA b (by rw [q]; exact nofun)
      rw [ha] at e
      cases e
      exact absurd (show Data.seq vs.toArray _ = Data.dict es n from d) (fun z => nomatch z)
  have hid : ∀ {b : Addr} {m : Str → Option Value}, s1.heap.Ns b m → (hidT s1.heap H).Ns b m := by
    rintro b m ⟨o, es, n, e, d, r⟩
    exact ⟨o, es, n, hidT_get e (free e d), d, r⟩
  have kin : K.In (hidT s1.heap H) := by
    intro b o e
    refine hidT_get (KX b o e) ?_
    cases q : H b with
    | none => rfl
    | some u =>
      obtain rfl := hA b (by rw [q]; exact nofun)
      rw [hK (by rw [q]; exact nofun)] at e
      cases e
  have mod : Mod K mg (hidT s1.heap H) := by
    obtain ⟨mc, z1, z2⟩ := hlim
    exact ⟨kin, hid hns, ⟨mb, hid hb, hbb⟩, mc, hid z1, z2⟩
  have e0 : Env0 P w K mg (hidT s1.heap H) callerA [] s1 H := by
    refine ⟨rfl, mod, fun b o e => of_hidT e, Nat.le_of_eq (hidT_size _ _), trivial, fun b z => ?_, hok, .of_eq hg⟩
    exact absurd (show b ∈ ([] : List Addr) from z) List.not_mem_nil
  refine codeAny_mono ((F _ kin (hid hns)).run callerA [] s1 H ⟨[.ref a], []⟩ [.ref a] [.ref a] _ _ rfl hr e0 (hbind s1 (.ref a)) (.cons rfl .nil) hsp) fun r s' h => ?_
  rcases r with e | fl
  · exact False.elim h
  cases fl with
  | ret u =>
    obtain ⟨v, H', os, bare, un, hok', rv, q⟩ := h
    obtain rfl : v = .bl true := q
    obtain rfl : u = Value.bool true := rv
    refine ⟨rfl, OldK.of_keep fun b o e => ?_, os, bare⟩
    rcases hO b with z | ⟨ob, xs, z⟩
    · exact un.keep b o e z (fun y => absurd (show b ∈ ([] : List Addr) from y) List.not_mem_nil) List.not_mem_nil
    · obtain ⟨e1, _⟩ := hok b _ z
      obtain ⟨e2, _⟩ := hok' b _ (un.frzs b ob _ z)
      exact e2.trans (e1.symm.trans e)
  | next => exact False.elim h
  | brk => exact False.elim h
  | cont => exact False.elim h
theorem law_run (KX : K.In s1.heap) (hns : s1.heap.Ns mainGlobals mg) (hb : s1.heap.Ns builtinsNs mb) (hbb : ∀ y : Str, y ≠ "__name__" → mb y = bootBuiltins y) (hlim : s1.heap.NoLimit) (hg : s1.gens = #[])
    (ha : s1.heap.get? a = some { cls := .type "list", data := .seq vs.toArray }) (hi : IntsAre vs ns) (hl : ns.length ≤ sizeLine) (hr : Room k callerA)
    (F : ∀ base : Heap, K.In base → base.Ns mainGlobals mg → FnOkG P w K mg base CX0 k fa fd [x] sp) (hbind : ∀ (s : Shared) (u : Value), BindsTo s fd ⟨[u], []⟩ [(x, u)])
    (hsp : ∀ H : Hp, SqL K H a (ns.map V.int) → sp [.ref a] H (fun v _ => v = .bl true) fun _ _ _ => False) :
    codeAny (model P w) callerA (.call (.ref fa) ⟨[.ref a], []⟩) (LawEnd s1) s1 := by
  have rv := vals_ints hi
  cases hk : K.lookup a with
  | some o =>
    have e := KX a o hk
    rw [ha] at e
    cases e
    refine law_core KX hns hb hbb hlim hg ha hr F hbind (fun _ => none) (fun _ => .inl rfl) (fun b u z => nomatch (show (none : Option HO) = some u from z)) (fun b z => absurd rfl z) (fun z => absurd rfl z) (hsp _ (.inr ⟨_, vs.toArray, _, hk, rfl, rfl, rfl, ?_, ?_⟩))
    · rw [List.size_toArray, hi.length]; exact hl
    · simpa using rv
  | none =>
    let o : Obj := { cls := .type "list", data := .seq vs.toArray }
    have h1 : ∀ b, b = a → (fun b => if b = a then some (HO.frz o (.lst (ns.map V.int))) else none : Hp) b = some (HO.frz o (.lst (ns.map V.int))) := fun b e => if_pos e
    have h2 : ∀ b, b ≠ a → (fun b => if b = a then some (HO.frz o (.lst (ns.map V.int))) else none : Hp) b = none := fun b e => if_neg e
    generalize (fun b => if b = a then some (HO.frz o (.lst (ns.map V.int))) else none : Hp) = H at h1 h2
    refine law_core KX hns hb hbb hlim hg ha hr F hbind H (fun b => ?_) (fun b u z => ?_) (fun b z => ?_) (fun _ => hk) (hsp H (.inl (.inr ⟨o, h1 a rfl⟩)))
    · rcases Decidable.em (b = a) with e | e
      · exact .inr ⟨_, _, h1 b e⟩
      · exact .inl (h2 b e)
    · rcases Decidable.em (b = a) with e | e
      · rw [h1 b e] at z
        cases z
        subst e
        exact ⟨ha, by rw [List.length_map]; exact hl, vs, _, rv, ha⟩
      · rw [h2 b e] at z
        cases z
    · rcases Decidable.em (b = a) with e | e
      · exact e
      · exact absurd (h2 b e) z
end
theorem walkG {l : PySem.W.OpenLaw} {n k : Nat} {q : Program} {loose : List Str} {XP : (Str → Option Value) → Heap → Prop} {YP : World → Heap → Prop} {d : DefRec} {K : Params → PySem.W.Frag} {sp : PySem.W.Frag → Sp} {x : Str}
    (hn : l.most = some n) (hn2 : n ≤ sizeLine) (hdf : d.params.defaults = []) (hr : Room k callerA) (hY : ∀ (w : World) (h : Heap), YP w h → (K w.params).In h)
    (F : ∀ (w : World) (mg : Str → Option Value) (fa : Addr) (h : Heap), (K w.params).In h → h.Ns mainGlobals mg → mg d.name = some (.ref fa) →
      ∃ fd : FuncData, (∀ (s : Shared) (u : Value), BindsTo s fd ⟨[u], []⟩ [(x, u)]) ∧ ∀ base : Heap, (K w.params).In base → base.Ns mainGlobals mg → FnOkG l.prog w (K w.params) mg base CX0 k fa fd [x] (sp (K w.params)))
    (hsp : ∀ (K : PySem.W.Frag) (H : Hp) (a : Addr) (ns : List Int), ns.length ≤ n → (∀ z ∈ ns, Builtin.Int.intBits z ≤ 1048576) → SqL K H a (ns.map V.int) → sp K [.ref a] H (fun v _ => v = .bl true) fun _ _ _ => False) :
    PySem.W.WalkO q loose XP YP l.row.toRowW d [] (fun f vs => PySem.call f vs) := by
  refine Att.attach_callB hn hdf fun w s₀ s₁ mg mb fa o pm cd doc a vs ns G Y ho hd hcd hmg hobj hints hlen hbits hg => ?_
  obtain ⟨fd, hb, hF⟩ := F w mg fa _ (hY w _ Y) G.T.g hmg
  exact law_run (hY w _ Y) G.T.g G.T.b G.T.builtins G.T.nolimit hg hobj hints (Nat.le_trans hlen hn2) hr hF hb fun H hS => hsp _ H a ns hlen hbits hS
end KX

namespace KX
open PySem PySem.Spec L2
open PyProof.Rows hiding St
/-! the store of draws that every law has -/
def supD (c : Addr) (t b : Int) : List (Key × V) := [(.inr "cells", .ref c), (.inr "turn", .int t), (.inr "blend", .int b)]
theorem kne {x y : Str} (h : x ≠ y) : decide ((Sum.inr x : Key) = Sum.inr y) = false := decide_eq_false fun q => h (Sum.inr.inj q)
theorem keq (x : Str) : decide ((Sum.inr x : Key) = Sum.inr x) = true := decide_eq_true rfl
theorem n1 : ("cells" : Str) ≠ "turn" := by decide +kernel
theorem n2 : ("cells" : Str) ≠ "blend" := by decide +kernel
theorem n3 : ("turn" : Str) ≠ "blend" := by decide +kernel
theorem sup_cells (c : Addr) (t b : Int) : valV (supD c t b) (.inr "cells") = some (.ref c) := by
  unfold valV supD; simp
theorem sup_turn (c : Addr) (t b : Int) : valV (supD c t b) (.inr "turn") = some (.int t) := by
  unfold valV supD; simp [n1]
theorem sup_blend (c : Addr) (t b : Int) : valV (supD c t b) (.inr "blend") = some (.int b) := by
  unfold valV supD; simp [n2, n3]
theorem sup_putT (c : Addr) (t b t' : Int) : putK (supD c t b) (.inr "turn") (.int t') = supD c t' b := by
  unfold supD; simp only [putK]; simp [n1, n3.symm]
theorem sup_putB (c : Addr) (t b b' : Int) : putK (supD c t b) (.inr "blend") (.int b') = supD c t b' := by
  unfold supD; simp only [putK]; simp [n2, n3]
theorem sup_make (c : Addr) (t b : Int) : mergeK [] (supD c t b) = supD c t b := by
  unfold supD mergeK; simp only [List.foldl, putK]; simp [n1, n2, n3]
structure Sup (H : Hp) (d c : Addr) : Prop where
  ex : ∃ (cells : List Int) (t b : Int), H d = some (.dK (supD c t b)) ∧ H c = some (.lst (cells.map V.int)) ∧ cells.length ≤ 63 ∧ 0 ≤ b ∧ b < 2147483647
theorem Sup.ne {H : Hp} {d c : Addr} (h : Sup H d c) : d ≠ c := by
  obtain ⟨_, _, _, h1, h2, _⟩ := h.ex
  exact ne_of h1 h2 (fun z => nomatch z)
/-- all but d and c is as it was -/
def SameX (H H' : Hp) (d c : Addr) : Prop := ∀ b o, b ≠ d → b ≠ c → H b = some o → H' b = some o
theorem SameX.refl (H : Hp) (d c : Addr) : SameX H H d c := fun _ _ _ _ h => h
theorem SameX.trans {H H1 H2 : Hp} {d c : Addr} (a : SameX H H1 d c) (b : SameX H1 H2 d c) : SameX H H2 d c := fun x o h1 h2 h => b x o h1 h2 (a x o h1 h2 h)
theorem SameX.of {H H' : Hp} (d c : Addr) (h : Same H H') : SameX H H' d c := fun b o _ _ e => h b o e
theorem Sup.same {H H' : Hp} {d c : Addr} (h : Sup H d c) (s : Same H H') : Sup H' d c := by
  obtain ⟨cs, t, b, h1, h2, h3⟩ := h.ex
  exact ⟨cs, t, b, s _ _ h1, s _ _ h2, h3⟩
theorem Sup.upd {H : Hp} {d c l : Addr} {o : HO} (h : Sup H d c) (h1 : l ≠ d) (h2 : l ≠ c) : Sup (upd H l o) d c := by
  obtain ⟨cs, t, b, e1, e2, h3⟩ := h.ex
  exact ⟨cs, t, b, by rw [upd_ne h1.symm]; exact e1, by rw [upd_ne h2.symm]; exact e2, h3⟩
theorem Sup.hasD {H : Hp} {d c : Addr} (h : Sup H d c) : H d ≠ none := by
  obtain ⟨cs, t, b, h1, _⟩ := h.ex
  rw [h1]; exact nofun
theorem Sup.hasC {H : Hp} {d c : Addr} (h : Sup H d c) : H c ≠ none := by
  obtain ⟨cs, t, b, _, h1, _⟩ := h.ex
  rw [h1]; exact nofun
theorem same_new {H : Hp} {p : Addr} {o : HO} (h : H p = none) : Same H (upd H p o) := fun b u e => by rw [upd_ne (ne_of_none e h)]; exact e
/-- a draw: 0 ≤ r < m -/
def spTake : Sp := fun vs H Q _ => ∃ (d c : Addr) (m : Int), vs = [.ref d, .int m] ∧ Sup H d c ∧ 0 < m ∧ m < 2 ^ 62 ∧ ∀ (r : Int) (H' : Hp), 0 ≤ r → r < m → Sup H' d c → SameX H H' d c → Q (.int r) H'
/-- a list of at most 63 ints in, the store out -/
def spSupply (K : PySem.W.Frag) : Sp := fun vs H Q _ => ∃ (a : Addr) (ns : List Int), vs = [.ref a] ∧ SqL K H a (ns.map V.int) ∧ ns.length ≤ 63 ∧ ∀ (d c : Addr) (H' : Hp), H d = none → H c = none → Same H H' → Sup H' d c → Q (.ref d) H'
/-- some order of the items -/
def spStir (K : PySem.W.Frag) : Sp := fun vs H Q _ => ∃ (d c a : Addr) (ks : List Int), vs = [.ref d, .ref a] ∧ Sup H d c ∧ SqL K H a (ks.map V.int) ∧ ks.length ≤ 63 ∧
  ∀ (p : Addr) (H' : Hp) (ks' : List Int), ks'.Perm ks → Sup H' d c → SameX H H' d c → H p = none → H' p = some (.lst (ks'.map V.int)) → Q (.ref p) H'
/-- ascending keys -/
def KeysOk (ks : List Int) : Prop := ks.Pairwise (· < ·) ∧ ∀ k ∈ ks, 0 ≤ k ∧ k ≤ 1000000000000
def spKeys : Sp := fun vs H Q _ => ∃ (d c : Addr) (n : Nat), vs = [.ref d, .int (n : Int)] ∧ Sup H d c ∧ 1 ≤ n ∧ n ≤ 30 ∧
  ∀ (p : Addr) (H' : Hp) (ks : List Int), ks.length = n → KeysOk ks → Sup H' d c → SameX H H' d c → H p = none → H' p = some (.lst (ks.map V.int)) → Q (.ref p) H'
/-- a row -/
structure RowOk (row : List Int) : Prop where
  nd : row.Nodup
  key : ∀ k ∈ row, 0 ≤ k ∧ k ≤ 1000000000000
theorem RowOk.of {ks row : List Int} (h : KeysOk ks) (p : row.Perm ks) : RowOk row :=
  ⟨p.nodup_iff.mpr (h.1.imp fun {a b} q => Int.ne_of_lt q), fun k hk => h.2 k (p.mem_iff.mp hk)⟩
def spRow : Sp := fun vs H Q _ => ∃ (d c : Addr) (n : Nat), vs = [.ref d, .int (n : Int)] ∧ Sup H d c ∧ 1 ≤ n ∧ n ≤ 29 ∧
  ∀ (p : Addr) (H' : Hp) (row : List Int), RowOk row → 1 ≤ row.length → row.length ≤ n → Sup H' d c → SameX H H' d c → H p = none → H' p = some (.tup (row.map V.int)) → Q (.ref p) H'
theorem frX {H H' : Hp} {d c b : Addr} (S' : Sup H' d c) (x : SameX H H' d c) (h : H' b = none) : H b = none := by
  cases e : H b with
  | none => rfl
  | some o =>
    rcases Decidable.em (b = d) with z | z
    · exact absurd h (z ▸ S'.hasD)
    · rcases Decidable.em (b = c) with z2 | z2
      · exact absurd h (z2 ▸ S'.hasC)
      · rw [x b o z z2 e] at h; cases h
theorem emod_in {a m : Int} (h : 0 < m) : 0 ≤ a % m ∧ a % m < m := ⟨Int.emod_nonneg a (by omega), Int.emod_lt_of_pos a h⟩
theorem nats62 {m : Int} (h0 : 0 < m) (h : m < 2 ^ 62) : m.natAbs < 2 ^ 62 := by omega
theorem len_pos_cut {xs : List V} : (xs ≠ [] → 0 < xs.length) := List.length_pos_iff.mpr
theorem sup_get {H : Hp} {d : Addr} {kvs : List (Key × V)} {x : Str} {v : V} (hd : H d = some (.dK kvs)) (e : valV kvs (.inr x) = some v) : DGet H d (.str x) (some v) := by
  have h := DGet.k (k := .inr x) hd
  rw [e] at h
  exact h
theorem sup_setT {H : Hp} {d c : Addr} {t b t' : Int} (hd : H d = some (.dK (supD c t b))) : DPut H d (.str "turn") (.int t') (upd H d (.dK (supD c t' b))) := by
  have h := DPut.k (k := .inr "turn") (v := .int t') hd (show 3 < sizeLine by decide)
  rw [sup_putT] at h
  exact h
theorem sup_setB {H : Hp} {d c : Addr} {t b b' : Int} (hd : H d = some (.dK (supD c t b))) : DPut H d (.str "blend") (.int b') (upd H d (.dK (supD c t b'))) := by
  have h := DPut.k (k := .inr "blend") (v := .int b') hd (show 3 < sizeLine by decide)
  rw [sup_putB] at h
  exact h
theorem ix_at {n j : Nat} (h : j < n) : ixN n ((j : Nat) : Int) = some j := by
  unfold ixN; simp; omega
theorem cut_ints (ns : List Int) (lo hi : Option Int) : ∃ ms : List Int, cutV (ns.map V.int) lo hi = ms.map V.int ∧ ms.length ≤ ns.length := by
  unfold cutV
  rw [← List.map_drop, ← List.map_take]
  exact ⟨_, rfl, by rw [List.length_take, List.length_drop]; omega⟩
theorem cut_nat (ks : List Int) (i j : Nat) : cutV (ks.map V.int) (some (i : Int)) (some (j : Int)) = ((ks.take j).drop i).map V.int := by
  unfold cutV
  rw [HT.sIx_nat, HT.sIx_nat, List.map_drop, List.map_take, List.length_map, List.drop_take]
  apply List.ext_getElem?
  intro m
  simp only [List.getElem?_take, List.getElem?_drop, List.getElem?_map]
  by_cases h1 : i ≤ ks.length
  · rw [Nat.min_eq_left h1]
    by_cases h2 : j ≤ ks.length
    · rw [Nat.min_eq_left h2]
    · rw [Nat.min_eq_right (by omega)]
      by_cases h3 : m < ks.length - i
      · rw [if_pos h3, if_pos (by omega)]
      · rw [if_neg h3]
        by_cases h4 : m < j - i
        · rw [if_pos h4, List.getElem?_eq_none (by omega)]; rfl
        · rw [if_neg h4]
  · rw [Nat.min_eq_right (show ks.length ≤ i by omega), if_neg (by omega)]
    by_cases h4 : m < j - i
    · rw [if_pos h4, List.getElem?_eq_none (by omega)]; rfl
    · rw [if_neg h4]
theorem cut_from (ks : List Int) (i : Nat) : cutV (ks.map V.int) (some (i : Int)) none = (ks.drop i).map V.int := by
  have h := cut_nat ks i ks.length
  unfold cutV at h ⊢
  rw [HT.sIx_nat, List.length_map] at h
  rw [HT.sIx_none, List.length_map]
  rw [List.take_length, HT.sIx_nat, Nat.min_self] at h
  rw [HT.sIx_nat]
  exact h
theorem cut_to (ks : List Int) (j : Nat) : cutV (ks.map V.int) none (some (j : Int)) = (ks.take j).map V.int := by
  have h := cut_nat ks 0 j
  rw [List.drop_zero] at h
  unfold cutV at h ⊢
  rw [HT.sIx_none]
  rw [HT.sIx_nat (k := 0), Nat.zero_min] at h
  exact h
theorem pick_ints (ks : List Int) (lo hi st : Option Int) : pickV (ks.map V.int) lo hi st = ((sliceRange (sliceBounds lo hi st ks.length).1 (sliceBounds lo hi st ks.length).2.1 (sliceBounds lo hi st ks.length).2.2).filterMap (ks[·]?)).map V.int := by
  unfold pickV
  rw [List.length_map, List.map_filterMap]
  congr 1
  funext j
  rw [List.getElem?_map]
theorem idx_perm : ∀ n < 31, ((sliceRange (sliceBounds (some 1) none (some 2) n).1 (sliceBounds (some 1) none (some 2) n).2.1 (sliceBounds (some 1) none (some 2) n).2.2 ++
    sliceRange (sliceBounds (some 0) none (some 2) n).1 (sliceBounds (some 0) none (some 2) n).2.1 (sliceBounds (some 0) none (some 2) n).2.2).isPerm (List.range n)) = true := by decide +kernel
theorem range_all (ks : List Int) : (List.range ks.length).filterMap (ks[·]?) = ks := by
  have h : ∀ n, n ≤ ks.length → (List.range n).filterMap (ks[·]?) = ks.take n := by
    intro n
    induction n with
    | zero => intro _; rfl
    | succ n ih =>
      intro hn
      have e : ks[n]? = some ks[n] := List.getElem?_eq_getElem (by omega)
      rw [List.range_succ, List.filterMap_append, ih (by omega), List.filterMap_cons_some e, List.filterMap_nil, List.take_add_one, e]; rfl
  rw [h _ (Nat.le_refl _), List.take_length]
theorem odd_even (ks : List Int) (h : ks.length ≤ 30) : ∃ row : List Int, pickV (ks.map V.int) (some 1) none (some 2) ++ pickV (ks.map V.int) (some 0) none (some 2) = row.map V.int ∧ row.Perm ks := by
  rw [pick_ints, pick_ints, ← List.map_append, ← List.filterMap_append]
  refine ⟨_, rfl, ?_⟩
  have p := (List.isPerm_iff.mp (idx_perm ks.length (by omega))).filterMap (ks[·]?)
  rw [range_all] at p
  exact p
theorem mid_perm (ks : List Int) (j : Nat) : ((ks.take j ++ ((ks.take (j + 3)).drop j).reverse) ++ ks.drop (j + 3)).Perm ks := by
  have e : (ks.take j ++ (ks.take (j + 3)).drop j) ++ ks.drop (j + 3) = ks := by
    have h1 : ks.take j ++ (ks.take (j + 3)).drop j = ks.take (j + 3) := by
      have h2 := List.take_append_drop j (ks.take (j + 3))
      rw [List.take_take, Nat.min_eq_left (by omega)] at h2
      exact h2
    rw [h1, List.take_append_drop]
  have p : ((ks.take j ++ ((ks.take (j + 3)).drop j).reverse) ++ ks.drop (j + 3)).Perm ((ks.take j ++ (ks.take (j + 3)).drop j) ++ ks.drop (j + 3)) :=
    (List.Perm.append_left _ (List.reverse_perm _)).append_right _
  rw [e] at p
  exact p
/-- a comprehension over reversed(t), t a tuple -/
theorem lc_rt {K : PySem.W.Frag} {a : Addr} {xs : List V} {g : TG} {tt : TT} {te : TE} {vs : List Nat} {σ : L2.St} {H1 : Hp} {D : Addr} {Qd : Hp → Prop} (Pv : Nat → Hp → Prop) (h0 : Pv 0 (upd H1 D (.lst []))) (hl : ∀ i H, i ≤ xs.length → Pv i H → SqT K H a xs)
    (hs : ∀ i x H, i < xs.length → xs[xs.length - 1 - i]? = some x → Pv i H → g x (wipe σ vs) H fun σ2 H2 => wipe σ2 vs = wipe σ vs ∧ tt σ2 H2 fun b H3 =>
      if b = true then te σ2 H3 fun y H4 => ∃ acc, H4 D = some (.lst acc) ∧ acc.length < sizeLine ∧ Pv (i + 1) (upd H4 D (.lst (acc ++ [y]))) else Pv (i + 1) H3) (hd : ∀ H, Pv xs.length H → Qd H) :
    ∃ W : Nat → Nat → Hp → Prop, (∃ m, W 0 m (upd H1 D (.lst []))) ∧ ∀ i m H, W i m H →
      ((RT.ItvT K a xs.length).stop i H ∧ Qd H) ∨ ((RT.ItvT K a xs.length).go i H ∧ ∃ Nx : Hp → Prop, (∀ H', Nx H' → ∃ m', m' < m ∧ W (i + 1) m' H') ∧ ∀ x H', (RT.ItvT K a xs.length).yld i H x H' → g x (wipe σ vs) H' fun σ2 H2 => wipe σ2 vs = wipe σ vs ∧ tt σ2 H2 fun b H3 =>
        if b = true then te σ2 H3 fun y H4 => ∃ acc, H4 D = some (.lst acc) ∧ acc.length < sizeLine ∧ Nx (upd H4 D (.lst (acc ++ [y]))) else Nx H3) := by
  refine ⟨fun i m H => m = xs.length - i ∧ i ≤ xs.length ∧ Pv i H, ⟨_, rfl, Nat.zero_le _, h0⟩, ?_⟩
  rintro i m H ⟨rfl, hi, p⟩
  rcases Nat.lt_or_ge i xs.length with lt | ge
  · have q := hl i H hi p
    have e : xs[xs.length - 1 - i]? = some xs[xs.length - 1 - i] := List.getElem?_eq_getElem (by omega)
    refine .inr ⟨⟨lt, xs, _, q, e⟩, Pv (i + 1), fun H' p' => ⟨xs.length - (i + 1), by omega, rfl, lt, p'⟩, ?_⟩
    rintro x H' ⟨rfl, hx⟩
    exact hs i x H' lt (hx xs q) p
  · obtain rfl : i = xs.length := by omega
    exact .inl ⟨ge, hd H p⟩
theorem sameT {K : PySem.W.Frag} {H H' : Hp} {a : Addr} {xs : List V} (e : Same H H') (h : SqT K H a xs) : SqT K H' a xs := by
  rcases h with (h | ⟨o, h⟩) | h
  · exact .inl (.inl (e _ _ h))
  · exact .inl (.inr ⟨o, e _ _ h⟩)
  · exact .inr h
/-- len of a list or tuple -/
def rLenQ (K : PySem.W.Frag) : List V → Hp → VK → Prop := fun xs H Q => ∃ p ys, xs = [.ref p] ∧ (SqL K H p ys ∨ SqT K H p ys) ∧ Q (.int ys.length) H
/-- a pure function of a row -/
def spRowFn (K : PySem.W.Frag) (f : List Int → List Int) : Sp := fun vs H Q _ => ∃ (a : Addr) (row : List Int), vs = [.ref a] ∧ SqT K H a (row.map V.int) ∧ RowOk row ∧ row.length ≤ 29 ∧
  ∀ (p : Addr) (H' : Hp), Same H H' → H p = none → H' p = some (.tup ((f row).map V.int)) → Q (.ref p) H'
theorem getI {ns : List Int} {i : Nat} {y : V} (h : (ns.map V.int)[i]? = some y) : ∃ z, ns[i]? = some z ∧ y = V.int z ∧ i < ns.length := by
  rw [List.getElem?_map] at h
  cases e : ns[i]? with
  | none => rw [e] at h; cases h
  | some z => rw [e] at h; exact ⟨z, rfl, (Option.some.inj h).symm, (List.getElem?_eq_some_iff.mp e).1⟩
theorem take_step {α : Type} {xs : List α} {i : Nat} {x : α} (h : xs[i]? = some x) : xs.take (i + 1) = xs.take i ++ [x] := by
  rw [List.take_add_one, h]; rfl
/-- all that was there stays, at D stands a list -/
def At (H1 H : Hp) (D : Addr) (ys : List V) : Prop := Same H1 H ∧ H D = some (.lst ys)
theorem At.nil {H1 : Hp} {D : Addr} (h : H1 D = none) : At H1 (upd H1 D (.lst [])) D [] := ⟨same_new h, upd_same⟩
theorem At.push {H1 H : Hp} {D : Addr} {ys : List V} (h : H1 D = none) (a : At H1 H D ys) (zs : List V) : At H1 (upd H D (.lst zs)) D zs :=
  ⟨fun b o e => by rw [upd_ne (ne_of_none e h)]; exact a.1 b o e, upd_same⟩
theorem erase_map {α β : Type} (f : α → β) : ∀ (xs : List α) (j : Nat), (xs.map f).eraseIdx j = (xs.eraseIdx j).map f
  | [], _ => rfl
  | _ :: _, 0 => rfl
  | x :: xs, j + 1 => congrArg (f x :: ·) (erase_map f xs j)
theorem erase_perm {α : Type} : ∀ (xs : List α) (j : Nat) (h : j < xs.length), (xs[j] :: xs.eraseIdx j).Perm xs
  | x :: xs, 0, _ => List.Perm.refl _
  | x :: xs, j + 1, h => (List.Perm.swap x _ _).trans ((erase_perm xs j (Nat.lt_of_succ_lt_succ h)).cons x)
/-- data of ints -/
theorem dp_ints {K : PySem.W.Frag} {H : Hp} : ∀ ns : List Int, DpAll K H (ns.map V.int) (ns.map PyData.int)
  | [] => .nil
  | n :: ns => .cons (.int n) (dp_ints ns)
theorem canLay_ints : ∀ ns : List Int, PyData.canLayAll0 (ns.map PyData.int) = true
  | [] => rfl
  | n :: ns => by simp only [List.map_cons, PyData.canLayAll0, PyData.canLay0, canLay_ints ns, Bool.and_self]
theorem depth_ints : ∀ ns : List Int, PyData.depthAll (ns.map PyData.int) = 0
  | [] => rfl
  | n :: ns => by simp only [List.map_cons, PyData.depthAll, PyData.depth, depth_ints ns, Nat.max_self]
theorem shaped_ints (ns : List Int) : SeqAt.shaped (.list (ns.map PyData.int)) = true := by
  simp [SeqAt.shaped, PyData.canLay0, canLay_ints, PyData.depth, depth_ints]
theorem shaped_tints (ns : List Int) : SeqAt.shaped (.tuple (ns.map PyData.int)) = true := by
  simp [SeqAt.shaped, PyData.canLay0, canLay_ints, PyData.depth, depth_ints]
theorem eqv_ints (ns ms : List Int) : PyData.eqv (.list (ns.map PyData.int)) (.list (ms.map PyData.int)) = decide (ns = ms) := by
  simp only [PyData.eqv]; exact PySem.W.ked_eqvAll ns ms
theorem eqv_tints (ns ms : List Int) : PyData.eqv (.tuple (ns.map PyData.int)) (.tuple (ms.map PyData.int)) = decide (ns = ms) := by
  simp only [PyData.eqv]; exact PySem.W.ked_eqvAll ns ms
/-- a list of ints against [], as data -/
theorem nonempty_data {K : PySem.W.Frag} {H : Hp} {a e : Addr} {ns : List Int} {Q : VK} (h1 : SqL K H a (ns.map V.int)) (h2 : SqL K H e []) (q : Q (.bl (!decide (ns = []))) H) : rNeD K (.ref a) (.ref e) H Q := by
  refine ⟨.list (ns.map PyData.int), .list [], .lst h1 (dp_ints ns), .lst h2 .nil, shaped_ints ns, shaped_ints [], ?_⟩
  rw [show PyData.eqv (.list (ns.map PyData.int)) (.list []) = decide (ns = []) from eqv_ints ns []]
  exact q
/-- the last two rows of a draw -/
def tLastDraw : TS := tSeq (sDPut (tVar 0) (tC (V.str "blend"))
    (tOp (rI (fun _ j => 0 < j) fun i j => V.int (i % j)) (tOp (rI0 fun i j => V.int (i + j)) (tOp (rI0 fun i j => V.int (i + j)) (tOp (rI CMul fun i j => V.int (i * j)) (tDGet (tVar 0) (tC (V.str "blend"))) (tC (V.int 48271)))
      (tOp (rI CMul fun i j => V.int (i * j)) (tC (V.int 11)) (tVar 3))) (tC (V.int 5))) (tC (V.int 2147483647))))
  (tRet (tOp (rI (fun _ j => 0 < j) fun i j => V.int (i % j)) (tOp (rI CDiv fun i j => V.int (i / j)) (tOp (rI (fun _ j => 0 < j) fun i j => V.int (i % j))
    (tOp (rI CMul fun i j => V.int (i * j)) (tDGet (tVar 0) (tC (V.str "blend"))) (tDGet (tVar 0) (tC (V.str "blend")))) (tC (V.int 2147483629))) (tC (V.int 32))) (tVar 1)))
theorem last_run {D : Ends} {H H2 : Hp} {d c : Addr} {m t u b2 : Int} {x4 x5 : Option V} {cells : List Int} (hm0 : 0 < m) (hd : H2 d = some (.dK (supD c u b2))) (hc : H2 c = some (.lst (cells.map V.int))) (hl : cells.length ≤ 63) (sx : SameX H H2 d c) (hb0 : 0 ≤ b2) (hb : b2 < 2147483647)
    (k : ∀ (r : Int) (H' : Hp), 0 ≤ r → r < m → Sup H' d c → SameX H H' d c → D.rt (.int r) H') : tLastDraw D [some (.ref d), some (.int m), some (.ref c), some (.int t), x4, x5] H2 := by
  have ndc : d ≠ c := ne_of hd hc (fun z => nomatch z)
  refine ⟨_, rfl, d, _, rfl, sup_get hd (sup_blend c u b2), _, _, rfl, rfl, .inl ⟨by omega, by omega⟩, _, rfl, _, _, rfl, rfl, .inl ⟨by decide, by decide⟩, _, _, rfl, rfl, _, _, rfl, rfl, _, _, rfl, rfl, (by show (0 : Int) < 2147483647; decide), _, rfl, d, _, rfl, sup_setB hd, ?_⟩
  have hb1 := emod_in (a := b2 * 48271 + 11 * t + 5) (m := 2147483647) (by decide)
  generalize (b2 * 48271 + 11 * t + 5) % 2147483647 = b3 at hb1 ⊢
  have hd3 : upd H2 d (.dK (supD c u b3)) d = some (.dK (supD c u b3)) := upd_same
  have hc3 : upd H2 d (.dK (supD c u b3)) c = some (.lst (cells.map V.int)) := by rw [upd_ne ndc.symm]; exact hc
  have sx3 : SameX H (upd H2 d (.dK (supD c u b3))) d c := fun x o h1 h2 e => by rw [upd_ne h1]; exact sx x o h1 h2 e
  refine ⟨_, rfl, d, _, rfl, sup_get hd3 (sup_blend c u b3), _, rfl, d, _, rfl, sup_get hd3 (sup_blend c u b3), _, _, rfl, rfl, .inl ⟨by omega, by omega⟩, _, _, rfl, rfl, (by show (0 : Int) < 2147483629; decide), _, _, rfl, rfl, ⟨by decide, by decide⟩, _, rfl, _, _, rfl, rfl, hm0, ?_⟩
  exact k _ _ (emod_in hm0).1 (emod_in hm0).2 ⟨cells, u, b3, hd3, hc3, hl, hb1.1, hb1.2⟩ sx3
end KX

namespace LW
open PySem L2 KX
def top (i : Nat) : Stmt := PySem.Challenge.pw_oddrounds_k03_ranks_and_mirrors.main.body.getD i (.Pass ⟨0, 0, 0, 0⟩)
abbrev sSupply : Stmt := top 4
abbrev sTake : Stmt := top 5
section
variable {P : Program} {w : World} {K : PySem.W.Frag} {mg : Str → Option Value} {base : Heap}
theorem scTake : FnScope ["_law_supply_here", "_law_many", "_law_cells", "_law_turn", "_law_at", "_law_cell"] ["_law_supply_here", "_law_many"] (defScope sTake) := ⟨rfl, rfl, rfl, by decide +kernel, rfl, by decide +kernel, by decide +kernel⟩
theorem ok_take {f : Addr} {fd : FuncData} (F : Fun K "_law_take" "_law_take" sTake f fd) (mlen : mg "len" = none) : FnOk P w K mg base CX0 1 f fd ["_law_supply_here", "_law_many"] spTake := by
  refine F.ok scTake (fun vs H Q E h => ?_) (fun cdv A outer s H vs Q E hr h => ?_)
  · obtain ⟨d, c, m, rfl, _⟩ := h
    rfl
  · obtain ⟨d, c, m, rfl, S, hm0, hm, k⟩ := h
    have hu := hu_of hr
    obtain ⟨cells, t, b, hd, hc, hl, hb0, hb⟩ := S.ex
    have ndc : d ≠ c := S.ne
    refine ⟨_, pss_cons (ps_par (i := 2) (j := 3) rfl scTake.nd rfl rfl (by decide) rfl rfl (pa_cons (pe_dget hu (pv 0) pe_str (fun _ _ => rfl)) (pa_cons (pe_dget hu (pv 0) pe_str (fun _ _ => rfl)) pa_nil)) (by rfl))
      (pss_cons (ps_dput hu (pv 0) pe_str (pe_op op_add (pv 3) pe_int) rfl)
      (pss_cons (ps_if (pt_cmpR (op_neD hr.units) (pv 2) (pe_lst pa_nil) (nomark _))
        (pss_cons (ps_set (i := 4) scTake.nd rfl (.inl rfl) (pe_op op_mod (pv 3) (pe_callB call_len_seq (by rfl) mlen PySem.boot_len (pa_cons (pv 2) pa_nil))))
        (pss_cons (ps_set (i := 5) scTake.nd rfl (.inl rfl) (pe_ix ix_list (pv 2) (pv 4) (fun _ _ => rfl)))
        (pss_cons (ps_if (pt_cmpR op_ge (pv 5) (pe_op op_pow pe_int pe_int) (nomark _))
          (pss_cons (ps_asg (pe_op op_fdivW (pv 5) (pv 1)) (pg_sub (pv 2) (pv 4) set_list))
          (pss_one (ps_ret (pe_op op_mod (pv 5) (pv 1))))) pss_nil)
        (pss_one (ps_dput hu (pv 0) pe_str (pe_op op_mod (pe_op op_add (pe_op op_add (pe_op op_mul (pe_dget hu (pv 0) pe_str (fun _ _ => rfl)) pe_int) (pv 5)) (pv 3)) pe_int) rfl))))) pss_nil)
      (pss_cons (ps_dput hu (pv 0) pe_str (pe_op op_mod (pe_op op_add (pe_op op_add (pe_op op_mul (pe_dget hu (pv 0) pe_str (fun _ _ => rfl)) pe_int) (pe_op op_mul pe_int (pv 3))) pe_int) pe_int) rfl)
      (pss_one (ps_ret (pe_op op_mod (pe_op op_fdiv (pe_op op_mod (pe_op op_mul (pe_dget hu (pv 0) pe_str (fun _ _ => rfl)) (pe_dget hu (pv 0) pe_str (fun _ _ => rfl))) pe_int) pe_int) (pv 1))))))), ?_⟩
    -- the two reads, the turn
    refine ⟨_, rfl, d, _, rfl, sup_get hd (sup_cells c t b), _, rfl, d, _, rfl, sup_get hd (sup_turn c t b), _, _, rfl, ?_⟩
    refine ⟨_, rfl, _, _, rfl, rfl, _, rfl, d, _, rfl, sup_setT hd, ?_⟩
    have hd1 : upd H d (.dK (supD c (t + 1) b)) d = some (.dK (supD c (t + 1) b)) := upd_same
    have hc1 : upd H d (.dK (supD c (t + 1) b)) c = some (.lst (cells.map V.int)) := by rw [upd_ne ndc.symm]; exact hc
    have sx1 : SameX H (upd H d (.dK (supD c (t + 1) b))) d c := fun x o h1 _ e => by rw [upd_ne h1]; exact e
    generalize upd H d (.dK (supD c (t + 1) b)) = H1 at hd1 hc1 sx1 ⊢
    refine ⟨_, rfl, Nat.zero_le _, fun e he => nonempty_data (ns := cells) (SqL.of (by rw [upd_ne (ne_of_none hc1 he)]; exact hc1)) (SqL.of upd_same) ⟨_, rfl, ?_⟩⟩
    have hd2 : upd H1 e (.lst []) d = some (.dK (supD c (t + 1) b)) := by rw [upd_ne (ne_of_none hd1 he)]; exact hd1
    have hc2 : upd H1 e (.lst []) c = some (.lst (cells.map V.int)) := by rw [upd_ne (ne_of_none hc1 he)]; exact hc1
    have sx2 : SameX H (upd H1 e (.lst [])) d c := sx1.trans (.of d c (same_new he))
    generalize upd H1 e (.lst []) = H2 at hd2 hc2 sx2 ⊢
    by_cases hn : cells = []
    · rw [decide_eq_true hn]
      refine iteF ?_
      exact last_run hm0 hd2 hc2 hl sx2 hb0 hb k
    · rw [decide_eq_false hn]
      refine iteT ?_
      have hp : 0 < cells.length := List.length_pos_iff.mpr hn
      have hpi : (0 : Int) < ((cells.map V.int).length : Int) := by rw [List.length_map]; omega
      refine ⟨_, rfl, _, rfl, c, _, rfl, .inl (SqL.of hc2), _, _, rfl, rfl, hpi, ?_⟩
      obtain ⟨j, hj, hjl⟩ : ∃ j : Nat, t % ((cells.map V.int).length : Int) = (j : Int) ∧ j < cells.length := by
        have h := emod_in (a := t) hpi
        rw [List.length_map] at h ⊢
        exact ⟨(t % (cells.length : Int)).toNat, by omega, by omega⟩
      show gName 4 (V.int (t % ((cells.map V.int).length : Int))) _ _ _
      rw [hj]
      have hat : (cells.map V.int)[j]? = some (V.int cells[j]) := by rw [List.getElem?_map, List.getElem?_eq_getElem hjl]; rfl
      refine ⟨_, rfl, _, rfl, c, _, _, _, rfl, rfl, SqL.of hc2, atI_nat hat, ?_⟩
      generalize cells[j] = z
      refine ⟨_, rfl, _, _, rfl, rfl, ⟨by decide, by decide, by decide⟩, _, _, rfl, rfl, _, rfl, ?_⟩
      refine ite2 (fun _ => ?_) (fun _ => ?_)
      · -- a great cell: the quotient stays, the rest is drawn
        refine ⟨_, rfl, _, rfl, _, _, rfl, rfl, wide_div hm0 (nats62 hm0 hm) (by decide) (by decide), _, rfl, _, rfl, c, _, _, j, rfl, rfl, hc2, ix_at (by rw [List.length_map]; exact hjl), ?_⟩
        have es : (cells.map V.int).set j (V.int (z / m)) = (cells.set j (z / m)).map V.int := by rw [List.map_set]
        refine ⟨_, rfl, _, rfl, _, _, rfl, rfl, hm0, ?_⟩
        refine k _ _ (emod_in hm0).1 (emod_in hm0).2 ⟨cells.set j (z / m), t + 1, b, ?_, ?_, by rw [List.length_set]; exact hl, hb0, hb⟩ ?_
        · rw [upd_ne ndc]; exact hd2
        · exact upd_same.trans (congrArg (fun l => some (HO.lst l)) es)
        · intro x o h1 h2 e
          rw [upd_ne h2]; exact sx2 x o h1 h2 e
      · refine ⟨_, rfl, d, _, rfl, sup_get hd2 (sup_blend c (t + 1) b), _, _, rfl, rfl, .inl ⟨by omega, by omega⟩, _, rfl, _, _, rfl, rfl, _, rfl, _, _, rfl, rfl, _, _, rfl, rfl, (by show (0 : Int) < 2147483647; decide), _, rfl, d, _, rfl, sup_setB hd2, ?_⟩
        have hb1 := emod_in (a := b * 16807 + z + t) (m := 2147483647) (by decide)
        refine last_run (b2 := (b * 16807 + z + t) % 2147483647) hm0 upd_same (by rw [upd_ne ndc.symm]; exact hc2) hl (fun x o h1 h2 e => by rw [upd_ne h1]; exact sx2 x o h1 h2 e) hb1.1 hb1.2 k
theorem scSupply : FnScope ["_law_script", "_law_cell"] ["_law_script"] (defScope sSupply) := ⟨rfl, rfl, rfl, by decide +kernel, rfl, by decide +kernel, by decide +kernel⟩
theorem ok_supply {f : Addr} {fd : FuncData} (F : Fun K "_law_supply" "_law_supply" sSupply f fd) (mlen : mg "len" = none) (mabs : mg "abs" = none) : FnOk P w K mg base CX0 1 f fd ["_law_script"] (spSupply K) := by
  refine F.ok scSupply (fun vs H Q E h => ?_) (fun cdv A outer s H vs Q E hr h => ?_)
  · obtain ⟨a, ns, rfl, _⟩ := h
    rfl
  · obtain ⟨a, ns, rfl, hS, hl, k⟩ := h
    refine ⟨_, pss_one (ps_ret (pe_disp (pps_cons pe_str (pe_lc (own := [("_law_cell", 1)]) (g := gName 1) (tt := tYes) rfl scSupply.nd (pi_list (pe_slice sl_list (pv 0) po_none (po_some pe_int)))
        (blkOk_by (own := [("_law_cell", 1)]) (N := ["_law_script", "_law_cell"]) (sc := defScope sSupply) (by decide +kernel)) (fun _ _ _ _ _ => pg_name (i := 1) scSupply.nd rfl (.inl rfl)) (fun _ _ _ _ _ => pts_nil)
        (fun _ _ _ _ _ => pe_callB call_abs (by rfl) mabs (by decide +kernel) (pa_cons (pv 1) pa_nil)))
      (pps_cons pe_str pe_int (pps_cons pe_str (pe_op op_add pe_int (pe_op op_mul pe_int (pe_callB call_len_seq (by rfl) mlen PySem.boot_len (pa_cons (pv 0) pa_nil)))) pps_nil))) (by rfl) (by rfl) (fun z => by cases z) (by decide))), ?_⟩
    intro d hd
    refine ⟨_, rfl, 63, rfl, a, _, rfl, (same_new hd).seq hS, fun q hq => ?_⟩
    obtain ⟨ms, em, hml⟩ := cut_ints ns none (some 63)
    rw [em]
    have fr1 : ∀ {b : Addr}, upd (upd H d (.dK [])) q (.lst (ms.map V.int)) b = none → b ≠ d ∧ b ≠ q ∧ H b = none := by
      intro b hb
      have h1 : b ≠ q := fun z => by rw [z, upd_same] at hb; cases hb
      rw [upd_ne h1] at hb
      have h2 : b ≠ d := fun z => by rw [z, upd_same] at hb; cases hb
      rw [upd_ne h2] at hb
      exact ⟨h2, h1, hb⟩
    have hq0 : H q = none := (same_new hd).free hq
    have nqd : q ≠ d := fun z => by rw [z, upd_same] at hq; cases hq
    have dd : upd (upd H d (.dK [])) q (.lst (ms.map V.int)) d = some (.dK []) := by rw [upd_ne nqd.symm]; exact upd_same
    have sm : Same H (upd (upd H d (.dK [])) q (.lst (ms.map V.int))) := (same_new hd).trans (same_new hq)
    refine ⟨q, rfl, ⟨_, SqL.of upd_same⟩, fun c hc => ?_⟩
    obtain ⟨ncd, ncq, hc0⟩ := fr1 hc
    have hqq : upd (upd H d (.dK [])) q (.lst (ms.map V.int)) q = some (.lst (ms.map V.int)) := upd_same
    generalize upd (upd H d (.dK [])) q (.lst (ms.map V.int)) = H1 at dd sm hc hqq ⊢
    refine lc_list (K := K) (a := q) (xs := ms.map V.int) (fun i Hx => ∃ cs : List Int, cs.length = i ∧ At H1 Hx c (cs.map V.int)) ⟨[], rfl, At.nil hc⟩ (fun i Hx _ ⟨_, _, aa⟩ => SqL.of (aa.1 _ _ hqq)) ?_ ?_
    · rintro i y Hx hi ⟨cs, hcs, aa⟩
      obtain ⟨z, _, rfl, hil⟩ := getI hi
      refine ⟨rfl, _, rfl, z, rfl, cs.map V.int, aa.2, by rw [List.length_map]; exact small1000 (by omega), cs ++ [if z < 0 then -z else z], by simp [hcs], ?_⟩
      have e := aa.push hc ((cs ++ [if z < 0 then -z else z]).map V.int)
      rw [List.map_append] at e ⊢
      exact e
    · rintro Hx ⟨cs, hcs, aa⟩
      rw [List.length_map] at hcs
      refine ⟨_, rfl, a, _, rfl, .inl ((sm.trans aa.1).seq hS), _, _, rfl, rfl, .inl ⟨by decide, by decide⟩, _, _, rfl, rfl, aa.1 _ _ dd, supD c 0 (97 + 31 * ((ns.map V.int).length : Int)), rfl, by show 3 ≤ 15; decide, ?_⟩
      rw [sup_make]
      have hl2 : ((ns.map V.int).length : Int) ≤ 63 := by rw [List.length_map]; omega
      refine k d c _ hd hc0 (fun b o e => by rw [upd_ne (ne_of_none e hd)]; exact aa.1 _ _ (sm _ _ e)) ⟨cs, 0, _, upd_same, by rw [upd_ne ncd]; exact aa.2, by omega, by omega, by omega⟩
end
end LW

namespace LW
open PySem L2 KX
abbrev sStir : Stmt := top 6
section
variable {P : Program} {w : World} {K : PySem.W.Frag} {mg : Str → Option Value} {base : Heap}
theorem scStir : FnScope ["_law_supply_here", "_law_items", "_law_left", "_law_found"] ["_law_supply_here", "_law_items"] (defScope sStir) := ⟨rfl, rfl, rfl, by decide +kernel, rfl, by decide +kernel, by decide +kernel⟩
theorem ok_stir {f fT : Addr} {fd fdT : FuncData} (F : Fun K "_law_stirred" "_law_stirred" sStir f fd) (GT : FnOk P w K mg base CX0 1 fT fdT ["_law_supply_here", "_law_many"] spTake) (mT : mg "_law_take" = some (.ref fT)) (kT : PySem.W.keepIn K (.ref fT) = true) (bT : Binds K fdT ["_law_supply_here", "_law_many"] [])
    (mlen : mg "len" = none) (mlist : mg "list" = none) : FnOk P w K mg base CX0 2 f fd ["_law_supply_here", "_law_items"] (spStir K) := by
  refine F.ok scStir (fun vs H Q E h => ?_) (fun cdv A outer s H vs Q E hr h => ?_)
  · obtain ⟨d, c, a, ks, rfl, _⟩ := h
    rfl
  · obtain ⟨d, c, a, ks, rfl, S, hS, hl, k⟩ := h
    refine ⟨_, pss_cons (ps_par (i := 2) (j := 3) rfl scStir.nd rfl rfl (by decide) rfl rfl (pa_cons (pe_callTy call_list_of (by rfl) mlist (by decide +kernel) (pa_cons (pv 1) pa_nil)) (pa_cons (pe_lst pa_nil) pa_nil)) (by rfl))
      (pss_cons (ps_while PassesOwn.never (pt_cmpR (op_neD hr.units) (pv 2) (pe_lst pa_nil) (nomark _))
        (pss_one (ps_expr (pe_bm PySem.F.plainAttrs_list PySem.F.slot_list_append PySem.F.type_list_append mt_append (pv 3) (pa_cons
          (pe_bm PySem.F.plainAttrs_list PySem.F.slot_list_pop PySem.F.type_list_pop mt_popAt (pv 2) (pa_cons (pe_call GT hr (by rfl) mT kT bT .nil pass0 (pa_cons (pv 0) (pa_cons (pe_callB call_len_seq (by rfl) mlen PySem.boot_len (pa_cons (pv 2) pa_nil)) pa_nil))) pa_nil)) pa_nil)))))
      (pss_one (ps_ret (pv 3)))), ?_⟩
    refine ⟨_, rfl, a, _, rfl, .inl hS, fun l hl1 => ⟨Nat.zero_le _, fun g hg1 => ⟨_, _, rfl, ?_⟩⟩⟩
    have hg0 : H g = none := (same_new hl1).free hg1
    have hgl : g ≠ l := fun z => by rw [z, upd_same] at hg1; cases hg1
    have s1 : Same H (upd (upd H l (.lst (ks.map V.int))) g (.lst [])) := (same_new hl1).trans (same_new hg1)
    have hl2 : upd (upd H l (.lst (ks.map V.int))) g (.lst []) l = some (.lst (ks.map V.int)) := by rw [upd_ne hgl.symm]; exact upd_same
    have hg2 : upd (upd H l (.lst (ks.map V.int))) g (.lst []) g = some (.lst []) := upd_same
    generalize upd (upd H l (.lst (ks.map V.int))) g (.lst []) = H1 at s1 hl2 hg2 ⊢
    refine while_by (fun σ H2 => ∃ left found : List Int, σ = [some (.ref d), some (.ref a), some (.ref l), some (.ref g)] ∧ Sup H2 d c ∧ SameX H H2 d c ∧ H2 l = some (.lst (left.map V.int)) ∧ H2 g = some (.lst (found.map V.int)) ∧ (found ++ left).Perm ks)
      (fun _ H2 => match H2 l with | some (.lst xs) => xs.length | _ => 0) ⟨ks, [], rfl, S.same s1, .of d c s1, hl2, hg2, List.Perm.refl _⟩ ?_ ?_
    · rintro σ H2 ⟨left, found, rfl, S2, x2, h1, h2, hp⟩
      have hll : found.length + left.length ≤ 63 := by
        have := hp.length_eq
        rw [List.length_append] at this
        omega
      refine ⟨_, rfl, Nat.zero_le _, fun e he => nonempty_data (ns := left) (SqL.of (by rw [upd_ne (ne_of_none h1 he)]; exact h1)) (SqL.of upd_same) ⟨_, rfl, ?_⟩⟩
      have x3 : SameX H (upd H2 e (.lst [])) d c := x2.trans (.of d c (same_new he))
      have h13 := same_new (o := .lst []) he _ _ h1
      have h23 := same_new (o := .lst []) he _ _ h2
      have S3 := S2.same (same_new (o := .lst []) he)
      generalize upd H2 e (.lst []) = H3 at x3 h13 h23 S3 ⊢
      by_cases hn : left = []
      · rw [decide_eq_true hn]
        refine iteF ?_
        subst hn
        rw [List.append_nil] at hp
        exact ⟨_, rfl, k g H3 found hp S3 x3 hg0 h23⟩
      · rw [decide_eq_false hn]
        refine iteT ?_
        have hpos : 0 < left.length := List.length_pos_iff.mpr hn
        have hdl : l ≠ d := fun z => S.hasD (by rw [← z]; exact hl1)
        have hcl : l ≠ c := fun z => S.hasC (by rw [← z]; exact hl1)
        have hdg : g ≠ d := fun z => S.hasD (by rw [← z]; exact hg0)
        have hcg : g ≠ c := fun z => S.hasC (by rw [← z]; exact hg0)
        refine ⟨_, rfl, .inl ⟨rfl, _, SqL.of h23⟩, _, rfl, .inl ⟨rfl, _, SqL.of h13⟩, _, rfl, _, rfl, l, _, rfl, .inl (SqL.of h13), d, c, _, rfl, S3, by rw [List.length_map]; omega, by rw [List.length_map]; omega, ?_⟩
        intro r H4 hr0 hr1 S4 x4
        have h14 := x4 _ _ hdl hcl h13
        have h24 := x4 _ _ hdg hcg h23
        rw [List.length_map] at hr1
        obtain ⟨j, rfl, hj⟩ : ∃ j : Nat, r = (j : Int) ∧ j < left.length := ⟨r.toNat, by omega, by omega⟩
        have hjm : j < (left.map V.int).length := by rw [List.length_map]; exact hj
        have hat : (left.map V.int)[j]? = some (V.int left[j]) := by rw [List.getElem?_map, List.getElem?_eq_getElem hj]; rfl
        refine ⟨l, _, _, j, _, rfl, rfl, h14, by omega, by omega, (ixN_seq (ix_at hjm)).1, hat, ?_⟩
        refine ⟨g, _, _, rfl, rfl, by rw [upd_ne hgl]; exact h24, by rw [List.length_map]; exact small1000 (by omega), ?_⟩
        have e1 : (left.map V.int).eraseIdx j = (left.eraseIdx j).map V.int := erase_map _ _ _
        have e2 : found.map V.int ++ [V.int left[j]] = (found ++ [left[j]]).map V.int := by rw [List.map_append]; rfl
        rw [e1, e2]
        have hL : upd (upd H4 l (.lst ((left.eraseIdx j).map V.int))) g (.lst ((found ++ [left[j]]).map V.int)) l = some (.lst ((left.eraseIdx j).map V.int)) := by rw [upd_ne hgl.symm]; exact upd_same
        refine ⟨⟨left.eraseIdx j, found ++ [left[j]], rfl, (S4.upd hdl hcl).upd hdg hcg, fun b o n1 n2 e => ?_, hL, upd_same, ?_⟩, ?_⟩
        · rw [upd_ne (ne_of_none e hg0), upd_ne (ne_of_none e hl1)]
          exact x4 b o n1 n2 (x3 b o n1 n2 e)
        · refine List.Perm.trans ?_ hp
          rw [List.append_assoc]
          refine List.Perm.append_left found ?_
          exact erase_perm left j hj
        · rw [hL, h1]
          show ((left.eraseIdx j).map V.int).length < (left.map V.int).length
          rw [List.length_map, List.length_map, List.length_eraseIdx, if_pos hj]
          omega
    · rintro σ H2 Q1 Q2 hq ⟨v, hv, hz, h⟩
      exact ⟨v, hv, hz, fun p hp => by
        obtain ⟨d1, e1, a1, a2, a3, a4, kk, a5, a6⟩ := h p hp
        exact ⟨d1, e1, a1, a2, a3, a4, kk, a5, hq _ _ a6⟩⟩
end
end LW

namespace LW
open PySem L2 KX
abbrev sKeys : Stmt := top 7
abbrev nKeys : List Str := ["_law_supply_here", "_law_n", "_law_way", "_law_found", "_law_key", "_law_k", "_law_one"]
section
variable {P : Program} {w : World} {K : PySem.W.Frag} {mg : Str → Option Value} {base : Heap}
theorem scKeys : FnScope nKeys ["_law_supply_here", "_law_n"] (defScope sKeys) := ⟨rfl, rfl, rfl, by decide +kernel, rfl, by decide +kernel, by decide +kernel⟩
theorem ok_keys {f fT : Addr} {fd fdT : FuncData} (F : Fun K "_law_keys" "_law_keys" sKeys f fd) (GT : FnOk P w K mg base CX0 1 fT fdT ["_law_supply_here", "_law_many"] spTake) (mT : mg "_law_take" = some (.ref fT)) (kT : PySem.W.keepIn K (.ref fT) = true) (bT : Binds K fdT ["_law_supply_here", "_law_many"] [])
    (mran : mg "range" = none) : FnOk P w K mg base CX0 2 f fd ["_law_supply_here", "_law_n"] spKeys := by
  refine F.ok scKeys (fun vs H Q E h => ?_) (fun cdv A outer s H vs Q E hr h => ?_)
  · obtain ⟨d, c, n, rfl, _⟩ := h
    rfl
  · obtain ⟨d, c, n, rfl, S, hn1, hn2, k⟩ := h
    refine ⟨_, pss_cons (ps_asg (pe_tup (pa_cons (pe_call GT hr (by rfl) mT kT bT .nil pass0 (pa_cons (pv 0) (pa_cons pe_int pa_nil))) (pa_cons (pe_lst pa_nil) (pa_cons pe_int pa_nil))))
          (pg_tup rfl (pgs_cons (pg_name (i := 2) scKeys.nd rfl (.inl rfl)) (pgs_cons (pg_name (i := 3) scKeys.nd rfl (.inr rfl)) (pgs_cons (pg_name (i := 4) scKeys.nd rfl (.inl rfl)) pgs_nil)))))
      (pss_cons (ps_for PassesOwn.never rfl (pi_range1 (by rfl) mran (pa_cons (pv 1) pa_nil)) (pg_name (i := 5) scKeys.nd rfl (.inl rfl))
        (pss_cons (ps_expr (pe_bm PySem.F.plainAttrs_list PySem.F.slot_list_append PySem.F.type_list_append mt_append (pv 3) (pa_cons (pv 4) pa_nil)))
        (pss_one (ps_set (i := 4) scKeys.nd rfl (.inl rfl) (pe_op op_add (pe_op op_add (pv 4) pe_int) (pe_ix ix_list (pe_lst (pa_cons pe_int (pa_cons (pe_call GT hr (by rfl) mT kT bT .nil pass0 (pa_cons (pv 0) (pa_cons pe_int pa_nil)))
          (pa_cons (pe_call GT hr (by rfl) mT kT bT .nil pass0 (pa_cons (pv 0) (pa_cons (pe_op op_pow pe_int pe_int) pa_nil))) pa_nil)))) (pv 2) (fun _ _ => rfl)))))))
      (pss_cons (ps_if (pt_cmpR op_eq (pv 2) pe_int (nomark _)) (pss_one (ps_set (i := 3) scKeys.nd rfl (.inr rfl) (pe_lc (own := [("_law_one", 6)]) (g := gName 6) (tt := tYes) rfl scKeys.nd (pi_list (pv 3))
          (blkOk_by (own := [("_law_one", 6)]) (N := nKeys) (sc := defScope sKeys) (by decide +kernel)) (fun _ _ _ _ _ => pg_name (i := 6) scKeys.nd rfl (.inl rfl)) (fun _ _ _ _ _ => pts_nil)
          (fun _ _ _ _ _ => pe_op op_sub (pe_op op_add (pv 6) (pe_op op_pow pe_int pe_int)) (pe_ix (show IxR _ (rIxL K) from ix_list) (pv 3) (pe_un un_neg pe_int) (fun _ _ => rfl)))))) pss_nil)
      (pss_one (ps_ret (pv 3))))), ?_⟩
    refine ⟨_, rfl, d, c, 3, rfl, S, by decide, by decide, fun r H1 hr0 hr1 S1 x1 => ?_⟩
    refine ⟨Nat.zero_le _, fun g hg => ⟨by show 3 ≤ sizeLine; decide, fun t ht => ⟨t, _, rfl, SqT.of upd_same, rfl, _, _, rfl, _, _, rfl, _, _, rfl, rfl, ?_⟩⟩⟩
    have hg1 : upd H1 g (.lst []) g = some (.lst ([].map V.int)) := upd_same
    have hgt : g ≠ t := ne_of_none hg1 ht
    have hg0 : H g = none := by
      cases e : H g with
      | none => rfl
      | some o =>
        rcases Decidable.em (g = d) with z | z
        · exact absurd hg (z ▸ S1.hasD)
        · rcases Decidable.em (g = c) with z2 | z2
          · exact absurd hg (z2 ▸ S1.hasC)
          · rw [x1 g o z z2 e] at hg; cases hg
    have hgd : g ≠ d := fun z => S.hasD (z ▸ hg0)
    have hgc : g ≠ c := fun z => S.hasC (z ▸ hg0)
    have s2 : Same H1 (upd (upd H1 g (.lst [])) t (.tup [.int r, .ref g, .int 0])) := (same_new hg).trans (same_new ht)
    have hg2 : upd (upd H1 g (.lst [])) t (.tup [.int r, .ref g, .int 0]) g = some (.lst (([] : List Int).map V.int)) := by rw [upd_ne hgt]; exact upd_same
    have S2 := S1.same s2
    have x2 : SameX H (upd (upd H1 g (.lst [])) t (.tup [.int r, .ref g, .int 0])) d c := x1.trans (.of d c s2)
    generalize upd (upd H1 g (.lst [])) t (.tup [.int r, .ref g, .int 0]) = H2 at s2 hg2 S2 x2 ⊢
    refine ⟨_, rfl, (n : Int), rfl, by omega, by omega, for_range (lo := 0) (n := n) (fun i σ H3 => ∃ (ks : List Int) (z : Int) (v : Option V), σ = [some (.ref d), some (.int (n : Int)), some (.int r), some (.ref g), some (.int z), v, none] ∧ ks.length = i ∧ ks.Pairwise (· < ·) ∧ (∀ y ∈ ks, 0 ≤ y ∧ y < z) ∧ 0 ≤ z ∧ z ≤ (i : Int) * 1000000000 ∧ Sup H3 d c ∧ SameX H H3 d c ∧ H3 g = some (.lst (ks.map V.int)))
      ⟨[], 0, none, rfl, rfl, List.Pairwise.nil, (fun _ h => nomatch h), by omega, by omega, S2, x2, hg2⟩ ?_ ?_⟩
    · rintro i σ H3 hi ⟨ks, z, v, rfl, hlen, hpw, hbd, hz0, hz1, S3, x3, hg3⟩
      refine ⟨_, rfl, .inl ⟨rfl, _, SqL.of hg3⟩, _, rfl, g, _, _, rfl, rfl, hg3, by rw [List.length_map]; exact small1000 (by omega), ?_⟩
      have e1 : ks.map V.int ++ [V.int z] = (ks ++ [z]).map V.int := by rw [List.map_append]; rfl
      rw [e1]
      have S4 : Sup (upd H3 g (.lst ((ks ++ [z]).map V.int))) d c := S3.upd hgd hgc
      have x4 : SameX H (upd H3 g (.lst ((ks ++ [z]).map V.int))) d c := fun b o n1 n2 e => by rw [upd_ne (ne_of_none e hg0)]; exact x3 b o n1 n2 e
      have hg4 : upd H3 g (.lst ((ks ++ [z]).map V.int)) g = some (.lst ((ks ++ [z]).map V.int)) := upd_same
      generalize upd H3 g (.lst ((ks ++ [z]).map V.int)) = H4 at S4 x4 hg4 ⊢
      refine ⟨_, rfl, _, _, rfl, rfl, _, rfl, d, c, 9, rfl, S4, by decide, by decide, fun r1 H5 h50 h51 S5 x5 => ?_⟩
      refine ⟨_, rfl, _, _, rfl, rfl, ⟨by decide, by decide, by decide⟩, d, c, 1000000000, rfl, S5, by decide, by decide, fun r2 H6 h60 h61 S6 x6 => ?_⟩
      refine ⟨by show 3 ≤ sizeLine; decide, fun l hl => ⟨_, rfl, ?_⟩⟩
      obtain ⟨j, rfl, hj⟩ : ∃ j : Nat, r = (j : Int) ∧ j < 3 := ⟨r.toNat, by omega, by omega⟩
      obtain ⟨y, hy, hy0, hy1⟩ : ∃ y : Int, ([V.int 0, V.int r1, V.int r2] : List V)[j]? = some (V.int y) ∧ 0 ≤ y ∧ y < 1000000000 := by
        match j, hj with
        | 0, _ => exact ⟨0, rfl, by omega, by omega⟩
        | 1, _ => exact ⟨r1, rfl, h50, by omega⟩
        | 2, _ => exact ⟨r2, rfl, h60, h61⟩
      refine ⟨l, _, _, _, rfl, rfl, SqL.of upd_same, atI_nat hy, _, _, rfl, rfl, ?_⟩
      have hgl : g ≠ l := ne_of_none (x6 _ _ hgd hgc (x5 _ _ hgd hgc hg4)) hl
      have x7 := ((x4.trans x5).trans x6).trans (.of d c (same_new (o := .lst [V.int 0, V.int r1, V.int r2]) hl))
      refine ⟨ks ++ [z], z + 1 + y, _, rfl, by simp [hlen], ?_, ?_, by omega, ?_, S6.same (same_new hl), x7, ?_⟩
      · rw [List.pairwise_append]
        exact ⟨hpw, List.pairwise_singleton _ _, fun a ha b hb => by
          rw [List.mem_singleton] at hb; subst hb
          exact (hbd a ha).2⟩
      · intro a ha
        rcases List.mem_append.mp ha with q | q
        · have := hbd a q; omega
        · rw [List.mem_singleton] at q; subst q; omega
      · show z + 1 + y ≤ ((i + 1 : Nat) : Int) * 1000000000
        omega
      · rw [upd_ne hgl]
        exact x6 _ _ hgd hgc (x5 _ _ hgd hgc hg4)
    · rintro σ H3 ⟨ks, z, v, rfl, hlen, hpw, hbd, hz0, hz1, S3, x3, hg3⟩
      have hzb : z ≤ 30000000000 := by omega
      refine ⟨_, rfl, rfl, _, rfl, ?_⟩
      refine ite2 (fun _ => ?_) (fun _ => ?_)
      · refine ⟨_, rfl, g, rfl, ⟨_, SqL.of hg3⟩, fun D hD => ?_⟩
        have hD0 : H D = none := by
          cases e : H D with
          | none => rfl
          | some o =>
            rcases Decidable.em (D = d) with q | q
            · exact absurd hD (q ▸ S3.hasD)
            · rcases Decidable.em (D = c) with q2 | q2
              · exact absurd hD (q2 ▸ S3.hasC)
              · rw [x3 D o q q2 e] at hD; cases hD
        have hne : ks ≠ [] := fun q => by rw [q] at hlen; simp at hlen; omega
        obtain ⟨ini, lst, hil⟩ : ∃ ini lst, ks = ini ++ [lst] := ⟨_, _, (List.dropLast_concat_getLast hne).symm⟩
        have hlast : atI (ks.map V.int) (-1) = some (V.int lst) := by
          rw [hil, List.map_append]; exact atI_last _ _
        refine lc_list (K := K) (a := g) (xs := ks.map V.int) (fun i Hx => At H3 Hx D (((ks.map fun y => y + 1000000000000 - lst).take i).map V.int)) (At.nil hD) (fun i Hx _ aa => SqL.of (aa.1 _ _ hg3)) ?_ ?_
        · rintro i y Hx hi aa
          obtain ⟨u, hu, rfl, hil2⟩ := getI hi
          refine ⟨rfl, _, rfl, _, _, rfl, rfl, ⟨by decide, by decide, by decide⟩, _, _, rfl, rfl, _, rfl, _, rfl, g, _, _, _, rfl, rfl, SqL.of (aa.1 _ _ hg3), hlast, _, _, rfl, rfl, _, aa.2, ?_, ?_⟩
          · rw [List.length_map, List.length_take]; exact small1000 (by rw [List.length_map]; omega)
          · have hm : (ks.map fun y => y + 1000000000000 - lst)[i]? = some (u + 1000000000000 - lst) := by rw [List.getElem?_map, hu]; rfl
            rw [take_step hm, List.map_append]
            exact aa.push hD _
        · intro Hx aa
          rw [List.length_map] at aa
          rw [show (ks.map fun y => y + 1000000000000 - lst).take ks.length = ks.map fun y => y + 1000000000000 - lst by rw [List.take_of_length_le (by rw [List.length_map]; omega)]] at aa
          refine ⟨_, rfl, k D Hx _ (by rw [List.length_map]; exact hlen) ⟨?_, ?_⟩ (S3.same aa.1) (x3.trans (.of d c aa.1)) hD0 aa.2⟩
          · exact List.pairwise_map.mpr (hpw.imp fun {a b} h => by omega)
          · intro y hy
            obtain ⟨u, hu, rfl⟩ := List.mem_map.mp hy
            have h1 := hbd u hu
            have h2 := hbd lst (by rw [hil]; simp)
            have h3 : u ≤ lst := by
              rw [hil] at hpw hu
              rcases List.mem_append.mp hu with q | q
              · exact Int.le_of_lt ((List.pairwise_append.mp hpw).2.2 u q lst (by simp))
              · rw [List.mem_singleton] at q; omega
            omega
      · refine ⟨_, rfl, k g H3 ks hlen ⟨hpw, fun y hy => ?_⟩ S3 x3 hg0 hg3⟩
        have := hbd y hy
        omega
end
end LW

namespace LW
open PySem L2 KX
abbrev sRow : Stmt := top 8
section
variable {P : Program} {w : World} {K : PySem.W.Frag} {mg : Str → Option Value} {base : Heap}
theorem scRow : FnScope ["_law_supply_here", "_law_most", "_law_held", "_law_way", "_law_at"] ["_law_supply_here", "_law_most"] (defScope sRow) := ⟨rfl, rfl, rfl, by decide +kernel, rfl, by decide +kernel, by decide +kernel⟩
theorem ok_row {f fT fK fS : Addr} {fd fdT fdK fdS : FuncData} (F : Fun K "_law_row" "_law_row" sRow f fd)
    (GT : FnOk P w K mg base CX0 1 fT fdT ["_law_supply_here", "_law_many"] spTake) (mT : mg "_law_take" = some (.ref fT)) (kT : PySem.W.keepIn K (.ref fT) = true) (bT : Binds K fdT ["_law_supply_here", "_law_many"] [])
    (GK : FnOk P w K mg base CX0 2 fK fdK ["_law_supply_here", "_law_n"] spKeys) (mK : mg "_law_keys" = some (.ref fK)) (kK : PySem.W.keepIn K (.ref fK) = true) (bK : Binds K fdK ["_law_supply_here", "_law_n"] [])
    (GS : FnOk P w K mg base CX0 2 fS fdS ["_law_supply_here", "_law_items"] (spStir K)) (mS : mg "_law_stirred" = some (.ref fS)) (kS : PySem.W.keepIn K (.ref fS) = true) (bS : Binds K fdS ["_law_supply_here", "_law_items"] [])
    (mlen : mg "len" = none) (mtup : mg "tuple" = none) : FnOk P w K mg base CX0 3 f fd ["_law_supply_here", "_law_most"] spRow := by
  refine F.ok scRow (fun vs H Q E h => ?_) (fun cdv A outer s H vs Q E hr h => ?_)
  · obtain ⟨d, c, n, rfl, _⟩ := h
    rfl
  · obtain ⟨d, c, n, rfl, S, hn1, hn2, k⟩ := h
    have hr1 : Room 1 _ := hr.mono (by decide)
    refine ⟨_, pss_cons (ps_set (i := 2) scRow.nd rfl (.inl rfl) (pe_call GK hr (by rfl) mK kK bK .nil pass0 (pa_cons (pv 0) (pa_cons (pe_op op_add pe_int (pe_call GT hr1 (by rfl) mT kT bT .nil pass0 (pa_cons (pv 0) (pa_cons (pv 1) pa_nil)))) pa_nil))))
      (pss_cons (ps_par (i := 3) (j := 4) rfl scRow.nd rfl rfl (by decide) rfl rfl (pa_cons (pe_call GT hr1 (by rfl) mT kT bT .nil pass0 (pa_cons (pv 0) (pa_cons pe_int pa_nil)))
          (pa_cons (pe_call GT hr1 (by rfl) mT kT bT .nil pass0 (pa_cons (pv 0) (pa_cons (pe_callB call_len_seq (by rfl) mlen PySem.boot_len (pa_cons (pv 2) pa_nil)) pa_nil))) pa_nil)) (by rfl))
      (pss_cons (ps_if (pt_cmpR op_eq (pv 3) pe_int (nomark _)) (pss_one (ps_ret (pe_callTy call_tuple_of (by rfl) mtup (by decide +kernel) (pa_cons (pe_revL (pv 2)) pa_nil)))) pss_nil)
      (pss_cons (ps_if (pt_cmpR op_eq (pv 3) pe_int (nomark _)) (pss_one (ps_ret (pe_callTy call_tuple_of (by rfl) mtup (by decide +kernel) (pa_cons (pe_op op_cat (pe_slice sl_list (pv 2) (po_some (pv 4)) po_none) (pe_slice sl_list (pv 2) po_none (po_some (pv 4)))) pa_nil)))) pss_nil)
      (pss_cons (ps_if (pt_cmpR op_eq (pv 3) pe_int (nomark _)) (pss_one (ps_ret (pe_callTy call_tuple_of (by rfl) mtup (by decide +kernel) (pa_cons (pe_op op_cat (pe_op op_cat (pe_slice sl_list (pv 2) po_none (po_some (pv 4)))
          (pe_revL (pe_slice sl_list (pv 2) (po_some (pv 4)) (po_some (pe_op op_add (pv 4) pe_int))))) (pe_slice sl_list (pv 2) (po_some (pe_op op_add (pv 4) pe_int)) po_none)) pa_nil)))) pss_nil)
      (pss_cons (ps_if (pt_cmpR op_eq (pv 3) pe_int (nomark _)) (pss_one (ps_ret (pe_callTy call_tuple_of (by rfl) mtup (by decide +kernel) (pa_cons (pe_op op_cat (pe_step (pv 2) (po_some pe_int) po_none (po_some pe_int)) (pe_step (pv 2) (po_some pe_int) po_none (po_some pe_int))) pa_nil)))) pss_nil)
      (pss_one (ps_ret (pe_callTy call_tuple_of (by rfl) mtup (by decide +kernel) (pa_cons (pe_call GS hr (by rfl) mS kS bS .nil pass0 (pa_cons (pv 0) (pa_cons (pv 2) pa_nil))) pa_nil))))))))), ?_⟩
    refine ⟨_, rfl, _, rfl, _, rfl, d, c, n, rfl, S, by omega, by omega, fun r1 H1 r10 r11 S1 x1 => ?_⟩
    obtain ⟨m, rfl, hm⟩ : ∃ m : Nat, r1 = (m : Int) ∧ m < n := ⟨r1.toNat, by omega, by omega⟩
    refine ⟨_, _, rfl, rfl, d, c, 1 + m, by rw [Int.natCast_add]; rfl, S1, by omega, by omega, fun g H2 ks hlen hks S2 x2 hg1 hg2 => ?_⟩
    have hg0 : H g = none := frX S1 x1 hg1
    have hgd : g ≠ d := fun z => S.hasD (z ▸ hg0)
    have hgc : g ≠ c := fun z => S.hasC (z ▸ hg0)
    refine ⟨_, rfl, d, c, 6, rfl, S2, by decide, by decide, fun wy H3 w0 w1 S3 x3 => ?_⟩
    have hg3 := x3 _ _ hgd hgc hg2
    refine ⟨_, rfl, _, rfl, g, _, rfl, .inl (SqL.of hg3), d, c, _, rfl, S3, by rw [List.length_map]; omega, by rw [List.length_map]; omega, fun at0 H4 a0 a1 S4 x4 => ?_⟩
    have hg4 := x4 _ _ hgd hgc hg3
    rw [List.length_map] at a1
    obtain ⟨j, rfl, hj⟩ : ∃ j : Nat, at0 = (j : Int) ∧ j < ks.length := ⟨at0.toNat, by omega, by omega⟩
    have x5 : SameX H H4 d c := ((x1.trans x2).trans x3).trans x4
    have frn : ∀ {b : Addr}, H4 b = none → H b = none := fun h => frX S4 x5 h
    refine ⟨_, _, rfl, ?_⟩
    have hll : ks.length ≤ 29 := by omega
    have fin : ∀ (Hx : Hp) (xs : List V), (∃ row : List Int, xs = row.map V.int ∧ row.Perm ks) → Same H4 Hx → ∀ l, Hx l = none → Q (.ref l) (upd Hx l (.tup xs)) := by
      rintro Hx xs ⟨row, rfl, hp⟩ sx l hl
      have hl2 := hp.length_eq
      exact k l _ row (.of hks hp) (by omega) (by omega) ((S4.same sx).same (same_new hl)) (x5.trans (.of d c (sx.trans (same_new hl)))) (frn (sx.free hl)) upd_same
    have c3 : ((j : Int) + 3) = ((j + 3 : Nat) : Int) := by omega
    refine ⟨_, rfl, rfl, _, rfl, ?_⟩
    refine ite2 (fun _ => ?_) (fun _ => ?_)
    · refine ⟨_, rfl, g, _, rfl, SqL.of hg4, fun q hq => ⟨q, _, rfl, .inl ⟨SqL.of upd_same, fin _ _ ⟨ks.reverse, ?_, List.reverse_perm ks⟩ (same_new hq)⟩⟩⟩
      rw [List.map_reverse]
    refine ⟨_, rfl, rfl, _, rfl, ?_⟩
    refine ite2 (fun _ => ?_) (fun _ => ?_)
    · refine ⟨_, rfl, _, rfl, _, rfl, g, _, rfl, SqL.of hg4, fun q hq => ?_⟩
      refine ⟨_, rfl, _, rfl, _, rfl, g, _, rfl, (same_new hq).seq (SqL.of hg4), fun q2 hq2 => ?_⟩
      refine ⟨q, q2, _, _, rfl, rfl, (same_new hq2) _ _ upd_same, upd_same, ?_, fun p hp => ⟨p, _, rfl, .inl ⟨SqL.of upd_same, fin _ _ ⟨ks.drop j ++ ks.take j, ?_, ?_⟩ (((same_new hq).trans (same_new hq2)).trans (same_new hp))⟩⟩⟩
      · rw [cut_from, cut_to, List.length_map, List.length_map, List.length_drop, List.length_take]; exact Nat.le_trans (show _ ≤ 29 by omega) (by decide)
      · rw [cut_from, cut_to, ← List.map_append]
      · exact List.perm_append_comm.trans (List.Perm.of_eq (List.take_append_drop j ks))
    refine ⟨_, rfl, rfl, _, rfl, ?_⟩
    refine ite2 (fun _ => ?_) (fun _ => ?_)
    · refine ⟨_, rfl, _, rfl, _, rfl, g, _, rfl, SqL.of hg4, fun q hq => ?_⟩
      refine ⟨_, rfl, _, rfl, _, rfl, _, rfl, _, _, rfl, rfl, _, rfl, g, _, rfl, (same_new hq).seq (SqL.of hg4), fun q2 hq2 => ⟨q2, _, rfl, SqL.of upd_same, fun q3 hq3 => ?_⟩⟩
      refine ⟨q, q3, _, _, rfl, rfl, (same_new hq3) _ _ ((same_new hq2) _ _ upd_same), upd_same, ?_, fun q4 hq4 => ?_⟩
      · rw [c3, cut_to, cut_nat, List.length_reverse, List.length_map, List.length_map, List.length_drop, List.length_take, List.length_take]; exact Nat.le_trans (show _ ≤ 58 by omega) (by decide)
      have s4 := fun o => ((same_new hq).trans (same_new hq2)).trans ((same_new hq3).trans (same_new (o := o) hq4))
      refine ⟨_, rfl, _, rfl, _, _, rfl, rfl, _, rfl, g, _, rfl, (s4 _).seq (SqL.of hg4), fun q5 hq5 => ?_⟩
      refine ⟨q4, q5, _, _, rfl, rfl, (same_new hq5) _ _ upd_same, upd_same, ?_, fun p hp => ⟨p, _, rfl, .inl ⟨SqL.of upd_same, fin _ _ ⟨(ks.take j ++ ((ks.take (j + 3)).drop j).reverse) ++ ks.drop (j + 3), ?_, ?_⟩ ((s4 _).trans ((same_new hq5).trans (same_new hp)))⟩⟩⟩
      · rw [c3, cut_to, cut_nat, cut_from, List.length_append, List.length_reverse, List.length_map, List.length_map, List.length_map, List.length_drop, List.length_drop, List.length_take, List.length_take]; exact Nat.le_trans (show _ ≤ 87 by omega) (by decide)
      · rw [c3, cut_to, cut_nat, cut_from, ← List.map_reverse, ← List.map_append, ← List.map_append]
      · exact mid_perm ks j
    refine ⟨_, rfl, rfl, _, rfl, ?_⟩
    refine ite2 (fun _ => ?_) (fun _ => ?_)
    · refine ⟨_, rfl, 1, rfl, 2, rfl, (fun z => by cases z), g, _, rfl, SqL.of hg4, fun q hq => ?_⟩
      refine ⟨_, rfl, 0, rfl, 2, rfl, (fun z => by cases z), g, _, rfl, (same_new hq).seq (SqL.of hg4), fun q2 hq2 => ?_⟩
      obtain ⟨row, er, hp0⟩ := odd_even ks (by omega)
      refine ⟨q, q2, _, _, rfl, rfl, (same_new hq2) _ _ upd_same, upd_same, ?_, fun p hp => ⟨p, _, rfl, .inl ⟨SqL.of upd_same, fin _ _ ⟨row, er, hp0⟩ (((same_new hq).trans (same_new hq2)).trans (same_new hp))⟩⟩⟩
      rw [← List.length_append, er, List.length_map, hp0.length_eq]; exact Nat.le_trans (show _ ≤ 29 by omega) (by decide)
    refine ⟨_, rfl, _, rfl, d, c, g, ks, rfl, S4, SqL.of hg4, by omega, fun p H6 ks' hp S6 x6 hp1 hp2 => ⟨p, _, rfl, .inl ⟨SqL.of hp2, fun l hl => ?_⟩⟩⟩
    have hl2 := hp.length_eq
    have x7 := x5.trans (x6.trans (.of d c (same_new (o := .tup (ks'.map V.int)) hl)))
    exact k l _ ks' (.of hks hp) (by omega) (by omega) (S6.same (same_new hl)) x7 (frn (frX S6 x6 hl)) upd_same
end
end LW

namespace MX
/-! ranks and mirrors of rows: plain lists -/
def sm (row : List Int) (k : Int) : Nat := (row.filter fun z => decide (z < k)).length
def desc (row : List Int) : List Int := row.mergeSort fun a b => decide (b ≤ a)
def flip (row : List Int) (k : Int) : Int := (desc row).getD (sm row k) 0
def mir (row : List Int) : List Int := row.reverse.map (flip row)
theorem sm_perm {a b : List Int} (h : a.Perm b) (k : Int) : sm a k = sm b k := (h.filter _).length_eq
theorem desc_perm (row : List Int) : (desc row).Perm row := List.mergeSort_perm _ _
theorem desc_ge (row : List Int) : (desc row).Pairwise (· ≥ ·) := by
  have h := List.pairwise_mergeSort (le := fun a b : Int => decide (b ≤ a)) (by intro a b c; simp; omega) (by intro a b; simp; omega) row
  exact h.imp fun {a b} q => by simpa using q
theorem desc_uniq {row ds : List Int} (hp : ds.Perm row) (hs : ds.Pairwise (· ≥ ·)) : ds = desc row :=
  (hp.trans (desc_perm row).symm).eq_of_pairwise (fun x y _ _ h1 h2 => Int.le_antisymm h2 h1) hs (desc_ge row)
theorem desc_gt {row : List Int} (hn : row.Nodup) : (desc row).Pairwise (· > ·) := by
  have h1 := desc_ge row
  have h2 : (desc row).Nodup := (desc_perm row).nodup_iff.mpr hn
  exact (h1.and h2).imp fun {a b} q => by have := q.1; have := q.2; omega
theorem sm_desc : ∀ (ds : List Int), ds.Pairwise (· > ·) → ∀ (j : Nat) (h : j < ds.length), sm ds ds[j] = ds.length - 1 - j
  | [], _, _, h => by simp at h
  | x :: xs, hp, 0, _ => by
    have h := (List.pairwise_cons.mp hp).1
    show ((x :: xs).filter fun z => decide (z < x)).length = _
    rw [List.filter_cons_of_neg (by simp), List.filter_eq_self.mpr (fun z hz => by simpa using h z hz)]
    simp
  | x :: xs, hp, j + 1, h => by
    have h1 := (List.pairwise_cons.mp hp).1
    have hj : j < xs.length := by simpa using h
    have ih := sm_desc xs (List.pairwise_cons.mp hp).2 j hj
    show ((x :: xs).filter fun z => decide (z < xs[j])).length = _
    rw [List.filter_cons_of_neg (by have := h1 xs[j] (List.getElem_mem hj); simp; omega)]
    show sm xs xs[j] = _
    rw [ih]
    simp only [List.length_cons]
    omega
theorem at_desc {row : List Int} (hn : row.Nodup) {k : Int} (hk : k ∈ row) : ∃ (j : Nat) (h : j < (desc row).length), (desc row)[j] = k ∧ sm row k = row.length - 1 - j := by
  obtain ⟨j, h, e⟩ := List.getElem_of_mem ((desc_perm row).mem_iff.mpr hk)
  refine ⟨j, h, e, ?_⟩
  have := sm_desc _ (desc_gt hn) j h
  rw [e, sm_perm (desc_perm row), (desc_perm row).length_eq] at this
  exact this
theorem sm_lt {row : List Int} (hn : row.Nodup) {k : Int} (hk : k ∈ row) : sm row k < row.length := by
  obtain ⟨j, h, _, e⟩ := at_desc hn hk
  rw [(desc_perm row).length_eq] at h
  omega
theorem flip_at {row : List Int} (hn : row.Nodup) {k : Int} (hk : k ∈ row) : (desc row)[sm row k]? = some (flip row k) := by
  have h : sm row k < (desc row).length := by rw [(desc_perm row).length_eq]; exact sm_lt hn hk
  unfold flip
  rw [List.getD_eq_getElem?_getD, List.getElem?_eq_getElem h]; rfl
theorem flip_mem {row : List Int} (hn : row.Nodup) {k : Int} (hk : k ∈ row) : flip row k ∈ row :=
  (desc_perm row).mem_iff.mp (List.mem_of_getElem? (flip_at hn hk))
theorem sm_flip {row : List Int} (hn : row.Nodup) {k : Int} (hk : k ∈ row) : sm row (flip row k) + sm row k + 1 = row.length := by
  obtain ⟨h, e⟩ := List.getElem?_eq_some_iff.mp (flip_at hn hk)
  have h1 := sm_desc _ (desc_gt hn) _ h
  rw [e, sm_perm (desc_perm row), (desc_perm row).length_eq] at h1
  rw [(desc_perm row).length_eq] at h
  omega
theorem sm_inj {row : List Int} (hn : row.Nodup) {a b : Int} (ha : a ∈ row) (hb : b ∈ row) (h : sm row a = sm row b) : a = b := by
  obtain ⟨i, hi, ei, si⟩ := at_desc hn ha
  obtain ⟨j, hj, ej, sj⟩ := at_desc hn hb
  have hl := (desc_perm row).length_eq
  have : i = j := by omega
  subst this
  exact ei.symm.trans ej
theorem flip_flip {row : List Int} (hn : row.Nodup) {k : Int} (hk : k ∈ row) : flip row (flip row k) = k := by
  have h1 := sm_flip hn hk
  have h2 := sm_flip hn (flip_mem hn hk)
  exact sm_inj hn (flip_mem hn (flip_mem hn hk)) hk (by omega)
theorem filter_flip {row : List Int} (hn : row.Nodup) {k : Int} (hk : k ∈ row) : (row.filter fun z => decide ((row.length : Int) - 1 - (sm row z : Int) = (sm row k : Int))) = [flip row k] := by
  have h1 : (row.filter fun z => decide ((row.length : Int) - 1 - (sm row z : Int) = (sm row k : Int))) = row.filter (· == flip row k) := by
    refine List.filter_congr fun z hz => ?_
    have e1 := sm_flip hn hk
    have e2 := sm_lt hn hz
    rw [Bool.eq_iff_iff, decide_eq_true_eq, beq_iff_eq]
    constructor
    · intro q
      exact sm_inj hn hz (flip_mem hn hk) (by omega)
    · intro q
      subst q
      omega
  rw [h1, List.filter_beq, hn.count, if_pos (flip_mem hn hk)]; rfl
theorem mir_mem {row : List Int} (hn : row.Nodup) (k : Int) : k ∈ mir row ↔ k ∈ row := by
  unfold mir
  rw [List.mem_map]
  constructor
  · rintro ⟨z, hz, rfl⟩
    exact flip_mem hn (List.mem_reverse.mp hz)
  · intro hk
    exact ⟨flip row k, List.mem_reverse.mpr (flip_mem hn hk), flip_flip hn hk⟩
theorem mir_nodup {row : List Int} (hn : row.Nodup) : (mir row).Nodup := by
  unfold mir
  rw [List.Nodup, List.pairwise_map]
  have h : row.reverse.Nodup := (List.reverse_perm row).nodup_iff.mpr hn
  refine List.Pairwise.imp_of_mem ?_ h
  intro a b ha hb hab e
  apply hab
  have := congrArg (flip row) e
  rw [flip_flip hn (List.mem_reverse.mp ha), flip_flip hn (List.mem_reverse.mp hb)] at this
  exact this
theorem mir_perm {row : List Int} (hn : row.Nodup) : (mir row).Perm row := by
  rw [List.perm_iff_count]
  intro a
  rw [(mir_nodup hn).count, hn.count]
  simp [mir_mem hn]
theorem mir_len (row : List Int) : (mir row).length = row.length := by unfold mir; simp
theorem mir_mir {row : List Int} (hn : row.Nodup) : mir (mir row) = row := by
  have hp := mir_perm hn
  have hd : desc (mir row) = desc row := (desc_uniq ((desc_perm _).trans hp) (desc_ge _))
  have hf : flip (mir row) = flip row := by
    funext k; unfold flip; rw [hd, sm_perm hp]
  show (mir row).reverse.map (flip (mir row)) = row
  rw [hf]
  unfold mir
  rw [← List.map_reverse, List.reverse_reverse, List.map_map]
  conv => rhs; rw [← List.map_id row]
  refine List.map_congr_left fun k hk => ?_
  exact flip_flip hn hk
/-- the place of a key in the ascending list -/
theorem asc_at : ∀ (asc : List Int), asc.Pairwise (· < ·) → ∀ k ∈ asc, asc[sm asc k]? = some k
  | [], _, _, h => nomatch h
  | x :: xs, hp, k, hk => by
    have h1 := (List.pairwise_cons.mp hp).1
    rcases List.mem_cons.mp hk with e | hk
    · subst e
      have : sm (k :: xs) k = 0 := by
        show ((k :: xs).filter fun z => decide (z < k)).length = 0
        rw [List.filter_cons_of_neg (by simp), List.filter_eq_nil_iff.mpr (fun z hz => by have := h1 z hz; simp; omega)]; rfl
      rw [this]; rfl
    · have hx := h1 k hk
      have : sm (x :: xs) k = sm xs k + 1 := by
        show ((x :: xs).filter fun z => decide (z < k)).length = _
        rw [List.filter_cons_of_pos (by simpa using hx)]; rfl
      rw [this]
      exact asc_at xs (List.pairwise_cons.mp hp).2 k hk
theorem asc_lt {asc row : List Int} (hp : asc.Perm row) (hs : asc.Pairwise (· ≤ ·)) (hn : row.Nodup) : asc.Pairwise (· < ·) :=
  (hs.and (hp.nodup_iff.mpr hn)).imp fun {a b} q => by have := q.1; have := q.2; omega
end MX

namespace LW
open PySem L2 KX MX
abbrev sRanks : Stmt := top 1
section
variable {P : Program} {w : World} {K : PySem.W.Frag} {mg : Str → Option Value} {base : Heap}
theorem scRanks : FnScope ["row", "ascending", "key"] ["row"] (defScope sRanks) := ⟨rfl, rfl, rfl, by decide +kernel, rfl, by decide +kernel, by decide +kernel⟩
theorem ok_ranks {f : Addr} {fd : FuncData} (F : Fun K "ranks" "ranks" sRanks f fd) (msor : mg "sorted" = none) (mtup : mg "tuple" = none) : FnOk P w K mg base CX0 1 f fd ["row"] (spRowFn K fun row => row.map fun k => (sm row k : Int)) := by
  refine F.ok scRanks (fun vs H Q E h => ?_) (fun cdv A outer s H vs Q E hr h => ?_)
  · obtain ⟨a, row, rfl, _⟩ := h
    rfl
  · obtain ⟨a, row, rfl, hS, hR, hl, k⟩ := h
    refine ⟨_, pss_cons (ps_set (i := 1) scRanks.nd rfl (.inr rfl) (pe_callB cr_srt (by rfl) msor (by decide +kernel) (pa_cons (pv 0) pa_nil)))
      (pss_one (ps_ret (pe_callTy call_tuple_of (by rfl) mtup (by decide +kernel) (pa_cons (pe_lc (own := [("key", 2)]) (g := gName 2) (tt := tYes) rfl scRanks.nd (pi_tup (pv 0))
        (blkOk_by (own := [("key", 2)]) (N := ["row", "ascending", "key"]) (sc := defScope sRanks) (by decide +kernel)) (fun _ _ _ _ _ => pg_name (i := 2) scRanks.nd rfl (.inl rfl)) (fun _ _ _ _ _ => pts_nil)
        (fun _ _ _ _ _ => (pe_bm PySem.F.plainAttrs_list PySem.F.slot_list_index PySem.F.type_list_index (show MtR _ "list.index" (rIndex K) from mt_index) (pv 1) (pa_cons (pv 2) pa_nil) : PE _ _ (tBM K "list" (rIndex K) (tVar 1) (tCons (tVar 2) tNil))))) pa_nil)))), ?_⟩
    refine ⟨_, rfl, a, row, rfl, .inr hS, fun asc g hp ho hg => ?_⟩
    have s1 : Same H (upd H g (.lst (asc.map V.int))) := same_new hg
    have hg1 : upd H g (.lst (asc.map V.int)) g = some (.lst (asc.map V.int)) := upd_same
    generalize upd H g (.lst (asc.map V.int)) = H1 at s1 hg1 ⊢
    have hlt := asc_lt hp ho hR.nd
    refine ⟨_, rfl, a, rfl, ⟨_, sameT s1 hS⟩, fun D hD => ?_⟩
    refine lc_tup (K := K) (a := a) (xs := row.map V.int) (fun i Hx => At H1 Hx D (((row.map fun k => (sm row k : Int)).take i).map V.int)) (At.nil hD) (fun i Hx _ aa => sameT (s1.trans aa.1) hS) ?_ ?_
    · rintro i y Hx hi aa
      obtain ⟨z, hz, rfl, hil⟩ := getI hi
      have hm : z ∈ asc := hp.mem_iff.mpr (List.mem_of_getElem? hz)
      have ha := asc_at asc hlt z hm
      have hj : (asc.map V.int)[sm row z]? = some (V.int z) := by rw [← sm_perm hp, List.getElem?_map, ha]; rfl
      refine ⟨rfl, _, rfl, .inl ⟨rfl, _, SqL.of (aa.1 _ _ hg1)⟩, _, rfl, g, _, V.int z, sm row z, V.int z, rfl, rfl, SqL.of (aa.1 _ _ hg1), rfl, ?_, hj, ?_, ?_, _, aa.2, ?_, ?_⟩
      · rw [List.all_map]; exact List.all_eq_true.mpr fun _ _ => rfl
      · show (z == z) = true; simp
      · intro m z' hmj hz'
        obtain ⟨u, hu, rfl, _⟩ := getI hz'
        show (u == z) = false
        rw [beq_eq_false_iff_ne]
        intro e
        subst e
        rw [← sm_perm hp] at hmj
        obtain ⟨h1, e1⟩ := List.getElem?_eq_some_iff.mp hu
        obtain ⟨h2, e2⟩ := List.getElem?_eq_some_iff.mp ha
        have := List.pairwise_iff_getElem.mp hlt m (sm asc u) h1 h2 hmj
        omega
      · rw [List.length_map, List.length_take]; exact small1000 (by rw [List.length_map]; omega)
      · have hm2 : (row.map fun k => (sm row k : Int))[i]? = some (sm row z : Int) := by rw [List.getElem?_map, hz]; rfl
        rw [take_step hm2, List.map_append]
        exact aa.push hD _
    · intro Hx aa
      rw [List.length_map] at aa
      rw [List.take_of_length_le (by rw [List.length_map]; omega)] at aa
      refine ⟨D, _, rfl, .inl ⟨SqL.of aa.2, fun l hl2 => ?_⟩⟩
      have sx := s1.trans aa.1
      exact k l _ (sx.trans (same_new hl2)) (sx.free hl2) upd_same
end
end LW

namespace LW
open PySem L2 KX MX
abbrev sMirror : Stmt := top 2
abbrev sSmaller : Stmt := top 9
abbrev sLMirror : Stmt := top 10
section
variable {P : Program} {w : World} {K : PySem.W.Frag} {mg : Str → Option Value} {base : Heap}
abbrev nMirror : List Str := ["row", "descending", "row_ranks", "rank"]
theorem scMirror : FnScope nMirror ["row"] (defScope sMirror) := ⟨rfl, rfl, rfl, by decide +kernel, rfl, by decide +kernel, by decide +kernel⟩
theorem ok_mirror {f fR : Addr} {fd fdR : FuncData} (F : Fun K "mirror" "mirror" sMirror f fd) (GR : FnOk P w K mg base CX0 1 fR fdR ["row"] (spRowFn K fun row => row.map fun k => (sm row k : Int))) (mR : mg "ranks" = some (.ref fR)) (kR : PySem.W.keepIn K (.ref fR) = true) (bR : Binds K fdR ["row"] [])
    (msor : mg "sorted" = none) (mtup : mg "tuple" = none) (mrev : mg "reversed" = none) : FnOk P w K mg base CX0 2 f fd ["row"] (spRowFn K mir) := by
  refine F.ok scMirror (fun vs H Q E h => ?_) (fun cdv A outer s H vs Q E hr h => ?_)
  · obtain ⟨a, row, rfl, _⟩ := h
    rfl
  · obtain ⟨a, row, rfl, hS, hR, hl, k⟩ := h
    refine ⟨_, pss_cons (ps_set (i := 1) scMirror.nd rfl (.inr rfl) (pe_callBK (cr_srtRev (b := true)) (by rfl) msor (by decide +kernel) (pa_cons (pv 0) pa_nil) (pk_cons pe_bl pk_nil)))
      (pss_cons (ps_set (i := 2) scMirror.nd rfl (.inl rfl) (pe_call GR hr (by rfl) mR kR bR .nil pass0 (pa_cons (pv 0) pa_nil)))
      (pss_one (ps_ret (pe_callTy call_tuple_of (by rfl) mtup (by decide +kernel) (pa_cons (pe_lc (own := [("rank", 3)]) (g := gName 3) (tt := tYes) rfl scMirror.nd (RT.pi_revA (by rfl) mrev (pv 2))
        (blkOk_by (own := [("rank", 3)]) (N := nMirror) (sc := defScope sMirror) (by decide +kernel)) (fun _ _ _ _ _ => pg_name (i := 3) scMirror.nd rfl (.inl rfl)) (fun _ _ _ _ _ => pts_nil)
        (fun _ _ _ _ _ => pe_ix (show IxR _ (rIxL K) from ix_list) (pv 1) (pv 3) (fun _ _ => rfl))) pa_nil))))), ?_⟩
    refine ⟨_, rfl, rfl, a, row, rfl, .inr hS, fun ds g hp ho hg => ?_⟩
    have s1 : Same H (upd H g (.lst (ds.map V.int))) := same_new hg
    have hg1 : upd H g (.lst (ds.map V.int)) g = some (.lst (ds.map V.int)) := upd_same
    generalize upd H g (.lst (ds.map V.int)) = H1 at s1 hg1 ⊢
    have hds : ds = desc row := desc_uniq hp ho
    refine ⟨_, rfl, a, row, rfl, sameT s1 hS, hR, hl, fun q H2 s2 hq1 hq2 => ?_⟩
    refine ⟨_, rfl, q, _, rfl, .inr ⟨SqT.of hq2, fun D hD => ?_⟩⟩
    have hlen : ((row.map fun k => (sm row k : Int)).map V.int).length = row.length := by simp
    refine lc_rt (K := K) (a := q) (xs := (row.map fun k => (sm row k : Int)).map V.int) (fun i Hx => At H2 Hx D (((mir row).take i).map V.int)) (At.nil hD) (fun i Hx _ aa => SqT.of (aa.1 _ _ hq2)) ?_ ?_
    · rintro i y Hx hi hy aa
      rw [hlen] at hi hy
      obtain ⟨z, hz, rfl, _⟩ := getI hy
      rw [List.getElem?_map] at hz
      have hrow : row[row.length - 1 - i]? = some row[row.length - 1 - i] := List.getElem?_eq_getElem (by omega)
      rw [hrow] at hz
      obtain rfl : (sm row row[row.length - 1 - i] : Int) = z := Option.some.inj hz
      have hmem : row[row.length - 1 - i] ∈ row := List.getElem_mem _
      have hf := flip_at hR.nd hmem
      rw [← hds] at hf
      have hf2 : (ds.map V.int)[sm row row[row.length - 1 - i]]? = some (V.int (flip row row[row.length - 1 - i])) := by rw [List.getElem?_map, hf]; rfl
      refine ⟨rfl, _, rfl, _, rfl, g, _, _, _, rfl, rfl, SqL.of (aa.1 _ _ (s2 _ _ hg1)), atI_nat hf2, _, aa.2, ?_, ?_⟩
      · rw [List.length_map, List.length_take]; exact small1000 (by rw [mir_len]; omega)
      · have hm2 : (mir row)[i]? = some (flip row row[row.length - 1 - i]) := by
          unfold mir
          rw [List.getElem?_map, List.getElem?_reverse (by omega), hrow]; rfl
        rw [take_step hm2, List.map_append]
        exact aa.push hD _
    · intro Hx aa
      rw [hlen] at aa
      rw [List.take_of_length_le (by rw [mir_len]; omega)] at aa
      refine ⟨D, _, rfl, .inl ⟨SqL.of aa.2, fun l hl2 => ?_⟩⟩
      have sx := (s1.trans s2).trans aa.1
      exact k l _ (sx.trans (same_new hl2)) (sx.free hl2) upd_same
/-- the number of smaller keys -/
def spSmaller (K : PySem.W.Frag) : Sp := fun vs H Q _ => ∃ (a : Addr) (row : List Int) (z : Int), vs = [.ref a, .int z] ∧ SqT K H a (row.map V.int) ∧ row.length ≤ 29 ∧ ∀ H' : Hp, Same H H' → Q (.int (sm row z : Int)) H'
abbrev nSmaller : List Str := ["_law_row_here", "_law_key", "_law_one"]
theorem scSmaller : FnScope nSmaller ["_law_row_here", "_law_key"] (defScope sSmaller) := ⟨rfl, rfl, rfl, by decide +kernel, rfl, by decide +kernel, by decide +kernel⟩
theorem ok_smaller {f : Addr} {fd : FuncData} (F : Fun K "_law_smaller" "_law_smaller" sSmaller f fd) (mlen : mg "len" = none) : FnOk P w K mg base CX0 1 f fd ["_law_row_here", "_law_key"] (spSmaller K) := by
  refine F.ok scSmaller (fun vs H Q E h => ?_) (fun cdv A outer s H vs Q E hr h => ?_)
  · obtain ⟨a, row, z, rfl, _⟩ := h
    rfl
  · obtain ⟨a, row, z, rfl, hS, hl, k⟩ := h
    refine ⟨_, pss_one (ps_ret (pe_callB call_len_seq (by rfl) mlen PySem.boot_len (pa_cons (pe_lc (own := [("_law_one", 2)]) (g := gName 2) rfl scSmaller.nd (pi_tup (pv 0))
        (blkOk_by (own := [("_law_one", 2)]) (N := nSmaller) (sc := defScope sSmaller) (by decide +kernel)) (fun _ _ _ _ _ => pg_name (i := 2) scSmaller.nd rfl (.inl rfl)) (fun _ _ _ _ _ => pts_one (pt_cmpR op_lt (pv 2) (pv 1) (nomark _)))
        (fun _ _ _ _ _ => pv 2)) pa_nil))), ?_⟩
    refine ⟨_, rfl, a, rfl, ⟨_, hS⟩, fun D hD => ?_⟩
    refine lc_tup (K := K) (a := a) (xs := row.map V.int) (fun i Hx => At H Hx D (((row.take i).filter fun y => decide (y < z)).map V.int)) (At.nil hD) (fun i Hx _ aa => sameT aa.1 hS) ?_ ?_
    · rintro i y Hx hi aa
      obtain ⟨u, hu, rfl, hil⟩ := getI hi
      have hll : (((row.take i).filter fun y => decide (y < z)).map V.int).length < sizeLine := by
        rw [List.length_map]
        have := List.length_filter_le (fun y => decide (y < z)) (row.take i)
        rw [List.length_take] at this
        exact small1000 (by omega)
      refine ⟨rfl, _, rfl, _, rfl, _, _, rfl, rfl, _, rfl, ?_⟩
      rw [take_step hu, List.filter_append]
      by_cases h : u < z
      · rw [List.filter_cons_of_pos (by simpa using h), decide_eq_true h]
        refine iteT ?_
        refine ⟨_, rfl, _, aa.2, hll, ?_⟩
        rw [List.map_append]
        exact aa.push hD _
      · rw [List.filter_cons_of_neg (by simpa using h), decide_eq_false h]
        refine iteF ?_
        simpa using aa
    · intro Hx aa
      rw [List.length_map, List.take_length] at aa
      refine ⟨D, _, rfl, .inl (SqL.of aa.2), ?_⟩
      have := k Hx aa.1
      rw [List.length_map]
      exact this
end
end LW

namespace KX
open PySem PySem.Spec L2
open PyProof.Rows hiding St
/-! data that repr shows -/
structure FineD (d : PyData) (dep B : Nat) : Prop where
  nd : d.hasDict = false
  sh : d.showable = true
  dp : d.depth ≤ dep
  sz : d.shown.length ≤ B
theorem FineD.int {i : Int} (h : i.natAbs < 10 ^ 13) : FineD (.int i) 0 14 := by
  refine ⟨rfl, ?_, Nat.le_refl _, ?_⟩
  · simp only [PyData.showable, decide_eq_true_eq]
    have h2 : i.natAbs < 2 ^ 1920 := Nat.lt_trans h (by decide)
    rcases Nat.eq_zero_or_pos i.natAbs with z | z
    · rw [z]; decide
    · exact (Nat.log2_lt (by omega)).mpr h2
  · show (Str.ofString (toString i)).length ≤ 14
    rw [PySem.ofString_length]; exact int_text_length_le10 (k := 13) (by decide) h
theorem FineD.bool (b : Bool) : FineD (.bool b) 0 5 := ⟨rfl, rfl, Nat.le_refl _, by cases b <;> decide⟩
theorem FineD.none : FineD .none 0 4 := ⟨rfl, rfl, Nat.le_refl _, by decide⟩
theorem FineD.mono {d : PyData} {n m A B : Nat} (h : FineD d n A) (h1 : n ≤ m) (h2 : A ≤ B) : FineD d m B := ⟨h.nd, h.sh, Nat.le_trans h.dp h1, Nat.le_trans h.sz h2⟩
theorem fine_all {dep B : Nat} : ∀ {ds : List PyData}, (∀ d ∈ ds, FineD d dep B) → PyData.hasDictAll ds = false ∧ PyData.showableAll ds = true ∧ PyData.depthAll ds ≤ dep ∧ ((PyData.shownAll ds).map (·.length)).sum ≤ ds.length * B ∧ (PyData.shownAll ds).length = ds.length
  | [], _ => ⟨rfl, rfl, Nat.zero_le _, Nat.zero_le _, rfl⟩
  | d :: ds, h => by
    obtain ⟨a1, a2, a3, a4, a5⟩ := fine_all (ds := ds) fun x hx => h x (List.mem_cons_of_mem _ hx)
    have hd := h d List.mem_cons_self
    refine ⟨by simp only [PyData.hasDictAll, hd.nd, a1, Bool.or_self], by simp only [PyData.showableAll, hd.sh, a2, Bool.and_self], ?_, ?_, by simp only [PyData.shownAll, List.length_cons, a5]⟩
    · simp only [PyData.depthAll]; exact Nat.max_le.mpr ⟨hd.dp, a3⟩
    · simp only [PyData.shownAll, List.map_cons, List.sum_cons, List.length_cons]
      have := hd.sz
      rw [Nat.add_mul]; omega
theorem FineD.tup {ds : List PyData} {dep B : Nat} (h : ∀ d ∈ ds, FineD d dep B) : FineD (.tuple ds) (dep + 1) (ds.length * (B + 2) + 3) := by
  obtain ⟨a1, a2, a3, a4, a5⟩ := fine_all h
  refine ⟨by simp only [PyData.hasDict, a1], by simp only [PyData.showable, a2], by simp only [PyData.depth]; omega, ?_⟩
  have := tupleText_len_le (PyData.shownAll ds)
  rw [a5] at this
  simp only [PyData.shown]
  rw [Nat.mul_add]; omega
theorem FineD.lst {ds : List PyData} {dep B : Nat} (h : ∀ d ∈ ds, FineD d dep B) : FineD (.list ds) (dep + 1) (ds.length * (B + 2) + 3) := by
  obtain ⟨a1, a2, a3, a4, a5⟩ := fine_all h
  refine ⟨by simp only [PyData.hasDict, a1], by simp only [PyData.showable, a2], by simp only [PyData.depth]; omega, ?_⟩
  have := listText_len_le (PyData.shownAll ds)
  rw [a5] at this
  simp only [PyData.shown]
  rw [Nat.mul_add]; omega
/-- a tuple of few small ints -/
theorem fine_row {ns : List Int} (hl : ns.length ≤ 60) (h : ∀ k ∈ ns, k.natAbs < 10 ^ 13) : FineD (.tuple (ns.map PyData.int)) 1 1000 := by
  have := FineD.tup (ds := ns.map PyData.int) (dep := 0) (B := 14) fun d hd => by
    obtain ⟨k, hk, rfl⟩ := List.mem_map.mp hd
    exact .int (h k hk)
  rw [List.length_map] at this
  exact this.mono (Nat.le_refl _) (by omega)
theorem rRepr_of {K : PySem.W.Frag} {H : Hp} {v : V} {d : PyData} {dep B : Nat} {Q : VK} (h : Dp K H v d) (f : FineD d dep B) (h1 : dep ≤ 60) (h2 : B ≤ sizeLine) (q : Q (.str d.shown) H) : rRepr K [v] H Q :=
  ⟨v, d, rfl, h, f.nd, f.sh, Nat.le_trans f.dp h1, Nat.le_trans f.sz h2, q⟩
theorem RowOk.small {row : List Int} (h : RowOk row) : ∀ k ∈ row, k.natAbs < 10 ^ 13 := fun k hk => by
  have := h.key k hk
  omega
end KX

namespace LW
open PySem L2 KX MX
abbrev sLaw : Stmt := top 11
section
variable {P : Program} {w : World} {K : PySem.W.Frag} {mg : Str → Option Value} {base : Heap}
abbrev nLMirror : List Str := ["_law_row_here", "_law_found", "_law_place", "_law_many", "_law_key"]
theorem scLMirror : FnScope nLMirror ["_law_row_here"] (defScope sLMirror) := ⟨rfl, rfl, rfl, by decide +kernel, rfl, by decide +kernel, by decide +kernel⟩
theorem ok_lmirror {f fS : Addr} {fd fdS : FuncData} (F : Fun K "_law_mirror" "_law_mirror" sLMirror f fd) (GS : FnOk P w K mg base CX0 1 fS fdS ["_law_row_here", "_law_key"] (spSmaller K)) (mS : mg "_law_smaller" = some (.ref fS)) (kS : PySem.W.keepIn K (.ref fS) = true) (bS : Binds K fdS ["_law_row_here", "_law_key"] [])
    (mlen : mg "len" = none) (mran : mg "range" = none) (mtup : mg "tuple" = none) : FnOk P w K mg base CX0 2 f fd ["_law_row_here"] (spRowFn K mir) := by
  refine F.ok scLMirror (fun vs H Q E h => ?_) (fun cdv A outer s H vs Q E hr h => ?_)
  · obtain ⟨a, row, rfl, _⟩ := h
    rfl
  · obtain ⟨a, row, rfl, hS, hR, hl, k⟩ := h
    refine ⟨_, pss_cons (ps_set (i := 1) scLMirror.nd rfl (.inl rfl) (pe_lst pa_nil))
      (pss_cons (ps_for PassesOwn.never rfl (pi_range3 (by rfl) mran (pa_cons (pe_op op_sub (pe_callB call_len_seq (by rfl) mlen PySem.boot_len (pa_cons (pv 0) pa_nil)) pe_int) (pa_cons (pe_un un_neg pe_int) (pa_cons (pe_un un_neg pe_int) pa_nil)))) (pg_name (i := 2) scLMirror.nd rfl (.inl rfl))
        (pss_cons (ps_set (i := 3) scLMirror.nd rfl (.inr rfl) (pe_call GS hr (by rfl) mS kS bS .nil pass0 (pa_cons (pv 0) (pa_cons (pe_ix ix_tup (pv 0) (pv 2) (fun _ _ => rfl)) pa_nil))))
        (pss_one (ps_set (i := 1) scLMirror.nd rfl (.inl rfl) (pe_op op_cat (pv 1) (pe_lc (own := [("_law_key", 4)]) (g := gName 4) rfl scLMirror.nd (pi_tup (pv 0))
          (blkOk_by (own := [("_law_key", 4)]) (N := nLMirror) (sc := defScope sLMirror) (by decide +kernel)) (fun _ _ _ _ _ => pg_name (i := 4) scLMirror.nd rfl (.inl rfl))
          (fun _ _ _ _ _ => pts_one (pt_cmpR op_eq (pe_op op_sub (pe_op op_sub (pe_callB (show CallR _ (.builtin "len") (rLenQ K) from call_len_seq) (by rfl) mlen PySem.boot_len (pa_cons (pv 0) pa_nil)) pe_int) (pe_call (sp := spSmaller K) GS hr (by rfl) mS kS bS .nil pass0 (pa_cons (pv 0) (pa_cons (pv 4) pa_nil)))) (pv 3) (nomark _)))
          (fun _ _ _ _ _ => pv 4)))))))
      (pss_one (ps_ret (pe_callTy call_tuple_of (by rfl) mtup (by decide +kernel) (pa_cons (pv 1) pa_nil))))), ?_⟩
    refine ⟨Nat.zero_le _, fun g hg => ?_⟩
    have s1 : Same H (upd H g (.lst [])) := same_new hg
    have hg1 : upd H g (.lst []) g = some (.lst []) := upd_same
    generalize upd H g (.lst []) = H1 at s1 hg1 ⊢
    have hlv : (row.map V.int).length = row.length := List.length_map _
    refine ⟨_, rfl, a, _, rfl, .inr (sameT s1 hS), _, _, rfl, rfl, 1, rfl, 1, rfl, _, _, _, (((row.length : Int) - 1) - (-1)).toNat, rfl, ?_, ?_⟩
    · rw [hlv]; exact RgC.neg (by omega) (by omega) (by omega) (by omega)
    rw [show (((row.length : Int) - 1) - (-1)).toNat = row.length by omega, hlv]
    refine for_rangeC (lo := (row.length : Int) - 1) (c := -1) (n := row.length) (fun i σ Hx => ∃ (l : Addr) (v2 v3 : Option V), σ = [some (.ref a), some (.ref l), v2, v3, none] ∧ Same H Hx ∧ Hx l = some (.lst (((mir row).take i).map V.int))) ⟨g, none, none, rfl, s1, hg1⟩ ?_ ?_
    · rintro i σ Hx hi ⟨l, v2, v3, rfl, sx, hlx⟩
      have hrow : row[row.length - 1 - i]? = some row[row.length - 1 - i] := List.getElem?_eq_getElem (by omega)
      have hmem : row[row.length - 1 - i] ∈ row := List.getElem_mem _
      have hm2 : (mir row)[i]? = some (flip row row[row.length - 1 - i]) := by
        unfold mir
        rw [List.getElem?_map, List.getElem?_reverse (by omega), hrow]; rfl
      generalize row[row.length - 1 - i] = y at hrow hmem hm2
      have e1 : (row.length : Int) - 1 + (i : Nat) * (-1) = ((row.length - 1 - i : Nat) : Int) := by omega
      rw [e1]
      have hat : (row.map V.int)[row.length - 1 - i]? = some (V.int y) := by rw [List.getElem?_map, hrow]; rfl
      refine ⟨_, rfl, _, rfl, _, rfl, a, _, _, _, rfl, rfl, sameT sx hS, atI_nat hat, a, row, y, rfl, sameT sx hS, hl, fun H2 s2 => ?_⟩
      have sx2 := sx.trans s2
      refine ⟨_, rfl, _, rfl, a, rfl, ⟨_, sameT sx2 hS⟩, fun D hD => ?_⟩
      refine lc_tup (K := K) (a := a) (xs := row.map V.int) (fun j Hy => At H2 Hy D (((row.take j).filter fun z => decide ((row.length : Int) - 1 - (sm row z : Int) = (sm row y : Int))).map V.int)) (At.nil hD) (fun j Hy _ aa => sameT (sx2.trans aa.1) hS) ?_ ?_
      · rintro j u Hy hj aa
        obtain ⟨z, hz, rfl, hjl⟩ := getI hj
        refine ⟨rfl, _, rfl, a, _, rfl, .inr (sameT (sx2.trans aa.1) hS), _, _, rfl, rfl, _, rfl, _, rfl, a, row, z, rfl, sameT (sx2.trans aa.1) hS, hl, fun H3 s3 => ?_⟩
        have aa3 : At H2 H3 D _ := ⟨aa.1.trans s3, s3 _ _ aa.2⟩
        refine ⟨_, _, rfl, rfl, _, rfl, rfl, _, rfl, ?_⟩
        rw [take_step hz, List.filter_append, hlv]
        have hll : (((row.take j).filter fun z => decide ((row.length : Int) - 1 - (sm row z : Int) = (sm row y : Int))).map V.int).length < sizeLine := by
          rw [List.length_map]
          have := List.length_filter_le (fun z => decide ((row.length : Int) - 1 - (sm row z : Int) = (sm row y : Int))) (row.take j)
          rw [List.length_take] at this
          exact small1000 (by omega)
        by_cases h : (row.length : Int) - 1 - (sm row z : Int) = (sm row y : Int)
        · rw [List.filter_cons_of_pos (by simpa using h)]
          refine ite2 (fun _ => ?_) (fun q => absurd (decide_eq_true (congrArg V.int h)) q)
          refine ⟨_, rfl, _, aa3.2, hll, ?_⟩
          rw [List.map_append]
          exact aa3.push hD _
        · rw [List.filter_cons_of_neg (by simpa using h)]
          refine ite2 (fun q => absurd (V.int.inj (of_decide_eq_true q)) h) (fun _ => ?_)
          simpa using aa3
      · intro Hy aa
        rw [hlv, List.take_length, filter_flip hR.nd hmem] at aa
        have hl2 := aa.1 _ _ (s2 _ _ hlx)
        refine ⟨l, D, _, _, rfl, rfl, hl2, aa.2, ?_, fun q hq => ?_⟩
        · rw [List.length_map, List.length_take]; exact Nat.le_trans (show _ ≤ 30 by rw [mir_len]; simp; omega) (by decide)
        · refine ⟨q, _, _, rfl, (sx2.trans aa.1).trans (same_new hq), ?_⟩
          rw [upd_same, take_step hm2, List.map_append]
    · rintro σ Hx ⟨l, v2, v3, rfl, sx, hlx⟩
      rw [List.take_of_length_le (by rw [mir_len]; omega)] at hlx
      refine ⟨_, rfl, l, _, rfl, .inl ⟨SqL.of hlx, fun p hp => ?_⟩⟩
      exact k p _ (sx.trans (same_new hp)) (sx.free hp) upd_same
end
end LW

namespace LW
open PySem L2 KX MX
section
variable {P : Program} {w : World} {K : PySem.W.Frag} {mg : Str → Option Value} {base : Heap}
abbrev nLaw : List Str := ["_law_script", "_law_supply_here", "_law_turn", "_law_row_here", "_law_shown", "_law_due", "_law_again", "_law_key"]
theorem scLaw : FnScope nLaw ["_law_script"] (defScope sLaw) := ⟨rfl, rfl, rfl, by decide +kernel, rfl, by decide +kernel, by decide +kernel⟩
def spLaw (K : PySem.W.Frag) : Sp := fun vs H Q _ => ∃ (a : Addr) (ns : List Int), vs = [.ref a] ∧ SqL K H a (ns.map V.int) ∧ ns.length ≤ 63 ∧ ∀ H', Q (.bl true) H'
abbrev rkf : List Int → List Int := fun row => row.map fun k => (sm row k : Int)
theorem ok_law {f fU fR fA fM fS fL : Addr} {fd fdU fdR fdA fdM fdS fdL : FuncData} (F : Fun K "law" "law" sLaw f fd)
    (GU : FnOk P w K mg base CX0 1 fU fdU ["_law_script"] (spSupply K)) (mU : mg "_law_supply" = some (.ref fU)) (kU : PySem.W.keepIn K (.ref fU) = true) (bU : Binds K fdU ["_law_script"] [])
    (GR : FnOk P w K mg base CX0 3 fR fdR ["_law_supply_here", "_law_most"] spRow) (mR : mg "_law_row" = some (.ref fR)) (kR : PySem.W.keepIn K (.ref fR) = true) (bR : Binds K fdR ["_law_supply_here", "_law_most"] [])
    (GA : FnOk P w K mg base CX0 1 fA fdA ["row"] (spRowFn K rkf)) (mA : mg "ranks" = some (.ref fA)) (kA : PySem.W.keepIn K (.ref fA) = true) (bA : Binds K fdA ["row"] [])
    (GM : FnOk P w K mg base CX0 2 fM fdM ["row"] (spRowFn K mir)) (mM : mg "mirror" = some (.ref fM)) (kM : PySem.W.keepIn K (.ref fM) = true) (bM : Binds K fdM ["row"] [])
    (GS : FnOk P w K mg base CX0 1 fS fdS ["_law_row_here", "_law_key"] (spSmaller K)) (mS : mg "_law_smaller" = some (.ref fS)) (kS : PySem.W.keepIn K (.ref fS) = true) (bS : Binds K fdS ["_law_row_here", "_law_key"] [])
    (GL : FnOk P w K mg base CX0 2 fL fdL ["_law_row_here"] (spRowFn K mir)) (mL : mg "_law_mirror" = some (.ref fL)) (kL : PySem.W.keepIn K (.ref fL) = true) (bL : Binds K fdL ["_law_row_here"] [])
    (mran : mg "range" = none) (mtup : mg "tuple" = none) (mrep : mg "repr" = none) : FnOkG P w K mg base CX0 4 f fd ["_law_script"] (spLaw K) := by
  refine Fun.okG F scLaw (fun vs H Q E h => ?_) (fun cdv A outer s H vs Q E hgd hr h => ?_)
  · obtain ⟨a, ns, rfl, _⟩ := h
    rfl
  · obtain ⟨a, ns, rfl, hS, hl, k⟩ := h
    have hr1 : Room 1 _ := hr.mono (by decide)
    have hr2 : Room 2 _ := hr.mono (by decide)
    have hu := hr.units
    refine ⟨_, pss_cons (ps_set (i := 1) scLaw.nd rfl (.inl rfl) (pe_call GU hr1 (by rfl) mU kU bU .nil pass0 (pa_cons (pv 0) pa_nil)))
      (pss_cons (ps_for PassesOwn.never rfl (pi_range1 (by rfl) mran (pa_cons pe_int pa_nil)) (pg_name (i := 2) scLaw.nd rfl (.inl rfl))
        (pss_cons (ps_set (i := 3) scLaw.nd rfl (.inr rfl) (pe_call GR hr (by rfl) mR kR bR .nil pass0 (pa_cons (pv 1) (pa_cons pe_int pa_nil))))
        (pss_cons (ps_par (i := 4) (j := 5) rfl scLaw.nd rfl rfl (by decide) rfl rfl (pa_cons (pe_callB (cr_repr hgd hu) (by rfl) mrep (by decide +kernel) (pa_cons (pv 3) pa_nil)) (pa_cons (pe_call GL hr2 (by rfl) mL kL bL .nil pass0 (pa_cons (pv 3) pa_nil)) pa_nil)) (by rfl))
        (pss_cons (ps_for PassesOwn.never rfl (pi_range1 (by rfl) mran (pa_cons pe_int pa_nil)) (pg_name (i := 6) scLaw.nd rfl (.inl rfl))
          (pss_one (ps_if (pt_cmpR op_ne
              (pe_callB (cr_repr hgd hu) (by rfl) mrep (by decide +kernel) (pa_cons (pe_lst (pa_cons (pe_call GA hr1 (by rfl) mA kA bA .nil pass0 (pa_cons (pv 3) pa_nil)) (pa_cons (pe_call GM hr2 (by rfl) mM kM bM .nil pass0 (pa_cons (pv 3) pa_nil)) pa_nil))) pa_nil))
              (pe_callB (cr_repr hgd hu) (by rfl) mrep (by decide +kernel) (pa_cons (pe_lst (pa_cons (pe_callTy call_tuple_of (by rfl) mtup (by decide +kernel) (pa_cons (pe_lc (own := [("_law_key", 7)]) (g := gName 7) (tt := tYes) rfl scLaw.nd (pi_tup (pv 3))
                  (blkOk_by (own := [("_law_key", 7)]) (N := nLaw) (sc := defScope sLaw) (by decide +kernel)) (fun _ _ _ _ _ => pg_name (i := 7) scLaw.nd rfl (.inl rfl)) (fun _ _ _ _ _ => pts_nil)
                  (fun _ _ _ _ _ => pe_call (sp := spSmaller K) GS hr1 (by rfl) mS kS bS .nil pass0 (pa_cons (pv 3) (pa_cons (pv 7) pa_nil)))) pa_nil)) (pa_cons (pv 5) pa_nil))) pa_nil)) (nomark _))
            (pss_one (ps_ret pe_bl)) pss_nil)))
        (pss_one (ps_if (PW.pt (pw_or (pt_cmpR (op_neD hu) (pe_call GM hr2 (by rfl) mM kM bM .nil pass0 (pa_cons (pv 5) pa_nil)) (pv 3) (nomark _)) (pw_or1 (pt_cmpR op_ne (pe_callB (cr_repr hgd hu) (by rfl) mrep (by decide +kernel) (pa_cons (pv 3) pa_nil)) (pv 4) (nomark _)))))
            (pss_one (ps_ret pe_bl)) pss_nil))))))
      (pss_one (ps_ret pe_bl))), ?_⟩
    refine ⟨_, rfl, a, ns, rfl, hS, hl, fun d c H1 hd0 hc0 s1 S1 => ?_⟩
    refine ⟨6, rfl, by decide, by decide, for_range (lo := 0) (n := 6) (fun i σ Hx => ∃ (v2 v3 v4 v5 v6 : Option V), σ = [some (.ref a), some (.ref d), v2, v3, v4, v5, v6, none] ∧ Sup Hx d c) ⟨none, none, none, none, none, rfl, S1⟩ ?_ ?_⟩
    · rintro i σ Hx hi ⟨v2, v3, v4, v5, v6, rfl, Sx⟩
      refine ⟨_, rfl, d, c, 24, rfl, Sx, by decide, by decide, fun p H2 row hR hl1 hl2 S2 x2 hp0 hp => ?_⟩
      have fr : FineD (.tuple (row.map PyData.int)) 1 1000 := fine_row (by omega) hR.small
      have hRm : RowOk (mir row) := ⟨mir_nodup hR.nd, fun z hz => hR.key z ((mir_mem hR.nd z).mp hz)⟩
      have fm : FineD (.tuple ((mir row).map PyData.int)) 1 1000 := fine_row (by rw [mir_len]; omega) hRm.small
      have fk : FineD (.tuple ((rkf row).map PyData.int)) 1 1000 := fine_row (by simp; omega) fun z hz => by
        obtain ⟨y, hy, rfl⟩ := List.mem_map.mp hz
        have := sm_lt hR.nd hy
        omega
      have ff : FineD (.list [.tuple ((rkf row).map PyData.int), .tuple ((mir row).map PyData.int)]) 2 2007 := by
        refine .lst (dep := 1) (B := 1000) fun z hz => ?_
        rcases List.mem_cons.mp hz with e | hz
        · subst e; exact fk
        · rw [List.mem_singleton] at hz; subst hz; exact fm
      refine ⟨_, rfl, _, _, rfl, .tup (SqT.of hp) (dp_ints row), fr.nd, fr.sh, Nat.le_trans fr.dp (by decide), Nat.le_trans fr.sz (by decide), ?_⟩
      refine ⟨_, rfl, p, row, rfl, SqT.of hp, hR, by omega, fun m H3 s3 hm0 hm => ⟨_, _, rfl, ?_⟩⟩
      have hp3 := s3 _ _ hp
      have S3 := S2.same s3
      clear x2 hp0 hp S2
      refine ⟨2, rfl, by decide, by decide, for_range (lo := 0) (n := 2) (fun j σ Hy => ∃ v6 : Option V, σ = [some (.ref a), some (.ref d), some (.int (0 + (i : Int))), some (.ref p), some (.str (PyData.shown (.tuple (row.map PyData.int)))), some (.ref m), v6, none] ∧ Sup Hy d c ∧ Hy p = some (.tup (row.map V.int)) ∧ Hy m = some (.tup ((mir row).map V.int))) ⟨v6, rfl, S3, hp3, hm⟩ ?_ ?_⟩
      · rintro j σ Hy hj ⟨v6, rfl, Sy, hpy, hmy⟩
        refine ⟨_, rfl, p, row, rfl, SqT.of hpy, hR, by omega, fun q1 H4 s4 hq10 hq1 => ?_⟩
        refine ⟨_, rfl, p, row, rfl, SqT.of (s4 _ _ hpy), hR, by omega, fun q2 H5 s5 hq20 hq2 => ?_⟩
        refine ⟨by show 2 ≤ sizeLine; decide, fun l hl0 => ⟨_, .list [.tuple ((rkf row).map PyData.int), .tuple ((mir row).map PyData.int)], rfl, .lst (SqL.of upd_same) (.cons (.tup (SqT.of (same_new hl0 _ _ (s5 _ _ hq1))) (dp_ints _)) (.cons (.tup (SqT.of (same_new hl0 _ _ hq2)) (dp_ints _)) .nil)),
          ff.nd, ff.sh, Nat.le_trans ff.dp (by decide), Nat.le_trans ff.sz (by decide), ?_⟩⟩
        have s6 : Same Hy (upd H5 l (.lst [.ref q1, .ref q2])) := (s4.trans s5).trans (same_new hl0)
        generalize upd H5 l (.lst [.ref q1, .ref q2]) = H6 at s6 ⊢
        refine ⟨_, rfl, p, rfl, ⟨_, SqT.of (s6 _ _ hpy)⟩, fun D hD => ?_⟩
        refine lc_tup (K := K) (a := p) (xs := row.map V.int) (fun i Hz => At H6 Hz D (((rkf row).take i).map V.int)) (At.nil hD) (fun i Hz _ aa => SqT.of (aa.1 _ _ (s6 _ _ hpy))) ?_ ?_
        · rintro i2 y Hz hi2 aa
          obtain ⟨z, hz, rfl, hil⟩ := getI hi2
          refine ⟨rfl, _, rfl, _, rfl, p, row, z, rfl, SqT.of (aa.1 _ _ (s6 _ _ hpy)), by omega, fun H7 s7 => ?_⟩
          have aa7 : At H6 H7 D _ := ⟨aa.1.trans s7, s7 _ _ aa.2⟩
          refine ⟨_, aa7.2, ?_, ?_⟩
          · rw [List.length_map, List.length_take]; exact small1000 (by simp; omega)
          · have hm2 : (rkf row)[i2]? = some (sm row z : Int) := by rw [List.getElem?_map, hz]; rfl
            rw [take_step hm2, List.map_append]
            exact aa7.push hD _
        · intro Hz aa
          rw [List.length_map] at aa
          rw [List.take_of_length_le (by simp)] at aa
          refine ⟨D, _, rfl, .inl ⟨SqL.of aa.2, fun q3 hq3 => ?_⟩⟩
          have s8 : Same Hy (upd Hz q3 (.tup ((rkf row).map V.int))) := (s6.trans aa.1).trans (same_new hq3)
          have hq33 : upd Hz q3 (.tup ((rkf row).map V.int)) q3 = some (.tup ((rkf row).map V.int)) := upd_same
          generalize upd Hz q3 (.tup ((rkf row).map V.int)) = H8 at s8 hq33 ⊢
          refine ⟨_, rfl, by show 2 ≤ sizeLine; decide, fun l2 hl2 => ⟨_, .list [.tuple ((rkf row).map PyData.int), .tuple ((mir row).map PyData.int)], rfl, .lst (SqL.of upd_same) (.cons (.tup (SqT.of (same_new hl2 _ _ hq33)) (dp_ints _)) (.cons (.tup (SqT.of (same_new hl2 _ _ (s8 _ _ hmy))) (dp_ints _)) .nil)),
            ff.nd, ff.sh, Nat.le_trans ff.dp (by decide), Nat.le_trans ff.sz (by decide), ?_⟩⟩
          refine ⟨rfl, _, rfl, ?_⟩
          refine iteNS rfl ?_
          have s9 := s8.trans (same_new (o := .lst [.ref q3, .ref m]) hl2)
          exact ⟨_, rfl, Sy.same s9, s9 _ _ hpy, s9 _ _ hmy⟩
      · rintro σ Hy ⟨v6, rfl, Sy, hpy, hmy⟩
        refine ⟨_, rfl, m, mir row, rfl, SqT.of hmy, hRm, by rw [mir_len]; omega, fun q H4 s4 hq0 hq => ?_⟩
        rw [mir_mir hR.nd] at hq
        refine ⟨_, rfl, _, _, .tup (SqT.of hq) (dp_ints row), .tup (SqT.of (s4 _ _ hpy)) (dp_ints row), shaped_tints _, shaped_tints _, _, rfl, ?_⟩
        rw [eqv_tints, decide_eq_true rfl]
        refine iteF ?_
        refine ⟨_, rfl, _, _, rfl, .tup (SqT.of (s4 _ _ hpy)) (dp_ints row), fr.nd, fr.sh, Nat.le_trans fr.dp (by decide), Nat.le_trans fr.sz (by decide), ?_⟩
        refine ⟨_, rfl, rfl, _, rfl, ?_⟩
        refine iteNS rfl ?_
        exact ⟨_, _, _, _, _, rfl, Sy.same s4⟩
    · rintro σ Hx ⟨v2, v3, v4, v5, v6, rfl, Sx⟩
      exact k Hx
end
end LW

namespace LW
open PySem L2 KX MX
section
theorem all_mk {l : PySem.W.OpenLaw} {w : World} {K : PySem.W.Frag} {h : Heap} {mg : Str → Option Value} {fa fA fM fU fT fS fK fR fQ fL fW : Addr} (X : K.In h) (G : h.Ns mainGlobals mg) (hfa : mg "law" = some (.ref fa))
    {odA anA : Option Addr} {slA : Array (Option Value)} {ocA kVA dcA pmA cdA ctA : Value}
    {odM anM : Option Addr} {slM : Array (Option Value)} {ocM kVM dcM pmM cdM ctM : Value}
    {odU anU : Option Addr} {slU : Array (Option Value)} {ocU kVU dcU pmU cdU ctU : Value}
    {odT anT : Option Addr} {slT : Array (Option Value)} {ocT kVT dcT pmT cdT ctT : Value}
    {odS anS : Option Addr} {slS : Array (Option Value)} {ocS kVS dcS pmS cdS ctS : Value}
    {odK anK : Option Addr} {slK : Array (Option Value)} {ocK kVK dcK pmK cdK ctK : Value}
    {odR anR : Option Addr} {slR : Array (Option Value)} {ocR kVR dcR pmR cdR ctR : Value}
    {odQ anQ : Option Addr} {slQ : Array (Option Value)} {ocQ kVQ dcQ pmQ cdQ ctQ : Value}
    {odL anL : Option Addr} {slL : Array (Option Value)} {ocL kVL dcL pmL cdL ctL : Value}
    {odW anW : Option Addr} {slW : Array (Option Value)} {ocW kVW dcW pmW cdW ctW : Value}
    (aA : PySem.W.nsIn K mainGlobals "ranks" = some (some (.ref fA))) (lA : K.lookup fA = some ⟨ocA, odA, .func (PySem.W.fnOf "ranks" "ranks" (defArgs sRanks) (defBody sRanks) (defScope sRanks) .none kVA dcA pmA anA cdA ctA), slA⟩) (cA : PySem.W.codeIn K cdA "ranks" = true) (kA : PySem.W.keepIn K (.ref fA) = true)
    (aM : PySem.W.nsIn K mainGlobals "mirror" = some (some (.ref fM))) (lM : K.lookup fM = some ⟨ocM, odM, .func (PySem.W.fnOf "mirror" "mirror" (defArgs sMirror) (defBody sMirror) (defScope sMirror) .none kVM dcM pmM anM cdM ctM), slM⟩) (cM : PySem.W.codeIn K cdM "mirror" = true) (kM : PySem.W.keepIn K (.ref fM) = true)
    (aU : PySem.W.nsIn K mainGlobals "_law_supply" = some (some (.ref fU))) (lU : K.lookup fU = some ⟨ocU, odU, .func (PySem.W.fnOf "_law_supply" "_law_supply" (defArgs sSupply) (defBody sSupply) (defScope sSupply) .none kVU dcU pmU anU cdU ctU), slU⟩) (cU : PySem.W.codeIn K cdU "_law_supply" = true) (kU : PySem.W.keepIn K (.ref fU) = true)
    (aT : PySem.W.nsIn K mainGlobals "_law_take" = some (some (.ref fT))) (lT : K.lookup fT = some ⟨ocT, odT, .func (PySem.W.fnOf "_law_take" "_law_take" (defArgs sTake) (defBody sTake) (defScope sTake) .none kVT dcT pmT anT cdT ctT), slT⟩) (cT : PySem.W.codeIn K cdT "_law_take" = true) (kT : PySem.W.keepIn K (.ref fT) = true)
    (aS : PySem.W.nsIn K mainGlobals "_law_stirred" = some (some (.ref fS))) (lS : K.lookup fS = some ⟨ocS, odS, .func (PySem.W.fnOf "_law_stirred" "_law_stirred" (defArgs sStir) (defBody sStir) (defScope sStir) .none kVS dcS pmS anS cdS ctS), slS⟩) (cS : PySem.W.codeIn K cdS "_law_stirred" = true) (kS : PySem.W.keepIn K (.ref fS) = true)
    (aK : PySem.W.nsIn K mainGlobals "_law_keys" = some (some (.ref fK))) (lK : K.lookup fK = some ⟨ocK, odK, .func (PySem.W.fnOf "_law_keys" "_law_keys" (defArgs sKeys) (defBody sKeys) (defScope sKeys) .none kVK dcK pmK anK cdK ctK), slK⟩) (cK : PySem.W.codeIn K cdK "_law_keys" = true) (kK : PySem.W.keepIn K (.ref fK) = true)
    (aR : PySem.W.nsIn K mainGlobals "_law_row" = some (some (.ref fR))) (lR : K.lookup fR = some ⟨ocR, odR, .func (PySem.W.fnOf "_law_row" "_law_row" (defArgs sRow) (defBody sRow) (defScope sRow) .none kVR dcR pmR anR cdR ctR), slR⟩) (cR : PySem.W.codeIn K cdR "_law_row" = true) (kR : PySem.W.keepIn K (.ref fR) = true)
    (aQ : PySem.W.nsIn K mainGlobals "_law_smaller" = some (some (.ref fQ))) (lQ : K.lookup fQ = some ⟨ocQ, odQ, .func (PySem.W.fnOf "_law_smaller" "_law_smaller" (defArgs sSmaller) (defBody sSmaller) (defScope sSmaller) .none kVQ dcQ pmQ anQ cdQ ctQ), slQ⟩) (cQ : PySem.W.codeIn K cdQ "_law_smaller" = true) (kQ : PySem.W.keepIn K (.ref fQ) = true)
    (aL : PySem.W.nsIn K mainGlobals "_law_mirror" = some (some (.ref fL))) (lL : K.lookup fL = some ⟨ocL, odL, .func (PySem.W.fnOf "_law_mirror" "_law_mirror" (defArgs sLMirror) (defBody sLMirror) (defScope sLMirror) .none kVL dcL pmL anL cdL ctL), slL⟩) (cL : PySem.W.codeIn K cdL "_law_mirror" = true) (kL : PySem.W.keepIn K (.ref fL) = true)
    (aW : PySem.W.nsIn K mainGlobals "law" = some (some (.ref fW))) (lW : K.lookup fW = some ⟨ocW, odW, .func (PySem.W.fnOf "law" "law" (defArgs sLaw) (defBody sLaw) (defScope sLaw) .none kVW dcW pmW anW cdW ctW), slW⟩) (cW : PySem.W.codeIn K cdW "law" = true) (kW : PySem.W.keepIn K (.ref fW) = true)
    (zlen : PySem.W.nsIn K mainGlobals "len" = some none)
    (zabs : PySem.W.nsIn K mainGlobals "abs" = some none)
    (zlis : PySem.W.nsIn K mainGlobals "list" = some none)
    (zran : PySem.W.nsIn K mainGlobals "range" = some none)
    (ztup : PySem.W.nsIn K mainGlobals "tuple" = some none)
    (zsor : PySem.W.nsIn K mainGlobals "sorted" = some none)
    (zrev : PySem.W.nsIn K mainGlobals "reversed" = some none)
    (zrep : PySem.W.nsIn K mainGlobals "repr" = some none)
    : ∃ fd : FuncData, (∀ (s : Shared) (v : Value), BindsTo s fd ⟨[v], []⟩ [("_law_script", v)]) ∧ ∀ base : Heap, K.In base → base.Ns mainGlobals mg → FnOkG l.prog w K mg base CX0 4 fa fd ["_law_script"] (spLaw K) := by
  have e := hfa.symm.trans (PySem.W.mg_of X G aW)
  cases e
  have FA := fun_mk (st := sRanks) lA cA kA
  have mA := PySem.W.mg_of X G aA
  have bA := FA.binds (ps := ["row"]) fun _ _ _ _ _ _ us hl => match us, hl with | [_], _ => rfl
  have FM := fun_mk (st := sMirror) lM cM kM
  have mM := PySem.W.mg_of X G aM
  have bM := FM.binds (ps := ["row"]) fun _ _ _ _ _ _ us hl => match us, hl with | [_], _ => rfl
  have FU := fun_mk (st := sSupply) lU cU kU
  have mU := PySem.W.mg_of X G aU
  have bU := FU.binds (ps := ["_law_script"]) fun _ _ _ _ _ _ us hl => match us, hl with | [_], _ => rfl
  have FT := fun_mk (st := sTake) lT cT kT
  have mT := PySem.W.mg_of X G aT
  have bT := FT.binds (ps := ["_law_supply_here", "_law_many"]) fun _ _ _ _ _ _ us hl => match us, hl with | [_, _], _ => rfl
  have FS := fun_mk (st := sStir) lS cS kS
  have mS := PySem.W.mg_of X G aS
  have bS := FS.binds (ps := ["_law_supply_here", "_law_items"]) fun _ _ _ _ _ _ us hl => match us, hl with | [_, _], _ => rfl
  have FK := fun_mk (st := sKeys) lK cK kK
  have mK := PySem.W.mg_of X G aK
  have bK := FK.binds (ps := ["_law_supply_here", "_law_n"]) fun _ _ _ _ _ _ us hl => match us, hl with | [_, _], _ => rfl
  have FR := fun_mk (st := sRow) lR cR kR
  have mR := PySem.W.mg_of X G aR
  have bR := FR.binds (ps := ["_law_supply_here", "_law_most"]) fun _ _ _ _ _ _ us hl => match us, hl with | [_, _], _ => rfl
  have FQ := fun_mk (st := sSmaller) lQ cQ kQ
  have mQ := PySem.W.mg_of X G aQ
  have bQ := FQ.binds (ps := ["_law_row_here", "_law_key"]) fun _ _ _ _ _ _ us hl => match us, hl with | [_, _], _ => rfl
  have FL := fun_mk (st := sLMirror) lL cL kL
  have mL := PySem.W.mg_of X G aL
  have bL := FL.binds (ps := ["_law_row_here"]) fun _ _ _ _ _ _ us hl => match us, hl with | [_], _ => rfl
  have FW := fun_mk (st := sLaw) lW cW kW
  have mW := PySem.W.mg_of X G aW
  have bW := FW.binds (ps := ["_law_script"]) fun _ _ _ _ _ _ us hl => match us, hl with | [_], _ => rfl
  have nlen := PySem.W.mg_none_of X G zlen
  have nabs := PySem.W.mg_none_of X G zabs
  have nlis := PySem.W.mg_none_of X G zlis
  have nran := PySem.W.mg_none_of X G zran
  have ntup := PySem.W.mg_none_of X G ztup
  have nsor := PySem.W.mg_none_of X G zsor
  have nrev := PySem.W.mg_none_of X G zrev
  have nrep := PySem.W.mg_none_of X G zrep
  refine ⟨PySem.W.fnOf "law" "law" (defArgs sLaw) (defBody sLaw) (defScope sLaw) .none kVW dcW pmW anW cdW ctW, fun s v => .of_eq rfl, fun base _ _ => ?_⟩
  have GT := ok_take (P := l.prog) (w := w) (base := base) FT nlen
  have GU := ok_supply (P := l.prog) (w := w) (base := base) FU nlen nabs
  have GS := ok_stir (P := l.prog) (w := w) (base := base) FS GT mT kT bT nlen nlis
  have GK := ok_keys (P := l.prog) (w := w) (base := base) FK GT mT kT bT nran
  have GR := ok_row (P := l.prog) (w := w) (base := base) FR GT mT kT bT GK mK kK bK GS mS kS bS nlen ntup
  have GA := ok_ranks (P := l.prog) (w := w) (base := base) FA nsor ntup
  have GM := ok_mirror (P := l.prog) (w := w) (base := base) FM GA mA kA bA nsor ntup nrev
  have GQ := ok_smaller (P := l.prog) (w := w) (base := base) FQ nlen
  have GL := ok_lmirror (P := l.prog) (w := w) (base := base) FL GQ mQ kQ bQ nlen nran ntup
  exact ok_law FW GU mU kU bU GR mR kR bR GA mA kA bA GM mM kM bM GQ mQ kQ bQ GL mL kL bL nran ntup nrep
end
end LW
open PySem PySem.W PyProof.Rows
set_option maxRecDepth 100000 in
set_option maxHeartbeats 0 in
theorem PySem.Challenge.cw_oddrounds_k03_ranks_and_mirrors_holds : PySem.Challenge.rw_oddrounds_k03_ranks_and_mirrors.Holds := by
  w_on; o_law; k_head; (case hw => w_witness2)
  k_fill
  refine KX.walkG (l := PySem.Challenge.rw_oddrounds_k03_ranks_and_mirrors) (n := 63) (k := 4) (x := "_law_script") (sp := LW.spLaw) rfl (by decide) rfl ⟨rfl, by decide, by decide⟩ (fun w h Y => PySem.W.kIn_of Y) ?F (fun _ _ a ns hl _ hS => ⟨a, ns, rfl, hS, hl, fun _ => rfl⟩)
  case F =>
    intro w mg fa h KX G hmg
    refine' LW.all_mk KX G hmg ?aA ?lA ?cA ?kA ?aM ?lM ?cM ?kM ?aU ?lU ?cU ?kU ?aT ?lT ?cT ?kT ?aS ?lS ?cS ?kS ?aK ?lK ?cK ?kK ?aR ?lR ?cR ?kR ?aQ ?lQ ?cQ ?kQ ?aL ?lL ?cL ?kL ?aW ?lW ?cW ?kW ?zlen ?zabs ?zlis ?zran ?ztup ?zsor ?zrev ?zrep
    (case aA => k_is); (case lA => k_is); (case cA => k_is); (case kA => k_is); (case aM => k_is); (case lM => k_is)
    (case cM => k_is); (case kM => k_is); (case aU => k_is); (case lU => k_is); (case cU => k_is); (case kU => k_is)
    (case aT => k_is); (case lT => k_is); (case cT => k_is); (case kT => k_is); (case aS => k_is); (case lS => k_is)
    (case cS => k_is); (case kS => k_is); (case aK => k_is); (case lK => k_is); (case cK => k_is); (case kK => k_is)
    (case aR => k_is); (case lR => k_is); (case cR => k_is); (case kR => k_is); (case aQ => k_is); (case lQ => k_is)
    (case cQ => k_is); (case kQ => k_is); (case aL => k_is); (case lL => k_is); (case cL => k_is); (case kL => k_is)
    (case aW => k_is); (case lW => k_is); (case cW => k_is); (case kW => k_is); (case zlen => k_is); (case zabs => k_is)
    (case zlis => k_is); (case zran => k_is); (case ztup => k_is); (case zsor => k_is); (case zrev => k_is); (case zrep => k_is)
#print axioms PySem.Challenge.cw_oddrounds_k03_ranks_and_mirrors_holds


import PyProof.Rows.All
import Wide.All
import OpenK.AllK
import Wide.FinOn
import PyProof.EqAt
import PyProof.EqKinds
import PyProof.TupleCall
import KE.BitLaws
import Open.SpecLaws
import KE.OsHead
import KE.OsGo
import KE.SpHead
import KE.OsShapes
import PyVbwsad
import PyProof.SetScanFacts
import PyProof.SetKind
import PyProof.DictKinds
import PyProof.DictStraight
import PyProof.CollectWalk
import PyProof.Seq
import PyProof.Walks
import PyProof.WalksS
import PyProof.TupleIter
import PyProof.MakeMany
import PyProof.SeqWrite
import PyProof.SetNew
import PyProof.Rows.SetFrom
import PyProof.Rows.SortShellAny
import PyProof.Rows.SortG.SortRunsSt
import PyProof.Rows.SortShell
import PyProof.Rows.SortMergeAt
import PySem.Challenge.RW_thingsworld_s01_answers
import KE.KDictList
import KE.KDictLaws
import KE.KListMore
import KE.KMinKey
import KE.KDictSum
import KE.KSortTupG
set_option Elab.async false
set_option linter.all false
set_option maxRecDepth 100000
set_option maxHeartbeats 0
set_option compiler.extract_closed false
set_option hygiene false
universe uu
theorem Z{a:Sort uu}{b:a}:b=b:=rfl
theorem om{p:Prop}(h:p:=by first|lia|omega):p:=h
theorem dk{p:Prop}(h:p:=by decide):p:=h
theorem dK{p:Prop}(h:p:=by decide+kernel):p:=h
open Option renaming some→aa,none→ab,map_some→gB,isSome_map→iu,isSome_iff_exists→iH,map_eq_some_iff→l8,getD_none→yS,none→V?
open Bool renaming true→ac,false→ae,and_eq_true→aK,false_ne_true→bf,false_eq_true→bA,noConfusion→dX,and_eq_false_iff→ff,or_false→fN,false_and→fQ,true_and→gq,or_eq_true→gG,eq_iff_iff→iC,not_eq_true'→jE,not_eq_false→qm,or_eq_false_iff→vj,not_true→wB,false_or→wC,and_self→GS,and_eq_true_iff→LB,true_eq_false→OE,not_false→Vd,and_false→Ve,and_assoc→Vf,or_assoc→Wc,and_true→Wd
open List renaming length_map→af,getElem?_map→aA,mem_cons_of_mem→aD,mem_cons→aF,length_cons→aJ,mem_of_getElem?→aP,length_append→aQ,getElem?_eq_getElem→aR,mem_map→aV,getElem?_eq_some_iff→aY,pairwise_cons→bc,replicate→be,size_toArray→bm,map_map→bv,length_filter_le→bx,map_append→bz,mem_filter→bB,map_cons→bC,getD_eq_getElem?_getD→bD,filter_cons→bH,nodup_cons→cc,map_congr_left→cg,length_take→ck,take_length→cB,range→cF,replicate_succ→cM,find?_cons→cN,getElem?_eq_none→cV,mem_singleton→cX,mem_cons_self→cY,filterMap_cons→c9,mem_append→df,foldl_cons→dB,all_eq_true→dC,mem_append_right→dR,pairwise_map→dZ,flatten_cons→d8,any_cons→d9,take_of_length_le→ee,takeWhile_cons→eu,append_nil→eQ,mem_range→fi,length_zip→fk,length_range→fO,append_assoc→fP,take_succ_cons→fU,mem_map_of_mem→fV,contains_iff_mem→gf,length_drop→gj,any_eq_true→gk,map_drop→gn,nodup_nil→gu,flatMap_cons→gC,flatMap_append→gL,all_cons→gT,not_mem_nil→gY,take_append_drop→g?,length_reverse→iT,lookup_cons→iX,forIn_nil→iY,forIn_cons→jr,filter_congr→jD,map_id→jY,getElem?_append_right→jZ,pairwise_iff_getElem→kz,getElem?_append_left→kD,drop_eq_getElem_cons→kE,map_take→k_,nil_append→ly,lookup→lK,length→lL,eraseIdx_cons_succ→lM,mapM_cons→ml,getElem?_set_self→mm,drop_eq_nil_of_le→mq,length_singleton→mZ,getElem?_set_ne→nv,eq_nil_of_length_eq_zero→nw,of_mem_zip→nM,getD_cons_zero→M6,getD_cons_succ→M7,take_length_add_append→oP,map_nil→oQ,zip_cons_cons→o7,mem_of_find?_eq_some→qd,getElem?_eq_none_iff→qf,any_eq_false→ql,length_eq_zero_iff→sf,getElem?_cons_succ→sg,flatMap_def→sh,length_pos_of_mem→s_,foldl→s?,any_map→tj,length_nil→tJ,mem_iff_getElem?→uD,length_replicate→uE,getElem?_toArray→uF,findSome?_append→uG,reverse_reverse→vf,mem_iff_getElem→vg,mem_append_left→vh,length_eraseIdx→vi,reverse_append→wv,mem_replicate→xM,mem_filterMap→xO,map_singleton→xP,filter_append→xQ,Nodup→xR,getElem?_inj→yT,eraseIdxIfInBounds_toArray→zx,eq_nil_iff_forall_not_mem→zX,cons_append→zY,take_zero→D6,drop_zero→D7,getLast?_eq_some_iff→Fg,length_filterMap_le→GO,getElem?_take_of_lt→GP,filterMap_eq_filter→GQ,eq_of_mem_replicate→GR,getD→Hb,eraseIdx_cons_zero→Hc,range_succ_eq_map→JE,pairwise_lt_range→JF,append_eq_nil_iff→JG,all_map→JH,singleton_append→J0,filterMap_append→J1,eraseIdx_sublist→J2,countP_mono_left→J3,unzip_zip_right→Lv,pairwise_append→Lw,length_take_le'→Lx,getElem?_modify→Ly,length_pos_iff→M5,flatten_append→M8,findSome?_cons→M9,filter_sublist→M_,filter_eq_self→M',getElem?_drop→OB,find?_eq_none→OC,take_add_one→O6,nodup_append→O7,getElem_take→O8,foldl_append→O9,find?_append→O_,ext_getElem?→O?,all_eq_false→Pa,map_reverse→R_,getElem_mem→R',countP_cons→R?,append_inj'→Sc,range_succ→SS,length_set→SU,head?_drop→SV,find?_some→SW,all_append→SX,unzip_snd→U8,take_left→U9,map→U_,filterMap→U',drop_take→U?,drop_drop→Va
open PySem renaming wpAny_bind→ag,Value→ai,Addr→ao,Shared→aq,wpAny_pure→au,sizeLine→aE,wpAny→aU,boot_len→a9,Program→ba,model→bg,World→br,Heap→bO,Str→bV,starEach→bX,Around→cb,Paired→ci,mem_of_lookup→cz,wpAny_newObj_type→cC,wpAny_call_entry→cE,Stmt→cG,mainGlobals→cR,wpAny_ite_split→c_,wpAny_Call_Name_kw→dt,wpAny_callSpecial?_slot→dy,SetTable→dJ,compareOp→d?,wpAny_seqItems→eF,wpAny_truthy_bool→eL,wpAny_loadPart'→eZ,cellsFrom→e9,builtinLookup_eq_fast→fo,wpAny_holding→fu,codeAny_builtin→fE,wpAny_askSetting→fL,rawInt→fS,plainId_quiet→f8,wpAny_setState_of→f_,wpAny_mono→f?,wpAny_setEntries_of→ge,Obj→gt,wpAny_setField→gH,FuncData→gI,intKind→gR,Builtin→gS,bootBuiltins→g_,wpAny_field→hU,wpAny_isInstance→h9,scanBound→h_,sysModules→iz,typeLookup_type→iP,NameKind→iS,firstArgMember→jm,IsPair→jp,wpAny_typeNameOfWhole_keyiter→jy,wpAny_setField_rec→jz,codeAny_mono→jA,call_meets→jB,backTo→jC,wpAny_passesOwn→jR,wpAny_attempt→jV,attributeBase→jW,pyNext→j4,wpAny_setEpoch_of→km,Pos→ku,wpAny_rule→kR,compEnvC→kS,DictEntry→lz,Scope→l_,wpAny_updateSeq→l?,codeAny→md,tupleKind_room_in1→mC,wpAny_letGo→mQ,keywordEach→mR,cLine→mS,wpAny_pyIter_slot→ng,wpAny_fieldsOf→nh,isSubtype_type→ni,intKind_is→nW,behindInMarks→oK,sliceBounds→oV,sizeLine_eq→oW,Tok→qc,pushCells→qX,wpAny_tryCatch→rf,assignEach→rj,Params→rA,wpAny_pyIter_list→sS,wpAny_of_eq→sT,wpAny_Call_method→sU,hashInt→sW,foldedSetIterable→sX,IsZip→tq,seqItems?→uU,binaryOp→uV,backToKw→uW,Sem→uX,valueAt→vF,call_meetsIn→vH,argsOk→vI,wpAny_specialOf→wm,wpAny_execs_nil→wn,pushCells_keeps→wo,letOwnedTupleGo→wq,wpAny_updateSeq_pair→xT,unsupported→afL,isSubtype_stop→xX,tupleKind→yQ,Keyword→yU,wpAny_onRaise→zU,wpAny_handled→zV,typeLookup→Az,Result→AA,wpAny_storeSet_of→Cn,wpAny_dictEntries→Co,setNext→Cq,entryFor→Cw,argBest→Cy,ItemsOf→CD,updateSeq→E3,swapsWith→E4,seqIndex?→E5,pyIter→E6,pickOrder→E7,PyData→Fe,wpAny_throw→GB,subscripted→GC,wpAny_dictEpoch→G?,Within→Ha,Env→Hd,spliced→Jv,notedBy→Jw,holding→Jx,getItem→Jy,callerA→Jz,BindsTo→JI,setEntries→JQ,newTuple→JS,intItems→JU,entryFor_alias→JV,atKey→JW,Operator→JY,Model→JZ,wpAny_standAt→MV,wpAny_newList→MW,getMethod→Ou,field→Ov,bindL→Ow,bindC→Ox,CmpOp→OD,wpAny_typeOf→OQ,sub_set_self→OS,stored→OT,setNextDrawn→OU,setAddHashed→OW,newExc→OX,seqSlot_of→O3,wpAny_isTrue_Compare1→R6,wpAny_isOneOf_keyiter→R7,wpAny_loadName_local→Sz,wpAny_alloc→SA,relayAll→SE,raiseNew→SF,numAt_eq→SG,intItems_at→SH,fieldsOf→SI,codeAny_extend_loopS→SK,bindArgs→SM,getD_mem→SQ,Meets→SR,GenState→SY,Code→S3,wpAny_loadName_cell→UZ,wpAny_call→VY,wpAny_Name→VZ,typeIs_int→V0,builtinsNs→V3,assign→V4
open PySem.W renaming Frag→aj,findIn→ef,emptyDict→fG,instObj→hX,nsIn→ib,mg_of→iA,WData→kT,keepIn→lH,ke_shaped_ints→lI,fnOf→lJ,plainGet→mD,callWith_K→nX,hasDictIn→o6,isFn→rm,lookIn→tG,plainGet_of→uY,plainOver→wy,methodObj→wz,WellAll→yR,takerIn→zq,makesIn→zt,length_le_weightAllW→zu,cellsFrom_some→E_,methodCall_KW→GI,callWith_K0→JB,handedIn→M3,WRecords→M4,codeIn→O4,WalkOS→O5
open PySem.Str renaming ofString→al
open PySem.Heap renaming get?_push_of_some→az,get?_push_size→aT,lt_size→aW,size_push→cH,get?_update_self→cW,get?_update_other→db,SameBut→eG,ExtBut→AB,get?_update_ne→M?
open Nat renaming le_trans→aB,le_refl→aS,lt_of_le_of_lt→aX,lt_of_lt_of_le→bI,ne_of_lt→bL,lt_irrefl→eV,le_of_lt→eX,zero_le→gx,lt_succ_of_lt→gF,ne_of_gt→iK,le_succ→j7,add_le_add_right→j8,min_le_right→kx,lt_succ_self→ky,min_eq_left→lG,lt_trans→mG,le_of_eq→o3,not_lt→pN,le_of_succ_le→q?,min_eq_right→sI,le_add_right→sJ,not_lt_zero→CC,lt_min→Ff,le_succ_of_le→R9
open Int renaming toNat_natCast→aG,toNat_of_nonneg→du,toNat→fj,natCast_mul→Vc
open Vbwsad renaming present→aM,World→aO,isHere→a_,rowsOfOrders→a?,thingAt→bh,Question→bu,Cache→bw,inside→bG,prefix_→bK,held→cf,bit→cx,pairOf→cK,kindAt→cS,St→c8,Entry→dA,listed→dG,Index→dP,before→dQ,distinct→eh,isA→eJ,ofThing→eM,question→eN,value→eT,candidate→eU,without→e?,valueFrom→ft,rowOf→fK,act→gz,worth→gK,plan→gP,attrsOf→gX,makeRoom→h?,holds→iq,fast→ir,ofKind→jk,insert→jn,kindThings→jx,fits→jP,given→jX,sorted→kM,age→k8,putPair→lu,fall→lv,does→lw,inR→ma,ranged→mX,putRow→nV,holders→oM,answersFrom→oN,setThing→oX,likeOf→qb,ofParents→qZ,dropPair→rh,kept→uB,blocked→uC,write→wl,sorts→xU,planFrom→xV,orderFor→zW,answers→Cc,valueIn→Cp,attrIn→E8,KINDS→GD,Cond→JA,kindIn→JT,mergeRows→Oy,setKind→OV,remember→OY,scanned→R8,THINGS→SN,touch→U1,stuck→U2,start→U3,chain→U4,Thing→U5,Kind→V5
open Ne renaming symm→a8
open Or renaming inl→bi,inr→GN
open PySem.Value renaming ref→bn,type→dU,none→eO,int→j5,bool→lx,str→ve,notImplemented→JX,isStrOf→U6
open PySem.F renaming plainAttrs_list→bp,type_list_append→dE,slot_list_append→dF,type_list_extend→ei,slot_list_extend→ej,slot_dict_keyiterator_next→fw,plain_max_loop→fH,slot_tuple_mul→i7,called_set→kW,plainAttrs_dict→k9,type_list_pop→mf,slot_zip_next→mh,slot_list_pop→mi,slot_dict_pop→mj,plain_extend_loop→oY,args_tuple_mul_2→pM,slot_list_index→qj,entry_tuple_mul→qk,entry_max_loop→rn,slot_dict_get→sH,slot_list_lt→tI,slot_dict_setdefault→zw,slot_dict_getitem→Cd,slot_list_insert→CA,args_dict_keyiterator_next_1→CF,type_list_index→DV,slot_tuple_rmul→DW,plain_list_iadd→DX,args_zip_next_1→DY,args_dict_pop_3→DZ,args_dict_get_3→D4,entry_dict_keyiterator_next→D8,entry_zip_next→E?,entry_dict_pop→Fa,entry_dict_get→Fb,args_list_lt_2→Fc,slot_dict_keyiterator_iter→Fh,type_dict_pop→GJ,slot_int_rmul→GK,entry_list_lt→GL,slot_dict_iter→Wa,entry_list_pop→Wb
open Array renaming length_toList→bE,getElem?_toList→cU,getElem?_eq_getElem→ig,getElem?_eq_some_iff→o4,getD→sL,replicate→tz,toArray_toList→u0,forIn_toList→wD,range→zZ,perm_iff_toList_perm→CH,toList_replicate→He,toList→Hf,size_replicate→J4,getElem?_range→J5,getElem?_map→Na,toList_push→OF,size_map→S9
open Option.some renaming inj→bN,injEq→g9
open PySem.SetTable renaming below→bW,grown→lD,insertAt→wu,has→DT,Probe→Oz,slot→O1,laid→O2
open PySem.PassesOwn renaming never→bY
open PySem.Builtin.SmallTypes renaming nextOf→bZ,ownedTupleIsFree→gg,ownedTupleHandOut→o8
open PySem.Heap.SameBut renaming update→cQ,refl→kN
open PySem.Calls renaming spliced_cons→dj,spliced_nil→e8,callWith_builtin→fM,evalArgs_plain→iB,Name_function_global→CG,call_function_entry→D9
open PyProof.Rows renaming callWith_type1→dz,step_dedup→fb,SortSt→fT,IntsAre→f9,firstMet→iW,IsTupIter→jo,callWith_builtin1→lF,seqObj→mE,slot_tupleiter_next→p?,pendingOf→qY,pairsOf→sV,envOfC→vG,arrOf→wt,Keyed→ww,keyLt'→xW,IsTup→x8,pairsOf_size→Ct,oneType'→Cu,gallopOf→Cv,AllBare→CI,pairsOf_toList→JR,subscriptTail→MX,listUpdate_at→MY,subscriptTail_builtinR→OR,seqEpoch_at→SD,entry_tupleiter_next→SJ,args_tupleiter_next→U0,setPending→V1,Subscript_→V6
open PySem.Obj renaming data_mapFields→dL,isFreed_of_fields→hZ,mapFields→iL,mapSeq→j6,cls_mapFields→mF,putSet→xZ
open False renaming elim→dW
open PySem.Around renaming under_plainId→d_,under→GU
open PySem.Builtin.List renaming listLengthHint→fc,listExtendWith→fe,listItems→gv,listSameRef→jQ,listTooLong→nO
open PySem.Sem renaming wp_bind'→gs,wp→kU,wp_mono→M0,wp_attempt→V8
open Function renaming comp→iw
open PySem.PyData renaming str→iG,eqv→oO,int→Ce
open VbwsadNeutral renaming step→iI
open Sum renaming inl→iJ,inr→zp
open PySem.Builtin.Frozenset renaming isAnySet→iU,unchanged→lN,sizeOf→m3,addrOf→m4,intersection→sK,updateFrom→S6,newClass→S7,baseOf→S8
open Sum.inl renaming inj→iV
open PyProof.Rows.F renaming plain_set_update_loop→jq,entry_set_update_loop→q_
open PySem.Builtin.Range renaming rangeSize→j0,small→Cg
open PySem.SetTable.below renaming go→kn
open ForInStep renaming yield→kq
open List.Pairwise renaming nil→kF
open PyVbwsad renaming shape→lE,answers→xL,answers_asked→DU
open PySem.NameKind renaming free→mH,cell→Cf
open PyProof.Rows.SortSt renaming mk'→mT
open PySem.Paired renaming length→mY,snoc→V'
open True renaming intro→m?
open PyFlat renaming calls→nL,played→D5,rows→JC,call→JD
open PySem.Challenge renaming rw_thingsworld_s01_answers→nY,pw_thingsworld_s01_answers→V_
open PySem.W.Codec renaming encAll→nZ,denoteAll→tu,app→tH,withinAll→Sd
open Classical renaming byContradiction→n8
open PUnit renaming unit→oZ
open PyProof.Rows.G renaming sortHeap6→si
open PySem.W.WData renaming weightAll→sY
open PySem.SetTable.probe renaming go→sZ
open PySem.Builtin.Dict_items renaming ownsTuple→tw
open PySem.Builtin.Builtins renaming bindParams→uZ
open PySem.Builtin.Tuple renaming tupleTooMany→wA
open PySem.SeqAt renaming shaped→xY,EqAt→MZ
open PySem.Builtin.Dict renaming showsAll→AC
open PySem.pickOrder renaming go→Cr
open PySem.Walks renaming list→Cz
open Prod.mk renaming injEq→CB
open PySem.Txt renaming startswith→E9
open PyProof renaming noPylong_small→Fd
open PySem.SeqAt.EqAt renaming str_int→GF,int_str→GG,int_int→GH
open Array.Perm renaming refl→J6
open PySem.Value.type renaming inj→Lu
open List.cons renaming injEq→Lz
open PySem.Data renaming seq→LA
open PyProof.Rows.IntsAre renaming int_at→OA
open StateT renaming run_bind→OZ
open PySem.Slot renaming of→O0
open PySem.Shared renaming TypeIs→SO,heap→V7
open Std.Legacy.Range renaming forIn_eq_forIn_range'→U7
open PySem.ItemsOf renaming nil→Vb
def aw:=@if_neg
def ay:=@decide_eq_false
def aC:=@if_pos
def aI:=@decide_eq_true
def i6:=@of_decide_eq_true
abbrev xC:=List Int
abbrev V9:=List Nat
abbrev X9:=List ai
theorem PySem.W.Fast:True:=a where
 a:=⟨⟩
 tw12833733802409645619:=a
 tw11619839517070772534:=a
 tw16134605218195081841:=a
 tw6523072599555291268:=a
 tw2085156682800653035:=a
 tw11025849731874577392:=a
 tw474895167620208764:=a
 tw765608546805996019:=a
 tw4811529511991537089:=a
 tw1702612684796375235:=a
 tw34135364815103134:=a
 tw5525539537691091714:=a
 tw12389533974518314660:=a
 tw7585031118039834813:=a
 tw14112991055122033250:=a
 tw9845114493384605266:=a
 tw11691315652119013183:=a
 tw12692873832523575347:=a
 tw9750089844291978598:=a
 tw15295160933547213840:=a
 tw8493191855483014950:=a
 tw10273586789941456801:=a
 tw280191568200739990:=a
 tw7108605104559832089:=a
 tw14042093997787611296:=a
 tw1681732437408125371:=a
 tw9655986450210750096:=a
 tw816881425373578903:=a
 tw10520504594519930833:=a
 tw9907583801772607672:=a
 tw1214423123256311812:=a
 tw18297146440900433291:=a
 tw5274653013074513517:=a
 tw17429644767555842399:=a
 tw13872390660199038444:=a
 tw9561157244025246846:=a
 tw2697860921820154635:=a
 tw17389904907356861234:=a
 tw10892900639372445881:=a
 tw12980580053098563580:=a
 tw11335323415744027618:=a
 tw12752960019135731837:=a
 tw13355074164087769057:=a
 tw12774082968379945614:=a
 tw7040291873177402625:=a
 tw521166298353705458:=a
 tw11163373303799222640:=a
 tw10134463009357353404:=a
 tw17886712677838915651:=a
 tw1068698545892067118:=a
 tw11224368897323444375:=a
 tw13346630435154539974:=a
 tw3448793729913096814:=a
 tw2333231104073186299:=a
 tw11505164868337114315:=a
 tw13727501191083148405:=a
 tw10778925278571099477:=a
 tw16491613151135820506:=a
 tw13612830652574231748:=a
 tw4851620645379759180:=a
 tw2962290375222735494:=a
 tw3376498051322577801:=a
 tw1393108907973918920:=a
 tw18373605113903908925:=a
 tw5368147234201894602:=a
 tw4415083366350756501:=a
 tw2365691845330026145:=a
 tw5776584889175256587:=a
 tw13238676888111493541:=a
 tw8180018660979843641:=a
 tw11222276738983336861:=a
 tw6961938852775461181:=a
 tw9432695093564326177:=a
 tw2019205075276072159:=a
 tw8000194689279709278:=a
 tw11601800366693056307:=a
 tw15529952044287826587:=a
 tw10181073363302886272:=a
 tw16705266212505120922:=a
 tw12072838947803468313:=a
 tw2151122530049523768:=a
 tw17379861100096201586:=a
 tw4827745577180107265:=a
 tw7319729459783156972:=a
 tw2703488312640714669:=a
 tw13251676489941006828:=a
 tw14689053468731569616:=a
 tw8024339671714238517:=a
 tw4683994703069387772:=a
 tw15199823054876646590:=a
 tw12749413233172174671:=a
 tw10555460213908186830:=a
 tw7737626026158692607:=a
 tw531414710063975814:=a
 tw10259209928954900404:=a
 tw3983591191893497088:=a
 tw14840286859606504853:=a
 tw11303173328815276589:=a
 tw13776249192358518821:=a
 tw4747628836564457028:=a
 tw8725215038602370294:=a
 tw7165591594680645249:=a
 tw11790199139136404188:=a
 tw4868471593973748288:=a
 tw3791429655565562027:=a
 tw13151849505931871179:=a
 tw3987694448357617854:=a
 tw2867013635993779285:=a
 tw10648354846919410628:=a
 tw2713283066559404712:=a
 tw12037794503612151914:=a
 tw17386674455263053779:=a
 tw1122222530531401876:=a
 tw9767163106961891436:=a
 tw14208168520971667433:=a
 tw6396813999776643445:=a
 tw5913739297928101360:=a
 tw13960712055582544714:=a
 tw11119917190354990774:=a
 tw16367861041317975687:=a
 tw12752154852309850757:=a
 tw1986572730346926987:=a
 tw17415073619654143225:=a
 tw5701731976259044271:=a
 tw2146101750808167058:=a
 tw5745280630927518911:=a
 tw4490702265338607268:=a
 tw17970567364642204386:=a
 tw17435225807615135205:=a
 tw521756569205898474:=a
 tw15844069942651027657:=a
 tw16545156021094381148:=a
 tw7053464437450488805:=a
 tw15429420085271918195:=a
 tw3074722849453752746:=a
 tw7508354255640061432:=a
 tw15379845606723956692:=a
 tw8512802636053513787:=a
 tw17374789787228466288:=a
 tw5996190333554407812:=a
 tw12473393689363195123:=a
 tw4332697184269228978:=a
 tw13231349207127931231:=a
 tw11403429261767689500:=a
 tw7838133492006762415:=a
 tw15716635786671543560:=a
 tw13456635427546915362:=a
 tw769121348259706387:=a
 tw11633877809586813082:=a
 tw83991556184241201:=a
 tw10362726354137402571:=a
 tw8229562196217479269:=a
 tw18083962416553180441:=a
 tw17058601039474543029:=a
 tw8613553390933572563:=a
 tw548041067491373299:=a
 tw12715096420419905211:=a
 tw15230053931254024608:=a
 tw1925474845781136624:=a
 tw5825347957963476979:=a
 tw1672031740541586072:=a
 tw15470428103569563017:=a
 tw545506687356119872:=a
 tw10421417069782960153:=a
 tw12922082122670115501:=a
 tw7578333831871431099:=a
 tw4313211020318948152:=a
 tw16829000150062447086:=a
 tw12212927067067705043:=a
 tw5897051225659896703:=a
 tw2208209372195627690:=a
 tw1695170863722179271:=a
 tw67333606909710236:=a
 tw15252878888002959098:=a
 tw16767747165816255903:=a
 tw8366508244086360599:=a
 tw1519895180926151250:=a
 tw2739462062166302153:=a
 tw12334438279166939799:=a
 tw9799978674916136007:=a
 tw12452582674993019181:=a
 tw2297711244535134896:=a
 tw4691258902488611667:=a
 tw6038474038311921991:=a
 tw16207608415172661123:=a
 tw5045953966824428720:=a
 tw10542570323186366549:=a
 tw11129929200471973811:=a
 tw7440326314630867796:=a
 tw6927120868161790270:=a
 tw1833784378739058663:=a
 tw17109188646867650342:=a
 tw7181621260951494578:=a
 tw9061288634820356958:=a
 tw15186786410644344096:=a
 tw16546427974129287923:=a
 tw1530481428939194207:=a
 tw11733395053347145016:=a
 tw15148207830028607958:=a
 tw6742445842753464612:=a
 tw4328471394276075218:=a
 tw1964552886934387332:=a
 tw9705291609814091732:=a
 tw14279627061534117279:=a
 tw15546125255670105719:=a
 tw5515867672134478911:=a
 tw1103086454517719901:=a
 tw16987647209137837375:=a
 tw9173947550435026989:=a
 tw1746707151895454626:=a
 tw6540961155605174450:=a
 tw16201125147387296904:=a
 tw13099952654781415467:=a
 tw8391820635030181886:=a
 tw18175035309718363357:=a
 tw15337657657342280103:=a
 tw4328784818793037923:=a
 tw5534563543643796649:=a
 tw6057864855065221720:=a
 tw17427177711843239886:=a
 tw15878865691908327747:=a
 tw16242845524460711388:=a
 tw17060747860811730681:=a
 tw16855037405835519594:=a
 tw3694821022690655982:=a
 tw1628500061419150767:=a
 tw15701888819763904501:=a
 tw1968803888193313954:=a
 tw2471365418865450433:=a
 tw4825294940854119785:=a
 tw7775204798035709785:=a
 tw6301754960205418212:=a
 tw5715756198795938532:=a
 tw12806866320250970187:=a
 tw17701048479879814809:=a
 tw5676095804579923605:=a
 tw18107473802903436129:=a
 tw12424760979724183142:=a
 tw12442073156350474029:=a
 tw6590258308957549286:=a
 tw3172650472683125327:=a
 tw4638430446968235225:=a
 tw11339531307291979396:=a
 tw1139382212894759909:=a
 tw9729509054658385191:=a
 tw2609537130677179161:=a
 tw11769311810265562757:=a
 tw9728078621012752980:=a
 tw14120823009990022710:=a
 tw9600819517135846108:=a
 tw17765549792458143030:=a
 tw18162330177002904131:=a
 tw18033992640639840428:=a
 tw16257961436447394980:=a
 tw966925629375089747:=a
 tw14901228195393792590:=a
 tw1085966678391818792:=a
 tw9330958204789235903:=a
 tw1741192446562240542:=a
 tw3587904850856428442:=a
 tw17638302283309284577:=a
 tw3339964286900548529:=a
 tw13204580875815379468:=a
 tw5887069060091507225:=a
 tw8519813038766756401:=a
 tw6621928739418627176:=a
 tw4308306871689593361:=a
 tw4255944255059262998:=a
 tw3190081739630955783:=a
 tw17847905665166627504:=a
 tw17399009417768749760:=a
 tw14191372240887549279:=a
 tw12161949336141790052:=a
 tw5978327837161810488:=a
 tw15180045210115622129:=a
 tw10719076252783349081:=a
 tw5529530806141497005:=a
 tw2921387916131825034:=a
 tw5403466865235325686:=a
 tw4395643548267004022:=a
 tw3067413678699502691:=a
 tw12454707227470315579:=a
 tw10250731066047671719:=a
 tw6940983064384601095:=a
 tw1521010452962112911:=a
 tw16801283214473171574:=a
 tw1030408762972214494:=a
 tw6676664415761463589:=a
 tw8926825471140866257:=a
 tw5601765288252193747:=a
 tw5027575095836900158:=a
 tw3988214986276005417:=a
 tw2628829918985223192:=a
 tw2276625907594374996:=a
 tw2076887570434140225:=a
 tw2023084109778040710:=a
 tw1918145631856013109:=a
 tw13620356890237170321:=a
 tw13320232629017197600:=a
 tw12581535775612871932:=a
 tw11122086029938935896:=a
 tw10493073062705033550:=a
 tw14018420878791613009:=a
 tw13974075372297428181:=a
 tw9000517923387508646:=a
 tw13112960217922643964:=a
 tw15931535398124523258:=a
 tw12349965443591066743:=a
 tw2530934311618526919:=a
 tw16090609379294380745:=a
 tw15801826928645097057:=a
 tw8418560407372298980:=a
 tw6323587178189560318:=a
 tw5705986477556558595:=a
 tw2239230259743540493:=a
 tw16844213456545735934:=a
 tw16398754740764002870:=a
 tw1635049108947744053:=a
 tw14712048852950198294:=a
 tw1296671263529100408:=a
 tw13498128263601647481:=a
 tw11004678831997102240:=a
 tw8760906377347350096:=a
 tw7455716983700400265:=a
 tw7182342629775791639:=a
 tw6756995462001657310:=a
 tw6698744690272576264:=a
 tw4432757038610378009:=a
 tw4283550335628647916:=a
 tw3736179876925704084:=a
 tw3039976514122521227:=a
 tw18057512269256061773:=a
 tw1746749805449505132:=a
 tw17313414780929863201:=a
 tw16901681006453776090:=a
 tw16463530246485343294:=a
 tw16455215385844449934:=a
 tw16365098434129658943:=a
 tw1619800618122514643:=a
 tw15853920999548759013:=a
 tw14184794437983512652:=a
 tw12102596313394943538:=a
 tw11499297017038387556:=a
 tw10899216552997480653:=a
 tw10566068294566118023:=a
 tw10527973589611502120:=a
 tw7202618112996557458:=a
 tw6871635217553719746:=a
 tw10725994885400258408:=a
 tw2413288628387386680:=a
 tw1015728269218354555:=a
 tw3211682147124817024:=a
 tw4274523883840517828:=a
 tw14910679435318306002:=a
 tw9995158962418851391:=a
 tw6869401534711304729:=a
 tw6653625041501202290:=a
 tw5765084060391001662:=a
 tw391114237980278039:=a
 tw2391183553349030554:=a
 tw2227600212948551819:=a
 tw15999130682756295407:=a
 tw15172180586567737267:=a
 tw15101070793583456891:=a
 tw15098597988567541303:=a
 tw14037393312033351216:=a
 tw11858468123544063664:=a
 tw10138567412043051264:=a
 tw12541963439692082821:=a
 tw17534695743851445276:=a
 tw6952459218761835518:=a
 tw6334558520823316812:=a
 tw621894458371974509:=a
 tw4775812087837074421:=a
 tw4398878979418512726:=a
 tw17666706835741794295:=a
 tw17506731660445743811:=a
 tw10848931888437874601:=a
 tw13205760818437659382:=a
 tw5972232158216590112:=a
 tw4315108387715824456:=a
 tw2209524519154278162:=a
 tw17891601049180264227:=a
 tw15843277449529468440:=a
 tw12895802090155081454:=a
 tw12807387540422684878:=a
 tw12566693064168145838:=a
 tw9944076537518823653:=a
 tw8913039813029699803:=a
 tw777692709237801680:=a
 tw7344209743433887815:=a
 tw7078160602493762106:=a
 tw6600776485127451838:=a
 tw6334594113571574786:=a
 tw6325063307864985157:=a
 tw6126794594231777711:=a
 tw5904205052761885210:=a
 tw5399841023849707344:=a
 tw4841737894388981384:=a
 tw4836711866828891067:=a
namespace L2
local macro_rules|`(tactic|intros)=>`(tactic|intro pins s σ H Q I h)
open PySem PySem.Spec PyProof.Rows
abbrev Key:=Sum Int bV
def zh:Key->ai->Bool
 | .inl k,v=>Value.isInt k v
 | .inr x,v=>U6 x v
def ac0(w:World):Key->Int
 | .inl k=>sW k
 | .inr x=>hashStr w x
theorem gN:∀{k:Key}{v:ai},zh k v=ac->(∃i t,k=iJ i/\v=j5 i t)\/(∃x t,k=zp x/\v=ve x t)
 | .inl i,v,h=>by
  obtain⟨t,e⟩:=Value.isInt_shape (k:=i) (v:=v) h;exact .inl ⟨i,t,Z,e⟩
 | .inr x,v,h=>by
  obtain⟨t,e⟩:=Value.isStrOf_shape (x:=x) (v:=v) h;exact .inr ⟨x,t,Z,e⟩
theorem NQ(i:Int)(t:qc):zh (.inl i) (.int i t)=ac:=by simp[zh,Value.isInt]
theorem NP(x:bV)(t:qc):zh (.inr x) (.str x t)=ac:=by simp[zh,U6]
theorem W5(a b:Int):decide ((iJ a:Key)=iJ b)=(a==b):=by
 by_cases e:a=b
 ·subst e;simp
 ·have h:¬(iJ a:Key)=iJ b:=λq=>e (iV q);rw[ay h];exact(beq_eq_false_iff_ne.mpr e).symm
theorem W2(a b:bV):decide ((zp a:Key)=zp b)=decide (a=b):=by
 by_cases e:a=b
 ·subst e;simp
 ·have h:¬(zp a:Key)=zp b:=λq=>e (Sum.inr.inj q);rw[ay h,ay e]
theorem W4(a:Int)(b:bV):decide ((iJ a:Key)=zp b)=ae:=ay (λq=>nomatch q)
theorem W3(a:bV)(b:Int):decide ((zp a:Key)=iJ b)=ae:=ay (λq=>nomatch q)
def fh(prog:ba)(w:World):PySem.KeyKind prog w Key where
 is:=zh
 hash:=ac0 w
 inj:=λv a b ha hb=>by
  rcases gN ha with⟨i,t,rfl,rfl⟩|⟨x,t,rfl,rfl⟩
  ·rcases gN hb with⟨j,u,rfl,e⟩|⟨y,u,rfl,e⟩
   ·injection e with e1 _;rw[e1]
   ·exact nomatch e
  ·rcases gN hb with⟨j,u,rfl,e⟩|⟨y,u,rfl,e⟩
   ·exact nomatch e
   ·injection e with e1 _;rw[e1]
 byValue:=λk v h=>by
  rcases gN h with⟨i,t,rfl,rfl⟩|⟨x,t,rfl,rfl⟩<;>rfl
 pyHash:=λhv h=>by
  rcases gN hv with⟨i,t,rfl,rfl⟩|⟨x,t,rfl,rfl⟩
  ·exact wpAny_pyHash_int h
  ·exact wpAny_pyHash_str h
 eqBool:=λhu hv h=>by
  rcases gN hu with⟨i,t,rfl,rfl⟩|⟨x,t,rfl,rfl⟩
  ·rcases gN hv with⟨j,u,rfl,rfl⟩|⟨y,u,rfl,rfl⟩
   ·rw[W5]at h;exact wpAny_eqBool_int h
   ·rw[W4]at h;exact GG i t y u _ _ _ _ h
  ·rcases gN hv with⟨j,u,rfl,rfl⟩|⟨y,u,rfl,rfl⟩
   ·rw[W3]at h;exact GF x t j u _ _ _ _ h
   ·rw[W2]at h;exact wpAny_eqBool_str h
 «strs»:=λk x t v h=>by
  rcases gN h with⟨i,u,rfl,e⟩|⟨y,u,rfl,e⟩
  ·exact nomatch e
  ·injection e with e1 _
   subst e1
   cases v<;>rfl
theorem Iu(prog:ba)(w:World)(i:Int)(t:qc):(fh prog w).is (.inl i) (.int i t)=ac:=NQ i t
theorem Ir(prog:ba)(w:World)(x:bV)(t:qc):(fh prog w).is (.inr x) (.str x t)=ac:=NP x t
inductive V where
 |iy|bl (b:Bool)|int (i:Int)|str (x:bV)|JP (b:Array UInt8)|ab2 (b:UInt64)|ref (a:ao)|ty (n:String)
 deriving DecidableEq
abbrev V2:=List V
def RelV:V->ai->Prop
 | .iy,u=>u=eO
 | .bl b,u=>u=lx b
 | .int i,u=>∃t,u=j5 i t
 | .str x,u=>∃t,u=ve x t
 | .JP b,u=>∃t,u=Value.bytes b t
 | .ab2 b,u=>∃t,u=Value.float b t
 | .ref a,u=>u=bn a
 | .ty n,u=>u=dU n
abbrev Vals:V2->X9->Prop:=ci RelV
theorem Vals.length(r:Vals xs us):xs.length=us.length:=mY r
theorem Vals.get:∀{xs:V2}{us:X9}{i:Nat}{x:V},Vals xs us->xs[i]? =aa x->∃u,us[i]? =aa u/\RelV x u
 |_,_,_,_,.nil,e=>by simp at e
 |_,_,0,_,.cons r _,e=>by simp at e;subst e;exact⟨_,Z,r⟩
 |_,_,i+1,x,.cons _ t,e=>by
  obtain⟨u,h1,h2⟩:=Vals.get (i:=i) (x:=x) t (by simpa using e);exact⟨u,by simpa using h1,h2⟩
theorem Vals.append:∀{xs ys:V2}{us ws:X9},Vals xs us->Vals ys ws->Vals (xs++ys) (us++ws)
 |_,_,_,_,.nil,s=>s
 |_,_,_,_,.cons r t,s=>.cons r (Vals.append t s)
theorem Vals.take:∀{xs:V2}{us:X9}(n:Nat),Vals xs us->Vals (xs.take n) (us.take n)
 |_,_,0,_=>.nil
 |_,_,_+1,.nil=>.nil
 |_,_,n+1,.cons r t=>.cons r (Vals.take n t)
theorem Vals.drop:∀{xs:V2}{us:X9}(n:Nat),Vals xs us->Vals (xs.drop n) (us.drop n)
 |_,_,0,r=>r
 |_,_,_+1,.nil=>.nil
 |_,_,n+1,.cons _ t=>Vals.drop n t
def qU:Option V->Option ai->Prop
 |some v,aa u=>RelV v u
 |none,ab=>True
 |_,_=>False
def KV{κ:Type}:List (κ×V)->List (κ×ai)->Prop:=ci λ(p:κ×V)(q:κ×ai)=>p.1=q.1/\RelV p.2 q.2
def kV:Key->V
 | .inl i=>.int i
 | .inr x=>.str x
inductive HO where
 |lst (xs:V2)
 |tup (xs:V2)
 |dK (kvs:List (Key×V))|dT (kvs:List (List Key×V))
 |set (S:Int->Bool) (n:Nat)
 |ins (C dx:ao) (fs:List (bV×V))
 |own (x:ao)
 |xd (fs:List (bV×V))
 |met (f x:ao)
 |Vn (lo hi:Int)
 |jT (o:gt) (u:HO)
 |Wh (ps:Array ai)
 |ext (φ:bO->Prop)
abbrev Hp:=ao->Option HO
def upd(H:Hp)(a:ao)(o:HO):Hp:=λb=>if b=a then aa o else H b
theorem ak   :upd H a o a=aa o:=by unfold upd;rw[aC rfl]
theorem aZ(h:b≠a):upd H a o b=H b:=by unfold upd;rw[aw h]
theorem lh{H:Hp}{a b:ao}{o u:HO}(h:H a=aa o)(h':H b=aa u)(d:o≠u):a≠b:=by
 intro e;subst e;rw[h]at h';exact d (bN h')
theorem aL{H:Hp}{a b:ao}{o:HO}(h:H a=aa o)(h':H b=ab):a≠b:=by
 intro e;subst e;rw[h]at h';cases h'
section
variable(P:ba)(w:World)
def ji(H:Hp)(h:bO)(a:ao):HO->Prop
 | .lst xs=>xs.length<=aE/\∃(its:X9)(n:Nat),Vals xs its/\h.get? a=aa {cls:=.type "list",data:=.seq its.toArray n}
 | .tup xs=>xs.length<=aE/\∃its:X9,Vals xs its/\x8 h a its.toArray
 | .dK kvs=>kvs.length<=aE/\(a==iz)=ae/\∃vs,KV kvs vs/\h.DictOf (fh P w) a vs
 | .dT kvs=>kvs.length<=aE/\(a==iz)=ae/\∃xs:List (List Key×ao×ai),
   ci (λ(p:List Key×V)(q:List Key×ao×ai)=>p.1=q.1/\H q.2.1=aa (.tup (p.1.map kV))/\RelV p.2 q.2.2) kvs xs/\
   ∃o es ep,h.get? a=aa o/\o.ExactDict/\o.data= .dict es ep/\es.toList=xs.map (entryOfKey (yQ (fh P w)))/\(xs.map (·.1)).Nodup
 | .set S n=>h.SetOf (intKind P w) a S n
 | .ins C dx fs=>H dx=aa (.own a)/\fs.length<=1000/\dx≠a/\h.get? a=aa (hX C dx)/\
   ∃mA,h.Ns1 dx mA/\(∀f,qU (fs.lookup f) (mA f))/\Ha mA (fs.map (·.1))
 | .own _=>∃o,h.get? a=aa o
 | .xd fs=>∃mA,h.Ns1 a mA/\∀f,qU (fs.lookup f) (mA f)
 | .Vn lo hi=>∃t u v,h.get? a=aa {cls:=.type "range",data:=.fields #[.int lo t,.int hi u,.int 1 v]}
 | .jT o u=>h.get? a=aa o/\ji H h a u
 | .Wh ps=>h.get? a=aa {cls:=.none,data:=.fields ps}
 | .met f x=>h.get? a=aa (wz (.ref f) (.ref x))
 | .ext φ=>φ h/\(∃o,h.get? a=aa o)/\∀h1 h2:bO,φ h1->(∀o,h1.get? a=aa o->h2.get? a=aa o)->φ h2
def uA(H:Hp)(h:bO):Prop:=∀a o,H a=aa o->ji P w H h a o
end
section
variable{P:ba}{w:World}{H H':Hp}{h h':bO}{a:ao}{o:HO}
theorem ji.lt(x:ji P w H h a o):a<h.objs.size:=by
 cases o with
 |lst xs=>obtain⟨_,_,_,_,e⟩:=x;exact aW e
 |tup xs=>obtain⟨_,_,_,p⟩:=x;exact p.lt
 |dK kvs=>obtain⟨_,_,_,_,o,_,_,e,_⟩:=x;exact aW e
 |dT kvs=>obtain⟨_,_,_,_,o,_,_,e,_⟩:=x;exact aW e
 |set S n=>obtain⟨o,_,_,_,e,_⟩:=x;exact aW e
 |ins C dx fs=>obtain⟨_,_,_,e,_⟩:=x;exact aW e
 |own y=>obtain⟨_,e⟩:=x;exact aW e
 |xd fs=>obtain⟨_,⟨_,_,_,e,_⟩,_⟩:=x;exact aW e
 |Vn lo hi=>obtain⟨_,_,_,e⟩:=x;exact aW e
 |jT ob u=>obtain⟨e,_⟩:=x;exact aW e
 |Wh ps=>exact aW (show h.get? a=aa _ from x)
 |met f y=>exact aW (show h.get? a=aa _ from x)
 |ext φ=>obtain⟨_,⟨_,e⟩,_⟩:=x;exact aW e
theorem ci.WZ{α β:Type}{F G:α->β->Prop}:∀{KN:List α}{l₂:List β},ci F KN l₂->(∀a b,F a b->G a b)->ci G KN l₂
 |_,_,.nil,_=>.nil
 |_,_,.cons r t,f=>.cons (f _ _ r) (ci.WZ t f)
theorem ji.zy(x:ji P w H h a o)(k:∀b u,(b=a\/H b=aa (.own a))->h.get? b=aa u->h'.get? b=aa u)
 (ho:∀b,H b=aa (.own a)->H' b=aa (.own a))(ht:∀b xs,H b=aa (.tup xs)->H' b=aa (.tup xs)):ji P w H' h' a o:=by
 induction o with
 |lst xs=>obtain⟨z,its,n,r,e⟩:=x;exact⟨z,its,n,r,k _ _ (.inl Z) e⟩
 |tup xs=>obtain⟨z,its,r,ob,e,c⟩:=x;exact⟨z,its,r,ob,k _ _ (.inl Z) e,c⟩
 |dK kvs=>obtain⟨z,y,vs,r,ob,es,ep,e,c⟩:=x;exact⟨z,y,vs,r,ob,es,ep,k _ _ (.inl Z) e,c⟩
 |dT kvs=>
  obtain⟨z,y,xs,r,ob,es,ep,e,c⟩:=x;exact⟨z,y,xs,ci.WZ r λp q z=>⟨z.1,ht _ _ z.2.1,z.2.2⟩,ob,es,ep,k _ _ (.inl Z) e,c⟩
 |set S n=>obtain⟨ob,es,ep,t,e,c⟩:=x;exact⟨ob,es,ep,t,k _ _ (.inl Z) e,c⟩
 |ins C dx fs=>
  obtain⟨d,z,ne,e,mA,⟨od,es,ep,e2,c⟩,r⟩:=x;exact⟨ho _ d,z,ne,k _ _ (.inl Z) e,mA,⟨od,es,ep,k _ _ (.inr d) e2,c⟩,r⟩
 |own y=>obtain⟨ob,e⟩:=x;exact⟨ob,k _ _ (.inl Z) e⟩
 |xd fs=>obtain⟨mA,⟨od,es,ep,e,c⟩,r⟩:=x;exact⟨mA,⟨od,es,ep,k _ _ (.inl Z) e,c⟩,r⟩
 |Vn lo hi=>obtain⟨t,u,v,e⟩:=x;exact⟨t,u,v,k _ _ (.inl Z) e⟩
 |jT ob u ih=>obtain⟨e,q⟩:=x;exact⟨k _ _ (.inl Z) e,ih q⟩
 |Wh ps=>
  have e:h.get? a=aa {cls:=.none,data:=.fields ps}:=x;show h'.get? a=aa {cls:=.none,data:=.fields ps};exact k a _ (.inl Z) e
 |met f y=>
  have e:h.get? a=aa (wz (.ref f) (.ref y)):=x;show h'.get? a=aa (wz (.ref f) (.ref y));exact k a _ (.inl Z) e
 |ext φ=>obtain⟨p,⟨o,e⟩,st⟩:=x;exact⟨st _ _ p λo q=>k _ _ (.inl Z) q,⟨o,k _ _ (.inl Z) e⟩,st⟩
theorem uA.lt(x:uA P w H h)(e:H a=aa o):a<h.objs.size:=(x a o e).lt
theorem uA.fresh(x:uA P w H h)(e:h.objs.size<=a):H a=ab:=by
 cases q:H a with
 |none=>rfl
 |some u=>exact absurd (bI (x.lt q) e) (eV _)
theorem uA.kept(x:uA P w H h)(k:∀b u,h.get? b=aa u->h'.get? b=aa u):uA P w H h':=λa o e=>
 (x a o e).zy (λb u _ q=>k b u q) (λ_ q=>q) λ_ _ q=>q
theorem uA.laid(x:uA P w H h)(k:∀b u,h.get? b=aa u->h'.get? b=aa u)(hp:h.objs.size<=a)(new:ji P w (upd H a o) h' a o):uA P w (upd H a o) h':=λb u e=>by
 have hn:=x.fresh hp;by_cases hb:b=a
 ·subst hb;rw[ak]at e;cases e;exact new
 ·rw[aZ hb]at e;exact(x b u e).zy (λc v _ q=>k c v q) (λc q=>by rw[aZ (aL q hn)];exact q) λc xs q=>by rw[aZ (aL q hn)];exact q
end
def Rd(H:Hp)(a:ao)(u:HO):Prop:=H a=aa u\/∃o,H a=aa (.jT o u)
theorem Rd.ok{P:ba}(r:Rd H a u)(x:uA P w H h):ji P w H h a u:=by
 rcases r with r|⟨o,r⟩
 ·exact x a u r
 ·obtain⟨_,q⟩:=x a _ r;exact q
def UU:Option HO->Prop
 |some (.lst _)=>True
 |some (.dK _)=>True
 |some (.dT _)=>True
 |some (.set _ _)=>True
 |some (.ins _ _ _)=>True
 |some (.ext _)=>True
 |_=>False
section
variable{P:ba}{w:World}{H:Hp}{h h':bO}{x e:ao}{o':HO}
theorem uA.write(ok:uA P w H h)(mu:UU (H x))(he:e=x\/H e=aa (.own x))(k:∀b u,b≠e->h.get? b=aa u->h'.get? b=aa u)(Yt:∃u,h'.get? e=aa u)
 (new:ji P w (upd H x o') h' x o'):uA P w (upd H x o') h':=λb u q=>by
 have Zt:∀c y,H c=aa (.own y)->c≠x:=λc y r z=>by subst z;rw[r]at mu;exact mu
 have acR:∀c xs,H c=aa (.tup xs)->c≠x:=λc xs r z=>by subst z;rw[r]at mu;exact mu
 by_cases hb:b=x
 ·subst hb;rw[ak]at q;cases q;exact new
 ·rw[aZ hb]at q;by_cases Xm:b=e
  ·have q':H b=aa (.own x):=by
    rcases he with z|z
    ·exact absurd (Xm.trans z) hb
    ·rw[Xm];exact z
   rw[q]at q';cases q';obtain⟨v,hv⟩:=Yt;exact⟨v,by rw[Xm];exact hv⟩
  ·refine(ok b u q).zy (λc v hc r=>k c v ?_ r) (λc r=>by rw[aZ (Zt c b r)];exact r) λc xs r=>by rw[aZ (acR c xs r)];exact r
   rcases hc with rfl|hc
   ·exact Xm
   ·rintro rfl;rcases he with z|z
    ·exact Zt c b hc z
    ·rw[hc]at z;cases z;exact hb Z
end
structure Un(fs ex:List ao)(H H':Hp)(h h':bO):Prop where
 keep:∀b o,h.get? b=aa o->H b=ab->b∉fs->b∉ex->h'.get? b=aa o
 slot:∀b o,h.get? b=aa o->H b=ab->b∈fs->b∉ex->∃sl,h'.get? b=aa {o with slots:=sl}
 free:∀b o,h.get? b=aa o->H b=ab->b∉ex->H' b=ab
 there:∀b o,h.get? b=aa o->b∉ex->∃o',h'.get? b=aa o'
 Fj:∀b xs,H b=aa (.tup xs)->H' b=aa (.tup xs)
 BP:∀b o u,H b=aa (.jT o u)->H' b=aa (.jT o u)
 Fk:∀b ps,H b=aa (.Wh ps)->∃more,H' b=aa (.Wh (ps++more))
section
variable{fs YE ex ex':List ao}{H H1 H2:Hp}{h h1 h2 h':bO}{a x e:ao}{o:HO}
theorem Un.any(u:Un fs ex H H1 h h1)(q:h.get? b=aa ob)(n:H b=ab)(hx:b∉ex):∃sl,h1.get? b=aa {ob with slots:=sl}:=by
 by_cases hb:b∈fs
 ·exact u.slot b ob q n hb hx
 ·exact⟨ob.slots,u.keep b ob q n hb hx⟩
theorem Un.kept(k:∀b u,h.get? b=aa u->h'.get? b=aa u):Un fs ex H H h h':=
 ⟨λb ob q _ _ _=>k b ob q,λb ob q _ _ _=>⟨ob.slots,k b ob q⟩,λ_ _ _ n _=>n,λb ob q _=>⟨ob,k b ob q⟩,λ_ _ q=>q,λ_ _ _ q=>q,λ_ ps q=>⟨#[],by rw[q];simp⟩⟩
theorem Un.refl:Un fs ex H H h h:=Un.kept λ_ _ q=>q
theorem Un.laid(k:∀b u,h.get? b=aa u->h'.get? b=aa u)(hp:h.objs.size<=a)(hn:H a=ab):Un fs ex H (upd H a o) h h' where
 keep:=λb u q _ _ _=>k b u q
 slot:=λb u q _ _ _=>⟨u.slots,k b u q⟩
 free:=λb u q n _=>by rw[aZ (bL (bI (aW q) hp))];exact n
 there:=λb u q _=>⟨u,k b u q⟩
 Fj:=λb xs q=>by rw[aZ (aL q hn)];exact q
 BP:=λb u xs q=>by rw[aZ (aL q hn)];exact q
 Fk:=λb ps q=>⟨#[],by rw[aZ (aL q hn),q];simp⟩
theorem Un.write(mu:UU (H x))(he:e=x\/H e=aa (.own x))(k:∀b u,b≠e->h.get? b=aa u->h'.get? b=aa u)(Yt:∃u,h'.get? e=aa u):Un fs ex H (upd H x o) h h':=by
 have hx:∀b,H b=ab->b≠x:=λb n z=>by subst z;rw[n]at mu;exact mu
 have hb:∀b,H b=ab->b≠e:=λb n z=>by
  subst z;rcases he with r|r
  ·exact hx b n r
  ·rw[n]at r;cases r
 have hm:∀b u,H b=aa u->¬UU (aa u)->b≠x:=λb u q nm z=>by subst z;rw[q]at mu;exact nm mu
 refine⟨λb u q n _ _=>k b u (hb b n) q,λb u q n _ _=>⟨u.slots,k b u (hb b n) q⟩,λb u q n _=>by rw[aZ (hx b n)];exact n,λb u q _=>?_,
  λb xs q=>by rw[aZ (hm b _ q λz=>z)];exact q,λb u xs q=>by rw[aZ (hm b _ q λz=>z)];exact q,λb ps q=>⟨#[],by rw[aZ (hm b _ q λz=>z),q];simp⟩⟩
 by_cases Xm:b=e
 ·subst Xm;exact Yt
 ·exact⟨u,k b u Xm q⟩
end
def abi(h:bO)(H:Hp):List ao:=(cF h.objs.size).filter λa=>(H a).isSome
def Gg(h:bO)(H:Hp):bO:=PySem.W.hideAll h (abi h H)
theorem NX(h:bO)(H:Hp):(Gg h H).objs.size=h.objs.size:=PySem.W.hideAll_size _ _
theorem Q8(e:h.get? b=aa o)(n:H b=ab):(Gg h H).get? b=aa o:=
 PySem.W.hideAll_get _ e λhm=>by
  have q:(H b).isSome=ac:=(bB.mp hm).2;rw[n]at q;simp at q
theorem TM(e:(Gg h H).get? b=aa o):h.get? b=aa o/\H b=ab:=by
 have e':h.get? b=aa o:=PySem.W.of_hideAll (abi h H) e;refine⟨e',?_⟩
 cases q:H b with
 |none=>rfl
 |some x=>
  have hm:b∈abi h H:=bB.mpr ⟨fi.mpr (aW e'),by simp[q]⟩;have z:(Gg h H).get? b=ab:=PySem.W.hideAll_none (abi h H) hm;rw[z]at e;cases e
structure Mod(K:aj)(mg:bV->Option ai)(base:bO):Prop where
 Ya:K.In base
 glob:base.Ns cR mg
 blt:∃mb,base.Ns V3 mb/\∀x:bV,x≠"__name__"->mb x=g_ x
 nolimit:base.NoLimit
structure Cx where
 prog:ba
 w:World
 K:aj
 mg:bV->Option ai
 base:bO
 A:cb
 N:List bV
 Ej:aq
 XV:Hp
 env:Hd
 outer:List Hd
 stack:List Hd
 ex:List ao
 fn:bV->Bool
 calm:Bool
 pn:List (ao×gt)
 xe:ai->aq->Prop
def Rh(l:List Hd):List ao:=l.filterMap (·.frame)
abbrev Cx.fs(X:Cx):List ao:=Rh X.outer
def YK(sc:l_)(x:bV):Prop:=sc.names.lookup x=aa .local\/sc.names.lookup x=aa .cell\/sc.names.lookup x=aa .free
def Loc(sc:l_)(x:bV):Prop:=sc.names.lookup x=aa .local\/sc.names.lookup x=aa .cell
def Look(env:Hd)(h:bO)(m:bV->Option ai)(x:bV)(u:ai):Prop:=
 (env.kindOf x=aa .local/\m x=aa u)\/((env.kindOf x=aa .cell\/env.kindOf x=aa .free)/\∃c,env.cells.lookup x=aa c/\h.IsCell c (aa u))
structure Cx.Ok(X:Cx):Prop where
 mod:Mod X.K X.mg X.base
 kind:X.env.scope.kind= .function
 glob:X.env.globals=cR
 blt:X.env.builtins=V3
 above:X.Ej.heap.objs.size<=X.env.locals
 inj:∀x y c,X.env.cells.lookup x=aa c->X.env.cells.lookup y=aa c->x=y
 has:∀x,(X.env.kindOf x=aa .cell\/X.env.kindOf x=aa .free)->∃c,X.env.cells.lookup x=aa c
 aaW:∀x c,X.fn x=ac->X.env.cells.lookup x=aa c->X.Ej.heap.objs.size<=c
 hd:X.calm=ac->X.A.handled=ab
 frames:X.A.frames=aa X.stack
 abm:X.stack=X.outer\/(X.stack=X.env::X.outer/\X.env.frame=aa X.env.locals)
 ab3:∀b∈X.ex,b≠X.env.locals/\∀x c,X.env.cells.lookup x=aa c->c≠b
 bs:∀b o,X.base.get? b=aa o->X.Ej.heap.get? b=aa o/\X.XV b=ab
 UN:X.base.objs.size<=X.Ej.heap.objs.size
 Qi:∀b o,X.base.get? b=aa o->b∉X.ex
 Rv:∀b∈X.ex,b∉X.fs
 zR:X.Ej.heap.FunFrames X.base X.outer
 XB:∀b∈X.fs,X.XV b=ab
structure Inv(X:Cx)(pins:List (ao×gt))(σ:List (Option V))(H:Hp)(s:aq):Prop where
 ok:X.Ok
 os:s.os=X.Ej.os
 bare:CI s.gens
 base:Un X.fs X.ex X.XV H X.Ej.heap s.heap
 loc:∃m,s.heap.Ns X.env.locals m/\∀(i:Nat)(x:bV)(v:V),X.N[i]? =aa x->σ[i]? =aa (aa v)->YK X.env.scope x->∃u,RelV v u/\Look X.env s.heap m x u
 cell:∀x c,X.env.cells.lookup x=aa c->∃v,s.heap.IsCell c v
 free:H X.env.locals=ab
 pF:∀x c,X.env.cells.lookup x=aa c->H c=ab
 pin:∀p∈X.pn++pins,s.heap.get? p.1=aa p.2/\H p.1=ab/\p.1≠X.env.locals/\p.1∉X.fs/\∀v,p.2.data≠.cell v
 f7:uA X.prog X.w H s.heap
 len:σ.length=X.N.length
section
variable{X:Cx}{pins:List (ao×gt)}{σ:List (Option V)}{H H':Hp}{s:aq}{h':bO}
theorem Cx.Ok.acT(ok:X.Ok)(e:X.base.get? b=aa o):b∉X.fs:=λhb=>by
 have:=(ok.zR.mem hb).1;rw[e]at this;cases this
theorem Inv.bs(I:Inv X pins σ H s):∀b o,X.base.get? b=aa o->s.heap.get? b=aa o/\H b=ab:=λb o e=>
 ⟨I.base.keep b o (I.ok.bs b o e).1 (I.ok.bs b o e).2 (I.ok.acT e) (I.ok.Qi b o e),I.base.free b o (I.ok.bs b o e).1 (I.ok.bs b o e).2 (I.ok.Qi b o e)⟩
theorem Inv.bk(I:Inv X pins σ H s):∀b o,X.base.get? b=aa o->s.heap.get? b=aa o:=λb o e=>(I.bs b o e).1
theorem Inv.mod(I:Inv X pins σ H s):Mod X.K X.mg X.base:=I.ok.mod
theorem Inv.IE(I:Inv X pins σ H s):X.K.In s.heap:=I.ok.mod.Ya.keeps I.bk
theorem Inv.lt(I:Inv X pins σ H s):X.env.locals<s.heap.objs.size:=let⟨_,hn,_⟩:=I.loc;hn.lt
theorem Inv.sz(I:Inv X pins σ H s):X.Ej.heap.objs.size<=s.heap.objs.size:=aB I.ok.above (eX I.lt)
theorem Inv.acS(I:Inv X pins σ H s)(h:s.heap.objs.size<=a):a∉X.fs:=λhb=>by
 obtain⟨_,o,ho,_⟩:=I.ok.zR.mem hb;exact absurd (bI (aW ho) (aB I.sz h)) (eV _)
theorem Inv.XM(I:Inv X pins σ H s):∀x c,X.env.cells.lookup x=aa c->c≠X.env.locals:=λx c e z=>by
 obtain⟨v,o,ho,hd⟩:=I.cell x c e;obtain⟨m,⟨o',es,ep,Ck,Q?,_⟩,_⟩:=I.loc;rw[z,Ck]at ho;cases ho;rw[Q?]at hd;cases hd
theorem Inv.zR(I:Inv X pins σ H s):s.heap.FunFrames X.base X.outer:=by
 have all:∀(l:List Hd),(∀b∈Rh l,b∈X.fs)->X.Ej.heap.FunFrames X.base l->s.heap.FunFrames X.base l:=by
  intro l
  induction l with
  |nil=>intro _ _;trivial
  |cons env r ih=>
   intro hs hl;obtain⟨hk,⟨L,o,hf,hn,ho,hd⟩,hr⟩:=hl;have hL:L∈X.fs:=hs L (by unfold Rh;rw[c9,hf];exact cY);obtain⟨sl,e⟩:=I.base.slot L o ho (I.ok.XB L hL) hL λz=>I.ok.Rv L z hL;exact⟨hk,⟨L,_,hf,hn,e,hd⟩,ih (λb hb=>hs b (by unfold Rh;rw[c9,hf];exact aD _ hb)) hr⟩
 exact all X.outer (λ_ hb=>hb) I.ok.zR
theorem Inv.stack(I:Inv X pins σ H s):s.heap.FunFrames X.base X.stack:=by
 rcases I.ok.abm with e|⟨e,hf⟩
 ·rw[e];exact I.zR
 ·rw[e];obtain⟨m,hn,_⟩:=I.loc;refine .cons (by rw[I.ok.kind];decide) hf hn ?_ I.zR;exact Heap.get?_none_of_le (aB I.ok.UN I.ok.above)
theorem Inv.Kb(I:Inv X pins σ H s):∀b∈Rh X.stack,b∈X.env.locals::X.fs:=λb hb=>by
 rcases I.ok.abm with e|⟨e,hf⟩
 ·rw[e]at hb;exact aD _ hb
 ·rw[e]at hb;unfold Rh at hb;rw[c9,hf]at hb;exact hb
theorem Inv.LJ(I:Inv X pins σ H s):∀b∈Rh X.stack,H b=ab:=λb hb=>by
 rcases aF.mp (I.Kb b hb)with e|hb
 ·rw[e];exact I.free
 ·obtain⟨_,o,ho,_⟩:=I.ok.zR.mem hb;exact I.base.free b o ho (I.ok.XB b hb) λz=>I.ok.Rv b z hb
theorem Inv.step{g':Array SY}{t':Nat}{d':Drawn}{ch:List ao}(I:Inv X pins σ H s)
 (K6:∀b∈ch,(b∈X.ex\/X.Ej.heap.objs.size<=b)/\b≠X.env.locals/\(∀x c,X.env.cells.lookup x=aa c->c≠b)/\∀p∈X.pn++pins,p.1≠b)
 (keep:∀b o,b≠X.env.locals->b∉X.fs->b∉ch->s.heap.get? b=aa o->H b=ab->h'.get? b=aa o)
 (slot:∀b o,b≠X.env.locals->b∈X.fs->b∉ch->s.heap.get? b=aa o->H b=ab->∃sl,h'.get? b=aa {o with slots:=sl})(free:∀b o,b∉ch->s.heap.get? b=aa o->H b=ab->H' b=ab)
 (there:∀b o,b∉ch->s.heap.get? b=aa o->∃o',h'.get? b=aa o')
 (Fj:∀b xs,H b=aa (.tup xs)->H' b=aa (.tup xs))(BP:∀b o u,H b=aa (.jT o u)->H' b=aa (.jT o u))(Fk:∀b ps,H b=aa (.Wh ps)->∃more,H' b=aa (.Wh (ps++more)))
 (ns:∀m,s.heap.Ns X.env.locals m->h'.Ns X.env.locals m)(f7:uA X.prog X.w H' h')(hg:CI g'):
  Inv X pins σ H' {s with heap:=h',gens:=g',drawn:=d',toks:=t'}:=by
 have neL:∀b o,X.Ej.heap.get? b=aa o->b≠X.env.locals:=λb o e=>bL (bI (aW e) I.ok.above);have abz:∀b o,X.Ej.heap.get? b=aa o->b∉X.ex->b∉ch:=λb o e hx hb=>by
  rcases(K6 b hb).1 with z|z
  ·exact hx z
  ·exact absurd (bI (aW e) z) (eV _)
 have VW:∀x c,X.env.cells.lookup x=aa c->∀v,s.heap.IsCell c v->h'.IsCell c v:=λx c e v ⟨o,ho,hd⟩=>by
  have Zv:c∉ch:=λz=>(K6 c z).2.2.1 x c e Z;by_cases hc:c∈X.fs
  ·obtain⟨sl,q⟩:=slot c o (I.XM x c e) hc Zv ho (I.pF x c e);exact⟨_,q,hd⟩
  ·exact⟨o,keep c o (I.XM x c e) hc Zv ho (I.pF x c e),hd⟩
 refine⟨I.ok,I.os,hg,⟨λb o e n hb hx=>?_,λb o e n hb hx=>?_,λb o e n hx=>?_,λb o e hx=>?_,λb xs e=>Fj b xs (I.base.Fj b xs e),λb o xs e=>BP b o xs (I.base.BP b o xs e),λb ps e=>?_⟩,?_,λx c e=>?_,?_,λx c e=>?_,λp hp=>?_,f7,I.len⟩
 ·exact keep b o (neL b o e) hb (abz b o e hx) (I.base.keep b o e n hb hx) (I.base.free b o e n hx)
 ·obtain⟨sl,e1⟩:=I.base.slot b o e n hb hx;obtain⟨sl',e2⟩:=slot b _ (neL b o e) hb (abz b o e hx) e1 (I.base.free b o e n hx);exact⟨sl',e2⟩
 ·obtain⟨o',e1⟩:=I.base.there b o e hx;exact free b o' (abz b o e hx) e1 (I.base.free b o e n hx)
 ·obtain⟨o',e1⟩:=I.base.there b o e hx;exact there b o' (abz b o e hx) e1
 ·obtain⟨m1,e1⟩:=I.base.Fk b ps e;obtain⟨m2,e2⟩:=Fk b _ e1;exact⟨m1++m2,by rw[e2,Array.append_assoc]⟩
 ·obtain⟨m,hn,hl⟩:=I.loc;refine⟨m,ns m hn,λi x v e1 e2 e3=>?_⟩;obtain⟨u,r,l⟩:=hl i x v e1 e2 e3;refine⟨u,r,?_⟩;rcases l with l|⟨k,c,e,z⟩
  ·exact .inl l
  ·exact .inr ⟨k,c,e,VW x c e _ z⟩
 ·obtain⟨v,z⟩:=I.cell x c e;exact⟨v,VW x c e v z⟩
 ·obtain⟨m,⟨o,_,_,ho,_⟩,_⟩:=I.loc;exact free _ o (λz=>(K6 _ z).2.1 Z) ho I.free
 ·obtain⟨v,o,ho,hd⟩:=I.cell x c e;exact free c o (λz=>(K6 c z).2.2.1 x c e Z) ho (I.pF x c e)
 ·obtain⟨e,n,ne,nf,d⟩:=I.pin p hp;have Zv:p.1∉ch:=λz=>(K6 p.1 z).2.2.2 p hp Z;exact⟨keep p.1 p.2 ne nf Zv e n,free p.1 p.2 Zv e n,ne,nf,d⟩
theorem Inv.un{t':Nat}(I:Inv X pins σ H s)(u:Un X.fs [] H H' s.heap h')(f7:uA X.prog X.w H' h'):Inv X pins σ H' {s with heap:=h',toks:=t'}:=by
 obtain⟨m,⟨o,es,ep,ho,r⟩,_⟩:=id I.loc;obtain⟨sl,hL⟩:=u.any ho I.free (by simp);exact I.step (g':=s.gens) (d':=s.drawn) (ch:=[]) (λ_ z=>nomatch z) (λb o _ hb _ e n=>u.keep b o e n hb (by simp)) (λb o _ hb _ e n=>u.slot b o e n hb (by simp)) (λb o _ e n=>u.free b o e n (by simp)) (λb o _ e=>u.there b o e (by simp)) u.Fj u.BP u.Fk (λm' hm=>by
  obtain⟨o',oU,xS,Ck,r'⟩:=hm;rw[ho]at Ck;cases Ck;exact⟨_,oU,xS,hL,r'⟩) f7 I.bare
theorem Inv.call{g':Array SY}{t':Nat}{d':Drawn}{ch:List ao}(I:Inv X pins σ H s)(u:Un (Rh X.stack) ch H H' s.heap h')(f7:uA X.prog X.w H' h')(hg:CI g')
 (K6:∀b∈ch,(b∈X.ex\/X.Ej.heap.objs.size<=b)/\b≠X.env.locals/\(∀x c,X.env.cells.lookup x=aa c->c≠b)/\∀p∈X.pn++pins,p.1≠b):
  Inv X pins σ H' {s with heap:=h',gens:=g',drawn:=d',toks:=t'}:=by
 obtain⟨m,⟨o,es,ep,ho,r⟩,_⟩:=id I.loc;obtain⟨sl,hL⟩:=u.any ho I.free λz=>(K6 _ z).2.1 Z;exact I.step (ch:=ch) K6 (λb o hL hb hc e n=>u.keep b o e n (λz=>(aF.mp (I.Kb b z)).elim hL hb) hc) (λb o _ _ hc e n=>u.any e n hc) (λb o hc e n=>u.free b o e n hc) (λb o hc e=>u.there b o e hc) u.Fj u.BP u.Fk (λm' hm=>by
  obtain⟨o',oU,xS,Ck,r'⟩:=hm;rw[ho]at Ck;cases Ck;exact⟨_,oU,xS,hL,r'⟩) f7 hg
theorem Inv.turned{t':Nat}{it:ao}(I:Inv X pins σ H s)(k:∀b o,b≠it->s.heap.get? b=aa o->h'.get? b=aa o)(hn:H it=ab)(hL:it≠X.env.locals)
 (h1:it∈X.ex\/X.Ej.heap.objs.size<=it)(h2:∀x c,X.env.cells.lookup x=aa c->c≠it)(h3:∀p∈X.pn++pins,p.1≠it):Inv X pins σ H {s with heap:=h',toks:=t'}:=by
 have Vx:∀b u,H b=aa u->b≠it:=λb u e z=>by rw[z,hn]at e;cases e
 refine I.step (g':=s.gens) (d':=s.drawn) (ch:=[it]) (λb hb=>?_) (λb o _ _ hc e _=>k b o (λz=>hc (by simp[z])) e) (λb o _ _ hc e _=>⟨o.slots,k b o (λz=>hc (by simp[z])) e⟩) (λ_ _ _ _ n=>n)
  (λb o hc e=>⟨o,k b o (λz=>hc (by simp[z])) e⟩) (λ_ _ e=>e) (λ_ _ _ e=>e) (λb ps e=>⟨#[],by rw[e];simp⟩) (λm hm=>?_) (λb u e=>?_) I.bare
 ·have e:b=it:=by simpa using hb
  subst e;exact⟨h1,hL,h2,h3⟩
 ·obtain⟨o,es,ep,ho,r⟩:=hm;exact⟨o,es,ep,k _ o (a8 hL) ho,r⟩
 ·refine(I.f7 b u e).zy (λc v hc q=>k c v ?_ q) (λ_ q=>q) λ_ _ q=>q;rcases hc with z|z
  ·rw[z];exact Vx b u e
  ·exact Vx c _ z
theorem Inv.tok(I:Inv X pins σ H s)(t:Nat):Inv X pins σ H {s with toks:=t}:=I.un (h':=s.heap) (t':=t) Un.refl I.f7
theorem Inv.kept(I:Inv X pins σ H s)(k:∀b u,s.heap.get? b=aa u->h'.get? b=aa u):Inv X pins σ H {s with heap:=h',toks:=t'}:=I.un (Un.kept k) (I.f7.kept k)
theorem Inv.laid(I:Inv X pins σ H s)(k:∀b u,s.heap.get? b=aa u->h'.get? b=aa u)(hp:s.heap.objs.size<=a)(new:ji X.prog X.w (upd H a o) h' a o):
  Inv X pins σ (upd H a o) {s with heap:=h',toks:=t'}:=I.un (Un.laid k hp (I.f7.fresh hp)) (I.f7.laid k hp new)
theorem Inv.write(I:Inv X pins σ H s)(mu:UU (H x))(he:e=x\/H e=aa (.own x))(k:∀b u,b≠e->s.heap.get? b=aa u->h'.get? b=aa u)(Yt:∃u,h'.get? e=aa u)
 (new:ji X.prog X.w (upd H x o) h' x o):Inv X pins σ (upd H x o) {s with heap:=h',toks:=t'}:=I.un (Un.write mu he k Yt) (I.f7.write mu he k Yt new)
theorem Inv.weak(I:Inv X pins σ H s)(hl:jd.length=σ.length)(w:∀(i:Nat) v,jd[i]? =aa (aa v)->σ[i]? =aa (aa v)):Inv X pins jd H s:=
 ⟨I.ok,I.os,I.bare,I.base,let⟨m,hn,hl'⟩:=I.loc;⟨m,hn,λi x v e1 e2 e3=>hl' i x v e1 (w i v e2) e3⟩,I.cell,I.free,I.pF,I.pin,I.f7,hl.trans I.len⟩
theorem Inv.LV(I:Inv X pins σ H s)(h:∀p∈Vu,s.heap.get? p.1=aa p.2/\H p.1=ab/\p.1≠X.env.locals/\p.1∉X.fs/\∀v,p.2.data≠.cell v):Inv X Vu σ H s:=
 ⟨I.ok,I.os,I.bare,I.base,I.loc,I.cell,I.free,I.pF,λp hp=>(df.mp hp).elim (λz=>I.pin p (vh _ z)) (h p),I.f7,I.len⟩
theorem Bq{N:List bV}(hN:N.Nodup){i j:Nat}{x:bV}(a:N[i]? =aa x)(b:N[j]? =aa x):i=j:=by
 obtain⟨h1,e1⟩:=aY.mp a;obtain⟨h2,e2⟩:=aY.mp b;exact(List.getElem_inj hN).mp (e1.trans e2.symm)
theorem Ee{M:JZ}{A:cb}{E:ai->aq->Prop}{i:Nat}{x:bV}{v:V}{u:ai}{Q:Unit->aq->Prop}(I:Inv X pins σ H s)(hN:X.N.Nodup)(hi:X.N[i]? =aa x)(hx:Loc X.env.scope x)(r:RelV v u)
 (h:∀s',Inv X pins (σ.set i (aa v)) H s'->(∃a,eG a s.heap s'.heap/\(a=X.env.locals\/X.env.cells.lookup x=aa a))->Q () s')(hf:X.fn x=ac\/X.env.scope.names.lookup x=aa .local:=by first|exact .inl rfl|exact .inr rfl|assumption):aU M A (storeName X.env x u) Q E s:=by
 obtain⟨m,hn,hl⟩:=id I.loc;have ad2:(X.env.scope.kind==.class||(X.env.scope.kind==.module&&X.env.locals != X.env.globals))=ae:=by rw[I.ok.kind];rfl
 have Z9:i<σ.length:=by rw[I.len];exact(aY.mp hi).1
 have XM:=I.XM;have LH:∀{a:ao}{h':bO},(∃o,s.heap.get? a=aa o/\H a=ab)->eG a s.heap h'->uA X.prog X.w H h':=λ{a h'} ha hs b ob e=>by
  obtain⟨_,_,EF⟩:=ha;refine(I.f7 b ob e).zy (λc w' hc q=>(hs.2 c ?_).trans q) (λ_ q=>q) λ_ _ q=>q;rintro rfl;rcases hc with rfl|hc
  ·rw[EF]at e;cases e
  ·rw[EF]at hc;cases hc
 rcases hx with hk|hk
 ·refine wpAny_storeName_local hk hn (λh' Q1 hs=>?_) ad2;obtain⟨oL,_,_,Uo,_⟩:=id hn;refine h _ ⟨I.ok,I.os,I.bare,⟨λb o e n hb hx=>?_,λb o e n hb hx=>?_,I.base.free,λb o e hx=>?_,I.base.Fj,I.base.BP,I.base.Fk⟩,⟨_,Q1,λj y v' e1 e2 e3=>?_⟩,λy c e=>?_,I.free,I.pF,λp hp=>?_,LH ⟨oL,Uo,I.free⟩ hs,by simpa using I.len⟩ ⟨_,hs,.inl Z⟩
  ·exact(hs.2 b (bL (bI (aW e) I.ok.above))).trans (I.base.keep b o e n hb hx)
  ·obtain⟨sl,e1⟩:=I.base.slot b o e n hb hx;exact⟨sl,(hs.2 b (bL (bI (aW e) I.ok.above))).trans e1⟩
  ·obtain⟨o',e1⟩:=I.base.there b o e hx;exact⟨o',(hs.2 b (bL (bI (aW e) I.ok.above))).trans e1⟩
  ·by_cases hj:j=i
   ·subst hj;rw[hi]at e1;cases e1;rw[mm Z9]at e2
    cases e2;exact⟨u,r,.inl ⟨hk,by simp⟩⟩
   ·rw[nv (a8 hj)]at e2;obtain⟨u',r',q⟩:=hl j y v' e1 e2 e3;refine⟨u',r',?_⟩;rcases q with⟨k,e⟩|⟨k,c,e,z⟩
    ·refine .inl ⟨k,?_⟩;have:y≠x:=λe=>hj (Bq hN e1 (e▸hi));simp[this,e]
    ·exact .inr ⟨k,c,e,z.sameBut hs (XM y c e)⟩
  ·obtain⟨w',z⟩:=I.cell y c e;exact⟨w',z.sameBut hs (XM y c e)⟩
  ·obtain⟨e,n,ne,nf,d⟩:=I.pin p hp;exact⟨(hs.2 p.1 ne).trans e,n,ne,nf,d⟩
 ·have adS:X.fn x=ac:=by
   rcases hf with z|z
   ·exact z
   ·rw[z]at hk;cases hk
  obtain⟨c,hc⟩:=I.ok.has x (.inl hk);obtain⟨w',z⟩:=I.cell x c hc;refine wpAny_storeName_cell I.ok.kind hk hc z (λh' Yw hs=>?_);obtain⟨oc,hoc,ado⟩:=id z;refine h {s with heap:=h'} ⟨I.ok,I.os,I.bare,⟨λb o e n hb hx=>?_,λb o e n hb hx=>?_,I.base.free,λb o e hx=>?_,I.base.Fj,I.base.BP,I.base.Fk⟩,⟨m,hn.sameBut hs (a8 (XM x c hc)),λj y v' e1 e2 e3=>?_⟩,λy c' e=>?_,I.free,I.pF,λp hp=>?_,LH ⟨oc,hoc,I.pF x c hc⟩ hs,by simpa using I.len⟩ ⟨c,hs,.inr hc⟩
  ·exact(hs.2 b (bL (bI (aW e) (I.ok.aaW x c adS hc)))).trans (I.base.keep b o e n hb hx)
  ·obtain⟨sl,e1⟩:=I.base.slot b o e n hb hx;exact⟨sl,(hs.2 b (bL (bI (aW e) (I.ok.aaW x c adS hc)))).trans e1⟩
  ·obtain⟨o',e1⟩:=I.base.there b o e hx;exact⟨o',(hs.2 b (bL (bI (aW e) (I.ok.aaW x c adS hc)))).trans e1⟩
  ·by_cases hj:j=i
   ·subst hj;rw[hi]at e1;cases e1;rw[mm Z9]at e2
    cases e2;exact⟨u,r,.inr ⟨.inl hk,c,hc,Yw⟩⟩
   ·rw[nv (a8 hj)]at e2;obtain⟨u',r',q⟩:=hl j y v' e1 e2 e3;refine⟨u',r',?_⟩;rcases q with q|⟨k,c',e,z'⟩
    ·exact .inl q
    ·refine .inr ⟨k,c',e,z'.sameBut hs ?_⟩;rintro rfl;exact hj (Bq hN e1 (I.ok.inj _ _ _ e hc▸hi))
  ·by_cases hcc:c'=c
   ·subst hcc;exact⟨_,Yw⟩
   ·obtain⟨w2,z2⟩:=I.cell y c' e;exact⟨w2,z2.sameBut hs hcc⟩
  ·obtain⟨e,n,ne,nf,d⟩:=I.pin p hp;refine⟨(hs.2 p.1 ?_).trans e,n,ne,nf,d⟩;intro q;rw[q,hoc]at e;have q':oc=p.2:=bN e;exact d w' (by rw[<-q'];exact ado)
theorem AG(I:Inv X pins σ H s)(hN:X.N.Nodup)(hi:X.N[i]? =aa x)(hx:Loc X.env.scope x)(r:RelV v u)
 (h:∀s',Inv X pins (σ.set i (aa v)) H s'->Q () s')(hf:X.fn x=ac\/X.env.scope.names.lookup x=aa .local:=by first|exact .inl rfl|exact .inr rfl|assumption):aU M A (storeName X.env x u) Q E s:=
 Ee I hN hi hx r (λs' I' _=>h s' I') hf
theorem Inv.aaV(I:Inv X pins σ H s)(ho:s'.os=s.os)(u:Un (Rh X.stack) ch H H' s.heap s'.heap)(f7:uA X.prog X.w H' s'.heap)(hg:CI s'.gens)
 (K6:∀b∈ch,(b∈X.ex\/X.Ej.heap.objs.size<=b)/\b≠X.env.locals/\(∀x c,X.env.cells.lookup x=aa c->c≠b)/\∀p∈X.pn++pins,p.1≠b):Inv X pins σ H' s':=by
 obtain⟨h',g',d',t',o'⟩:=s';have e:o'=s.os:=ho;subst e;exact I.call (g':=g') (t':=t') (d':=d') u f7 hg K6
end
abbrev XK:=ai->Option ao->Hp->Prop
abbrev St:=List (Option V)
abbrev VK:=V->Hp->Prop
abbrev TE:=St->Hp->VK->Prop
abbrev TT:=St->Hp->(Bool->Hp->Prop)->Prop
abbrev TA:=St->Hp->(V2->Hp->Prop)->Prop
structure Ends where
 nx:St->Hp->Prop
 rt:VK
 bk:St->Hp->Prop:=λ_ _=>False
 ct:St->Hp->Prop:=λ_ _=>False
abbrev TS:=Ends->St->Hp->Prop
inductive EP(X:Cx)(pins:List (ao×gt))(σ:St)(Q:VK)(u:ai)(s':aq):Prop
 |mk(v H':_)(_:Inv X pins σ H' s')(_:RelV v u)(_:Q v H')
inductive TP(X:Cx)(pins:List (ao×gt))(σ:St)(Q:Bool->Hp->Prop)(b:Bool)(s':aq):Prop
 |mk(H':_)(_:Inv X pins σ H' s')(_:Q b H')
inductive AP(X:Cx)(pins:List (ao×gt))(σ:St)(Q:V2->Hp->Prop)(us:X9)(s':aq):Prop
 |mk(vs H':_)(_:Inv X pins σ H' s')(_:Vals vs us)(_:Q vs H')
inductive afO(X:Cx)(pins:List (ao×gt))(Q:St->Hp->Prop)(s':aq):Prop
 |mk(jd:St)(H':Hp)(_:Inv X pins jd H' s')(_:Q jd H')
inductive pRt(X:Cx)(pins:List (ao×gt))(Q:VK)(u:ai)(s':aq):Prop
 |mk(v:V)(jd:St)(H':Hp)(_:Inv X pins jd H' s')(_:RelV v u)(_:Q v H')
def SP(X:Cx)(pins:List (ao×gt))(D:Ends)(f:Flow)(s':aq):Prop:=
 match f with
 | .next=>afO X pins D.nx s'
 | .brk=>afO X pins D.bk s'
 | .cont=>afO X pins D.ct s'
 | .ret u=>pRt X pins D.rt u s'
def PE(X:Cx)(e:Expr)(t:TE):Prop:=
 ∀(pins:List (ao×gt))(s:aq)(σ:St)(H:Hp)(Q:VK),Inv X pins σ H s->t σ H Q->aU (bg X.prog X.w) X.A (eval e X.env) (EP X pins σ Q) X.xe s
def PT(X:Cx)(e:Expr)(t:TT):Prop:=
 ∀(pins:List (ao×gt))(s:aq)(σ:St)(H:Hp)(Q:Bool->Hp->Prop),Inv X pins σ H s->t σ H Q->aU (bg X.prog X.w) X.A (isTrue e X.env (eval e X.env)) (TP X pins σ Q) X.xe s
def PW(X:Cx)(e:Expr)(t:TT):Prop:=
 ∀(whole:uX ai)(pins:List (ao×gt))(s:aq)(σ:St)(H:Hp)(Q:Bool->Hp->Prop),Inv X pins σ H s->t σ H Q->aU (bg X.prog X.w) X.A (isTrue e X.env whole) (TP X pins σ Q) X.xe s
theorem PW.pt{X:Cx}(h:PW X e t):PT X e t:=h _
def PA(X:Cx)(es:List Expr)(t:TA):Prop:=
 ∀(pos:ku)(pins:List (ao×gt))(s:aq)(σ:St)(H:Hp)(Q:V2->Hp->Prop),Inv X pins σ H s->t σ H Q->aU (bg X.prog X.w) X.A (Jv (jC pos (bX es X.env))) (AP X pins σ Q) X.xe s
def PS(X:Cx)(st:cG)(t:TS):Prop:=
 ∀(pins:List (ao×gt))(s:aq)(σ:St)(H:Hp)(D:Ends),Inv X pins σ H s->t D σ H->aU (bg X.prog X.w) X.A (exec st X.env) (SP X pins D) X.xe s
def MR(X:Cx)(st:List cG)(t:TS):Prop:=
 ∀(pins:List (ao×gt))(s:aq)(σ:St)(H:Hp)(D:Ends),Inv X pins σ H s->t D σ H->aU (bg X.prog X.w) X.A (execs st X.env) (SP X pins D) X.xe s
theorem ga{α:Type}{t:uX α}{Q Q':α->aq->Prop}{M:JZ}{A:cb}{E:ai->aq->Prop}{s:aq}(h:aU M A t Q E s)(hQ:∀a s,Q a s->Q' a s):aU M A t Q' E s:=f? h hQ λ_ _ x=>x
section
variable{X:Cx}
inductive YX(i:Nat)(σ:St)(H:Hp)(Q:VK):Prop
 |mk(v:_)(_:σ[i]? =aa (aa v))(_:Q v H)
def tC(v:V):TE:=λ_ H Q=>Q v H
theorem WJ(hN:X.N[i]? =aa x)(hv:YK X.env.scope x)(hd:(x==("__debug__":bV))=ae:=by decide)(Su:(x==("__classdict__":bV))=ae:=by decide):PE X (.Name x pos) (YX i):=by
 intros;obtain⟨v,e,h⟩:=h;obtain⟨m,hn,hl⟩:=I.loc;obtain⟨u,r,l⟩:=hl i x v hN e hv;have fin:EP X pins σ Q u s:=⟨v,H,I,r,h⟩;rcases l with⟨hk,hm⟩|⟨hk,c,hc,Mt⟩
 ·exact VZ (Sz I.ok.kind hk hn hm fin) hd
 ·rcases hk with hk|hk
  ·exact VZ (UZ I.ok.kind hk hc Mt fin) hd
  ·exact VZ (wpAny_loadName_free I.ok.kind hk hc Mt fin Su) hd
theorem aN {i j pos}:PE X (.Constant (.int i) j pos) (tC (.int i)):=λ_ _ _ H _ I h=>wpAny_Constant_int ⟨.int i,H,I.tok _,⟨_,rfl⟩,h⟩
theorem t7 {b j pos}:PE X (.Constant (.bool b) j pos) (tC (.bl b)):=λ_ _ _ H _ I h=>Constant_bool ⟨.bl b,H,I,rfl,h⟩
theorem ou {j pos}:PE X (.Constant .none j pos) (tC .iy):=λ_ _ _ H _ I h=>Constant_none ⟨.iy,H,I,rfl,h⟩
theorem kX {x j pos}:PE X (.Constant (.str x) j pos) (tC (.str x)):=λ_ _ _ H _ I h=>Calls.Constant_str ⟨.str x,H,I.tok _,⟨_,rfl⟩,h⟩
def Gl(X:Cx)(x:bV):Prop:=X.env.kindOf x=aa .globalImplicit
theorem Aj(I:Inv X pins σ H s)(hg:Gl X x)(hm:X.mg x=aa u)(h:Q u s)
 (hd:(x==("__debug__":bV))=ae:=by decide):aU (bg X.prog X.w) X.A (eval (.Name x pos) X.env) Q E s:=
 CG I.ok.kind hg (Calls.loadGlobal_global (by rw[I.ok.glob];exact I.mod.glob.keeps I.bk) hm h) hd
theorem nk(I:Inv X pins σ H s)(hg:Gl X x)(hm:X.mg x=ab)(hv:g_ x=aa u)(h:Q u s)
 (hn:x≠"__name__":=by decide)(hd:(x==("__debug__":bV))=ae:=by decide):aU (bg X.prog X.w) X.A (eval (.Name x pos) X.env) Q E s:=by
 obtain⟨mb,h1,h2⟩:=I.mod.blt;exact CG I.ok.kind hg (Calls.loadGlobal_builtin (by rw[I.ok.glob];exact I.mod.glob.keeps I.bk) hm (by rw[I.ok.blt];exact h1.keeps I.bk) ((h2 x hn).trans hv) h) hd
theorem LZ(hg:Gl X x)(hm:X.mg x=aa u)(r:RelV v u)(hd:(x==("__debug__":bV))=ae:=by decide):PE X (.Name x pos) (tC v):=
 λ_ _ _ H _ I h=>Aj I hg hm ⟨v,H,I,r,h⟩ hd
variable{a b:Expr}{ta tb:TE}{pos:ku}
def PC(X:Cx)(op:OD)(a b:Expr)(t:TE):Prop:=
 ∀(pins:List (ao×gt))(s:aq)(σ:St)(H:Hp)(Q:VK),Inv X pins σ H s->t σ H Q->
  aU (bg X.prog X.w) X.A (eval a X.env) (λv fX=>aU (bg X.prog X.w) X.A (eval b X.env) (λu n? =>aU (bg X.prog X.w) X.A (d? op v u) (EP X pins σ Q) X.xe n?) X.xe fX) X.xe s
inductive afK(Q:Bool->Hp->Prop)(x:V)(H1:Hp):Prop
 |mk(c:_)(_:x= .bl c)(_:Q c H1)
def tB(t:TE):TT:=λσ H Q=>t σ H (afK Q)
theorem Qa(h:PC X op a b t)(h1:oK op b=ae:=by first|exact Qj _ (by decide) (by decide)|rfl):PE X (.Compare a [op] [b] pos) t:=λpins s σ H Q I hw=>wpAny_Compare1 (h pins s σ H Q I hw) h1
theorem yn(h:PC X op a b t)(h1:oK op b=ae:=by first|exact Qj _ (by decide) (by decide)|rfl):PT X (.Compare a [op] [b] pos) (tB t):=by
 intro pins s σ H Q I hw;refine R6 (ga (h pins s σ H _ I hw) λv s1 h1=>ga h1 λu s2 h2=>ga h2 λc s3 ⟨x,H1,I1,r1,q1⟩=>?_) h1;obtain⟨d,rfl,q⟩:=q1
 cases r1;exact eL ⟨H1,I1,q⟩
theorem hJ(h:PE X e t)(he:∀whole,isTrue e X.env whole=(do let v<-whole;standAt e.pos;Jx [v] (truthy v)):=by intro _;rfl):PT X e (tB t):=by
 intro pins s σ H Q I hw;refine isTrue_plain (ga (h pins s σ H _ I hw) λv s1 ⟨x,H1,I1,r1,q1⟩=>?_) (he _);obtain⟨d,rfl,q⟩:=q1
 cases r1;exact eL ⟨H1,I1,q⟩
variable{tA abl:TT}{rest:List Expr}
def acr(t u:TT):TT:=λσ H Q=>t σ H λc H1=>if c=ac then u σ H1 Q else Q ae H1
def aeV(t u:TT):TT:=λσ H Q=>t σ H λc H1=>if c=ac then Q ac H1 else u σ H1 Q
def ack(t:TT):TT:=λσ H Q=>t σ H λc H1=>Q (!c) H1
theorem uJ(ha:PT X a tA):PW X (.BoolOp .And [a] pos) tA:=by
 intro wh pins s σ H Q I h;refine isTrue_and (ga (ha pins s σ H Q I h) λc s1 e=>?_)
 cases c with
 |true=>exact isTrue_and_nil e
 |false=>exact e
theorem FP(ha:PT X a tA):PW X (.BoolOp .Or [a] pos) tA:=by
 intro wh pins s σ H Q I h;refine isTrue_or (ga (ha pins s σ H Q I h) λc s1 e=>?_)
 cases c with
 |false=>exact isTrue_or_nil e
 |true=>exact e
theorem ym(ha:PT X a tA)(hb:PW X (.BoolOp .And (b::rest) pos) abl):PW X (.BoolOp .And (a::b::rest) pos) (acr tA abl):=by
 intro wh pins s σ H Q I h;refine isTrue_and (ga (ha pins s σ H _ I h) λc s1 ⟨H1,I1,q1⟩=>?_)
 cases c with
 |true=>exact hb wh pins s1 σ H1 Q I1 q1
 |false=>exact⟨H1,I1,q1⟩
theorem LS(ha:PT X a tA)(hb:PW X (.BoolOp .Or (b::rest) pos) abl):PW X (.BoolOp .Or (a::b::rest) pos) (aeV tA abl):=by
 intro wh pins s σ H Q I h;refine isTrue_or (ga (ha pins s σ H _ I h) λc s1 ⟨H1,I1,q1⟩=>?_)
 cases c with
 |true=>exact⟨H1,I1,q1⟩
 |false=>exact hb wh pins s1 σ H1 Q I1 q1
theorem oo(ha:PT X a tA):PT X (.UnaryOp .Not a pos) (ack tA):=by
 intros;exact isTrue_not (ga (ha pins s σ H (λc H1=>Q (!c) H1) I h) λ_ _ ⟨a,b,c⟩=>⟨a,b,c⟩)
inductive afq(tb:TE)(σ:St)(Q:VK)(x:V)(H1:Hp):Prop
 |mk(c:_)(_:x= .bl c)(_:if c=ac then tb σ H1 Q else Q (.bl ae) H1)
def Y9(ta tb:TE):TE:=λσ H Q=>ta σ H (afq tb σ Q)
inductive afx(tb:TE)(σ:St)(Q:VK)(x:V)(H1:Hp):Prop
 |mk(c:_)(_:x= .bl c)(_:if c=ac then Q (.bl ac) H1 else tb σ H1 Q)
def acj(ta tb:TE):TE:=λσ H Q=>ta σ H (afx tb σ Q)
theorem yo {op}  (h:PE X a t):PE X (.BoolOp op [a] pos) t:=λpins s σ H Q I hw=>BoolOp_one (h pins s σ H Q I hw)
theorem Bb(ha:PE X a ta)(hb:PE X (.BoolOp .And (b::rest) pos) tb):PE X (.BoolOp .And (a::b::rest) pos) (Y9 ta tb):=by
 intros;refine BoolOp_and (ga (ha pins s σ H _ I h) λv s1 ⟨x,H1,I1,r1,q1⟩=>?_);obtain⟨c,rfl,q1⟩:=q1
 cases r1;refine eL ?_
 cases c with
 |true=>exact hb pins s1 σ H1 Q I1 q1
 |false=>exact⟨.bl ae,H1,I1,Z,q1⟩
theorem Zp(ha:PE X a ta)(hb:PE X (.BoolOp .Or (b::rest) pos) tb):PE X (.BoolOp .Or (a::b::rest) pos) (acj ta tb):=by
 intros;refine BoolOp_or (ga (ha pins s σ H _ I h) λv s1 ⟨x,H1,I1,r1,q1⟩=>?_);obtain⟨c,rfl,q1⟩:=q1
 cases r1;refine eL ?_
 cases c with
 |false=>exact hb pins s1 σ H1 Q I1 q1
 |true=>exact⟨.bl ac,H1,I1,Z,q1⟩
def aeX(t:TT)(ta tb:TE):TE:=λσ H Q=>t σ H λc H1=>if c=ac then ta σ H1 Q else tb σ H1 Q
theorem xa(hc:PT X c tA)(ha:PE X a ta)(hb:PE X b tb):PE X (.IfExp c a b pos) (aeX tA ta tb):=by
 intros;refine wpAny_IfExp (ga (hc pins s σ H _ I h) λd s1 ⟨H1,I1,q1⟩=>?_)
 cases d with
 |true=>exact ha pins s1 σ H1 Q I1 q1
 |false=>exact hb pins s1 σ H1 Q I1 q1
end
def bQ(K:aj)(H:Hp)(a:ao)(xs:V2):Prop:=
 Rd H a (.lst xs)\/
  ∃(o:gt)(its:Array ai)(n:Nat),K.lookup a=aa o/\o.cls= .type "list"/\o.dict=ab/\o.data= .seq its n/\its.size<=aE/\Vals xs its.toList
def tE(K:aj)(H:Hp)(a:ao)(xs:V2):Prop:=
 Rd H a (.tup xs)\/
  ∃(o:gt)(its:Array ai)(n:Nat),K.lookup a=aa o/\o.cls= .type "tuple"/\o.data= .seq its n/\its.size<=aE/\Vals xs its.toList
def Lo:ai->Option V
 | .none=>aa .iy
 | .bool b=>aa (.bl b)
 | .int i _=>aa (.int i)
 | .str x _=>aa (.str x)
 | .bytes b _=>aa (.JP b)
 | .float b _=>aa (.ab2 b)
 | .ref a=>aa (.ref a)
 | .type n=>aa (.ty n)
 |_=>ab
theorem RelV.abs(r:RelV x u):Lo u=aa x:=by
 cases x with
 |iy=>cases r;rfl
 |bl _=>cases r;rfl
 |int _=>obtain⟨t,rfl⟩:=r;rfl
 |str _=>obtain⟨t,rfl⟩:=r;rfl
 |JP _=>obtain⟨t,rfl⟩:=r;rfl
 |ab2 _=>obtain⟨t,rfl⟩:=r;rfl
 |ref _=>cases r;rfl
 |ty _=>cases r;rfl
theorem RelV.inj(r:RelV x u)(q:RelV y u):x=y:=bN (r.abs.symm.trans q.abs)
theorem Vals.inj:∀{xs ys:V2}{us:X9},Vals xs us->Vals ys us->xs=ys
 |_,_,_,.nil,.nil=>rfl
 |_,_,_,.cons r t,.cons r' t'=>by rw[r.inj r',Vals.inj t t']
section
variable{X:Cx}{pins:List (ao×gt)}{σ:St}{H:Hp}{s:aq}{a:ao}{xs ys:V2}
theorem bQ.of{K:aj}(h:H a=aa (.lst xs)):bQ K H a xs:=.inl (.inl h)
theorem Inv.list(I:Inv X pins σ H s)(h:bQ X.K H a xs):∃its:X9,Vals xs its/\PlainL s.heap a its.toArray/\xs.length<=aE:=by
 rcases h with h|⟨o,its,n,hk,hc,hd,hs,hz,r⟩
 ·obtain⟨z,its,n,r,e⟩:=h.ok I.f7;exact⟨its,r,⟨_,n,e,Z,Z,Z⟩,z⟩
 ·refine⟨its.toList,r,⟨o,n,I.IE a o hk,hc,hd,by simpa using hs⟩,?_⟩;have e:=r.length;simp only[bE]at e;lia
theorem Inv.tuple(I:Inv X pins σ H s)(h:tE X.K H a xs):∃its:X9,Vals xs its/\x8 s.heap a its.toArray/\xs.length<=aE:=by
 rcases h with h|⟨o,its,n,hk,hc,hs,hz,r⟩
 ·obtain⟨z,its,r,p⟩:=h.ok I.f7;exact⟨its,r,p,z⟩
 ·refine⟨its.toList,r,⟨o,I.IE a o hk,hc,n,by simpa using hs⟩,?_⟩;have e:=r.length;simp only[bE]at e;lia
theorem Inv.Iz(I:Inv X pins σ H s)(h:bQ X.K H a xs)(h':bQ X.K H a ys):xs=ys:=by
 obtain⟨its,r,⟨o,n,e,_,_,d⟩,_⟩:=I.list h;obtain⟨its',r',⟨o',n',e',_,_,d'⟩,_⟩:=I.list h';rw[e]at e';cases e';rw[d]at d';injection d' with d1 _
 have:its=its':=by simpa using congrArg Hf d1
 subst this;exact r.inj r'
theorem Inv.Nk(I:Inv X pins σ H s)(h:tE X.K H a xs)(h':tE X.K H a ys):xs=ys:=by
 obtain⟨its,r,⟨o,e,_,n,d⟩,_⟩:=I.tuple h;obtain⟨its',r',⟨o',e',_,n',d'⟩,_⟩:=I.tuple h';rw[e]at e';cases e';rw[d]at d';injection d' with d1 _
 have:its=its':=by simpa using congrArg Hf d1
 subst this;exact r.inj r'
end
abbrev Cx.CK(X:Cx)(E:ai->aq->Prop):Cx:={X with xe:=E}
abbrev Cx.Zs(X:Cx):Cx:=X.CK λ_ _=>False
theorem Cx.Ok.CK{X:Cx}(ok:X.Ok)(E:ai->aq->Prop):(X.CK E).Ok:=
 ⟨ok.mod,ok.kind,ok.glob,ok.blt,ok.above,ok.inj,ok.has,ok.aaW,ok.hd,ok.frames,ok.abm,ok.ab3,ok.bs,ok.UN,ok.Qi,ok.Rv,ok.zR,ok.XB⟩
theorem Cx.Ok.tO{X:Cx}(ok:(X.CK E).Ok):X.Ok:=
 ⟨ok.mod,ok.kind,ok.glob,ok.blt,ok.above,ok.inj,ok.has,ok.aaW,ok.hd,ok.frames,ok.abm,ok.ab3,ok.bs,ok.UN,ok.Qi,ok.Rv,ok.zR,ok.XB⟩
section
variable{X:Cx}{pins:List (ao×gt)}{σ:St}{H:Hp}{s:aq}{E:ai->aq->Prop}
theorem Inv.CK(I:Inv X pins σ H s)(E:ai->aq->Prop):Inv (X.CK E) pins σ H s:=⟨I.ok.CK E,I.os,I.bare,I.base,I.loc,I.cell,I.free,I.pF,I.pin,I.f7,I.len⟩
theorem Inv.tO(I:Inv (X.CK E) pins σ H s):Inv X pins σ H s:=⟨I.ok.tO,I.os,I.bare,I.base,I.loc,I.cell,I.free,I.pF,I.pin,I.f7,I.len⟩
theorem SP.tO(h:SP (X.CK E) pins D f s'):SP X pins D f s':=by
 cases f with
 |next=>obtain⟨jd,H',I,q⟩:=h;exact⟨jd,H',I.tO,q⟩
 |brk=>obtain⟨jd,H',I,q⟩:=h;exact⟨jd,H',I.tO,q⟩
 |cont=>obtain⟨jd,H',I,q⟩:=h;exact⟨jd,H',I.tO,q⟩
 |ret u=>obtain⟨v,jd,H',I,r,q⟩:=h;exact⟨v,jd,H',I.tO,r,q⟩
theorem MR.Zs{st:List cG}(h:MR X.Zs st t):MR X st t:=λpins s σ H D I hw=>
 f? (h pins s σ H D (I.CK _) hw) (λ_ _ q=>q.tO) λ_ _ z=>dW z
end
section
variable{X:Cx}{st:cG}{rest:List cG}{t u:TS}{e:Expr}{te:TE}{pos:ku}
def Y0:TS:=λD σ H=>D.nx σ H
def ach(t u:TS):TS:=λD σ H=>t {D with nx:=u D} σ H
theorem bS:MR X [] Y0:=λ_ _ σ H _ I h=>wn ⟨σ,H,I,h⟩
theorem ap(h1:PS X st t)(h2:MR X rest u):MR X (st::rest) (ach t u):=by
 intro pins s σ H D I h;refine wpAny_execs_cons (ga (h1 pins s σ H {D with nx:=u D} I h) λf s1 q=>?_)
 cases f with
 |next=>
  obtain⟨jd,H',I',q⟩:=q;exact h2 pins s1 jd H' D I' q
 |ret v=>exact q
 |brk=>exact q
 |cont=>exact q
theorem aH(h1:PS X st t):MR X [st] t:=by
 intro pins s σ H D I h;refine wpAny_execs_cons (ga (h1 pins s σ H D I h) λf s1 q=>?_)
 cases f with
 |next=>exact wn q
 |ret v=>exact q
 |brk=>exact q
 |cont=>exact q
def Wr:TS:=λD σ H=>D.bk σ H
theorem P6:PS X (.Break pos) Wr:=λ_ _ σ H _ I h=>wpAny_Break ⟨σ,H,I,h⟩
theorem Inv.quiet(I:Inv X pins σ H s):interactive X.env=ae:=by simp[interactive,I.ok.kind]
def Y6(te:TE):TS:=λD σ H=>te σ H λ_ H1=>D.nx σ H1
theorem cv(he:PE X e te)(hs:E4 e ab pos.line X.env=pure ae:=by rfl):PS X (.Expr e pos) (Y6 te):=by
 intro pins s σ H D I h;exact wpAny_Expr_any (ga (he pins s σ H _ I h) λv s1 ⟨x,H1,I1,r1,q1⟩=>⟨σ,H1,I1,q1⟩) I.quiet hs
def aci(te:TE):TS:=λD σ H=>te σ H D.rt
theorem bo(he:PE X e te):PS X (.Return (aa e) pos) (aci te):=by
 intro pins s σ H D I h;exact wpAny_Return_some (ga (he pins s σ H _ I h) λv s1 ⟨x,H1,I1,r1,q1⟩=>⟨x,σ,H1,I1,r1,q1⟩)
def YY:TS:=λD _ H=>D.rt .iy H
theorem Tx:PS X (.Return ab pos) YY:=λ_ _ σ H _ I h=>wpAny_Return_none ⟨.iy,σ,H,I,rfl,h⟩
def acm(c:TT)(t u:TS):TS:=λD σ H=>c σ H λb H1=>if b=ac then t D σ H1 else u D σ H1
theorem de(hc:PT X c tc)(ha:MR X a t)(hb:MR X b u):PS X (.If c a b pos) (acm tc t u):=by
 intro pins s σ H D I h;refine wpAny_If (ga (hc pins s σ H _ I h) λd s1 ⟨H1,I1,q1⟩=>?_)
 cases d with
 |true=>exact ha pins s1 σ H1 D I1 q1
 |false=>exact hb pins s1 σ H1 D I1 q1
end
abbrev TG:=V->St->Hp->(St->Hp->Prop)->Prop
abbrev VX:=V2->St->Hp->(St->Hp->Prop)->Prop
def PG(X:Cx)(x?:Expr)(t:TG):Prop:=
 ∀(pins:List (ao×gt))(s:aq)(σ:St)(H:Hp)(v:V)(u:ai)(Q:St->Hp->Prop),Inv X pins σ H s->RelV v u->t v σ H Q->
  aU (bg X.prog X.w) X.A (V4 x? X.env u) (λ_ s'=>afO X pins Q s') X.xe s
def aa5(X:Cx)(ts:List Expr)(t:VX):Prop:=
 ∀(pins:List (ao×gt))(s:aq)(σ:St)(H:Hp)(vs:V2)(us:X9)(Q:St->Hp->Prop),Inv X pins σ H s->Vals vs us->t vs σ H Q->
  aU (bg X.prog X.w) X.A (assignInOrder ((rj ts X.env).map (·.2)) us) (λ_ s'=>afO X pins Q s') X.xe s
abbrev ab_:=V->V->Hp->VK->Prop
def aeM(X:Cx)(op:JY)(t:ab_):Prop:=
 ∀(pins:List (ao×gt))(s:aq)(σ:St)(H:Hp)(x y:V)(v u:ai)(Q:VK),Inv X pins σ H s->RelV x v->RelV y u->t x y H Q->
  aU (bg X.prog X.w) X.A (inplaceOp op v u) (EP X pins σ Q) X.xe s
section
variable{X:Cx}{pos:ku}
def Mx(i:Nat):TG:=λv σ H Q=>Q (σ.set i (aa v)) H
theorem cJ(hN:X.N.Nodup)(hi:X.N[i]? =aa x)(hx:Loc X.env.scope x)(hf:X.fn x=ac\/X.env.scope.names.lookup x=aa .local:=by first|exact .inl rfl|exact .inr rfl|assumption):PG X (.Name x pos) (Mx i):=by
 intro pins s σ H v u Q I r h;exact wpAny_assign_Name (AG I hN hi hx r (λs' I'=>⟨_,H,I',h⟩) hf)
inductive aeh(vs:V2)(σ:St)(H:Hp)(Q:St->Hp->Prop):Prop
 |mk(_:vs=[])(_:Q σ H)
inductive aaK(t:TG)(u:VX)(vs:V2)(σ:St)(H:Hp)(Q:St->Hp->Prop):Prop
 |mk(v r:_)(_:vs=v::r)(_:t v σ H λjd H'=>u r jd H' Q)
theorem LW:aa5 X [] aeh:=by
 intro pins s σ H vs us Q I r h;obtain⟨e,h⟩:=h;subst e
 cases r;exact assignInOrder_nil ⟨σ,H,I,h⟩
theorem w_(h1:PG X e t)(h2:aa5 X es u)
 (hs:(rj (e::es) X.env).map (·.2)=V4 e X.env::(rj es X.env).map (·.2):=by rfl):aa5 X (e::es) (aaK t u):=by
 intro pins s σ H vs us Q I r h;obtain⟨v,vr,e1,h⟩:=h;subst e1
 cases r with
 |cons r rr=>
  rw[hs];refine assignInOrder_cons (ga (h1 pins s σ H _ _ _ I r h) λ_ s1 ⟨XX,H1,I1,q1⟩=>?_);exact h2 pins s1 XX H1 _ _ Q I1 rr q1
inductive aaJ(K:aj)(n:Nat)(t:VX)(v:V)(σ:St)(H:Hp)(Q:St->Hp->Prop):Prop
 |mk(a xs:_)(_:v= .ref a)(_:tE K H a xs)(_:xs.length=n)(_:t xs σ H Q)
theorem P8(hc:X.calm=ac)(h:aa5 X es t)
 (hn:(rj es X.env).length=n:=by rfl)(uQ:(rj es X.env).findIdx? (·.1)=ab:=by rfl):PG X (.Tuple es k pos) (aaJ X.K n t):=by
 intro pins s σ H v u Q I r hw;obtain⟨a,xs,e1,hq,hl,hw⟩:=hw;subst e1
 cases r;obtain⟨its,rv,ht,hz⟩:=I.tuple hq;refine assign_Tuple_tuple (I.ok.hd hc) ht (by simp[hn,<-hl,rv.length]) uQ λh' hx=>?_;have I1:Inv X pins σ H {s with heap:=h'}:=I.kept (t':=s.toks) λb o e=>hx b o (bL (aW e)) e;exact h pins _ σ H xs _ Q I1 (by simpa using rv) hw
def Y8(te:TE)(g:TG):TS:=λD σ H=>te σ H λx H1=>g x σ H1 D.nx
theorem bM(hN:X.N.Nodup)(he:PE X e te)(hi:X.N[i]? =aa x:=by exact rfl)(hx:Loc X.env.scope x:=by exact .inl rfl)(hs:E4 e (aa (.Name x zG)) pos.line X.env=pure ae:=by rfl)(hf:X.fn x=ac\/X.env.scope.names.lookup x=aa .local:=by first|exact .inl rfl|exact .inr rfl|assumption):
  PS X (.Assign [.Name x zG] e pos) (Y8 te (Mx i)):=by
 intro pins s σ H D I h;refine wpAny_Assign_Name (ga (he pins s σ H _ I h) λv s1 ⟨y,H1,I1,r1,q1⟩=>?_) hs;exact AG I1 hN hi hx r1 (λs2 I2=>⟨_,H1,I2,q1⟩) hf
inductive acq(i:Nat)(te:TE)(ti:ab_)(D:Ends)(σ:St)(H:Hp):Prop
 |mk(x:_)(_:σ[i]? =aa (aa x))(_:te σ H λy H1=>ti x y H1 λz H2=>D.nx (σ.set i (aa z)) H2)
theorem WF(hN:X.N.Nodup)(hi:X.N[i]? =aa x)(hx:Loc X.env.scope x)(he:PE X e te)(ho:aeM X op ti)(hf:X.fn x=ac\/X.env.scope.names.lookup x=aa .local:=by first|exact .inl rfl|exact .inr rfl|assumption):
  PS X (.AugAssign (.Name x zG) op e pos) (acq i te ti):=by
 intro pins s σ H D I h;obtain⟨v,e1,h⟩:=h;obtain⟨m,hn,hl⟩:=I.loc;have vis:YK X.env.scope x:=by rcases hx with k|k;exact .inl k;exact .inr (.inl k)
 obtain⟨u,r,l⟩:=hl i x v hi e1 vis;refine wpAny_AugAssign_Name ?_;have go:aU (bg X.prog X.w) X.A (eval e X.env) (λw n? =>aU (bg X.prog X.w) X.A (inplaceOp op u w) (λr Ho=>aU (bg X.prog X.w) X.A (storeName X.env x r) (λ_=>SP X pins D .next) X.xe Ho) X.xe n?) X.xe s:=by
  refine ga (he pins s σ H _ I h) λw s1 ⟨y,H1,I1,r1,q1⟩=>?_;refine ga (ho pins s1 σ H1 v y u w _ I1 r r1 q1) λz s2 ⟨zv,H2,I2,r2,q2⟩=>?_;exact AG I2 hN hi hx r2 (λs3 I3=>⟨_,H2,I3,q2⟩) hf
 rcases l with⟨hk,hm⟩|⟨hk,c,hc,Mt⟩
 ·exact Sz I.ok.kind hk hn hm go
 ·rcases hk with hk|hk
  ·exact UZ I.ok.kind hk hc Mt go
  ·rcases hx with k|k
   ·have:X.env.scope.names.lookup x=aa .free:=hk;rw[k]at this;cases this
   ·have:X.env.scope.names.lookup x=aa .free:=hk;rw[k]at this;cases this
inductive ae3(f:Int->Int->Int)(x y:V)(H:Hp)(Q:VK):Prop
 |mk(i j:_)(_:x= .int i)(_:y= .int j)(_:Q (.int (f i j)) H)
theorem W6:aeM X .Add (ae3 λi j=>i+j):=by
 intro pins s σ H x y v u Q I r1 r2 h;obtain⟨i,j,e1,e2,q⟩:=h;subst e1;subst e2;obtain⟨t,rfl⟩:=r1;obtain⟨t',rfl⟩:=r2;exact iadd_int ⟨.int _,H,I.tok _,⟨_,Z⟩,q⟩
end
section
variable{X:Cx}{pos:ku}
inductive ae_(tb:TS)(D:Ends)(W:Nat->St->Hp->Prop)(m:Nat)(σ:St)(H1:Hp):Prop
 |mk(N:St->Hp->Prop)(_:∀jd H',N jd H'->∃m',m'<m/\W m' jd H')(_:tb {D with nx:=N,ct:=N,bk:=D.nx} σ H1)
inductive Wi(c:TT)(tb:TS)(D:Ends)(σ:St)(H:Hp):Prop
 |mk(W:Nat->St->Hp->Prop)(_:∃m,W m σ H)(_:∀m σ H,W m σ H->c σ H λb H1=>if b=ac then ae_ tb D W m σ H1 else D.nx σ H1)
theorem qy(hp:PassesOwn (bg X.prog X.w) X.A X.env X.xe)(hc:PT X c tc)(hb:MR X body tb):PS X (.While c body [] pos) (Wi tc tb):=by
 intro pins s σ H D I h;obtain⟨W,⟨m0,w0⟩,Ka⟩:=h;refine wpAny_While (codeAny_whileLoop (λn s'=>∃jd H',Inv X pins jd H' s'/\W n jd H') ?_ m0 ⟨σ,H,I,w0⟩);rintro n s1 ⟨XX,H1,I1,w1⟩;refine jR hp (ga (hc pins s1 XX H1 _ I1 (Ka n XX H1 w1)) λb s2 ⟨H2,I2,q2⟩=>?_)
 cases b with
 |true=>
  obtain⟨N,hN,q2⟩:=q2;rw[aC Z];refine jR hp (ga (hb pins s2 XX H2 _ I2 q2) λf s3 q3=>?_)
  cases f with
  |next=>
   obtain⟨Pc,H3,I3,n3⟩:=q3;obtain⟨m',hm,w3⟩:=hN Pc H3 n3;exact⟨m',hm,Pc,H3,I3,w3⟩
  |cont=>
   obtain⟨Pc,H3,I3,n3⟩:=q3;obtain⟨m',hm,w3⟩:=hN Pc H3 n3;exact⟨m',hm,Pc,H3,I3,w3⟩
  |brk=>exact q3
  |ret v=>exact q3
 |false=>
  rw[aw bf];exact wn ⟨XX,H2,I2,q2⟩
end
structure It where
 go:Nat->Hp->Prop
 CJ:Nat->Hp->V->Hp->Prop
 stop:Nat->Hp->Prop
def zT(X:Cx)(pins:List (ao×gt))(H:Hp)(b:ao):Prop:=
 H b=ab/\b≠X.env.locals/\b∉X.fs/\(b∈X.ex\/X.Ej.heap.objs.size<=b)/\(∀x c,X.env.cells.lookup x=aa c->c≠b)/\∀p∈X.pn++pins,p.1≠b
theorem Inv.Rj{X:Cx}(I:Inv X pins σ H s)(hb:s.heap.objs.size<=b)(hn:H' b=ab):zT X pins H' b:=by
 refine⟨hn,iK (bI I.lt hb),I.acS hb,.inr (aB I.sz hb),λx c e z=>?_,λp hp z=>?_⟩
 ·obtain⟨v,q⟩:=I.cell x c e;exact absurd (bI q.lt (by rw[z];exact hb)) (eV _)
 ·exact absurd (bI (aW (I.pin p hp).1) (by rw[z];exact hb)) (eV _)
inductive pYl(X:Cx)(pins:List (ao×gt))(σ:St)(fp:List ao)(Y:V->Hp->Prop)(T:bO->Prop)(u:ai)(s2:aq):Prop
 |mk(x:V)(H':Hp)(_:Inv X pins σ H' s2)(_:RelV x u)(_:Y x H')(_:T s2.heap)(_:∀b∈fp,H' b=ab)
structure Turn(P:ba)(w:World)(K:aj)(tg:Expr)(J:It)(fp:List ao)(it:ao)(tn:Nat->bO->Prop):Prop where
 mem:it∈fp
 obj:∀i h,tn i h->∀b∈fp,∃o,h.get? b=aa o/\∀v,o.data≠.cell v
 keep:∀i h h',tn i h->(∀b∈fp,∀o,h.get? b=aa o->h'.get? b=aa o)->tn i h'
 item:∀(X:Cx),X.prog=P->X.w=w->X.K=K->X.calm=ac->∀(i:Nat)(pins:List (ao×gt))(s:aq)(σ:St)(H:Hp)(E:ai->aq->Prop),Inv X pins σ H s->(∀b∈fp,zT X pins H b)->tn i s.heap->J.go i H->
  aU (bg P w) X.A (j4 (.ref it)) (λr s1=>∃u,r=aa u/\
   aU (bg P w) X.A (wq tg (.ref it) u) (λ_ s2=>pYl X pins σ fp (J.CJ i H) (tn (i+1)) u s2) E s1) E s
 done:∀(X:Cx),X.prog=P->X.w=w->X.K=K->X.calm=ac->∀(i:Nat)(pins:List (ao×gt))(s:aq)(σ:St)(H:Hp)(E:ai->aq->Prop),Inv X pins σ H s->(∀b∈fp,zT X pins H b)->tn i s.heap->J.stop i H->
  aU (bg P w) X.A (j4 (.ref it)) (λr s1=>r=ab/\Inv X pins σ H s1) E s
 self:∀(A:cb)(i:Nat)(s:aq)(Q:ai->aq->Prop)(E:ai->aq->Prop),tn i s.heap->Q (.ref it) s->aU (bg P w) A (E6 (.ref it)) Q E s
abbrev TI:=St->Hp->(It->Hp->Prop)->Prop
inductive aeN(X:Cx)(pins:List (ao×gt))(σ:St)(tg:Expr)(R:It->Hp->Prop)(ac1:ai)(s2:aq):Prop
 |mk(it:ao)(fp:List ao)(tn:Nat->bO->Prop)(J:It)(H':Hp)(_:ac1= .ref it)(_:Inv X pins σ H' s2)(_:Turn X.prog X.w X.K tg J fp it tn)(_:tn 0 s2.heap)(_:(∀b∈fp,zT X pins H' b))(_:R J H')
def PI(X:Cx)(tg iter:Expr)(wi:TI):Prop:=
 ∀(pins:List (ao×gt))(s:aq)(σ:St)(H:Hp)(R:It->Hp->Prop),Inv X pins σ H s->wi σ H R->
  aU (bg X.prog X.w) X.A (eval iter X.env) (λv s1=>aU (bg X.prog X.w) X.A (E6 v) (aeN X pins σ tg R) X.xe s1) X.xe s
theorem Mv(ho:s.heap.get? it=aa o)(hc:o.cls= .type n)(hd:o.data= .fields vs)
 (hn:["enumerate","zip","dict_itemiterator","dict_reverseitemiterator","odict_iterator","itertools.zip_longest","itertools.pairwise"].contains n=ae)(hQ:Q () s):aU M A (wq tg (.ref it) u) Q E s:=by
 unfold wq
 cases tg<;>first
  |exact au hQ
  |(cases u<;>first
    |exact au hQ
    |(refine ag (wpAny_load ho ?_);rw[hc,hd];show aU M A (if(["enumerate","zip","dict_itemiterator","dict_reverseitemiterator","odict_iterator","itertools.zip_longest","itertools.pairwise"].contains n&&vs[0]? ==aa (fS _))=ac then _ else _) Q E s;rw[aw (by intro h;rw[hn,fQ]at h;cases h)];exact au hQ))
def E1(K:aj)(a:ao):It:=
 ⟨λi H=>∃xs x,bQ K H a xs/\xs[i]? =aa x,λi H x H'=>H'=H/\∀xs,bQ K H a xs->xs[i]? =aa x,λi H=>∃xs,bQ K H a xs/\xs.length<=i⟩
theorem Ni{P:ba}{K:aj}(a it:ao):Turn P w K tg (E1 K a) [it] it (λi h=>h.IsListIter it a i)where
 mem:=by simp
 obj:=λi h st b hb=>by
  have e:b=it:=by simpa using hb
  subst e;obtain⟨o,e,c,d⟩:=st;exact⟨o,e,λv z=>by rw[d]at z;cases z⟩
 keep:=λi h h' st k=>st.at λo e=>k it (by simp) o e
 item:=by
  intro X hP hw hK hc i pins s σ H E I hf st hg;subst hP hw hK;obtain⟨xs,x,hq,hx⟩:=hg;obtain⟨its,rv,p,hz⟩:=I.list hq;obtain⟨u,hu,ru⟩:=rv.get hx;obtain⟨f0,f1,f2,f3,f4,f5⟩:=hf it (by simp);refine wpAny_pyNext_list_item st p.isList (x:=u) (by simpa using hu) λh' tR sb=>?_;have I1:Inv X pins σ H {s with heap:=h'}:=I.turned (t':=s.toks) (λb o hb e=>(sb.2 b hb).trans e) f0 f1 f3 f4 f5;obtain⟨o,e,c,d⟩:=id tR;exact⟨u,Z,Mv (s:={s with heap:=h'}) e c d dk ⟨x,H,I1,ru,⟨Z,λys hy=>by rw[I.Iz hy hq];exact hx⟩,tR,λb hb=>(hf b hb).1⟩⟩
 done:=by
  intro X hP hw hK hc i pins s σ H E I hf st hg;subst hP hw hK;obtain⟨xs,hq,hx⟩:=hg;obtain⟨its,rv,p,hz⟩:=I.list hq;obtain⟨f0,f1,f2,f3,f4,f5⟩:=hf it (by simp);have hl:=rv.length;exact wpAny_pyNext_list_end (I.ok.hd hc) st p.isList (by simp;lia) λh' eb=>⟨Z,I.turned (t':=s.toks) (λb o hb e=>eb b o hb e) f0 f1 f3 f4 f5⟩
 self:=λ_ _ _ _ _ st h=>wpAny_pyIter_listiter st h
section
variable{X:Cx}{tg:Expr}
inductive afu(K:aj)(R:It->Hp->Prop)(x:V)(H1:Hp):Prop
 |mk(a:_)(_:x= .ref a)(_:(∃xs,bQ K H1 a xs))(_:R (E1 K a) H1)
def ZF(K:aj)(tl:TE):TI:=λσ H R=>tl σ H (afu K R)
theorem dH(hl:PE X l tl):PI X tg l (ZF X.K tl):=by
 intro pins s σ H R I h;refine ga (hl pins s σ H _ I h) λv s1 ⟨x,H1,I1,r1,q1⟩=>?_;obtain⟨a,e,⟨xs,hq⟩,q⟩:=q1;subst e
 cases r1;obtain⟨its,rv,p,hz⟩:=I1.list hq;refine sS p.isList ?_;refine⟨s1.heap.objs.size,[s1.heap.objs.size],_,_,H1,Z,I1.kept (t':=s1.toks) λb o e=>az _ e,Ni a _,⟨_,aT _ Z,Z,Z⟩,λb hb=>?_,q⟩;have e:b=s1.heap.objs.size:=by simpa using hb
 subst e;exact I1.Rj (aS _) (I1.f7.fresh (aS _))
inductive afA(g:TG)(tb:TS)(D:Ends)(J:It)(W:Nat->Nat->St->Hp->Prop)(i m:Nat)(σ:St)(H:Hp):Prop
 |mk(_:J.go i H)(N:St->Hp->Prop)(_:∀jd H',N jd H'->∃m',m'<m/\W (i+1) m' jd H')(_:∀x H',J.CJ i H x H'->g x σ H' λgh H2=>tb {D with nx:=N,ct:=N,bk:=D.nx} gh H2)
inductive tFor_2(g:TG)(tb:TS)(D:Ends)(σ:St)(J:It)(H1:Hp):Prop
 |mk(W:Nat->Nat->St->Hp->Prop)(_:∃m,W 0 m σ H1)(_:∀i m σ H,W i m σ H->(J.stop i H/\D.nx σ H)\/afA g tb D J W i m σ H)
def acn(wi:TI)(g:TG)(tb:TS):TS:=λD σ H=>wi σ H (tFor_2 g tb D σ)
def vU(fp:List ao)(h:bO):List (ao×gt):=fp.filterMap λb=>(h.get? b).map λo=>(b,o)
theorem v3(hb:b∈fp)(e:h.get? b=aa o):(b,o)∈vU fp h:=xO.mpr ⟨b,hb,by rw[e];rfl⟩
theorem NI(hp:p∈vU fp h):p.1∈fp/\h.get? p.1=aa p.2:=by
 obtain⟨b,hb,e⟩:=xO.mp hp
 cases q:h.get? b with
 |none=>rw[q]at e;cases e
 |some o=>
  rw[q]at e;have e':(b,o)=p:=bN e;subst e';exact⟨hb,q⟩
theorem Inv.pinned(I:Inv X pins σ H s)(hf:∀b∈fp,zT X pins H b)(ho:∀b∈fp,∃o,s.heap.get? b=aa o/\∀v,o.data≠.cell v):Inv X (pins++vU fp s.heap) σ H s:=
 I.LV λp hp=>(df.mp hp).elim (λz=>I.pin p (dR _ z)) λz=>by
  obtain⟨hb,e⟩:=NI z;obtain⟨f0,f1,f2,_⟩:=hf p.1 hb;obtain⟨o,e',d⟩:=ho p.1 hb;rw[e]at e';cases e';exact⟨e,f0,f1,f2,d⟩
theorem Inv.tP(I:Inv X (pins++pl) σ H s):Inv X pins σ H s:=I.LV λp hp=>I.pin p (dR _ (vh _ hp))
theorem jI{iter:Expr}(hp:PassesOwn (bg X.prog X.w) X.A X.env X.xe)(hc:X.calm=ac)(hi:PI X tg iter wi)(hg:PG X tg g)(hb:MR X body tb)
 (hs:∀x,sX iter X.env x=pure x:=by intro _;rfl):PS X (.For tg iter body [] pos) (acn wi g tb):=by
 intro pins s σ H D I h;refine wpAny_For (ga (hi pins s σ H _ I h) λv s1 h1=>ga h1 λac1 s2 h2=>?_) hs;obtain⟨it,fp,tn,J,H2,e,I2,T,abo,f2,W,⟨m0,w0⟩,Ka⟩:=h2;subst e;have Kc:∀{H':Hp},(∀b∈fp,H' b=ab)->∀b∈fp,zT X pins H' b:=λhn b hb=>⟨hn b hb,(f2 b hb).2⟩;refine codeAny_forLoop_any (λn s'=>∃i jd H',Inv X pins jd H' s'/\tn i s'.heap/\(∀b∈fp,H' b=ab)/\W i n jd H') ?_ m0 ⟨0,σ,H2,I2,abo,λb hb=>(f2 b hb).1,w0⟩;rintro n s3 ⟨i,Pc,H3,I3,abn,fr3,w3⟩;rcases Ka i n Pc H3 w3 with⟨stop,qn⟩|⟨go,N,hN,step⟩
 ·refine jR hp (ga (T.done X Z Z Z hc i pins s3 Pc H3 X.xe I3 (Kc fr3) abn stop) λr s4 ⟨hr,I4⟩=>?_);subst hr;exact wn ⟨Pc,H3,I4,qn⟩
 ·refine jR hp (ga (T.item X Z Z Z hc i pins s3 Pc H3 X.xe I3 (Kc fr3) abn go) λr s4 ⟨u,hr,h4⟩=>?_);subst hr;refine jR hp (ga h4 λ_ s5 ⟨x,H5,I5,r5,y5,X6,ab1⟩=>?_);have I5':=I5.pinned (Kc ab1) (T.obj _ _ X6);refine jR hp (ga (hg _ s5 Pc H5 x u _ I5' r5 (step x H5 y5)) λ_ s6 ⟨σ6,H6,I6,q6⟩=>?_);refine jR hp (ga (hb _ s6 σ6 H6 _ I6 q6) λf s7 q7=>?_);have again:∀{Pb:St}{H7:Hp},Inv X (pins++vU fp s5.heap) Pb H7 s7->N Pb H7->∃m,m<n/\∃i jd H',Inv X pins jd H' s7/\tn i s7.heap/\(∀b∈fp,H' b=ab)/\W i m jd H':=λ{Pb H7} I7 n7=>by
   obtain⟨m',hm,w7⟩:=hN Pb H7 n7;refine⟨m',hm,i+1,Pb,H7,I7.tP,T.keep _ _ _ X6 λb hb o e=>(I7.pin (b,o) (dR _ (dR _ (v3 hb e)))).1,λb hb=>?_,w7⟩;obtain⟨o,e,d⟩:=T.obj _ _ X6 b hb;exact(I7.pin (b,o) (dR _ (dR _ (v3 hb e)))).2.1
  cases f with
  |next=>obtain⟨Pb,H7,I7,n7⟩:=q7;exact again I7 n7
  |cont=>obtain⟨Pb,H7,I7,n7⟩:=q7;exact again I7 n7
  |brk=>obtain⟨Pb,H7,I7,q7⟩:=q7;exact⟨Pb,H7,I7.tP,q7⟩
  |ret v=>obtain⟨x7,Pb,H7,I7,r7,q7⟩:=q7;exact⟨x7,Pb,H7,I7.tP,r7,q7⟩
end
theorem ij{K:aj}(Pv:Nat->St->Hp->Prop)(h0:Pv 0 σ H)(hl:∀i σ H,i<=xs.length->Pv i σ H->bQ K H a xs)
 (hs:∀i x σ H,xs[i]? =aa x->Pv i σ H->g x σ H λgh H2=>tb {D with nx:=Pv (i+1),ct:=Pv (i+1),bk:=D.nx} gh H2)(hd:∀σ H,Pv xs.length σ H->D.nx σ H):
  tFor_2 g tb D σ (E1 K a) H:=by
 refine⟨λi m σ H=>m=xs.length - i/\i<=xs.length/\Pv i σ H,⟨xs.length,by simp,gx _,h0⟩,?_⟩;rintro i m σ H ⟨rfl,hi,p⟩;have q:=hl i σ H hi p;by_cases gO:i<xs.length
 ·refine .inr ⟨⟨xs,xs[i],q,by simp[gO]⟩,Pv (i+1),λjd H' p'=>⟨xs.length - (i+1),om,Z,gO,p'⟩,λx H' y=>?_⟩;obtain⟨e,y⟩:=y;subst e;exact hs i x σ _ (y xs q) p
 ·have e:i=xs.length:=om;subst e;exact .inl ⟨⟨xs,q,aS _⟩,hd σ H p⟩
abbrev R2:=V->V->Hp->VK->Prop
def wx(X:Cx)(f:ai->ai->uX ai)(r:R2):Prop:=
 ∀(pins:List (ao×gt))(s:aq)(σ:St)(H:Hp)(x y:V)(v u:ai)(Q:VK),Inv X pins σ H s->RelV x v->RelV y u->r x y H Q->
  aU (bg X.prog X.w) X.A (f v u) (EP X pins σ Q) X.xe s
def aew(X:Cx)(f:ai->uX ai)(r:V->Hp->VK->Prop):Prop:=
 ∀(pins:List (ao×gt))(s:aq)(σ:St)(H:Hp)(x:V)(v:ai)(Q:VK),Inv X pins σ H s->RelV x v->r x H Q->
  aU (bg X.prog X.w) X.A (f v) (EP X pins σ Q) X.xe s
def sF(X:Cx)(f:ai)(r:V2->Hp->VK->Prop):Prop:=
 ∀(pins:List (ao×gt))(s:aq)(σ:St)(H:Hp)(xs:V2)(us:X9)(Q:VK),Inv X pins σ H s->Vals xs us->r xs H Q->
  aU (bg X.prog X.w) X.A (call f us) (EP X pins σ Q) X.xe s
def abj(r:R2)(ta tb:TE):TE:=λσ H Q=>ta σ H λx H1=>tb σ H1 λy H2=>r x y H2 Q
def aeT(r:V->Hp->VK->Prop)(ta:TE):TE:=λσ H Q=>ta σ H λx H1=>r x H1 Q
inductive rI(C:Int->Int->Prop)(g:Int->Int->V)(x y:V)(H:Hp)(Q:VK):Prop
 |mk(i j:_)(_:x= .int i)(_:y= .int j)(_:C i j)(_:Q (g i j) H)
inductive Vr(g:Int->Int->V)(x y:V)(H:Hp)(Q:VK):Prop
 |mk(i j:_)(_:x= .int i)(_:y= .int j)(_:Q (g i j) H)
inductive rU(g:Int->V)(x:V)(H:Hp)(Q:VK):Prop
 |mk(i:_)(_:x= .int i)(_:Q (g i) H)
section
variable{X:Cx}{a b c:Expr}{ta tb tc:TE}{pos:ku}
theorem XO(ha:PE X a ta)(hb:PE X b tb){R:V->V->Hp->Prop}(I:Inv X pins σ H s)
 (h:ta σ H λx H1=>tb σ H1 λy H2=>R x y H2){Q:ai->aq->Prop}{f:ai->ai->uX ai}
 (hf:∀v u s2 x y H2,Inv X pins σ H2 s2->RelV x v->RelV y u->R x y H2->aU (bg X.prog X.w) X.A (f v u) Q X.xe s2):
  aU (bg X.prog X.w) X.A (eval a X.env) (λv fX=>aU (bg X.prog X.w) X.A (eval b X.env) (λu n? =>aU (bg X.prog X.w) X.A (f v u) Q X.xe n?) X.xe fX) X.xe s:=by
 refine ga (ha pins s σ H _ I h) λv s1 ⟨x,H1,I1,r1,q1⟩=>?_;refine ga (hb pins s1 σ H1 _ I1 q1) λu s2 ⟨y,H2,I2,r2,q2⟩=>?_;exact hf v u s2 x y H2 I2 r1 r2 q2
theorem fY(ho:wx X (uV op) r)(ha:PE X a ta)(hb:PE X b tb):PE X (.BinOp a op b pos) (abj r ta tb):=by
 intros;exact wpAny_BinOp (XO ha hb I h λv u s2 x y H2 I2 rx ry q=>ho pins s2 σ H2 x y v u Q I2 rx ry q)
theorem jJ(ho:aew X (unaryOp op) r)(ha:PE X a ta):PE X (.UnaryOp op a pos) (aeT r ta):=by
 intros;exact UnaryOp_ (ga (ha pins s σ H _ I h) λv s1 ⟨x,H1,I1,r1,q1⟩=>ho pins s1 σ H1 x v Q I1 r1 q1)
theorem aeI{f:ai->ai->uX ai}{C:Int->Int->Prop}{g:Int->Int->Int}
 (rule:∀(i j:Int) (t u:qc) (s:aq) (Q:ai->aq->Prop) (E:ai->aq->Prop),C i j->Q (.int (g i j) s.toks) {s with toks:=s.toks+1}->aU (bg X.prog X.w) X.A (f (.int i t) (.int j u)) Q E s):
  wx X f (rI C λi j=>.int (g i j)):=by
 intro pins s σ H x y v u Q I rx ry h;obtain⟨i,j,rfl,rfl,hc,q⟩:=h;obtain⟨t,rfl⟩:=rx;obtain⟨t',rfl⟩:=ry;exact rule i j t t' s _ _ hc ⟨.int (g i j),H,I.tok _,⟨_,Z⟩,q⟩
theorem Zr{f:ai->ai->uX ai}{g:Int->Int->Int}
 (rule:∀(i j:Int) (t u:qc) (s:aq) (Q:ai->aq->Prop) (E:ai->aq->Prop),Q (.int (g i j) s.toks) {s with toks:=s.toks+1}->aU (bg X.prog X.w) X.A (f (.int i t) (.int j u)) Q E s):
  wx X f (Vr λi j=>.int (g i j)):=by
 intro pins s σ H x y v u Q I rx ry h;obtain⟨i,j,rfl,rfl,q⟩:=h;obtain⟨t,rfl⟩:=rx;obtain⟨t',rfl⟩:=ry;exact rule i j t t' s _ _ ⟨.int (g i j),H,I.tok _,⟨_,Z⟩,q⟩
theorem TK{f:ai->ai->uX ai}{g:Int->Int->Bool}
 (rule:∀(i j:Int) (t u:qc) (s:aq) (Q:ai->aq->Prop) (E:ai->aq->Prop),Q (.bool (g i j)) s->aU (bg X.prog X.w) X.A (f (.int i t) (.int j u)) Q E s):
  wx X f (Vr λi j=>.bl (g i j)):=by
 intro pins s σ H x y v u Q I rx ry h;obtain⟨i,j,rfl,rfl,q⟩:=h;obtain⟨t,rfl⟩:=rx;obtain⟨t',rfl⟩:=ry;exact rule i j t t' s _ _ ⟨.bl (g i j),H,I,Z,q⟩
def aeD(i j:Int):Prop:=0<j/\j<1073741824
def XW(i j:Int):Prop:=(-(2 ^ 64)<i/\i<2 ^ 64)\/(-(2 ^ 64)<j/\j<2 ^ 64)
theorem XW.ok(h:XW i j):IntMulOk i j:=by
 rcases h with⟨h1,h2⟩|⟨h1,h2⟩
 ·exact .of_left (intBits_le_64 h1 h2)
 ·exact .of_right (intBits_le_64 h1 h2)
theorem j_:wx X (uV .Add) (Vr λi j=>.int (i+j)):=Zr λ_ _ _ _ _ _ _ q=>add_int q
theorem Kx:wx X (uV .Sub) (Vr λi j=>.int (i - j)):=Zr λ_ _ _ _ _ _ _ q=>sub_int q
theorem FU:wx X (uV .Mult) (rI XW λi j=>.int (i*j)):=aeI λ_ _ _ _ _ _ _ hc q=>mul_int q hc.ok
theorem TJ:wx X (uV .FloorDiv) (rI aeD λi j=>.int (i / j)):=aeI λi j _ _ _ _ _ hc q=>by
 have h1:(0:Int)<j:=hc.1;have h2:j<1073741824:=hc.2;exact floordiv_int om (by rw[Int.fdiv_eq_ediv_of_nonneg i om];exact q) (.inl (Fd om))
theorem aeS{f:ai->uX ai}{g:Int->Int}
 (rule:∀(i:Int) (t:qc) (s:aq) (Q:ai->aq->Prop) (E:ai->aq->Prop),Q (.int (g i) s.toks) {s with toks:=s.toks+1}->aU (bg X.prog X.w) X.A (f (.int i t)) Q E s):
  aew X f (rU λi=>.int (g i)):=by
 intro pins s σ H x v Q I rx h;obtain⟨i,rfl,q⟩:=h;obtain⟨t,rfl⟩:=rx;exact rule i t s _ _ ⟨.int (g i),H,I.tok _,⟨_,Z⟩,q⟩
theorem gU:aew X (unaryOp .USub) (rU λi=>.int (-i)):=aeS λ_ _ _ _ _ q=>neg_int q
end
def Za:V->V->Bool
 | .iy,.iy=>ac| .iy,.int _=>ac| .int _,.iy=>ac| .iy,.bl _=>ac| .bl _,.iy=>ac| .iy,.str _=>ac| .str _,.iy=>ac
 | .int _,.int _=>ac| .bl _,.bl _=>ac| .str _,.str _=>ac| .JP _,.JP _=>ac
 | .int _,.str _=>ac| .str _,.int _=>ac| .bl _,.str _=>ac| .str _,.bl _=>ac
 |_,_=>ae
inductive ae0(x y:V)(H:Hp)(Q:VK):Prop
 |mk(_:Za x y=ac)(_:Q (.bl (decide (x=y))) H)
inductive aeZ(x y:V)(H:Hp)(Q:VK):Prop
 |mk(_:Za x y=ac)(_:Q (.bl (!decide (x=y))) H)
theorem pJ :decide (V.int i=V.int j)=(i==j):=by
 rw[iC];simp
theorem RE :decide (V.bl i=V.bl j)=(i==j):=by
 rw[iC];simp
theorem MI :decide (V.str i=V.str j)=(i==j):=by
 rw[iC];simp
theorem MJ :decide (V.JP i=V.JP j)=(i.toList==j.toList):=by
 rw[iC]
 cases i
 cases j;simp
section
variable{X:Cx}{a b c:Expr}{ta tb tc:TE}{pos:ku}
theorem e_(I:Inv X pins σ H s)(q:Q (.bl k) H)(e:k=k'):EP X pins σ Q (.bool k') s:=by
 subst e;exact⟨.bl k,H,I,Z,q⟩
theorem fZ:wx X (d? .Eq) ae0:=by
 intro pins s σ H x y v u Q I rx ry h;obtain⟨hs,q⟩:=h
 cases x with
 |iy=>
  cases rx
  cases y with
  |iy=>cases ry;exact PySem.EqNone.eq_none_none (e_ I q (by simp))
  |bl j=>cases ry;exact PySem.EqNone.eq_none_bool (e_ I q (by simp))
  |int j=>obtain⟨t',rfl⟩:=ry;exact PySem.EqNone.eq_none_int (e_ I q (by simp))
  |str j=>obtain⟨t',rfl⟩:=ry;exact PySem.EqNone.eq_none_str (e_ I q (by simp))
  |_=>exact absurd (show ae=ac from hs) bf
 |bl i=>
  cases rx
  cases y with
  |iy=>cases ry;exact PySem.EqNone.eq_bool_none (e_ I q (by simp))
  |bl j=>cases ry;exact eq_bool (e_ I q RE)
  |str j=>obtain⟨t',rfl⟩:=ry;exact PySem.EqMixed.eq_bool_str (e_ I q (by simp))
  |_=>exact absurd (show ae=ac from hs) bf
 |int i=>
  obtain⟨t,rfl⟩:=rx
  cases y with
  |iy=>cases ry;exact PySem.EqNone.eq_int_none (e_ I q (by simp))
  |int j=>obtain⟨t',rfl⟩:=ry;exact eq_int (e_ I q pJ)
  |str j=>obtain⟨t',rfl⟩:=ry;exact PySem.EqMixed.eq_int_str (e_ I q (by simp))
  |_=>exact absurd (show ae=ac from hs) bf
 |str i=>
  obtain⟨t,rfl⟩:=rx
  cases y with
  |iy=>cases ry;exact PySem.EqNone.eq_str_none (e_ I q (by simp))
  |bl j=>cases ry;exact PySem.EqMixed.eq_str_bool (e_ I q (by simp))
  |int j=>obtain⟨t',rfl⟩:=ry;exact PySem.EqMixed.eq_str_int (e_ I q (by simp))
  |str j=>obtain⟨t',rfl⟩:=ry;exact eq_str (e_ I q MI)
  |_=>exact absurd (show ae=ac from hs) bf
 |JP i=>
  obtain⟨t,rfl⟩:=rx
  cases y with
  |JP j=>obtain⟨t',rfl⟩:=ry;exact PySem.W.eq_bytes (e_ I q MJ)
  |_=>exact absurd (show ae=ac from hs) bf
 |_=>cases y<;>exact absurd (show ae=ac from hs) bf
theorem Bg:wx X (d? .NotEq) aeZ:=by
 intro pins s σ H x y v u Q I rx ry h;obtain⟨hs,q⟩:=h
 cases x with
 |iy=>
  cases rx
  cases y with
  |iy=>cases ry;exact PySem.EqNone.ne_none_none (e_ I q (by simp))
  |bl j=>cases ry;exact PySem.EqNone.ne_none_bool (e_ I q (by simp))
  |int j=>obtain⟨t',rfl⟩:=ry;exact PySem.EqNone.ne_none_int (e_ I q (by simp))
  |str j=>obtain⟨t',rfl⟩:=ry;exact PySem.EqNone.ne_none_str (e_ I q (by simp))
  |_=>exact absurd (show ae=ac from hs) bf
 |bl i=>
  cases rx
  cases y with
  |iy=>cases ry;exact PySem.EqNone.ne_bool_none (e_ I q (by simp))
  |bl j=>cases ry;exact ne_bool (e_ I q (congrArg not RE))
  |str j=>obtain⟨t',rfl⟩:=ry;exact PySem.EqMixed.ne_bool_str (e_ I q (by simp))
  |_=>exact absurd (show ae=ac from hs) bf
 |int i=>
  obtain⟨t,rfl⟩:=rx
  cases y with
  |iy=>cases ry;exact PySem.EqNone.ne_int_none (e_ I q (by simp))
  |int j=>obtain⟨t',rfl⟩:=ry;exact ne_int (e_ I q (congrArg not pJ))
  |str j=>obtain⟨t',rfl⟩:=ry;exact PySem.EqMixed.ne_int_str (e_ I q (by simp))
  |_=>exact absurd (show ae=ac from hs) bf
 |str i=>
  obtain⟨t,rfl⟩:=rx
  cases y with
  |iy=>cases ry;exact PySem.EqNone.ne_str_none (e_ I q (by simp))
  |bl j=>cases ry;exact PySem.EqMixed.ne_str_bool (e_ I q (by simp))
  |int j=>obtain⟨t',rfl⟩:=ry;exact PySem.EqMixed.ne_str_int (e_ I q (by simp))
  |str j=>obtain⟨t',rfl⟩:=ry;exact ne_str (e_ I q (congrArg not MI))
  |_=>exact absurd (show ae=ac from hs) bf
 |JP i=>
  obtain⟨t,rfl⟩:=rx
  cases y with
  |JP j=>obtain⟨t',rfl⟩:=ry;exact PySem.W.ne_bytes (e_ I q (congrArg not MJ))
  |_=>exact absurd (show ae=ac from hs) bf
 |_=>cases y<;>exact absurd (show ae=ac from hs) bf
theorem Bh:wx X (d? .Lt) (Vr λi j=>.bl (decide (i<j))):=TK λ_ _ _ _ _ _ _ q=>lt_int q
theorem vt:wx X (d? .LtE) (Vr λi j=>.bl (decide (i<=j))):=TK λ_ _ _ _ _ _ _ q=>le_int q
theorem y8:wx X (d? .Gt) (Vr λi j=>.bl (decide (j<i))):=TK λ_ _ _ _ _ _ _ q=>gt_int q
theorem Qc:wx X (d? .GtE) (Vr λi j=>.bl (decide (j<=i))):=TK λ_ _ _ _ _ _ _ q=>ge_int q
theorem FV:wx X (d? .Is) (λx y H Q=>y= .iy/\Q (.bl (decide (x= .iy))) H):=by
 intro pins s σ H x y v u Q I rx ry h;obtain⟨rfl,q⟩:=h
 cases ry;refine is_none_gen (e_ I q ?_)
 cases x<;>first
  |(cases rx;rfl)
  |(obtain⟨t,rfl⟩:=rx;rfl)
theorem L3:wx X (d? .IsNot) (λx y H Q=>y= .iy/\Q (.bl (!decide (x= .iy))) H):=by
 intro pins s σ H x y v u Q I rx ry h;obtain⟨rfl,q⟩:=h
 cases ry;refine isnot_none_gen (e_ I q ?_)
 cases x<;>first
  |(cases rx;rfl)
  |(obtain⟨t,rfl⟩:=rx;rfl)
theorem bU(b:Expr)(h:op≠.In:=by decide)(h2:op≠.NotIn:=by decide):oK op b=ae:=by
 have e1:(op==CmpOp.In)=ae:=by cases op<;>first|rfl|exact absurd rfl h
 have e2:(op==CmpOp.NotIn)=ae:=by cases op<;>first|rfl|exact absurd rfl h2
 cases b<;>simp[oK,e1,e2]
theorem gJ(ho:wx X (d? op) r)(ha:PE X a ta)(hb:PE X b tb)(hm:oK op b=ae):PE X (.Compare a [op] [b] pos) (abj r ta tb):=by
 intros;exact wpAny_Compare1 (XO ha hb I h λv u s2 x y H2 I2 rx ry q=>ho pins s2 σ H2 x y v u Q I2 rx ry q) hm
inductive afk(Q:Bool->Hp->Prop)(x:V)(H':Hp):Prop
 |mk(k:_)(_:x= .bl k)(_:Q k H')
def Vg(t:TE):TT:=λσ H Q=>t σ H (afk Q)
theorem bR(ho:wx X (d? op) r)(ha:PE X a ta)(hb:PE X b tb)(hm:oK op b=ae):PT X (.Compare a [op] [b] pos) (Vg (abj r ta tb)):=by
 intros;refine R6 (ga (ha pins s σ H _ I h) λv s1 ⟨x,H1,I1,r1,q1⟩=>ga (hb pins s1 σ H1 _ I1 q1) λu s2 ⟨y,H2,I2,r2,q2⟩=>
  ga (ho pins s2 σ H2 x y v u _ I2 r1 r2 q2) λc s3 ⟨z,H3,I3,r3,k,e,q3⟩=>?_) hm
 subst e
 cases r3;exact eL ⟨H3,I3,q3⟩
inductive afi(r':R2)(tc:TE)(σ:St)(Q:VK)(y z:V)(H3:Hp):Prop
 |mk(k:_)(_:z= .bl k)(_:(if k=ac then tc σ H3 λw' H4=>r' y w' H4 Q else Q (.bl ae) H3))
def PB(r r':R2)(ta tb tc:TE):TE:=λσ H Q=>ta σ H λx H1=>tb σ H1 λy H2=>r x y H2 (afi r' tc σ Q y)
theorem H?(ho:wx X (d? op) r)(Ck:wx X (d? WO) r')(ha:PE X a ta)(hb:PE X b tb)(hc:PE X c tc)
 (hm:lastMarks [op,WO] [b,c]=ae:=by with_unfolding_all rfl):PE X (.Compare a [op,WO] [b,c] pos) (PB r r' ta tb tc):=by
 intros;refine Compare_chain (ga (ha pins s σ H _ I h) λv s1 ⟨x,H1,I1,r1,q1⟩=>chain_link (ga (hb pins s1 σ H1 _ I1 q1) λu s2 ⟨y,H2,I2,r2,q2⟩=>
  ga (ho pins s2 σ H2 x y v u _ I2 r1 r2 q2) λd s3 ⟨z,H3,I3,r3,k,e,q3⟩=>?_)) hm
 subst e
 cases r3;refine eL ?_
 cases k with
 |false=>exact ite_ff ⟨.bl ae,H3,I3,Z,q3⟩
 |true=>exact ite_tt (chain_last (ga (hc pins s3 σ H3 _ I3 q3) λw' s4 ⟨z',H4,I4,r4,q4⟩=>Ck pins s4 σ H4 y z' u w' Q I4 r2 r4 q4))
theorem HV(ho:wx X (d? op) r)(Ck:wx X (d? WO) r')(ha:PE X a ta)(hb:PE X b tb)(hc:PE X c tc)
 (hm:lastMarks [op,WO] [b,c]=ae:=by with_unfolding_all rfl):PT X (.Compare a [op,WO] [b,c] pos) (Vg (PB r r' ta tb tc)):=by
 intros;refine isTrue_chain (ga (ha pins s σ H _ I h) λv s1 ⟨x,H1,I1,r1,q1⟩=>test_link (ga (hb pins s1 σ H1 _ I1 q1) λu s2 ⟨y,H2,I2,r2,q2⟩=>
  ga (ho pins s2 σ H2 x y v u _ I2 r1 r2 q2) λd s3 ⟨z,H3,I3,r3,k,e,q3⟩=>?_)) hm
 subst e
 cases r3;refine eL ?_
 cases k with
 |false=>
  obtain⟨k',e',q'⟩:=q3
  cases e';exact ite_ff ⟨H3,I3,q'⟩
 |true=>
  refine ite_tt (test_last (ga (hc pins s3 σ H3 _ I3 q3) λw' s4 ⟨z',H4,I4,r4,q4⟩=>ga (Ck pins s4 σ H4 y z' u w' _ I4 r2 r4 q4) λd' s5 ⟨z2,H5,I5,r5,k2,e2,q5⟩=>?_));subst e2
  cases r5;exact eL ⟨H5,I5,q5⟩
theorem KQ:(aE:Nat)<2 ^ 63:=by rw[oW];decide
theorem vals1(r:Vals [x] us):∃u,us=[u]/\RelV x u:=by
 cases r with
 |cons r1 r2=>cases r2;exact⟨_,Z,r1⟩
end
structure Lq(h:bO)(x dx C:ao)(mA:bV->Option ai):Prop where
 obj:h.get? x=aa (hX C dx)
 ns:h.Ns1 dx mA
 ne:dx≠x
theorem NN{h:bO}{dx:ao}{mA:bV->Option ai}(n:h.Ns1 dx mA):∃od,h.get? dx=aa od/\∀name,tG name od=aa (mA name):=by
 obtain⟨o,es,ep,ho,hd,hk,_,hm⟩:=n;refine⟨o,ho,λname=>?_⟩;have e:=hm name;unfold nsFind findBy at e;rw[<-Array.find?_toList]at e;unfold tG;rw[hd];dsimp only;split
 ·rename_i y q;rw[q]at e;exact congrArg aa e
 ·rename_i q;rw[q]at e;have a:es.toList.any (·.refKey)=ae:=by
   rw[ql];intro y hy;obtain⟨z,t,Q4⟩:=hk y (Array.mem_toList_iff.mp hy);simp[DictEntry.refKey,Q4]
  have a':¬es.toList.any (·.refKey)=ac:=by rw[a];exact bf
  rw[aw a'];exact congrArg aa e
theorem Lq.look(I:Lq h x dx C mA):∃od,PySem.W.InstAt h x (hX C dx) C (aa od)/\∀name,tG name od=aa (mA name):=
 let⟨od,ho,hl⟩:=NN I.ns
 ⟨od,⟨I.obj,Z,Z,ho⟩,hl⟩
section
variable{prog:ba}{w:World}{A:cb}{E:ai->aq->Prop}{s:aq}{K:aj}{x dx C f:ao}{mA:bV->Option ai}{name:bV}{v:ai}
theorem get_map(X:K.In s.heap)(I:Lq s.heap x dx C mA)(hg:mD K C name=ac)(hh:o6 K C=ac)
 (ha:ef K (.ref C) name=aa ab)(hv:mA name=aa v)(EB:M3 v=ac)(h:Q v {s with toks:=s.toks+1}):
  aU (bg prog w) A (getAttr (.ref x) name aej) Q E s:=by
 obtain⟨od,J,hl⟩:=I.look;exact PySem.W.get_value X J (uY hg).1 (PySem.W.findObj_own hh ha Z (by rw[hl,hv])) EB h
theorem Rf(X:K.In s.heap)(I:Lq s.heap x dx C mA)(hg:mD K C name=ac)
 (hf:ef K (.ref C) name=aa (aa (.ref f)))(ht:rm K (.ref f)=ac)(hv:mA name=ab)(h:Q (.ref f,[.ref x]) s):
  aU (bg prog w) A (Ou (.ref x) name pl) Q E s:=by
 obtain⟨od,J,hl⟩:=I.look;exact PySem.W.method_fn X J (uY hg).1 (uY hg).2 hf (beq_iff_eq.mp ht) (by show(tG name od).map (·.isSome)=aa ae;rw[hl,hv];rfl) h
theorem Tj(X:K.In s.heap)(I:Lq s.heap x dx C mA)
 (hs:ef K (.ref C) "__setattr__"=aa (aa (.builtin "object.__setattr__")))(hp:wy K C=ac)(ht:zq K C name=aa ab)(hh:o6 K C=ac)
 (hw:Ha mA ns)(hsz:ns.length<=aE)
 (h:∀h',Lq h' x dx C (λy=>if y=name then aa v else mA y)->eG dx s.heap h'->Q () {s with heap:=h',toks:=s.toks+2}):
  aU (bg prog w) A (setAttr (.ref x) name v) Q E s:=by
 obtain⟨od,J,hl⟩:=I.look;refine PySem.W.set_plain X J hs (PySem.W.osa_open (s:={s with toks:=s.toks+1}) (r:=ab) X J hp ht λb=>?_);obtain⟨cd,hc,Q?⟩:=PySem.W.any_some hh;have hx:s.heap.get? x=aa ⟨.ref C,aa dx,.plain,#[]⟩:=I.obj;refine ag (au (ag (ag (wpAny_loadPart hx (ag (PySem.W.Looks.here (s:={s with toks:=s.toks+1}) (PySem.W.looks_clsIn X hc) ?_))))));rw[Q?];refine au (a:=aa dx) (ag (au (ag ?_)));refine wpAny_nsSet1 (s:={s with toks:=s.toks+1}) I.ns λh' Ym Sk=>?_;obtain⟨oD,esD,epD,hoD,hdD,hcD⟩:=Ym.count (PySem.Within.cons name v hw);refine ag (wpAny_lookBehind hoD (by rw[hdD];exact pastItsLine_dict (aB hcD (by rw[aJ];lia))) ?_);exact au (h _ ⟨(Sk.2 _ (a8 I.ne)).trans I.obj,Ym,I.ne⟩ Sk)
theorem Qw{R:AA->aq->Prop}(X:K.In s.heap)(hm:zt K C=ac)
 (hi:ef K (.ref C) "__init__"=aa (aa (.ref f)))(hf:PySem.W.typeIn K (.ref f)=aa (.type "function"))
  (h:md (bg prog w) (A.under (.builtin "type.__call__" ⟨.ref C::vs,kw⟩)) (.call (.ref f) ⟨.ref (s.heap.objs.size+1)::vs,kw⟩) (PySem.W.InitBack (s.heap.objs.size+1) R)
   {s with heap:=(s.heap.push fG).push (hX C s.heap.objs.size)}):
  md (bg prog w) A (.call (.ref C) ⟨vs,kw⟩) R s:=by
 obtain⟨hh,g,d,t,os⟩:=s;exact PySem.W.make_core (PySem.W.makes_of X hm) (PySem.W.looks_findIn X hi) (λself=>PySem.W.bind_fn X self hf) (.inl Z) h
end
def b_(f:bV)(v:V):List (bV×V)->List (bV×V)
 |[]=>[(f,v)]
 |(g,x)::r=>if g=f then(g,v)::r else(g,x)::b_ f v r
theorem zd(f g:bV)(v:V):∀fs:List (bV×V),(b_ f v fs).lookup g=if g=f then aa v else fs.lookup g
 |[]=>by
  show lK g [(f,v)]=_;by_cases h:g=f
  ·have hb:(g==f)=ac:=beq_iff_eq.mpr h;simp only[lK,hb,if_pos h]
  ·have hb:(g==f)=ae:=beq_eq_false_iff_ne.mpr h;simp only[lK,hb,if_neg h]
 |(k,x)::r=>by
  have ih:=zd f g v r;rw[show b_ f v ((k,x)::r)=(if k=f then(k,v)::r else(k,x)::b_ f v r)from Z];by_cases hk:k=f
  ·rw[aC hk];by_cases h:g=k
   ·have hb:(g==k)=ac:=beq_iff_eq.mpr h;simp only[lK,hb,if_pos (h.trans hk)]
   ·have hb:(g==k)=ae:=beq_eq_false_iff_ne.mpr h;simp only[lK,hb,if_neg (λe:g=f=>h (e.trans hk.symm))]
  ·rw[aw hk];by_cases h:g=k
   ·have hb:(g==k)=ac:=beq_iff_eq.mpr h;simp only[lK,hb,if_neg (λe:g=f=>hk (h.symm.trans e))]
   ·have hb:(g==k)=ae:=beq_eq_false_iff_ne.mpr h;simp only[lK,hb];exact ih
theorem yz(f:bV)(v:V):∀fs:List (bV×V),f∈(b_ f v fs).map (·.1)/\∀g,g∈fs.map (·.1)->g∈(b_ f v fs).map (·.1)
 |[]=>⟨by simp[b_],λg h=>by simp at h⟩
 |(k,x)::r=>by
  obtain⟨i1,i2⟩:=yz f v r;rw[show b_ f v ((k,x)::r)=(if k=f then(k,v)::r else(k,x)::b_ f v r)from Z];by_cases hk:k=f
  ·rw[aC hk];subst hk;exact⟨by simp,λg h=>by simpa using h⟩
  ·rw[aw hk];refine⟨?_,λg h=>?_⟩
   ·rw[bC];exact aD _ i1
   ·rw[bC]at h ⊢;rcases aF.mp h with e|e
    ·exact aF.mpr (.inl e)
    ·exact aD _ (i2 g e)
theorem ze(f:bV)(v:V):∀fs:List (bV×V),(b_ f v fs).length<=fs.length+1
 |[]=>by simp[b_]
 |(k,x)::r=>by
  have ih:=ze f v r;rw[show b_ f v ((k,x)::r)=(if k=f then(k,v)::r else(k,x)::b_ f v r)from Z];by_cases hk:k=f
  ·rw[aC hk,aJ,aJ];lia
  ·rw[aw hk,aJ,aJ];lia
theorem qU.some_of(r:qU (aa v) o):∃u,o=aa u/\RelV v u:=by
 cases o with
 |none=>exact(show False from r).elim
 |some u=>exact⟨u,Z,r⟩
theorem qU.none_of(r:qU ab o):o=ab:=by
 cases o with
 |none=>rfl
 |some u=>exact(show False from r).elim
theorem N0(r:RelV v u):M3 u=ac:=by
 cases v with
 |iy=>cases(show u=eO from r);rfl
 |bl b=>cases(show u=lx b from r);rfl
 |int i=>obtain⟨t,e⟩:=(show∃t,u=j5 i t from r);cases e;rfl
 |str x=>obtain⟨t,e⟩:=(show∃t,u=ve x t from r);cases e;rfl
 |JP b=>obtain⟨t,e⟩:=(show∃t,u=Value.bytes b t from r);cases e;rfl
 |ab2 b=>obtain⟨t,e⟩:=(show∃t,u=Value.float b t from r);cases e;rfl
 |ref a=>cases(show u=bn a from r);rfl
 |ty n=>cases(show u=dU n from r);rfl
section
variable{P:ba}{w:World}{H H':Hp}{h h':bO}{a C dx:ao}{fs YE:List (bV×V)}
theorem Gb(f7:uA P w H h)(e:H a=aa (.ins C dx fs)):∃mA,Lq h a dx C mA/\(∀f,qU (fs.lookup f) (mA f))/\Ha mA (fs.map (·.1))/\fs.length<=1000/\H dx=aa (.own a):=by
 obtain⟨d,z,ne,ob,mA,n,r,q⟩:=(show ji P w H h a (.ins C dx fs)from f7 a _ e);exact⟨mA,⟨ob,n,ne⟩,r,q,z,d⟩
end
structure E2(K:aj)(C:ao):Prop where
 pg:mD K C Str.empty=ac
 hd:o6 K C=ac
 po:wy K C=ac
 sa:ef K (.ref C) "__setattr__"=aa (aa (.builtin "object.__setattr__"))
theorem E2.get{K:aj}(c:E2 K C)(f:bV):mD K C f=ac:=c.pg
def dn(K:aj)(C:ao)(f:bV):Prop:=ef K (.ref C) f=aa ab
theorem dn.YW{K:aj}(n:dn K C f):zq K C f=aa ab:=by
 unfold zq;rw[show ef K (.ref C) f=aa ab from n];rfl
structure Meth(K:aj)(C:ao)(m:bV)(f:ao):Prop where
 at_:ef K (.ref C) m=aa (aa (.ref f))
 fn:rm K (.ref f)=ac
 kp:lH K (.ref f)=ac
section
variable{X:Cx}{pins:List (ao×gt)}{σ:St}{H:Hp}{s:aq}{a C dx:ao}{fs:List (bV×V)}{f:bV}{v:V}{A:cb}{E:ai->aq->Prop}
theorem BN(I:Inv X pins σ H s)(e:H a=aa (.ins C dx fs))(c:E2 X.K C)(n:dn X.K C f)(l:fs.lookup f=aa v)
 (h:∀u s',Inv X pins σ H s'->RelV v u->Q u s'):aU (bg X.prog X.w) A (getAttr (.ref a) f b) Q E s:=by
 obtain⟨mA,O,r,_,_,_⟩:=Gb I.f7 e;obtain⟨u,hu,ru⟩:=qU.some_of (v:=v) (o:=mA f) (by rw[<-l];exact r f);exact get_map I.IE O (c.get f) c.hd n hu (N0 ru) (h u _ (I.tok _) ru)
theorem BM(I:Inv X pins σ H s)(e:H a=aa (.ins C dx fs))(c:E2 X.K C)(k:Meth X.K C m g)(l:fs.lookup m=ab)
 (h:Q (.ref g,[.ref a]) s):aU (bg X.prog X.w) A (Ou (.ref a) m pl) Q E s:=by
 obtain⟨mA,O,r,_,_,_⟩:=Gb I.f7 e;have hn:mA m=ab:=qU.none_of (by rw[<-l];exact r m);exact Rf I.IE O (c.get m) k.at_ k.fn hn h
theorem AT(I:Inv X pins σ H s)(e:H a=aa (.ins C dx fs))(c:E2 X.K C)(n:dn X.K C f)(hl:fs.length<1000)(ry:RelV y u)
 (h:∀s',Inv X pins σ (upd H a (.ins C dx (b_ f y fs))) s'->Q () s'):aU (bg X.prog X.w) A (setAttr (.ref a) f u) Q E s:=by
 obtain⟨mA,O,r,wi,_,ho⟩:=Gb I.f7 e;have hz:(fs.map (·.1)).length<=aE:=by rw[af,oW];lia
 refine Tj I.IE O c.sa c.po n.YW c.hd wi hz λh' O' sb=>h _ ?_;have hd:∃o,h'.get? dx=aa o:=let⟨o,_,_,e',_⟩:=O'.ns;⟨o,e'⟩;refine I.write (x:=a) (e:=dx) (by rw[e];exact m?) (.inr ho) (λb q hb z=>(sb.2 b hb).trans z) hd ?_;refine⟨by rw[aZ O.ne];exact ho,?_,O.ne,O'.obj,_,O'.ns,λg=>?_,λg hg=>?_⟩
 ·have:=ze f y fs;lia
 ·show qU ((b_ f y fs).lookup g) (if g=f then aa u else mA g);rw[zd];by_cases q:g=f
  ·rw[aC q,aC q];exact ry
  ·rw[aw q,aw q];exact r g
 ·by_cases q:g=f
  ·rw[q];exact(yz f y fs).1
  ·refine(yz f y fs).2 g (wi g λz=>hg ?_);show(if g=f then aa u else mA g)=ab;rw[aw q];exact z
theorem Inv.made(I:Inv X pins σ H s):Inv X pins σ (upd (upd H s.heap.objs.size (.own (s.heap.objs.size+1))) (s.heap.objs.size+1) (.ins C s.heap.objs.size []))
  {s with heap:=(s.heap.push fG).push (hX C s.heap.objs.size)}:=by
 have e1:(s.heap.push fG).get? s.heap.objs.size=aa fG:=aT s.heap Z;have e2:((s.heap.push fG).push (hX C s.heap.objs.size)).get? (s.heap.objs.size+1)=aa (hX C s.heap.objs.size):=by
  have:=aT (s.heap.push fG) (o:=hX C s.heap.objs.size) Z;rwa[cH]at this
 have e3:(s.heap.push fG).Ns s.heap.objs.size (λ_=>ab):=⟨fG,#[],_,e1,Z,(λe he=>absurd he (by simp)),λ_=>rfl⟩;have I1:=I.laid (a:=s.heap.objs.size) (o:=.own (s.heap.objs.size+1)) (h':=s.heap.push fG) (t':=s.toks) (λb u q=>az _ q) (aS _) ⟨_,e1⟩;refine I1.laid (a:=s.heap.objs.size+1) (o:=.ins C s.heap.objs.size []) (t':=s.toks) (λb u q=>az _ q) (o3 (cH _ _)) ?_;have ne:s.heap.objs.size≠s.heap.objs.size+1:=bL (ky _);refine⟨by rw[aZ ne,ak],gx _,ne,e2,λ_=>ab,(Heap.Ns1.of_empty e3).at λo q=>az _ q,λ_=>m?,λy hy=>absurd Z hy⟩
theorem UO(hb:jW e f env (eval e env)=eval e env)
 (h:aU (bg prog w) A (eval e env) (λo fX=>aU (bg prog w) A (getAttr o f ac) Q E fX) E s):aU (bg prog w) A (eval (.Attribute e f pos) env) Q E s:=
 Attribute_any_ h (by rw[arm_eval_Attribute,hb])
end
inductive afB(K:aj)(f:bV)(Q:VK)(x:V)(H1:Hp):Prop
 |mk(a C dx fs v:_)(_:x= .ref a)(_:H1 a=aa (.ins C dx fs))(_:E2 K C)(_:dn K C f)(_:fs.lookup f=aa v)(_:Q v H1)
def Y5(K:aj)(ta:TE)(f:bV):TE:=λσ H Q=>ta σ H (afB K f Q)
inductive afE(K:aj)(f:bV)(D:Ends)(σ:St)(y x:V)(H2:Hp):Prop
 |mk(a C dx fs:_)(_:x= .ref a)(_:H2 a=aa (.ins C dx fs))(_:E2 K C)(_:dn K C f)(_:fs.length<1000)(_:D.nx σ (upd H2 a (.ins C dx (b_ f y fs))))
def acw(K:aj)(ta tv:TE)(f:bV):TS:=λD σ H=>tv σ H λy H1=>ta σ H1 (afE K f D σ y)
def aa'(X:Cx)(op:JY)(rd:V->V->Hp->VK->Prop):Prop:=
 ∀(pins:List (ao×gt))(s:aq)(σ:St)(H:Hp)(x y:V)(u v:ai)(Q:VK),Inv X pins σ H s->RelV x u->RelV y v->rd x y H Q->aU (bg X.prog X.w) X.A (inplaceOp op u v) (EP X pins σ Q) X.xe s
inductive ae9(f:bV)(D:Ends)(σ:St)(a C:ao)(z:V)(H3:Hp):Prop
 |mk(YI YE:_)(_:H3 a=aa (.ins C YI YE))(_:YE.length<1000)(_:D.nx σ (upd H3 a (.ins C YI (b_ f z YE))))
inductive ae8(K:aj)(tv:TE)(rd:V->V->Hp->VK->Prop)(f:bV)(D:Ends)(σ:St)(x:V)(H1:Hp):Prop
 |mk(a C dx fs v:_)(_:x= .ref a)(_:H1 a=aa (.ins C dx fs))(_:E2 K C)(_:dn K C f)(_:fs.lookup f=aa v)(_:tv σ H1 λy H2=>rd v y H2 (ae9 f D σ a C))
def Tn(K:aj)(ta tv:TE)(rd:V->V->Hp->VK->Prop)(f:bV):TS:=λD σ H=>ta σ H (ae8 K tv rd f D σ)
section
variable{X:Cx}{o e eT:Expr}{f:bV}{pos zG Nl:ku}{ta tv:TE}
theorem bb(he:PE X e ta)(hb:jW e f X.env (eval e X.env)=eval e X.env):PE X (.Attribute e f pos) (Y5 X.K ta f):=by
 intros;refine UO hb (ga (he pins s σ H _ I h) λu s1 ⟨x,H1,I1,rx,a,C,dx,fs,v,ex,ea,c,n,l,q⟩=>?_);subst ex;obtain rfl:u=bn a:=rx;exact BN I1 ea c n l λu' s2 I2 ru=>⟨v,H1,I2,ru,q⟩
theorem dM(ha:PE X o ta)(hv:PE X eT tv)(hs:E4 eT (aa (.Attribute o f zG)) pos.line X.env=pure ae):PS X (.Assign [.Attribute o f zG] eT pos) (acw X.K ta tv f):=by
 intro pins s σ H D I h;refine plainObj_wpAny_Assign_Attribute (ga (hv pins s σ H _ I h) λu s1 ⟨y,H1,I1,ry,q⟩=>ga (ha pins s1 σ H1 _ I1 q) λov s2 ⟨x,H2,I2,rx,a,C,dx,fs,ex,ea,c,n,l,q2⟩=>?_) hs;subst ex;obtain rfl:ov=bn a:=rx;exact AT I2 ea c n l ry λs3 I3=>⟨σ,_,I3,q2⟩
theorem nQ(ha:PE X o ta)(hv:PE X eT tv)(hop:aa' X op rd):PS X (.AugAssign (.Attribute o f Nl) op eT pos) (Tn X.K ta tv rd f):=by
 intro pins s σ H D I h;refine wpAny_AugAssign_AttributeAny (ga (ha pins s σ H _ I h) λov s1 ⟨x,H1,I1,rx,a,C,dx,fs,v,ex,ea,c,n,l,q⟩=>?_);subst ex;obtain rfl:ov=bn a:=rx;refine BN I1 ea c n l λu s2 I2 ru=>ga (hv pins s2 σ H1 _ I2 q) λw3 s3 ⟨y,H2,I3,ry,q3⟩=>ga (hop pins s3 σ H2 v y u w3 _ I3 ru ry q3) λw4 s4 ⟨z,H3,I4,rz,YI,YE,ea',l',q4⟩=>?_;exact AT I4 ea' c n l' rz λs5 I5=>⟨σ,_,I5,q4⟩
inductive acQ(x y:V)(H:Hp)(Q:VK):Prop
 |mk(i j:_)(_:x= .int i)(_:y= .int j)(_:Q (.int (i+j)) H)
theorem yC:aa' X .Add acQ:=by
 rintro pins s σ H x y u v Q I rx ry ⟨i,j,rfl,rfl,q⟩;obtain⟨t,rfl⟩:=(show∃t,u=j5 i t from rx);obtain⟨t',rfl⟩:=(show∃t',v=j5 j t' from ry);exact PyProof.Rows.iadd_int ⟨.int (i+j),H,I.tok _,⟨_,Z⟩,q⟩
end
section
variable{X:Cx}{pins:List (ao×gt)}{σ:St}{H:Hp}{s:aq}{A:cb}{E:ai->aq->Prop}{Q:ai->aq->Prop}{c:ai}{b:Bool}
end
structure kL(k:Nat)(A:cb):Prop where
 hd:A.handled=ab
 dp:A.depth+3*k+5<recursionLimit
 un:A.units+16*k+200<mS
theorem kL.mono(r:kL k A)(h:j<=k):kL j A:=⟨r.hd,by have:=r.dp;lia,by have:=r.un;lia⟩
theorem kL.deeper(r:kL (k+1) A)(env:Hd):kL k (A.deeper env):=
 ⟨r.hd,by have:=r.dp;show A.depth+1+3*k+5<_;lia,by have:=r.un;show A.units+3+16*k+200<_;lia⟩
theorem KL{A:cb}{C:ao}{us:X9}{kw:List (bV×ai)}:(A.under (.builtin "type.__call__" ⟨.ref C::us,kw⟩)).depth=A.depth+1:=by
 first|rfl|simp[GU,S3.weight,S3.isCreation,S3.isGuard,S3.isCaller,S3.frames,S3.isFrame,guardIds]
theorem KJ{A:cb}{C:ao}{us:X9}{kw:List (bV×ai)}:(A.under (.builtin "type.__call__" ⟨.ref C::us,kw⟩)).units=A.units+1:=by
 first|rfl|simp[GU,Code.cUnits,S3.frames,S3.isFrame]
theorem kL.make(r:kL (k+1) A)(C:ao)(us:X9)(kw:List (bV×ai)):kL k (A.under (.builtin "type.__call__" ⟨.ref C::us,kw⟩)):=
 ⟨r.hd,by have:=r.dp;rw[KL];lia,by have:=r.un;rw[KJ];lia⟩
theorem kL.depth(r:kL k A):A.depth<recursionLimit:=by have:=r.dp;lia
theorem kL.units(r:kL k A):A.units+64<mS:=by have:=r.un;lia
theorem kL.We(r:kL k A):A.units<mS:=by have:=r.un;lia
def Tg:TA:=λ_ H Q=>Q [] H
def Vj(ta:TE)(tr:TA):TA:=λσ H Q=>ta σ H λx H1=>tr σ H1 λxs H2=>Q (x::xs) H2
section
variable{X:Cx}{e:Expr}{es:List Expr}{te:TE}{t:TA}{pos:ku}
theorem ax:PA X [] Tg:=λ_ _ _ _ H Q I h=>e8 ⟨[],H,I,.nil,h⟩
theorem ah(ha:PE X e te)(hr:PA X es t)(hs:bX (e::es) X.env=(ae,eval e X.env)::bX es X.env:=by rfl):PA X (e::es) (Vj te t):=by
 intro pos pins s σ H Q I h;rw[hs];show aU _ _ (Jv ((ae,eval e X.env)::jC pos (bX es X.env))) _ _ s;refine dj (ga (ha pins s σ H _ I h) λu s1 ⟨x,H1,I1,r1,q1⟩=>?_);exact ga (hr pos pins s1 σ H1 _ I1 q1) λus s2 ⟨xs,H2,I2,r2,q2⟩=>⟨x::xs,H2,I2,.cons r1 r2,q2⟩
inductive afw(Q:VK)(xs:V2)(H1:Hp):Prop
 |mk(_:xs.length<=aE)(_:∀p,H1 p=ab->Q (.ref p) (upd H1 p (.tup xs)))
def acg(t:TA):TE:=λσ H Q=>t σ H (afw Q)
inductive afy(Q:VK)(xs:V2)(H1:Hp):Prop
 |mk(_:xs.length<=aE)(_:∀p,H1 p=ab->Q (.ref p) (upd H1 p (.lst xs)))
def acl(t:TA):TE:=λσ H Q=>t σ H (afy Q)
theorem t6 {x1} (h:PA X es t):PE X (.Tuple es x1 pos) (acg t):=by
 intro pins s σ H Q I hq;refine wpAny_Tuple_spliced (ga (h pos pins s σ H _ I hq) λus s1 ⟨xs,H1,I1,r,z,q⟩=>⟨by rw[<-r.length];exact z,?_⟩);have hf:H1 s1.heap.objs.size=ab:=I1.f7.fresh (aS _);refine⟨.ref s1.heap.objs.size,upd H1 s1.heap.objs.size (.tup xs),I1.laid (t':=s1.toks) (λb u e=>az _ e) (aS _) ?_,Z,q _ hf⟩;exact⟨z,us,r,⟨_,aT _ Z,Z,_,Z⟩⟩
theorem cn(h:PA X es t):PE X (.List es pos) (acl t):=by
 intro pins s σ H Q I hq;refine wpAny_List_spliced (ga (h pos pins s σ H _ I hq) λus s1 ⟨xs,H1,I1,r,z,q⟩=>⟨by rw[<-r.length];exact z,?_⟩);have hf:H1 s1.heap.objs.size=ab:=I1.f7.fresh (aS _);refine⟨.ref s1.heap.objs.size,upd H1 s1.heap.objs.size (.lst xs),I1.laid (t':=s1.toks) (λb u e=>az _ e) (aS _) ?_,Z,q _ hf⟩;exact⟨z,us,0,r,aT _ Z⟩
end
abbrev Sp:=V2->Hp->VK->XK->Prop
abbrev Ot:=List Hd->Hp->aq->XK->ai->aq->Prop
structure Ls(P:ba)(w:World)(K:aj)(mg:bV->Option ai)(base:bO)(A:cb)(outer:List Hd)(s:aq)(H:Hp):Prop where
 frames:A.frames=aa outer
 mod:Mod K mg base
 bs:∀b o,base.get? b=aa o->s.heap.get? b=aa o/\H b=ab
 UN:base.objs.size<=s.heap.objs.size
 zR:s.heap.FunFrames base outer
 XB:∀b∈Rh outer,H b=ab
 f7:uA P w H s.heap
 bare:CI s.gens
inductive CE(outer:List Hd)(P:ba)(w:World)(H:Hp)(s:aq)(Q:VK)(u:ai)(s':aq):Prop
 |mk(v H':_)(_:s'.os=s.os)(_:CI s'.gens)(_:Un (Rh outer) [] H H' s.heap s'.heap)(_:uA P w H' s'.heap)(_:RelV v u)(_:Q v H')
def CR(CX:Ot)(outer:List Hd)(P:ba)(w:World)(H:Hp)(s:aq)(Q:VK)(E:XK)(r:AA)(s':aq):Prop:=
 match r with
 | .ok (.ret u)=>CE outer P w H s Q u s'
 | .ok _=>False
 | .error e=>CX outer H s E e s'
structure cD(P:ba)(w:World)(K:aj)(mg:bV->Option ai)(base:bO)(CX:Ot)(k:Nat)(f:ao)(fd:gI)(ps:List bV)(sp:Sp):Prop where
 len:∀vs H Q E,sp vs H Q E->vs.length=ps.length
 run:∀(A:cb)(outer:List Hd)(s:aq)(H:Hp)(args:Args)(us:X9)(vs:V2)(Q:VK)(E:XK),kL k A->Ls P w K mg base A outer s H->JI s fd args (ps.zip us)->Vals vs us->sp vs H Q E->
  md (bg P w) A (.call (.ref f) args) (CR CX outer P w H s Q E) s
theorem cD.mono{P:ba}{K:aj}(F:cD P w K mg base CX j f fd ps sp)(h:j<=k):
  cD P w K mg base CX k f fd ps sp:=⟨F.len,λA outer s H args us vs Q E hr=>F.run A outer s H args us vs Q E (hr.mono h)⟩
theorem Ls.make{P:ba}{K:aj}(e:Ls P w K mg base A outer s H)(C:ao)(us:X9)(kw:List (bV×ai)):
  Ls P w K mg base (A.under (.builtin "type.__call__" ⟨.ref C::us,kw⟩)) outer s H:=⟨by first|exact e.frames|(simpa[GU,S3.envs,S3.isFrame,pushEnvs]using e.frames),e.mod,e.bs,e.UN,e.zR,e.XB,e.f7,e.bare⟩
section
variable{X:Cx}{pins:List (ao×gt)}{σ:St}{H:Hp}{s s':aq}
theorem Inv.aaO(I:Inv X pins σ H s):Ls X.prog X.w X.K X.mg X.base X.A X.stack s H:=
 ⟨I.ok.frames,I.ok.mod,I.bs,aB I.ok.UN I.sz,I.stack,I.LJ,I.f7,I.bare⟩
theorem Inv.after(I:Inv X pins σ H s)(h:CE X.stack X.prog X.w H s Q u s'):EP X pins σ Q u s':=by
 obtain⟨v,H',os,bare,un,f7,r,q⟩:=h;obtain⟨hh,g,d,t,os'⟩:=s';obtain rfl:os'=s.os:=os;exact⟨v,H',I.call (h':=hh) (g':=g) (d':=d) (t':=t) (ch:=[]) un f7 bare (λb z=>absurd z (by simp)),r,q⟩
end
def Vk(sp:Sp)(B2:V2)(E:XK)(t:TA):TE:=λσ H Q=>t σ H λvs H1=>sp (vs++B2) H1 Q E
inductive afm(C:ao)(m:bV)(sp:Sp)(B2:V2)(E:XK)(t:TA)(σ:St)(Q:VK)(x:V)(H1:Hp):Prop
 |mk(a dx fs:_)(_:x= .ref a)(_:H1 a=aa (.ins C dx fs))(_:fs.lookup m=ab)(_:t σ H1 λvs H2=>sp (x::(vs++B2)) H2 Q E)
def Vh(C:ao)(m:bV)(sp:Sp)(B2:V2)(E:XK)(ta:TE)(t:TA):TE:=λσ H Q=>ta σ H (afm C m sp B2 E t σ Q)
def Vi(C:ao)(sp:Sp)(B2:V2)(E:XK)(t:TA):TE:=λσ H Q=>t σ H λvs H1=>∀x dx,H1 x=ab->H1 dx=ab->dx≠x->
 sp (.ref x::(vs++B2)) (upd (upd H1 dx (.own x)) x (.ins C dx [])) (λv H2=>v= .iy/\Q (.ref x) H2) E
def Binds(K:aj)(fd:gI)(ps:List bV)(ds:X9):Prop:=
 ∀(s:aq)(us:X9),K.In s.heap->(us++ds).length=ps.length->JI s fd ⟨us,[]⟩ (ps.zip (us++ds))
theorem Binds.all{K:aj}(h:∀us:X9,us.length=ps.length->SM fd ⟨us,[]⟩=pure (ps.zip us)):Binds K fd ps []:=λs us _ hl=>by
 rw[eQ]at hl ⊢;exact .of_eq (h us hl)
def Passes(CX:Ot)(X:Cx)(E:XK):Prop:=∀(pins:List (ao×gt))(σ:St)(H:Hp)(s:aq)(e:ai)(s':aq),Inv X pins σ H s->CX X.stack H s E e s'->X.xe e s'
section
variable{X:Cx}{CX:Ot}{k:Nat}{f C:ao}{fd:gI}{ps:List bV}{sp:Sp}{B2:V2}{ds:X9}{E:XK}{x m:bV}{p pos lC:ku}{e o:Expr}{es:List Expr}{ta:TE}{t:TA}
theorem FO(F:cD X.prog X.w X.K X.mg X.base CX k f fd ps sp)(hr:kL k X.A)(hb:Binds X.K fd ps ds)(hd:Vals B2 ds)(hx:Passes CX X E)
 (I:Inv X pins σ H s)(r:Vals vs us)(h:sp (vs++B2) H Q E):aU (bg X.prog X.w) X.A (call (.ref f) us) (EP X pins σ Q) X.xe s:=by
 have r2:Vals (vs++B2) (us++ds):=r.append hd;have hl:(us++ds).length=ps.length:=by rw[<-r2.length];exact F.len _ _ _ _ h
 refine VY (jA (F.run X.A X.stack s H ⟨us,[]⟩ (us++ds) (vs++B2) Q E hr I.aaO (hb s us I.IE hl) r2 h) λr s' hq=>?_)
 cases r with
 |error e=>exact hx pins σ H s e s' I hq
 |ok fl=>
  cases fl with
  |ret u=>exact I.after hq
  |next=>exact dW hq
  |brk=>exact dW hq
  |cont=>exact dW hq
theorem TH(F:cD X.prog X.w X.K X.mg X.base CX k f fd ps sp)(hr:kL k X.A)(hg:Gl X x)(hm:X.mg x=aa (.ref f))(hk:lH X.K (.ref f)=ac)(hb:Binds X.K fd ps ds)(hd:Vals B2 ds)(hx:Passes CX X E)
 (ha:PA X (e::es) t)(K4:(x==("__debug__":bV))=ae:=by decide)(he:bX (e::es) X.env=(ae,eval e X.env)::bX es X.env:=by rfl)(qg:(jC pos (bX es X.env)).any (·.1)=ae:=by rfl):
  PE X (.Call (.Name x p) (e::es) [] pos) (Vk sp B2 E t):=by
 intros;refine dt (Aj I hg hm ?_ K4);refine nX (h₀:=X.base) I.ok.mod.Ya hk (ga (ha pos pins s σ H _ I h) λus s1 ⟨vs,H1,I1,r,q⟩=>⟨I1.IE,?_⟩) he qg;exact FO F hr hb hd hx I1 r q
theorem cZ(he:PE X o ta)(c:E2 X.K C)(hm:Meth X.K C m f)(F:cD X.prog X.w X.K X.mg X.base CX k f fd ps sp)(hr:kL k X.A)(hb:Binds X.K fd ps ds)(hd:Vals B2 ds)(hx:Passes CX X E)(ha:PA X (e::es) t)
 (uQ:bX (e::es) X.env=(ae,eval e X.env)::bX es X.env:=by rfl)(qg:(jC pos (bX es X.env)).any (·.1)=ae:=by rfl)
  (ht:eval (.Call (.Attribute o m lC) (e::es) [] pos) X.env=(do
   let ov<-eval o X.env
   standAt lC.atName
   let(f,first)<-Jx [ov] (Ou ov m pl)
   callWith pos f first (jC pos (bX (e::es) X.env)) (uW pos (mR [] X.env))):=by rfl):
  PE X (.Call (.Attribute o m lC) (e::es) [] pos) (Vh C m sp B2 E ta t):=by
 intros;refine GI (pl:=pl) (ga (he pins s σ H _ I h) λu s1 ⟨x,H1,I1,rx,a,dx,fs,ex,ea,l,q⟩=>?_) ht;subst ex;obtain rfl:u=bn a:=rx;refine BM I1 ea c hm l ?_;refine nX (first:=[.ref a]) (h₀:=X.base) I.ok.mod.Ya hm.kp (ga (ha pos pins s1 σ H1 _ I1 q) λus s2 ⟨vs,H2,I2,r,q2⟩=>⟨I2.IE,?_⟩) uQ qg;exact FO (us:=.ref a::us) (vs:=.ref a::vs) F hr hb hd hx I2 (.cons Z r) q2
theorem w?(he:PE X o ta)(c:E2 X.K C)(hm:Meth X.K C m f)(F:cD X.prog X.w X.K X.mg X.base CX k f fd ps sp)(hr:kL k X.A)(hb:Binds X.K fd ps ds)(hd:Vals B2 ds)(hx:Passes CX X E)
  (ht:eval (.Call (.Attribute o m lC) [] [] pos) X.env=(do
   let ov<-eval o X.env
   standAt lC.atName
   let(f,first)<-Jx [ov] (Ou ov m pl)
   callWith pos f first (jC pos (bX [] X.env)) (uW pos (mR [] X.env))):=by rfl):
  PE X (.Call (.Attribute o m lC) [] [] pos) (Vh C m sp B2 E ta Tg):=by
 intros;refine GI (pl:=pl) (ga (he pins s σ H _ I h) λu s1 ⟨x,H1,I1,rx,a,dx,fs,ex,ea,l,q⟩=>?_) ht;subst ex;obtain rfl:u=bn a:=rx;refine BM I1 ea c hm l ?_;exact JB (first:=[.ref a]) I1.IE hm.kp (FO (us:=[.ref a]) (vs:=[.ref a]) F hr hb hd hx I1 (.cons Z .nil) q)
structure Mk(K:aj)(C f:ao):Prop where
 makes:zt K C=ac
 init:ef K (.ref C) "__init__"=aa (aa (.ref f))
 fn:rm K (.ref f)=ac
 kp:lH K (.ref C)=ac
theorem HK(M:Mk X.K C f)(F:cD X.prog X.w X.K X.mg X.base CX k f fd ps sp)(hr:kL (k+1) X.A)(hb:Binds X.K fd ps ds)(hd:Vals B2 ds)
 (hx:Passes CX X E)(I:Inv X pins σ H s)(r:Vals vs us)
 (h:∀x dx,H x=ab->H dx=ab->dx≠x->sp (.ref x::(vs++B2)) (upd (upd H dx (.own x)) x (.ins C dx [])) (λv H2=>v= .iy/\Q (.ref x) H2) E):
  aU (bg X.prog X.w) X.A (call (.ref C) us) (EP X pins σ Q) X.xe s:=by
 have hq:=h (s.heap.objs.size+1) s.heap.objs.size (I.f7.fresh (j7 _)) (I.f7.fresh (aS _)) (bL (ky _));have I2:=Inv.made (C:=C) I;have r2:Vals (V.ref (s.heap.objs.size+1)::(vs++B2)) (bn (s.heap.objs.size+1)::(us++ds)):=.cons Z (r.append hd);have hl:(bn (s.heap.objs.size+1)::us++ds).length=ps.length:=by
  have e:=r2.length;rw[F.len _ _ _ _ hq]at e;exact e.symm
 refine VY (Qw (f:=f) I.IE M.makes M.init (beq_iff_eq.mp M.fn) (jA (F.run _ X.stack _ _ ⟨bn (s.heap.objs.size+1)::us,[]⟩ (bn (s.heap.objs.size+1)::(us++ds)) _ _ E (hr.make C us [])
  (I2.aaO.make C us []) (hb _ (bn (s.heap.objs.size+1)::us) I2.IE hl) r2 hq) λr s' NT=>?_))
 cases r with
 |error e=>exact hx pins σ _ _ e s' I2 NT
 |ok fl=>
  cases fl with
  |ret u=>
   obtain⟨v,H',I3,rv,ev,q3⟩:=I2.after NT;subst ev;exact⟨rv,⟨V.ref (s.heap.objs.size+1),H',I3,Z,q3⟩⟩
  |next=>exact dW NT
  |brk=>exact dW NT
  |cont=>exact dW NT
theorem lS(M:Mk X.K C f)(F:cD X.prog X.w X.K X.mg X.base CX k f fd ps sp)(hr:kL (k+1) X.A)(hg:Gl X x)(hm:X.mg x=aa (.ref C))(hb:Binds X.K fd ps ds)(hd:Vals B2 ds)(hx:Passes CX X E)
 (ha:PA X (e::es) t)(K4:(x==("__debug__":bV))=ae:=by decide)(he:bX (e::es) X.env=(ae,eval e X.env)::bX es X.env:=by rfl)(qg:(jC pos (bX es X.env)).any (·.1)=ae:=by rfl):
  PE X (.Call (.Name x p) (e::es) [] pos) (Vi C sp B2 E t):=by
 intros;refine dt (Aj I hg hm ?_ K4);refine nX (h₀:=X.base) I.ok.mod.Ya M.kp (ga (ha pos pins s σ H _ I h) λus s1 ⟨vs,H1,I1,r,q⟩=>⟨I1.IE,?_⟩) he qg;exact HK M F hr hb hd hx I1 r q
theorem P9(M:Mk X.K C f)(F:cD X.prog X.w X.K X.mg X.base CX k f fd ps sp)(hr:kL (k+1) X.A)(hg:Gl X x)(hm:X.mg x=aa (.ref C))(hb:Binds X.K fd ps ds)(hd:Vals B2 ds)(hx:Passes CX X E)
 (K4:(x==("__debug__":bV))=ae:=by decide):PE X (.Call (.Name x p) [] [] pos) (Vi C sp B2 E Tg):=by
 intros;refine dt (Aj I hg hm ?_ K4);exact JB I.IE M.kp (HK (us:=[]) M F hr hb hd hx I .nil h)
end
def PK(X:Cx)(ZA:List yU)(t:TA):Prop:=
 ∀(pos:ku)(pins:List (ao×gt))(s:aq)(σ:St)(H:Hp)(Q:V2->Hp->Prop),Inv X pins σ H s->t σ H Q->aU (bg X.prog X.w) X.A (evalAll ((uW pos (mR ZA X.env)).map (·.2))) (AP X pins σ Q) X.xe s
section
variable{X:Cx}{CX:Ot}{k:Nat}{f C:ao}{fd:gI}{ps ks:List bV}{sp:Sp}{E:XK}{x m:bV}{p pos lC kpos:ku}{e o:Expr}{es:List Expr}{ZA:List yU}{te ta:TE}{t tk:TA}{nm:Option bV}
theorem WH:PK X [] Tg:=λ_ _ _ _ H Q I h=>wpAny_evalAll_nil ⟨[],H,I,.nil,h⟩
theorem TB(ha:PE X e te)(hr:PK X ZA t):PK X (⟨nm,e,kpos⟩::ZA) (Vj te t):=by
 intro pos pins s σ H Q I h;show aU _ _ (evalAll ((do let v<-eval e X.env;standAt pos;pure v)::(uW pos (mR ZA X.env)).map (·.2))) _ _ s;refine wpAny_evalAll_cons (ag (ga (ha pins s σ H _ I h) λu s1 ⟨x,H1,I1,r1,q1⟩=>ag (MV (au ?_))));exact ga (hr pos pins s1 σ H1 _ I1 q1) λus s2 ⟨xs,H2,I2,r2,q2⟩=>⟨x::xs,H2,I2,.cons r1 r2,q2⟩
variable{g:X9->X9->X9}{gV:V2->V2->V2}
end
structure l6(N P:List bV)(sc:l_):Prop where
 kind:sc.kind= .function
 co:sc.isCoroutine=ae
 gen:sc.isGenerator=ae
 nd:N.Nodup
 pre:N.take P.length=P
 par:∀x∈P,sc.names.lookup x=aa .local\/sc.names.lookup x=aa .cell
 WU:∀y∈sc.names,y.2≠.free
theorem EU{kindOf:bV->Option iS} :∀{binds:List (bV×ai)}{m:bV->Option ai},(∀v,(x,v)∉binds)->Ow kindOf binds m x=m x
 |[],_,_=>rfl
 |(n,v)::r,m,h=>by
  unfold Ow;rw[EU λw hw=>h w (aD _ hw)];split
  ·have:x≠n:=by rintro rfl;exact h v cY
   simp[this]
  ·rfl
theorem EW{kindOf:bV->Option iS} :∀{binds:List (bV×ai)}{m:bV->Option ai},(∀v,(x,v)∉binds)->Ox kindOf binds m x=m x
 |[],_,_=>rfl
 |(n,v)::r,m,h=>by
  unfold Ox;rw[EW λw hw=>h w (aD _ hw)];split
  ·rfl
  ·have:x≠n:=by rintro rfl;exact h v cY
   simp[this]
theorem EV{kindOf:bV->Option iS}  :∀{P:List bV}{vs:X9}{i:Nat}{m:bV->Option ai},P.Nodup->P[i]? =aa x->vs[i]? =aa v->kindOf x=aa .local->
  Ow kindOf (P.zip vs) m x=aa v
 |[],_,_,_,_,h,_,_=>by simp at h
 |_::_,[],_,_,_,_,h,_=>by simp at h
 |p::P,w::vs,0,m,nd,h1,h2,hk=>by
  simp at h1 h2;subst h1;subst h2;show Ow kindOf ((p,w)::P.zip vs) m p=_;unfold Ow;rw[EU λv hv=>(cc.mp nd).1 (nM hv).1,aC hk];simp
 |p::P,w::vs,i+1,m,nd,h1,h2,hk=>by
  show Ow kindOf ((p,w)::P.zip vs) m x=_;unfold Ow;exact EV (i:=i) (cc.mp nd).2 (by simpa using h1) (by simpa using h2) hk
theorem EX{kindOf:bV->Option iS}  :∀{P:List bV}{vs:X9}{i:Nat}{m:bV->Option ai},P.Nodup->P[i]? =aa x->vs[i]? =aa v->kindOf x≠aa .local->
  Ox kindOf (P.zip vs) m x=aa v
 |[],_,_,_,_,h,_,_=>by simp at h
 |_::_,[],_,_,_,_,h,_=>by simp at h
 |p::P,w::vs,0,m,nd,h1,h2,hk=>by
  simp at h1 h2;subst h1;subst h2;show Ox kindOf ((p,w)::P.zip vs) m p=_;unfold Ox;rw[EW λv hv=>(cc.mp nd).1 (nM hv).1,aw hk];simp
 |p::P,w::vs,i+1,m,nd,h1,h2,hk=>by
  show Ox kindOf ((p,w)::P.zip vs) m x=_;unfold Ox;exact EX (i:=i) (cc.mp nd).2 (by simpa using h1) (by simpa using h2) hk
def start(N:List bV)(vs:V2):St:=vs.map aa++be (N.length - vs.length) ab
def Ld(CX:Ot)(P:ba)(w:World)(K:aj)(mg:bV->Option ai)(base:bO)(N:List bV)(qual:bV)(scope:l_)(f:ao)(cd:ai)(A:cb)(outer:List Hd)(s:aq)(H:Hp)(E:XK):Cx where
 prog:=P
 w:=w
 K:=K
 mg:=mg
 base:=base
 A:=A.deeper (vG qual scope s.heap.objs.size f cd)
 N:=N
 Ej:=s
 XV:=H
 env:=vG qual scope s.heap.objs.size f cd
 outer:=outer
 stack:=vG qual scope s.heap.objs.size f cd::outer
 ex:=[]
 calm:=ac
 fn:=λ_=>ac
 pn:=[]
 xe:=λe s'=>aU (bg P w) (A.deeper (vG qual scope s.heap.objs.size f cd)) (leaving (vG qual scope s.heap.objs.size f cd) e) (λ_ Ze=>CX outer H s E e Ze) (λe' Ze=>CX outer H s E e' Ze) s'
theorem Jh{sc:l_}{n:Nat}{x:bV}(h:sc.names.lookup x=aa .cell):∃c,(e9 n sc.names []).lookup x=aa c:=by
 have q:=E_ sc.names n [] (.inl h);exact iH.mp q
theorem NR{CX:Ot}{P:ba}{w:World}{K:aj}{mg:bV->Option ai}{base:bO}{N ps:List bV}{qual:bV}{scope:l_}{f:ao}{cd:ai}{A:cb}{outer:List Hd}{s s1:aq}{H:Hp}{E:XK}{us:X9}{vs:V2}
 (S:l6 N ps scope)(hd:A.handled=ab)(e0:Ls P w K mg base A outer s H)(hl:vs.length=ps.length)(r:Vals vs us)
 (x:InCallC s s.heap.objs.size (Ow (vG qual scope s.heap.objs.size f cd).kindOf (ps.zip us) λ_=>ab) (e9 (s.heap.objs.size+1) scope.names []) (Ox (vG qual scope s.heap.objs.size f cd).kindOf (ps.zip us) λ_=>ab) s1):
  Inv (Ld CX P w K mg base N qual scope f cd A outer s H E) [] (start N vs) H s1:=by
 have qg:ps.length<=N.length:=by have:=congrArg lL S.pre;rw[ck]at this;lia
 obtain⟨h1,tk,rfl,hk⟩:=x.done;have X_:∀b:ao,b∉(Ld CX P w K mg base N qual scope f cd A outer s H E).ex:=λb z=>absurd (show b∈([]:List ao)from z) (by simp);refine⟨⟨e0.mod,S.kind,Z,Z,aS _,λy z c h1 h2=>?_,λy hy=>?_,λy c _ h=>?_,λ_=>hd,Around.frames_deeper e0.frames,.inr ⟨Z,Z⟩,λb z=>absurd z (X_ b),e0.bs,e0.UN,λb _ _=>X_ b,λb z=>absurd z (X_ b),e0.zR,e0.XB⟩,
  rfl,e0.bare,Un.kept hk,⟨_,x.toInCall.ns,λi y v h1 h2 h3=>?_⟩,λy c h=>⟨_,x.cell y c h⟩,e0.f7.fresh (aS _),λy c h=>?_,λp hp=>absurd (show p∈([]:List (ao×gt))from hp) (by simp),e0.f7.kept hk,?_⟩
 ·exact name_of_addr x.apart (cz h1) (cz h2)
 ·have hy:scope.names.lookup y=aa .cell\/scope.names.lookup y=aa .free:=hy;rcases hy with hy|hy
  ·exact Jh hy
  ·exact absurd Z (S.WU _ (cz hy))
 ·exact eX (x.above y c (cz h))
 ·have hi:i<vs.length:=by
   unfold start at h2;by_cases hi:i<vs.length
   ·exact hi
   ·rw[jZ (by simpa using hi)]at h2;rw[List.getElem?_replicate]at h2;split at h2<;>cases h2
  have ha:vs[i]? =aa v:=by
   unfold start at h2;rw[kD (by simpa using hi),aA]at h2
   cases e:vs[i]? with
   |none=>rw[e]at h2;cases h2
   |some a=>rw[e]at h2;cases h2;rfl
  obtain⟨u,hu,rv⟩:=r.get ha;have hp:ps[i]? =aa y:=by
   rw[<-S.pre,GP om];exact h1
  have ndP:ps.Nodup:=by rw[<-S.pre];exact S.nd.sublist (List.take_sublist _ _)
  refine⟨u,rv,?_⟩;rcases S.par y (aP hp)with k|k
  ·exact .inl ⟨k,EV ndP hp hu k⟩
  ·obtain⟨c,e⟩:=Jh (n:=s.heap.objs.size+1) k;refine .inr ⟨.inl k,c,e,?_⟩;have q:=x.cell y c e;rw[EX ndP hp hu (by show scope.names.lookup y≠_;rw[k];decide)]at q;exact q
 ·exact e0.f7.fresh (eX (x.above y c (cz h)))
 ·unfold start;show _=N.length;rw[aQ,af,uE];lia
theorem aaL{CX:Ot}{P:ba}{w:World}{K:aj}{mg:bV->Option ai}{base:bO}{k:Nat}{f:ao}{name qual:bV}{params:Arguments}{body:List cG}{scope:l_}{dV kV doc pm fC ct oc:ai}{an od:Option ao}
 {WM:Array (Option ai)}{N ps:List bV}{sp:Sp}(lk:K.lookup f=aa ⟨oc,od,.func (lJ name qual params body scope dV kV doc pm an fC ct),WM⟩)(Su:O4 K fC qual=ac)(S:l6 N ps scope)
 (len:∀vs H Q E,sp vs H Q E->vs.length=ps.length)
  (IY:∀(A:cb) (outer:List Hd) (s:aq) (H:Hp) (vs:V2) (Q:VK) (E:XK),kL k (A.deeper (vG qual scope s.heap.objs.size f fC))->sp vs H Q E->
   ∃t,MR (Ld CX P w K mg base N qual scope f fC A outer s H E) body t/\t {nx:=λ_ H'=>Q .iy H',rt:=Q} (start N vs) H):
  cD P w K mg base CX (k+1) f (lJ name qual params body scope dV kV doc pm an fC ct) ps sp:=by
 refine⟨len,λA outer s H args us vs Q E hr e0 hb r Sj=>?_⟩;have hl:=len _ _ _ _ Sj;have KX:K.In s.heap:=e0.mod.Ya.keeps λb o e=>(e0.bs b o e).1;have lim:s.heap.NoLimit:=e0.mod.nolimit.keeps λb o e=>(e0.bs b o e).1;have Z3:∀y∈ps.zip us,scope.names.lookup y.1=aa .local\/(scope.names.lookup y.1=aa .cell/\((e9 (s.heap.objs.size+1) scope.names []).lookup y.1).isSome=ac):=λ⟨n,v⟩ hy=>by
  rcases S.par n (nM hy).1 with q|q
  ·exact .inl q
  ·exact .inr ⟨q,E_ _ _ _ (.inl q)⟩
 refine codeAny_call_function hr.depth (KX _ _ lk) Z S.co S.gen Z (PySem.W.codeRec_of KX Su) (hb _ _ _ _ ?_);refine wpAny_newFunctionEnv_cells S.kind Z3 λenv he s1 x=>?_;subst he;refine⟨lim.keeps x.toInCall.keep,codeAny_func ?_⟩;obtain⟨t,ht,hq⟩:=IY A outer s H vs Q E (hr.deeper _) Sj;have I:Inv (Ld CX P w K mg base N qual scope f fC A outer s H E) [] (start N vs) H s1:=NR S hr.hd e0 hl r x;refine f? (ht [] s1 (start N vs) H _ I hq) (λfl s' hs=>?_) λe s' hs=>hs;have fin:∀{jd:St}{H':Hp}{v:V}{u:ai},Inv (Ld CX P w K mg base N qual scope f fC A outer s H E) [] jd H' s'->RelV v u->Q v H'->CE outer P w H s Q u s':=
  λ{jd H' v u} J rv q=>⟨v,H',J.os,J.bare,J.base,J.f7,rv,q⟩
 cases fl with
 |ret u=>
  obtain⟨v,jd,H',J,rv,q⟩:=hs;exact fin J rv q
 |next=>
  obtain⟨jd,H',J,q⟩:=hs;exact fin (v:=V.iy) (u:=eO) J Z q
 |brk=>
  obtain⟨_,_,_,q⟩:=hs;exact dW q
 |cont=>
  obtain⟨_,_,_,q⟩:=hs;exact dW q
section
variable{X:Cx}{x:bV}{p pos:ku}{e:Expr}{es:List Expr}{t:TA}{id T:String}{r:V2->Hp->VK->Prop}
def aeG(r:V2->Hp->VK->Prop)(t:TA):TE:=λσ H Q=>t σ H λvs H1=>r vs H1 Q
theorem bF(hc:sF X (.builtin id) r)(hg:Gl X x)(hm:X.mg x=ab)(hv:g_ x=aa (.builtin id))(ha:PA X (e::es) t)(hn:x≠"__name__":=by decide)(K4:(x==("__debug__":bV))=ae:=by decide)
 (he:bX (e::es) X.env=(ae,eval e X.env)::bX es X.env:=by rfl)(qg:(jC pos (bX es X.env)).any (·.1)=ae:=by rfl):PE X (.Call (.Name x p) (e::es) [] pos) (aeG r t):=by
 intros;refine dt (nk I hg hm hv ?_ hn K4);exact lF (ga (ha pos pins s σ H _ I h) λus s1 ⟨vs,H1,I1,r1,q1⟩=>hc pins s1 σ H1 vs us Q I1 r1 q1) he qg
theorem Er(hc:sF X (.type T) r)(hg:Gl X x)(hm:X.mg x=ab)(hv:g_ x=aa (.type T))(ha:PA X (e::es) t)(hn:x≠"__name__":=by decide)(K4:(x==("__debug__":bV))=ae:=by decide)
 (he:bX (e::es) X.env=(ae,eval e X.env)::bX es X.env:=by rfl)(qg:(jC pos (bX es X.env)).any (·.1)=ae:=by rfl):PE X (.Call (.Name x p) (e::es) [] pos) (aeG r t):=by
 intros;refine dt (nk I hg hm hv ?_ hn K4);exact dz (ga (ha pos pins s σ H _ I h) λus s1 ⟨vs,H1,I1,r1,q1⟩=>hc pins s1 σ H1 vs us Q I1 r1 q1) he qg
end
end L2
namespace HT
local macro_rules|`(tactic|intros)=>`(tactic|intro pins s σ H Q I h)
open PySem PyProof.Rows
def lexLt:xC->xC->Bool
 |[],[]=>ae
 |[],_::_=>ac
 |_::_,[]=>ae
 |x::xs,y::ys=>if x=y then lexLt xs ys else decide (x<y)
theorem By(x y:Int)(xs ys:xC):lexLt (x::xs) (y::ys)=if x=y then lexLt xs ys else decide (x<y):=rfl
theorem Rx(A:cb)(s:aq)(a:Int)(t:qc)(c:Int)(u:qc):∃e,MZ A s (.int a t) (.int c u) e/\(e=ac↔a=c):=
 ⟨(a==c),GH a t c u,by simp⟩
theorem PZ(A:cb)(s:aq)(a:Int)(t:qc)(c:Int)(u:qc)(prog:ba)(w:World)(E:ai->aq->Prop)(Q:ai->aq->Prop)(h:Q (.bool (decide (a<c))) s):
  aU (bg prog w) A (richCompare .Lt (.int a t) (.int c u)) Q E s:=
 (PyProof.Rows.lt_int h:aU (bg prog w) A (d? .Lt (.int a t) (.int c u)) Q E s)
section
open PySem.SeqAt
open PySem.AutoSeq1 (wpAny_loadPart')
open PySem.MeetsSeq PySem.MeetsSeq2 PySem.MeetsSeq3
end
variable{prog:ba}{w:World}{A:cb}{E:ai->aq->Prop}{s:aq}
def HJ(n d:Nat):Option Int->Nat
 |none=>d
 |some v=>if v<0 then(v+(n:Int)).toNat else min v.toNat n
theorem HI(n d:Nat):HJ n d ab=d:=rfl
theorem z?(n d k:Nat):HJ n d (aa (k:Int))=min k n:=by
 show(if(k:Int)<0 then((k:Int)+(n:Int)).toNat else min (k:Int).toNat n)=min k n;rw[aw om,aG]
end HT
namespace L2
local macro_rules|`(tactic|intros)=>`(tactic|intro pins s σ H Q I h)
open PySem PySem.Spec PyProof.Rows
abbrev TO:=St->Hp->(Option Int->Hp->Prop)->Prop
def PO(X:Cx)(e:Option Expr)(t:TO):Prop:=
 ∀(pins:List (ao×gt))(s:aq)(σ:St)(H:Hp)(Q:Option Int->Hp->Prop),Inv X pins σ H s->t σ H Q->
  aU (bg X.prog X.w) X.A (evalPart e X.env) (λu s'=>∃o H',Inv X pins σ H' s'/\IsPart u o/\Q o H') X.xe s
def Tf:TO:=λ_ H Q=>Q ab H
inductive afl(Q:Option Int->Hp->Prop)(x:V)(H1:Hp):Prop
 |mk(i:_)(_:x= .int i)(_:Q (aa i) H1)
def YZ(t:TE):TO:=λσ H Q=>t σ H (afl Q)
theorem intsAre_of :∀{us:X9},Vals (ns.map V.int) us->f9 us ns:=by
 induction ns with
 |nil=>intro us r;rw[oQ]at r;cases r;exact .nil
 |cons n ns ih=>
  intro us r;rw[bC]at r
  cases r with
  |cons r1 r2=>
   obtain⟨t,e⟩:=r1;subst e;exact .cons n t (ih r2)
section
variable{X:Cx}{e:Expr}{te:TE}{lo hi:Option Expr}{tl th:TO}{pos p2:ku}
theorem ph:PO X ab Tf:=by
 intros;rw[evalPart_none];exact au ⟨ab,H,I,.none,h⟩
theorem gZ(h:PE X e te):PO X (aa e) (YZ te):=by
 intro pins s σ H Q I hw;rw[evalPart_some];refine ga (h pins s σ H _ I hw) λu s1 ⟨x,H1,I1,r1,q1⟩=>?_;obtain⟨i,rfl,q⟩:=q1;obtain⟨t,rfl⟩:=r1;exact⟨aa i,H1,I1,.int i t,q⟩
def aez(X:Cx)(r:V->Option Int->Option Int->Hp->VK->Prop):Prop:=
 ∀(pins:List (ao×gt))(s:aq)(σ:St)(H:Hp)(x:V)(v vl vu:ai)(lo hi:Option Int)(sl:ao)(Q:VK),Inv X pins σ H s->RelV x v->s.heap.IsSliceOf sl vl vu .none->IsPart vl lo->IsPart vu hi->r x lo hi H Q->
  ∃T id,Az (.type T) "__getitem__"=pure (aa (.builtin id))/\s.TypeIs v T/\aU (bg X.prog X.w) X.A (Jy v (.ref sl)) (EP X pins σ Q) X.xe s
def aeU(r:V->Option Int->Option Int->Hp->VK->Prop)(te:TE)(tl th:TO):TE:=λσ H Q=>te σ H λx H1=>tl σ H1 λl H2=>th σ H2 λu H3=>r x l u H3 Q
theorem iM(hr:aez X r)(he:PE X e te)(hl:PO X lo tl)(hu:PO X hi th):PE X (.Subscript e (.Slice lo hi ab p2) pos) (aeU r te tl th):=by
 intros;refine V6 (ga (he pins s σ H _ I h) λv s1 ⟨x,H1,I1,r1,q1⟩=>?_);refine wpAny_Slice (ga (hl pins s1 σ H1 _ I1 q1) λvl s2 ⟨l,H2,I2,pl,q2⟩=>ga (hu pins s2 σ H2 _ I2 q2) λvu s3 ⟨u,H3,I3,pu,q3⟩=>?_);rw[evalPart_none];refine au ?_;have I4:Inv X pins σ H3 {s3 with heap:=s3.heap.push {cls:=.type "slice",data:=.fields #[vl,vu,.none]}}:=I3.kept (t':=s3.toks) λb ob q=>az _ q;obtain⟨T,id,hT,ht,hg⟩:=hr pins {s3 with heap:=s3.heap.push {cls:=.type "slice",data:=.fields #[vl,vu,.none]}} σ H3 x v vl vu l u s3.heap.objs.size Q I4 r1 (Heap.IsSliceOf.new ..) pl pu q3;show aU (bg X.prog X.w) X.A (MX e (.Slice lo hi ab p2) v (.ref s3.heap.objs.size)) (EP X pins σ Q) X.xe {s3 with heap:=s3.heap.push {cls:=.type "slice",data:=.fields #[vl,vu,.none]}};exact tail_any (ops:=[.ref s3.heap.objs.size,v]) ht hT hg (by with_unfolding_all rfl)
def qP(xs:V2)(lo hi:Option Int):V2:=(xs.drop (HT.HJ xs.length 0 lo)).take (HT.HJ xs.length xs.length hi - HT.HJ xs.length 0 lo)
theorem Je(xs:V2)(lo hi:Option Int):(qP xs lo hi).length<=xs.length:=by
 unfold qP;rw[ck,gj];lia
theorem Vals.TU(r:Vals xs us):us=[]↔xs=[]:=by
 cases r with
 |nil=>simp
 |cons _ _=>simp
end
def VA(n:Nat)(i:Int):Option Nat:=if 0<=i then(if i<n then aa i.toNat else ab)else if -(n:Int)<=i then aa (i+n).toNat else ab
def Ol{α:Type}(xs:List α)(i:Int):Option α:=(VA xs.length i).bind λj=>xs[j]?
theorem Ml(h:VA n i=aa j):E5 i n=aa j/\j<n/\ -(n:Int)<=i/\i<n:=by
 unfold VA at h;by_cases h0:0<=i
 ·rw[aC h0]at h;by_cases h1:i<n
  ·rw[aC h1]at h;have e:i.toNat=j:=bN h;exact⟨by rw[seqIndex_of h0 h1,e],om,om,h1⟩
  ·rw[aw h1]at h;cases h
 ·rw[aw h0]at h;by_cases h1: -(n:Int)<=i
  ·rw[aC h1]at h;have e:(i+n).toNat=j:=bN h;exact⟨by rw[seqIndex_neg om h1,e],om,h1,om⟩
  ·rw[aw h1]at h;cases h
theorem MO{α:Type}{xs:List α}{i:Int}{v:α}(h:Ol xs i=aa v):∃j,E5 i xs.length=aa j/\xs[j]? =aa v/\j<xs.length/\ -(xs.length:Int)<=i/\i<xs.length:=by
 unfold Ol at h
 cases e:VA xs.length i with
 |none=>rw[e]at h;cases h
 |some j=>
  rw[e]at h;obtain⟨h1,h2,h3,h4⟩:=Ml e;exact⟨j,h1,h,h2,h3,h4⟩
theorem MN{α:Type}{xs:List α}{j:Nat}{v:α}(h:xs[j]? =aa v):Ol xs (j:Int)=aa v:=by
 have hj:j<xs.length:=(aY.mp h).1;have e:VA xs.length (j:Int)=aa j:=by
  unfold VA;rw[aC om,aC om];simp
 unfold Ol;rw[e];exact h
def UT(b:Expr):Prop:=∀o i,GC b ae o i=operate [o,i] (Jy o i)
def Cb(X:Cx)(r:R2):Prop:=
 ∀(eT wO:Expr)(pins:List (ao×gt))(s:aq)(σ:St)(H:Hp)(x y:V)(v u:ai)(Q:VK),Inv X pins σ H s->RelV x v->RelV y u->r x y H Q->
  GC wO ae v u=operate [v,u] (Jy v u)->aU (bg X.prog X.w) X.A (MX eT wO v u) (EP X pins σ Q) X.xe s
def YN(X:Cx)(id:String)(r:V->V2->Hp->VK->Prop):Prop:=
 ∀(pins:List (ao×gt))(s:aq)(σ:St)(H:Hp)(x:V)(xs:V2)(v:ai)(us:X9)(Q:VK),Inv X pins σ H s->RelV x v->Vals xs us->r x xs H Q->
  aU (bg X.prog X.w) X.A (call (.builtin id) (v::us)) (EP X pins σ Q) X.xe s
section
variable{X:Cx}{a b:Expr}{ta tb:TE}{pos:ku}
theorem cu(hr:Cb X r)(ha:PE X a ta)(hb:PE X b tb)(hs:UT b):PE X (.Subscript a b pos) (abj r ta tb):=by
 intros;exact V6 (XO ha hb I h λv u s2 x y H2 I2 rx ry q=>hr a b pins s2 σ H2 x y v u Q I2 rx ry q (hs _ _))
inductive Zm(K:aj)(x y:V)(H:Hp)(Q:VK):Prop
 |mk(p xs i v:_)(_:x= .ref p)(_:y= .int i)(_:bQ K H p xs)(_:Ol xs i=aa v)(_:Q v H)
inductive Zl(K:aj)(x y:V)(H:Hp)(Q:VK):Prop
 |mk(p xs i v:_)(_:x= .ref p)(_:y= .int i)(_:tE K H p xs)(_:Ol xs i=aa v)(_:Q v H)
theorem bP:Cb X (Zm X.K):=by
 intro eT wO pins s σ H x y v u Q I rx ry h hs;obtain⟨p,xs,i,z,rfl,rfl,hq,he,q⟩:=h
 cases rx;obtain⟨t,rfl⟩:=ry;obtain⟨its,r,pl,hz⟩:=I.list hq;obtain⟨j,h1,h2,h3,h4,h5⟩:=MO he;obtain⟨w,ew,C?⟩:=r.get h2;have hl:=r.length;have hn:=KQ;have fin:EP X pins σ Q w s:=⟨z,H,I,C?,q⟩;by_cases h0:0<=i
 ·have hj:i.toNat=j:=by
   rw[seqIndex_of h0 h5]at h1;exact bN h1
  exact item_listR pl.isList h0 om (by rw[hj];simpa using ew) fin hs
 ·have hj:(i+(its.toArray.size:Int)).toNat=j:=by
   rw[seqIndex_neg om h4]at h1;rw[bm,<-hl];exact bN h1
  exact OR (x:=w) pl.isList.typeIs slot_list_getitem.lookup
   (wpAny_getItem_list_neg (Q:=λr s'=>r=w/\EP X pins σ Q r s') pl.isList om (by rw[bm]<;>lia) om (by rw[hj];simpa using ew) ⟨Z,fin⟩) hs
theorem v7:Cb X (Zl X.K):=by
 intro eT wO pins s σ H x y v u Q I rx ry h hs;obtain⟨p,xs,i,z,rfl,rfl,hq,he,q⟩:=h
 cases rx;obtain⟨t,rfl⟩:=ry;obtain⟨its,r,pl,hz⟩:=I.tuple hq;obtain⟨j,h1,h2,h3,h4,h5⟩:=MO he;obtain⟨w,ew,C?⟩:=r.get h2;have hl:=r.length;have hn:=KQ;have fin:EP X pins σ Q w s:=⟨z,H,I,C?,q⟩;exact OR (x:=w) pl.typeIs slot_tuple_getitem.lookup
  (getItem_tuple (j:=j) (Q:=λr s'=>r=w/\EP X pins σ Q r s') pl om om (by rw[bm,<-hl];exact h1) (by simpa using ew) ⟨Z,fin⟩) hs
theorem Ft(lo hi:Option Int)(n:Nat):(oV lo hi ab n).1=((HT.HJ n 0 lo:Nat):Int)/\(oV lo hi ab n).2.1=((HT.HJ n n hi:Nat):Int)/\(oV lo hi ab n).2.2=1:=by
 refine⟨?_,?_,Z⟩
 ·cases lo with
  |none=>simp[oV,HT.HJ]
  |some i=>
   simp only[oV,HT.HJ,yS,show(1:Int)>0 by decide,if_true];by_cases h:i<0
   ·simp only[h,if_true]<;>lia
   ·simp only[h,if_false]<;>lia
 ·cases hi with
  |none=>simp[oV,HT.HJ]
  |some i=>
   simp only[oV,HT.HJ,yS,show(1:Int)>0 by decide,if_true];by_cases h:i<0
   ·simp only[h,if_true]<;>lia
   ·simp only[h,if_false]<;>lia
theorem CZ(its:X9)(lo hi:Option Int):slicePick its.toArray lo hi ab=((its.drop (HT.HJ its.length 0 lo)).take (HT.HJ its.length its.length hi - HT.HJ its.length 0 lo)).toArray:=by
 obtain⟨h1,h2,h3⟩:=Ft lo hi its.toArray.size;unfold slicePick;rw[h1,h2,h3];simp only[sliceRange_one,pick_run,bm]<;>rfl
inductive Zk(K:aj)(x:V)(lo hi:Option Int)(H:Hp)(Q:VK):Prop
 |mk(a xs:_)(_:x= .ref a)(_:bQ K H a xs)(_:∀p,H p=ab->Q (.ref p) (upd H p (.lst (qP xs lo hi))))
theorem lP:aez X (Zk X.K):=by
 intro pins s σ H x v vl vu lo hi sl Q I rx hs pl pu h;obtain⟨a,xs,rfl,hx,q⟩:=h
 cases rx;obtain⟨its,r,ht,hz⟩:=I.list hx;have c6:=r.length;refine⟨"list",_,slot_list_getitem.lookup,ht.isList.typeIs,?_⟩;refine wpAny_getItem_list_slice ht.isList hs pl pu .none (by simp) ?_ (by rw[bm]<;>lia);rw[CZ,<-c6];refine⟨.ref s.heap.objs.size,_,I.laid (t':=s.toks) (o:=.lst (qP xs lo hi)) (λb ob q=>az _ q) (aS _) ?_,Z,q _ (I.f7.fresh (aS _))⟩;exact⟨aB (Je xs lo hi) hz,_,0,(r.drop (HT.HJ xs.length 0 lo)).take (HT.HJ xs.length xs.length hi - HT.HJ xs.length 0 lo),aT _ Z⟩
def pH:V->Bool
 | .iy=>ac
 | .bl _=>ac
 | .int _=>ac
 | .str _=>ac
 |_=>ae
def JN:V->V->Bool
 | .iy,.iy=>ac
 | .bl a,.bl b=>a==b
 | .bl a,.int b=>(if a then 1 else 0)==b
 | .int a,.bl b=>a==(if b then 1 else 0)
 | .int a,.int b=>a==b
 | .str a,.str b=>a==b
 |_,_=>ae
theorem XC(ry:RelV y u)(rx:RelV x v)(fy:pH y=ac)(fx:pH x=ac):MZ A s u v (JN y x):=by
 cases y with
 |iy=>
  cases ry
  cases x with
  |iy=>cases rx;exact SeqAt.EqAt.same _
  |bl b=>cases rx;exact SeqAt.EqAt.none_bool b
  |int b=>obtain⟨t,rfl⟩:=rx;exact SeqAt.EqAt.none_int b t
  |str b=>obtain⟨t,rfl⟩:=rx;exact SeqAt.EqAt.none_str b t
  |_=>exact absurd (show ae=ac from fx) bf
 |bl a=>
  cases ry
  cases x with
  |iy=>cases rx;exact SeqAt.EqAt.bool_none a
  |bl b=>cases rx;exact SeqAt.EqAt.bool_bool a b
  |int b=>obtain⟨t,rfl⟩:=rx;exact SeqAt.EqAt.bool_int a b t
  |str b=>obtain⟨t,rfl⟩:=rx;exact SeqAt.EqAt.bool_str a b t
  |_=>exact absurd (show ae=ac from fx) bf
 |int a=>
  obtain⟨t',rfl⟩:=ry
  cases x with
  |iy=>cases rx;exact SeqAt.EqAt.int_none a t'
  |bl b=>cases rx;exact SeqAt.EqAt.int_bool a t' b
  |int b=>obtain⟨t,rfl⟩:=rx;exact GH a t' b t
  |str b=>obtain⟨t,rfl⟩:=rx;exact GG a t' b t
  |_=>exact absurd (show ae=ac from fx) bf
 |str a=>
  obtain⟨t',rfl⟩:=ry
  cases x with
  |iy=>cases rx;exact SeqAt.EqAt.str_none a t'
  |bl b=>cases rx;exact SeqAt.EqAt.str_bool a t' b
  |int b=>obtain⟨t,rfl⟩:=rx;exact GF a t' b t
  |str b=>obtain⟨t,rfl⟩:=rx;exact SeqAt.EqAt.str_str a t' b t
  |_=>exact absurd (show ae=ac from fx) bf
 |_=>exact absurd (show ae=ac from fy) bf
def JO(x:V)(u:ai):Bool:=match u with
 | .none=>JN .iy x
 | .bool b=>JN (.bl b) x
 | .int i _=>JN (.int i) x
 | .str z _=>JN (.str z) x
 |_=>ae
theorem Gm(r:RelV y u)(f:pH y=ac):JO x u=JN y x:=by
 cases y with
 |iy=>cases r;rfl
 |bl b=>cases r;rfl
 |int i=>obtain⟨t,rfl⟩:=r;rfl
 |str z=>obtain⟨t,rfl⟩:=r;rfl
 |_=>exact absurd (show ae=ac from f) bf
theorem xH :∀{xs:V2}{us:X9},Vals xs us->xs.all pH=ac->us.any (JO x)=xs.any λy=>JN y x
 |_,_,.nil,_=>rfl
 |y::xs,u::us,.cons r t,f=>by
  rw[gT,aK]at f;rw[d9,d9,Gm r f.1,xH t f.2]
theorem qH(rx:RelV x v)(fx:pH x=ac):∀{xs:V2}{us:X9},Vals xs us->xs.all pH=ac->∀u∈us,MZ A s u v (JO x u)
 |_,_,.nil,_=>λu hu=>by cases hu
 |y::xs,u::us,.cons r t,f=>λu' hu=>by
  rw[gT,aK]at f;rcases aF.mp hu with rfl|hu
  ·rw[Gm r f.1];exact XC r rx f.1 fx
  ·exact qH rx fx t f.2 u' hu
def DA(x:V)(xs:V2):Bool:=xs.any λy=>JN y x
inductive abv(K:aj)(neg:Bool)(x y:V)(H:Hp)(Q:VK):Prop
 |mk(p xs:_)(_:y= .ref p)(_:(bQ K H p xs\/tE K H p xs))(_:pH x=ac)(_:xs.all pH=ac)(_:Q (.bl (if neg then !DA x xs else DA x xs)) H)
theorem uM:wx X (d? .In) (abv X.K ae):=by
 intro pins s σ H x y v u Q I rx ry h;obtain⟨p,xs,rfl,hq,fx,fs,q⟩:=h
 cases ry;rcases hq with hq|hq
 ·obtain⟨its,r,pl,hz⟩:=I.list hq;refine SeqAt.in_listAt (JO x) pl.isList (λw hw=>qH rx fx r fs w (by simpa using hw)) ⟨.bl _,H,I,Z,?_⟩;rw[show its.toArray.any (JO x)=its.any (JO x) by simp,xH r fs];exact q
 ·obtain⟨its,r,pl,hz⟩:=I.tuple hq;refine SeqAt.in_tupleAt (JO x) pl (λw hw=>qH rx fx r fs w (by simpa using hw)) ⟨.bl _,H,I,Z,?_⟩;rw[show its.toArray.any (JO x)=its.any (JO x) by simp,xH r fs];exact q
theorem xg:wx X (d? .NotIn) (abv X.K ac):=by
 intro pins s σ H x y v u Q I rx ry h;obtain⟨p,xs,rfl,hq,fx,fs,q⟩:=h
 cases ry;rcases hq with hq|hq
 ·obtain⟨its,r,pl,hz⟩:=I.list hq;refine SeqAt.notIn_listAt (JO x) pl.isList (λw hw=>qH rx fx r fs w (by simpa using hw)) ⟨.bl _,H,I,Z,?_⟩;rw[show its.toArray.any (JO x)=its.any (JO x) by simp,xH r fs];exact q
 ·obtain⟨its,r,pl,hz⟩:=I.tuple hq;refine SeqAt.notIn_tupleAt (JO x) pl (λw hw=>qH rx fx r fs w (by simpa using hw)) ⟨.bl _,H,I,Z,?_⟩;rw[show its.toArray.any (JO x)=its.any (JO x) by simp,xH r fs];exact q
theorem bq:sF X (.builtin "len") (λxs H Q=>∃p ys,xs=[.ref p]/\(bQ X.K H p ys\/tE X.K H p ys)/\Q (.int ys.length) H):=by
 intro pins s σ H xs us Q I r h;obtain⟨p,ys,rfl,hq,q⟩:=h;obtain⟨u,rfl,rx⟩:=vals1 r
 cases rx;have hn:=KQ;rcases hq with hq|hq
 ·obtain⟨its,r',pl,hz⟩:=I.list hq;have c6:=r'.length;exact Calls.call_len_list pl.isList (by simp only[bm]<;>lia) ⟨.int ys.length,H,I.tok _,⟨s.toks+1,by rw[bm,c6]⟩,q⟩
 ·obtain⟨its,r',pl,hz⟩:=I.tuple hq;have c6:=r'.length;exact len_tuple pl (by simp only[bm]<;>lia) ⟨.int ys.length,H,I.tok _,⟨s.toks+1,by rw[bm,c6]⟩,q⟩
def acf(K:aj)(T:String)(x:V)(H:Hp):Prop:=match x with
 | .str _=>T="str"
 | .int _=>T="int"
 | .ref p=>(T="list"/\∃xs,bQ K H p xs)\/(T="tuple"/\∃o,K.lookup p=aa o/\o.cls= .type "tuple"/\o.dict=ab)\/
   (T="dict"/\((∃kvs,H p=aa (.dK kvs))\/∃kvs,H p=aa (.dT kvs)))\/(T="set"/\∃S n,H p=aa (.set S n))
 |_=>False
theorem Pu(I:Inv X pins σ H s)(r:RelV x v)(ty:acf X.K T x H):
  s.TypeIs v T/\∀a,v= .ref a->∃ob,s.heap.get? a=aa ob/\ob.dict=ab:=by
 cases x with
 |str z=>
  obtain⟨t,rfl⟩:=r
  cases(show T="str"from ty);exact⟨typeIs_str s z t,λ_ e=>nomatch e⟩
 |int i=>
  obtain⟨t,rfl⟩:=r
  cases(show T="int"from ty);exact⟨V0 s i t,λ_ e=>nomatch e⟩
 |ref p=>
  cases r;rcases ty with⟨rfl,xs,hq⟩|⟨rfl,o,hk,hc,hd⟩|⟨rfl,hk⟩|⟨rfl,S,n,hk⟩
  ·obtain⟨its,_,pl,_⟩:=I.list hq;refine⟨pl.isList.typeIs,λa e=>?_⟩
   cases e;obtain⟨o,n,e,c,hd,_⟩:=pl;exact⟨o,e,hd⟩
  ·refine⟨⟨o,I.IE p o hk,hc⟩,λa e=>?_⟩
   cases e;exact⟨o,I.IE _ o hk,hd⟩
  ·have z:∃o,s.heap.get? p=aa o/\o.ExactDict:=by
    rcases hk with⟨kvs,hk⟩|⟨kvs,hk⟩
    ·obtain⟨_,_,_,_,o,_,_,e,ex,_⟩:=I.f7 p _ hk;exact⟨o,e,ex⟩
    ·obtain⟨_,_,_,_,o,_,_,e,ex,_⟩:=I.f7 p _ hk;exact⟨o,e,ex⟩
   obtain⟨o,e,ex⟩:=z;refine⟨⟨o,e,ex.1⟩,λa e2=>?_⟩
   cases e2;exact⟨o,e,ex.2.1⟩
  ·obtain⟨o,_,_,_,e,ex,_⟩:=I.f7 p _ hk;refine⟨⟨o,e,ex.1⟩,λa e2=>?_⟩
   cases e2;exact⟨o,e,ex.2.1⟩
 |_=>exact dW ty
inductive afD(K:aj)(T:String)(r:V->V2->Hp->VK->Prop)(Q:VK)(x:V)(H1:Hp):Prop
 |mk(_:acf K T x H1)(_:r x [] H1 Q)
def acp(K:aj)(T:String)(r:V->V2->Hp->VK->Prop)(to:TE):TE:=λσ H Q=>to σ H (afD K T r Q)
inductive afJ(K:aj)(T:String)(r:V->V2->Hp->VK->Prop)(t:TA)(σ:St)(Q:VK)(x:V)(H1:Hp):Prop
 |mk(_:acf K T x H1)(_:t σ H1 λxs H2=>r x xs H2 Q)
def aeY(K:aj)(T:String)(r:V->V2->Hp->VK->Prop)(to:TE)(t:TA):TE:=λσ H Q=>to σ H (afJ K T r t σ Q)
variable{o e:Expr}{es:List Expr}{to:TE}{t:TA}{name:bV}{lC lA:ku}{T id:String}{r:V->V2->Hp->VK->Prop}
theorem WK(pa:PlainAttrs T)(slot:Slot T name id)(ac?:typeOf (.builtin id)=pure (.type "method_descriptor"))(hm:YN X id r)(ho:PE X o to)
 (IZ:jW o name X.env (eval o X.env)=eval o X.env:=by rfl)(IV:(lC.endLine==lA.line)=ac:=by rfl):PE X (.Call (.Attribute o name lC) [] [] lA) (acp X.K T r to):=by
 intros;refine wpAny_Call_method0_late IZ IV (ga (ho pins s σ H _ I h) λv s1 ⟨x,H1,I1,r1,ty,q1⟩=>?_);obtain⟨h1,h2⟩:=Pu I1 r1 ty;exact⟨T,id,pa,slot,ac?,h1,h2,fM Z (PySem.evalArgs_none (hm pins s1 σ H1 x [] v [] Q I1 r1 .nil q1))⟩
theorem jK(pa:PlainAttrs T)(slot:Slot T name id)(ac?:typeOf (.builtin id)=pure (.type "method_descriptor"))(hm:YN X id r)(ho:PE X o to)(ha:PA X (e::es) t)
 (IZ:jW o name X.env (eval o X.env)=eval o X.env:=by rfl)
  (adU:((jC lA (bX (e::es) X.env)).all (λx=>!x.1)&&(uW lA (mR [] X.env)).all (λx=>x.1.isSome)
   &&decide ((e::es).length+([]:List yU).length+(if([]:List yU).isEmpty then 0 else 1)<30))=ac:=by rfl)
  (IV:(lC.endLine==lA.line)=ac:=by rfl) (hs:bX (e::es) X.env=(ae,eval e X.env)::bX es X.env:=by rfl) (W':(jC lA (bX es X.env)).any (·.1)=ae:=by rfl):
  PE X (.Call (.Attribute o name lC) (e::es) [] lA) (aeY X.K T r to t):=by
 intros;refine wpAny_Call_method_late IZ adU IV Z (ga (ho pins s σ H _ I h) λv s1 ⟨x,H1,I1,r1,ty,q1⟩=>?_);obtain⟨h1,h2⟩:=Pu I1 r1 ty;refine⟨T,id,pa,slot,ac?,h1,h2,?_⟩;have hA:=ha lA pins s1 σ H1 _ I1 q1;rw[hs]at hA ⊢;refine fM (by show(ae||(jC lA (bX es X.env)).any (·.1))=ae;rw[W']<;>rfl) (iB ?_);exact ga hA λus s2 ⟨vs,H2,I2,r2,q2⟩=>hm pins s2 σ H2 x vs v us Q I2 r1 r2 q2
end
def aa6(X:Cx)(id:String)(r:V->V2->Hp->VK->Prop):Prop:=
 ∀(pins:List (ao×gt))(s:aq)(σ:St)(H:Hp)(x:V)(xs:V2)(v:ai)(us:X9)(Q:VK),Inv X pins σ H s->RelV x v->Vals xs us->r x xs H Q->
  aU (bg X.prog X.w) X.A (call (.builtin id) (v::us)) (EP X pins σ Q) X.xe s
theorem Vals.inv {l us} (h:Vals l us):match l with|[]=>us=[]|x::xs=>∃u r,us=u::r/\RelV x u/\Vals xs r:=by
 cases h with
 |nil=>rfl
 |cons a b=>exact⟨_,_,rfl,a,b⟩
theorem Vals.one{x:V}{us:X9}(h:Vals [x] us):∃u,us=[u]/\RelV x u:=by
 obtain⟨u,r,rfl,a,b⟩:=h.inv;cases(b.inv:r=[]);exact⟨_,rfl,a⟩
theorem Vals.two{x y:V}{us:X9}(h:Vals [x,y] us):∃u v,us=[u,v]/\RelV x u/\RelV y v:=by
 obtain⟨u,r,rfl,a,b⟩:=h.inv;obtain⟨v,r,rfl,c,e⟩:=b.inv;cases(e.inv:r=[]);exact⟨_,_,rfl,a,c⟩
theorem Vals.zero:∀{us:X9},Vals [] us->us=[]
 |_,.nil=>rfl
theorem Vals.dropLast(h:Vals xs us):Vals xs.dropLast us.dropLast:=by
 induction h with
 |nil=>exact .nil
 |cons r t ih=>
  cases t with
  |nil=>exact .nil
  |cons q t'=>exact .cons r ih
theorem Vals.eraseIdx:∀{xs:V2}{us:X9}(i:Nat),Vals xs us->Vals (xs.eraseIdx i) (us.eraseIdx i)
 |_,_,_,.nil=>.nil
 |_,_,0,.cons _ t=>t
 |_,_,i+1,.cons r t=>.cons r (Vals.eraseIdx i t)
theorem Vals.rep(h:Vals xs us):∀k:Nat,Vals (be k xs).flatten (be k us).flatten
 |0=>.nil
 |k+1=>by
  rw[cM,cM,d8,d8];exact Vals.append h (Vals.rep h k)
theorem K'{α:Type}(l:List α):l.eraseIdx (l.length - 1)=l.dropLast:=by
 induction l with
 |nil=>rfl
 |cons a r ih=>
  cases r with
  |nil=>rfl
  |cons b r=>
   have e:(a::b::r).length - 1=((b::r).length - 1)+1:=by
    have h1:(a::b::r).length=r.length+2:=Z;have h2:(b::r).length=r.length+1:=Z;lia
   rw[e,lM,ih]
   all_goals rfl
theorem Ev{α:Type}:∀(l:List α)(i:Nat),(l.eraseIdx i).length<=l.length
 |[],_=>aS _
 |_::_,0=>j7 _
 |_::r,i+1=>Nat.succ_le_succ (Ev r i)
theorem foldl_rep(its:X9):∀(k:Nat)(acc:X9),
  s? (λx1 x2=>x1++x2) acc.toArray (be k its.toArray)=(acc++(be k its).flatten).toArray
 |0,acc=>by simp
 |k+1,acc=>by
  have e:acc.toArray++its.toArray=(acc++its).toArray:=by simp
  have e2:(acc++its)++(be k its).flatten=acc++(be (k+1) its).flatten:=by
   rw[cM,d8,fP]
  rw[<-e2,<-foldl_rep its k (acc++its),<-e,cM,dB]
section
variable{X:Cx}{pins:List (ao×gt)}{σ:St}{H:Hp}{s:aq}{l b:ao}{xs ys zs:V2}
theorem Inv.QB{its its':X9}{n:Nat}{f:Array ai->Array ai}{t':Nat}(I:Inv X pins σ H s)(hH:H l=aa (.lst xs))
 (e:s.heap.get? l=aa {cls:=.type "list",data:=.seq its.toArray n})(hf:f its.toArray=its'.toArray)(hv:Vals ys its')(hz:ys.length<=aE):
  Inv X pins σ (upd H l (.lst ys)) {s with heap:=s.heap.update l (j6 f),toks:=t'}:=by
 have q:=PySem.IsL.update e f;rw[hf]at q;refine I.write (x:=l) (e:=l) (by rw[hH];exact trivial) (.inl Z) (λb' u hb hu=>(db s.heap (j6 f) (a8 hb)).trans hu) ⟨_,q⟩ ?_;exact⟨hz,its',_,hv,q⟩
theorem Inv.acY(I:Inv X pins σ H s)(hv:Vals ys its)(hz:ys.length<=aE):
  Inv X pins σ (upd H s.heap.objs.size (.lst ys)) {s with heap:=s.heap.push {cls:=.type "list",data:=.seq its.toArray},toks:=t'}:=
 I.laid (λ_ _ q=>az _ q) (aS _) ⟨hz,its,0,hv,aT _ Z⟩
theorem Inv.fresh(I:Inv X pins σ H s):H s.heap.objs.size=ab:=I.f7.fresh (aS _)
theorem Inv.Iy(I:Inv X pins σ H s)(hH:H l=aa (.lst xs)):xs.length<=aE/\∃(its:X9)(n:Nat),Vals xs its/\xs.length=its.length/\s.heap.get? l=aa {cls:=.type "list",data:=.seq its.toArray n}:=by
 obtain⟨z,its,n,r,e⟩:=I.f7 l _ hH;exact⟨z,its,n,r,r.length,e⟩
theorem Qh(h:n<=aE):nO n=ae:=by
 unfold nO;exact ay om
end
variable{X:Cx}
inductive Tv(x:V)(vs:V2)(H:Hp)(Q:VK):Prop
 |mk(l xs y:_)(_:x= .ref l)(_:vs=[y])(_:H l=aa (.lst xs))(_:xs.length<aE)(_:Q .iy (upd H l (.lst (xs++[y]))))
theorem jS:aa6 X "list.append" Tv:=by
 intro pins s σ H x vs v us Q I rx rv h;obtain⟨l,xs,y,rfl,rfl,hH,hz,q⟩:=h
 cases rx;obtain⟨u,rfl,ru⟩:=rv.one;obtain⟨z,its,n,r,hl,e⟩:=I.Iy hH;refine jB F.slot_list_append ⟨_,e,Z⟩ F.entry_list_append (F.args_list_append_2 _ _) (PySem.list_append l its.toArray n u (by rw[bm];lia)) ⟨e,?_⟩;refine⟨.iy,_,I.QB (its':=its++[u]) hH e (by simp) (r.append (.cons ru .nil)) ?_,Z,q⟩;rw[aQ,mZ];lia
inductive Tu(x:V)(vs:V2)(H:Hp)(Q:VK):Prop
 |mk(l b xs zs:_)(_:x= .ref l)(_:vs=[.ref b])(_:H l=aa (.lst xs))(_:H b=aa (.lst zs))(_:xs.length+zs.length<=aE)(_:Q .iy (upd H l (.lst (xs++zs))))
theorem li:aa6 X "list.extend" Tu:=by
 intro pins s σ H x vs v us Q I rx rv h;obtain⟨l,b,xs,zs,rfl,rfl,hH,hB,hz,q⟩:=h
 cases rx;obtain⟨u,rfl,ru⟩:=rv.one
 cases ru;obtain⟨z,its,n,r,hl,e⟩:=I.Iy hH;obtain⟨z2,zQ,n2,r2,qL,e2⟩:=I.Iy hB;have hsz:its.toArray.size+zQ.toArray.size<=aE:=by rw[bm,bm];lia
 have ZV:¬(!its.toArray.isEmpty&&nO (its.toArray.size+zQ.toArray.size))=ac:=by
  rw[Qh hsz,Ve];exact bf
 refine jB F.slot_list_extend ⟨_,e,Z⟩ F.entry_list_extend (F.args_list_extend_2 _ _)
  (AutoSeq1.list_extend_list_list_0 l its.toArray n b zQ.toArray n2 ZV (by rw[bm];lia) om) ⟨e,e2,?_⟩
 refine⟨.iy,_,I.QB (its':=its++zQ) hH e (by simp) (r.append r2) ?_,Z,q⟩;rw[aQ];lia
inductive acJ(x:V)(vs:V2)(H:Hp)(Q:VK):Prop
 |mk(l xs y:_)(_:x= .ref l)(_:vs=[])(_:H l=aa (.lst xs))(_:xs[xs.length - 1]? =aa y)(_:Q y (upd H l (.lst xs.dropLast)))
theorem WW:aa6 X "list.pop" acJ:=by
 intro pins s σ H x vs v us Q I rx rv h;obtain⟨l,xs,y,rfl,rfl,hH,hy,q⟩:=h
 cases rx;have hus:=rv.zero;subst hus;obtain⟨z,its,n,r,hl,e⟩:=I.Iy hH;obtain⟨u,hu,ru⟩:=r.get hy;have QV:its.toArray[its.toArray.size - 1]? =aa u:=by
  show its.toArray[its.length - 1]? =aa u;rw[<-cU,<-hl];exact hu
 refine jB F.slot_list_pop ⟨_,e,Z⟩ Wb (F.args_list_pop_1 _) (MeetsSeq.list_pop_last l its.toArray n u QV (by rw[bm];lia)) ⟨e,?_⟩;refine⟨y,_,I.QB (its':=its.dropLast) hH e ?_ r.dropLast ?_,ru,q⟩
 ·show its.toArray.eraseIdxIfInBounds (its.toArray.size - 1)=its.dropLast.toArray;rw[bm,zx,K']
 ·rw[List.length_dropLast];lia
inductive WD(x:V)(vs:V2)(H:Hp)(Q:VK):Prop
 |mk(l xs i k y:_)(_:x= .ref l)(_:vs=[.int i])(_:H l=aa (.lst xs))(_: -(2 ^ 63)<=i)(_:i<2 ^ 63)(_:E5 i xs.length=aa k)(_:xs[k]? =aa y)(_:Q y (upd H l (.lst (xs.eraseIdx k))))
theorem Bs:aa6 X "list.pop" WD:=by
 intro pins s σ H x vs v us Q I rx rv h;obtain⟨l,xs,i,k,y,rfl,rfl,hH,h1,h2,hk,hy,q⟩:=h
 cases rx;obtain⟨u,rfl,ru⟩:=rv.one;obtain⟨t,rfl⟩:=ru;obtain⟨z,its,n,r,hl,e⟩:=I.Iy hH;obtain⟨w,hw,C?⟩:=r.get hy;refine jB F.slot_list_pop ⟨_,e,Z⟩ Wb (F.args_list_pop_2 _ _)
  (MeetsSeq.list_pop_at l its.toArray n i t k w (fitsIndex_both h1 h2) (by rw[bm,<-hl];exact hk) (by rw[<-cU];exact hw) (by rw[bm];lia)) ⟨e,?_⟩
 refine⟨y,_,I.QB (its':=its.eraseIdx k) hH e ?_ (r.eraseIdx k) ?_,C?,q⟩
 ·show its.toArray.eraseIdxIfInBounds k=(its.eraseIdx k).toArray;rw[zx]
 ·have:=Ev xs k;lia
inductive acN(x y:V)(H:Hp)(Q:VK):Prop
 |mk(l b xs zs:_)(_:x= .ref l)(_:y= .ref b)(_:H l=aa (.lst xs))(_:H b=aa (.lst zs))(_:xs.length+zs.length<=aE)(_:∀p,H p=ab->Q (.ref p) (upd H p (.lst (xs++zs))))
theorem rL:wx X (uV .Add) acN:=by
 intro pins s σ H x y v u Q I rx ry h;obtain⟨l,b,xs,zs,rfl,rfl,hH,hB,hz,q⟩:=h
 cases rx
 cases ry;obtain⟨z,its,n,r,hl,e⟩:=I.Iy hH;obtain⟨z2,zQ,n2,r2,qL,e2⟩:=I.Iy hB;refine PySem.P.add_list e e2 ?_ (by rw[bm,bm];lia);have ea:its.toArray++zQ.toArray=(its++zQ).toArray:=by simp
 rw[ea];exact⟨.ref _,_,I.acY (t':=s.toks) (r.append r2) (by rw[aQ];lia),Z,q _ I.fresh⟩
theorem len_rep{α:Type}(xs:List α)(k:Nat):(be k xs).flatten.length=k*xs.length:=by
 induction k with
 |zero=>simp
 |succ k ih=>rw[cM,d8,aQ,ih,Nat.succ_mul,Nat.add_comm]
variable{prog:ba}{w:World}{A:cb}{E:ai->aq->Prop}{s:aq}
theorem Vals.ints:∀{ns:xC}{us:X9},Vals (ns.map V.int) us->f9 us ns
 |[],us,h=>by
  rw[oQ]at h
  cases h;exact IntsAre.nil
 |n::ns,us,h=>by
  rw[bC]at h
  cases h with
  |cons r t=>
   obtain⟨k,rfl⟩:=r;exact IntsAre.cons n k (Vals.ints t)
theorem rB:∀{us:X9}{ns:xC},f9 us ns->Vals (ns.map V.int) us
 |_,_,.nil=>by rw[oQ];exact Paired.nil
 |_,_,.cons n t h=>by rw[bC];exact Paired.cons (show RelV (V.int n) (j5 n t)from⟨t,Z⟩) (rB h)
theorem Vals.aet:∀{bs:List Bool}{us:X9},Vals (bs.map V.bl) us->us=bs.map lx
 |[],us,h=>by
  rw[oQ]at h
  cases h;rfl
 |b::bs,us,h=>by
  rw[bC]at h
  cases h with
  |cons r t=>
   cases r;rw[Vals.aet t,bC]
theorem Vals.Kq(r:Vals [V.ref a] us):us=[bn a]:=by
 cases r with
 |cons r t=>
  cases t
  cases r;rfl
section
variable{prog:ba}{w:World}{A:cb}{E:ai->aq->Prop}{s:aq}{l:ao}{its:X9}{ns:xC}{Q:ai->aq->Prop}
theorem T4(hh:A.handled=ab)(hl:s.heap.IsList l its.toArray)(hi:f9 its ns)(iQ:0<ns.length)
 (h:∀h' tk M t',(∀b o,s.heap.get? b=aa o->h'.get? b=aa o)->M∈ns->(∀a,a∈ns->M<=a)->Q (.int M t') {s with heap:=h',toks:=tk}):aU (bg prog w) A (call (.builtin "min") [.ref l]) Q E s:=by
 obtain⟨xs,e⟩:=hi.allInts.items;have hn:numsOf (JU xs).toList=ns:=by rw[<-e];exact hi.numsOf
 rw[nums_intItems]at hn;subst hn;rw[e]at hl;have hsz:0<xs.size:=by simpa using iQ
 refine PySem.min_intList hh hl hsz λv h' tk hv hk=>?_;obtain⟨t,rfl⟩:=SH hv;obtain⟨h1,h2⟩:=argBest_lt (numAt xs) (xs.size - 1);refine h h' tk _ t hk ?_ λa ha=>?_
 ·rw[SG];exact SQ (by rw[af,bE];lia)
 ·obtain⟨j,hj,rfl⟩:=mem_getD ha;rw[af,bE]at hj;rw[<-SG];exact h2 j om
end
inductive acK(K:aj)(vs:V2)(H:Hp)(Q:VK):Prop
 |mk(a:ao)(ns:xC)(_:vs=[V.ref a])(_:bQ K H a (ns.map V.int))(_:0<ns.length)(_:∀m,m∈ns->(∀y,y∈ns->m<=y)->Q (.int m) H)
theorem XJ(hc:X.calm=ac):sF X (.builtin "min") (acK X.K):=by
 intro pins s σ H vs us Q I r h;obtain⟨a,ns,rfl,hs,iQ,q⟩:=h;obtain⟨its,rv,hl,_⟩:=I.list hs;rw[Vals.Kq r];exact T4 (I.ok.hd hc) hl.isList rv.ints iQ λh' tk m t' hk h1 h2=>⟨.int _,H,I.kept hk,⟨_,Z⟩,q m h1 h2⟩
inductive WE(K:aj)(x:V)(xs:V2)(H:Hp)(Q:VK):Prop
 |mk(a:ao)(ys:V2)(y:V)(j:Nat)(z:V)(_:x=V.ref a)(_:xs=[y])(_:bQ K H a ys)(_:pH y=ac)(_:ys.all pH=ac)(_:ys[j]? =aa z)(_:JN z y=ac)(_:(∀(m:Nat) (z':V),m<j->ys[m]? =aa z'->JN z' y=ae))(_:Q (.int (j:Nat)) H)
theorem Ar{ys:V2}(f:ys.all pH=ac){j:Nat}{z:V}(h:ys[j]? =aa z):pH z=ac:=dC.mp f z (aP h)
theorem Io:YN X "list.index" (WE X.K):=by
 intro pins s σ H x xs v us Q I rx rxs h;obtain⟨a,ys,y,j,z,rfl,rfl,hs,fy,aei,hz,hzj,Gf,q⟩:=h
 cases rx
 cases rxs with
 |cons ry rt=>
  rename_i uy ut
  cases rt;obtain⟨its,rv,⟨⟨cls,dd,data,sl⟩,n,ho,hc,hdn,hd⟩,c6⟩:=I.list hs;simp only at hc hd;subst hc hd;obtain⟨u,hu,ru⟩:=rv.get hz;obtain⟨Uq,hje⟩:=aY.mp hu;have hvl:=rv.length;have hj:j<its.toArray.size:=by simpa using Uq
  have hsl:=oW;refine jB qj ⟨_,ho,Z⟩ PySem.F.entry_list_index (PySem.F.args_list_index_2 _ _)
   (SeqAt.list_indexAt a its.toArray n dd sl uy (JO y) j hj om ?_ ?_) ⟨ho,λu' GX=>qH ry fy rv aei u' (by simpa using GX),?_⟩
  ·have e1:its.toArray[j]=u:=by simpa using hje
   rw[e1,Gm ru (Ar aei hz)];exact hzj
  ·intro m hm hmj;have hml:m<its.length:=by simpa using hm
   have hmy:m<ys.length:=om;have QV:ys[m]? =aa ys[m]:=aR hmy;obtain⟨u2,ZN,acD⟩:=rv.get QV;obtain⟨_,hme⟩:=aY.mp ZN;have e1:its.toArray[m]=u2:=by simpa using hme
   rw[e1,Gm acD (Ar aei QV)];exact Gf m _ hmj QV
  ·exact⟨.int (j:Nat),H,I.tok _,⟨_,Z⟩,q⟩
theorem IG{prog:ba}{w:World}{A:cb}{E:ai->aq->Prop}{s:aq}{l:ao}{items:Array ai}{Q:ai->aq->Prop}(hl:s.heap.IsList l items)
  (h:∀n?:aq,n? ={s with heap:=s.heap.push {cls:=.type "list_iterator",data:=.fields #[.ref l,.int 0 0]}}->
   (n?.heap.IsListIter s.heap.objs.size l 0/\n?.heap.IsList l items)->l≠s.heap.objs.size->Q (.ref s.heap.objs.size) n?):aU (bg prog w) A (E6 (.ref l)) Q E s:=by
 have gO:l<s.heap.objs.size:=by obtain⟨_,e,_⟩:=hl;exact aW e
 exact sS hl (h _ Z ⟨⟨_,aT _ Z,Z,Z⟩,hl.push _⟩ (bL gO))
theorem yW{prog:ba}{w:World}{A:cb}{bs:List Bool}{its:X9}(e:its=bs.map lx):
  TruthOf prog w A (λi v=>its.toArray[i]? =aa v) (λi=>bs.getD i ae):=λi v s Q E hv hq=>by
 have EB:its[i]? =aa v:=by simpa using hv
 rw[e,aA]at EB;obtain⟨b,hb,rfl⟩:=l8.mp EB;have hg:bs.getD i ae=b:=by rw[bD,hb]<;>rfl
 have NT:Q (bs.getD i ae) s:=hq;rw[hg]at NT;exact eL NT
theorem any_range:∀bs:List Bool,(cF bs.length).any (λi=>bs.getD i ae)=bs.any id
 |[]=>rfl
 |b::bs=>by
  rw[aJ,JE,d9,tj,d9,<-any_range bs]
  all_goals rfl
theorem all_range:∀bs:List Bool,(cF bs.length).all (λi=>bs.getD i ae)=bs.all id
 |[]=>rfl
 |b::bs=>by
  rw[aJ,JE,gT,JH,gT,<-all_range bs]
  all_goals rfl
inductive acO(K:aj)(vs:V2)(H:Hp)(Q:VK):Prop
 |mk(a:ao)(bs:List Bool)(_:vs=[V.ref a])(_:bQ K H a (bs.map V.bl))(_:Q (.bl (bs.any id)) H)
inductive acP(K:aj)(vs:V2)(H:Hp)(Q:VK):Prop
 |mk(a:ao)(bs:List Bool)(_:vs=[V.ref a])(_:bQ K H a (bs.map V.bl))(_:Q (.bl (bs.all id)) H)
theorem Lg(hc:X.calm=ac):sF X (.builtin "any") (acO X.K):=by
 intro pins s σ H vs us Q I r h;obtain⟨a,bs,rfl,hs,q⟩:=h;obtain⟨its,rv,hl,_⟩:=I.list hs;rw[Vals.Kq r];have hb:=rv.aet;refine call_any_walk (IG hl.isList λn? e2 st iQ=>?_);subst e2;refine⟨_,_,_,_,_,_,_,Z,Cz (A:=X.A.in1) (I.ok.hd hc) _ a iQ its.toArray,st,yW hb,λh' tk hk=>?_⟩;refine⟨.bl _,H,I.kept λb o eo=>hk b o (λqK=>?_) (az _ eo),?_,q⟩
 ·rcases aF.mp qK with e1|qK
  ·exact absurd (e1▸aW eo) (eV _)
  ·cases qK
 ·show lx _=lx _;rw[<-any_range,hb,bm,af]
theorem RH(hc:X.calm=ac):sF X (.builtin "all") (acP X.K):=by
 intro pins s σ H vs us Q I r h;obtain⟨a,bs,rfl,hs,q⟩:=h;obtain⟨its,rv,hl,_⟩:=I.list hs;rw[Vals.Kq r];have hb:=rv.aet;refine call_all_walk (IG hl.isList λn? e2 st iQ=>?_);subst e2;refine⟨_,_,_,_,_,_,_,Z,Cz (A:=X.A.in1) (I.ok.hd hc) _ a iQ its.toArray,st,yW hb,λh' tk hk=>?_⟩;refine⟨.bl _,H,I.kept λb o eo=>hk b o (λqK=>?_) (az _ eo),?_,q⟩
 ·rcases aF.mp qK with e1|qK
  ·exact absurd (e1▸aW eo) (eV _)
  ·cases qK
 ·show lx _=lx _;rw[<-all_range,hb,bm,af]
mutual
inductive Dp(K:aj)(H:Hp):V->Fe->Prop
 |iy:Dp K H .iy .none
 |bl (b:Bool):Dp K H (.bl b) (.bool b)
 |int (i:Int):Dp K H (.int i) (.int i)
 |str (x:bV):Dp K H (.str x) (.str x)
 |lst {a:ao} {xs:V2} {ds:List Fe}:bQ K H a xs->zn K H xs ds->Dp K H (.ref a) (.list ds)
 |tup {a:ao} {xs:V2} {ds:List Fe}:tE K H a xs->zn K H xs ds->Dp K H (.ref a) (.tuple ds)
inductive zn(K:aj)(H:Hp):V2->List Fe->Prop
 |nil:zn K H [] []
 |cons {v:V} {vs:V2} {d:Fe} {ds:List Fe}:Dp K H v d->zn K H vs ds->zn K H (v::vs) (d::ds)
end
section
variable{X:Cx}{pins:List (ao×gt)}{σ:St}{H:Hp}{s:aq}
mutual
theorem Dp.reads(I:Inv X pins σ H s):∀(d:Fe)(v:V)(u:ai),Dp X.K H v d->RelV v u->∃as,Reads s.heap u d as
 | .none,_,_,h,r=>by
  cases h
  cases r;exact⟨_,Reads.none⟩
 | .bool b,_,_,h,r=>by
  cases h
  cases r;exact⟨_,Reads.bool b⟩
 | .int i,_,_,h,r=>by
  cases h;obtain⟨t,rfl⟩:=r;exact⟨_,Reads.int i t⟩
 | .str x,_,_,h,r=>by
  cases h;obtain⟨t,rfl⟩:=r;exact⟨_,Reads.str x t⟩
 | .list ds,_,_,h,r=>by
  cases h with
  |lst hs ha=>
   cases r;obtain⟨its,rv,⟨o,n,ho,hc,_,hd⟩,_⟩:=I.list hs;obtain⟨as,hr⟩:=Dp.readsAll I ds _ its ha rv;exact⟨_,Reads.list ho hc hd hr⟩
 | .tuple ds,_,_,h,r=>by
  cases h with
  |tup hs ha=>
   cases r;obtain⟨its,rv,⟨o,ho,hc,n,hd⟩,_⟩:=I.tuple hs;obtain⟨as,hr⟩:=Dp.readsAll I ds _ its ha rv;exact⟨_,Reads.tuple ho hc hd hr⟩
 | .dict _,_,_,h,_=>by cases h
theorem Dp.readsAll(I:Inv X pins σ H s):∀(ds:List Fe)(vs:V2)(us:X9),zn X.K H vs ds->Vals vs us->∃as,ReadsAll s.heap us ds as
 |[],_,_,h,r=>by
  cases h
  cases r;exact⟨_,ReadsAll.nil⟩
 |d::ds,_,_,h,r=>by
  cases h with
  |cons h1 h2=>
   cases r with
   |cons r1 r2=>
    obtain⟨as,q1⟩:=Dp.reads I d _ _ h1 r1;obtain⟨bs,q2⟩:=Dp.readsAll I ds _ _ h2 r2;exact⟨_,ReadsAll.cons q1 q2⟩
end
end
inductive acM(K:aj)(x y:V)(H:Hp)(Q:VK):Prop
 |mk(d e:_)(_:Dp K H x d)(_:Dp K H y e)(_:xY d=ac)(_:xY e=ac)(_:Q (.bl (oO d e)) H)
theorem Bi(hu:X.A.units+64<mS):wx X (d? .Eq) (acM X.K):=by
 intro pins s σ H x y v u Q I rx ry h;obtain⟨d,e,hd,he,sd,se,q⟩:=h;obtain⟨as,r1⟩:=Dp.reads I d x v hd rx;obtain⟨bs,r2⟩:=Dp.reads I e y u he ry;exact SeqAt.compareEq_shaped r1 r2 sd se hu ⟨.bl _,H,I,Z,q⟩
abbrev R4(h:bO)(c:ao)(v:Option ai):Prop:=h.IsCell c v
def acI(scope sc:l_):l_:=
 {scope with names:=scope.names.map λ(n,k)=>if(k==.free&&sc.kind==.function&&sc.names.lookup n==aa .cell)then(n,.cell)else(n,k)}
def gi(cells:List (bV×ao)):List (bV×iS)->List (bV×ao)->List (bV×ao)
 |[],acc=>acc
 |(n,k)::r,acc=>if k==.free then gi cells r ((n,(cells.lookup n).getD 0)::acc)else gi cells r acc
theorem xF(env:Hd)(f:bV×iS->List (bV×ao)->uX (ForInStep (List (bV×ao))))
 (hf:∀n k c,f (n,k) c=if k==.free then(do let a<-cellOf env n;pure (.yield ((n,a)::c)))else pure (.yield c)):
  ∀(names:List (bV×iS))(acc:List (bV×ao)),(∀y∈names,y.2= .free->∃c,env.cells.lookup y.1=aa c)->forIn names acc f=pure (gi env.cells names acc)
 |[],acc,_=>by rw[iY];rfl
 |(n,k)::r,acc,h=>by
  rw[jr,hf];have ih:=λacc=>xF env f hf r acc λy hy=>h y (aD _ hy);unfold gi;by_cases hk:(k==mH)=ac
  ·rw[aC hk,aC hk];obtain⟨c,hc⟩:=h (n,k) cY (by simpa using hk);have e:cellOf env n=pure c:=by unfold cellOf;rw[hc]
   rw[e];have e2:(env.cells.lookup n).getD 0=c:=by rw[hc];rfl
   rw[e2];exact ih _
  ·rw[aw hk,aw hk];exact ih _
theorem Li(h:∀y∈scope.names,y.2= .free->∃c,env.cells.lookup y.1=aa c):closureFor scope env=pure (gi env.cells scope.names []):=by
 simp only[closureFor];rw[xF env _ (λn k c=>rfl) scope.names [] h];rfl
theorem mem_lookup{α:Type}:∀{l:List (bV×α)}{n:bV}{c:α},(n,c)∈l->∃c',l.lookup n=aa c'
 |(k,v)::r,n,c,h=>by
  rw[iX]
  cases hb:n==k with
  |true=>exact⟨_,Z⟩
  |false=>
   rcases aF.mp h with e|h
   ·cases e;simp at hb
   ·exact mem_lookup h
theorem pK :∀{names:List (bV×iS)}{acc:List (bV×ao)}{n:bV}{c:ao},(n,c)∈gi cells names acc->(n,c)∈acc\/((n,.free)∈names/\c=(cells.lookup n).getD 0)
 |[],_,_,_,h=>.inl h
 |(m,k)::r,acc,n,c,h=>by
  unfold gi at h;split at h
  ·rename_i hk;have hk:k= .free:=by simpa using hk
   rcases pK h with h|⟨h1,h2⟩
   ·rcases aF.mp h with e|h
    ·cases e;exact .inr ⟨hk▸cY,Z⟩
    ·exact .inl h
   ·exact .inr ⟨aD _ h1,h2⟩
  ·rcases pK h with h|⟨h1,h2⟩
   ·exact .inl h
   ·exact .inr ⟨aD _ h1,h2⟩
theorem uz :∀{names:List (bV×iS)}{acc:List (bV×ao)}{p:bV×ao},p∈acc->p∈gi cells names acc
 |[],_,_,h=>h
 |(m,k)::r,acc,p,h=>by
  unfold gi;split
  ·exact uz (aD _ h)
  ·exact uz h
theorem ux :∀{names:List (bV×iS)}{acc:List (bV×ao)}{n:bV},(n,.free)∈names->(n,(cells.lookup n).getD 0)∈gi cells names acc
 |(m,k)::r,acc,n,h=>by
  unfold gi;rcases aF.mp h with e|h
  ·cases e;exact uz cY
  ·split
   ·exact ux h
   ·exact ux h
theorem qQ:∀{names:List (bV×iS)}{h:bO}{acc:List (bV×ao)}{x:bV}{c:ao},(x,c)∈e9 h.objs.size names acc->
  (x,c)∈acc\/((x,.cell)∈names/\h.objs.size<=c/\R4 (qX h names) c ab)
 |[],_,_,_,_,h=>.inl h
 |(n,k)::r,h,acc,x,c,hm=>by
  unfold e9 at hm;unfold qX;split at hm
  ·rename_i hk;rw[aC hk];have hk:k= .cell:=by simpa using hk
   rw[<-cH h {cls:=.type "cell",data:=.cell ab}]at hm;rcases qQ hm with hm|⟨h1,h2,h3⟩
   ·rcases aF.mp hm with e|hm
    ·cases e;exact .inr ⟨hk▸cY,aS _,_,wo r _ _ _ (aT _ Z),Z⟩
    ·exact .inl hm
   ·rw[cH]at h2;exact .inr ⟨aD _ h1,q? h2,h3⟩
  ·rename_i hk;rw[aw hk];rcases qQ hm with hm|⟨h1,h2,h3⟩
   ·exact .inl hm
   ·exact .inr ⟨aD _ h1,h2,h3⟩
theorem uT:∀{names:List (bV×iS)}{n:Nat}{acc:List (bV×ao)}{p:bV×ao},p∈acc->p∈e9 n names acc
 |[],_,_,_,h=>h
 |(m,k)::r,n,acc,p,h=>by
  unfold e9;split
  ·exact uT (aD _ h)
  ·exact uT h
theorem yL:∀{names:List (bV×iS)}{n:Nat}{acc:List (bV×ao)}{x:bV},(x,.cell)∈names->∃c,(x,c)∈e9 n names acc
 |(m,k)::r,n,acc,x,h=>by
  unfold e9;rcases aF.mp h with e|h
  ·cases e;exact⟨n,uT cY⟩
  ·split
   ·exact yL h
   ·exact yL h
theorem yK:∀{names:List (bV×iS)}{h:bO}{acc:List (bV×ao)}{x y:bV}{c:ao},(∀p∈acc,p.2<h.objs.size)->(∀x y c,(x,c)∈acc->(y,c)∈acc->x=y)->
  (x,c)∈e9 h.objs.size names acc->(y,c)∈e9 h.objs.size names acc->x=y
 |[],_,_,_,_,_,_,hi,h1,h2=>hi _ _ _ h1 h2
 |(n,k)::r,h,acc,x,y,c,hl,hi,h1,h2=>by
  unfold e9 at h1 h2;split at h1
  ·rename_i hk;rw[aC hk]at h2;rw[<-cH h {cls:=.type "cell",data:=.cell ab}]at h1 h2;refine yK (h:=h.push _) (λp hp=>?_) (λx y c a b=>?_) h1 h2
   ·rw[cH];rcases aF.mp hp with rfl|hp
    ·exact ky _
    ·exact gF (hl p hp)
   ·rcases aF.mp a with e|a<;>rcases aF.mp b with e'|b
    ·cases e;cases e';rfl
    ·cases e;exact absurd (hl _ b) (eV _)
    ·cases e';exact absurd (hl _ a) (eV _)
    ·exact hi _ _ _ a b
  ·rename_i hk;rw[aw hk]at h2;exact yK hl hi h1 h2
theorem Im{M:JZ}{A:cb}{E:ai->aq->Prop}{s:aq}{scope:l_}{globals:ao}{closure:List (bV×ao)}{qual:bV}{func:Option ao}{code:ai}{RN:Hd}{builtins:ao}{Q:Hd->aq->Prop}
  (h:Q (newEnv scope s.heap.objs.size globals (e9 (s.heap.objs.size+1) scope.names closure) qual func code (aa RN) builtins)
   {s with heap:=qX (s.heap.push {cls:=.type "dict",data:=.dict #[]}) scope.names}):
  aU M A (newFunctionEnv scope globals closure [] qual func code (aa RN) builtins) Q E s:=by
 simp only[newFunctionEnv,Option.isSome_some,if_true];refine ag (SA ?_);refine ag (wpAny_layCells _ (λn k c=>rfl) scope.names closure _ _ ?_);rw[show({s with heap:=s.heap.push {cls:=.type "dict",data:=.dict #[]}}:aq).heap.objs.size=s.heap.objs.size+1 from cH ..];rw[iY];exact ag (au (au h))
theorem uh{sc:l_}:∀{names:List (bV×iS)}{x:bV}{k:iS},
  (names.map λ(n,k)=>if(k==mH&&sc.kind==.function&&sc.names.lookup n==aa .cell)then(n,Cf)else(n,k)).lookup x=aa k->
  ∃k',names.lookup x=aa k'/\(k=k'\/(k'= .free/\k= .cell))
 |[],_,_,h=>by simp at h
 |(n,QK)::r,x,k,h=>by
  have ih:=@uh sc r x k;have h':lK x ((if(QK==mH&&sc.kind==.function&&sc.names.lookup n==aa .cell)=ac then(n,Cf)else(n,QK))::(r.map _))=aa k:=h
  cases hx:x==n with
  |true=>
   simp only[iX,hx];by_cases hc:(QK==mH&&sc.kind==.function&&sc.names.lookup n==aa .cell)=ac
   ·rw[aC hc]at h';simp only[iX,hx]at h'
    cases h';simp only[aK,beq_iff_eq]at hc;exact⟨QK,Z,.inr ⟨hc.1.1,Z⟩⟩
   ·rw[aw hc]at h';simp only[iX,hx]at h'
    cases h';exact⟨_,Z,.inl Z⟩
  |false=>
   simp only[iX,hx];by_cases hc:(QK==mH&&sc.kind==.function&&sc.names.lookup n==aa .cell)=ac
   ·rw[aC hc]at h';simp only[iX,hx]at h';exact ih h'
   ·rw[aw hc]at h';simp only[iX,hx]at h';exact ih h'
structure Ju(N:List bV)(sc scope:l_)(own:List (bV×Nat)):Prop where
 kind:scope.kind= .function
 uniq:∀y∈scope.names,scope.names.lookup y.1=aa y.2
 ix:∀p∈own,N[p.2]? =aa p.1
 free:∀y∈scope.names,y.2= .free->sc.names.lookup y.1=aa .cell\/sc.names.lookup y.1=aa .free
 own:∀y∈scope.names,y.2= .local\/y.2= .cell->y.1∈own.map (·.1)\/y.1∉N
def wipe(σ:St):V9->St
 |[]=>σ
 |v::vs=>(wipe σ vs).set v ab
theorem tL(σ:St):∀vs:V9,(wipe σ vs).length=σ.length
 |[]=>rfl
 |v::vs=>by unfold wipe;rw[SU,tL σ vs]
theorem x9   :∀{vs:V9},(wipe σ vs)[i]? =aa (aa x)->σ[i]? =aa (aa x)/\i∉vs
 |[],h=>⟨h,by simp⟩
 |v::vs,h=>by
  unfold wipe at h;by_cases hi:v=i
  ·subst hi;by_cases hv:v<(wipe σ vs).length
   ·rw[mm hv]at h;cases h
   ·rw[cV (by simpa using hv)]at h;cases h
  ·rw[nv hi]at h;obtain⟨h1,h2⟩:=x9 h;exact⟨h1,by simp only[aF,not_or];exact⟨λe=>hi e.symm,h2⟩⟩
abbrev Cx.Gu(X:Cx)(s:aq)(H:Hp)(scope:l_)(lB:Hd)(fp:List ao):Cx:={X with Ej:=s,XV:=H,env:=lB,outer:=X.stack,ex:=fp,fn:=λx=>scope.names.lookup x==aa .cell,pn:=[],xe:=λ_ _=>False}
section
variable{X:Cx}{pins:List (ao×gt)}{σ:St}{H:Hp}{s:aq}
theorem Jj{scope:l_}{own:List (bV×Nat)}{fp:List ao}(I:Inv X pins σ H s)(ok:Ju X.N X.env.scope scope own)(hN:X.N.Nodup)(OM:∀b∈fp,zT X pins H b/\b<s.heap.objs.size):
  Inv (X.Gu s H scope (kS scope (e9 (s.heap.objs.size+1) scope.names (gi X.env.cells scope.names [])) s.heap.objs.size X.env) fp) [] (wipe σ (own.map (·.2))) H {s with heap:=qX (s.heap.push {cls:=.type "dict",data:=.dict #[]}) scope.names}:=by
 have EF:∀y∈scope.names,y.2= .free->∃c,X.env.cells.lookup y.1=aa c:=λy hy e=>by
  rcases ok.free y hy e with k|k
  ·exact I.ok.has _ (.inl k)
  ·exact I.ok.has _ (.inr k)
 generalize IX:kS scope (e9 (s.heap.objs.size+1) scope.names (gi X.env.cells scope.names [])) s.heap.objs.size X.env=lB;have kp:∀b o,s.heap.get? b=aa o->(qX (s.heap.push {cls:=.type "dict",data:=.dict #[]}) scope.names).get? b=aa o:=λb o e=>wo _ _ _ _ (az _ e);have hL:lB.locals=s.heap.objs.size:=by rw[<-IX];rfl
 have K5:lB.cells=e9 (s.heap.objs.size+1) scope.names (gi X.env.cells scope.names []):=by rw[<-IX];rfl
 have adb:lB.scope=acI scope X.env.scope:=by rw[<-IX];rfl
 rw[<-cH s.heap {cls:=.type "dict",data:=.dict #[]}]at K5;have cm:∀{y c},(y,c)∈gi X.env.cells scope.names []->X.env.cells.lookup y=aa c/\c<s.heap.objs.size:=λ{y c} hm=>by
  rcases pK hm with hm|⟨h1,rfl⟩
  ·cases hm
  ·obtain⟨c,hc⟩:=EF _ h1 Z;rw[hc];obtain⟨w,z⟩:=I.cell _ _ hc;exact⟨Z,z.lt⟩
 have mem:∀{y c},lB.cells.lookup y=aa c->(X.env.cells.lookup y=aa c/\c<s.heap.objs.size)\/(s.heap.objs.size+1<=c/\R4 (qX (s.heap.push {cls:=.type "dict",data:=.dict #[]}) scope.names) c ab):=λ{y c} e=>by
  rw[K5]at e;rcases qQ (cz e)with hm|⟨_,h2,h3⟩
  ·exact .inl (cm hm)
  ·rw[cH]at h2;exact .inr ⟨h2,h3⟩
 have look:∀{y},scope.names.lookup y=aa .free->∃c,lB.cells.lookup y=aa c/\X.env.cells.lookup y=aa c:=λ{y} hl=>by
  have hy:(y,mH)∈scope.names:=cz hl;obtain⟨c',e'⟩:=mem_lookup (uT (names:=scope.names) (n:=(s.heap.push {cls:=.type "dict",data:=.dict #[]}).objs.size) (ux (cells:=X.env.cells) (acc:=[]) hy));rw[<-K5]at e';refine⟨c',e',?_⟩;rw[K5]at e';rcases qQ (cz e')with hm|⟨h1,_,_⟩
  ·exact(cm hm).1
  ·have:=ok.uniq _ h1;rw[hl]at this;cases this
 have okB:(X.Gu s H scope lB fp).Ok:=by
  refine⟨I.ok.mod,by show lB.scope.kind=_;rw[adb];exact ok.kind,by show lB.globals=_;rw[<-IX];exact I.ok.glob,by show lB.builtins=_;rw[<-IX];exact I.ok.blt,by show s.heap.objs.size<=lB.locals;rw[hL];exact aS _,
   λy z c e1 e2=>?_,λy hy=>?_,λy c z e=>?_,I.ok.hd,I.ok.frames,.inl Z,λb hb=>⟨?_,λy c e z=>?_⟩,I.bs,aB I.ok.UN I.sz,λb o e hb=>?_,λb hb z=>?_,I.stack,I.LJ⟩
  ·have e1:lB.cells.lookup y=aa c:=e1;have e2:lB.cells.lookup z=aa c:=e2;rw[K5]at e1 e2;refine yK (λp hp=>?_) (λy z c a b=>I.ok.inj y z c (cm a).1 (cm b).1) (cz e1) (cz e2);rw[cH];exact gF (cm (y:=p.1) (c:=p.2) hp).2
  ·show∃c,lB.cells.lookup y=aa c;have key:∀k,lB.kindOf y=aa k->(k= .cell\/k= .free)->∃c,lB.cells.lookup y=aa c:=λk hk BH=>by
    unfold Env.kindOf at hk;rw[adb]at hk;obtain⟨k',e,r⟩:=uh hk;have:k'= .cell\/k'= .free:=by
     rcases r with rfl|⟨rfl,_⟩
     ·exact BH
     ·exact .inr Z
    rcases this with rfl|rfl
    ·obtain⟨c,hm⟩:=yL (n:=(s.heap.push {cls:=.type "dict",data:=.dict #[]}).objs.size) (acc:=gi X.env.cells scope.names []) (cz e);obtain⟨c',e'⟩:=mem_lookup hm;exact⟨c',by rw[K5];exact e'⟩
    ·obtain⟨c,h1,_⟩:=look e;exact⟨c,h1⟩
   rcases hy with hy|hy
   ·exact key _ hy (.inl Z)
   ·exact key _ hy (.inr Z)
  ·have z:(scope.names.lookup y==aa Cf)=ac:=z;have z:scope.names.lookup y=aa .cell:=by simpa using z
   have e:lB.cells.lookup y=aa c:=e;rw[K5]at e;rcases qQ (cz e)with hm|⟨_,h2,_⟩
   ·rcases pK hm with hm|⟨h1,_⟩
    ·cases hm
    ·have q:=ok.uniq _ h1;rw[z]at q;cases q
   ·rw[cH]at h2;exact q? h2
  ·show b≠lB.locals;rw[hL];exact bL (OM b hb).2
  ·have e:lB.cells.lookup y=aa c:=e;rcases mem e with⟨h1,_⟩|⟨h1,_⟩
   ·exact(OM b hb).1.2.2.2.2.1 y c h1 z
   ·have h2:s.heap.objs.size+1<=b:=by rw[<-z];exact h1
    exact absurd (bI (OM b hb).2 (q? h2)) (eV _)
  ·rcases(OM b hb).1.2.2.2.1 with z|z
   ·exact I.ok.Qi b o e z
   ·exact absurd (bI (aW e) (aB I.ok.UN z)) (eV _)
  ·rcases aF.mp (I.Kb b z)with z|z
   ·exact(OM b hb).1.2.1 z
   ·exact(OM b hb).1.2.2.1 z
 refine⟨okB,Z,I.bare,Un.kept kp,⟨λ_=>ab,?_,λi y av e1 e2 e3=>?_⟩,λy c e=>?_,?_,λy c e=>?_,λp hp=>?_,I.f7.kept kp,by rw[tL];exact I.len⟩
 ·show Heap.Ns _ lB.locals _;rw[hL];exact Heap.Ns.keeps (Heap.Ns.new ..) λb o e=>wo _ _ _ _ e
 ·obtain⟨e2,iQ⟩:=x9 e2;have abL:scope.names.lookup y=aa .free/\(lB.kindOf y=aa .cell\/lB.kindOf y=aa .free):=by
   have key:∀k,lB.scope.names.lookup y=aa k->k= .local\/k= .cell\/k= .free->scope.names.lookup y=aa .free/\(lB.kindOf y=aa .cell\/lB.kindOf y=aa .free):=λk hk BH=>by
    have hk0:=hk;rw[adb]at hk;obtain⟨k',e,r⟩:=uh hk;have no:¬(k'= .local\/k'= .cell):=λhh=>by
     rcases ok.own _ (cz e) hh with e'|e'
     ·obtain⟨p,hp,hpy⟩:=aV.mp e';have e3:=ok.ix p hp;have:p.1=y:=hpy;rw[this]at e3;exact iQ (aV.mpr ⟨p,hp,Bq hN e3 e1⟩)
     ·exact e' (aP e1)
    rcases r with rfl|⟨rfl,rfl⟩
    ·rcases BH with rfl|rfl|rfl
     ·exact absurd (.inl Z) no
     ·exact absurd (.inr Z) no
     ·exact⟨e,.inr hk0⟩
    ·exact⟨e,.inl hk0⟩
   have e3:YK lB.scope y:=e3;rcases e3 with e3|e3|e3
   ·exact key _ e3 (.inl Z)
   ·exact key _ e3 (.inr (.inl Z))
   ·exact key _ e3 (.inr (.inr Z))
  obtain⟨m,hn,hl⟩:=I.loc;have ac':YK X.env.scope y:=(ok.free _ (cz abL.1) Z).elim (λk=>.inr (.inl k)) (λk=>.inr (.inr k));obtain⟨w,r,q⟩:=hl i y av e1 e2 ac';refine⟨w,r,.inr ⟨abL.2,?_⟩⟩;obtain⟨c,h1,h2⟩:=look abL.1;rcases q with⟨k,_⟩|⟨_,c',e',z⟩
  ·have k:X.env.scope.names.lookup y=aa .local:=k;rcases ok.free _ (cz abL.1) rfl with k'|k'<;>rw[show X.env.scope.names.lookup y=_ from k']at k<;>cases k
  ·rw[h2]at e';cases e';exact⟨c,h1,z.keeps kp⟩
 ·have e:lB.cells.lookup y=aa c:=e;rcases mem e with⟨h1,_⟩|⟨_,z⟩
  ·obtain⟨w,z⟩:=I.cell y c h1;exact⟨w,z.keeps kp⟩
  ·exact⟨_,z⟩
 ·show H lB.locals=ab;rw[hL];exact I.f7.fresh (aS _)
 ·have e:lB.cells.lookup y=aa c:=e;rcases mem e with⟨h1,_⟩|⟨h1,_⟩
  ·exact I.pF y c h1
  ·exact I.f7.fresh (q? h1)
 ·exact absurd (show p∈([]:List (ao×gt))++[]from hp) (by simp)
theorem XQ{E:ai->aq->Prop}{D:ao}{xs:V2}{y:V}{v:ai}{Q:ai->aq->Prop}(I:Inv X pins σ H s)(hD:H D=aa (.lst xs))(hz:xs.length<aE)(r:RelV y v)
 (h:∀s',Inv X pins σ (upd H D (.lst (xs++[y]))) s'->Q .none s'):aU (bg X.prog X.w) X.A (call (.builtin "list.append") [.ref D,v]) Q E s:=by
 obtain⟨EA,its,n,ri,e⟩:=I.f7 D _ hD;have hl:=ri.length;refine append_at (hsz:=by rw[bm];lia) e λh' sb Ck=>?_;refine h {s with heap:=h'} (I.write (t':=s.toks) (by rw[hD];trivial) (.inl Z) (λb u hb q=>(sb.2 b hb).trans q) ⟨_,Ck⟩ ⟨by rw[aQ];exact hz,its++[v],n+1,ri.append (.cons r .nil),?_⟩);rw[Ck];simp
def aa4(X:Cx)(Gc:List Expr)(t:TT):Prop:=
 ∀(pins:List (ao×gt))(s:aq)(σ:St)(H:Hp)(Q:Bool->Hp->Prop),Inv X pins σ H s->t σ H Q->
  aU (bg X.prog X.w) X.A (forIn Gc ac λc r=>if r=ac then do let ok<-isTrue c X.env (eval c X.env);pure (kq ok)else pure (kq r)) (TP X pins σ Q) X.xe s
def Fl:TT:=λ_ H Q=>Q ac H
theorem i9:aa4 X [] Fl:=λ_ _ _ H _ I h=>wpAny_tests_nil ⟨H,I,h⟩
theorem nG(h:PT X c t):aa4 X [c] t:=λpins s σ H Q I hw=>wpAny_tests_one (h pins s σ H Q I hw)
end
theorem Nm{α:Type}{t:uX α}{Q Q':α->aq->Prop}{M:JZ}{A:cb}{E:ai->aq->Prop}{s:aq}(h:aU M A t Q (λ_ _=>False) s)(hQ:∀a s,Q a s->Q' a s):aU M A t Q' E s:=f? h hQ λ_ _ z=>dW z
theorem Gs{prog:ba}{w:World}{A:cb}{R:AA->aq->Prop}{s:aq}{Jb x? iter:Expr}{Gc:List Expr}{scope:l_}{pos:ku}{it acc:ai}{env:Hd}(I:Nat->aq->Prop)
  (Ka:∀n s,I n s->aU (bg prog w) A (j4 it) (λr fX=>match r with
   |none=>R (.ok .next) fX
   |some v=>aU (bg prog w) A (wq x? it v) (λ_ Vl=>aU (bg prog w) A (V4 x? env v) (λ_ n? =>
     aU (bg prog w) A (forIn Gc ac λc r=>if r=ac then do let ok<-isTrue c env (eval c env);pure (kq ok)else pure (kq r)) (λok Ho=>
      if ok=ac then aU (bg prog w) A (eval Jb env) (λx Y'=>
       aU (bg prog w) A (call (.builtin "list.append") [acc,x]) (λ_ Y_=>∃m,m<n/\I m Y_) (Jw (bg prog w) A env λe s'=>R (.error e) s') Y') (Jw (bg prog w) A env λe s'=>R (.error e) s') Ho
      else∃m,m<n/\I m Ho) (Jw (bg prog w) A env λe s'=>R (.error e) s') n?) (Jw (bg prog w) A env λe s'=>R (.error e) s') Vl) (Jw (bg prog w) A env λe s'=>R (.error e) s') fX) (Jw (bg prog w) A env λe s'=>R (.error e) s') s)
  (n:Nat) (h:I n s):
  md (bg prog w) A (.compLoop (.ListComp Jb [⟨x?,iter,Gc,0⟩] scope pos) 0 it acc env) R s:=by
 refine codeAny_loop Z I (λn s hI=>?_) n h;show aU _ A ((compTurn (.ListComp Jb [⟨x?,iter,Gc,0⟩] scope pos) 0 it acc env).onRaise (λx=>do noteFrame x env;theTreesLotGoes x)) _ _ s;refine wpAny_noted ?_;rw[compTurn_list];refine ag (MV (ag (f? (Ka n s hI) (λr fX Uh=>?_) λ_ _ h'=>h')))
 cases r with
 |none=>exact au Uh
 |some v=>
  refine ag (f? Uh (λ_ Vl ZH=>?_) λ_ _ h'=>h');refine ag (f? ZH (λ_ n? QU=>ag (f? QU (λok Ho Ug=>?_) λ_ _ h'=>h')) λ_ _ h'=>h')
  cases ok with
  |false=>exact au ⟨Z,Ug⟩
  |true=>
   exact ag (ag (f? Ug (λx Y' ac5=>ag (f? ac5 (λ_ Y_ ac4=>au (au ⟨Z,ac4⟩)) λ_ _ h'=>h')) λ_ _ h'=>h'))
inductive afG(D:ao)(Nx:Hp->Prop)(y:V)(H4:Hp):Prop
 |mk(acc:V2)(_:H4 D=aa (.lst acc))(_:acc.length<aE)(_:Nx (upd H4 D (.lst (acc++[y]))))
inductive afI(g:TG)(tt:TT)(te:TE)(vs:V9)(σ:St)(J:It)(D:ao)(W:Nat->Nat->Hp->Prop)(i m:Nat)(H:Hp):Prop
 |mk(_:J.go i H)(Nx:Hp->Prop)(_:∀H',Nx H'->∃m',m'<m/\W (i+1) m' H')(_:∀x H',J.CJ i H x H'->g x (wipe σ vs) H' λgh H2=>wipe gh vs=wipe σ vs/\tt gh H2 λb H3=>if b=ac then te gh H3 (afG D Nx)else Nx H3)
inductive tLc_2(g:TG)(tt:TT)(te:TE)(vs:V9)(σ:St)(Qd:Hp->Prop)(J:It)(H1:Hp)(D:ao):Prop
 |mk(W:Nat->Nat->Hp->Prop)(_:∃m,W 0 m (upd H1 D (.lst [])))(_:∀i m H,W i m H->(J.stop i H/\Qd H)\/afI g tt te vs σ J D W i m H)
def abk(wi:TI)(g:TG)(tt:TT)(te:TE)(vs:V9):TE:=λσ H Q=>wi σ H λJ H1=>∀D,H1 D=ab->tLc_2 g tt te vs σ (Q (.ref D)) J H1 D
theorem Mg{pins:List (ao×gt)}{s:aq}{σ:St}{H:Hp}{Q:VK}{Jb tg iter:Expr}{Gc:List Expr}{scope:l_}{own:List (bV×Nat)}{pos zG:ku}{wi:TI}{g:TG}{tt:TT}{te:TE}{use:Option (ai->uX Unit)}{Qf:ai->aq->Prop}
 (hc:X.calm=ac)(hN:X.N.Nodup)(I:Inv X pins σ H s)(hi:PI X tg iter wi)(ok:Ju X.N X.env.scope scope own)
 (hg:∀(s:aq) (H:Hp) (C:ao) (cl:List (bV×ao)) (fp:List ao),PG (X.Gu s H scope (kS scope cl C X.env) fp) tg g)(ht:∀(s:aq) (H:Hp) (C:ao) (cl:List (bV×ao)) (fp:List ao),aa4 (X.Gu s H scope (kS scope cl C X.env) fp) Gc tt)
 (he:∀(s:aq) (H:Hp) (C:ao) (cl:List (bV×ao)) (fp:List ao),PE (X.Gu s H scope (kS scope cl C X.env) fp) Jb te)(hs:∀x,sX iter X.env x=pure x)
 (h:abk wi g tt te (own.map (·.2)) σ H Q)
 (hRR:∀D C s' m H',Inv X pins σ H' s'->Q (.ref D) H'->s'.heap.Ns C m->zT X pins H' C->compPost (bg X.prog X.w) X.A X.xe use Qf (.ref D) C (.ok .next) s'):
  aU (bg X.prog X.w) X.A (comprehension (.ListComp Jb [⟨tg,iter,Gc,0⟩] scope pos) scope X.env zG (newList []) ae (eval iter X.env) use) Qf X.xe s:=by
 have EF:∀y∈scope.names,y.2= .free->∃c,X.env.cells.lookup y.1=aa c:=λy hy e=>by
  rcases ok.free y hy e with k|k
  ·exact I.ok.has _ (.inl k)
  ·exact I.ok.has _ (.inr k)
 refine wpAny_comprehension_free (use:=use) Z hs (Li EF) ok.kind (λy hy e=>by rw[ok.uniq y hy,e])
  (ga (hi pins s σ H _ I h) λxv s1 hx=>ga hx λac1 s2 h2=>?_)
 obtain⟨it,fp,tn,J,H2,e,I2,T,abo,f2,q⟩:=h2;subst e;refine cC (Im ?_) (by show 0<=aE;decide);generalize hD:s2.heap.objs.size=D;have hDn:H2 D=ab:=I2.f7.fresh (o3 hD);obtain⟨W,⟨m0,w0⟩,Ka⟩:=q D hDn;generalize ZQ:({s2 with heap:=s2.heap.push {cls:=.type "list",data:=.seq ([]:X9).toArray}}:aq)=s3;have I3:Inv X pins σ (upd H2 D (.lst [])) s3:=by
  rw[<-ZQ];refine I2.laid (t':=s2.toks) (λb o e=>az _ e) (o3 hD) ⟨gx _,[],0,.nil,?_⟩;rw[<-hD];exact aT _ Z
 have h3:s3.heap=s2.heap.push {cls:=.type "list",data:=.seq ([]:X9).toArray}:=by rw[<-ZQ]
 have sz:∀b∈fp,b<s2.heap.objs.size:=λb hb=>by
  obtain⟨o,e,_⟩:=T.obj _ _ abo b hb;exact aW e
 have f3:∀b∈fp,zT X pins (upd H2 D (.lst [])) b/\b<s3.heap.objs.size:=λb hb=>by
  have gO:=sz b hb;refine⟨⟨?_,(f2 b hb).2⟩,by rw[h3,cH];exact gF gO⟩;rw[aZ (by rw[<-hD];exact bL gO)];exact(f2 b hb).1
 have abn:tn 0 s3.heap:=T.keep _ _ _ abo λb _ o e=>by rw[h3];exact az _ e
 have I4:=Jj I3 ok hN f3;have pg:=hg s3 (upd H2 D (.lst [])) s3.heap.objs.size (e9 (s3.heap.objs.size+1) scope.names (gi X.env.cells scope.names [])) fp;have pt:=ht s3 (upd H2 D (.lst [])) s3.heap.objs.size (e9 (s3.heap.objs.size+1) scope.names (gi X.env.cells scope.names [])) fp;have pe:=he s3 (upd H2 D (.lst [])) s3.heap.objs.size (e9 (s3.heap.objs.size+1) scope.names (gi X.env.cells scope.names [])) fp;show md _ _ (.compStart (.ListComp Jb [⟨tg,iter,Gc,0⟩] scope pos) 0 (.ref it) (.ref D) (kS scope (e9 (s3.heap.objs.size+1) scope.names (gi X.env.cells scope.names [])) s3.heap.objs.size X.env)) (compPost (bg X.prog X.w) X.A X.xe use Qf (.ref D) s3.heap.objs.size) {s3 with heap:=qX (s3.heap.push {cls:=.type "dict",data:=.dict #[]}) scope.names};have nfp:∀b∈fp,(upd H2 D (.lst [])) b=ab:=λb hb=>(f3 b hb).1.1;generalize VN:kS scope (e9 (s3.heap.objs.size+1) scope.names (gi X.env.cells scope.names [])) s3.heap.objs.size X.env=ce at I4 pg pt pe ⊢;have cL:ce.locals=s3.heap.objs.size:=by subst VN;rfl
 generalize hH3:upd H2 D (.lst [])=H3 at I3 I4 pg pt pe w0 nfp f3;generalize hs4:({s3 with heap:=qX (s3.heap.push {cls:=.type "dict",data:=.dict #[]}) scope.names}:aq)=s4 at I4 ⊢;have st4:tn 0 s4.heap:=T.keep _ _ _ abn λb _ o e=>by rw[<-hs4];exact wo _ _ _ _ (az _ e)
 have Kc:∀{jd:St}{H':Hp}{s':aq},Inv (X.Gu s3 H3 scope ce fp) [] jd H' s'->(∀b∈fp,H' b=ab)->∀b∈fp,zT (X.Gu s3 H3 scope ce fp) [] H' b:=λ{jd H' s'} I' hn b hb=>
  ⟨hn b hb,(I'.ok.ab3 b hb).1,I'.ok.Rv b hb,.inl hb,λx c e=>(I'.ok.ab3 b hb).2 x c e,λp hp=>absurd (show p∈([]:List (ao×gt))++[]from hp) (by simp)⟩
 have loop:md (bg X.prog X.w) X.A (.compLoop (.ListComp Jb [⟨tg,iter,Gc,0⟩] scope pos) 0 (.ref it) (.ref D) ce) (compPost (bg X.prog X.w) X.A X.xe use Qf (.ref D) s3.heap.objs.size) s4:=by
  refine Gs (λn s'=>∃i H',Inv (X.Gu s3 H3 scope ce fp) [] (wipe σ (own.map (·.2))) H' s'/\tn i s'.heap/\(∀b∈fp,H' b=ab)/\W i n H') ?_ m0 ⟨0,H3,I4,st4,nfp,w0⟩;rintro n s5 ⟨i,H5,I5,X6,n5,w5⟩;rcases Ka i n H5 w5 with⟨stop,qq⟩|⟨go,Nx,hNx,step⟩
  ·have td:=T.done (X.Gu s3 H3 scope ce fp) Z Z Z hc i [] s5 _ H5 (λ_ _=>False) I5 (Kc I5 n5) X6 stop;refine Nm td λr s6 ⟨hr,I6⟩=>?_;subst hr;have I7:Inv X pins σ H5 s6:=I3.aaV (ch:=fp) I6.os I6.base I6.f7 I6.bare λb hb=>⟨(f3 b hb).1.2.2.2.1,(f3 b hb).1.2.1,(f3 b hb).1.2.2.2.2.1,(f3 b hb).1.2.2.2.2.2⟩;have nC:H5 s3.heap.objs.size=ab:=by
    have z:H5 ce.locals=ab:=I6.free;rw[cL]at z;exact z
   obtain⟨m,hn,_⟩:=I6.loc;have hn:s6.heap.Ns ce.locals m:=hn;rw[cL]at hn;exact hRR D s3.heap.objs.size s6 m H5 I7 qq hn (I3.Rj (aS _) nC)
  ·have ti:=T.item (X.Gu s3 H3 scope ce fp) Z Z Z hc i [] s5 _ H5 (λ_ _=>False) I5 (Kc I5 n5) X6 go;refine Nm ti λr s6 ⟨u,hr,h6⟩=>?_;subst hr;refine Nm h6 λ_ s7 ⟨x,H7,I7,r7,y7,acu,n7⟩=>?_;have I7':=I7.pinned (Kc I7 n7) (T.obj _ _ acu);refine Nm (pg _ s7 _ H7 x u _ I7' r7 (step x H7 y7)) λ_ s8 ⟨aba,H8,I8,hw8,q8⟩=>?_;refine Nm (pt _ s8 aba H8 _ I8 q8) λb s9 ⟨H9,I9,q9⟩=>?_;have fin:∀{s':aq}{H':Hp},Inv (X.Gu s3 H3 scope ce fp) ([]++vU fp s7.heap) aba H' s'->Nx H'->∃m,m<n/\∃i H',Inv (X.Gu s3 H3 scope ce fp) [] (wipe σ (own.map (·.2))) H' s'/\tn i s'.heap/\(∀b∈fp,H' b=ab)/\W i m H':=λ{s' H'} I' nx=>by
    obtain⟨m',hm,w'⟩:=hNx H' nx;have Zo:∀b∈fp,∀o,s7.heap.get? b=aa o->s'.heap.get? b=aa o/\H' b=ab:=λb hb o e=>
     let z:=I'.pin (b,o) (dR _ (dR _ (v3 hb e)))
     ⟨z.1,z.2.1⟩
    have hl:(wipe σ (own.map (·.2))).length=aba.length:=by rw[<-hw8,tL]
    refine⟨m',hm,i+1,H',(I'.tP (pins:=[])).weak hl (λj v e=>?_),T.keep _ _ _ acu λb hb o e=>(Zo b hb o e).1,λb hb=>?_,w'⟩
    ·rw[<-hw8]at e;exact(x9 e).1
    ·obtain⟨o,e,_⟩:=T.obj _ _ acu b hb;exact(Zo b hb o e).2
   cases b with
   |false=>
    simp only[bA,if_false]at q9 ⊢;exact fin I9 q9
   |true=>
    simp only[if_true]at q9 ⊢;refine Nm (pe _ s9 aba H9 _ I9 q9) λz WB ⟨yv,aeA,I10,r10,acc,aec,ac8,nx⟩=>?_;exact XQ (X:=X.Gu s3 H3 scope ce fp) I10 aec ac8 r10 λabp I11=>fin I11 nx
 exact codeAny_compStart_list loop (T.self X.A 0 _ _ _ st4 loop)
theorem mr{Jb tg iter:Expr}(hc:X.calm=ac)(hN:X.N.Nodup)(hi:PI X tg iter wi)(ok:Ju X.N X.env.scope scope own)
 (hg:∀(s:aq) (H:Hp) (C:ao) (cl:List (bV×ao)) (fp:List ao),PG (X.Gu s H scope (kS scope cl C X.env) fp) tg g)(ht:∀(s:aq) (H:Hp) (C:ao) (cl:List (bV×ao)) (fp:List ao),aa4 (X.Gu s H scope (kS scope cl C X.env) fp) Gc tt)
 (he:∀(s:aq) (H:Hp) (C:ao) (cl:List (bV×ao)) (fp:List ao),PE (X.Gu s H scope (kS scope cl C X.env) fp) Jb te)(hs:∀x,sX iter X.env x=pure x:=by intro _;rfl):
  PE X (.ListComp Jb [⟨tg,iter,Gc,0⟩] scope pos) (abk wi g tt te (own.map (·.2))):=by
 intros;rw[eval_ListComp];refine Mg hc hN I hi ok hg ht he hs h λD C s' m H' I' q hn f=>⟨m,hn,λabX sb=>?_⟩;obtain⟨f0,f1,f2,f3,f4,f5⟩:=f;exact⟨.ref D,H',I'.turned (t':=s'.toks) (λb o hb e=>(sb.2 b hb).trans e) f0 f1 f3 f4 f5,Z,q⟩
theorem qz{Jb tg iter:Expr}(hc:X.calm=ac)(hN:X.N.Nodup)(hy:X.N[i]? =aa y)(Ui:X.env.scope.names.lookup y=aa .local)
 (hsw:E4 (.ListComp Jb [⟨tg,iter,Gc,0⟩] scope pos) (aa (.Name y py)) Y?.line X.env=pure ac)(hi:PI X tg iter wi)(ok:Ju X.N X.env.scope scope own)
 (hg:∀(s:aq) (H:Hp) (C:ao) (cl:List (bV×ao)) (fp:List ao),PG (X.Gu s H scope (kS scope cl C X.env) fp) tg g)(ht:∀(s:aq) (H:Hp) (C:ao) (cl:List (bV×ao)) (fp:List ao),aa4 (X.Gu s H scope (kS scope cl C X.env) fp) Gc tt)
 (he:∀(s:aq) (H:Hp) (C:ao) (cl:List (bV×ao)) (fp:List ao),PE (X.Gu s H scope (kS scope cl C X.env) fp) Jb te)(hs:∀x,sX iter X.env x=pure x:=by intro _;rfl):
  PS X (.Assign [.Name y py] (.ListComp Jb [⟨tg,iter,Gc,0⟩] scope pos) Y?) (Y8 (abk wi g tt te (own.map (·.2))) (Mx i)):=by
 intro pins s σ H D I h;rw[exec_Assign_Name_used _ _ _ _ hsw];refine ag (MV (ag ?_));show aU _ X.A (do let _<-comprehension (.ListComp Jb [⟨tg,iter,Gc,0⟩] scope pos) scope X.env (firstIterPos [⟨tg,iter,Gc,0⟩] pos) (newList []) ae (eval iter X.env) (aa (V4 (.Name y py) X.env))) _ _ s;have h:abk wi g tt te (own.map (·.2)) σ H (λx H1=>Mx i x σ H1 D.nx):=h;refine ag (ga (Mg (Qf:=λ_ s'=>SP X pins D .next s') hc hN I hi ok hg ht he hs h λL C s' m H' I' q hn f=>?_) λ_ s' hq=>au (au hq));show aU _ _ (V4 (.Name y py) X.env (.ref L)) _ _ _;refine wpAny_assign_Name (Ee (v:=V.ref L) I' hN hy (.inl Ui) Z (λs2 I2 ⟨a,sb,ha⟩=>?_) (.inr Ui));obtain⟨f0,f1,f2,f3,f4,f5⟩:=f;have haC:C≠a:=by
  rcases ha with z|z
  ·rw[z];exact f1
  ·exact λe=>f4 y a z e.symm
 refine⟨m,hn.sameBut sb haC,λh3 Zb=>?_⟩;exact⟨_,H',I2.turned (t':=s2.toks) (λb o hb e=>(Zb.2 b hb).trans e) f0 f1 f3 f4 f5,q⟩
theorem Uc{K:aj}(Pv:Nat->Hp->Prop)(h0:Pv 0 (upd H1 D (.lst [])))(hl:∀i H,i<=xs.length->Pv i H->bQ K H a xs)
  (hs:∀i x H,xs[i]? =aa x->Pv i H->g x (wipe σ vs) H λgh H2=>wipe gh vs=wipe σ vs/\tt gh H2 λb H3=>
   if b=ac then te gh H3 (afG D (Pv (i+1)))else Pv (i+1) H3) (hd:∀H,Pv xs.length H->Qd H):
  tLc_2 g tt te vs σ Qd (E1 K a) H1 D:=by
 refine⟨λi m H=>m=xs.length - i/\i<=xs.length/\Pv i H,⟨xs.length,by simp,gx _,h0⟩,?_⟩;rintro i m H ⟨rfl,hi,p⟩;have q:=hl i H hi p;by_cases gO:i<xs.length
 ·refine .inr ⟨⟨xs,xs[i],q,by simp[gO]⟩,Pv (i+1),λH' p'=>⟨xs.length - (i+1),om,Z,gO,p'⟩,λx H' y=>?_⟩;obtain⟨e,y⟩:=y;subst e;exact hs i x _ (y xs q) p
 ·have e:i=xs.length:=om;subst e;exact .inl ⟨⟨xs,q,aS _⟩,hd H p⟩
def aaX(N:List bV)(sc scope:l_)(own:List (bV×Nat)):Bool:=
 (match scope.kind with| .function=>ac|_=>ae)&&(scope.names.all λy=>decide (scope.names.lookup y.1=aa y.2))&&(own.all λp=>decide (N[p.2]? =aa p.1))&&
  (scope.names.all λy=>match y.2 with
   | .free=>(match sc.names.lookup y.1 with|some .cell=>ac|some .free=>ac|_=>ae)
   | .local=>decide (y.1∈own.map (·.1))||decide (y.1∉N)
   | .cell=>decide (y.1∈own.map (·.1))||decide (y.1∉N)
   |_=>ac)
theorem eE(h:aaX N sc scope own=ac):Ju N sc scope own:=by
 unfold aaX at h;simp only[aK,dC,decide_eq_true_eq]at h;obtain⟨⟨⟨h1,h2⟩,h3⟩,h4⟩:=h;refine⟨?_,h2,h3,λy hy e=>?_,λy hy e=>?_⟩
 ·split at h1
  ·assumption
  ·cases h1
 ·have q:=h4 y hy;simp only[e]at q;split at q<;>first|exact .inl (by assumption)|exact .inr (by assumption)|cases q
 ·have q:=h4 y hy;rcases e with e|e<;>(simp only[e,gG,decide_eq_true_eq]at q;exact q)
section
variable{prog:ba}{w:World}{A:cb}{R:AA->aq->Prop}{s:aq}{Jb t0 i0 t1 i1:Expr}{ifs0 ifs1:List Expr}{scope:l_}{pos:ku}{it acc:ai}{env:Hd}
end
section
variable {κ:Type} [DecidableEq κ]
def eY(kvs:List (κ×V))(k:κ):Option V:=(kvs.find? λkv=>decide (kv.1=k)).map (·.2)
def putK(kvs:List (κ×V))(k:κ)(v:V):List (κ×V):=
 if(kvs.any λkv=>decide (kv.1=k))=ac then kvs.map (λkv=>if kv.1=k then(kv.1,v)else kv)else kvs++[(k,v)]
def ik(kvs:List (κ×V))(k:κ):List (κ×V):=kvs.filter λkv=>decide (kv.1≠k)
theorem ii{p:κ×V}{r:List (κ×V)}{k:κ}(e:p.1=k):eY (p::r) k=aa p.2:=by simp[eY,cN,e]
theorem gD{p:κ×V}{r:List (κ×V)}{k:κ}(e:¬p.1=k):eY (p::r) k=eY r k:=by simp[eY,cN,e]
theorem m5(k:κ):∀kvs:List (κ×V),(kvs.any λkv=>decide (kv.1=k))=(eY kvs k).isSome
 |[]=>rfl
 |p::r=>by
  rw[d9];by_cases e:p.1=k
  ·simp only[ii e,decide_eq_true e,Bool.true_or,Option.isSome_some]
  ·rw[gD e,ay e,wC];exact m5 k r
theorem Hk(k j:κ)(y:V):∀kvs:List (κ×V),eY (kvs.map λkv=>if kv.1=k then(kv.1,y)else kv) j=(eY kvs j).map λx=>if j=k then y else x
 |[]=>rfl
 |p::r=>by
  have ih:=Hk k j y r;rw[bC];by_cases h:p.1=k
  ·rw[aC h];by_cases e:p.1=j
   ·rw[ii (p:=(p.1,y)) e,ii e,gB,aC (e.symm.trans h)]
   ·rw[gD (p:=(p.1,y)) e,gD e,ih]
  ·rw[aw h];by_cases e:p.1=j
   ·rw[ii (p:=p) e,ii e,gB,aw (λz=>h (e.trans z))]
   ·rw[gD (p:=p) e,gD e,ih]
theorem Ea(k j:κ)(y:V):∀kvs:List (κ×V),eY kvs k=ab->eY (kvs++[(k,y)]) j=if j=k then aa y else eY kvs j
 |[],_=>by
  by_cases e:k=j
  ·rw[aC e.symm];exact ii (p:=(k,y)) e
  ·rw[aw (λz=>e z.symm)];exact gD (p:=(k,y)) e
 |p::r,hn=>by
  rw[zY];have hk:¬p.1=k:=λz=>by rw[ii z]at hn;cases hn
  rw[gD hk]at hn;have ih:=Ea k j y r hn;by_cases e:p.1=j
  ·rw[ii e,ii e,aw (λz=>hk (e.trans z))]
  ·rw[gD e,gD e,ih]
theorem n9(kvs:List (κ×V))(k j:κ)(y:V):eY (putK kvs k y) j=if j=k then aa y else eY kvs j:=by
 unfold putK;by_cases a:(kvs.any λkv=>decide (kv.1=k))=ac
 ·rw[aC a,Hk];rw[m5]at a;by_cases e:j=k
  ·obtain⟨x,hx⟩:=iH.mp a;rw[aC e,e,hx,gB,aC Z]
  ·rw[aw e]
   cases eY kvs j with
   |none=>rfl
   |some x=>rw[gB,aw e]
 ·rw[aw a];refine Ea k j y kvs ?_;rw[m5]at a
  cases q:eY kvs k with
  |none=>rfl
  |some x=>rw[q]at a;exact(a Z).elim
theorem pC(kvs:List (κ×V))(k:κ)(v:V):(putK kvs k v).length<=kvs.length+1:=by
 unfold putK;split
 ·rw[af];lia
 ·rw[aQ,aJ,tJ];lia
theorem P5{kvs:List (κ×V)}{k:κ}(v:V)(h:eY kvs k=ab):putK kvs k v=kvs++[(k,v)]:=by
 unfold putK;rw[m5,h];exact aw dk
theorem qU.qI(r:qU o u):o.isSome=u.isSome:=by
 cases o with
 |none=>cases u with
  |none=>rfl
  |some _=>exact(show False from r).elim
 |some _=>cases u with
  |none=>exact(show False from r).elim
  |some _=>rfl
theorem qU.getD(r:qU o u)(rd:RelV d d'):RelV (o.getD d) (u.getD d'):=by
 cases o with
 |none=>cases u with
  |none=>exact rd
  |some _=>exact(show False from r).elim
 |some _=>cases u with
  |none=>exact(show False from r).elim
  |some _=>exact r
theorem KV.val(r:KV kvs vs)(k:κ):qU (eY kvs k) (vF vs k):=by
 unfold KV at r
 induction r with
 |nil=>exact m?
 | @cons p q ps qs h t ih=>
  obtain⟨h1,h2⟩:=h;by_cases e:p.1=k
  ·have e':q.1=k:=h1.symm.trans e;have b:vF (q::qs) k=aa q.2:=by simp[vF,cN,e']
   rw[ii e,b];exact h2
  ·have e':¬q.1=k:=λz=>e (h1.trans z);have b:vF (q::qs) k=vF qs k:=by simp[vF,cN,e']
   rw[gD e,b];exact ih
theorem KV.any(r:KV kvs vs)(k:κ):(kvs.any λkv=>decide (kv.1=k))=vs.any λkv=>decide (kv.1=k):=by
 unfold KV at r
 induction r with
 |nil=>rfl
 |cons h t ih=>rw[d9,d9,ih,h.1]
theorem KV.WC(r:KV kvs vs)(k:κ)(ry:RelV y u):
  KV (kvs.map λkv=>if kv.1=k then(kv.1,y)else kv) (vs.map λkv=>if kv.1=k then(kv.1,u)else kv):=by
 unfold KV at r ⊢
 induction r with
 |nil=>exact .nil
 | @cons p q ps qs h t ih=>
  rw[bC,bC];refine .cons ?_ ih;obtain⟨h1,h2⟩:=h;by_cases e:p.1=k
  ·rw[aC e,aC (h1.symm.trans e)];exact⟨h1,ry⟩
  ·rw[aw e,aw (λz=>e (h1.trans z))];exact⟨h1,h2⟩
theorem KV.put(r:KV kvs vs)(k:κ)(ry:RelV y u):KV (putK kvs k y) (OT vs k u):=by
 unfold putK OT;rw[r.any k];by_cases e:(vs.any λkv=>decide (kv.1=k))=ac
 ·rw[aC e,aC e];exact r.WC k ry
 ·rw[aw e,aw e];exact V' r ⟨Z,ry⟩
theorem KV.drop(r:KV kvs vs)(k:κ):KV (ik kvs k) (without vs k):=by
 unfold KV at r ⊢;unfold ik without
 induction r with
 |nil=>exact .nil
 | @cons p q ps qs h t ih=>
  obtain⟨h1,h2⟩:=h;rw[bH,bH];by_cases e:p.1=k
  ·have a:¬decide (p.1≠k)=ac:=by simp[e]
   have b:¬decide (q.1≠k)=ac:=by simp[h1.symm.trans e]
   rw[aw a,aw b];exact ih
  ·have e':¬q.1=k:=λz=>e (h1.trans z);have a:decide (p.1≠k)=ac:=by simp[e]
   have b:decide (q.1≠k)=ac:=by simp[e']
   rw[aC a,aC b];exact .cons ⟨h1,h2⟩ ih
theorem KV.length(r:KV kvs vs):kvs.length=vs.length:=mY r
theorem RA(kvs:List (κ×V))(k:κ):(ik kvs k).length<=kvs.length:=bx _ _
end
theorem uj{P:ba}{w:World}{k:Key}{u:ai}(r:RelV (kV k) u):(fh P w).is k u=ac:=by
 cases k with
 |inl i=>obtain⟨t,e⟩:=(show∃t,u=j5 i t from r);subst e;exact Iu P w i t
 |inr x=>obtain⟨t,e⟩:=(show∃t,u=ve x t from r);subst e;exact Ir P w x t
theorem Ey{P:ba}{w:World}:∀{ks:List Key}{us:X9},Vals (ks.map kV) us->ItemsAre (fh P w) ks us
 |[],_,r=>by rw[oQ]at r;cases r;exact .nil
 |k::ks,_,r=>by
  rw[bC]at r
  cases r with
  |cons h t=>exact .cons (uj h) (Ey t)
abbrev KT(H:Hp):List (List Key×V)->List (List Key×ao×ai)->Prop:=ci λp q=>p.1=q.1/\H q.2.1=aa (.tup (p.1.map kV))/\RelV p.2 q.2.2
theorem KT.val(r:KT H kvs xs)(k:List Key):qU (eY kvs k) ((JW xs k).map (·.2)):=by
 induction r with
 |nil=>exact m?
 | @cons p q ps qs h t ih=>
  obtain⟨h1,_,h2⟩:=h;by_cases e:p.1=k
  ·have e':q.1=k:=h1.symm.trans e;have b:JW (q::qs) k=aa q.2:=by simp[JW,cN,e']
   rw[ii e,b];exact h2
  ·have e':¬q.1=k:=λz=>e (h1.trans z);have b:JW (q::qs) k=JW qs k:=by simp[JW,cN,e']
   rw[gD e,b];exact ih
theorem KT.WC(r:KT H kvs xs)(k:List Key)(ry:RelV y u):
  KT H (kvs.map λkv=>if kv.1=k then(kv.1,y)else kv) (xs.map (putAt k u)):=by
 induction r with
 |nil=>exact .nil
 | @cons p q ps qs h t ih=>
  rw[bC,bC];refine .cons ?_ ih;obtain⟨h1,h2,h3⟩:=h;unfold putAt;by_cases e:p.1=k
  ·rw[aC e,aC (h1.symm.trans e)];exact⟨h1,h2,ry⟩
  ·rw[aw e,aw (λz=>e (h1.trans z))];exact⟨h1,h2,h3⟩
theorem KT.put(r:KT H kvs xs)(k:List Key)(hb:H b=aa (.tup (k.map kV)))(ry:RelV y u):
  KT H (putK kvs k y) (storedH xs k b u):=by
 have e:(kvs.any λkv=>decide (kv.1=k))=(JW xs k).isSome:=by
  rw[m5,(r.val k).qI,iu]
 unfold putK storedH;rw[e];by_cases q:(JW xs k).isSome=ac
 ·rw[aC q,aC q];exact r.WC k ry
 ·rw[aw q,aw q];exact V' r ⟨Z,hb,ry⟩
theorem KT.keeps(r:KT H kvs xs)(ht:∀b ys,H b=aa (.tup ys)->H' b=aa (.tup ys)):KT H' kvs xs:=
 ci.WZ r λ_ _ z=>⟨z.1,ht _ _ z.2.1,z.2.2⟩
section
variable{P:ba}{w:World}{H:Hp}{h:bO}{a:ao}
theorem Vp(ok:uA P w H h)(e:Rd H a u):ji P w H h a u:=e.ok ok
theorem vA(ok:uA P w H h)(e:Rd H a (.dK kvs)):kvs.length<=aE/\(a==iz)=ae/\∃vs,KV kvs vs/\h.DictOf (fh P w) a vs:=
 show ji P w H h a (.dK kvs)from Vp ok e
theorem MG(ok:uA P w H h)(e:H a=aa (.dK kvs)):kvs.length<=aE/\(a==iz)=ae/\∃vs,KV kvs vs/\h.DictOf (fh P w) a vs:=vA ok (.inl e)
theorem yA(ok:uA P w H h)(e:H a=aa (.tup (ks.map kV))):(yQ (fh P w)).is h ks a:=by
 obtain⟨_,its,r,o,h1,h2,n,h3⟩:=(show ji P w H h a (.tup (ks.map kV))from ok a _ e);exact⟨o,its.toArray,n,h1,h2,h3,by simpa using Ey r⟩
theorem B3(ok:uA P w H h)(e:Rd H a (.dT kvs)):kvs.length<=aE/\(a==iz)=ae/\
  ∃xs,KT H kvs xs/\h.DictOfH (yQ (fh P w)) a xs:=by
 obtain⟨z,y,xs,r,o,es,ep,h1,h2,h3,h4,h5⟩:=(show ji P w H h a (.dT kvs)from Vp ok e);refine⟨z,y,xs,r,o,es,ep,h1,h2,h3,h4,λx hx=>?_,h5⟩;have all:∀{l:List (List Key×V)}{m:List (List Key×ao×ai)},KT H l m->∀x∈m,(yQ (fh P w)).is h x.1 x.2.1:=by
  intro l m q
  induction q with
  |nil=>intro x hx;exact nomatch hx
  | @cons p q ps qs hq t ih=>
   intro x hx;rcases aF.mp hx with e|hx
   ·subst e;exact yA ok (by rw[<-hq.1];exact hq.2.1)
   ·exact ih x hx
 exact all r x hx
theorem aaR(ok:uA P w H h)(e:H a=aa (.dT kvs)):kvs.length<=aE/\(a==iz)=ae/\
  ∃xs,KT H kvs xs/\h.DictOfH (yQ (fh P w)) a xs:=B3 ok (.inl e)
end
def m_(H:Hp)(a:ao)(y:V)(r:Option V):Prop:=
 (∃kvs k,Rd H a (.dK kvs)/\y=kV k/\r=eY kvs k)\/∃kvs k b,Rd H a (.dT kvs)/\y= .ref b/\H b=aa (.tup (k.map kV))/\r=eY kvs k
def GA(H:Hp)(a:ao)(y v:V)(H':Hp):Prop:=
 (∃kvs k,H a=aa (.dK kvs)/\y=kV k/\kvs.length<aE/\H'=upd H a (.dK (putK kvs k v)))\/
 ∃kvs k b,H a=aa (.dT kvs)/\y= .ref b/\H b=aa (.tup (k.map kV))/\kvs.length<aE/\H'=upd H a (.dT (putK kvs k v))
theorem GA.k{H:Hp}{a:ao}{kvs:List (Key×V)}{k:Key}{v:V}(e:H a=aa (.dK kvs))(hl:kvs.length<aE):GA H a (kV k) v (upd H a (.dK (putK kvs k v))):=.inl ⟨kvs,k,e,rfl,hl,rfl⟩
section
variable{X:Cx}{pins:List (ao×gt)}{σ:St}{H:Hp}{s:aq}{a:ao}{y v:V}{u r:ai}{o:Option V}{A:cb}{E:ai->aq->Prop}
theorem Inv.big(I:Inv X pins σ H s):iz<s.heap.objs.size:=by
 have h:cR<s.heap.objs.size:=(I.mod.glob.keeps I.bk).lt;exact mG dk h
theorem Od(hu:A.units+1<mS)(I:Inv X pins σ H s)(g:m_ H a y (aa v))(ry:RelV y u)(h:∀w' s',Inv X pins σ H s'->RelV v w'->Q w' s'):
  aU (bg X.prog X.w) A (Jy (.ref a) u) Q E s:=by
 rcases g with⟨kvs,k,e,ey,l⟩|⟨kvs,k,b,e,ey,eb,l⟩
 ·subst ey;obtain⟨z,hd,vs,rel,dd⟩:=vA I.f7 e;obtain⟨w',hw,C?⟩:=qU.some_of (v:=v) (o:=vF vs k) (by rw[l];exact rel.val k);exact wpAny_getItem_of (uj ry) dd.mapOf hw (h w' _ (I.tok _) C?)
 ·subst ey
  cases(show u=bn b from ry);obtain⟨z,hd,xs,rel,dd⟩:=B3 I.f7 e;obtain⟨w',hw,C?⟩:=qU.some_of (v:=v) (o:=(JW xs k).map (·.2)) (by rw[l];exact rel.val k);obtain⟨p,hp,l9⟩:=l8.mp hw;refine wpAny_getItem_heap (mC hu) (yA I.f7 eb) dd hp ?_;rw[l9];exact h w' _ (I.tok _) C?
theorem aes(hu:A.units+1<mS)(I:Inv X pins σ H s)(g:m_ H a y o)(ry:RelV y u)(h:∀s',Inv X pins σ H s'->Q (.bool o.isSome) s'):
  aU (bg X.prog X.w) A (d? .In u (.ref a)) Q E s:=by
 rcases g with⟨kvs,k,e,ey,l⟩|⟨kvs,k,b,e,ey,eb,l⟩
 ·subst ey;obtain⟨z,hd,vs,rel,dd⟩:=vA I.f7 e;refine wpAny_in_of (uj ry) hd dd.mapOf ?_;rw[<-(rel.val k).qI,<-l];exact h _ (I.tok _)
 ·subst ey
  cases(show u=bn b from ry);obtain⟨z,hd,xs,rel,dd⟩:=B3 I.f7 e;refine wpAny_in_heap (mC hu) (yA I.f7 eb) hd dd ?_;have q:=(rel.val k).qI;rw[iu]at q;rw[<-q,<-l];exact h _ (I.tok _)
theorem UM(hu:A.units+1<mS)(I:Inv X pins σ H s)(g:m_ H a y o)(ry:RelV y u)(h:∀s',Inv X pins σ H s'->Q (.bool (!o.isSome)) s'):
  aU (bg X.prog X.w) A (d? .NotIn u (.ref a)) Q E s:=by
 rcases g with⟨kvs,k,e,ey,l⟩|⟨kvs,k,b,e,ey,eb,l⟩
 ·subst ey;obtain⟨z,hd,vs,rel,dd⟩:=vA I.f7 e;refine wpAny_notIn_of (uj ry) hd dd.mapOf ?_;rw[<-(rel.val k).qI,<-l];exact h _ (I.tok _)
 ·subst ey
  cases(show u=bn b from ry);obtain⟨z,hd,xs,rel,dd⟩:=B3 I.f7 e;refine wpAny_notIn_heap (mC hu) (yA I.f7 eb) hd dd ?_;have q:=(rel.val k).qI;rw[iu]at q;rw[<-q,<-l];exact h _ (I.tok _)
theorem Aw(I:Inv X pins σ H s)(mu:UU (H a))(hs:eG a s.heap h')(he:∃q,h'.get? a=aa q)(new:ji X.prog X.w (upd H a ob) h' a ob):
  Inv X pins σ (upd H a ob) {s with heap:=h',toks:=t'}:=
 I.write (x:=a) (e:=a) mu (.inl Z) (λb q hb z=>(hs.2 b hb).trans z) he new
theorem Lc{P:ba}{w:World}{H':Hp}{h':bO}{kvs:List (Key×V)}{vs:List (Key×ai)}(z:kvs.length<=aE)(hd:(a==iz)=ae)(rel:KV kvs vs)(dd:h'.DictOf (fh P w) a vs):
  ji P w H' h' a (.dK kvs):=⟨z,hd,vs,rel,dd⟩
theorem Oc(hu:A.units+1<mS)(I:Inv X pins σ H s)(g:GA H a y v H')(ry:RelV y u)(rv:RelV v r)(h:∀s',Inv X pins σ H' s'->Q () s'):
  aU (bg X.prog X.w) A (setItem (.ref a) u r) Q E s:=by
 rcases g with⟨kvs,k,e,ey,l,eH⟩|⟨kvs,k,b,e,ey,eb,l,eH⟩
 ·subst ey eH;obtain⟨z,hd,vs,rel,dd⟩:=MG I.f7 e;have hz:vs.length<=aE:=by rw[<-rel.length];exact z
  have hl:(putK kvs k v).length<=aE:=by have:=pC kvs k v;lia
  refine wpAny_setItem_pairs (hsz:=hz) (uj ry) dd λh' Sy hs=>h _ ?_;have he:∃q,h'.get? a=aa q:=let⟨q,_,_,hq,_⟩:=Sy;⟨q,hq⟩;exact Aw I (by rw[e];exact m?) hs he (Lc hl hd (rel.put k rv) Sy)
 ·subst ey eH
  cases(show u=bn b from ry);obtain⟨z,hd,xs,rel,dd⟩:=aaR I.f7 e;have hz:xs.length<=aE:=by rw[<-mY rel];exact z
  have hl:(putK kvs k v).length<=aE:=by have:=pC kvs k v;lia
  refine wpAny_setItem_heap (hsz:=hz) (mC hu) (yA I.f7 eb) dd λh' Sy hs=>h _ ?_;obtain⟨q,es,ep,hq,h2,h3,h4,_,h5⟩:=Sy;refine Aw I (by rw[e];exact m?) hs ⟨q,hq⟩ ⟨hl,hd,_,(rel.put k eb rv).keeps λc ys ec=>?_,q,es,ep,hq,h2,h3,h4,h5⟩;rw[aZ (lh ec e (λz=>nomatch z))];exact ec
end
section
variable{X:Cx}{pins:List (ao×gt)}{σ:St}{H:Hp}{s:aq}{a:ao}{kvs:List (Key×V)}{k:Key}{u:ai}{A:cb}{E:ai->aq->Prop}
theorem VV(I:Inv X pins σ H s)(e:H a=aa (.dK kvs))(ry:RelV (kV k) u)(l:eY kvs k=aa v)(hm:more=[]\/∃x,more=[x])
 (h:∀w' s',Inv X pins σ (upd H a (.dK (ik kvs k))) s'->RelV v w'->Q w' s'):aU (bg X.prog X.w) A (call (.builtin "dict.pop") (.ref a::u::more)) Q E s:=by
 obtain⟨z,hd,vs,rel,dd⟩:=MG I.f7 e;obtain⟨w',hw,C?⟩:=qU.some_of (v:=v) (o:=vF vs k) (by rw[<-l];exact rel.val k);have hp:(keyPart u).isSome=ac:=by
  cases k with
  |inl i=>obtain⟨t,q⟩:=(show∃t,u=j5 i t from ry);subst q;rfl
  |inr x=>obtain⟨t,q⟩:=(show∃t,u=ve x t from ry);subst q;rfl
 have ha:vI "dict.pop" ⟨.ref a::u::more,[]⟩:=by
  rcases hm with q|⟨x,q⟩
  ·subst q;exact PySem.F.args_dict_pop_2 _ _
  ·subst q;exact DZ _ _ _
 refine vH mj dd.typeIs Fa ha (meets_dict_pop_there (fh X.prog X.w) a (uj ry) more hm hp)
  ⟨vs,w',dd,by rw[<-rel.length];exact z,hw,λh' Sy hs=>h w' _ ?_ C?⟩
 have he:∃q,h'.get? a=aa q:=let⟨q,_,_,hq,_⟩:=Sy;⟨q,hq⟩;exact Aw I (by rw[e];exact m?) hs he (Lc (aB (RA kvs k) z) hd (rel.drop k) Sy)
theorem XF(I:Inv X pins σ H s)(e:H a=aa (.dK kvs))(ry:RelV (kV k) u)(l:eY kvs k=ab)(h:∀s',Inv X pins σ H s'->Q r s'):
  aU (bg X.prog X.w) A (call (.builtin "dict.pop") [.ref a,u,r]) Q E s:=by
 obtain⟨z,hd,vs,rel,dd⟩:=MG I.f7 e;have hn:vF vs k=ab:=qU.none_of (by rw[<-l];exact rel.val k);have hp:(keyPart u).isSome=ac:=by
  cases k with
  |inl i=>obtain⟨t,q⟩:=(show∃t,u=j5 i t from ry);subst q;rfl
  |inr x=>obtain⟨t,q⟩:=(show∃t,u=ve x t from ry);subst q;rfl
 exact vH mj dd.typeIs Fa (DZ _ _ _) (meets_dict_pop_default (fh X.prog X.w) a (uj ry) hd hp r) ⟨vs,dd,hn,h _ (I.tok _)⟩
theorem aaS(I:Inv X pins σ H s)(e:Rd H a (.dK kvs))(h:∀t s',Inv X pins σ H s'->Q (.int kvs.length t) s'):aU (bg X.prog X.w) A (call (.builtin "len") [.ref a]) Q E s:=by
 obtain⟨z,hd,vs,rel,dd⟩:=vA I.f7 e;refine call_len_dict hd dd (by rw[<-rel.length];rw[oW]at z;lia) ?_;rw[<-rel.length];exact h _ _ (I.tok _)
end
def XS(i:Expr):Prop:=∀ov iv,GC i ae ov iv=operate [ov,iv] (Jy ov iv)
theorem LI{prog:ba}{w:World}{A:cb}{E:ai->aq->Prop}{s:aq}{env:Hd}{eT wO:Expr}{pos:ku}{T id:String}{Q:ai->aq->Prop}
 (hl:Az (.type T) "__getitem__"=pure (aa (.builtin id)))(hs:XS wO)
 (h:aU (bg prog w) A (eval eT env) (λo fX=>aU (bg prog w) A (eval wO env) (λi n? =>n?.TypeIs o T/\aU (bg prog w) A (Jy o i) Q E n?) E fX) E s):
  aU (bg prog w) A (eval (.Subscript eT wO pos) env) Q E s:=by
 refine V6 (f? h (λo fX Uh=>f? Uh (λi n? QU=>?_) λ_ _ x=>x) λ_ _ x=>x);obtain⟨hT,QU⟩:=QU;unfold MX;refine ag ?_;rw[getitemInPython_of_ne hT.not_modules];refine ag (wm hT hl ?_);have fin:aU (bg prog w) A (GC wO ae o i) (λr Ho=>aU (bg prog w) A (letTemporaryGo eT o r>>=λ_=>pure r) Q E Ho) E n? :=by
  rw[hs o i];exact wpAny_operating (f? QU (λr Ho Ug=>ag (wpAny_letTemporaryGo (au Ug))) λ_ _ x=>x)
 first
  |exact au (ag fin)
  |exact ag (au (ag fin))
  |exact ag fin
theorem Jc{X:Cx}{pins:List (ao×gt)}{σ:St}{H:Hp}{s:aq}{a:ao}{y:V}{o:Option V}(I:Inv X pins σ H s)(g:m_ H a y o):s.TypeIs (.ref a) "dict":=by
 rcases g with⟨kvs,k,e,_,_⟩|⟨kvs,k,b,e,_,_,_⟩
 ·obtain⟨_,_,vs,_,dd⟩:=vA I.f7 e;exact dd.typeIs
 ·obtain⟨_,_,xs,_,dd⟩:=B3 I.f7 e;exact dd.typeIs
inductive afp(Q:VK)(x y:V)(H2:Hp):Prop
 |mk(a v:_)(_:x= .ref a)(_:m_ H2 a y (aa v))(_:Q v H2)
def Y7(td ty:TE):TE:=λσ H Q=>td σ H λx H1=>ty σ H1 (afp Q x)
inductive afC(Q:VK)(y x:V)(H2:Hp):Prop
 |mk(a o:_)(_:x= .ref a)(_:m_ H2 a y o)(_:Q (.bl o.isSome) H2)
def aco(ty td:TE):TE:=λσ H Q=>ty σ H λy H1=>td σ H1 (afC Q y)
inductive ae7(Q:VK)(y x:V)(H2:Hp):Prop
 |mk(a o:_)(_:x= .ref a)(_:m_ H2 a y o)(_:Q (.bl (!o.isSome)) H2)
def Ti(ty td:TE):TE:=λσ H Q=>ty σ H λy H1=>td σ H1 (ae7 Q y)
inductive afr(D:Ends)(σ:St)(v x y:V)(H3:Hp):Prop
 |mk(a H4:_)(_:x= .ref a)(_:GA H3 a y v H4)(_:D.nx σ H4)
def Zc(td ty tv:TE):TS:=λD σ H=>tv σ H λv H1=>td σ H1 λx H2=>ty σ H2 (afr D σ v x)
section
variable{X:Cx}{o i e eT:Expr}{pos zG Nl:ku}{td ty tv:TE}
theorem fW(hu:X.A.units+1<mS)(ho:PE X o td)(hi:PE X i ty)(hs:XS i):PE X (.Subscript o i pos) (Y7 td ty):=by
 intros;refine LI Cd.lookup hs (ga (ho pins s σ H _ I h) λu s1 ⟨x,H1,I1,rx,q1⟩=>ga (hi pins s1 σ H1 _ I1 q1) λiv s2 ⟨y,H2,I2,ry,a,v,ex,g,q2⟩=>?_);subst ex;obtain rfl:u=bn a:=rx;exact⟨Jc I2 g,Od hu I2 g ry λw' s3 I3 C? =>⟨v,H2,I3,C?,q2⟩⟩
theorem Kv(hu:X.A.units+1<mS)(hi:PE X i ty)(ho:PE X o td):PC X .In i o (aco ty td):=by
 intros;refine ga (hi pins s σ H _ I h) λiv s1 ⟨y,H1,I1,ry,q1⟩=>ga (ho pins s1 σ H1 _ I1 q1) λu s2 ⟨x,H2,I2,rx,a,ov,ex,g,q2⟩=>?_;subst ex;obtain rfl:u=bn a:=rx;exact aes hu I2 g ry λs3 I3=>⟨.bl ov.isSome,H2,I3,Z,q2⟩
theorem qB(hu:X.A.units+1<mS)(hi:PE X i ty)(ho:PE X o td):PC X .NotIn i o (Ti ty td):=by
 intros;refine ga (hi pins s σ H _ I h) λiv s1 ⟨y,H1,I1,ry,q1⟩=>ga (ho pins s1 σ H1 _ I1 q1) λu s2 ⟨x,H2,I2,rx,a,ov,ex,g,q2⟩=>?_;subst ex;obtain rfl:u=bn a:=rx;exact UM hu I2 g ry λs3 I3=>⟨.bl (!ov.isSome),H2,I3,Z,q2⟩
theorem w9(hu:X.A.units+1<mS)(ho:PE X o td)(hi:PE X i ty)(hv:PE X eT tv)(hs:E4 eT (aa (.Subscript o i zG)) pos.line X.env=pure ae):
  PS X (.Assign [.Subscript o i zG] eT pos) (Zc td ty tv):=by
 intro pins s σ H D I h;refine wpAny_Assign_Subscript (ga (hv pins s σ H _ I h) λr s1 ⟨v,H1,I1,rv,q1⟩=>ga (ho pins s1 σ H1 _ I1 q1) λu s2 ⟨x,H2,I2,rx,q2⟩=>ga (hi pins s2 σ H2 _ I2 q2) λiv s3 ⟨y,H3,I3,ry,a,H4,ex,g,q3⟩=>?_) hs;subst ex;obtain rfl:u=bn a:=rx;exact Oc hu I3 g ry rv λs4 I4=>⟨σ,H4,I4,q3⟩
end
theorem RB{P:ba}{w:World}{H:Hp}(h:bO)(hb:iz<h.objs.size):ji P w H (h.push {cls:=.type "dict",data:=.dict #[]}) h.objs.size (.dK []):=
 ⟨gx _,beq_eq_false_iff_ne.mpr (a8 (bL hb)),[],.nil,Heap.DictOf.new h⟩
def Wn:TE:=λ_ H Q=>∀p,H p=ab->Q (.ref p) (upd H p (.dK []))
section
variable{X:Cx}{pos:ku}
theorem qA:PE X (.Dict [] [] pos) Wn:=λpins s σ H Q I h=>
 wpAny_Dict_empty ⟨.ref s.heap.objs.size,_,I.laid (a:=s.heap.objs.size) (o:=.dK []) (t':=s.toks) (λ_ _ q=>az _ q) (aS _) (RB s.heap I.big),Z,h _ (I.f7.fresh (aS _))⟩
end
structure M1(X:Cx)(o:Expr)(m:bV)(lC:ku)(e:Expr)(lA:ku):Prop where
 base:jW o m X.env (eval o X.env)=eval o X.env
 aaN:((jC lA (bX [e] X.env)).all (λx=>!x.1)&&(uW lA (mR [] X.env)).all (λx=>x.1.isSome)
  &&decide (([e]:List Expr).length+([]:List yU).length+(if([]:List yU).isEmpty then 0 else 1)<30))=ac
 line:(lC.endLine==lA.line)=ac
 trees:jC lA (bX [e] X.env)=[(ae,eval e X.env)]
structure M2(X:Cx)(o:Expr)(m:bV)(lC:ku)(e f:Expr)(lA:ku):Prop where
 base:jW o m X.env (eval o X.env)=eval o X.env
 aaN:((jC lA (bX [e,f] X.env)).all (λx=>!x.1)&&(uW lA (mR [] X.env)).all (λx=>x.1.isSome)
  &&decide (([e,f]:List Expr).length+([]:List yU).length+(if([]:List yU).isEmpty then 0 else 1)<30))=ac
 line:(lC.endLine==lA.line)=ac
 trees:jC lA (bX [e,f] X.env)=[(ae,eval e X.env),(ae,eval f X.env)]
def aa_(H:Hp)(a:ao):Prop:=(∃kvs,Rd H a (.dK kvs))\/∃kvs,Rd H a (.dT kvs)
theorem F'{X:Cx}{pins:List (ao×gt)}{σ:St}{H:Hp}{s:aq}{a:ao}(I:Inv X pins σ H s)(d:aa_ H a):
  s.TypeIs (.ref a) "dict"/\(∀b,bn a= .ref b->∃ob,s.heap.get? b=aa ob/\ob.dict=ab)/\(a==iz)=ae:=by
 rcases d with⟨kvs,e⟩|⟨kvs,e⟩
 ·obtain⟨_,hd,vs,_,dd⟩:=vA I.f7 e;refine⟨dd.typeIs,λb q=>?_,hd⟩
  cases q;obtain⟨ob,_,_,h1,h2,_⟩:=dd;exact⟨ob,h1,h2.2.1⟩
 ·obtain⟨_,hd,xs,_,dd⟩:=B3 I.f7 e;refine⟨dd.typeIs,λb q=>?_,hd⟩
  cases q;obtain⟨ob,_,_,h1,h2,_⟩:=dd;exact⟨ob,h1,h2.2.1⟩
section
variable{X:Cx}{pins:List (ao×gt)}{σ:St}{H:Hp}{s:aq}{a:ao}{y d:V}{u r:ai}{o:Option V}{A:cb}{E:ai->aq->Prop}
theorem XG(hu:A.units+1<mS)(I:Inv X pins σ H s)(g:m_ H a y o)(ry:RelV y u)(rd:RelV d r)(h:∀w' s',Inv X pins σ H s'->RelV (o.getD d) w'->Q w' s'):
  aU (bg X.prog X.w) A (call (.builtin "dict.get") [.ref a,u,r]) Q E s:=by
 rcases g with⟨kvs,k,e,ey,l⟩|⟨kvs,k,b,e,ey,eb,l⟩
 ·subst ey;obtain⟨z,hd,vs,rel,dd⟩:=vA I.f7 e;refine vH sH dd.typeIs Fb (D4 _ _ _) (meets_dict_get_default (fh X.prog X.w) a (uj ry) hd r) ⟨_,dd.mapOf,h _ _ (I.tok _) ?_⟩;rw[l];exact(rel.val k).getD rd
 ·subst ey
  cases(show u=bn b from ry);obtain⟨z,hd,xs,rel,dd⟩:=B3 I.f7 e;refine vH sH dd.typeIs Fb (D4 _ _ _) (meetsH_dict_get_default (yQ (fh X.prog X.w)) a b hd r) ⟨mC hu,k,xs,yA I.f7 eb,dd,h _ _ (I.tok _) ?_⟩;rw[l];exact(rel.val k).getD rd
end
inductive aff(Q:VK)(a:ao)(y z:V)(H3:Hp):Prop
 |mk(o:_)(_:m_ H3 a y o)(_:Q (o.getD z) H3)
inductive afe(ty tx:TE)(σ:St)(Q:VK)(x:V)(H1:Hp):Prop
 |mk(a:_)(_:x= .ref a)(_:aa_ H1 a)(_:ty σ H1 λy H2=>tx σ H2 (aff Q a y))
def Wo(td ty tx:TE):TE:=λσ H Q=>td σ H (afe ty tx σ Q)
inductive afd(Q:VK)(a:ao)(y:V)(H2:Hp):Prop
 |mk(kvs k v:_)(_:H2 a=aa (.dK kvs))(_:y=kV k)(_:eY kvs k=aa v)(_:Q v (upd H2 a (.dK (ik kvs k))))
inductive afc(ty:TE)(σ:St)(Q:VK)(x:V)(H1:Hp):Prop
 |mk(a:_)(_:x= .ref a)(_:aa_ H1 a)(_:ty σ H1 (afd Q a))
def Wm(td ty:TE):TE:=λσ H Q=>td σ H (afc ty σ Q)
inductive afb(Q:VK)(a:ao)(y z:V)(H3:Hp):Prop
 |mk(kvs k:_)(_:H3 a=aa (.dK kvs))(_:y=kV k)(_:(∀v,eY kvs k=aa v->Q v (upd H3 a (.dK (ik kvs k)))))(_:(eY kvs k=ab->Q z H3))
inductive afa(ty tx:TE)(σ:St)(Q:VK)(x:V)(H1:Hp):Prop
 |mk(a:_)(_:x= .ref a)(_:aa_ H1 a)(_:ty σ H1 λy H2=>tx σ H2 (afb Q a y))
def Wl(td ty tx:TE):TE:=λσ H Q=>td σ H (afa ty tx σ Q)
section
variable{X:Cx}{o e f:Expr}{lC lA:ku}{td ty tx:TE}
theorem H_(hu:X.A.units+1<mS)(ho:PE X o td)(he:PE X e ty)(hf:PE X f tx)(m:M2 X o "get" lC e f lA):PE X (.Call (.Attribute o "get" lC) [e,f] [] lA) (Wo td ty tx):=by
 intros;refine sU m.base m.aaN m.line k9 sH PySem.F.type_dict_get (ga (ho pins s σ H _ I h) λu s1 ⟨x,H1,I1,rx,a,ex,d,q1⟩=>?_);subst ex;obtain rfl:u=bn a:=rx;obtain⟨t1,t2,_⟩:=F' I1 d;refine⟨t1,t2,?_⟩;rw[m.trees];refine fM Z (iB (dj (ga (he pins s1 σ H1 _ I1 q1) λiv s2 ⟨y,H2,I2,ry,q2⟩=>
  dj (ga (hf pins s2 σ H2 _ I2 q2) λfv s3 ⟨z,H3,I3,rz,ov,g,q3⟩=>e8 ?_))))
 exact XG hu I3 g ry rz λw' s4 I4 C? =>⟨_,H3,I4,C?,q3⟩
theorem Ba(ho:PE X o td)(he:PE X e ty)(m:M1 X o "pop" lC e lA):PE X (.Call (.Attribute o "pop" lC) [e] [] lA) (Wm td ty):=by
 intros;refine sU m.base m.aaN m.line k9 mj GJ (ga (ho pins s σ H _ I h) λu s1 ⟨x,H1,I1,rx,a,ex,d,q1⟩=>?_);subst ex;obtain rfl:u=bn a:=rx;obtain⟨t1,t2,_⟩:=F' I1 d;refine⟨t1,t2,?_⟩;rw[m.trees];refine fM Z (iB (dj (ga (he pins s1 σ H1 _ I1 q1) λiv s2 ⟨y,H2,I2,ry,kvs,k,v,ea,ey,l,q2⟩=>e8 ?_)));subst ey;exact VV I2 ea ry l (.inl Z) λw' s3 I3 C? =>⟨v,_,I3,C?,q2⟩
theorem P'(ho:PE X o td)(he:PE X e ty)(hf:PE X f tx)(m:M2 X o "pop" lC e f lA):PE X (.Call (.Attribute o "pop" lC) [e,f] [] lA) (Wl td ty tx):=by
 intros;refine sU m.base m.aaN m.line k9 mj GJ (ga (ho pins s σ H _ I h) λu s1 ⟨x,H1,I1,rx,a,ex,d,q1⟩=>?_);subst ex;obtain rfl:u=bn a:=rx;obtain⟨t1,t2,_⟩:=F' I1 d;refine⟨t1,t2,?_⟩;rw[m.trees];refine fM Z (iB (dj (ga (he pins s1 σ H1 _ I1 q1) λiv s2 ⟨y,H2,I2,ry,q2⟩=>
  dj (ga (hf pins s2 σ H2 _ I2 q2) λfv s3 ⟨z,H3,I3,rz,kvs,k,ea,ey,q3,q4⟩=>e8 ?_))))
 subst ey
 cases l:eY kvs k with
 |some v=>exact VV I3 ea ry l (.inr ⟨fv,Z⟩) λw' s4 I4 C? =>⟨v,_,I4,C?,q3 v l⟩
 |none=>exact XF I3 ea ry l λs4 I4=>⟨z,H3,I4,rz,q4 l⟩
end
section
variable{X:Cx}{pins:List (ao×gt)}{σ:St}{H:Hp}{s:aq}{a:ao}{kvs:List (Key×V)}{A:cb}{E:ai->aq->Prop}
end
section
variable{X:Cx}{pins:List (ao×gt)}{σ:St}{H:Hp}{s:aq}{a:ao}{y:V}{u:ai}{A:cb}{E:ai->aq->Prop}
end
section
variable{prog:ba}{w:World}{A:cb}{E:ai->aq->Prop}
end
theorem B9:g_ "reversed"=aa (.type "reversed"):=by decide+kernel
section
variable{X:Cx}{pins:List (ao×gt)}{σ:St}{H:Hp}{s:aq}{h':bO}
theorem Inv.Te{t':Nat}{ch:List ao}(I:Inv X pins σ H s)(k:∀b o,b∉ch->s.heap.get? b=aa o->h'.get? b=aa o)(hf:∀b∈ch,zT X pins H b):Inv X pins σ H {s with heap:=h',toks:=t'}:=by
 have Vx:∀b u,H b=aa u->b∉ch:=λb u e z=>by
  have q:=(hf b z).1;rw[q]at e;cases e
 refine I.step (g':=s.gens) (d':=s.drawn) (ch:=ch) (λb hb=>⟨(hf b hb).2.2.2.1,(hf b hb).2.1,(hf b hb).2.2.2.2.1,(hf b hb).2.2.2.2.2⟩) (λb o _ _ hc e _=>k b o hc e) (λb o _ _ hc e _=>⟨o.slots,k b o hc e⟩)
  (λ_ _ _ _ n=>n) (λb o hc e=>⟨o,k b o hc e⟩) (λ_ _ e=>e) (λ_ _ _ e=>e) (λb ps e=>⟨#[],by rw[e];simp⟩) (λm hm=>?_) (λb u e=>?_) I.bare
 ·obtain⟨o,es,ep,ho,r⟩:=hm;exact⟨o,es,ep,k _ o (λz=>(hf _ z).2.1 Z) ho,r⟩
 ·refine(I.f7 b u e).zy (λc v hc q=>k c v ?_ q) (λ_ q=>q) λ_ _ q=>q;rcases hc with z|z
  ·rw[z];exact Vx b u e
  ·exact Vx c _ z
theorem Inv.Ng{t':Nat}{ch:List ao}{T:ao}{ob:HO}(I:Inv X pins σ H s)(k:∀b o,b∉ch->s.heap.get? b=aa o->h'.get? b=aa o)(hf:∀b∈ch,zT X pins H b)(hT:s.heap.objs.size<=T)
 (new:ji X.prog X.w (upd H T ob) h' T ob):Inv X pins σ (upd H T ob) {s with heap:=h',toks:=t'}:=by
 have hn:H T=ab:=I.f7.fresh hT;have Vx:∀b u,H b=aa u->b∉ch:=λb u e z=>by
  have q:=(hf b z).1;rw[q]at e;cases e
 refine I.step (g':=s.gens) (d':=s.drawn) (ch:=ch) (λb hb=>⟨(hf b hb).2.2.2.1,(hf b hb).2.1,(hf b hb).2.2.2.2.1,(hf b hb).2.2.2.2.2⟩) (λb o _ _ hc e _=>k b o hc e) (λb o _ _ hc e _=>⟨o.slots,k b o hc e⟩)
  (λb o _ e n=>?_) (λb o hc e=>⟨o,k b o hc e⟩) (λb xs e=>?_) (λb o u e=>?_) (λb ps e=>⟨#[],?_⟩) (λm hm=>?_) (λb u e=>?_) I.bare
 ·rw[aZ (bL (bI (aW e) hT))];exact n
 ·rw[aZ (aL e hn)];exact e
 ·rw[aZ (aL e hn)];exact e
 ·rw[aZ (aL e hn),e];simp
 ·obtain⟨o,es,ep,ho,r⟩:=hm;exact⟨o,es,ep,k _ o (λz=>(hf _ z).2.1 Z) ho,r⟩
 ·by_cases hb:b=T
  ·subst hb;rw[ak]at e
   cases e;exact new
  ·rw[aZ hb]at e;refine(I.f7 b u e).zy (λc v hc q=>k c v ?_ q) (λc q=>by rw[aZ (aL q hn)];exact q) λc xs q=>by rw[aZ (aL q hn)];exact q
   rcases hc with z|z
   ·rw[z];exact Vx b u e
   ·exact Vx c _ z
theorem Inv.lock(I:Inv X pins σ H s)(h:H d=aa u)(mu:UU (aa u)):∃od,Inv X pins σ (upd H d (.jT od u)) s:=by
 have x:=I.f7 d u h;have ex:∃od,s.heap.get? d=aa od:=by
  cases u with
  |lst xs=>obtain⟨_,_,_,_,e⟩:=x;exact⟨_,e⟩
  |dK kvs=>obtain⟨_,_,_,_,o,_,_,e,_⟩:=x;exact⟨o,e⟩
  |dT kvs=>obtain⟨_,_,_,_,o,_,_,e,_⟩:=x;exact⟨o,e⟩
  |set S n=>obtain⟨o,_,_,_,e,_⟩:=x;exact⟨o,e⟩
  |ins C dx fs=>obtain⟨_,_,_,e,_⟩:=x;exact⟨_,e⟩
  |ext φ=>obtain⟨_,⟨_,e⟩,_⟩:=x;exact⟨_,e⟩
  |_=>exact dW mu
 obtain⟨od,e⟩:=ex;have new:ji X.prog X.w (upd H d (.jT od u)) s.heap d (.jT od u):=by
  refine⟨e,x.zy (λb v _ q=>q) (λb q=>?_) λb xs q=>?_⟩
  ·rw[aZ (λz=>by rw[z,h]at q;cases q;exact mu)];exact q
  ·rw[aZ (λz=>by rw[z,h]at q;cases q;exact mu)];exact q
 exact⟨od,I.write (x:=d) (e:=d) (t':=s.toks) (h':=s.heap) (by rw[h];exact mu) (.inl Z) (λb v _ q=>q) ⟨od,e⟩ new⟩
theorem Inv.Il(I:Inv X pins σ H s)(h:H d=aa u)(mu:UU (aa u)):∀o' u',X.XV d≠aa (.jT o' u'):=λo' u' e=>by
 have q:=I.base.BP d o' u' e;rw[h]at q
 cases q;exact mu
theorem Inv.unlock(I:Inv X pins σ H s)(h:H d=aa (.jT od u))(hn:∀o' u',X.XV d≠aa (.jT o' u')):Inv X pins σ (upd H d u) s:=by
 have X?:∀b o,H b=aa o->(∀o' u',o≠.jT o' u')->b≠d:=λb o e iQ z=>by
  rw[z,h]at e
  cases e;exact iQ _ _ Z
 have neN:∀b,H b=ab->b≠d:=λb e z=>by rw[z,h]at e;cases e
 refine⟨I.ok,I.os,I.bare,⟨I.base.keep,I.base.slot,λb o e n hx=>?_,I.base.there,λb xs e=>?_,λb o x e=>?_,λb ps e=>?_⟩,I.loc,I.cell,?_,λx c e=>?_,λp hp=>?_,λb o e=>?_,I.len⟩
 ·rw[aZ (neN b (I.base.free b o e n hx))];exact I.base.free b o e n hx
 ·have q:=I.base.Fj b xs e;rw[aZ (X? b _ q (λ_ _ z=>nomatch z))];exact q
 ·have q:=I.base.BP b o x e;rw[aZ (λz=>by rw[z]at e;exact hn _ _ e)];exact q
 ·obtain⟨m,q⟩:=I.base.Fk b ps e;exact⟨m,by rw[aZ (X? b _ q (λ_ _ z=>nomatch z))];exact q⟩
 ·rw[aZ (neN _ I.free)];exact I.free
 ·rw[aZ (neN c (I.pF x c e))];exact I.pF x c e
 ·obtain⟨e,n,r⟩:=I.pin p hp;exact⟨e,by rw[aZ (neN _ n)];exact n,r⟩
 ·by_cases hb:b=d
  ·rw[hb,ak]at e
   cases e;rw[hb];obtain⟨_,x⟩:=I.f7 d _ h;exact x.zy (λc v _ q=>q) (λc q=>by rw[aZ (X? c _ q (λ_ _ z=>nomatch z))];exact q) λc xs q=>by rw[aZ (X? c _ q (λ_ _ z=>nomatch z))];exact q
  ·rw[aZ hb]at e;exact(I.f7 b o e).zy (λc v _ q=>q) (λc q=>by rw[aZ (X? c _ q (λ_ _ z=>nomatch z))];exact q) λc xs q=>by rw[aZ (X? c _ q (λ_ _ z=>nomatch z))];exact q
end
def Y3(t:TS):TS:=λD σ H=>∃d u,H d=aa u/\UU (aa u)/\∀od,t ⟨λjd H'=>H' d=aa (.jT od u)/\D.nx jd (upd H' d u),λv H'=>H' d=aa (.jT od u)/\D.rt v (upd H' d u),λjd H'=>H' d=aa (.jT od u)/\D.bk jd (upd H' d u),λjd H'=>H' d=aa (.jT od u)/\D.ct jd (upd H' d u)⟩ σ (upd H d (.jT od u))
def Wj(t:TE):TE:=λσ H Q=>∃d u,H d=aa u/\UU (aa u)/\∀od,t σ (upd H d (.jT od u)) λv H'=>H' d=aa (.jT od u)/\Q v (upd H' d u)
theorem FQ{st:cG}(h:PS X st t):PS X st (Y3 t):=by
 intro pins s σ H D I hw;obtain⟨d,u,hd,mu,hw⟩:=hw;obtain⟨od,I1⟩:=I.lock hd mu;refine ga (h pins s σ _ _ I1 (hw od)) λf s1 q=>?_
 cases f with
 |next=>obtain⟨jd,H',I2,e,q⟩:=q;exact⟨jd,_,I2.unlock e (I.Il hd mu),q⟩
 |brk=>obtain⟨jd,H',I2,e,q⟩:=q;exact⟨jd,_,I2.unlock e (I.Il hd mu),q⟩
 |cont=>obtain⟨jd,H',I2,e,q⟩:=q;exact⟨jd,_,I2.unlock e (I.Il hd mu),q⟩
 |ret v=>obtain⟨x,jd,H',I2,r,e,q⟩:=q;exact⟨x,jd,_,I2.unlock e (I.Il hd mu),r,q⟩
theorem TF(h:PE X e t):PE X e (Wj t):=by
 intro pins s σ H Q I hw;obtain⟨d,u,hd,mu,hw⟩:=hw;obtain⟨od,I1⟩:=I.lock hd mu;refine ga (h pins s σ _ _ I1 (hw od)) λv s1 ⟨x,H1,I2,r,e2,q⟩=>?_;exact⟨x,_,I2.unlock e2 (I.Il hd mu),r,q⟩
theorem Ks{tg:Expr}{pins:List (ao×gt)}{σ:St}{H:Hp}{s:aq}{R:It->Hp->Prop}{J:It}{tn:Nat->bO->Prop}{tk:Nat}(I:Inv X pins σ H s)(o:gt)
 (T:Turn X.prog X.w X.K tg J [s.heap.objs.size] s.heap.objs.size tn)(st:tn 0 (s.heap.push o))(q:R J H):aeN X pins σ tg R (.ref s.heap.objs.size) {s with heap:=s.heap.push o,toks:=tk}:=by
 refine⟨s.heap.objs.size,[s.heap.objs.size],tn,J,H,Z,I.kept λb ob e=>az _ e,T,st,λb hb=>?_,q⟩;have e:b=s.heap.objs.size:=by simpa using hb
 subst e;exact I.Rj (aS _) (I.f7.fresh (aS _))
def aeQ(lo c:Int)(n:Nat):It:=⟨λi _=>i<n,λi H x H'=>H'=H/\x= .int (lo+(i:Nat)*c),λi _=>n<=i⟩
theorem Hm{P:ba}{w:World}{K:aj}{tg:Expr}(it:ao)(lo c:Int)(n:Nat):Turn P w K tg (aeQ lo c n) [it] it (λi h=>IsRangeIter h it (lo+(i:Nat)*c) ((n:Int) - (i:Nat)) c)where
 mem:=by simp
 obj:=λi h st b hb=>by
  have e:b=it:=by simpa using hb
  subst e;exact⟨_,st,λv z=>nomatch z⟩
 keep:=λi h h' st k=>k it (by simp) _ st
 item:=by
  intro X hP hw hK hc i pins s σ H E I hf st hg;subst hP hw hK;obtain⟨f0,f1,f2,f3,f4,f5⟩:=hf it (by simp);have W:=Walks.range (prog:=X.prog) (w:=X.w) (I.ok.hd hc) it lo c n;refine W.item i s _ _ hg st λv h' tk hv tR kk=>?_;obtain⟨t,rfl⟩:=hv;have I1:Inv X pins σ H {s with heap:=h',toks:=tk}:=I.turned (λb o hb e=>kk b o (by simpa using hb) e) f0 f1 f3 f4 f5;exact⟨_,Z,Mv (s:={s with heap:=h',toks:=tk}) (n:="range_iterator") tR Z Z dk ⟨.int (lo+(i:Nat)*c),H,I1,⟨t,Z⟩,⟨Z,Z⟩,tR,λb hb=>(hf b hb).1⟩⟩
 done:=by
  intro X hP hw hK hc i pins s σ H E I hf st hg;subst hP hw hK;obtain⟨f0,f1,f2,f3,f4,f5⟩:=hf it (by simp);exact wpAny_pyNext_range_end (I.ok.hd hc) st (by have:n<=i:=hg;lia) λh' eb=>⟨Z,I.turned (t':=s.toks) (λb o hb e=>eb b o hb e) f0 f1 f3 f4 f5⟩
 self:=λA i s Q E st h=>wpAny_pyIter_rangeiter st h
def aeL(i j c:Int)(n:Nat):Prop:=c≠0/\c.natAbs<1073741824/\Cg i j c=ac/\j0 i j c=n
inductive aft(R:It->Hp->Prop)(vs:V2)(H1:Hp):Prop
 |mk(i j c:Int)(n:Nat)(_:vs=[.int i,.int j,.int c])(_:aeL i j c n)(_:R (aeQ i c n) H1)
def ZE(ta:TA):TI:=λσ H R=>ta σ H (aft R)
section
variable{X:Cx}{tg:Expr}
theorem NC(hg:Gl X "range")(hm:X.mg "range"=ab)(ha:PA X [a,b,c] ta)
 (hs:bX [a,b,c] X.env=(ae,eval a X.env)::bX [b,c] X.env:=by rfl)(qg:(jC pos (bX [b,c] X.env)).any (·.1)=ae:=by rfl):
  PI X tg (.Call (.Name "range" p) [a,b,c] [] pos) (ZE ta):=by
 intro pins s σ H R I h;refine Call_ (nk I hg hm boot_range (dz (ga (ha pos pins s σ H _ I h) λus s1 ⟨vs,H1,I1,r1,q1⟩=>?_) hs qg));obtain⟨i,j,k,n,e,⟨c0,c1,c2,c3⟩,q⟩:=q1;subst e
 cases r1 with
 |cons r rr=>
  cases rr with
  |cons r' rr=>
   cases rr with
   |cons r'' rr=>
    cases rr;obtain⟨t,rfl⟩:=r;obtain⟨t',rfl⟩:=r';obtain⟨acs,rfl⟩:=r'';refine call_range_3 c0 ?_ (.inl (Fd c1));refine wpAny_pyIter_range (IsRange.new ..) c2 ?_;have I2:Inv X pins σ H1 {s1 with heap:=s1.heap.push {cls:=.type "range",data:=.fields #[.int i t,.int j t',.int k acs]}}:=I1.kept (t':=s1.toks) λb o e=>az _ e;refine Ks (tk:=s1.toks) I2 _ (Hm _ i k n) ?_ q;have e1:i+((0:Nat):Int)*k=i:=by simp
    have e2:(n:Int) - ((0:Nat):Int)=j0 i j k:=by rw[c3];simp
    show IsRangeIter _ _ (i+((0:Nat):Int)*k) ((n:Int) - ((0:Nat):Int)) k;rw[e1,e2];exact aT _ Z
end
section
variable{X:Cx}{tg:Expr}
end
theorem Ex(hd:(d==iz)=ae)(ho:s.heap.get? d=aa o)(hc:o.ExactDict)(aae:o.data= .dict es ep)
 (hQ:Q (.ref s.heap.objs.size) {s with heap:=s.heap.push {cls:=.type "dict_keyiterator",data:=.fields #[.ref d,.int 0 0,.int es.size 0,.int ep 0]}}):
  aU (bg prog w) A (E6 (.ref d)) Q E s:=by
 have hT:s.TypeIs (.ref d) "dict":=⟨o,ho,hc.1⟩;refine ng hT Wa (cE Wa hT F.entry_dict_iter ?_ (F.args_dict_iter_1 _));unfold gS.«dict.__iter__»;refine ag ?_;unfold Builtin.Dict.dictSlotNone;refine ag (wpAny_notOrdered_dict hT ?_);show aU _ _ (pure (bn d)) _ _ s;refine au ?_;show aU _ _ (AC d>>=_) _ _ s;unfold AC;rw[aw (by rw[hd];exact bf)];refine ag (au ?_);refine ag (Co ho aae ?_);refine ag (G? ho aae ?_);refine ag (cC (au ⟨_,Z,"dict_keyiterator",_,⟨_,aT _ Z,Z⟩,fw.lookup,?_⟩));simpa[fS]using hQ
theorem Du(uR:s.heap.IsKeyIter it d i n ep)(QZ:s.heap.get? d=aa od)(aad:od.data= .dict es ep)
 (hsz:es.size=n)(hx:es[i]? =aa en)(hQ:∀h',h'.IsKeyIter it d (i+1) n ep->eG it s.heap h'->Q (aa en.key) {s with heap:=h'}):aU (bg prog w) A (j4 (.ref it)) Q E s:=by
 obtain⟨o,ho,hc,hd⟩:=id uR;unfold j4;refine ag (jV (dy (name:=al "__next__") uR.typeIs fw
  (cE fw uR.typeIs D8 ?_ (CF _))))
 refine ag (au ?_);refine ag ?_;refine ag ?_
 first|refine ag (jy uR.typeIs (au ?_))|refine ag (wpAny_typeNameOf_keyiter uR.typeIs (au ?_))
 refine ag (nh ho hd ?_);have Xa:tw "dict_keyiterator"=ae:=dk;simp only[Xa,bA,if_false];show aU _ _ (if(bn d==eO)=ac then _ else _) _ _ s;rw[aw (show¬((bn d==eO)=ac)from bf)];refine ag (au ?_);refine ag (Co QZ aad ?_);rw[aw (by rw[hsz];simp)];refine ag (au ?_);refine ag (G? QZ aad ?_);rw[aw (by simp)];refine au ?_;obtain⟨adC,adW⟩:=o4.mp hx;simp only[show¬((i:Int)<0)from by lia,if_false,aG,ig adC];refine ag ?_
 first|refine ag (jy uR.typeIs (au ?_))|refine ag (wpAny_typeNameOf_keyiter uR.typeIs (au ?_))
 refine ag (R7 uR.typeIs ?_);show aU _ _ (setField (.ref it) 1 (fS ((i:Int)+1))>>=_) _ _ s;refine ag (gH ho hd (by simp) ?_);have Z_:(s.heap.update it (iL (·.setIfInBounds 1 (fS ((i:Int)+1))))).IsKeyIter it d (i+1) n ep:=
  ⟨_,cW _ ho (hZ (dL hd _)),(mF ..).trans hc,by rw[dL hd];simp[fS]⟩
 refine ag (fu ?_);refine ag (R7 (s:={s with heap:=s.heap.update it (iL (·.setIfInBounds 1 (fS ((i:Int)+1))))}) Z_.typeIs ?_);show aU _ _ (pure es[i].key) _ _ _;rw[adW];exact au (au ⟨_,Z,au (hQ _ Z_ (cQ ..))⟩)
theorem xl(hh:A.handled=ab)(uR:s.heap.IsKeyIter it d i n ep)(QZ:s.heap.get? d=aa od)(aad:od.data= .dict es ep)
 (hsz:es.size=n)(hge:n<=i)(hQ:∀h',AB it s.heap h'->Q ab {s with heap:=h'}):aU (bg prog w) A (j4 (.ref it)) Q E s:=by
 obtain⟨o,ho,hc,hd⟩:=id uR;unfold j4;refine ag (jV (dy (name:=al "__next__") uR.typeIs fw
  (cE fw uR.typeIs D8 ?_ (CF _))))
 refine ag (au ?_);refine ag ?_;refine ag ?_
 first|refine ag (jy uR.typeIs (au ?_))|refine ag (wpAny_typeNameOf_keyiter uR.typeIs (au ?_))
 refine ag (nh ho hd ?_);have Xa:tw "dict_keyiterator"=ae:=dk;simp only[Xa,bA,if_false];show aU _ _ (if(bn d==eO)=ac then _ else _) _ _ s;rw[aw (show¬((bn d==eO)=ac)from bf)];refine ag (au ?_);refine ag (Co QZ aad ?_);rw[aw (by rw[hsz];simp)];refine ag (au ?_);refine ag (G? QZ aad ?_);rw[aw (by simp)];refine au ?_;have adR:es.size<=i:=by rw[hsz];exact hge
 simp only[show¬((i:Int)<0)from by lia,if_false,aG,Array.getElem?_eq_none adR];refine ag ?_
 first|refine ag (jy uR.typeIs (au ?_))|refine ag (wpAny_typeNameOf_keyiter uR.typeIs (au ?_))
 show aU _ _ (setField (.ref it) 0 .none>>=_) _ _ s;refine ag (gH ho hd (by simp) ?_);show aU _ _ (OX (.type "StopIteration") []>>=_) _ _ _;refine ag ?_;simp only[OX,JS];refine ag (cC ?_ (by size_fits));refine ag (m:=jm _ _) (sT (a:=eO) (by first|rfl|(simp only[jm];rfl)) ?_);refine cC ?_ (by size_fits);simp only[SF];refine ag (zV ?_);rw[show A.in1.handled=ab from hh];refine ag (au (GB ?_));refine ag (h9 (T:="StopIteration") (b:=ac) ⟨_,aT _ Z,Z⟩ xX ?_);exact au (hQ _ (((cQ ..).extBut.push _).push _))
theorem KR{κ:Type}{kvs:List (κ×V)}{vs:List (κ×ai)}(h:KV kvs vs):∀{i:Nat}{k:κ}{v:V},kvs[i]? =aa (k,v)->∃u,vs[i]? =aa (k,u)/\RelV v u:=by
 unfold KV at h
 induction h with
 |nil=>intro i k v e;simp at e
 | @cons a b KN l₂ r t ih=>
  intro i k v e
  cases i with
  |zero=>
   simp only[List.getElem?_cons_zero,g9]at e;subst e;refine⟨b.2,?_,r.2⟩;simp only[List.getElem?_cons_zero];exact congrArg aa (Prod.ext r.1.symm Z)
  |succ j=>
   simp only[sg]at e ⊢;exact ih e
theorem Kw{α β:Type}{G:α->β->Prop}{KN:List α}{l₂:List β}(h:ci G KN l₂):∀{i:Nat}{a:α},KN[i]? =aa a->∃b,l₂[i]? =aa b/\G a b:=by
 induction h with
 |nil=>intro i a e;simp at e
 | @cons a b KN l₂ r t ih=>
  intro i a' e
  cases i with
  |zero=>
   simp only[List.getElem?_cons_zero,g9]at e;subst e;exact⟨b,Z,r⟩
  |succ j=>
   simp only[sg]at e ⊢;exact ih e
theorem A8(h:zh k u=ac):RelV (kV k) u:=by
 rcases gN h with⟨i,t,rfl,rfl⟩|⟨x,t,rfl,rfl⟩
 ·exact⟨t,Z⟩
 ·exact⟨t,Z⟩
section
variable{X:Cx}{pins:List (ao×gt)}{σ:St}{H:Hp}{s:aq}{d:ao}{o:gt}
theorem Inv.XA(I:Inv X pins σ H s)(h:H d=aa (.jT o (.dK kvs))):
  (d==iz)=ae/\s.heap.get? d=aa o/\o.ExactDict/\∃(es:Array lz)(ep:Nat)(vs:List (Key×ai)),o.data= .dict es ep/\es.size=kvs.length/\KV kvs vs/\s.heap.DictAt (fh X.prog X.w) d vs ep:=by
 obtain⟨hd,z,hs,vs,kv,o',es,ep,ho,hx,DG,r⟩:=I.f7 d _ h;rw[hd]at ho
 cases ho;refine⟨hs,hd,hx,es,ep,vs,DG,?_,kv,o,es,hd,hx,DG,r⟩;have l1:=r.2.1.length;have l2:kvs.length=vs.length:=mY kv;rw[bE]at l1;lia
theorem Inv.Xz(I:Inv X pins σ H s)(h:H d=aa (.jT o (.dT kvs))):
  (d==iz)=ae/\s.heap.get? d=aa o/\o.ExactDict/\∃(es:Array lz)(ep:Nat),o.data= .dict es ep/\es.size=kvs.length/\
   ∀(i:Nat)(k:List Key)(v:V),kvs[i]? =aa (k,v)->∃(en:lz)(q:ao),es[i]? =aa en/\en.key= .ref q/\H q=aa (.tup (k.map kV)):=by
 obtain⟨hd,z,hs,xs,pr,o',es,ep,ho,hx,DG,he,_⟩:=I.f7 d _ h;rw[hd]at ho
 cases ho;refine⟨hs,hd,hx,es,ep,DG,?_,λi k v e=>?_⟩
 ·have l1:es.size=xs.length:=size_of_entries he;have l2:kvs.length=xs.length:=mY pr;lia
 ·obtain⟨b,hb,e1,e2,_⟩:=Kw pr e;have q:=entry_at he i;rw[hb]at q;exact⟨_,b.2.1,q,Z,e2⟩
end
def aeP(d:ao)(o:gt)(kvs:List (Key×V)):It:=
 ⟨λi H=>H d=aa (.jT o (.dK kvs))/\i<kvs.length,λi H x H'=>H'=H/\∃k v,kvs[i]? =aa (k,v)/\x=kV k,λi H=>H d=aa (.jT o (.dK kvs))/\kvs.length<=i⟩
def aa9(d:ao)(o:gt)(kvs:List (List Key×V)):It:=
 ⟨λi H=>H d=aa (.jT o (.dT kvs))/\i<kvs.length,λi H x H'=>H'=H/\∃(k:List Key)(v:V)(q:ao),kvs[i]? =aa (k,v)/\x= .ref q/\H q=aa (.tup (k.map kV)),λi H=>H d=aa (.jT o (.dT kvs))/\kvs.length<=i⟩
theorem Au{o:gt}{es oU:Array lz}{ep xS:Nat}(h:o.data= .dict es ep)(h':o.data= .dict oU xS):oU=es/\xS=ep:=by
 rw[h]at h'
 cases h';exact⟨Z,Z⟩
section
variable{P:ba}{w:World}{K:aj}{tg:Expr}{d:ao}{o:gt}{es:Array lz}{ep:Nat}
theorem Nj{kvs:List (Key×V)}(it:ao)(QZ:o.data= .dict es ep):Turn P w K tg (aeP d o kvs) [it] it (λi h=>h.IsKeyIter it d i kvs.length ep)where
 mem:=by simp
 obj:=λi h st b hb=>by
  have e:b=it:=by simpa using hb
  subst e;obtain⟨oi,e,c,dd⟩:=st;exact⟨oi,e,λv z=>by rw[dd]at z;cases z⟩
 keep:=λi h h' st k=>st.at λoi e=>k it (by simp) oi e
 item:=by
  intro X hP hw hK hc i pins s σ H E I hf st hg;subst hP hw hK;obtain⟨hd,hi⟩:=hg;obtain⟨f0,f1,f2,f3,f4,f5⟩:=hf it (by simp);obtain⟨hs,OL,hx,oU,xS,vs,DG,hsz,kv,hm⟩:=I.XA hd;obtain⟨rfl,rfl⟩:=Au QZ DG;obtain⟨⟨k,v⟩,NW⟩:∃p,kvs[i]? =aa p:=⟨kvs[i],aR hi⟩;obtain⟨u,hu,ru⟩:=KR kv NW;have hl:kvs.length=vs.length:=mY kv;rw[hl]at st;refine wpAny_pyNext_dict_item st hm hu λkey h' Q4 tR sb=>?_;have I1:Inv X pins σ H {s with heap:=h'}:=I.turned (t':=s.toks) (λb ob hb e=>(sb.2 b hb).trans e) f0 f1 f3 f4 f5;obtain⟨oi,e,c,dd⟩:=id tR;refine⟨key,Z,Mv (s:={s with heap:=h'}) e c dd dk ⟨kV k,H,I1,A8 (show zh k key=ac from Q4),⟨Z,k,v,NW,Z⟩,?_,λb hb=>(hf b hb).1⟩⟩;show h'.IsKeyIter it d (i+1) kvs.length _;rw[hl];exact tR
 done:=by
  intro X hP hw hK hc i pins s σ H E I hf st hg;subst hP hw hK;obtain⟨hd,hi⟩:=hg;obtain⟨f0,f1,f2,f3,f4,f5⟩:=hf it (by simp);obtain⟨hs,OL,hx,oU,xS,vs,DG,hsz,kv,hm⟩:=I.XA hd;obtain⟨rfl,rfl⟩:=Au QZ DG;exact xl (I.ok.hd hc) st OL DG hsz hi λh' eb=>⟨Z,I.turned (t':=s.toks) (λb ob hb e=>eb b ob hb e) f0 f1 f3 f4 f5⟩
 self:=λA i s Q E st h=>wpAny_pyIter_keyiter st h
theorem J?{kvs:List (List Key×V)}(it:ao)(QZ:o.data= .dict es ep):Turn P w K tg (aa9 d o kvs) [it] it (λi h=>h.IsKeyIter it d i kvs.length ep)where
 mem:=by simp
 obj:=λi h st b hb=>by
  have e:b=it:=by simpa using hb
  subst e;obtain⟨oi,e,c,dd⟩:=st;exact⟨oi,e,λv z=>by rw[dd]at z;cases z⟩
 keep:=λi h h' st k=>st.at λoi e=>k it (by simp) oi e
 item:=by
  intro X hP hw hK hc i pins s σ H E I hf st hg;subst hP hw hK;obtain⟨hd,hi⟩:=hg;obtain⟨f0,f1,f2,f3,f4,f5⟩:=hf it (by simp);obtain⟨hs,OL,hx,oU,xS,DG,hsz,ent⟩:=I.Xz hd;obtain⟨rfl,rfl⟩:=Au QZ DG;obtain⟨⟨k,v⟩,NW⟩:∃p,kvs[i]? =aa p:=⟨kvs[i],aR hi⟩;obtain⟨en,q,adW,Q4,hq⟩:=ent i k v NW;refine Du st OL DG hsz adW λh' tR sb=>?_;have I1:Inv X pins σ H {s with heap:=h'}:=I.turned (t':=s.toks) (λb ob hb e=>(sb.2 b hb).trans e) f0 f1 f3 f4 f5;obtain⟨oi,e,c,dd⟩:=id tR;exact⟨en.key,Z,Mv (s:={s with heap:=h'}) e c dd dk ⟨.ref q,H,I1,Q4,⟨Z,k,v,q,NW,Z,hq⟩,tR,λb hb=>(hf b hb).1⟩⟩
 done:=by
  intro X hP hw hK hc i pins s σ H E I hf st hg;subst hP hw hK;obtain⟨hd,hi⟩:=hg;obtain⟨f0,f1,f2,f3,f4,f5⟩:=hf it (by simp);obtain⟨hs,OL,hx,oU,xS,DG,hsz,ent⟩:=I.Xz hd;obtain⟨rfl,rfl⟩:=Au QZ DG;exact xl (I.ok.hd hc) st OL DG hsz hi λh' eb=>⟨Z,I.turned (t':=s.toks) (λb ob hb e=>eb b ob hb e) f0 f1 f3 f4 f5⟩
 self:=λA i s Q E st h=>by
  refine ng st.typeIs Fh (cE Fh st.typeIs F.entry_dict_keyiterator_iter ?_ (F.args_dict_keyiterator_iter_1 _));show aU _ _ (ret (.ref it)) _ _ s;exact au ⟨_,Z,"dict_keyiterator",_,st.typeIs,fw.lookup,h⟩
end
inductive afv(R:It->Hp->Prop)(x:V)(H1:Hp):Prop
 |mk(d o:_)(_:x= .ref d)(_:((∃kvs,H1 d=aa (.jT o (.dK kvs))/\R (aeP d o kvs) H1)\/∃kvs,H1 d=aa (.jT o (.dT kvs))/\R (aa9 d o kvs) H1))
def ZG(td:TE):TI:=λσ H R=>td σ H (afv R)
section
variable{X:Cx}{tg e:Expr}{td:TE}{lC lA:ku}
theorem Ac(he:PE X e td):PI X tg e (ZG td):=by
 intro pins s σ H R I h;refine ga (he pins s σ H _ I h) λu s1 ⟨x,H1,I1,rx,d,o,ex,q⟩=>?_;subst ex;obtain rfl:u=bn d:=rx;rcases q with⟨kvs,hd,q⟩|⟨kvs,hd,q⟩
 ·obtain⟨hs,OL,hx,es,ep,vs,DG,hsz,kv,hm⟩:=I1.XA hd;refine Ex hs OL hx DG (Ks (tk:=s1.toks) I1 _ (Nj _ DG) ⟨_,aT _ Z,Z,?_⟩ q);rw[hsz]<;>rfl
 ·obtain⟨hs,OL,hx,es,ep,DG,hsz,ent⟩:=I1.Xz hd;refine Ex hs OL hx DG (Ks (tk:=s1.toks) I1 _ (J? _ DG) ⟨_,aT _ Z,Z,?_⟩ q);rw[hsz]<;>rfl
end
theorem Oh:g_ "zip"=aa (.type "zip"):=by decide+kernel
end L2
section
namespace aeE
open PySem PyProof.Rows
end aeE
end
section
namespace TL
open PySem PySem.Builtin PySem.Builtin.Str PySem.StrLaws
end TL
end
namespace L2
local macro_rules|`(tactic|intros)=>`(tactic|intro pins s σ H Q I h)
open PySem PySem.Spec PyProof.Rows
section
variable{X:Cx}{pins:List (ao×gt)}{σ:St}{H:Hp}{s:aq}{Q:VK}
end
variable{X:Cx}
theorem ae2{id:String}{g:bV->bV->V} (rule:∀(a b:bV)(t u:qc)(s:aq)(Q:ai->aq->Prop),(∀(v:ai)(k:Nat),RelV (g a b) v->Q v {s with toks:=k})->
  aU (bg X.prog X.w) X.A (call (.builtin id) [.str a t,.str b u]) Q X.xe s):YN X id (λx xs H Q=>∃a b,x= .str a/\xs=[.str b]/\Q (g a b) H):=by
 intro pins s σ H x xs v us Q I rx rs h;obtain⟨a,b,rfl,rfl,h⟩:=h;obtain⟨t,rfl⟩:=rx
 cases rs with
 |cons r1 rs=>
  cases rs;obtain⟨u,rfl⟩:=r1;exact rule a b t u s _ λv k r=>⟨g a b,H,I.tok k,r,h⟩
theorem Dv:YN X "str.startswith" (λx xs H Q=>∃a b,x= .str a/\xs=[.str b]/\Q (.bl (E9 a b)) H):=
 ae2 (g:=λa b=>.bl (E9 a b)) λ_ _ _ _ s _ h=>PySem.SC.startswith (h _ s.toks Z)
section
variable{X:Cx}{o e:Expr}{to te:TE}
inductive afF(r:V->V2->Hp->VK->Prop)(te:TE)(σ:St)(Q:VK)(x:V)(H1:Hp):Prop
 |mk(_:(∃a,x= .str a))(_:te σ H1 λy H2=>r x [y] H2 Q)
def aeW(r:V->V2->Hp->VK->Prop)(to te:TE):TE:=λσ H Q=>to σ H (afF r te σ Q)
theorem Zq{id:String}(slot:Slot "str" name id)(ty:typeOf (.builtin id)=pure (.type "method_descriptor"))(rule:YN X id r)(ho:PE X o to)(he:PE X e te)
 (hs:bX [e] X.env=[(ae,eval e X.env)]:=by rfl)(IZ:jW o name X.env (eval o X.env)=eval o X.env:=by rfl)(IV:(lC.endLine==pos.line)=ac:=by rfl):
  PE X (.Call (.Attribute o name lC) [e] [] pos) (aeW r to te):=by
 intros;refine PySem.Call_method1 IZ hs IV (ga (ho pins s σ H _ I h) λv s1 ⟨x,H1,I1,r1,q1⟩=>?_);obtain⟨⟨a,rfl⟩,q1⟩:=q1;obtain⟨t,rfl⟩:=_root_.id r1;refine⟨"str",_,F.plainAttrs_str,slot,ty,typeIs_str _ _ _,(λ_ e=>nomatch e),fM Z (iB (dj ?_))⟩;exact ga (he pins s1 σ H1 _ I1 q1) λu s2 ⟨y,H2,I2,r2,q2⟩=>e8 (rule pins s2 σ H2 _ [y] _ [u] Q I2 r1 (.cons r2 .nil) q2)
end
end L2
namespace ae4
open PySem PySem.W PySem.Calls PyProof.Rows
section
variable{prog:ba}{w:World}{A:cb}{E:ai->aq->Prop}{s:aq}{K:Frag}
end
end ae4
namespace L2
local macro_rules|`(tactic|intros)=>`(tactic|intro pins s σ H Q I h)
open PySem PySem.Spec PyProof.Rows
def inClass(s:cG)(j:Nat):cG:=match s with
 | .ClassDef _ _ _ body _ _ _ _ _ _ _=>body.getD j (.Pass ⟨0,0,0,0⟩)
 |_=>.Pass ⟨0,0,0,0⟩
def xB(s:cG):Arguments:=match s with
 | .FunctionDef _ a _ _ _ _ _ _ _ _=>a
 |_=>{posonlyargs:=[],args:=[],vararg:=ab,kwonlyargs:=[],kw_defaults:=[],kwarg:=ab,defaults:=[]}
def r9(s:cG):List cG:=match s with
 | .FunctionDef _ _ b _ _ _ _ _ _ _=>b
 |_=>[]
def cj(s:cG):l_:=match s with
 | .FunctionDef _ _ _ _ _ _ sc _ _ _=>sc
 |_=>{kind:=.function,names:=[],isGenerator:=ae,isCoroutine:=ae}
abbrev gr:Ot:=λ_ _ _ _ _ _=>False
abbrev E0:XK:=λ_ _ _=>False
theorem dD{X:Cx}:Passes gr X E0:=λ_ _ _ _ _ _ _ h=>h.elim
structure OP(K:aj)(x qual:bV)(st:cG)(f:ao)(fd:gI):Prop where
 ex:∃(oc:ai)(od:Option ao)(kV doc pm:ai)(an:Option ao)(fC ct:ai)(WM:Array (Option ai)),
  fd=lJ x qual (xB st) (r9 st) (cj st) .none kV doc pm an fC ct/\K.lookup f=aa ⟨oc,od,.func fd,WM⟩/\O4 K fC qual=ac
 kp:lH K (.ref f)=ac
section
variable{P:ba}{w:World}{K:aj}{mg:bV->Option ai}{base:bO}
theorem OP.ok{st:cG}(F:OP K x qual st f fd)(S:l6 N ps (cj st))(len:∀vs H Q E,sp vs H Q E->vs.length=ps.length)
  (IY:∀(fC:ai) (A:cb) (outer:List Hd) (s:aq) (H:Hp) (vs:V2) (Q:VK) (E:XK),kL k (A.deeper (vG qual (cj st) s.heap.objs.size f fC))->sp vs H Q E->
   ∃t,MR (Ld gr P w K mg base N qual (cj st) f fC A outer s H E).Zs (r9 st) t/\t {nx:=λ_ H'=>Q .iy H',rt:=Q} (start N vs) H):cD P w K mg base gr (k+1) f fd ps sp:=by
 obtain⟨oc,od,kV,doc,pm,an,fC,ct,WM,rfl,lk,Su⟩:=F.ex;refine aaL lk Su S len λA outer s H vs Q E hr Sj=>?_;obtain⟨t,h,q⟩:=IY fC A outer s H vs Q E hr Sj;exact⟨t,h.Zs,q⟩
theorem OP.binds{st:cG}(F:OP K x qual st f fd)
 (h:∀(kV doc pm:ai) (an:Option ao) (fC ct:ai) (us:X9),us.length=ps.length->SM (lJ x qual (xB st) (r9 st) (cj st) .none kV doc pm an fC ct) ⟨us,[]⟩=pure (ps.zip us)):Binds K fd ps []:=by
 obtain⟨oc,od,kV,doc,pm,an,fC,ct,WM,rfl,lk,Su⟩:=F.ex;exact .all (h kV doc pm an fC ct)
end
theorem ZM(hr:kL k A):A.units+1<mS:=aX (Nat.add_le_add_left (by decide:1<=64) _) hr.units
variable{X:Cx}
theorem pv(i:Nat)(hN:X.N[i]? =aa x:=by rfl)(hv:YK X.env.scope x:=by first|exact bi rfl|exact GN (bi rfl)|exact GN (GN rfl))(hd:(x==("__debug__":bV))=ae:=by decide)
 (Su:(x==("__classdict__":bV))=ae:=by decide):PE X (.Name x pos) (YX i):=WJ hN hv hd Su
theorem ES:sF X (.builtin "len") (λxs H Q=>∃a kvs,xs=[V.ref a]/\H a=aa (.dK kvs)/\Q (.int kvs.length) H):=by
 intro pins s σ H xs us Q I r h;obtain⟨a,kvs,rfl,ha,q⟩:=h;obtain⟨u,rfl,ru⟩:=vals1 r
 cases ru;exact aaS I (.inl ha) λt s' I'=>⟨.int kvs.length,H,I',⟨t,Z⟩,q⟩
theorem cy{A B:Prop}(h:B):if ae=ac then A else B:=by
 rw[aw bf];exact h
theorem cI{A B:Prop}(h:A):if ac=ac then A else B:=by
 rw[aC Z];exact h
def a7(H H':Hp):Prop:=∀b o,H b=aa o->H' b=aa o
theorem a7.refl(H:Hp):a7 H H:=λ_ _ h=>h
theorem a7.trans(a:a7 H H1)(b:a7 H1 H2):a7 H H2:=λc o h=>b c o (a c o h)
theorem a7.free(e:a7 H H')(h:H' l=V?):H l=V? :=by
 cases q:H l with
 |none=>rfl
 |some o=>
  rw[e l o q]at h
  cases h
theorem a7.seq{K:aj}(e:a7 H H')(h:bQ K H a xs):bQ K H' a xs:=by
 rcases h with(h|⟨o,h⟩)|h
 ·exact .inl (.inl (e _ _ h))
 ·exact .inl (.inr ⟨o,e _ _ h⟩)
 ·exact .inr h
section
variable {κ:Type} [DecidableEq κ]
theorem tM{kvs:List (κ×V)}{k:κ}(h:eY kvs k=ab):¬k∈kvs.map (·.1):=by
 intro m;obtain⟨p,hp,e⟩:=aV.mp m;have q:(kvs.any λkv=>decide (kv.1=k))=ac:=gk.mpr ⟨p,hp,aI e⟩;rw[m5,h]at q;exact absurd q (by simp)
theorem Tc{kvs:List (κ×V)}{k:κ}{v:V}(h:eY kvs k=aa v):k∈kvs.map (·.1):=by
 have q:(kvs.any λkv=>decide (kv.1=k))=ac:=by
  rw[m5,h]
  all_goals rfl
 obtain⟨p,hp,e⟩:=gk.mp q;exact aV.mpr ⟨p,hp,i6 e⟩
theorem L6:∀{l:List κ}{k:κ},l.Nodup->¬k∈l->(l++[k]).Nodup
 |[],k,_,_=>by simp
 |a::r,k,h,hk=>by
  obtain⟨h1,h2⟩:=cc.mp h;show(a::(r++[k])).Nodup;refine cc.mpr ⟨λm=>?_,L6 h2 λm=>hk (aF.mpr (GN m))⟩;rcases df.mp m with q|q
  ·exact h1 q
  ·exact hk (aF.mpr (bi (cX.mp q).symm))
theorem TY{kvs:List (κ×V)}{k:κ}(v:V)(hn:(kvs.map (·.1)).Nodup)(h:eY kvs k=ab):((putK kvs k v).map (·.1)).Nodup:=by
 rw[P5 v h,bz];exact L6 hn (tM h)
theorem EL{p:κ×V}{r:List (κ×V)}{k:κ}(e:p.1=k):ik (p::r) k=ik r k:=by
 unfold ik;rw[bH,aw (by simp[e])]
theorem EM{p:κ×V}{r:List (κ×V)}{k:κ}(e:¬p.1=k):ik (p::r) k=p::ik r k:=by
 unfold ik;rw[bH,aC (by simp[e])]
theorem N'{kvs:List (κ×V)}{k:κ}{p:κ×V}(h:p∈ik kvs k):p∈kvs:=(bB.mp h).1
theorem uc:∀{kvs:List (κ×V)}{k:κ},(kvs.map (·.1)).Nodup->((ik kvs k).map (·.1)).Nodup
 |[],_,_=>gu
 |p::r,k,h=>by
  have h:(p.1::r.map (·.1)).Nodup:=h;obtain⟨h1,h2⟩:=cc.mp h;by_cases e:p.1=k
  ·rw[EL e];exact uc h2
  ·rw[EM e];show(p.1::(ik r k).map (·.1)).Nodup;refine cc.mpr ⟨λm=>h1 ?_,uc h2⟩;obtain⟨q,hq,eq⟩:=aV.mp m;exact aV.mpr ⟨q,N' hq,eq⟩
end
theorem at_of{xs:V2}{z:Int}{j:Nat}{v:V}(e:z=(j:Int))(h:xs[j]? =aa v):Ol xs z=aa v:=by
 rw[e];exact MN h
section
open PySem.W (WData Codec OpenSpec Well WellAll ReadsW ReadsAllW)
mutual
inductive Dw(K:aj)(H:Hp):V->kT->Prop
 |iy:Dw K H .iy .none
 |bl (b:Bool):Dw K H (.bl b) (.bool b)
 |int (i:Int):Dw K H (.int i) (.int i)
 |str (x:bV):Dw K H (.str x) (.str x)
 |JP (b:Array UInt8):Dw K H (.JP b) (.bytes b.toList)
 |lst {a:ao} {xs:V2} {ds:List kT}:bQ K H a xs->qW K H xs ds->Dw K H (.ref a) (.list ds)
 |tup {a:ao} {xs:V2} {ds:List kT}:tE K H a xs->qW K H xs ds->Dw K H (.ref a) (.tuple ds)
inductive qW(K:aj)(H:Hp):V2->List kT->Prop
 |nil:qW K H [] []
 |cons {v:V} {vs:V2} {d:kT} {ds:List kT}:Dw K H v d->qW K H vs ds->qW K H (v::vs) (d::ds)
end
theorem Mz{K:aj} :∀ns:xC,qW K H (ns.map V.int) (ns.map WData.int)
 |[]=>.nil
 |n::r=>.cons (.int n) (Mz r)
theorem Mm{K:aj} :∀(ns:xC)(xs:V2),qW K H xs (ns.map WData.int)->xs=ns.map V.int
 |[],xs,h=>by
  cases h;rfl
 |n::r,xs,h=>by
  cases h with
  |cons h1 h2=>
   cases h1;rw[Mm r _ h2]<;>rfl
section
variable{P:ba}{w:World}{K:aj}{H:Hp}{h:bO}{R:M4}{cl:bV->Option ao}
theorem Wt(f7:uA P w H h)(KX:K.In h)(q:bQ K H a xs):∃(its:X9)(o:gt)(n:Nat),Vals xs its/\h.get? a=aa o/\o.cls= .type "list"/\o.data= .seq its.toArray n:=by
 rcases q with q|⟨o,its,n,e,hc,_,hd,_,hv⟩
 ·obtain⟨_,its,n,hv,e⟩:=(show ji P w H h a (.lst xs)from q.ok f7);exact⟨its,_,n,hv,e,Z,Z⟩
 ·exact⟨its.toList,o,n,hv,KX _ _ e,hc,by simp[hd]⟩
theorem Ws(f7:uA P w H h)(KX:K.In h)(q:tE K H a xs):∃(its:X9)(o:gt)(n:Nat),Vals xs its/\h.get? a=aa o/\o.cls= .type "tuple"/\o.data= .seq its.toArray n:=by
 rcases q with q|⟨o,its,n,e,hc,hd,_,hv⟩
 ·obtain⟨_,its,hv,o,e,hc,n,hd⟩:=(show ji P w H h a (.tup xs)from q.ok f7);exact⟨its,o,n,hv,e,hc,hd⟩
 ·exact⟨its.toList,o,n,hv,KX _ _ e,hc,by simp[hd]⟩
mutual
theorem Dw.reads(f7:uA P w H h)(KX:K.In h):∀(d:kT)(v:V)(u:ai),Dw K H v d->RelV v u->∃as,ReadsW R cl h u d as
 | .none,_,_,x,r=>by
  cases x
  cases r;exact⟨_,ReadsW.none⟩
 | .bool b,_,_,x,r=>by
  cases x
  cases r;exact⟨_,ReadsW.bool b⟩
 | .int i,_,_,x,r=>by
  cases x;obtain⟨t,rfl⟩:=r;exact⟨_,ReadsW.int i t⟩
 | .str s,_,_,x,r=>by
  cases x;obtain⟨t,rfl⟩:=r;exact⟨_,ReadsW.str s t⟩
 | .bytes b,_,_,x,r=>by
  cases x;obtain⟨t,rfl⟩:=r;exact⟨_,ReadsW.bytes _ t⟩
 | .list ds,_,_,x,r=>by
  cases x with
  |lst hs ha=>
   cases r;obtain⟨its,o,n,rv,ho,hc,hd⟩:=Wt f7 KX hs;obtain⟨as,hr⟩:=Dw.readsAll f7 KX ds _ its ha rv;exact⟨_,ReadsW.list ho hc hd hr⟩
 | .tuple ds,_,_,x,r=>by
  cases x with
  |tup hs ha=>
   cases r;obtain⟨its,o,n,rv,ho,hc,hd⟩:=Ws f7 KX hs;obtain⟨as,hr⟩:=Dw.readsAll f7 KX ds _ its ha rv;exact⟨_,ReadsW.tuple ho hc hd hr⟩
 | .float _,_,_,x,_=>by cases x
 | .dict _,_,_,x,_=>by cases x
 | .bytearray _,_,_,x,_=>by cases x
 | .set _,_,_,x,_=>by cases x
 | .frozenset _,_,_,x,_=>by cases x
 | .obj _ _,_,_,x,_=>by cases x
theorem Dw.readsAll(f7:uA P w H h)(KX:K.In h):∀(ds:List kT)(vs:V2)(us:X9),qW K H vs ds->Vals vs us->∃as,ReadsAllW R cl h us ds as
 |[],_,_,x,r=>by
  cases x
  cases r;exact⟨_,ReadsAllW.nil⟩
 |d::ds,_,_,x,r=>by
  cases x with
  |cons h1 h2=>
   cases r with
   |cons r1 r2=>
    obtain⟨as,q1⟩:=Dw.reads f7 KX d _ _ h1 r1;obtain⟨bs,q2⟩:=Dw.readsAll f7 KX ds _ _ h2 r2;exact⟨_,ReadsAllW.cons q1 q2⟩
end
end
mutual
def LU:kT->Bool
 | .none=>ac
 | .bool _=>ac
 | .int _=>ac
 | .str _=>ac
 | .bytes _=>ac
 | .list xs=>zH xs
 | .tuple xs=>zH xs
 |_=>ae
def zH:List kT->Bool
 |[]=>ac
 |x::r=>LU x&&zH r
end
theorem HZ{α:Type}{f:α->kT}(h:∀a,LU (f a)=ac):∀l:List α,zH (l.map f)=ac
 |[]=>rfl
 |x::r=>by
  show(LU (f x)&&zH (r.map f))=ac;rw[h x,HZ h r]<;>rfl
theorem tY:∀(c:Codec)(a:c.denote),LU (c.enc a)=ac
 | .unit,_=>rfl
 | .bool,_=>rfl
 | .int _ _,_=>rfl
 | .nat _ _,_=>rfl
 | .u8,_=>rfl
 | .bytes _ _,_=>rfl
 | .text _ _ _ _,_=>rfl
 | .list _ _ c,a=>HZ (λx=>tY c x) a
 | .pair c d,a=>by
  show(LU (c.enc a.1)&&(LU (d.enc a.2)&&ac))=ac;rw[tY c a.1,tY d a.2]<;>rfl
 | .triple c d e,a=>by
  show(LU (c.enc a.1)&&(LU (d.enc a.2.1)&&(LU (e.enc a.2.2)&&ac)))=ac;rw[tY c a.1,tY d a.2.1,tY e a.2.2]<;>rfl
 | .option c,ab=>rfl
 | .option c,aa x=>tY c x
theorem Ep:∀(cs:List Codec)(a:tu cs),zH (nZ cs a)=ac
 |[],_=>rfl
 |c::cs,a=>by
  show(LU (c.enc a.1)&&zH (nZ cs a.2))=ac;rw[tY c a.1,Ep cs a.2]<;>rfl
theorem vJ:∀{xs:List kT}{d:kT},d∈xs->d.weight<=sY xs
 |[],d,h=>absurd h (by simp)
 |x::r,d,h=>by
  show d.weight<=x.weight+1+sY r;rcases aF.mp h with e|m
  ·rw[e];lia
  ·have z:=vJ m;lia
def toV:ai->V
 | .none=>.iy
 | .bool b=>.bl b
 | .int i _=>.int i
 | .str x _=>.str x
 | .bytes b _=>.JP b
 | .ref a=>.ref a
 |_=>.iy
def Oo(A:List ao):ai->Prop
 | .none=>True
 | .bool _=>True
 | .int _ _=>True
 | .str _ _=>True
 | .bytes _ _=>True
 | .ref a=>a∈A
 |_=>False
theorem Oo.mono(h:∀a∈A,a∈B):∀{u:ai},Oo A u->Oo B u:=λ{u} x=>by
 cases u with
 |ref a=>exact h a x
 |none=>trivial
 |bool b=>trivial
 |int i t=>trivial
 |str s t=>trivial
 |bytes b t=>trivial
 |_=>exact dW x
theorem PX(x:Oo A u):RelV (toV u) u:=by
 cases u with
 |ref a=>rfl
 |none=>rfl
 |bool b=>rfl
 |int i t=>exact⟨t,Z⟩
 |str s t=>exact⟨t,Z⟩
 |bytes b t=>exact⟨t,Z⟩
 |_=>exact dW x
theorem qo :∀{vs:X9},(∀u∈vs,Oo A u)->Vals (vs.map toV) vs
 |[],_=>.nil
 |u::r,h=>.cons (PX (h u (cY ..))) (qo λx hx=>h x (aD _ hx))
inductive sG(h:bO)(A:List ao)(a:ao):Prop
 |mk(vs:X9)(_:vs.length<=aE)(_:(∀u∈vs,Oo A u))(_:(h.get? a=aa {cls:=.type "list",data:=.seq vs.toArray}\/h.get? a=aa {cls:=.type "tuple",data:=.seq vs.toArray}))
theorem sG.mono(k:∀a∈A,a∈B)(x:sG h A a):sG h B a:=by
 obtain⟨vs,h1,h2,h3⟩:=x;exact⟨vs,h1,λu hu=>(h2 u hu).mono k,h3⟩
theorem o9{P:rA} :∀{vs:X9}{ds:List kT},yR P h vs ds->vs.length=ds.length
 |_,_,.nil=>rfl
 |_,_,.cons _ b=>by
  show _+1=_+1;rw[o9 b]
theorem D_{P:rA}(x:Well P h v (.list ds)):∃(a:ao)(vs:X9),v= .ref a/\h.get? a=aa {cls:=.type "list",data:=.seq vs.toArray}/\yR P h vs ds:=by
 cases x with
 |list ho k7=>exact⟨_,_,Z,ho,k7⟩
theorem AD{P:rA}(x:Well P h v (.tuple ds)):∃(a:ao)(vs:X9),v= .ref a/\h.get? a=aa {cls:=.type "tuple",data:=.seq vs.toArray}/\yR P h vs ds:=by
 cases x with
 |tuple ho k7=>exact⟨_,_,Z,ho,k7⟩
theorem D'{P:rA}(x:yR P h us (d::ds)):∃(v:ai)(vs:X9),us=v::vs/\Well P h v d/\yR P h vs ds:=by
 cases x with
 |cons a b=>exact⟨_,_,Z,a,b⟩
theorem Me(h:n<=1048576):n<=aE:=aB h (by decide)
section
variable{P:rA}{h:bO}
mutual
theorem RO:∀(d:kT)(v:ai),Well P h v d->LU d=ac->d.weight<=1048576->∃A:List ao,Oo A v/\∀a∈A,sG h A a
 | .none,_,x,_,_=>by
  cases x;exact⟨[],trivial,λa m=>absurd m (by simp)⟩
 | .bool b,_,x,_,_=>by
  cases x;exact⟨[],trivial,λa m=>absurd m (by simp)⟩
 | .int i,_,x,_,_=>by
  cases x;exact⟨[],trivial,λa m=>absurd m (by simp)⟩
 | .str s,_,x,_,_=>by
  cases x;exact⟨[],trivial,λa m=>absurd m (by simp)⟩
 | .bytes b,_,x,_,_=>by
  cases x;exact⟨[],trivial,λa m=>absurd m (by simp)⟩
 | .list ds,_,x,p,z=>by
  obtain⟨a,vs,rfl,ho,k7⟩:=D_ x;have z2:sY ds<=1048576:=z;obtain⟨A,h1,h2⟩:=xG ds _ k7 p λd hd=>aB (vJ hd) z2;have k:∀b∈A,b∈a::A:=λb hb=>aD _ hb;refine⟨a::A,cY ..,λb hb=>?_⟩;rcases aF.mp hb with e|m
  ·rw[e];exact⟨vs,Me (by rw[o9 k7];exact aB (zu ds) z2),λu hu=>(h1 u hu).mono k,.inl ho⟩
  ·exact(h2 b m).mono k
 | .tuple ds,_,x,p,z=>by
  obtain⟨a,vs,rfl,ho,k7⟩:=AD x;have z2:sY ds<=1048576:=z;obtain⟨A,h1,h2⟩:=xG ds _ k7 p λd hd=>aB (vJ hd) z2;have k:∀b∈A,b∈a::A:=λb hb=>aD _ hb;refine⟨a::A,cY ..,λb hb=>?_⟩;rcases aF.mp hb with e|m
  ·rw[e];exact⟨vs,Me (by rw[o9 k7];exact aB (zu ds) z2),λu hu=>(h1 u hu).mono k,.inr ho⟩
  ·exact(h2 b m).mono k
 | .float _,_,_,p,_=>dX (show ae=ac from p)
 | .dict _,_,_,p,_=>dX (show ae=ac from p)
 | .bytearray _,_,_,p,_=>dX (show ae=ac from p)
 | .set _,_,_,p,_=>dX (show ae=ac from p)
 | .frozenset _,_,_,p,_=>dX (show ae=ac from p)
 | .obj _ _,_,_,p,_=>dX (show ae=ac from p)
theorem xG:∀(ds:List kT)(vs:X9),yR P h vs ds->zH ds=ac->(∀d∈ds,d.weight<=1048576)->∃A:List ao,(∀u∈vs,Oo A u)/\∀a∈A,sG h A a
 |[],_,x,_,_=>by
  cases x;exact⟨[],λu m=>absurd m (by simp),λa m=>absurd m (by simp)⟩
 |d::ds,_,x,p,z=>by
  obtain⟨v,vs,rfl,x1,x2⟩:=D' x;have q:LU d=ac/\zH ds=ac:=LB.mp p;obtain⟨A,a1,a2⟩:=RO d v x1 q.1 (z d (cY ..));obtain⟨B,b1,b2⟩:=xG ds vs x2 q.2 λe he=>z e (aD _ he);have kA:∀b∈A,b∈A++B:=λb hb=>df.mpr (.inl hb);have kB:∀b∈B,b∈A++B:=λb hb=>df.mpr (.inr hb);refine⟨A++B,λu hu=>?_,λb hb=>?_⟩
  ·rcases aF.mp hu with e|m
   ·rw[e];exact a1.mono kA
   ·exact(b1 u m).mono kB
  ·rcases df.mp hb with m|m
   ·exact(a2 b m).mono kA
   ·exact(b2 b m).mono kB
end
end
def Um(o:gt):Option HO:=match o.data with
 | .seq vs _=>if(o.cls==dU "list")=ac then aa (.jT o (.lst (vs.toList.map toV)))else aa (.jT o (.tup (vs.toList.map toV)))
 |_=>ab
def r?(K:aj)(h:bO)(A:List ao):Hp:=λb=>if b∈A then(if(K.lookup b).isNone=ac then(h.get? b).bind Um else ab)else ab
def Jq(H:Hp):Prop:=∀b,H b=ab\/∃o u,H b=aa (.jT o u)
theorem IT(vs:X9):Um {cls:=.type "list",data:=.seq vs.toArray}=aa (.jT {cls:=.type "list",data:=.seq vs.toArray} (.lst (vs.map toV))):=by
 show(if(dU "list"==dU "list")=ac then aa (HO.jT {cls:=.type "list",data:=.seq vs.toArray} (.lst (vs.toArray.toList.map toV)))else aa (HO.jT {cls:=.type "list",data:=.seq vs.toArray} (.tup (vs.toArray.toList.map toV))))=_;rw[aC (beq_self_eq_true _)]
theorem IS(vs:X9):Um {cls:=.type "tuple",data:=.seq vs.toArray}=aa (.jT {cls:=.type "tuple",data:=.seq vs.toArray} (.tup (vs.map toV))):=by
 show(if(dU "tuple"==dU "list")=ac then aa (HO.jT {cls:=.type "tuple",data:=.seq vs.toArray} (.lst (vs.toArray.toList.map toV)))else aa (HO.jT {cls:=.type "tuple",data:=.seq vs.toArray} (.tup (vs.toArray.toList.map toV))))=_;rw[aw dk]
section
variable{P:ba}{w:World}{K:aj}{h:bO}{A:List ao}
theorem Ay(hb:b∈A)(hk:K.lookup b=ab)(e:h.get? b=aa o):r? K h A b=Um o:=by
 unfold r?;rw[aC hb,hk,aC (show(ab:Option gt).isNone=ac from Z),e]<;>rfl
theorem TN(q:r? K h A b=aa u):b∈A/\K.lookup b=ab:=by
 unfold r? at q;by_cases hb:b∈A
 ·rw[aC hb]at q
  cases hk:K.lookup b with
  |none=>exact⟨hb,Z⟩
  |some o=>
   rw[hk,aw (by simp)]at q
   cases q
 ·rw[aw hb]at q
  cases q
theorem Ax(ar:∀a∈A,sG h A a)(q:r? K h A b=aa u):K.lookup b=ab/\∃vs:X9,vs.length<=aE/\(∀u∈vs,Oo A u)/\
  ((h.get? b=aa {cls:=.type "list",data:=.seq vs.toArray}/\u= .jT {cls:=.type "list",data:=.seq vs.toArray} (.lst (vs.map toV)))\/
   (h.get? b=aa {cls:=.type "tuple",data:=.seq vs.toArray}/\u= .jT {cls:=.type "tuple",data:=.seq vs.toArray} (.tup (vs.map toV)))):=by
 obtain⟨hb,hk⟩:=TN q;obtain⟨vs,h1,h2,h3⟩:=ar b hb;refine⟨hk,vs,h1,h2,?_⟩;rcases h3 with e|e
 ·rw[Ay hb hk e,IT]at q;exact .inl ⟨e,(bN q).symm⟩
 ·rw[Ay hb hk e,IS]at q;exact .inr ⟨e,(bN q).symm⟩
theorem Om(ar:∀a∈A,sG h A a):Jq (r? K h A):=λb=>by
 cases q:r? K h A b with
 |none=>exact .inl Z
 |some u=>
  obtain⟨_,vs,_,_,⟨_,e⟩|⟨_,e⟩⟩:=Ax ar q
  ·exact .inr ⟨_,_,by rw[e]⟩
  ·exact .inr ⟨_,_,by rw[e]⟩
theorem UQ(ar:∀a∈A,sG h A a):uA P w (r? K h A) h:=λb u q=>by
 obtain⟨_,vs,h1,h2,⟨e,rfl⟩|⟨e,rfl⟩⟩:=Ax ar q
 ·exact⟨e,by rw[af];exact h1,vs,_,qo h2,e⟩
 ·exact⟨e,by rw[af];exact h1,vs,qo h2,_,e,Z,_,Z⟩
theorem z_{c c':ai}{vs us:X9}(e:(aa {cls:=c,data:=.seq vs.toArray}:Option gt)=aa {cls:=c',data:=.seq us.toArray}):c=c'/\vs=us:=by
 have e1:=bN e;have e2:c=c':=congrArg Obj.cls e1;have e3:LA vs.toArray=LA us.toArray:=congrArg Obj.data e1;injection e3 with e4
 refine⟨e2,?_⟩;have e5:=congrArg Hf e4;simpa using e5
theorem aev(KX:K.In h)(ar:∀a∈A,sG h A a){a:ao}{vs:X9}(ha:a∈A)(e:h.get? a=aa {cls:=.type "list",data:=.seq vs.toArray}):(∀u∈vs,Oo A u)/\bQ K (r? K h A) a (vs.map toV):=by
 obtain⟨us,h1,h2,h3⟩:=ar a ha;have hu:us=vs:=by
  rcases h3 with q|q
  ·rw[e]at q;exact(z_ q).2.symm
  ·rw[e]at q;exact absurd (Lu (z_ q).1) dk
 subst hu;refine⟨h2,?_⟩
 cases hk:K.lookup a with
 |none=>exact .inl (.inr ⟨_,by rw[Ay ha hk e,IT]⟩)
 |some o=>
  have e2:=KX a o hk;rw[e]at e2;obtain rfl:=bN e2;exact .inr ⟨_,us.toArray,_,hk,Z,Z,Z,by rw[bm];exact h1,by simpa using qo h2⟩
theorem aeu(KX:K.In h)(ar:∀a∈A,sG h A a){a:ao}{vs:X9}(ha:a∈A)(e:h.get? a=aa {cls:=.type "tuple",data:=.seq vs.toArray}):(∀u∈vs,Oo A u)/\tE K (r? K h A) a (vs.map toV):=by
 obtain⟨us,h1,h2,h3⟩:=ar a ha;have hu:us=vs:=by
  rcases h3 with q|q
  ·rw[e]at q;exact absurd (Lu (z_ q).1) dk
  ·rw[e]at q;exact(z_ q).2.symm
 subst hu;refine⟨h2,?_⟩
 cases hk:K.lookup a with
 |none=>exact .inl (.inr ⟨_,by rw[Ay ha hk e,IS]⟩)
 |some o=>
  have e2:=KX a o hk;rw[e]at e2;obtain rfl:=bN e2;exact .inr ⟨_,us.toArray,_,hk,Z,Z,by rw[bm];exact h1,by simpa using qo h2⟩
mutual
theorem XE{Pm:rA}(KX:K.In h)(ar:∀a∈A,sG h A a):∀(d:kT)(v:ai),Well Pm h v d->LU d=ac->Oo A v->Dw K (r? K h A) (toV v) d
 | .none,_,x,_,_=>by
  cases x;exact .iy
 | .bool b,_,x,_,_=>by
  cases x;exact .bl b
 | .int i,_,x,_,_=>by
  cases x;exact .int i
 | .str s,_,x,_,_=>by
  cases x;exact .str s
 | .bytes b,_,x,_,_=>by
  cases x;have z:=Dw.JP (K:=K) (H:=r? K h A) b.toArray;exact z
 | .list ds,_,x,p,hu=>by
  obtain⟨a,vs,rfl,ho,k7⟩:=D_ x;obtain⟨h2,hs⟩:=aev KX ar hu ho;exact .lst hs (Gn KX ar ds _ k7 p h2)
 | .tuple ds,_,x,p,hu=>by
  obtain⟨a,vs,rfl,ho,k7⟩:=AD x;obtain⟨h2,hs⟩:=aeu KX ar hu ho;exact .tup hs (Gn KX ar ds _ k7 p h2)
 | .float _,_,_,p,_=>dX (show ae=ac from p)
 | .dict _,_,_,p,_=>dX (show ae=ac from p)
 | .bytearray _,_,_,p,_=>dX (show ae=ac from p)
 | .set _,_,_,p,_=>dX (show ae=ac from p)
 | .frozenset _,_,_,p,_=>dX (show ae=ac from p)
 | .obj _ _,_,_,p,_=>dX (show ae=ac from p)
theorem Gn(KX:K.In h)(ar:∀a∈A,sG h A a):∀(ds:List kT)(vs:X9),yR Pm h vs ds->zH ds=ac->(∀u∈vs,Oo A u)->qW K (r? K h A) (vs.map toV) ds
 |[],_,x,_,_=>by
  cases x;exact .nil
 |d::ds,_,x,p,hu=>by
  obtain⟨v,vs,rfl,x1,x2⟩:=D' x;have q:LU d=ac/\zH ds=ac:=LB.mp p;exact .cons (XE KX ar d v x1 q.1 (hu _ (cY ..))) (Gn KX ar ds vs x2 q.2 λu m=>hu u (aD _ m))
end
end
theorem Nn{P:ba}{K:aj}{R:M4}  
 (KX:K.In fX.heap)(Sm:fX.heap.Ns cR mg)(hb:fX.heap.Ns V3 mb)(ad3:∀x:bV,x≠"__name__"->mb x=g_ x)(adD:fX.heap.NoLimit)(hg:fX.gens=#[])
 (VC:yR w.params fX.heap jF ds)(qg:zH ds=ac)(hwt:∀d∈ds,d.weight<=1048576)(hr:kL k Jz)
 (F:∀base:bO,K.In base->base.Ns cR mg->cD P w K mg base CX k fa fd ps sp)(aal:∀(s:aq) (us:X9),us.length=ps.length->JI s fd ⟨us,[]⟩ (ps.zip us))(c6:ds.length=ps.length)
 (Sj:∀(H:Hp) (xs:V2),Jq H->qW K H xs ds->sp xs H (λv H'=>Dw K H' v d0) λ_ _ _=>False)
 (aax:∀H e s',CX [] H fX (λ_ _ _=>False) e s'->False):
  md (bg P w) Jz (.call (.ref fa) ⟨jF,[]⟩) (λr s'=>∃u as,r= .ok (.ret u)/\ReadsW R cl s'.heap u d0 as/\OldK fX.heap s'.heap/\s'.os=fX.os/\CI s'.gens) fX:=by
 obtain⟨A,ho,ar⟩:=xG ds jF VC qg hwt;have hO:Jq (r? K fX.heap A):=Om ar;have f7:uA P w (r? K fX.heap A) fX.heap:=UQ ar;have hS:=Gn KX ar ds jF VC qg ho;have hV:=qo ho;have hK:∀b u,r? K fX.heap A b=aa u->K.lookup b=ab:=λb u q=>(Ax ar q).1;have X_:∀{b:ao}{o:gt}{es:Array lz}{ep:Nat},fX.heap.get? b=aa o->o.data= .dict es ep->r? K fX.heap A b=ab:=λ{b o es ep} e d=>by
  cases q:r? K fX.heap A b with
  |none=>rfl
  |some u=>
   obtain⟨_,vs,_,_,⟨e2,_⟩|⟨e2,_⟩⟩:=Ax ar q
   ·rw[e2]at e
    cases e;have d':LA vs.toArray _=Data.dict es ep:=d
    cases d'
   ·rw[e2]at e
    cases e;have d':LA vs.toArray _=Data.dict es ep:=d
    cases d'
 generalize r? K fX.heap A=H at hO f7 hS hK X_;have MM:∀{b:ao}{o:gt},fX.heap.get? b=aa o->H b=ab->(Gg fX.heap H).get? b=aa o:=λe n=>Q8 e n;have abx:∀{b:ao}{m:bV->Option ai},fX.heap.Ns b m->(Gg fX.heap H).Ns b m:=λ{b m} ⟨o,es,ep,e,d,r⟩=>⟨o,es,ep,MM e (X_ e d),d,r⟩;have nK:∀b o,K.lookup b=aa o->H b=ab:=λb o e=>by
  cases q:H b with
  |none=>rfl
  |some u=>
   rw[hK b u q]at e
   cases e
 have hKb:K.In (Gg fX.heap H):=λb o e=>MM (KX b o e) (nK b o e);have hM:Mod K mg (Gg fX.heap H):=⟨hKb,abx Sm,⟨mb,abx hb,ad3⟩,let⟨mc,h1,h2⟩:=adD;⟨mc,abx h1,h2⟩⟩;have e0:Ls P w K mg (Gg fX.heap H) Jz [] fX H:=⟨Z,hM,λb o e=>TM e,o3 (NX _ _),trivial,λb hb=>absurd (show b∈([]:List ao)from hb) (by simp),f7,.of_eq hg⟩;have hl:jF.length=ps.length:=by rw[o9 VC];exact c6
 refine jA ((F _ hKb (abx Sm)).run Jz [] fX H ⟨jF,[]⟩ jF (jF.map toV) _ _ hr e0 (aal fX jF hl) hV (Sj H _ hO hS)) λr s' x=>?_
 cases r with
 |error e=>exact(aax H e s' x).elim
 |ok fl=>
  cases fl with
  |next=>exact dW x
  |brk=>exact dW x
  |cont=>exact dW x
  |ret u=>
   obtain⟨v,H',os,bare,un,ZU,r',q⟩:=x;have kept:∀b o,fX.heap.get? b=aa o->s'.heap.get? b=aa o:=λb o e=>by
    cases q2:H b with
    |none=>exact un.keep b o e q2 (by intro z;exact absurd (show b∈([]:List ao)from z) (by simp)) (by simp)
    |some u2=>
     rcases hO b with z|⟨ob,u3,z⟩
     ·rw[q2]at z
      cases z
     ·have z2:=un.BP b ob _ z;obtain⟨e1,_⟩:=f7 b _ z;obtain⟨e2,_⟩:=ZU b _ z2;rw[e]at e1
      cases e1;exact e2
   have KX':K.In s'.heap:=λb o e=>kept b o (KX b o e);obtain⟨as,hrd⟩:=Dw.reads (R:=R) (cl:=cl) ZU KX' d0 v u q r';exact⟨u,as,Z,hrd,OldK.of_keep kept,os,bare⟩
theorem Bz(h:WData.layableAll ds=ac):∀d∈ds,d.weight<=1048576:=λd hd=>
 (PySem.W.layableW_iff.mp (dC.mp h d hd)).2.2
theorem B1:∀(cs:List Codec)(a:tu cs),(nZ cs a).length=cs.length
 |[],_=>rfl
 |c::cs,a=>by
  show(nZ cs a.2).length+1=cs.length+1;rw[B1 cs a.2]
theorem Nb{r:OpenSpec}{k:Nat}{q:ba}{QD:List bV}{XP:(bV->Option ai)->bO->Prop}{YP:World->bO->Prop}{d:DefRec}{K:rA->aj}{CX:World->Ot}{ps:List bV}{sp:World->Sp}
 (QW:r.wellSaid=ac)(hdf:d.params.defaults=[])(c6:r.args.length=ps.length)(hr:kL k Jz)
 (hY:∀(w:World) (h:bO),YP w h->(K w.params).In h)
  (F:∀(w:World) (mg:bV->Option ai) (fa:ao) (h:bO),YP w h->(K w.params).In h->h.Ns cR mg->mg d.name=aa (.ref fa)->
   ∃fd:gI,(∀(s:aq)(us:X9),us.length=ps.length->JI s fd ⟨us,[]⟩ (ps.zip us))/\
    ∀base:bO,(K w.params).In base->base.Ns cR mg->cD r.prog w (K w.params) mg base (CX w) k fa fd ps (sp w))
  (Sj:∀(w:World)(H:Hp)(xs:V2)(a:tu r.args),Jq H->Sd r.args a=ac->tH r.args r.asked a=ac->qW (K w.params) H xs (nZ r.args a)->
   sp w xs H (λv H'=>Dw (K w.params) H' v (r.ret.enc (tH r.args r.f a))) λ_ _ _=>False)
  (aax:∀(w:World)(H:Hp)(s:aq)(e:ai)(s':aq),CX w [] H s (λ_ _ _=>False) e s'->False):
  O5 q QD XP YP r d [] (λf vs=>PySem.call f vs):=by
 intro w Ej fX mg mb G Y fa o pm cd doc dV kV ho hd Su hD Yn hg args jF as adj adG hrd VC hlo;obtain⟨a,e1,e2⟩:=PySem.W.os_pre_some adj;obtain⟨e3,ac_⟩:=Codec.encAll_of_decAll r.args args a e1;subst e3;have KX:=hY w _ Y;obtain⟨fd,hb,hF⟩:=F w mg fa _ Y KX G.T.g Yn;refine PySem.W.enter_call (jA (Nn (R:=[]) (cl:=classAt Ej.heap) (d0:=r.ret.enc (tH r.args r.f a)) KX G.T.g G.T.b G.T.builtins G.T.nolimit hg VC (Ep _ _) (Bz adG) hr hF hb (by rw[B1];exact c6)
  (λH xs hO hS=>Sj w H xs a hO ac_ e2 hS) λH e s'=>aax w H fX e s') λr' s' hq=>?_)
 obtain⟨u,qi,rfl,h1,h2,h3,h4⟩:=hq;exact⟨.inl ⟨u,_,qi,Z,λ_=>rfl,h1,(OpenSpec.post_iff QW ac_ _ _).mpr Z,λz=>dX (show ae=ac from z)⟩,h2,h3,h4⟩
theorem J9{r:OpenSpec}{k:Nat}{q:ba}{QD:List bV}{XP:(bV->Option ai)->bO->Prop}{YP:World->bO->Prop}{d:DefRec}{K:rA->aj}{CX:Ot}{ps:List bV}{sp:aj->Sp}
 (QW:r.wellSaid=ac)(hdf:d.params.defaults=[])(c6:r.args.length=ps.length)(hr:kL k Jz)
 (hY:∀(w:World) (h:bO),YP w h->(K w.params).In h)
  (F:∀(w:World) (mg:bV->Option ai) (fa:ao) (h:bO),YP w h->(K w.params).In h->h.Ns cR mg->mg d.name=aa (.ref fa)->
   ∃fd:gI,(∀(s:aq)(us:X9),us.length=ps.length->JI s fd ⟨us,[]⟩ (ps.zip us))/\
    ∀base:bO,(K w.params).In base->base.Ns cR mg->cD r.prog w (K w.params) mg base CX k fa fd ps (sp (K w.params)))
  (Sj:∀(K:aj)(H:Hp)(xs:V2)(a:tu r.args),Jq H->Sd r.args a=ac->tH r.args r.asked a=ac->qW K H xs (nZ r.args a)->
   sp K xs H (λv H'=>Dw K H' v (r.ret.enc (tH r.args r.f a))) λ_ _ _=>False)
  (aax:∀(H:Hp)(s:aq)(e:ai)(s':aq),CX [] H s (λ_ _ _=>False) e s'->False):
  O5 q QD XP YP r d [] (λf vs=>PySem.call f vs):=
 Nb (K:=K) (CX:=λ_=>CX) (sp:=λw=>sp (K w.params)) QW hdf c6 hr hY F (λw H xs a h1 h2 h3 h4=>Sj (K w.params) H xs a h1 h2 h3 h4) λ_ H s e s'=>aax H s e s'
end
end L2
namespace Tw
open Vbwsad
theorem nJ:∀a:xC,dQ a a=ae
 |[]=>rfl
 |x::r=>by simp[dQ,nJ r]
theorem lq:∀{a b c:xC},dQ a b=ac->dQ b c=ac->dQ a c=ac
 |[],[],_,h,_=>by simp[dQ]at h
 |[],_::_,[],_,h=>by simp[dQ]at h
 |[],_::_,_::_,_,_=>rfl
 |_::_,[],_,h,_=>by simp[dQ]at h
 |_::_,_::_,[],_,h=>by simp[dQ]at h
 |x::a,y::b,z::c,h1,h2=>by
  simp only[dQ,gG,decide_eq_true_eq,aK,beq_iff_eq]at h1 h2 ⊢;rcases h1 with h1|⟨e1,h1⟩
  ·rcases h2 with h2|⟨e2,h2⟩
   ·left;lia
   ·left;lia
  ·rcases h2 with h2|⟨e2,h2⟩
   ·left;lia
   ·right;exact⟨om,lq h1 h2⟩
theorem nU:∀{a b:xC},dQ a b=ae->dQ b a=ae->a=b
 |[],[],_,_=>rfl
 |[],_::_,h,_=>by simp[dQ]at h
 |_::_,[],_,h=>by simp[dQ]at h
 |x::a,y::b,h1,h2=>by
  simp only[dQ,vj,decide_eq_false_iff_not,ff,beq_eq_false_iff_ne]at h1 h2;have e:x=y:=om;subst e;have VR:=h1.2.resolve_left (by simp);have VQ:=h2.2.resolve_left (by simp);rw[nU VR VQ]
theorem Jm(h:dQ a b=ac):dQ b a=ae:=by
 cases e:dQ b a with
 |false=>rfl
 |true=>have:=lq h e;rw[nJ]at this;cases this
abbrev DP(l:List xC):Prop:=l.Pairwise (λa b=>dQ a b=ac)
theorem rT :∀{l:List xC},y∈nV x l↔y=x\/y∈l
 |[]=>by simp[nV]
 |z::r=>by
  unfold nV;split
  ·simp
  ·split
   ·rename_i h;subst h;simp
   ·simp only[aF,rT (l:=r)];constructor
    ·rintro(h|h|h)
     ·exact .inr (.inl h)
     ·exact .inl h
     ·exact .inr (.inr h)
    ·rintro(h|h|h)
     ·exact .inr (.inl h)
     ·exact .inl h
     ·exact .inr (.inr h)
theorem vK :∀{l:List xC},DP l->DP (nV x l)
 |[],_=>by simp[nV,DP]
 |z::r,h=>by
  have hz:=(bc.mp h).1;have hr:=(bc.mp h).2;unfold nV;split
  ·rename_i hb;refine bc.mpr ⟨λy hy=>?_,h⟩;rcases aF.mp hy with rfl|hy
   ·exact hb
   ·exact lq hb (hz y hy)
  ·split
   ·exact h
   ·rename_i hb he;refine bc.mpr ⟨λy hy=>?_,vK hr⟩;rcases rT.mp hy with rfl|hy
    ·cases e:dQ z y with
     |true=>rfl
     |false=>exact absurd (nU (by simpa using hb) e) he
    ·exact hz y hy
theorem AH:∀{l m:List xC},DP l->DP m->(∀r,r∈l↔r∈m)->l=m
 |[],[],_,_,_=>rfl
 |[],y::m,_,_,h=>by have:=(h y).mpr (by simp);simp at this
 |x::l,[],_,_,h=>by have:=(h x).mp (by simp);simp at this
 |x::l,y::m,h1,h2,h=>by
  have a1:=(bc.mp h1).1;have a2:=(bc.mp h2).1;have e:x=y:=by
   have q1:=(h x).mp (by simp);have q2:=(h y).mpr (by simp);rcases aF.mp q1 with e|q1
   ·exact e
   ·rcases aF.mp q2 with e|q2
    ·exact e.symm
    ·have:=Jm (a1 y q2);rw[a2 x q1]at this;cases this
  subst e;have q:l=m:=AH (bc.mp h1).2 (bc.mp h2).2 λr=>by
   constructor
   ·intro hr;rcases aF.mp ((h r).mp (aD _ hr))with e|q
    ·subst e;have:=a1 r hr;rw[nJ]at this;cases this
    ·exact q
   ·intro hr;rcases aF.mp ((h r).mpr (aD _ hr))with e|q
    ·subst e;have:=a2 r hr;rw[nJ]at this;cases this
    ·exact q
  rw[q]
def cnt(l:List xC)(x:xC):Nat:=(l.takeWhile λr=>dQ r x).length
theorem Lh(l:List xC)(x:xC):cnt l x<=l.length:=(List.takeWhile_sublist _).length_le
theorem ML:∀{l:List xC}{x r:xC}{i:Nat},DP l->l[i]? =aa r->(dQ r x=ac↔i<cnt l x)
 |[],x,r,i,_,h=>by simp at h
 |y::l,x,r,0,_,h=>by
  have e:y=r:=by simpa using h
  subst e;unfold cnt;rw[eu];by_cases hb:dQ y x=ac
  ·simp[hb]
  ·simp[hb]
 |y::l,x,r,i+1,hs,h=>by
  have h':l[i]? =aa r:=by simpa using h
  have hy:=(bc.mp hs).1;unfold cnt;rw[eu];by_cases hb:dQ y x=ac
  ·rw[aC hb];have:=ML (x:=x) (bc.mp hs).2 h';unfold cnt at this;rw[this,aJ];lia
  ·rw[aw hb];constructor
   ·intro hr;exact absurd (lq (hy r (aP h')) hr) hb
   ·intro hi;simp at hi
theorem RJ:∀{l:List xC}{x:xC},DP l->x∈l->l[cnt l x]? =aa x/\l.eraseIdx (cnt l x)=l.filter (λr=>r != x)
 |[],x,_,h=>by simp at h
 |y::l,x,hs,h=>by
  have hy:=(bc.mp hs).1;by_cases e:x=y
  ·subst e;have c0:cnt (x::l) x=0:=by unfold cnt;rw[eu,aw (by rw[nJ];simp)];rfl
   rw[c0];refine⟨by simp,?_⟩;rw[Hc,bH,aw (by simp)]
   symm
   rw[M'];intro r hr;have:=hy r hr;simp only[bne_iff_ne,ne_eq];intro q;subst q;rw[nJ]at this;cases this
  ·have hx:x∈l:=(aF.mp h).resolve_left e;have hb:=hy x hx;obtain⟨q1,q2⟩:=RJ (bc.mp hs).2 hx;have c1:cnt (y::l) x=cnt l x+1:=by unfold cnt;rw[eu,aC hb];rfl
   rw[c1];refine⟨by simpa using q1,?_⟩;rw[lM,q2,bH,aC (by simp;exact λq=>e q.symm)]
theorem MK:∀{l:List xC}{x:xC},DP l->x∉l->l.take (cnt l x)++x::l.drop (cnt l x)=nV x l
 |[],x,_,_=>by simp[cnt,nV]
 |y::l,x,hs,hx=>by
  have ZL:x≠y:=λe=>hx (by simp[e]);have Ye:x∉l:=λe=>hx (by simp[e]);by_cases hb:dQ y x=ac
  ·have c1:cnt (y::l) x=cnt l x+1:=by unfold cnt;rw[eu,aC hb];rfl
   rw[c1];have:=MK (bc.mp hs).2 Ye;unfold nV;rw[aw (by rw[Jm hb];simp),if_neg ZL,<-this];simp
  ·have c0:cnt (y::l) x=0:=by unfold cnt;rw[eu,aw hb];rfl
   rw[c0];have:dQ x y=ac:=by
    cases e:dQ x y with
    |true=>rfl
    |false=>exact absurd (nU e (by simpa using hb)) ZL
   unfold nV;rw[aC this];simp
theorem EY:∀{r f:xC},r.take f.length=f->dQ r f=ae
 |[],[],_=>rfl
 |_::_,[],_=>rfl
 |[],_::_,h=>by simp at h
 |x::r,y::f,h=>by
  simp only[aJ,fU,Lz]at h;simp[dQ,h.1,EY h.2]
theorem Jl:∀{r q f:xC},dQ r f=ae->r.take f.length≠f->f.length<=r.length->dQ r q=ac->q.take f.length≠f
 |_,_,[],_,h,_,_=>by simp at h
 |[],_,_::_,_,_,h,_=>by simp at h
 |_::_,[],_::_,_,_,_,h=>by simp[dQ]at h
 |x::r,z::q,y::f,h1,h2,h3,h4=>by
  simp only[aJ,fU,Lz,ne_eq,not_and]at h2 ⊢;simp only[dQ,vj,decide_eq_false_iff_not,ff,beq_eq_false_iff_ne]at h1;simp only[dQ,gG,decide_eq_true_eq,aK,beq_iff_eq]at h4;intro ez;subst ez;rcases h4 with h4|⟨e4,h4⟩
  ·lia
  ·subst e4;exact Jl (h1.2.resolve_left (by simp)) (h2 Z) (by simpa using h3) h4
def yG(l:List xC)(f:xC):List xC:=(l.drop (cnt l f)).takeWhile λr=>r.take f.length==f
theorem EK:∀{l:List xC}{f:xC},DP l->(∀r∈l,f.length<=r.length)->yG l f=l.filter λr=>r.take f.length==f
 |[],f,_,_=>by simp[yG]
 |y::l,f,hs,hl=>by
  have hy:=(bc.mp hs).1;by_cases hb:dQ y f=ac
  ·have c1:cnt (y::l) f=cnt l f+1:=by unfold cnt;rw[eu,aC hb];rfl
   have ih:=EK (l:=l) (f:=f) (bc.mp hs).2 (λr hr=>hl r (aD _ hr));unfold yG at ih ⊢;rw[c1,List.drop_succ_cons,ih,bH,aw];intro q;rw[EY (by simpa using q)]at hb
   cases hb
  ·have c0:cnt (y::l) f=0:=by unfold cnt;rw[eu,aw hb];rfl
   unfold yG;rw[c0,D7];have Xn:dQ y f=ae:=by simpa using hb
   have key:∀(m:List xC),DP m->(∀r∈m,dQ r f=ae/\f.length<=r.length)->m.takeWhile (λr=>r.take f.length==f)=m.filter λr=>r.take f.length==f:=by
    intro m
    induction m with
    |nil=>intros;rfl
    |cons z m ih=>
     intro hm hr;rw[eu,bH];by_cases hz:(z.take f.length==f)=ac
     ·rw[aC hz,aC hz,ih (bc.mp hm).2 λr h=>hr r (aD _ h)]
     ·rw[aw hz,aw hz]
      symm
      rw[List.filter_eq_nil_iff];intro q hq;have:=Jl (hr z (by simp)).1 (by simpa using hz) (hr z (by simp)).2 ((bc.mp hm).1 q hq);simpa using this
   refine key _ hs λr hr=>⟨?_,hl r hr⟩;rcases aF.mp hr with rfl|hr
   ·exact Xn
   ·cases e:dQ r f with
    |false=>rfl
    |true=>rw[lq (hy r hr) e]at Xn;cases Xn
structure Canon(ρ:Nat->Option xC)(rows:List xC):Prop where
 OG:DP rows
 mem:∀r,r∈rows↔∃n,ρ n=aa r
theorem Canon.uniq(a:Canon ρ l)(b:Canon ρ m):l=m:=
 AH a.OG b.OG λr=>(a.mem r).trans (b.mem r).symm
def Ends(ρ:Nat->Option xC):Prop:=∀n r,ρ n=aa r->∃p:xC,r=p++[(n:Int)]
theorem Ends.inj(e:Ends ρ)(a:ρ n=aa r)(b:ρ m=aa r):n=m:=by
 obtain⟨p,hp⟩:=e n r a;obtain⟨q,hq⟩:=e m r b;rw[hp]at hq;have:=(Sc hq Z).2;simp at this;lia
def gQ(ρ:Nat->Option xC)(t:Nat)(o:Option xC):Nat->Option xC:=λn=>if n=t then o else ρ n
theorem Ends.put{ρ:Nat->Option xC}(e:Ends ρ){t:Nat}{o:Option xC}(h:∀r,o=aa r->∃p:xC,r=p++[(t:Int)]):Ends (gQ ρ t o):=λn r q=>by
 unfold gQ at q;split at q
 ·rename_i en;subst en;exact h r q
 ·exact e n r q
theorem Canon.out(c:Canon ρ rows)(e:Ends ρ)(h:ρ t=aa r):Canon (gQ ρ t ab) (rows.filter λx=>x != r):=by
 refine⟨c.OG.filter _,λx=>?_⟩;rw[bB,c.mem x];constructor
 ·rintro⟨⟨n,hn⟩,hx⟩;refine⟨n,?_⟩;unfold gQ;rw[aw]
  ·exact hn
  ·intro q;subst q;rw[h]at hn;injection hn with hn;simp[hn]at hx
 ·rintro⟨n,hn⟩;unfold gQ at hn;split at hn
  ·cases hn
  ·rename_i iQ;refine⟨⟨n,hn⟩,?_⟩;simp only[bne_iff_ne,ne_eq];intro q;subst q;exact iQ (e.inj hn h)
theorem Canon.Ib(c:Canon ρ rows)(h:ρ t=ab):Canon (gQ ρ t ab) rows:=by
 have:gQ ρ t ab=ρ:=by
  funext n;unfold gQ;split
  ·rename_i e;subst e;exact h.symm
  ·rfl
 rw[this];exact c
theorem Canon.put(c:Canon ρ rows)(h:ρ t=ab):Canon (gQ ρ t (aa r)) (nV r rows):=by
 refine⟨vK c.OG,λx=>?_⟩;rw[rT,c.mem x];constructor
 ·rintro(rfl|⟨n,hn⟩)
  ·exact⟨t,by simp[gQ]⟩
  ·refine⟨n,?_⟩;unfold gQ;rw[aw]
   ·exact hn
   ·intro q;subst q;rw[h]at hn;cases hn
 ·rintro⟨n,hn⟩;unfold gQ at hn;split at hn
  ·exact .inl (bN hn).symm
  ·exact .inr ⟨n,hn⟩
theorem Canon.new(c:Canon ρ rows)(e:Ends ρ)(h:ρ t=ab):p++[(t:Int)]∉rows:=λq=>by
 obtain⟨n,hn⟩:=(c.mem _).mp q;obtain⟨p',hp⟩:=e n _ hn;have:=(Sc hp Z).2;simp at this;have:n=t:=om;subst this;rw[h]at hn;cases hn
theorem HU   :gQ (gQ ρ t o) t o'=gQ ρ t o':=by
 funext n;unfold gQ;split<;>rfl
def run:Nat->List V9->V9×List V9
 |0,ls=>([],ls)
 |n+1,ls=>match candidate ls with
  |none=>([],ls)
  |some x=>(x::(run n (without x ls)).1,(run n (without x ls)).2)
abbrev size(ls:List V9):Nat:=total (ls.map λl=>l.length)
def Full(ls:List V9):Prop:=∀l∈ls,l≠[]
theorem lp(ls:List V9):Full (ls.filter λl=>!l.isEmpty):=λl h=>by
 have:=(bB.mp h).2;intro e;subst e;simp at this
theorem i?(x:Nat)(ls:List V9):Full (without x ls):=lp _
theorem size_cons(l:V9)(ls:List V9):size (l::ls)=l.length+size ls:=rfl
theorem wF(x:Nat)(l:V9)(ls:List V9):without x (l::ls)=(if(if l.head? =aa x then l.drop 1 else l)=[]then []else [if l.head? =aa x then l.drop 1 else l])++without x ls:=by
 unfold without;rw[bC,bH];generalize (if l.head? =aa x then l.drop 1 else l)=m
 cases m with
 |nil=>simp
 |cons a b=>simp
theorem size_append(a b:List V9):size (a++b)=size a+size b:=by
 induction a with
 |nil=>simp[size,total]
 |cons x a ih=>rw[zY,size_cons,size_cons,ih];lia
theorem sk(x:Nat):∀ls:List V9,size (without x ls)<=size ls
 |[]=>aS _
 |l::ls=>by
  have ih:=sk x ls;rw[wF,size_append,size_cons];by_cases h:l.head? =aa x
  ·rw[aC h];split
   ·have:size ([]:List V9)=0:=Z;lia
   ·have:size ([l.drop 1]:List V9)=(l.drop 1).length:=by simp[size,total]
    rw[this,gj];lia
  ·rw[aw h];split
   ·have:size ([]:List V9)=0:=Z;lia
   ·have:size ([l]:List V9)=l.length:=by simp[size,total]
    lia
theorem sj :∀{ls:List V9},(∃l∈ls,l.head? =aa x)->size (without x ls)<size ls
 |[],h=>by simp at h
 |l::ls,h=>by
  have my:=sk x ls;rw[wF,size_append,size_cons];by_cases e:l.head? =aa x
  ·have hp:0<l.length:=by cases l with|nil=>simp at e|cons a b=>simp
   rw[aC e];split
   ·have:size ([]:List V9)=0:=Z;lia
   ·have:size ([l.drop 1]:List V9)=(l.drop 1).length:=by simp[size,total]
    rw[this,gj];lia
  ·obtain⟨m,hm,em⟩:=h;have EC:m∈ls:=by
    rcases aF.mp hm with rfl|q
    ·exact absurd em e
    ·exact q
   have:=sj (ls:=ls) ⟨m,EC,em⟩;rw[aw e];split
   ·have:size ([]:List V9)=0:=Z;lia
   ·have:size ([l]:List V9)=l.length:=by simp[size,total]
    lia
theorem yM(h:candidate ls=aa x):∃l∈ls,l.head? =aa x:=by
 unfold candidate at h;have:=qd h;obtain⟨l,hl,e⟩:=xO.mp this;exact⟨l,hl,e⟩
theorem size_pos(f:Full ls)(h:ls≠[]):0<size ls:=by
 cases ls with
 |nil=>exact absurd Z h
 |cons l ls=>
  have:=f l (by simp);rw[size_cons]
  cases l with
  |nil=>exact absurd Z this
  |cons a b=>simp;lia
theorem qS(h:candidate ls=aa x):size (without x ls)<size ls:=sj (yM h)
theorem uO:∀{n:Nat}{ls:List V9},Full ls->size ls<=n->mergeRows n ls=if(run n ls).2=[]then aa (run n ls).1 else ab
 |0,ls,f,h=>by
  have:ls=[]:=by
   apply n8;intro q;have:=size_pos f q;lia
  subst this;rfl
 |n+1,ls,f,h=>by
  unfold mergeRows;by_cases hn:ls.isEmpty=ac
  ·have:ls=[]:=by simpa using hn
   subst this;rfl
  ·rw[aw hn];unfold run
   cases e:candidate ls with
   |none=>
    have:ls≠[]:=by simpa using hn
    simp[this]
   |some x=>
    simp only;rw[uO (i? x ls) (by have:=qS e;lia)];split<;>rfl
theorem Ec:∀{n:Nat}{ls:List V9},Full ls->size ls<=n->stuck n ls=(run n ls).2.filterMap λl=>l.head?
 |0,ls,f,h=>by
  have:ls=[]:=by
   apply n8;intro q;have:=size_pos f q;lia
  subst this;rfl
 |n+1,ls,f,h=>by
  unfold stuck;by_cases hn:ls.isEmpty=ac
  ·have:ls=[]:=by simpa using hn
   subst this;rfl
  ·rw[aw hn];unfold run
   cases e:candidate ls with
   |none=>rfl
   |some x=>exact Ec (i? x ls) (by have:=qS e;lia)
theorem za(h:l∈without x ls)(hy:y∈l):∃m∈ls,y∈m:=by
 unfold without at h;obtain⟨m,hm,e⟩:=aV.mp (bB.mp h).1;refine⟨m,hm,?_⟩;subst e;split at hy
 ·exact List.mem_of_mem_drop hy
 ·exact hy
theorem FN:∀{n:Nat}{ls:List V9}{x:Nat},x∈(run n ls).1->∃l∈ls,x∈l
 |0,ls,x,h=>by simp[run]at h
 |n+1,ls,x,h=>by
  unfold run at h
  cases e:candidate ls with
  |none=>rw[e]at h;simp at h
  |some y=>
   rw[e]at h;rcases aF.mp h with rfl|h
   ·obtain⟨l,hl,el⟩:=yM e;exact⟨l,hl,List.mem_of_head? el⟩
   ·obtain⟨l,hl,hx⟩:=FN h;exact za hl hx
theorem HL:∀{n:Nat}{ls:List V9},Full ls->Full (run n ls).2
 |0,ls,f=>f
 |n+1,ls,f=>by
  unfold run
  cases e:candidate ls with
  |none=>exact f
  |some x=>exact HL (i? x ls)
theorem b?(h:a_ w t=ac):1<=t/\t<=w.things.length:=by
 unfold a_ bh at h;simp only[aK,bne_iff_ne,ne_eq]at h;refine⟨om,?_⟩;apply n8;intro q;rw[bD,qf.mpr om]at h;simp at h
theorem cw  :t∈aM w↔a_ w t=ac:=by
 unfold aM;rw[bB,aV];constructor
 ·rintro⟨_,h⟩;exact h
 ·intro h;have:=b? h;exact⟨⟨t - 1,fi.mpr om,om⟩,h⟩
theorem J'(w:World):(aM w).Pairwise (· < ·):=by
 unfold aM;refine List.Pairwise.filter _ ?_;rw[dZ];exact JF.imp (by intro a b h;lia)
theorem v1(w:World):(aM w).Nodup:=(J' w).imp (by intro a b h;lia)
theorem eA  :x∈held w t↔a_ w x=ac/\(bh w x).holder=t:=by
 unfold held;rw[bB,cw,beq_iff_eq]
theorem TZ(w:World)(t:Nat):(held w t).Nodup:=(v1 w).filter _
structure Tree(w:World):Prop where
 hold:∀t,a_ w t=ac->(bh w t).holder=0\/a_ w (bh w t).holder=ac
 Ln:∃rk:Nat->Nat,∀t,a_ w t=ac->(bh w t).holder≠0->rk (bh w t).holder<rk t
theorem filter_lt :∀{l:V9},(∀x,p x=ac->q x=ac)->(∃x∈l,q x=ac/\p x=ae)->(l.filter p).length<(l.filter q).length
 |[],_,h=>by simp at h
 |a::l,hi,h=>by
  have my:(l.filter p).length<=(l.filter q).length:=by
   clear h
   induction l with
   |nil=>simp
   |cons b l ih=>
    rw[bH,bH]
    cases e:p b with
    |true=>simp[hi b e];exact ih
    |false=>cases q b<;>simp<;>lia
  rw[bH,bH]
  cases e:p a with
  |true=>
   obtain⟨x,hx,h1,h2⟩:=h;have Ci:x∈l:=by
    rcases aF.mp hx with rfl|q
    ·rw[e]at h2;cases h2
    ·exact q
   have:=filter_lt hi ⟨x,Ci,h1,h2⟩;simp[hi a e];exact this
  |false=>
   cases e2:q a with
   |true=>simp;lia
   |false=>
    obtain⟨x,hx,h1,h2⟩:=h;have Ci:x∈l:=by
     rcases aF.mp hx with rfl|q
     ·rw[e2]at h1;cases h1
     ·exact q
    simpa using filter_lt hi ⟨x,Ci,h1,h2⟩
structure Rk(w:World)(rk:Nat->Nat):Prop where
 zero:rk 0=0
 one:∀t,a_ w t=ac->1<=rk t
 le:∀t,a_ w t=ac->rk t<=w.things.length
 lt:∀t,a_ w t=ac->rk (bh w t).holder<rk t
theorem Tree.rank(T:Tree w):∃rk,Rk w rk:=by
 obtain⟨rk,h⟩:=T.Ln
 let r:Nat->Nat:=λt=>if t=0 then 0 else((aM w).filter λu=>decide (rk u<=rk t)).length
 have r1:∀t,a_ w t=ac->r t=((aM w).filter λu=>decide (rk u<=rk t)).length:=λt ht=>by
  have:=b? ht;show(if t=0 then 0 else _)=_;rw[aw om]
 refine⟨r,Z,λt ht=>?_,λt ht=>?_,λt ht=>?_⟩
 ·rw[r1 t ht];exact s_ (bB.mpr ⟨cw.mpr ht,by simp⟩)
 ·rw[r1 t ht];refine aB (bx _ _) ?_;unfold aM;refine aB (bx _ _) ?_;simp
 ·rcases T.hold t ht with e|hh
  ·rw[e,r1 t ht];exact s_ (bB.mpr ⟨cw.mpr ht,by simp⟩)
  ·have iQ:(bh w t).holder≠0:=by have:=b? hh;lia
   have gO:=h t ht iQ;rw[r1 t ht,r1 _ hh];refine filter_lt (λx hx=>?_) ⟨t,cw.mpr ht,by simp,by simpa using gO⟩;simp at hx ⊢;lia
section
variable{w:World}{rk:Nat->Nat}
theorem Rk.held(R:Rk w rk)(h:x∈held w t):rk t<rk x:=by
 obtain⟨h1,h2⟩:=eA.mp h;have:=R.lt x h1;rw[h2]at this;exact this
theorem Rk.stab(R:Rk w rk):∀(n t:Nat),w.things.length<=rk t+n->deep w (n+1) t=deep w n t
 |0,t,h=>by
  have e:cf w t=[]:=by
   apply zX.mpr;intro x hx;have:=R.held hx;have:=R.le x (eA.mp hx).1;lia
  show(cf w t).flatMap _=[];rw[e];rfl
 |n+1,t,h=>by
  show(cf w t).flatMap (λx=>x::deep w (n+1) x)=(cf w t).flatMap (λx=>x::deep w n x);have key:∀x∈cf w t,(x::deep w (n+1) x)=(x::deep w n x):=λx hx=>by
   rw[R.stab n x (by have:=R.held hx;lia)]
  rw[sh,sh,cg key]
end
theorem Tree.nS(T:Tree w)(t:Nat):inside w t=(held w t).flatMap λx=>x::inside w x:=by
 obtain⟨rk,R⟩:=T.rank;unfold inside;rw[<-R.stab w.things.length t om];rfl
theorem Tree.dS(T:Tree w) :x∈inside w t↔∃y,y∈held w t/\(x=y\/x∈inside w y):=by
 rw[T.nS t,List.mem_flatMap];constructor
 ·rintro⟨y,hy,h⟩;exact⟨y,hy,aF.mp h⟩
 ·rintro⟨y,hy,h⟩;exact⟨y,hy,aF.mpr h⟩
theorem Rk.chain(R:Rk w rk)(T:Tree w):∀(n t:Nat),a_ w t=ac->rk t<=n+1->chain w (n+1) t=chain w n t
 |0,t,ht,h=>by
  have e:(bh w t).holder=0:=by
   rcases T.hold t ht with e|hh
   ·exact e
   ·have:=R.lt t ht;have:=R.one _ hh;lia
  show(if(bh w t).holder=0 then []else _)=[];rw[aC e]
 |n+1,t,ht,h=>by
  show(if(bh w t).holder=0 then []else(bh w t).holder::U4 w (n+1) (bh w t).holder)=(if(bh w t).holder=0 then []else(bh w t).holder::U4 w n (bh w t).holder);by_cases e:(bh w t).holder=0
  ·rw[aC e,aC e]
  ·rw[aw e,aw e,R.chain T n _ ((T.hold t ht).resolve_left e) (by have:=R.lt t ht;lia)]
theorem Tree.iE(T:Tree w)(ht:a_ w t=ac):holders w t=if(bh w t).holder=0 then []else(bh w t).holder::holders w (bh w t).holder:=by
 obtain⟨rk,R⟩:=T.rank;unfold holders;rw[<-R.chain T w.things.length t ht (by have:=R.le t ht;lia)];rfl
theorem Tree.lj(T:Tree w):∀{x t:Nat},x∈inside w t->a_ w x=ac:=by
 obtain⟨rk,R⟩:=T.rank;have key:∀(n:Nat)(x t:Nat),w.things.length<=rk t+n->x∈inside w t->a_ w x=ac:=by
  intro n
  induction n with
  |zero=>
   intro x t h hx;obtain⟨y,hy,_⟩:=T.dS.mp hx;have:=R.held hy;have:=R.le y (eA.mp hy).1;lia
  |succ n ih=>
   intro x t h hx;obtain⟨y,hy,hx⟩:=T.dS.mp hx;rcases hx with rfl|hx
   ·exact(eA.mp hy).1
   ·exact ih x y (by have:=R.held hy;lia) hx
 intro x t hx;exact key w.things.length x t om hx
theorem Tree.m9(T:Tree w):∀{x y t:Nat},y∈inside w t->x∈held w y->x∈inside w t:=by
 obtain⟨rk,R⟩:=T.rank;have key:∀(n:Nat)(x y t:Nat),w.things.length<=rk t+n->y∈inside w t->x∈cf w y->x∈inside w t:=by
  intro n
  induction n with
  |zero=>
   intro x y t h hy _;obtain⟨z,hz,_⟩:=T.dS.mp hy;have:=R.held hz;have:=R.le z (eA.mp hz).1;lia
  |succ n ih=>
   intro x y t h hy hx;obtain⟨z,hz,hy⟩:=T.dS.mp hy;refine T.dS.mpr ⟨z,hz,.inr ?_⟩;rcases hy with rfl|hy
   ·exact T.dS.mpr ⟨x,hx,.inl Z⟩
   ·exact ih x y z (by have:=R.held hz;lia) hy hx
 intro x y t hy hx;exact key w.things.length x y t om hy hx
theorem Tree.Ga(T:Tree w)(hy:y∈inside w t)(hx:x∈inside w y):x∈inside w t:=by
 obtain⟨rk,R⟩:=T.rank;have key:∀(n:Nat)(y:Nat),w.things.length<=rk y+n->y∈inside w t->x∈inside w y->x∈inside w t:=by
  intro n
  induction n with
  |zero=>
   intro y h hy hx;obtain⟨z,hz,_⟩:=T.dS.mp hx;have:=R.held hz;have:=R.le z (eA.mp hz).1;lia
  |succ n ih=>
   intro y h hy hx;obtain⟨z,hz,hx⟩:=T.dS.mp hx;have hzt:=T.m9 hy hz;rcases hx with rfl|hx
   ·exact hzt
   ·exact ih z (by have:=R.held hz;lia) hzt hx
 exact key w.things.length y om hy hx
theorem Tree.Ge(T:Tree w)(ht:a_ w t=ac)(h:p∈holders w t):a_ w p=ac:=by
 obtain⟨rk,R⟩:=T.rank;have key:∀(n:Nat)(t:Nat),rk t<=n->a_ w t=ac->p∈holders w t->a_ w p=ac:=by
  intro n
  induction n with
  |zero=>intro t h ht _;have:=R.one t ht;lia
  |succ n ih=>
   intro t h ht hp;rw[T.iE ht]at hp;split at hp
   ·simp at hp
   ·rename_i e;have hh:=(T.hold t ht).resolve_left e;rcases aF.mp hp with rfl|hp
    ·exact hh
    ·exact ih _ (by have:=R.lt t ht;lia) hh hp
 exact key (rk t) t (aS _) ht h
theorem Tree.jO(T:Tree w)(ht:a_ w t=ac)(h:p∈holders w t):t∈inside w p:=by
 obtain⟨rk,R⟩:=T.rank;have key:∀(n:Nat)(t:Nat),rk t<=n->a_ w t=ac->p∈holders w t->t∈inside w p:=by
  intro n
  induction n with
  |zero=>intro t h ht _;have:=R.one t ht;lia
  |succ n ih=>
   intro t h ht hp;rw[T.iE ht]at hp;split at hp
   ·simp at hp
   ·rename_i e;have hh:=(T.hold t ht).resolve_left e;have JJ:t∈cf w (bh w t).holder:=eA.mpr ⟨ht,Z⟩;rcases aF.mp hp with rfl|hp
    ·exact T.dS.mpr ⟨t,JJ,.inl Z⟩
    ·exact T.m9 (ih _ (by have:=R.lt t ht;lia) hh hp) JJ
 exact key (rk t) t (aS _) ht h
theorem Tree.DD(T:Tree w)(ht:a_ w t=ac)(hy:y∈holders w t)(hp:p∈holders w y):p∈holders w t:=by
 obtain⟨rk,R⟩:=T.rank;have key:∀(n:Nat)(t:Nat),rk t<=n->a_ w t=ac->y∈holders w t->p∈holders w t:=by
  intro n
  induction n with
  |zero=>intro t h ht _;have:=R.one t ht;lia
  |succ n ih=>
   intro t h ht hy;rw[T.iE ht]at hy ⊢;split at hy
   ·simp at hy
   ·rename_i e;rw[aw e];have hh:=(T.hold t ht).resolve_left e;rcases aF.mp hy with rfl|hy
    ·exact aD _ hp
    ·exact aD _ (ih _ (by have:=R.lt t ht;lia) hh hy)
 exact key (rk t) t (aS _) ht hy
theorem Tree.lZ(T:Tree w)(h0:p≠0)(h:t∈inside w p):p∈holders w t:=by
 obtain⟨rk,R⟩:=T.rank;have one:∀{x p:Nat},p≠0->x∈cf w p->p∈holders w x:=λ{x p} h0 hx=>by
  obtain⟨h1,h2⟩:=eA.mp hx;rw[T.iE h1,h2,aw h0];simp
 have key:∀(n:Nat)(p:Nat),w.things.length<=rk p+n->p≠0->t∈inside w p->p∈holders w t:=by
  intro n
  induction n with
  |zero=>
   intro p h _ ht;obtain⟨z,hz,_⟩:=T.dS.mp ht;have:=R.held hz;have:=R.le z (eA.mp hz).1;lia
  |succ n ih=>
   intro p h h0 ht;have yD:=T.lj ht;obtain⟨z,hz,ht⟩:=T.dS.mp ht;rcases ht with rfl|ht
   ·exact one h0 hz
   ·have z0:z≠0:=by have:=b? (eA.mp hz).1;lia
    exact T.DD yD (ih z (by have:=R.held hz;lia) z0 ht) (one h0 hz)
 exact key w.things.length p om h0 h
theorem Tree.F?(T:Tree w)(ht:a_ w t=ac):t∈inside w 0:=by
 obtain⟨rk,R⟩:=T.rank;have key:∀(n:Nat)(t:Nat),rk t<=n->a_ w t=ac->t∈inside w 0:=by
  intro n
  induction n with
  |zero=>intro t h ht;have:=R.one t ht;lia
  |succ n ih=>
   intro t h ht;have hx:t∈cf w (bh w t).holder:=eA.mpr ⟨ht,Z⟩;rcases T.hold t ht with e|hh
   ·rw[e]at hx;exact T.dS.mpr ⟨t,hx,.inl Z⟩
   ·exact T.m9 (ih _ (by have:=R.lt t ht;lia) hh) hx
 exact key (rk t) t (aS _) ht
theorem Rk.inside(R:Rk w rk)(T:Tree w):∀{x t:Nat},x∈inside w t->rk t<rk x:=by
 have key:∀(n:Nat)(x t:Nat),w.things.length<=rk t+n->x∈bG w t->rk t<rk x:=by
  intro n
  induction n with
  |zero=>
   intro x t h hx;obtain⟨y,hy,_⟩:=T.dS.mp hx;have:=R.held hy;have:=R.le y (eA.mp hy).1;lia
  |succ n ih=>
   intro x t h hx;obtain⟨y,hy,hx⟩:=T.dS.mp hx;have hl:=R.held hy;rcases hx with rfl|hx
   ·exact hl
   ·have:=ih x y om hx;lia
 intro x t hx;exact key w.things.length x t om hx
theorem Tree.W0(T:Tree w)(ht:a_ w t=ac)(ha:a∈holders w t)(hb:b∈holders w t):a=b\/a∈holders w b\/b∈holders w a:=by
 obtain⟨rk,R⟩:=T.rank;have key:∀(n:Nat)(t:Nat),rk t<=n->a_ w t=ac->a∈holders w t->b∈holders w t->a=b\/a∈holders w b\/b∈holders w a:=by
  intro n
  induction n with
  |zero=>intro t h ht;have:=R.one t ht;lia
  |succ n ih=>
   intro t h ht ha hb;rw[T.iE ht]at ha hb;split at ha
   ·simp at ha
   ·rename_i e;rw[aw e]at hb;have hh:=(T.hold t ht).resolve_left e;rcases aF.mp ha with rfl|ha
    ·rcases aF.mp hb with rfl|hb
     ·exact .inl Z
     ·exact .inr (.inr hb)
    ·rcases aF.mp hb with rfl|hb
     ·exact .inr (.inl ha)
     ·exact ih _ (by have:=R.lt t ht;lia) hh ha hb
 exact key (rk t) t (aS _) ht ha hb
theorem Tree.Eu(T:Tree w)(t:Nat):(inside w t).Nodup:=by
 obtain⟨rk,R⟩:=T.rank;have key:∀(n:Nat)(t:Nat),w.things.length<=rk t+n->(bG w t).Nodup:=by
  intro n
  induction n with
  |zero=>
   intro t h;have:bG w t=[]:=by
    apply zX.mpr;intro x hx;obtain⟨y,hy,_⟩:=T.dS.mp hx;have:=R.held hy;have:=R.le y (eA.mp hy).1;lia
   rw[this];simp
  |succ n ih=>
   intro t h;rw[T.nS];unfold xR;rw[List.pairwise_flatMap];refine⟨λy hy=>?_,?_⟩
   ·refine bc.mpr ⟨λx hx e=>?_,ih y (by have:=R.held hy;lia)⟩;subst e;have:=R.inside T hx;lia
   ·have hp:=TZ w t;unfold xR at hp;refine hp.imp_of_mem ?_;intro a b ha hb iQ x hx y hy e;subst e;have a0:a≠0:=by have:=b? (eA.mp ha).1;lia
    have b0:b≠0:=by have:=b? (eA.mp hb).1;lia
    have ra:=R.held ha;have rb:=R.held hb;have no:∀{a b:Nat},a∈cf w t->b∈cf w t->¬a∈bG w b:=λ{a b} ha hb q=>by
     have hb0:b≠0:=by have:=b? (eA.mp hb).1;lia
     have hh:=T.lZ hb0 q;have Sv:=eA.mp ha;rw[T.iE Sv.1,Sv.2]at hh;split at hh
     ·simp at hh
     ·have rb:=R.held hb;rcases aF.mp hh with e|hh
      ·subst e;lia
      ·have ht:a_ w t=ac:=by
        rcases T.hold a Sv.1 with e|e
        ·rw[Sv.2]at e;contradiction
        ·rw[Sv.2]at e;exact e
       have:=R.inside T (T.jO ht hh);lia
    rcases aF.mp hx with rfl|hx
    ·rcases aF.mp hy with e|hy
     ·exact iQ e
     ·exact no ha hb hy
    ·rcases aF.mp hy with e|hy
     ·subst e;exact no hb ha hx
     ·have hxh:=T.lj hx;rcases T.W0 hxh (T.lZ a0 hx) (T.lZ b0 hy)with e|e|e
      ·exact iQ e
      ·exact no hb ha (T.jO (eA.mp hb).1 e)
      ·exact no ha hb (T.jO (eA.mp ha).1 e)
 exact key w.things.length t om
theorem Tree.PN(T:Tree w)(t:Nat):t∉inside w t:=λh=>by
 obtain⟨rk,R⟩:=T.rank;have:=R.inside T h;lia
theorem Tree.L7(T:Tree w)(t:Nat):(t::inside w t).Nodup:=cc.mpr ⟨T.PN t,T.Eu t⟩
theorem Tree.NS(T:Tree w)(h:x∈inside w t):(bh w x).holder=t\/(bh w x).holder∈inside w t:=by
 obtain⟨rk,R⟩:=T.rank;have key:∀(n:Nat)(t:Nat),w.things.length<=rk t+n->x∈bG w t->(bh w x).holder=t\/(bh w x).holder∈bG w t:=by
  intro n
  induction n with
  |zero=>
   intro t h hx;obtain⟨y,hy,_⟩:=T.dS.mp hx;have:=R.held hy;have:=R.le y (eA.mp hy).1;lia
  |succ n ih=>
   intro t h hx;obtain⟨y,hy,hx⟩:=T.dS.mp hx;have hyi:y∈bG w t:=T.dS.mpr ⟨y,hy,.inl Z⟩;rcases hx with rfl|hx
   ·exact .inl (eA.mp hy).2
   ·rcases ih y (by have:=R.held hy;lia) hx with e|e
    ·rw[e];exact .inr hyi
    ·exact .inr (T.Ga hyi e)
 exact key w.things.length t om h
theorem t_  :∀{l:List (Nat×Int)},cK b (lu a x l)=if b=a then aa x else cK b l
 |[]=>by
  unfold lu cK;by_cases h:b=a
  ·simp[h]
  ·have:(a==b)=ae:=by simp;lia
   simp[this,h]
 |p::r=>by
  unfold lu;split
  ·unfold cK;rw[cN];by_cases h:b=a
   ·simp[h]
   ·have:(a==b)=ae:=by simp;lia
    simp[this,h]
  ·split
   ·rename_i h1 h2;unfold cK;rw[cN,cN];by_cases h:b=a
    ·simp[h]
    ·have e1:(a==b)=ae:=by simp;lia
     have e2:(p.1==b)=ae:=by simp;lia
     simp[e1,e2,h]
   ·rename_i h1 h2;have ih:=t_ (a:=a) (b:=b) (x:=x) (l:=r);unfold cK at ih ⊢;rw[cN,cN];by_cases h:p.1=b
    ·have e:(p.1==b)=ac:=by simp[h]
     have h':¬b=a:=om;simp[e,h']
    ·have e:(p.1==b)=ae:=by simpa using h
     simp only[e];exact ih
theorem uL  :cK b (rh a l)=if b=a then ab else cK b l:=by
 unfold cK rh
 induction l with
 |nil=>simp
 |cons p r ih=>
  rw[bH];by_cases h:p.1=a
  ·rw[aw (by simp[h]),ih,cN];by_cases hb:b=a
   ·simp[hb]
   ·have:(p.1==b)=ae:=by simp;lia
    simp[hb,this]
  ·rw[aC (by simpa using h),cN,cN];by_cases hb:p.1=b
   ·have e:(p.1==b)=ac:=by simp[hb]
    have h':¬b=a:=om;simp[e,h']
   ·have e:(p.1==b)=ae:=by simpa using hb
    simp only[e];exact ih
structure DQ(l:List (Nat×Int)):Prop where
 up:l.Pairwise (λp q=>p.1<q.1)
 le:∀p∈l,p.1<=15
theorem ug   :∀{l:List (Nat×Int)},p∈lu a x l->p=(a,x)\/p∈l
 |[],h=>by simp[lu]at h;exact .inl h
 |q::r,h=>by
  unfold lu at h;split at h
  ·rcases aF.mp h with e|h
   ·exact .inl e
   ·exact .inr h
  ·split at h
   ·rcases aF.mp h with e|h
    ·exact .inl e
    ·exact .inr (aD _ h)
   ·rcases aF.mp h with e|h
    ·exact .inr (by simp[e])
    ·rcases ug h with e|h
     ·exact .inl e
     ·exact .inr (aD _ h)
theorem DQ.nil:DQ []:=⟨kF,by simp⟩
theorem DQ.put(h:DQ l)(ha:a<=15):DQ (lu a x l):=by
 refine⟨?_,λp hp=>?_⟩
 ·have:=h.up;clear h
  induction l with
  |nil=>simp[lu]
  |cons q r ih=>
   have hq:=(bc.mp this).1;have hr:=(bc.mp this).2;unfold lu;split
   ·rename_i h1;refine bc.mpr ⟨λy hy=>?_,this⟩;rcases aF.mp hy with rfl|hy
    ·exact h1
    ·have:=hq y hy;show a<y.1;lia
   ·split
    ·rename_i h1 h2;refine bc.mpr ⟨λy hy=>?_,hr⟩;have:=hq y hy;show a<y.1;lia
    ·rename_i h1 h2;refine bc.mpr ⟨λy hy=>?_,ih hr⟩;rcases ug hy with rfl|hy
     ·show q.1<a;lia
     ·exact hq y hy
 ·rcases ug hp with rfl|hp
  ·exact ha
  ·exact h.le p hp
theorem DQ.drop(h:DQ l) :DQ (rh a l):=
 ⟨h.up.filter _,λp hp=>h.le p (bB.mp hp).1⟩
theorem DQ.some(_:DQ l)(e:cK a l=aa x):(a,x)∈l:=by
 unfold cK at e;obtain⟨p,hp,rfl⟩:=l8.mp e;have h1:=qd hp;have h2:=SW hp;have:p.1=a:=by simpa using h2
 subst this;exact h1
theorem DQ.mem(h:DQ l)(hp:p∈l):cK p.1 l=Option.some p.2:=by
 have:=h.up;clear h
 induction l with
 |nil=>simp at hp
 |cons q r ih=>
  unfold cK;rw[cN];rcases aF.mp hp with rfl|hp
  ·simp
  ·have:=(bc.mp this).1 p hp;have e:(q.1==p.1)=ae:=by simp;lia
   rw[e];exact ih hp (bc.mp ‹_›).2
theorem x_(ht:1<=t)(hu:1<=u)(hl:t<=w.things.length):bh (oX w t f) u=if u=t then f (bh w t)else bh w u:=by
 unfold bh oX;simp only[bD];rw[Ly];by_cases h:u=t
 ·subst h;simp only[if_true];rw[aR om];simp
 ·have e:¬(t - 1=u - 1):=om;rw[aw h];simp[e]
theorem k?   :(oX w t f).things.length=w.things.length:=by
 unfold oX;simp
theorem kind_len   :(OV w k f).kinds.length=w.kinds.length:=by
 unfold OV;simp
theorem QM(hk:1<=k)(hu:1<=u)(hl:k<=w.kinds.length):cS (OV w k f) u=if u=k then f (cS w k)else cS w u:=by
 unfold cS OV;simp only[bD];rw[Ly];by_cases h:u=k
 ·subst h;simp only[if_true];rw[aR om];simp
 ·have e:¬(k - 1=u - 1):=om;rw[aw h];simp[e]
theorem Ms(h:(bh w' t).here=(bh w t).here):a_ w' t=a_ w t:=by
 unfold a_;rw[h]
def kG(w:World)(attrs:V9)(n:Nat):Option xC:=if a_ w n=ac then fK w attrs n else ab
theorem HN(h:fK w attrs t=aa r):∃p:xC,r=p++[(t:Int)]:=by
 unfold fK at h;obtain⟨p,_,e⟩:=l8.mp h;exact⟨p,e.symm⟩
theorem tX(w:World)(attrs:V9):Ends (kG w attrs):=λn r h=>by
 unfold kG at h;split at h
 ·exact HN h
 ·cases h
theorem Nz(h:∀a∈attrs,eT w' t a=eT w t a):fK w' attrs t=fK w attrs t:=by
 unfold fK;have:attrs.mapM (eT w' t)=attrs.mapM (eT w t):=by
  induction attrs with
  |nil=>rfl
  |cons a r ih=>
   rw[ml,ml,h a (by simp),ih λb hb=>h b (aD _ hb)]
 rw[this]
theorem wG(ho:(bh w' t).own=(bh w t).own)(hk:(bh w' t).kind=(bh w t).kind)(hs:w'.kinds=w.kinds):eT w' t a=eT w t a:=by
 have e:∀k,cS w' k=cS w k:=λk=>by unfold cS;rw[hs]
 unfold eT ft;simp only[ho,hk,e]
theorem Iq(c:Canon ρ i.rows)(e:Ends ρ)(h:ρ t=kG old i.attrs t):Canon (gQ ρ t (kG new i.attrs t)) (moved old new t i).rows:=by
 have h1:Canon (gQ ρ t ab) (match kG old i.attrs t with
   |none=>i.rows
   |some r=>i.rows.filter λx=>x != r):=by
  cases q:kG old i.attrs t with
  |none=>exact c.Ib (by rw[h,q])
  |some r=>exact c.out e (by rw[h,q])
 show Canon _ (match kG new i.attrs t with
   |none=>(match kG old i.attrs t with
    |none=>i.rows
    |some r=>i.rows.filter λx=>x != r)
   |some r=>nV r (match kG old i.attrs t with
    |none=>i.rows
    |some r=>i.rows.filter λx=>x != r))
 cases q:kG new i.attrs t with
 |none=>exact h1
 |some r=>
  have:=h1.put (t:=t) (r:=r) (by simp[gQ]);rw[HU]at this;exact this
theorem v9(old new:World):∀(ts:V9)(i:dP),(ts.foldl (λi t=>moved old new t i) i).attrs=i.attrs
 |[],i=>rfl
 |t::ts,i=>by rw[dB,v9 old new ts];rfl
theorem BU :∀{ts:V9}{i:dP}{ρ:Nat->Option xC},ts.Nodup->Canon ρ i.rows->Ends ρ->(∀t∈ts,ρ t=kG old i.attrs t)->
  Canon (λn=>if n∈ts then kG new i.attrs n else ρ n) (ts.foldl (λi t=>moved old new t i) i).rows
 |[],i,ρ,_,c,_,_=>by simpa using c
 |t::ts,i,ρ,hn,c,e,h=>by
  have Q1:=cc.mp hn;have c1:=Iq (new:=new) c e (h t (by simp));have e1:Ends (gQ ρ t (kG new i.attrs t)):=e.put λr q=>tX new i.attrs t r q;have c2:=BU (old:=old) (new:=new) (ts:=ts) (i:=moved old new t i) Q1.2 c1 e1 (λu hu=>by
   unfold gQ;rw[aw (λq=>Q1.1 (by rw[<-q];exact hu))];exact h u (aD _ hu))
  rw[dB];have q:(λn=>if n∈t::ts then kG new i.attrs n else ρ n)=(λn=>if n∈ts then kG new (moved old new t i).attrs n else gQ ρ t (kG new i.attrs t) n):=by
   funext n;by_cases h1:n∈ts
   ·rw[aC h1,aC (aD _ h1)];rfl
   ·rw[aw h1];by_cases h2:n=t
    ·subst h2;rw[aC (by simp)];simp[gQ]
    ·rw[aw (by simp[h1,h2])];simp[gQ,h2]
  rw[q];exact c2
structure XU(w:World)(l:List dP):Prop where
 len:l.length<=6
 at_:∀i∈l,1<=i.attrs.length/\i.attrs.length<=3/\(∀a∈i.attrs,a<=15)/\Canon (kG w i.attrs) i.rows
theorem XU.kept(h:XU old l)(hn:ts.Nodup)(hr:∀(attrs:V9) (t:Nat),t∉ts->kG new attrs t=kG old attrs t):XU new (kept old new ts l):=by
 refine⟨by unfold uB;rw[af];exact h.len,λi hi=>?_⟩;unfold uB at hi;obtain⟨j,hj,rfl⟩:=aV.mp hi;obtain⟨h1,h2,h3,h4⟩:=h.at_ j hj;rw[v9];refine⟨h1,h2,h3,?_⟩;have:=BU (old:=old) (new:=new) (i:=j) hn h4 (tX old j.attrs) (λ_ _=>rfl);have q:(λn=>if n∈ts then kG new j.attrs n else kG old j.attrs n)=kG new j.attrs:=by
  funext n;by_cases hn:n∈ts
  ·rw[aC hn]
  ·rw[aw hn,hr j.attrs n hn]
 rw[q]at this;exact this
theorem C0(w:World)(attrs:V9):Canon (kG w attrs) (scanned w attrs):=by
 have key:∀(ts:V9)(l:List xC),DP l->DP ((ts.filterMap (fK w attrs)).foldl (λl r=>nV r l) l)/\∀r,r∈(ts.filterMap (fK w attrs)).foldl (λl r=>nV r l) l↔r∈l\/∃t∈ts,fK w attrs t=aa r:=by
  intro ts
  induction ts with
  |nil=>intro l h;exact⟨h,by simp⟩
  |cons t ts ih=>
   intro l h;rw[c9]
   cases e:fK w attrs t with
   |none=>
    obtain⟨a,b⟩:=ih l h;refine⟨a,λr=>?_⟩;simp only;rw[b r];constructor
    ·rintro(h|⟨u,hu,h⟩)
     ·exact .inl h
     ·exact .inr ⟨u,aD _ hu,h⟩
    ·rintro(h|⟨u,hu,h⟩)
     ·exact .inl h
     ·rcases aF.mp hu with rfl|hu
      ·rw[e]at h;cases h
      ·exact .inr ⟨u,hu,h⟩
   |some x=>
    simp only[dB];obtain⟨a,b⟩:=ih (nV x l) (vK h);refine⟨a,λr=>?_⟩;rw[b r,rT];constructor
    ·rintro((h|h)|⟨u,hu,h⟩)
     ·exact .inr ⟨t,by simp,by rw[e,h]⟩
     ·exact .inl h
     ·exact .inr ⟨u,aD _ hu,h⟩
    ·rintro(h|⟨u,hu,h⟩)
     ·exact .inl (.inr h)
     ·rcases aF.mp hu with rfl|hu
      ·rw[e]at h;injection h with h;exact .inl (.inl h.symm)
      ·exact .inr ⟨u,hu,h⟩
 obtain⟨a,b⟩:=key (aM w) [] kF;refine⟨a,λr=>?_⟩;unfold scanned;rw[b r];simp only[gY,false_or];unfold kG;constructor
 ·rintro⟨t,ht,h⟩;exact⟨t,by rw[aC (cw.mp ht)];exact h⟩
 ·rintro⟨t,h⟩;split at h
  ·rename_i ht;exact⟨t,cw.mpr ht,h⟩
  ·cases h
structure p8(w:World):Prop where
 kl:w.kinds.length<=30
 tl:w.things.length<=200
 ord:∀k,1<=k->k<=w.kinds.length->∀x∈(cS w k).order,1<=x/\x<=w.kinds.length
 WQ:∀k,1<=k->k<=w.kinds.length->(cS w k).order.Nodup
 Gq:∀k,1<=k->k<=w.kinds.length->DQ (cS w k).defaults
 knd:∀t,a_ w t=ac->1<=(bh w t).kind/\(bh w t).kind<=w.kinds.length
 own:∀t,a_ w t=ac->DQ (bh w t).own
 tree:Tree w
theorem m8{l r:V9}(h:l.Nodup)(hs:∀x∈l,x∈r):l.length<=r.length:=by
 induction l generalizing r with
 |nil=>simp
 |cons a l ih=>
  have hn:=cc.mp h;have ha:=hs a (by simp);have:=ih (r:=r.erase a) hn.2 (λx hx=>by
   have iQ:x≠a:=λe=>hn.1 (by rw[<-e];exact hx);exact(List.mem_erase_of_ne iQ).mpr (hs x (aD _ hx)))
  rw[List.length_erase_of_mem ha]at this;have hp:=s_ ha;rw[aJ];lia
theorem p8.Bf{w:World}(h:p8 w){k:Nat}(h1:1<=k)(h2:k<=w.kinds.length):(cS w k).order.length<=30:=by
 have:=m8 (h.WQ k h1 h2) (r:=(cF w.kinds.length).map (· +1)) λx hx=>by
  have:=h.ord k h1 h2 x hx;exact aV.mpr ⟨x - 1,fi.mpr om,om⟩
 rw[af,fO]at this;have:=h.kl;lia
theorem gM(w:World):(aM w).length<=w.things.length:=by
 unfold aM;refine aB (bx _ _) ?_;simp
theorem oF{w:World}(T:Tree w)(t:Nat):(inside w t).length<=w.things.length:=
 aB (m8 (T.Eu t) λ_ hx=>cw.mpr (T.lj hx)) (gM w)
theorem KD(T:Tree w)(ht:a_ w t=ac):(holders w t).Nodup:=by
 obtain⟨rk,R⟩:=T.rank;have key:∀(n t:Nat),rk t<=n->a_ w t=ac->(holders w t).Nodup:=by
  intro n
  induction n with
  |zero=>intro t h ht;have:=R.one t ht;lia
  |succ n ih=>
   intro t h ht;rw[T.iE ht];split
   ·simp
   ·rename_i e;have hh:=(T.hold t ht).resolve_left e;refine cc.mpr ⟨λq=>?_,ih _ (by have:=R.lt t ht;lia) hh⟩;have:=R.inside T (T.jO hh q);lia
 exact key (rk t) t (aS _) ht
theorem uq{w:World}(T:Tree w){t:Nat}(ht:a_ w t=ac):(holders w t).length<=w.things.length:=
 aB (m8 (KD T ht) λ_ hx=>cw.mpr (T.Ge ht hx)) (gM w)
theorem vB(h:blocked x ls=ae)(hl:l∈ls):x∉l.drop 1:=by
 unfold blocked at h;have:=ql.mp h l hl;simpa using this
theorem Oe(h:candidate ls=aa x):blocked x ls=ae:=by
 unfold candidate at h;have:=SW h;simpa using this
theorem J8(h:candidate ls=aa x)(hl:l∈without x ls):x∉l:=by
 have hb:=Oe h;unfold without at hl;obtain⟨m,hm,e⟩:=aV.mp (bB.mp hl).1;subst e;split
 ·exact vB hb hm
 ·rename_i iQ;intro hx
  cases m with
  |nil=>simp at hx
  |cons a r=>
   rcases aF.mp hx with rfl|hx
   ·simp at iQ
   ·exact vB hb hm (by simpa using hx)
theorem Ek:∀{n:Nat}{ls:List V9},(run n ls).1.Nodup
 |0,ls=>by simp[run]
 |n+1,ls=>by
  unfold run
  cases e:candidate ls with
  |none=>simp
  |some x=>
   refine cc.mpr ⟨λh=>?_,Ek⟩;obtain⟨l,hl,hx⟩:=FN h;exact J8 e hl hx
def keyOf(w:World)(by_:List (Nat×Bool))(t:Nat):xC:=
 (by_.flatMap λb=>match eT w t b.1 with
  |none=>[1,0]
  |some v=>[0,if b.2=ac then -v else v])++[(t:Int)]
theorem BA(w:World)(b:Nat×Bool)(r:List (Nat×Bool))(t:Nat):keyOf w (b::r) t=(match eT w t b.1 with
  |none=>[1,0]
  |some v=>[0,if b.2=ac then -v else v])++keyOf w r t:=by
 unfold keyOf;rw[gC,fP]
theorem yO(w:World):∀(by_:List (Nat×Bool))(t u:Nat),ahead w by_ t u=dQ (keyOf w by_ t) (keyOf w by_ u)
 |[],t,u=>by
  simp[keyOf,ahead,dQ]
 |(a,down)::r,t,u=>by
  have ih:=yO w r t u;rw[BA,BA];unfold ahead
  cases e1:eT w t a with
  |none=>
   cases e2:eT w u a with
   |none=>simp[dQ,ih]
   |some y=>simp[dQ]
  |some x=>
   cases e2:eT w u a with
   |none=>simp[dQ]
   |some y=>
    simp only[zY,ly,dQ];by_cases e:x=y
    ·subst e;simp[ih]
    ·rw[aw e]
     cases down with
     |false=>simp[e]
     |true=>
      have:(-x== -y)=ae:=by simp;lia
      simp[this];by_cases h:x<y
      ·simp[h];lia
      ·simp[h];lia
theorem ID(w:World)(by_:List (Nat×Bool))(t:Nat):(keyOf w by_ t).getLast? =aa (t:Int):=by
 unfold keyOf;simp
theorem Mi(h:keyOf w by_ t=keyOf w by_ u):t=u:=by
 have:=congrArg List.getLast? h;rw[ID,ID]at this;have:=bN this;lia
theorem mem_insert   :∀{l:V9},x∈jn w by_ t l↔x=t\/x∈l
 |[]=>by simp[jn]
 |u::r=>by
  unfold jn;split
  ·simp
  ·simp only[aF,mem_insert (l:=r)];constructor
   ·rintro(h|h|h)
    ·exact .inr (.inl h)
    ·exact .inl h
    ·exact .inr (.inr h)
   ·rintro(h|h|h)
    ·exact .inr (.inl h)
    ·exact .inl h
    ·exact .inr (.inr h)
theorem rS   :∀{l:V9},x∈sorted w by_ l↔x∈l
 |[]=>by simp[sorted]
 |u::r=>by
  show x∈jn w by_ u (sorted w by_ r)↔_;rw[mem_insert,rS (l:=r),aF]
theorem AJ   :∀{l:V9},DP (l.map (keyOf w by_))->t∉l->DP ((jn w by_ t l).map (keyOf w by_))
 |[],_,_=>by simp[jn,DP]
 |u::r,h,hn=>by
  rw[bC]at h;have h1:=(bc.mp h).1;have h2:=(bc.mp h).2;unfold jn;split
  ·rename_i ha;rw[yO]at ha;rw[bC,bC];refine bc.mpr ⟨λy hy=>?_,h⟩;rcases aF.mp hy with rfl|hy
   ·exact ha
   ·exact lq ha (h1 y hy)
  ·rename_i ha;rw[yO]at ha;rw[bC];refine bc.mpr ⟨λy hy=>?_,AJ h2 (λq=>hn (by simp[q]))⟩;obtain⟨x,hx,rfl⟩:=aV.mp hy;rcases mem_insert.mp hx with rfl|hx
   ·cases e:dQ (keyOf w by_ u) (keyOf w by_ x)with
    |true=>rfl
    |false=>
     have:=Mi (nU (by simpa using ha) e);exact absurd (by simp[this]) hn
   ·exact h1 _ (fV hx)
theorem AI  :∀{l:V9},l.Nodup->DP ((sorted w by_ l).map (keyOf w by_))
 |[],_=>by simp[sorted,DP]
 |u::r,h=>by
  have hn:=cc.mp h;show DP ((jn w by_ u (sorted w by_ r)).map (keyOf w by_));exact AJ (AI hn.2) (λq=>hn.1 (rS.mp q))
theorem Nr{w:World}{by_:List (Nat×Bool)}{S T:V9}{R:List xC}(hS:S.Nodup)(hR:DP R)(hm:∀r,r∈R↔∃t∈T,keyOf w by_ t=r)(hT:∀t,t∈T↔t∈S):
  R=(sorted w by_ S).map (keyOf w by_):=by
 refine AH hR (AI hS) λr=>?_;rw[hm r,aV];constructor
 ·rintro⟨t,ht,e⟩;exact⟨t,rS.mpr ((hT t).mp ht),e⟩
 ·rintro⟨t,ht,e⟩;exact⟨t,(hT t).mpr (rS.mp ht),e⟩
def kf(K7:Option Int)(op:Nat)(to:Int):Bool:=match K7 with
 |none=>op==7
 |some v=>
  if op=0 then v==to
  else if op=1 then decide (v<to)
  else if op=2 then decide (v<=to)
  else if op=3 then decide (to<v)
  else if op=4 then decide (to<=v)
  else if op=5 then v != to
  else op==6
theorem zi(w:World)(t:Nat)(c:JA):holds w t c=kf (eT w t c.attr) c.op c.to:=by
 unfold holds kf
 cases eT w t c.attr<;>rfl
def eg(q:bu)(a lo hi:Nat):List JA:=(q.conds.filter λc=>c.attr==a).filter λc=>decide (lo<=c.op)&&decide (c.op<=hi)
theorem like_eq(q:bu)(a:Nat):likeOf q a=((eg q a 0 0).head?).map λc=>c.to:=by
 unfold likeOf eg
 congr 1
 induction q.conds with
 |nil=>rfl
 |cons c r ih=>
  rw[cN,bH];by_cases h:(c.attr==a)=ac
  ·rw[aC h,bH];by_cases h2:c.op=0
   ·simp[h,h2]
   ·have:(c.attr==a&&c.op==0)=ae:=by simp[h2]
    rw[this,aw (by simp;lia)];exact ih
  ·rw[aw h];have:(c.attr==a&&c.op==0)=ae:=by simp at h ⊢;intro q;exact absurd q h
   rw[this];exact ih
theorem NM(q:bu)(a:Nat)(v:Int):((lower q a).all λx=>decide (x<=v))=q.conds.all λc=>!(c.attr==a&&c.op==3&&!decide (c.to<v))&&!(c.attr==a&&c.op==4&&!decide (c.to<=v)):=by
 unfold lower;have key:∀(l:List JA)(m:Option Int),((l.foldl (λm c=>
  let x:Option Int:=if c.attr=a/\c.op=3 then aa (c.to+1)else if c.attr=a/\c.op=4 then aa c.to else ab
  match m,x with
  |some y,aa z=>aa (max y z)
  |none,z=>z
  |y,ab=>y) m).all λx=>decide (x<=v))=((m.all λx=>decide (x<=v))&&l.all λc=>!(c.attr==a&&c.op==3&&!decide (c.to<v))&&!(c.attr==a&&c.op==4&&!decide (c.to<=v))):=by
  intro l
  induction l with
  |nil=>intro m;simp
  |cons c r ih=>
   intro m;rw[dB,ih,gT,<-Vf]
   congr 1
   by_cases h3:c.attr=a/\c.op=3
   ·simp only[h3,and_self,if_true]
    cases m with
    |none=>simp;constructor<;>intro h<;>lia
    |some y=>rw[iC];simp;lia
   ·by_cases h4:c.attr=a/\c.op=4
    ·simp only[h4,and_self,if_true]
     cases m with
     |none=>simp
     |some y=>rw[iC];simp;lia
    ·rw[aw h3,aw h4];have e1:(c.attr==a&&c.op==3)=ae:=by
      rw[ff];simp;lia
     have e2:(c.attr==a&&c.op==4)=ae:=by
      rw[ff];simp;lia
     rw[e1,e2]
     cases m<;>simp
 refine(key q.conds ab).trans ?_;simp
theorem Nd(q:bu)(a:Nat)(v:Int):((upper q a).all λx=>decide (v<=x))=q.conds.all λc=>!(c.attr==a&&c.op==1&&!decide (v<c.to))&&!(c.attr==a&&c.op==2&&!decide (v<=c.to)):=by
 unfold upper;have key:∀(l:List JA)(m:Option Int),((l.foldl (λm c=>
  let x:Option Int:=if c.attr=a/\c.op=1 then aa (c.to - 1)else if c.attr=a/\c.op=2 then aa c.to else ab
  match m,x with
  |some y,aa z=>aa (min y z)
  |none,z=>z
  |y,ab=>y) m).all λx=>decide (v<=x))=((m.all λx=>decide (v<=x))&&l.all λc=>!(c.attr==a&&c.op==1&&!decide (v<c.to))&&!(c.attr==a&&c.op==2&&!decide (v<=c.to))):=by
  intro l
  induction l with
  |nil=>intro m;simp
  |cons c r ih=>
   intro m;rw[dB,ih,gT,<-Vf]
   congr 1
   by_cases h3:c.attr=a/\c.op=1
   ·simp only[h3,and_self,if_true]
    cases m with
    |none=>simp;constructor<;>intro h<;>lia
    |some y=>rw[iC];simp;lia
   ·by_cases h4:c.attr=a/\c.op=2
    ·simp only[h4,and_self,if_true]
     cases m with
     |none=>simp
     |some y=>rw[iC];simp;lia
    ·rw[aw h3,aw h4];have e1:(c.attr==a&&c.op==1)=ae:=by
      rw[ff];simp;lia
     have e2:(c.attr==a&&c.op==2)=ae:=by
      rw[ff];simp;lia
     rw[e1,e2]
     cases m<;>simp
 refine(key q.conds ab).trans ?_;simp
theorem Ji(q:bu)(a:Nat)(v:Int):(((lower q a).all λx=>decide (x<=v))&&(upper q a).all λx=>decide (v<=x))=(eg q a 1 4).all λc=>kf (aa v) c.op c.to:=by
 rw[NM,Nd];unfold eg
 induction q.conds with
 |nil=>rfl
 |cons c r ih=>
  rw[gT,gT,bH];have e:∀(x y u z:Bool),((x&&y)&&(u&&z))=((x&&u)&&(y&&z)):=dk;rw[e,ih];by_cases ha:(c.attr==a)=ac
  ·rw[aC ha,bH];by_cases ho:(decide (1<=c.op)&&decide (c.op<=4))=ac
   ·rw[aC ho,gT]
    congr 1
    simp only[aK,decide_eq_true_eq]at ho;rw[ha];unfold kf;have hc:c.op=1\/c.op=2\/c.op=3\/c.op=4:=om;rcases hc with h|h|h|h<;>rw[h]<;>simp
   ·rw[aw ho];simp only[aK,decide_eq_true_eq]at ho;have n1:(c.op==1)=ae:=by simp;lia
    have n2:(c.op==2)=ae:=by simp;lia
    have n3:(c.op==3)=ae:=by simp;lia
    have n4:(c.op==4)=ae:=by simp;lia
    simp[n1,n2,n3,n4]
  ·rw[aw ha];have:(c.attr==a)=ae:=by simpa using ha
   simp[this]
theorem KP(q:bu)(a:Nat):(lower q a).isSome=q.conds.any λc=>c.attr==a&&(c.op==3||c.op==4):=by
 unfold lower;have key:∀(l:List JA)(m:Option Int),((l.foldl (λm c=>
  let x:Option Int:=if c.attr=a/\c.op=3 then aa (c.to+1)else if c.attr=a/\c.op=4 then aa c.to else ab
  match m,x with
  |some y,aa z=>aa (max y z)
  |none,z=>z
  |y,ab=>y) m).isSome)=(m.isSome||l.any λc=>c.attr==a&&(c.op==3||c.op==4)):=by
  intro l
  induction l with
  |nil=>intro m;simp
  |cons c r ih=>
   intro m;rw[dB,ih,d9,<-Wc]
   congr 1
   by_cases h3:c.attr=a/\c.op=3
   ·simp only[h3,and_self,if_true];cases m<;>simp
   ·by_cases h4:c.attr=a/\c.op=4
    ·simp only[h4,and_self,if_true];cases m<;>simp
    ·rw[aw h3,aw h4];have e1:(c.attr==a&&(c.op==3||c.op==4))=ae:=by
      rw[ff];simp;lia
     rw[e1]
     cases m<;>simp
 refine(key q.conds ab).trans ?_;simp
theorem J_(q:bu)(a:Nat):(upper q a).isSome=q.conds.any λc=>c.attr==a&&(c.op==1||c.op==2):=by
 unfold upper;have key:∀(l:List JA)(m:Option Int),((l.foldl (λm c=>
  let x:Option Int:=if c.attr=a/\c.op=1 then aa (c.to - 1)else if c.attr=a/\c.op=2 then aa c.to else ab
  match m,x with
  |some y,aa z=>aa (min y z)
  |none,z=>z
  |y,ab=>y) m).isSome)=(m.isSome||l.any λc=>c.attr==a&&(c.op==1||c.op==2)):=by
  intro l
  induction l with
  |nil=>intro m;simp
  |cons c r ih=>
   intro m;rw[dB,ih,d9,<-Wc]
   congr 1
   by_cases h3:c.attr=a/\c.op=1
   ·simp only[h3,and_self,if_true];cases m<;>simp
   ·by_cases h4:c.attr=a/\c.op=2
    ·simp only[h4,and_self,if_true];cases m<;>simp
    ·rw[aw h3,aw h4];have e1:(c.attr==a&&(c.op==1||c.op==2))=ae:=by
      rw[ff];simp;lia
     rw[e1]
     cases m<;>simp
 refine(key q.conds ab).trans ?_;simp
theorem zm(q:bu)(a:Nat):((lower q a).isSome=ac\/(upper q a).isSome=ac)↔eg q a 1 4≠[]:=by
 rw[KP,J_,gk,gk];unfold eg;constructor
 ·rintro(⟨c,hc,h⟩|⟨c,hc,h⟩) e
  ·simp only[aK,beq_iff_eq,gG]at h;have:c∈([]:List JA):=by
    rw[<-e,bB,bB];exact⟨⟨hc,by simp[h.1]⟩,by simp;lia⟩
   simp at this
  ·simp only[aK,beq_iff_eq,gG]at h;have:c∈([]:List JA):=by
    rw[<-e,bB,bB];exact⟨⟨hc,by simp[h.1]⟩,by simp;lia⟩
   simp at this
 ·intro h;obtain⟨c,hc⟩:=List.exists_mem_of_ne_nil _ h;rw[bB,bB]at hc;simp only[beq_iff_eq,aK,decide_eq_true_eq]at hc;by_cases h2:c.op<=2
  ·exact .inr ⟨c,hc.1.1,by simp[hc.1.2];lia⟩
  ·exact .inl ⟨c,hc.1.1,by simp[hc.1.2];lia⟩
theorem Nc(q:bu)(i:dP):useful q i= !(i.attrs.any λa=>(eg q a 0 6).isEmpty):=by
 unfold useful;rw[List.not_any_eq_all_not]
 congr 1
 funext a;unfold eg
 induction q.conds with
 |nil=>rfl
 |cons c r ih=>
  rw[d9,bH];by_cases ha:(c.attr==a)=ac
  ·rw[aC ha,bH];by_cases ho:c.op<=6
   ·simp[ha,ho]
   ·rw[aw (by simp;lia),<-ih];simp[ho]
  ·rw[aw ha,<-ih];have:(c.attr==a)=ae:=by simpa using ha
   simp[this]
theorem uK(q:bu):∀l:V9,(bK q l).length<=l.length
 |[]=>aS _
 |a::r=>by
  unfold bK
  cases likeOf q a with
  |none=>simp
  |some x=>simp only[aJ];have:=uK q r;lia
def gd(q:bu)(attrs:V9):List JA:=match attrs[(bK q attrs).length]? with
 |none=>[]
 |some a=>eg q a 1 4
theorem Ph(q:bu)(i:dP):gK q i=if(i.attrs.any λa=>(eg q a 0 6).isEmpty)=ac then 0 else 2*(bK q i.attrs).length+(if gd q i.attrs≠[]then 1 else 0):=by
 unfold gK gd;rw[Nc];simp only
 cases h:(i.attrs.any λa=>(eg q a 0 6).isEmpty)with
 |true=>simp
 |false=>
  simp only[Vd,bA,if_false,OE]
  congr 1
  cases i.attrs[(bK q i.attrs).length]? with
  |none=>simp
  |some a=>
   simp only;by_cases hb:eg q a 1 4=[]
   ·have:=mt (zm q a).mp (by simpa using hb);rw[aw this];simp[hb]
   ·rw[aC ((zm q a).mpr hb)];simp[hb]
theorem BL(q:bu)(i:dP):given q i=((i.rows.filter λr=>r.take (bK q i.attrs).length==bK q i.attrs).filter λr=>(gd q i.attrs).all λc=>kf (aa (r.getD (bK q i.attrs).length 0)) c.op c.to).map λr=>(r.getLastD 0).toNat:=by
 unfold given gd;simp only
 congr 1
 cases h:i.attrs[(bK q i.attrs).length]? with
 |none=>simp
 |some a=>
  simp only
  congr 1
  funext r;exact Ji q a _
theorem oq(q:bu):∀(l:List dP)(n:Nat)(p0:Option (Nat×Nat))(m:Nat),(∀i∈l,gK q i<=m)->(∀b,p0=aa b->b.2=m)->(p0=ab->m=0)->xV q n p0 l=p0
 |[],_,_,_,_,_,_=>rfl
 |i::l,n,p0,m,h,hb,h0=>by
  unfold xV;have hi:=h i (by simp);have e:(if gK q i=0 then p0 else match(generalizing:=false) p0 with
   |none=>aa (n,gK q i)
   |some b=>if b.2<gK q i then aa (n,gK q i)else p0)=p0:=by
   by_cases hz:gK q i=0
   ·rw[aC hz]
   ·rw[aw hz]
    cases p0 with
    |none=>have:=h0 Z;lia
    |some b=>
     have:=hb b Z;simp only;rw[aw om]
  refine(congrArg (λb=>xV q (n+1) b l) e).trans ?_;exact oq q l (n+1) p0 m (λi hi=>h i (aD _ hi)) hb h0
theorem NB(h:∀i∈l,gK q i=0):plan q l=ab:=
 oq q l 0 ab 0 (λi hi=>o3 (h i hi)) (by simp) (λ_=>rfl)
theorem vp(q:bu)(hm:0<m):∀(l:List dP)(n j:Nat)(p0:Option (Nat×Nat)),(∀b,p0=aa b->b.2<m)->(l.map (gK q))[j]? =aa m->(∀i∈l,gK q i<=m)->(∀k,k<j->(l.map (gK q))[k]?≠aa m)->xV q n p0 l=aa (n+j,m)
 |[],_,j,_,_,h,_,_=>by simp at h
 |i::l,n,0,p0,hb,h,my,_=>by
  have e:gK q i=m:=by simpa using h
  unfold xV;have e2:(if gK q i=0 then p0 else match(generalizing:=false) p0 with
   |none=>aa (n,gK q i)
   |some b=>if b.2<gK q i then aa (n,gK q i)else p0)=aa (n,m):=by
   rw[aw om,e]
   cases p0 with
   |none=>rfl
   |some b=>have:=hb b Z;simp only;rw[if_pos this]
  refine(congrArg (λb=>xV q (n+1) b l) e2).trans ?_;rw[oq q l (n+1) (aa (n,m)) m (λi hi=>my i (aD _ hi)) (by intro b e;cases e;rfl) (by simp)];rfl
 |i::l,n,j+1,p0,hb,h,my,hk=>by
  have hi:gK q i<m:=by
   have a:=my i (by simp);have b:gK q i≠m:=by
    have:=hk 0 om;intro e;simp[e]at this
   lia
  unfold xV;simp only;rw[vp q hm l (n+1) j _ ?_ (by simpa using h) (λi hi=>my i (aD _ hi)) (λk hkj=>by have:=hk (k+1) om;simpa using this)]
  ·congr 2;lia
  ·intro b e;by_cases hz:gK q i=0
   ·rw[aC hz]at e;exact hb b e
   ·rw[aw hz]at e
    cases p0 with
    |none=>simp only at e;cases e;exact hi
    |some c=>
     simp only at e;split at e
     ·cases e;exact hi
     ·exact hb b e
theorem NA(hm:0<m)(h:(l.map (gK q))[j]? =aa m)(my:∀i∈l,gK q i<=m)(hk:∀k,k<j->(l.map (gK q))[k]?≠aa m):plan q l=aa (j,m):=by
 have:=vp q hm l 0 j ab (by simp) h my hk;rw[Nat.zero_add]at this;exact this
def lc(w:World)(q:bu):V9:=if q.place= -1 then aM w else if q.deep=ac then inside w q.place.toNat else held w q.place.toNat
theorem Eo(T:Tree w)(hp: -1<=q.place)(ht:a_ w t=ac):t∈lc w q↔inPlace w q t=ac:=by
 unfold lc inPlace;by_cases h1:q.place= -1
 ·rw[aC h1,aC om];simp[cw,ht]
 ·have h2:¬q.place<0:=om;rw[aw h1,aw h2];by_cases hd:q.deep=ac
  ·rw[aC hd,aC hd];by_cases h0:q.place=0
   ·rw[h0];simp only[Int.toNat_zero,beq_self_eq_true,Bool.true_or,iff_true];exact T.F? ht
   ·have hz:(q.place==0)=ae:=by simpa using h0
    rw[hz,wC,gf];constructor
    ·exact λh=>T.lZ om h
    ·exact λh=>T.jO ht h
  ·rw[aw hd,aw hd,eA,beq_iff_eq];simp[ht]
theorem oj(hh:a_ w' u=a_ w u)(hv:a_ w u=ac->∀a∈attrs,eT w' u a=eT w u a):kG w' attrs u=kG w attrs u:=by
 unfold kG;rw[hh];by_cases h:a_ w u=ac
 ·rw[aC h,aC h,Nz (hv h)]
 ·rw[aw h,aw h]
section
variable{w:World}{t:Nat}{f:List (Nat×Int)->List (Nat×Int)}
abbrev rK(w:World)(t:Nat)(f:List (Nat×Int)->List (Nat×Int)):World:=oX w t λy=>{y with own:=f y.own}
theorem yp(ht:a_ w t=ac)(hu:1<=u):bh (rK w t f) u=if u=t then {bh w t with own:=f (bh w t).own}else bh w u:=
 x_ (b? ht).1 hu (b? ht).2
theorem jf(ht:a_ w t=ac)(u:Nat):a_ (rK w t f) u=a_ w u:=by
 by_cases hu:1<=u
 ·refine Ms ?_;rw[yp ht hu];split
  ·rename_i e;rw[e]
  ·rfl
 ·have:u=0:=om;subst this;rfl
theorem FT(ht:a_ w t=ac)(hu:1<=u):(bh (rK w t f) u).holder=(bh w u).holder/\(bh (rK w t f) u).kind=(bh w u).kind:=by
 rw[yp ht hu];split
 ·rename_i e;rw[e];exact⟨Z,Z⟩
 ·exact⟨Z,Z⟩
theorem NF(ht:a_ w t=ac)(hu:1<=u)(iQ:u≠t)(a:Nat):eT (rK w t f) u a=eT w u a:=by
 have e:=yp (f:=f) ht hu;rw[aw iQ]at e;exact wG (by rw[e]) (by rw[e]) Z
theorem Af(ht:a_ w t=ac)(attrs:V9)(iQ:u≠t):kG (rK w t f) attrs u=kG w attrs u:=
 oj (jf ht u) λhu a _=>NF ht (b? hu).1 iQ a
theorem LD(h:p8 w)(ht:a_ w t=ac)(hf:DQ (f (bh w t).own)):p8 (rK w t f):=by
 refine⟨h.kl,by rw[k?];exact h.tl,h.ord,h.WQ,h.Gq,λu hu=>?_,λu hu=>?_,⟨λu hu=>?_,?_⟩⟩
 ·rw[jf ht]at hu;rw[(FT ht (b? hu).1).2];exact h.knd u hu
 ·rw[jf ht]at hu;rw[yp ht (b? hu).1];split
  ·exact hf
  ·exact h.own u hu
 ·rw[jf ht]at hu;rw[(FT ht (b? hu).1).1,jf ht];exact h.tree.hold u hu
 ·obtain⟨rk,Sl⟩:=h.tree.Ln;refine⟨rk,λu hu=>?_⟩;rw[jf ht]at hu;rw[(FT ht (b? hu).1).1];exact Sl u hu
theorem NG(ht:a_ w t=ac)(hf:∀b,b≠a->cK b (f (bh w t).own)=cK b (bh w t).own)(hb:b≠a):eT (rK w t f) t b=eT w t b:=by
 have e:=yp (f:=f) ht (b? ht).1;rw[aC Z]at e;have ek:∀k,cS (rK w t f) k=cS w k:=λk=>rfl;unfold eT ft;simp only[e,ek,hf b hb]
end
section
variable{w:World}{k:Nat}{f:List (Nat×Int)->List (Nat×Int)}
abbrev pX(w:World)(k:Nat)(f:List (Nat×Int)->List (Nat×Int)):World:=OV w k λy=>{y with defaults:=f y.defaults}
theorem Gp(h1:1<=k)(h2:k<=w.kinds.length)(hu:1<=u):cS (pX w k f) u=if u=k then {cS w k with defaults:=f (cS w k).defaults}else cS w u:=
 QM h1 hu h2
theorem Av(h1:1<=k)(h2:k<=w.kinds.length)(hu:1<=u):(cS (pX w k f) u).order=(cS w u).order:=by
 rw[Gp h1 h2 hu];split
 ·rename_i e;rw[e]
 ·rfl
theorem oG{α β:Type}{f g:α->Option β}:∀{l:List α},(∀x∈l,f x=g x)->l.findSome? f=l.findSome? g
 |[],_=>rfl
 |a::l,h=>by
  rw[M9,M9,h a (by simp),oG λx hx=>h x (aD _ hx)]
theorem DL(h:p8 w)(h1:1<=k)(h2:k<=w.kinds.length){u:Nat}(hu:a_ w u=ac){b:Nat}(hb:isA w u k=ae\/cK b (f (cS w k).defaults)=cK b (cS w k).defaults):
  ft (pX w k f) u b=ft w u b:=by
 have et:bh (pX w k f) u=bh w u:=Z;have hk:=h.knd u hu;unfold ft;rw[et];simp only[Av h1 h2 hk.1]
 cases cK b (bh w u).own with
 |some v=>rfl
 |none=>
  simp only;refine oG λx hx=>?_;have ZL:=(h.ord _ hk.1 hk.2 x hx).1;rw[Gp h1 h2 ZL];split
  ·rename_i e;subst e;rcases hb with hb|hb
   ·unfold isA at hb;have:((cS w (bh w u).kind).order.contains x)=ac:=gf.mpr hx;rw[hb]at this;cases this
   ·simp only[hb]
  ·rfl
theorem MH(h:p8 w)(h1:1<=k)(h2:k<=w.kinds.length)(attrs:V9)(hb:isA w u k=ae\/∀b∈attrs,cK b (f (cS w k).defaults)=cK b (cS w k).defaults):kG (pX w k f) attrs u=kG w attrs u:=
 oj Z λhu a ha=>by
  unfold eT;rw[DL h h1 h2 hu (hb.imp id λq=>q a ha)]
theorem LG(h:p8 w)(h1:1<=k)(h2:k<=w.kinds.length)(hf:DQ (f (cS w k).defaults)):p8 (pX w k f):=by
 refine⟨by rw[kind_len];exact h.kl,h.tl,λj j1 j2=>?_,λj j1 j2=>?_,λj j1 j2=>?_,λu hu=>?_,h.own,⟨h.tree.hold,h.tree.Ln⟩⟩
 ·rw[kind_len]at j2 ⊢;rw[Av h1 h2 j1];exact h.ord j j1 j2
 ·rw[kind_len]at j2;rw[Av h1 h2 j1];exact h.WQ j j1 j2
 ·rw[kind_len]at j2;rw[Gp h1 h2 j1];split
  ·exact hf
  ·exact h.Gq j j1 j2
 ·rw[kind_len];exact h.knd u hu
end
theorem vx(w:World)(k:Nat):(jx w k).Nodup:=(v1 w).filter _
theorem oC  :t∈jx w k↔a_ w t=ac/\isA w t k=ac:=by
 unfold jx;rw[bB,cw]
section
variable{w:World}{l o:V9}
abbrev ui(w:World)(l o:V9):World:={w with kinds:=w.kinds++[{parents:=l,order:=o}]}
theorem uP(h1:1<=u)(h2:u<=w.kinds.length):cS (ui w l o) u=cS w u:=by
 unfold cS;simp only[bD];rw[kD om]
theorem xq:cS (ui w l o) (w.kinds.length+1)={parents:=l,order:=o}:=by
 unfold cS;simp
theorem Dy(h:p8 w){u:Nat}(hu:a_ w u=ac)(b:Nat):ft (ui w l o) u b=ft w u b:=by
 have et:bh (ui w l o) u=bh w u:=Z;have hk:=h.knd u hu;unfold ft;rw[et];simp only[uP hk.1 hk.2]
 cases cK b (bh w u).own with
 |some v=>rfl
 |none=>
  simp only;refine oG λx hx=>?_;have:=h.ord _ hk.1 hk.2 x hx;rw[uP this.1 this.2]
theorem Mh(h:p8 w)(attrs:V9)(u:Nat):kG (ui w l o) attrs u=kG w attrs u:=
 oj Z λhu a _=>by
  unfold eT;rw[Dy h hu]
theorem LF(h:p8 w)(hn:w.kinds.length<30)(hl:∀p∈l,1<=p/\p<=w.kinds.length)(ho:orderFor w (w.kinds.length+1) l=aa o):p8 (ui w l o):=by
 have hm:∃m,o=(w.kinds.length+1)::m/\m.Nodup/\∀x∈m,1<=x/\x<=w.kinds.length:=by
  unfold orderFor mergeAll at ho;simp only at ho;rw[uO (lp _) (aS _)]at ho;split at ho
  ·simp only[gB,g9]at ho;refine⟨_,ho.symm,Ek,λx hx=>?_⟩;obtain⟨r,hr,Ci⟩:=FN hx;have hr:=(bB.mp hr).1;rcases df.mp hr with hr|hr
   ·obtain⟨p,hp,rfl⟩:=aV.mp hr;exact h.ord p (hl p hp).1 (hl p hp).2 x Ci
   ·have e:r=l:=by simpa using hr
    rw[e]at Ci;exact hl x Ci
  ·simp at ho
 obtain⟨m,rfl,OK,qK⟩:=hm;have len:(ui w l ((w.kinds.length+1)::m)).kinds.length=w.kinds.length+1:=by simp
 refine⟨by rw[len];lia,h.tl,λj j1 j2=>?_,λj j1 j2=>?_,λj j1 j2=>?_,λu hu=>?_,h.own,⟨h.tree.hold,h.tree.Ln⟩⟩
 ·rw[len]at j2 ⊢;by_cases e:j<=w.kinds.length
  ·rw[uP j1 e];intro x hx;have:=h.ord j j1 e x hx;lia
  ·have:j=w.kinds.length+1:=om;subst this;rw[xq];intro x hx;rcases aF.mp hx with rfl|hx
   ·lia
   ·have:=qK x hx;lia
 ·rw[len]at j2;by_cases e:j<=w.kinds.length
  ·rw[uP j1 e];exact h.WQ j j1 e
  ·have:j=w.kinds.length+1:=om;subst this;rw[xq];refine cc.mpr ⟨λq=>?_,OK⟩;have:=qK _ q;lia
 ·rw[len]at j2;by_cases e:j<=w.kinds.length
  ·rw[uP j1 e];exact h.Gq j j1 e
  ·have:j=w.kinds.length+1:=om;subst this;rw[xq];exact DQ.nil
 ·rw[len];have:=h.knd u hu;exact⟨this.1,R9 this.2⟩
end
section
variable{w:World}{k p:Nat}
abbrev sQ(w:World)(k p:Nat):World:={w with things:=w.things++[{kind:=k,holder:=p}]}
theorem oE(h1:1<=u):bh (sQ w k p) u=if u=w.things.length+1 then {kind:=k,holder:=p}else bh w u:=by
 unfold bh;simp only[bD];by_cases e:u=w.things.length+1
 ·subst e;simp
 ·rw[aw e];by_cases e2:u<=w.things.length
  ·rw[kD om]
  ·rw[qf.mpr (by simp;lia),qf.mpr om]
theorem lX(u:Nat):a_ (sQ w k p) u=(a_ w u||decide (u=w.things.length+1)):=by
 by_cases h1:1<=u
 ·unfold a_;rw[oE h1];by_cases e:u=w.things.length+1
  ·rw[aC e];simp[e]
  ·rw[aw e];simp[e]
 ·have:u=0:=om;subst this;simp[a_]
theorem Ma(attrs:V9)(iQ:u≠w.things.length+1):kG (sQ w k p) attrs u=kG w attrs u:=
 oj (by rw[lX];simp[iQ]) λhu a _=>by
  have e:=oE (w:=w) (k:=k) (p:=p) (b? hu).1;rw[aw iQ]at e;exact wG (by rw[e]) (by rw[e]) Z
theorem HX:aM (sQ w k p)=aM w++[w.things.length+1]:=by
 unfold aM;have:(sQ w k p).things.length=w.things.length+1:=by simp
 rw[this,SS,bz,xQ]
 congr 1
 ·refine jD λx hx=>?_;obtain⟨y,hy,rfl⟩:=aV.mp hx;have:=fi.mp hy;rw[lX];rw[ay om,fN]
 ·simp[lX]
theorem S?(h:p8 w)(hn:w.things.length<200)(hk:1<=k/\k<=w.kinds.length)(hp:p=0\/a_ w p=ac):p8 (sQ w k p):=by
 have old:∀{u:Nat},a_ w u=ac->u≠w.things.length+1:=λhu=>by have:=b? hu;lia
 have cs:∀{u:Nat},a_ (sQ w k p) u=ac->u=w.things.length+1\/(u≠w.things.length+1/\a_ w u=ac):=λ{u} hu=>by
  rw[lX]at hu;by_cases e:u=w.things.length+1
  ·exact .inl e
  ·simp[e]at hu;exact .inr ⟨e,hu⟩
 refine⟨h.kl,by simp;lia,h.ord,h.WQ,h.Gq,λu hu=>?_,λu hu=>?_,⟨λu hu=>?_,?_⟩⟩
 ·rcases cs hu with e|⟨e,hw⟩
  ·rw[oE (b? hu).1,aC e];exact hk
  ·rw[oE (b? hu).1,aw e];exact h.knd u hw
 ·rcases cs hu with e|⟨e,hw⟩
  ·rw[oE (b? hu).1,aC e];exact DQ.nil
  ·rw[oE (b? hu).1,aw e];exact h.own u hw
 ·rcases cs hu with e|⟨e,hw⟩
  ·rw[oE (b? hu).1,aC e,lX];rcases hp with hp|hp
   ·exact .inl hp
   ·exact .inr (by simp[hp])
  ·rw[oE (b? hu).1,aw e,lX];rcases h.tree.hold u hw with q|q
   ·exact .inl q
   ·exact .inr (by simp[q])
 ·obtain⟨rk,Sl⟩:=h.tree.Ln;refine⟨λu=>if u=w.things.length+1 then rk p+1 else rk u,λu hu iQ=>?_⟩;rcases cs hu with e|⟨e,hw⟩
  ·rw[oE (b? hu).1,aC e]at iQ ⊢;simp only at iQ ⊢;have OJ:=hp.resolve_left iQ;rw[aw (old OJ),aC e];lia
  ·rw[oE (b? hu).1,aw e]at iQ ⊢;have hh:=(h.tree.hold u hw).resolve_left iQ;simp only;rw[aw (old hh),aw e];exact Sl u hw iQ
end
section
variable{w:World}
abbrev nu(w:World)(xs:V9):World:=xs.foldl (λw x=>oX w x λy=>{y with here:=ae}) w
theorem uS:∀(xs:V9)(w:World),(nu w xs).things.length=w.things.length/\(nu w xs).kinds=w.kinds
 |[],w=>⟨Z,Z⟩
 |x::xs,w=>by
  have:=uS xs (oX w x λy=>{y with here:=ae});refine⟨this.1.trans k?,this.2.trans Z⟩
theorem B4:∀{xs:V9}{w:World}{u:Nat},(∀x∈xs,1<=x/\x<=w.things.length)->1<=u->bh (nu w xs) u=if u∈xs then {bh w u with here:=ae}else bh w u
 |[],w,u,_,_=>by simp[nu]
 |x::xs,w,u,h,hu=>by
  have hx:=h x (by simp);have ih:=B4 (xs:=xs) (w:=oX w x λy=>{y with here:=ae}) (u:=u) (λy hy=>by rw[k?];exact h y (aD _ hy)) hu;show bh (nu (oX w x λy=>{y with here:=ae}) xs) u=_;rw[ih,x_ hx.1 hu hx.2];by_cases e:u=x
  ·subst e;simp
  ·simp[e]
theorem oI(h:∀x∈xs,1<=x/\x<=w.things.length):a_ (nu w xs) u=(a_ w u&&!decide (u∈xs)):=by
 by_cases hu:1<=u
 ·unfold a_;rw[B4 h hu];by_cases e:u∈xs
  ·rw[aC e];simp[e]
  ·rw[aw e];simp[e]
 ·have:u=0:=om;subst this;simp[a_]
theorem MB(h:∀x∈xs,1<=x/\x<=w.things.length)(attrs:V9)(iQ:u∉xs):kG (nu w xs) attrs u=kG w attrs u:=
 oj (by rw[oI h];simp[iQ]) λhu a _=>by
  have e:=B4 h (b? hu).1;rw[aw iQ]at e;exact wG (by rw[e]) (by rw[e]) (uS xs w).2
theorem HY(h:∀x∈xs,1<=x/\x<=w.things.length):aM (nu w xs)=(aM w).filter λu=>!decide (u∈xs):=by
 unfold aM;rw[(uS xs w).1,List.filter_filter];refine jD λx _=>?_;rw[oI h,Bool.and_comm]
theorem Ta(h:p8 w)(ht:a_ w t=ac):p8 (nu w (t::inside w t)):=by
 have hx:∀x∈t::inside w t,1<=x/\x<=w.things.length:=λx hx=>by
  rcases aF.mp hx with rfl|hx
  ·exact b? ht
  ·exact b? (h.tree.lj hx)
 have kk:(nu w (t::inside w t)).kinds=w.kinds:=(uS _ _).2;have ka:∀k,cS (nu w (t::inside w t)) k=cS w k:=λk=>by unfold cS;rw[kk]
 have cs:∀{u:Nat},a_ (nu w (t::inside w t)) u=ac->a_ w u=ac/\u∉t::inside w t:=λ{u} hu=>by
  rw[oI hx]at hu;simpa using hu
 have at_:∀{u:Nat},a_ (nu w (t::inside w t)) u=ac->bh (nu w (t::inside w t)) u=bh w u:=λ{u} hu=>by
  rw[B4 hx (b? hu).1,aw (cs hu).2]
 refine⟨by rw[kk];exact h.kl,by rw[(uS _ _).1];exact h.tl,λk k1 k2=>?_,λk k1 k2=>?_,λk k1 k2=>?_,λu hu=>?_,λu hu=>?_,⟨λu hu=>?_,?_⟩⟩
 ·rw[kk]at k2 ⊢;rw[ka];exact h.ord k k1 k2
 ·rw[kk]at k2;rw[ka];exact h.WQ k k1 k2
 ·rw[kk]at k2;rw[ka];exact h.Gq k k1 k2
 ·rw[at_ hu,kk];exact h.knd u (cs hu).1
 ·rw[at_ hu];exact h.own u (cs hu).1
 ·rw[at_ hu];obtain⟨h1,h2⟩:=cs hu;rcases h.tree.hold u h1 with e|e
  ·exact .inl e
  ·refine .inr ?_;rw[oI hx,e];simp only[gq,jE,decide_eq_false_iff_not];intro q;refine h2 (aD _ ?_);have GX:u∈held w (bh w u).holder:=eA.mpr ⟨h1,Z⟩;rcases aF.mp q with q|q
   ·rw[q]at GX;exact h.tree.dS.mpr ⟨u,GX,.inl Z⟩
   ·exact h.tree.m9 q GX
 ·obtain⟨rk,Sl⟩:=h.tree.Ln;refine⟨rk,λu hu=>?_⟩;rw[at_ hu];exact Sl u (cs hu).1
end
section
variable{w:World}{t p:Nat}
abbrev zP(w:World)(t p:Nat):World:=oX w t λy=>{y with holder:=p}
theorem Bt(ht:a_ w t=ac)(hu:1<=u):bh (zP w t p) u=if u=t then {bh w t with holder:=p}else bh w u:=
 x_ (b? ht).1 hu (b? ht).2
theorem lW(ht:a_ w t=ac)(u:Nat):a_ (zP w t p) u=a_ w u:=by
 by_cases hu:1<=u
 ·refine Ms ?_;rw[Bt ht hu];split
  ·rename_i e;rw[e]
  ·rfl
 ·have:u=0:=om;subst this;rfl
theorem HW(ht:a_ w t=ac):aM (zP w t p)=aM w:=by
 unfold aM;rw[k?];exact jD λx _=>lW ht x
theorem Ai(ht:a_ w t=ac)(hu:1<=u):(bh (zP w t p) u).own=(bh w u).own/\(bh (zP w t p) u).kind=(bh w u).kind:=by
 rw[Bt ht hu];split
 ·rename_i e;rw[e];exact⟨Z,Z⟩
 ·exact⟨Z,Z⟩
theorem L8(ht:a_ w t=ac)(attrs:V9)(u:Nat):kG (zP w t p) attrs u=kG w attrs u:=
 oj (lW ht u) λhu _ _=>wG (Ai ht (b? hu).1).1 (Ai ht (b? hu).1).2 Z
theorem S_(h:p8 w)(ht:a_ w t=ac)(hp:p=0\/a_ w p=ac)(h1:p≠t)(h2:p∉inside w t):p8 (zP w t p):=by
 refine⟨h.kl,by rw[k?];exact h.tl,h.ord,h.WQ,h.Gq,λu hu=>?_,λu hu=>?_,⟨λu hu=>?_,?_⟩⟩
 ·rw[lW ht]at hu;rw[(Ai ht (b? hu).1).2];exact h.knd u hu
 ·rw[lW ht]at hu;rw[(Ai ht (b? hu).1).1];exact h.own u hu
 ·rw[lW ht]at hu;rw[Bt ht (b? hu).1];split
  ·simp only;rcases hp with e|e
   ·exact .inl e
   ·exact .inr (by rw[lW ht];exact e)
  ·rw[lW ht];exact h.tree.hold u hu
 ·obtain⟨rk,Sl⟩:=h.tree.Ln;refine⟨λx=>if x=t\/x∈inside w t then rk x+rk p+1 else rk x,λu hu iQ=>?_⟩;rw[lW ht]at hu;have q:=Bt (p:=p) ht (b? hu).1;by_cases e:u=t
  ·rw[aC e]at q;rw[q]at iQ ⊢;simp only at iQ ⊢;rw[aw (by intro z;exact z.elim h1 h2),aC (.inl e)];lia
  ·rw[aw e]at q;rw[q]at iQ ⊢;have gO:=Sl u hu iQ;have GX:u∈held w (bh w u).holder:=eA.mpr ⟨hu,Z⟩;simp only;by_cases i1:u∈inside w t
   ·rw[aC (h.tree.NS i1),aC (GN i1)];lia
   ·have no:¬((bh w u).holder=t\/(bh w u).holder∈inside w t):=by
     rintro(z|z)
     ·rw[z]at GX;exact i1 (h.tree.dS.mpr ⟨u,GX,.inl Z⟩)
     ·exact i1 (h.tree.m9 z GX)
    rw[aw no,aw (λz=>z.elim e i1)];exact gO
end
structure aeR(e:dA):Prop where
 qu:∃q,eN e.asked=aa q/\e.attrs=attrsOf q/\e.places=decide (0<=q.place)
 RP:e.answer.length<=200
 ask:e.asked.length<=60
structure xK(c:bw):Prop where
 rule:c.rule<=1
 most:c.most<=20
 len:c.entries.length<=c.most
 up:c.entries.Pairwise (λa b=>a.made<b.made)
 made:∀e∈c.entries,e.made<=c.clock
 asked:c.entries.Pairwise (λa b=>a.asked≠b.asked)
 ent:∀e∈c.entries,aeR e
theorem xK.new(hr:r<=1)(hn:n<=20):xK {rule:=r,most:=n}:=
 ⟨hr,hn,gx _,kF,(λ_ h=>nomatch h),kF,(λ_ h=>nomatch h)⟩
theorem xK.fall(h:xK c)(keep:dA->Bool):xK (fall c keep):=
 ⟨h.rule,h.most,aB (bx _ _) h.len,h.up.filter _,λe he=>h.made e (bB.mp he).1,h.asked.filter _,λe he=>h.ent e (bB.mp he).1⟩
theorem xK.touch(h:xK c)(asked:xC):xK (touch c asked):=by
 have m1:∀e:dA,(if e.asked=asked then {e with used:=c.clock+1}else e).made=e.made:=λe=>by split<;>rfl
 have m2:∀e:dA,(if e.asked=asked then {e with used:=c.clock+1}else e).asked=e.asked:=λe=>by split<;>rfl
 refine⟨h.rule,h.most,?_,?_,?_,?_,?_⟩
 ·show(c.entries.map _).length<=_;rw[af];exact h.len
 ·show(c.entries.map _).Pairwise _;rw[dZ];refine h.up.imp ?_;intro a b BK;rw[m1,m1];exact BK
 ·intro e he;obtain⟨x,hx,rfl⟩:=aV.mp he;rw[m1];have:=h.made x hx;show x.made<=c.clock+1;lia
 ·show(c.entries.map _).Pairwise _;rw[dZ];refine h.asked.imp ?_;intro a b BK;rw[m2,m2];exact BK
 ·intro e he;obtain⟨x,hx,rfl⟩:=aV.mp he;have:=h.ent x hx;split
  ·exact⟨this.qu,this.RP,this.ask⟩
  ·exact this
theorem K_{f:dA->Nat}:∀{l:List dA}{j:Nat}{e:dA}{o:Option dA},l[j]? =aa e->(∀x∈l,f e<=f x)->(∀(k:Nat) x,k<j->l[k]? =aa x->f e<f x)->(∀x,o=aa x->f e<f x)->
  l.foldl (λ(o:Option dA) e=>match o with
   |none=>aa e
   |some x=>if f e<f x then aa e else aa x) o=aa e:=by
 have zy:∀(l:List dA)(e:dA),(∀x∈l,f e<=f x)->l.foldl (λ(o:Option dA) e=>match o with
   |none=>aa e
   |some x=>if f e<f x then aa e else aa x) (aa e)=aa e:=by
  intro l
  induction l with
  |nil=>intros;rfl
  |cons a l ih=>
   intro e h;rw[dB];simp only;rw[aw (by have:=h a (by simp);lia)];exact ih e λx hx=>h x (aD _ hx)
 intro l
 induction l with
 |nil=>intro j e o h;simp at h
 |cons a l ih=>
  intro j e o h my gO ho;rw[dB]
  cases j with
  |zero=>
   have ea:a=e:=by simpa using h
   subst ea;have:(match(generalizing:=false) o with
    |none=>aa a
    |some x=>if f a<f x then aa a else aa x)=aa a:=by
    cases o with
    |none=>rfl
    |some x=>simp only;rw[if_pos (ho x Z)]
   refine(congrArg (λo=>s? _ o l) this).trans ?_;exact zy l a λx hx=>my x (aD _ hx)
  |succ j=>
   refine ih (j:=j) (by simpa using h) (λx hx=>my x (aD _ hx)) (λk x hk hx=>gO (k+1) x om (by simpa using hx)) λx hx=>?_;have ha:=gO 0 a om (by simp)
   cases o with
   |none=>simp only at hx;cases hx;exact ha
   |some y=>
    simp only at hx;split at hx
    ·cases hx;exact ha
    ·cases hx;exact ho x Z
theorem uw:∀{l:List dA}{j:Nat}{e:dA},l.Pairwise (λa b=>a.made<b.made)->l[j]? =aa e->l.filter (λx=>x.made != e.made)=l.eraseIdx j
 |[],j,e,_,h=>by simp at h
 |a::l,0,e,hp,h=>by
  have ea:a=e:=by simpa using h
  subst ea;rw[Hc,bH,aw (by simp),M'];intro x hx;have:=(bc.mp hp).1 x hx;simp;lia
 |a::l,j+1,e,hp,h=>by
  have h':l[j]? =aa e:=by simpa using h
  have:=(bc.mp hp).1 e (aP h');rw[lM,bH,aC (by simp;lia),uw (bc.mp hp).2 h']
theorem To{c:bw}(h:xK c){j:Nat}{e:dA}(hf:¬c.entries.length<c.most)(he:c.entries[j]? =aa e)(my:∀x∈c.entries,age c e<=age c x)(gO:∀(k:Nat) x,k<j->c.entries[k]? =aa x->age c e<age c x):
  h? c={c with entries:=c.entries.eraseIdx j,forgotten:=c.forgotten+1}:=by
 unfold h?;rw[aw hf];have:oldest c=aa e:=K_ (f:=age c) he my gO (by simp);rw[this];simp only;rw[uw h.up he]
theorem zc(h:xK c):xK (h? c)/\(c.most≠0->(h? c).entries.length<c.most)/\(h? c).clock=c.clock/\(h? c).most=c.most/\(∀e∈(h? c).entries,e∈c.entries):=by
 unfold h?;split
 ·rename_i hl;exact⟨h,λ_=>hl,Z,Z,λ_ h=>h⟩
 ·rename_i hl
  cases e:oldest c with
  |none=>
   refine⟨h,λhm=>?_,Z,Z,λ_ h=>h⟩;have:c.entries=[]:=by
    cases q:c.entries with
    |nil=>rfl
    |cons a l=>
     exfalso;unfold oldest at e;rw[q,dB]at e;have key:∀(l:List dA)(a:dA),l.foldl (λ(o:Option dA) e=>match o with
       |none=>aa e
       |some x=>if age c e<age c x then aa e else aa x) (aa a)≠ab:=by
      intro l
      induction l with
      |nil=>intro a;simp
      |cons b l ih=>
       intro a;rw[dB];simp only;split
       ·exact ih b
       ·exact ih a
     exact key l a e
   rw[this]at hl;simp at hl;lia
  |some x=>
   simp only;refine⟨⟨h.rule,h.most,aB (bx _ _) h.len,h.up.filter _,λe he=>h.made e (bB.mp he).1,h.asked.filter _,λe he=>h.ent e (bB.mp he).1⟩,λhm=>?_,(by first|rfl|trivial),(by first|rfl|trivial),λe he=>(bB.mp he).1⟩;have hx:x∈c.entries:=by
    unfold oldest at e;have key:∀(l:List dA)(o:Option dA),(∀y,o=aa y->y∈c.entries)->(∀y∈l,y∈c.entries)->∀y,l.foldl (λ(o:Option dA) e=>match o with
      |none=>aa e
      |some x=>if age c e<age c x then aa e else aa x) o=aa y->y∈c.entries:=by
     intro l
     induction l with
     |nil=>intro o ho _ y hy;exact ho y hy
     |cons b l ih=>
      intro o ho hl y hy;rw[dB]at hy;refine ih _ (λz hz=>?_) (λz hz=>hl z (aD _ hz)) y hy
      cases o with
      |none=>simp only at hz;cases hz;exact hl _ (by simp)
      |some u=>
       simp only at hz;split at hz
       ·cases hz;exact hl _ (by simp)
       ·cases hz;exact ho _ Z
    exact key c.entries ab (by simp) (λ_ h=>h) x e
   obtain⟨j,hj⟩:=List.getElem?_of_mem hx;rw[uw h.up hj,vi];have:=h.len;have gO:=(aY.mp hj).1;rw[aC gO];lia
theorem xK.tick(h:xK c):xK {c with clock:=c.clock+1,misses:=c.misses+1}:=
 ⟨h.rule,h.most,h.len,h.up,λe he=>R9 (h.made e he),h.asked,h.ent⟩
theorem xK.remember(h:xK c)(hq:eN l=aa q)(ha:a.length<=200)(hl:l.length<=60)(hn:∀e∈c.entries,e.asked≠l):xK (remember c l q a):=by
 unfold OY;simp only;split
 ·exact h.tick
 ·rename_i hm;obtain⟨h1,h2,h3,h4,h5⟩:=zc h.tick;refine⟨h1.rule,h1.most,?_,?_,?_,?_,?_⟩
  ·rw[aQ];have:=h2 hm;rw[h4];simp only[aJ,tJ];exact this
  ·rw[Lw];refine⟨h1.up,by simp,λx hx y hy=>?_⟩;have:y.made=c.clock+1:=by simp at hy;rw[hy]
   rw[this];have:=h.made x (h5 x hx);lia
  ·intro e he;rcases df.mp he with he|he
   ·exact h1.made e he
   ·have:e.made=c.clock+1:=by simp at he;rw[he]
    rw[this];show c.clock+1<=(h? _).clock;rw[h3];exact aS _
  ·rw[Lw];refine⟨h1.asked,by simp,λx hx y hy=>?_⟩;have:y.asked=l:=by simp at hy;rw[hy]
   rw[this];exact hn x (h5 x hx)
  ·intro e he;rcases df.mp he with he|he
   ·exact h1.ent e he
   ·simp at he;subst he;exact⟨⟨q,hq,Z,Z⟩,ha,hl⟩
structure wf(s:St):Prop where
 w:p8 s.w
 i:XU s.w s.indexes
 c:xK s.cache
theorem Nt:wf start:=by
 have no:∀t,a_ start.w t=ae:=λt=>by
  unfold a_ bh start;simp
 refine⟨⟨dk,dk,λk h1 h2=>?_,λk h1 h2=>?_,λk h1 h2=>?_,λt h=>?_,λt h=>?_,⟨λt h=>?_,⟨λ_=>0,λt h=>?_⟩⟩⟩,⟨dk,λi h=>nomatch h⟩,xK.new dk dk⟩
 ·have:start.w.kinds.length=0:=Z;lia
 ·have:start.w.kinds.length=0:=Z;lia
 ·have:start.w.kinds.length=0:=Z;lia
 all_goals (rw[no]at h;cases h)
theorem qN(w:World)(l:List dP)(q:bu):(fast w l q).1.length<=q.limit:=by
 unfold fast;simp only;rw[ck];lia
theorem lQ(h:eN l=aa q):q.limit<=200/\ -1<=q.place:=by
 unfold eN at h;split at h
 ·split at h
  ·cases h
  ·rename_i hr;simp only[qm,aK]at hr;have DC:=hr;unfold ma at DC;simp only[aK,decide_eq_true_eq]at DC;split at h
   ·split at h
    ·cases h
    ·split at h
     ·cases h;simp only;lia
     ·cases h
   ·cases h
 ·cases h
theorem NO{ps:xC}(h:ps.all JT=ac):∀p∈ps.map fj,1<=p:=λp hp=>by
 obtain⟨z,hz,rfl⟩:=aV.mp hp;have:=dC.mp h z hz;unfold JT ma at this;simp at this;lia
theorem eB{x lo hi:Int}:ma x lo hi=ac↔lo<=x/\x<=hi:=by unfold ma;simp
theorem rE{s:St}(h:wf s){x:Call}(hr:mX x=ac)(c6:∀q,x= .ask q->q.length<=60):wf (gz s x).1:=by
 have Zi:∀{k:Int}{f:List (Nat×Int)->List (Nat×Int)},1<=k.toNat->k.toNat<=s.w.kinds.length->∀(attrs:V9)(t:Nat),t∉jx s.w k.toNat->kG (pX s.w k.toNat f) attrs t=kG s.w attrs t:=λ{k f} h1 h2 attrs t ht=>by
  by_cases hh:a_ s.w t=ac
  ·refine MH h.w h1 h2 attrs (.inl ?_)
   cases e:isA s.w t _ with
   |false=>rfl
   |true=>exact absurd (oC.mpr ⟨hh,e⟩) ht
  ·unfold kG;have e:a_ (pX s.w k.toNat f) t=a_ s.w t:=Z;rw[e,aw hh,aw hh]
 cases x with
 |kind ps=>
  delta mX at hr;simp only[aK]at hr;have k1:=NO hr.2;show wf (qZ s ps _).1;unfold qZ;split
  ·exact h
  ·rename_i hp;split
   ·exact h
   ·split
    ·exact h
    ·rename_i hn;dsimp only;split
     ·exact h
     ·rename_i o ho;have hl:∀p∈ps.map fj,1<=p/\p<=s.w.kinds.length:=λp hpp=>by
       refine⟨k1 p hpp,?_⟩;obtain⟨z,hz,rfl⟩:=aV.mp hpp;have:¬((s.w.kinds.length:Int)<z):=λq=>hp (gk.mpr ⟨z,hz,by simpa using q⟩);lia
      have Q1:s.w.kinds.length<30:=by unfold KINDS at hn;lia
      refine⟨LF h.w Q1 hl ho,?_,h.c⟩;refine⟨h.i.len,λi hi=>?_⟩;obtain⟨a,b,c,d⟩:=h.i.at_ i hi;refine⟨a,b,c,?_⟩;have:kG (ui s.w (ps.map fj) o) i.attrs=kG s.w i.attrs:=by funext n;exact Mh h.w i.attrs n
      show Canon (kG (ui s.w (ps.map fj) o) i.attrs) i.rows;rw[this];exact d
 |order k=>
  show wf (jk s k _).1;unfold jk;split<;>exact h
 |why ps=>
  show wf (qZ s ps _).1;unfold qZ;split
  ·exact h
  ·split<;>exact h
 |default_ k a x=>
  delta mX at hr;simp only[aK]at hr;have k1:=eB.mp hr.1;have a1:=eB.mp hr.2.1;show wf (jk s k _).1;unfold jk;split
  ·exact h
  ·rename_i hk;have h1:1<=k.toNat:=om;have h2:k.toNat<=s.w.kinds.length:=om;exact⟨LG h.w h1 h2 ((h.w.Gq _ h1 h2).put om),h.i.kept (vx _ _) (Zi (f:=lu a.toNat x) h1 h2),h.c.fall _⟩
 |undefault k a=>
  delta mX at hr;simp only[aK]at hr;have k1:=eB.mp hr.1;show wf (jk s k _).1;unfold jk;split
  ·exact h
  ·rename_i hk;have h1:1<=k.toNat:=om;have h2:k.toNat<=s.w.kinds.length:=om;dsimp only;split
   ·exact h
   ·exact⟨LG h.w h1 h2 (h.w.Gq _ h1 h2).drop,h.i.kept (vx _ _) (Zi (f:=rh a.toNat) h1 h2),h.c.fall _⟩
 |make k p=>
  delta mX at hr;simp only[aK]at hr;have k1:=eB.mp hr.1;have p1:=eB.mp hr.2;show wf (jk s k _).1;unfold jk;split
  ·exact h
  ·rename_i hk;split
   ·exact h
   ·rename_i hp;split
    ·exact h
    ·rename_i hn;have Q1:s.w.things.length<200:=by unfold THINGS at hn;lia
     have OJ:p.toNat=0\/a_ s.w p.toNat=ac:=by
      by_cases e:p=0
      ·left;lia
      ·right
       cases q:a_ s.w p.toNat with
       |true=>rfl
       |false=>exact absurd ⟨e,q⟩ hp
     refine⟨S? h.w Q1 ⟨om,om⟩ OJ,h.i.kept (by simp) (λattrs t ht=>Ma attrs (by simpa using ht)),h.c.fall _⟩
 |drop t d=>
  show wf (eM s t _).1;unfold eM;split
  ·exact h
  ·rename_i ht;have JJ:a_ s.w t.toNat=ac:=by simpa using ht
   simp only;split
   ·exact h
   ·have hx:∀x∈t.toNat::inside s.w t.toNat,1<=x/\x<=s.w.things.length:=λx hx=>by
     rcases aF.mp hx with rfl|hx
     ·exact b? JJ
     ·exact b? (h.w.tree.lj hx)
    exact⟨Ta h.w JJ,h.i.kept (h.w.tree.L7 _) (λattrs u hu=>MB hx attrs hu),h.c.fall _⟩
 |set t a x=>
  delta mX at hr;simp only[aK]at hr;have a1:=eB.mp hr.2.1;show wf (eM s t _).1;unfold eM;split
  ·exact h
  ·rename_i ht;have JJ:a_ s.w t.toNat=ac:=by simpa using ht
   exact⟨LD h.w JJ ((h.w.own _ JJ).put om),h.i.kept (by simp) (λattrs u hu=>Af (f:=lu a.toNat x) JJ attrs (by simpa using hu)),h.c.fall _⟩
 |unset t a=>
  show wf (eM s t _).1;unfold eM;split
  ·exact h
  ·rename_i ht;have JJ:a_ s.w t.toNat=ac:=by simpa using ht
   dsimp only;split
   ·exact h
   ·exact⟨LD h.w JJ (h.w.own _ JJ).drop,h.i.kept (by simp) (λattrs u hu=>Af (f:=rh a.toNat) JJ attrs (by simpa using hu)),h.c.fall _⟩
 |get t a=>
  show wf (eM s t _).1;unfold eM;split<;>exact h
 |move t p=>
  delta mX at hr;simp only[aK]at hr;have t1:=eB.mp hr.1;have p1:=eB.mp hr.2;show wf (eM s t _).1;unfold eM;split
  ·exact h
  ·rename_i ht;have JJ:a_ s.w t.toNat=ac:=by simpa using ht
   split
   ·exact h
   ·rename_i hp;dsimp only;split
    ·exact h
    ·rename_i hm;have OJ:p.toNat=0\/a_ s.w p.toNat=ac:=by
      by_cases e:p=0
      ·left;lia
      ·right
       cases q:a_ s.w p.toNat with
       |true=>rfl
       |false=>exact absurd ⟨e,q⟩ hp
     have n1:p.toNat≠t.toNat:=λq=>hm (.inl om);have n2:p.toNat∉inside s.w t.toNat:=λq=>hm (.inr (gf.mpr q));exact⟨S_ h.w JJ OJ n1 n2,h.i.kept (by simp) (λattrs u _=>L8 JJ attrs u),h.c.fall _⟩
 |held t=>
  show wf (if _ then _ else _:St×xC).1;split<;>exact h
 |inside t=>
  show wf (if _ then _ else _:St×xC).1;split<;>exact h
 |holders t=>
  show wf (eM s t _).1;unfold eM;split<;>exact h
 |index l=>
  delta mX at hr;simp only[aK,decide_eq_true_eq]at hr;show wf (if _ then _ else _:St×xC).1;split
  ·exact h
  ·split
   ·exact h
   ·rename_i hn;unfold INDEXES at hn;refine⟨h.w,⟨by simp;lia,λi hi=>?_⟩,h.c⟩;rcases df.mp hi with hi|hi
    ·exact h.i.at_ i hi
    ·simp at hi;subst hi;refine⟨by simp;lia,by simp;lia,λa ha=>?_,C0 _ _⟩;obtain⟨z,hz,rfl⟩:=aV.mp ha;have:=eB.mp (dC.mp hr.2 z hz);lia
 |unindex i=>
  show wf (if _ then _ else _:St×xC).1;split
  ·exact h
  ·refine⟨h.w,⟨?_,λj hj=>h.i.at_ j (List.mem_of_mem_eraseIdx hj)⟩,h.c⟩;exact aB (List.length_eraseIdx_le ..) h.i.len
 |rows i=>
  show wf (match s.indexes[i.toNat]? with
   |none=>_
   |some x=>_:St×xC).1
  split<;>exact h
 |ask q=>
  have hq:=c6 q Z;show wf (match eN q with
   |none=>_
   |some y=>_:St×xC).1
  split
  ·exact h
  ·rename_i y hy;split
   ·exact⟨h.w,h.i,h.c.touch q⟩
   ·rename_i hn;refine⟨h.w,h.i,h.c.remember hy ?_ hq ?_⟩
    ·exact aB (qN _ _ _) (lQ hy).1
    ·intro e he q';have:=OC.mp hn e he;simp[q']at this
 |plan q=>
  show wf (match eN q with
   |none=>_
   |some y=>_:St×xC).1
  split<;>exact h
 |cache r n=>
  delta mX at hr;simp only[aK]at hr;have r1:=eB.mp hr.1;have n1:=eB.mp hr.2;exact⟨h.w,h.i,xK.new om om⟩
 |stats=>exact h
 |entries=>exact h
 |thing t=>
  show wf (eM s t _).1;unfold eM;split<;>exact h
 |isa t k=>
  show wf (eM s t _).1;unfold eM;split
  ·exact h
  ·show wf (jk s k _).1;unfold jk;split<;>exact h
def pG:List V9:=[[0],[3],[0],[3,7,8],[3,7],[3,6],[4,10],[4,7,8],[4,7],[4,7],[4,6],[5],[5],[4],[1],[9],[9],[2],[2],[11,12],[],[],[4],[4,3]]
def dN(c:Nat):Int×Int:=([(0,0),(0,0),(0,0),(1,30),(1,200),(0,200),(0,200),(0,15),(-1000000000,1000000000),(0,5),(0,1),(0,1),(0,20),(0,30),(-1,200),(0,200),(0,6),(0,7),(0,4),(0,1)]:List (Int×Int)).getD c (0,0)
def bJ(p:Nat):V9:=pG.getD p []
def gl(c:V9):Bool:=c==[0]||c==[1]||c==[2]
def Bx(r:xC):Bool:=match r with
 |[]=>ae
 |m::t=>decide (m=(t.length:Int))
def ja(l:xC):Bool:=match l with
 |[]=>ae
 |p::r=>decide (0<=p/\p<24)&&(if gl (bJ p.toNat)=ac then Bx r else decide (r.length=(bJ p.toNat).length))
def kj(l:xC):xC:=match l with
 |[]=>[]
 |p::r=>if gl (bJ p.toNat)=ac then r.drop 1 else r
def kh(c:V9)(a:xC):Bool:=(c.zip a).all λx=>decide ((dN x.1).1<=x.2)&&decide (x.2<=(dN x.1).2)
def isQ(a:xC):Bool:=
 if a.length<5\/kh [13,14,10,15,16] a=ae then ae
 else
  let at_:=5+3*(a.getD 4 0).toNat
  if a.length<=at_\/kh [18] [a.getD at_ 0]=ae then ae
  else if(a.drop (at_+1)).length≠2*(a.getD at_ 0).toNat then ae
  else kh (be (a.getD 4 0).toNat [7,17,8]).flatten ((a.drop 5).take (at_ - 5))&&kh (be (a.getD at_ 0).toNat [7,19]).flatten (a.drop (at_+1))
def kO(c:V9)(a:xC):Bool:=
 if c=[0]then decide (a.length<=6)&&kh (be a.length 3) a
 else if c=[1]then decide (1<=a.length/\a.length<=3)&&kh (be a.length 7) a
 else if c=[2]then isQ a
 else kh c a
def fJ(w:World)(c:V9)(a:xC):Bool:=(c.zip a).any λx=>
 (decide (x.1=4)&&!a_ w x.2.toNat)||((decide (x.1=5)&&!(decide (x.2=0)||a_ w x.2.toNat))||(decide (x.1=3)&&decide ((w.kinds.length:Int)<x.2)))
def afN(f:Int->Call):xC->Call
 |[k]=>f k
 |_=>.stats
def afM(f:Int->Int->Call):xC->Call
 |[k,b]=>f k b
 |_=>.stats
def afP(f:Int->Int->Int->Call):xC->Call
 |[k,b,x]=>f k b x
 |_=>.stats
def mk(p:Nat)(a:xC):Call:=([.kind,afN .order,.why,afP .default_,afM .undefault,afM .make,afM .drop,afP .set,afM .unset,afM .get,afM .move,afN .held,afN .inside,afN .holders,.index,afN .unindex,afN .rows,.ask,.plan,afM .cache,λ_=>.stats,λ_=>.entries,afN .thing,afM .isa]:List (xC->Call)).getD p (λ_=>.stats) a
theorem XH(t:xC):cut ((t.length:Int)::t)=aa (t,[]):=by
 unfold cut;simp
theorem XI(h:m≠(t.length:Int)):∀x,cut (m::t)≠aa (x,[]):=λx e=>by
 unfold cut at e;simp only at e;split at e
 ·rename_i hr;have e2:=congrArg Prod.snd (bN e);simp at e2;lia
 ·cases e
theorem Ob(l:xC):decode l=if ja l=ac then aa (mk (l.headD 0).toNat (kj l))else ab:=by
 cases l with
 |nil=>rfl
 |cons p r=>
  by_cases hp:0<=p/\p<24
  ·obtain⟨n,rfl⟩:∃n:Nat,p=(n:Int):=⟨p.toNat,om⟩;have hn:n<24:=om;have lst:∀{n:Nat}{f:xC->Call},(0<=(n:Int)/\(n:Int)<24)->gl (bJ n)=ac->(∀a,mk n a=f a)->(decode ((n:Int)::r)=match cut r with
     |some (t,[])=>aa (f t)
     |_=>ab)->decode ((n:Int)::r)=if ja ((n:Int)::r)=ac then aa (mk (((n:Int)::r).headD 0).toNat (kj ((n:Int)::r)))else ab:=by
    intro n f hn hl hm hd;rw[hd];have e1:ja ((n:Int)::r)=Bx r:=by
     unfold ja;simp only[aG,hl,if_true,hn,and_self,decide_true,gq]
    have e2:kj ((n:Int)::r)=r.drop 1:=by
     unfold kj;simp only[aG,hl,if_true]
    rw[e1,e2]
    cases r with
    |nil=>rfl
    |cons m t=>
     unfold Bx;by_cases EC:m=(t.length:Int)
     ·subst EC;rw[XH];simp[hm]
     ·simp only[EC,decide_false,bA,if_false]
      cases q:cut (m::t)with
      |none=>rfl
      |some y=>
       obtain⟨y1,y2⟩:=y
       cases y2 with
       |nil=>exact absurd q (XI EC y1)
       |cons _ _=>rfl
   match n,hn with
   |0,_=>exact lst (f:=.kind) dk dk (λ_=>rfl) Z
   |2,_=>exact lst (f:=.why) dk dk (λ_=>rfl) Z
   |14,_=>exact lst (f:=.index) dk dk (λ_=>rfl) Z
   |17,_=>exact lst (f:=.ask) dk dk (λ_=>rfl) Z
   |18,_=>exact lst (f:=.plan) dk dk (λ_=>rfl) Z
   |1,_|3,_|4,_|5,_|6,_|7,_|8,_|9,_|10,_|11,_|12,_|13,_|15,_|16,_|19,_|20,_|21,_|22,_|23,_=>
    match r with
    |[]=>rfl
    |[_]=>rfl
    |[_,_]=>rfl
    |[_,_,_]=>rfl
    |_::_::_::_::r=>
     have c6:¬(r.length+1+1+1+1=0):=om;have ZW:¬(r.length+1+1+1+1=1):=om;have Q3:¬(r.length+1+1+1+1=2):=om;have IW:¬(r.length+1+1+1+1=3):=om;rw[aw (by simp[ja,bJ,pG,gl,c6,ZW,Q3,IW])];rfl
  ·have e:ja (p::r)=ae:=by
    unfold ja;simp only[hp,decide_false,fQ]
   rw[e];simp only[bA,if_false]
   cases p with
   |negSucc k=>rfl
   |ofNat n=>
    obtain⟨k,rfl⟩:∃k,n=k+24:=⟨n - 24,by simp at hp;lia⟩;rfl
theorem rY(a:xC):kh [] a=ac:=rfl
theorem da(c:Nat)(cs:V9)(z:Int)(zs:xC):kh (c::cs) (z::zs)=(ma z (dN c).1 (dN c).2&&kh cs zs):=rfl
theorem Gi(c:Nat):∀a:xC,kh (be a.length c) a=a.all λz=>ma z (dN c).1 (dN c).2
 |[]=>rfl
 |z::a=>by
  rw[aJ,cM,da,Gi c a,gT]
def dO(c:JA):xC:=[(c.attr:Int),(c.op:Int),c.to]
def sortRow(b:Nat×Bool):xC:=[(b.1:Int),bit b.2]
theorem B6:∀(n:Nat)(r:xC),3*n<=r.length->kh (be n [7,17,8]).flatten (r.take (3*n))=ac->∃cs,conds n r=aa (cs,r.drop (3*n))/\r.take (3*n)=(cs.map dO).flatten/\cs.length=n
 |0,r,_,_=>⟨[],Z,by simp,Z⟩
 |n+1,r,h1,h2=>by
  match r,h1,h2 with
  |a::o::x::r,h1,h2=>
   have e:3*(n+1)=3*n+3:=om;rw[e]at h2 h1 ⊢;have e2:(a::o::x::r).take (3*n+3)=a::o::x::r.take (3*n):=Z;have e3:(a::o::x::r).drop (3*n+3)=r.drop (3*n):=Z;rw[e2]at h2;rw[cM]at h2
   change kh (7::17::8::(be n [7,17,8]).flatten) (a::o::x::r.take (3*n))=ac at h2
   rw[da,da,da,aK,aK,aK]at h2;obtain⟨ha,ho,hx,hr⟩:=h2;obtain⟨cs,k1,k2,k3⟩:=B6 n r (by simp at h1;lia) hr;have ad6:=eB.mp ha;have Ck:=eB.mp ho;have g1:E8 a=ac:=ha;have g2:ma o 0 7=ac:=ho;have g3:Cp x=ac:=hx;refine⟨{attr:=a.toNat,op:=o.toNat,to:=x}::cs,?_,?_,by rw[aJ,k3]⟩
   ·unfold conds;simp only[g1,g2,g3,GS,if_true,k1,gB,e3]
   ·rw[e2,bC,d8,<-k2];have:(7,17)=((7:Nat),(17:Nat)):=Z;have q1:((a.toNat:Nat):Int)=a:=du ad6.1;have q2:((o.toNat:Nat):Int)=o:=du Ck.1;simp[dO,q1,q2]
theorem B5(n:Nat)(a o x:Int)(r:xC):conds (n+1) (a::o::x::r)=if(E8 a&&(ma o 0 7&&Cp x))=ac then(conds n r).map λy=>({attr:=a.toNat,op:=o.toNat,to:=x}::y.1,y.2)else ab:=rfl
theorem AQ(n:Nat)(a d:Int)(r:xC):xU (n+1) (a::d::r)=if(E8 a&&ma d 0 1)=ac then(xU n r).map λy=>((a.toNat,d==1)::y.1,y.2)else ab:=rfl
theorem Jf:∀(n:Nat)(r:xC),¬(3*n<=r.length/\kh (be n [7,17,8]).flatten (r.take (3*n))=ac)->conds n r=ab
 |0,r,h=>absurd ⟨om,Z⟩ h
 |n+1,r,h=>by
  match r,h with
  |[],_=>rfl
  |[_],_=>rfl
  |[_,_],_=>rfl
  |a::o::x::r,h=>
   have e:3*(n+1)=3*n+3:=om;rw[e]at h;have e2:(a::o::x::r).take (3*n+3)=a::o::x::r.take (3*n):=Z;rw[e2,cM]at h
   change ¬(3*n+3<=(a::o::x::r).length/\kh (7::17::8::(be n [7,17,8]).flatten) (a::o::x::r.take (3*n))=ac)at h
   rw[da,da,da]at h;rw[B5];split
   ·rename_i hc;have hc:(ma a (dN 7).1 (dN 7).2&&(ma o (dN 17).1 (dN 17).2&&ma x (dN 8).1 (dN 8).2))=ac:=hc;rw[Jf n r λq=>h ⟨by simp;lia,?_⟩]
    ·rfl
    ·rw[aK,aK]at hc;rw[hc.1,hc.2.1,hc.2.2,q.2];rfl
   ·rfl
theorem Ht:∀(n:Nat)(r:xC),r.length=2*n->kh (be n [7,19]).flatten r=ac->∃b,xU n r=aa (b,[])/\r=(b.map sortRow).flatten/\b.length=n
 |0,r,h,_=>by
  have:r=[]:=nw h;subst this;exact⟨[],Z,Z,Z⟩
 |n+1,r,h1,h2=>by
  match r,h1,h2 with
  |a::d::r,h1,h2=>
   rw[cM]at h2
   change kh (7::19::(be n [7,19]).flatten) (a::d::r)=ac at h2
   rw[da,da,aK,aK]at h2;obtain⟨ha,hd,hr⟩:=h2;obtain⟨b,k1,k2,k3⟩:=Ht n r (by simp at h1;lia) hr;have ad6:=eB.mp ha;have Q?:0<=d/\d<=1:=eB.mp hd;have g1:E8 a=ac:=ha;have g2:ma d 0 1=ac:=hd;refine⟨(a.toNat,d==1)::b,?_,?_,by rw[aJ,k3]⟩
   ·unfold xU;simp only[g1,g2,GS,if_true,k1,gB]
   ·rw[bC,d8,<-k2];have q1:((a.toNat:Nat):Int)=a:=du ad6.1;have q2:bit (d==1)=d:=by
     unfold bit;by_cases e:d=1
     ·subst e;rfl
     ·have:d=0:=om;subst this;rfl
    simp[sortRow,q1,q2]
theorem Hs:∀(n:Nat)(r:xC),¬(r.length=2*n/\kh (be n [7,19]).flatten r=ac)->∀b,xU n r≠aa (b,[])
 |0,r,h,b,e=>by
  simp only[xU,g9,CB]at e;exact h ⟨by rw[e.2];rfl,Z⟩
 |n+1,r,h,b,e=>by
  match r,h,e with
  |[],_,e=>cases e
  |[_],_,e=>cases e
  |a::d::r,h,e=>
   rw[cM]at h
   change ¬((a::d::r).length=2*(n+1)/\kh (7::19::(be n [7,19]).flatten) (a::d::r)=ac)at h
   rw[da,da]at h;rw[AQ]at e;split at e
   ·rename_i hc;have hc:(ma a (dN 7).1 (dN 7).2&&ma d (dN 19).1 (dN 19).2)=ac:=hc
    cases q:xU n r with
    |none=>rw[q]at e;cases e
    |some y=>
     rw[q]at e;simp only[gB,g9,CB]at e;refine Hs n r (λz=>h ⟨by simp;lia,?_⟩) y.1 (by rw[q,<-e.2]);rw[aK]at hc;rw[hc.1,hc.2,z.2];rfl
   ·cases e
theorem IH(h:isQ a=ac):∃q,eN a=aa q/\∃(k p d n m s:Int),a=[k,p,d,n,m]++(q.conds.map dO).flatten++s::(q.by_.map sortRow).flatten/\
  k=(q.kind:Int)/\p=q.place/\d=bit q.deep/\n=(q.limit:Int)/\m=(q.conds.length:Int)/\s=(q.by_.length:Int):=by
 match a,h with
 |[],h=>cases h
 |[_],h=>cases h
 |[_,_],h=>cases h
 |[_,_,_],h=>cases h
 |[_,_,_,_],h=>cases h
 |k::p::d::n::m::r,h=>
  unfold isQ at h;simp only[M7,M6]at h;rw[da,da,da,da,da,rY]at h;split at h
  ·cases h
  ·rename_i h1;split at h
   ·cases h
   ·rename_i h2;split at h
    ·cases h
    ·rename_i h3;rw[aK]at h;obtain⟨hc,hs⟩:=h;simp only[not_or,qm,aK,and_true]at h1;obtain⟨_,q1,q2,q3,q4,q5⟩:=h1;simp only[not_or,Nat.not_le,qm]at h2;obtain⟨h2a,aaE⟩:=h2;have em:∀{l:xC}{i:Nat}{z:Int},(k::p::d::n::m::l).drop (5+i)=l.drop i:=λ{l i z}=>by
      rw[Nat.add_comm];rfl
     have e1:(k::p::d::n::m::r).length=r.length+5:=Z;rw[e1]at h2a;have gO:3*m.toNat<r.length:=om;have e2:(5+3*m.toNat - 5)=3*m.toNat:=om;rw[e2]at hc
     change kh _ (r.take (3*m.toNat))=ac at hc
     obtain⟨cs,c1,c2,c3⟩:=B6 m.toNat r om hc;have e3:(k::p::d::n::m::r).drop (5+3*m.toNat+1)=r.drop (3*m.toNat+1):=by
      have:5+3*m.toNat+1=(3*m.toNat+1)+5:=om;rw[this];rfl
     have e4:(k::p::d::n::m::r).getD (5+3*m.toNat) 0=r.getD (3*m.toNat) 0:=by
      have:5+3*m.toNat=3*m.toNat+5:=om;rw[this];rfl
     rw[e3,e4]at h3 hs;rw[e4]at aaE;obtain⟨s,t,uQ⟩:∃s t,r.drop (3*m.toNat)=s::t:=by
      rw[kE gO];exact⟨_,_,Z⟩
     have e5:r.getD (3*m.toNat) 0=s:=by
      have:=congrArg List.head? uQ;rw[SV]at this;rw[bD,this];rfl
     have e6:r.drop (3*m.toNat+1)=t:=by
      rw[<-Va,uQ];rfl
     rw[e5,e6]at h3 hs;rw[e5]at aaE;simp only[Decidable.not_not]at h3;obtain⟨b,b1,b2,b3⟩:=Ht s.toNat t h3 hs;rw[da,rY,Wd]at aaE;have hq:eN (k::p::d::n::m::r)=aa {kind:=k.toNat,place:=p,deep:=d==1,limit:=n.toNat,conds:=cs,by_:=b}:=by
      unfold eN;have g1:ma k 0 30=ac:=q1;have g2:ma p (-1) 200=ac:=q2;have g3:ma d 0 1=ac:=q3;have g4:ma n 0 200=ac:=q4;have g5:ma m 0 6=ac:=q5;have g6:ma s 0 4=ac:=aaE;simp only[g1,g2,g3,g4,g5,GS,OE,if_false,c1,uQ,g6,b1]
     have q1':=eB.mp q1;have q3':0<=d/\d<=1:=eB.mp q3;have q4':=eB.mp q4;have q5':=eB.mp q5;have q6':=eB.mp aaE;refine⟨_,hq,k,p,d,n,m,s,?_,(du q1'.1).symm,Z,?_,(du q4'.1).symm,?_,?_⟩
     ·rw[<-c2,<-b2,fP,<-uQ,g?];rfl
     ·show d=bit (d==1);unfold bit;by_cases e:d=1
      ·subst e;rfl
      ·have:d=0:=om;subst this;rfl
     ·show m=(cs.length:Int);rw[c3];exact(du q5'.1).symm
     ·show s=(b.length:Int);rw[b3];exact(du q6'.1).symm
theorem QS(h:isQ a=ae):eN a=ab:=by
 match a,h with
 |[],_=>rfl
 |[_],_=>rfl
 |[_,_],_=>rfl
 |[_,_,_],_=>rfl
 |[_,_,_,_],_=>rfl
 |k::p::d::n::m::r,h=>
  unfold isQ at h;simp only[M7,M6]at h;rw[da,da,da,da,da,rY]at h;unfold eN;simp only;by_cases h1:(ma k 0 30&&(ma p (-1) 200&&(ma d 0 1&&(ma n 0 200&&ma m 0 6))))=ae
  ·rw[aC h1]
  ·rw[aw h1];have VR:(ma k 0 30&&(ma p (-1) 200&&(ma d 0 1&&(ma n 0 200&&ma m 0 6))))=ac:=by simpa using h1
   simp only[aK]at VR;obtain⟨q1,q2,q3,q4,q5⟩:=VR;rw[aw (by
    simp only[not_or,qm,aK,and_true];exact⟨by simp,q1,q2,q3,q4,q5⟩)]at h
   have e4:(k::p::d::n::m::r).getD (5+3*m.toNat) 0=r.getD (3*m.toNat) 0:=by
    have:5+3*m.toNat=3*m.toNat+5:=om;rw[this];rfl
   have e3:(k::p::d::n::m::r).drop (5+3*m.toNat+1)=r.drop (3*m.toNat+1):=by
    have:5+3*m.toNat+1=(3*m.toNat+1)+5:=om;rw[this];rfl
   have e2:(5+3*m.toNat - 5)=3*m.toNat:=om;rw[e3,e4,e2]at h
   change (if r.length+5<=5+3*m.toNat\/_ then ae else if _ then ae else(kh _ (r.take (3*m.toNat))&&_))=ae at h
   by_cases hc:3*m.toNat<=r.length/\kh (be m.toNat [7,17,8]).flatten (r.take (3*m.toNat))=ac
   ·obtain⟨cs,c1,c2,c3⟩:=B6 m.toNat r hc.1 hc.2;rw[c1]
    cases uQ:r.drop (3*m.toNat)with
    |nil=>rfl
    |cons s t=>
     have gO:3*m.toNat<r.length:=by
      have:=congrArg lL uQ;simp at this;lia
     have e5:r.getD (3*m.toNat) 0=s:=by
      have:=congrArg List.head? uQ;rw[SV]at this;rw[bD,this];rfl
     have e6:r.drop (3*m.toNat+1)=t:=by
      rw[<-Va,uQ];rfl
     rw[e5,e6,da,rY,Wd]at h;simp only;by_cases hs:ma s 0 4=ae
     ·rw[aC hs]
     ·rw[aw hs];have hs0:ma s 0 4=ac:=by simpa using hs
      have hs':ma s (dN 18).1 (dN 18).2=ac:=hs0;rw[aw (by simp only[not_or,hs'];exact⟨om,by simp⟩),hc.2,gq]at h
      cases q:xU s.toNat t with
      |none=>rfl
      |some y=>
       obtain⟨y1,y2⟩:=y
       cases y2 with
       |cons _ _=>rfl
       |nil=>
        refine absurd q (Hs s.toNat t (λz=>?_) y1);rw[aw (by simp[z.1])]at h;rw[z.2]at h
        cases h
   ·rw[Jf m.toNat r hc]
theorem KS(a:xC):(eN a).isSome=isQ a:=by
 cases h:isQ a with
 |true=>obtain⟨q,e,_⟩:=IH h;rw[e];rfl
 |false=>rw[QS h];rfl
theorem yl(hn:n<24)(hl:gl (bJ n)=ac\/a.length=(bJ n).length):mX (mk n a)=kO (bJ n) a:=by
 have lk:∀a:xC,kh (be a.length 3) a=a.all JT:=λa=>Gi 3 a;have la:∀a:xC,kh (be a.length 7) a=a.all E8:=λa=>Gi 7 a
 match n,hn with
 |0,_=>show _=(decide (a.length<=6)&&kh (be a.length 3) a);rw[lk];rfl
 |2,_=>show _=(decide (a.length<=6)&&kh (be a.length 3) a);rw[lk];rfl
 |14,_=>show _=(decide (1<=a.length/\a.length<=3)&&kh (be a.length 7) a);rw[la];rfl
 |17,_=>exact KS a
 |18,_=>exact KS a
 |1,_|3,_|4,_|5,_|6,_|7,_|8,_|9,_|10,_|11,_|12,_|13,_|15,_|16,_|19,_|20,_|21,_|22,_|23,_=>
  match a,hl with
   |_,.inl hl=>exact absurd hl dk
   |[],.inr hl=>first|rfl|(exfalso;revert hl;decide)
   |[_],.inr hl=>first|(exfalso;revert hl;simp[bJ,pG];done)|(simp[mk,afN,afM,afP,mX,bJ,pG,kO,da,rY,dN,JT,thingIn,holderIn,E8,Cp])
   |[_,_],.inr hl=>first|(exfalso;revert hl;simp[bJ,pG];done)|(simp[mk,afN,afM,afP,mX,bJ,pG,kO,da,rY,dN,JT,thingIn,holderIn,E8,Cp])
   |[_,_,_],.inr hl=>first|(exfalso;revert hl;simp[bJ,pG];done)|(simp[mk,afN,afM,afP,mX,bJ,pG,kO,da,rY,dN,JT,thingIn,holderIn,E8,Cp])
   |_::_::_::_::_,.inr hl=>exfalso;revert hl;simp[bJ,pG]
 |n+24,hn=>exact absurd hn om
theorem F7(h:a_ s.w t.toNat=ae):eM s t f=(s,[-2]):=by
 unfold eM;rw[aC h]
theorem rX(h:a_ s.w t.toNat=ac):eM s t f=f t.toNat:=by
 unfold eM;rw[aw (by rw[h];simp)]
theorem Bu(h:(s.w.kinds.length:Int)<k):jk s k f=(s,[-2]):=by
 unfold jk;rw[aC h]
theorem BJ(h:¬(s.w.kinds.length:Int)<k):jk s k f=f k.toNat:=by
 unfold jk;rw[aw h]
theorem pU(w:World)(a:xC):fJ w [] a=ae:=rfl
theorem T6(w:World)(c:V9)(z:Int)(a:xC):fJ w (4::c) (z::a)=(!a_ w z.toNat||fJ w c a):=by
 unfold fJ;rw[o7,d9];simp
theorem Qy(w:World)(c:V9)(z:Int)(a:xC):fJ w (3::c) (z::a)=(decide ((w.kinds.length:Int)<z)||fJ w c a):=by
 unfold fJ;rw[o7,d9];simp
theorem acX(w:World)(c:V9)(z:Int)(a:xC):fJ w (5::c) (z::a)=(!(decide (z=0)||a_ w z.toNat)||fJ w c a):=by
 unfold fJ;rw[o7,d9];simp
theorem Dx(w:World)(x:Nat)(c:V9)(z:Int)(a:xC)(h3:x≠3)(h4:x≠4)(h5:x≠5):fJ w (x::c) (z::a)=fJ w c a:=by
 unfold fJ;rw[o7,d9];simp[h3,h4,h5]
theorem T3(hn:n<24)(hl:gl (bJ n)=ac\/a.length=(bJ n).length)(hm:fJ s.w (bJ n) a=ac):gz s (mk n a)=(s,[-2]):=by
 have one:∀{x:Nat}{a:xC},x≠3->x≠4->x≠5->fJ s.w [x] a=ae:=λ{x a} h3 h4 h5=>by
  cases a with
  |nil=>rfl
  |cons z a=>rw[Dx _ _ _ _ _ h3 h4 h5];rfl
 match n,hn with
 |0,_=>exact absurd hm (by show¬fJ s.w [0] a=ac;rw[one dk dk dk];simp)
 |2,_=>exact absurd hm (by show¬fJ s.w [0] a=ac;rw[one dk dk dk];simp)
 |14,_=>exact absurd hm (by show¬fJ s.w [1] a=ac;rw[one dk dk dk];simp)
 |17,_=>exact absurd hm (by show¬fJ s.w [2] a=ac;rw[one dk dk dk];simp)
 |18,_=>exact absurd hm (by show¬fJ s.w [2] a=ac;rw[one dk dk dk];simp)
 |15,_=>exact absurd hm (by show¬fJ s.w [9] a=ac;rw[one dk dk dk];simp)
 |16,_=>exact absurd hm (by show¬fJ s.w [9] a=ac;rw[one dk dk dk];simp)
 |20,_=>cases hm
 |21,_=>cases hm
 |1,_=>
  rcases hl with hl|hl
  ·exact absurd hl dk
  ·match a,hl with
   |[k],_=>
    change fJ s.w [3] [k]=ac at hm
    rw[Qy,pU,fN,decide_eq_true_eq]at hm;show gz s (.order k)=_;dsimp only[gz];exact Bu hm
 |3,_=>
  rcases hl with hl|hl
  ·exact absurd hl dk
  ·match a,hl with
   |[k,b,x],_=>
    change fJ s.w [3,7,8] [k,b,x]=ac at hm
    rw[Qy,Dx _ _ _ _ _ dk dk dk,Dx _ _ _ _ _ dk dk dk,pU,fN,decide_eq_true_eq]at hm;show gz s (.default_ k b x)=_;dsimp only[gz];exact Bu hm
 |4,_=>
  rcases hl with hl|hl
  ·exact absurd hl dk
  ·match a,hl with
   |[k,b],_=>
    change fJ s.w [3,7] [k,b]=ac at hm
    rw[Qy,Dx _ _ _ _ _ dk dk dk,pU,fN,decide_eq_true_eq]at hm;show gz s (.undefault k b)=_;dsimp only[gz];exact Bu hm
 |5,_=>
  rcases hl with hl|hl
  ·exact absurd hl dk
  ·match a,hl with
   |[k,b],_=>
    change fJ s.w [3,6] [k,b]=ac at hm
    rw[Qy,Dx _ _ _ _ _ dk dk dk,pU,fN,decide_eq_true_eq]at hm;show gz s (.make k b)=_;dsimp only[gz];exact Bu hm
 |6,_|8,_|9,_|10,_=>
  rcases hl with hl|hl
  ·exact absurd hl dk
  ·match a,hl with
   |[k,b],_=>
    change fJ s.w [4,_] [k,b]=ac at hm
    rw[T6,Dx _ _ _ _ _ dk dk dk,pU,fN,jE]at hm
    delta gz
    dsimp only[mk,afN,afM,M7,M6];exact F7 hm
 |7,_=>
  rcases hl with hl|hl
  ·exact absurd hl dk
  ·match a,hl with
   |[k,b,x],_=>
    change fJ s.w [4,7,8] [k,b,x]=ac at hm
    rw[T6,Dx _ _ _ _ _ dk dk dk,Dx _ _ _ _ _ dk dk dk,pU,fN,jE]at hm;show gz s (.set k b x)=_;dsimp only[gz];exact F7 hm
 |11,_|12,_=>
  rcases hl with hl|hl
  ·exact absurd hl dk
  ·match a,hl with
   |[k],_=>
    change fJ s.w [5] [k]=ac at hm
    rw[acX,pU,fN,jE,vj,decide_eq_false_iff_not]at hm;show(if k≠0/\a_ s.w k.toNat=ae then(s,[-2])else _)=_;rw[aC hm]
 |13,_|22,_=>
  rcases hl with hl|hl
  ·exact absurd hl dk
  ·match a,hl with
   |[k],_=>
    change fJ s.w [4] [k]=ac at hm
    rw[T6,pU,fN,jE]at hm
    delta gz
    dsimp only[mk,afN,afM,M7,M6];exact F7 hm
 |19,_=>
  rcases hl with hl|hl
  ·exact absurd hl dk
  ·match a,hl with
   |[k,b],_=>
    change fJ s.w [11,12] [k,b]=ac at hm
    rw[Dx _ _ _ _ _ dk dk dk,Dx _ _ _ _ _ dk dk dk,pU]at hm
    cases hm
 |23,_=>
  rcases hl with hl|hl
  ·exact absurd hl dk
  ·match a,hl with
   |[t,k],_=>
    change fJ s.w [4,3] [t,k]=ac at hm
    rw[T6,Qy,pU,fN]at hm;show eM s t (λt=>jk s k _)=_
    cases e:a_ s.w t.toNat with
    |false=>exact F7 e
    |true=>
     rw[e]at hm;simp only[wB,wC,decide_eq_true_eq]at hm;rw[rX e];exact Bu hm
 |n+24,hn=>exact absurd hn om
theorem v8(h:ja l=ac):(l.headD 0).toNat<24/\0<=l.headD 0/\(gl (bJ (l.headD 0).toNat)=ac\/(kj l).length=(bJ (l.headD 0).toNat).length):=by
 cases l with
 |nil=>cases h
 |cons p r=>
  unfold ja at h;rw[aK,decide_eq_true_eq]at h;refine⟨by simp;lia,h.1.1,?_⟩;show gl (bJ p.toNat)=ac\/(kj (p::r)).length=(bJ p.toNat).length
  cases e:gl (bJ p.toNat)with
  |true=>exact .inl Z
  |false=>
   right
   have h2:=h.2;rw[e]at h2;simp only[bA,if_false,decide_eq_true_eq]at h2;unfold kj;simp only[e,bA,if_false];exact h2
theorem MF(s:St)(l:xC):does s l=if ja l=ae then(s,[-100])else if kO (bJ (l.headD 0).toNat) (kj l)=ae then(s,[-1])
  else if fJ s.w (bJ (l.headD 0).toNat) (kj l)=ac then(s,[-2])else gz s (mk (l.headD 0).toNat (kj l)):=by
 unfold does;rw[Ob]
 cases e:ja l with
 |false=>simp
 |true=>
  obtain⟨h1,h2,h3⟩:=v8 e;rw[aC Z,aw (by simp)];show step s _=_;unfold step;rw[yl h1 h3];split
  ·rfl
  ·split
   ·rename_i hm;exact T3 h1 h3 hm
   ·rfl
theorem ju(h:fJ w c a=ae):∀(i:Nat)(x:Nat)(z:Int),c[i]? =aa x->a[i]? =aa z->(x=4->a_ w z.toNat=ac)/\(x=5->z=0\/a_ w z.toNat=ac)/\(x=3->z<=(w.kinds.length:Int)):=λi x z hc ha=>by
 unfold fJ at h;have hz:(c.zip a)[i]? =aa (x,z):=by rw[List.getElem?_zip_eq_some];exact⟨hc,ha⟩
 have:=ql.mp h (x,z) (aP hz);simp only[gG,aK,not_or,not_and,decide_eq_true_eq,jE,Bool.not_eq_false']at this;obtain⟨t1,t2,t3⟩:=this;refine⟨λe=>by simpa using t1 e,λe=>?_,λe=>by have:=t3 e;lia⟩;have:=t2 e;by_cases z0:z=0
 ·exact .inl z0
 ·right;simp at this;exact this z0
structure Good(n:Nat)(s:St)(a:xC):Prop where
 lt:n<24
 len:gl (bJ n)=ac\/a.length=(bJ n).length
 Vn:kO (bJ n) a=ac
 L9:fJ s.w (bJ n) a=ae
theorem Good.ranged(g:Good n s a):mX (Tw.mk n a)=ac:=by rw[yl g.lt g.len];exact g.Vn
theorem QF(h:a.length=1):∃x,a=[x]:=by
 match a,h with
 |[x],_=>exact⟨x,Z⟩
theorem IB(h:a.length=2):∃x y,a=[x,y]:=by
 match a,h with
 |[x,y],_=>exact⟨x,y,Z⟩
theorem Zy(h:a.length=3):∃x y z,a=[x,y,z]:=by
 match a,h with
 |[x,y,z],_=>exact⟨x,y,z,Z⟩
theorem gy{z lo hi:Int}(h:ma z lo hi=ac)(h0:0<=lo):∃n:Nat,z=(n:Int)/\lo<=(n:Int)/\(n:Int)<=hi:=by
 obtain⟨h1,h2⟩:=eB.mp h;exact⟨z.toNat,om,om,om⟩
section
variable{s:St}{a:xC}
theorem UB(g:Good 1 s a):∃k:Nat,a=[(k:Int)]/\1<=k/\k<=s.w.kinds.length/\gz s (mk 1 a)=(s,dG (Vbwsad.ints (cS s.w k).order)):=by
 obtain⟨x,rfl⟩:=QF (g.len.resolve_left dk);obtain⟨k,rfl,h1,h2⟩:=gy (show ma x 1 30=ac from g.ranged) dk;have hm:=((ju g.L9) 0 3 (k:Int) Z Z).2.2 Z;refine⟨k,Z,om,om,?_⟩;rw[show gz s (mk 1 [(k:Int)])=(jk s (k:Int) λk=>(s,dG (Vbwsad.ints (cS s.w k).order)))from Z];rw[BJ om,aG]
theorem aaH(g:Good 23 s a):∃n k:Nat,a=[(n:Int),(k:Int)]/\a_ s.w n=ac/\1<=k/\k<=s.w.kinds.length/\gz s (mk 23 a)=(s,[bit (isA s.w n k)]):=by
 obtain⟨x,y,rfl⟩:=IB (g.len.resolve_left dk);have hr:(ma x 1 200&&ma y 1 30)=ac:=g.ranged;rw[aK]at hr;obtain⟨n,rfl,h1,h2⟩:=gy hr.1 dk;obtain⟨k,rfl,h3,h4⟩:=gy hr.2 dk;have hm:=((ju g.L9) 0 4 (n:Int) Z Z).1 Z;have hk:=((ju g.L9) 1 3 (k:Int) Z Z).2.2 Z;rw[aG]at hm;refine⟨n,k,Z,hm,om,om,?_⟩;rw[show gz s (mk 23 [(n:Int),(k:Int)])=(eM s (n:Int) λt=>jk s (k:Int) λk=>(s,[bit (isA s.w t k)]))from Z];rw[rX (by rw[aG];exact hm),BJ om,aG,aG]
theorem aaI(g:Good 9 s a):∃n b:Nat,a=[(n:Int),(b:Int)]/\a_ s.w n=ac/\gz s (mk 9 a)=(s,match ft s.w n b with
  |none=>[0,0,0]
  |some x=>[1,x.1,(x.2:Int)]):=by
 obtain⟨x,y,rfl⟩:=IB (g.len.resolve_left dk);have hr:(ma x 1 200&&ma y 0 15)=ac:=g.ranged;rw[aK]at hr;obtain⟨n,rfl,h1,h2⟩:=gy hr.1 dk;obtain⟨b,rfl,h3,h4⟩:=gy hr.2 dk;have hm:=((ju g.L9) 0 4 (n:Int) Z Z).1 Z;rw[aG]at hm;refine⟨n,b,Z,hm,?_⟩;rw[show gz s (mk 9 [(n:Int),(b:Int)])=(eM s (n:Int) λt=>(s,match ft s.w t (b:Int).toNat with
  |none=>[0,0,0]
  |some x=>[1,x.1,(x.2:Int)]))from Z]
 rw[rX (by rw[aG];exact hm),aG,aG]
theorem Xx(g:Good 11 s a):∃n:Nat,a=[(n:Int)]/\gz s (mk 11 a)=(s,dG (Vbwsad.ints (held s.w n))):=by
 obtain⟨x,rfl⟩:=QF (g.len.resolve_left dk);obtain⟨n,rfl,h1,h2⟩:=gy (show ma x 0 200=ac from g.ranged) dk;have hm:=((ju g.L9) 0 5 (n:Int) Z Z).2.1 Z;rw[aG]at hm;refine⟨n,Z,?_⟩;show(if(n:Int)≠0/\a_ s.w (n:Int).toNat=ae then _ else _)=_;rw[aw (by
  rintro⟨z1,z2⟩;rw[aG]at z2;rcases hm with h|h
  ·exact z1 h
  ·rw[h]at z2;cases z2),aG]
theorem Rg(g:Good 12 s a):∃n:Nat,a=[(n:Int)]/\gz s (mk 12 a)=(s,dG (Vbwsad.ints (inside s.w n))):=by
 obtain⟨x,rfl⟩:=QF (g.len.resolve_left dk);obtain⟨n,rfl,h1,h2⟩:=gy (show ma x 0 200=ac from g.ranged) dk;have hm:=((ju g.L9) 0 5 (n:Int) Z Z).2.1 Z;rw[aG]at hm;refine⟨n,Z,?_⟩;show(if(n:Int)≠0/\a_ s.w (n:Int).toNat=ae then _ else _)=_;rw[aw (by
  rintro⟨z1,z2⟩;rw[aG]at z2;rcases hm with h|h
  ·exact z1 h
  ·rw[h]at z2;cases z2),aG]
theorem I_(hf:bJ n=[4])(g:Good n s a)(hr:∀x,mX (mk n [x])=thingIn x):∃t:Nat,a=[(t:Int)]/\a_ s.w t=ac:=by
 obtain⟨x,rfl⟩:=QF (by
  rcases g.len with h|h
  ·rw[hf]at h;cases h
  ·rw[hf]at h;exact h)
 obtain⟨t,rfl,h1,h2⟩:=gy (show ma x 1 200=ac from(hr x).symm.trans g.ranged) dk;have hm:=((ju g.L9) 0 4 (t:Int) (by rw[hf];rfl) Z).1 Z;rw[aG]at hm;exact⟨t,Z,hm⟩
theorem N4(g:Good 13 s a):∃t:Nat,a=[(t:Int)]/\a_ s.w t=ac/\gz s (mk 13 a)=(s,dG (Vbwsad.ints (holders s.w t))):=by
 obtain⟨t,rfl,h⟩:=I_ Z g λ_=>rfl;refine⟨t,Z,h,?_⟩;rw[show gz s (mk 13 [(t:Int)])=(eM s (t:Int) λt=>(s,dG (Vbwsad.ints (oM s.w t))))from Z];rw[rX (by rw[aG];exact h),aG]
theorem UA(g:Good 22 s a):∃t:Nat,a=[(t:Int)]/\a_ s.w t=ac/\gz s (mk 22 a)=(s,[((bh s.w t).kind:Int),((bh s.w t).holder:Int)]++dG ((bh s.w t).own.flatMap λp=>[(p.1:Int),p.2])):=by
 obtain⟨t,rfl,h⟩:=I_ Z g λ_=>rfl;refine⟨t,Z,h,?_⟩;rw[show gz s (mk 22 [(t:Int)])=(eM s (t:Int) λt=>let x:=bh s.w t;(s,[(x.kind:Int),x.holder]++dG (x.own.flatMap λp=>[(p.1:Int),p.2])))from Z];rw[rX (by rw[aG];exact h),aG]
theorem aaG(hf:bJ n=[9])(g:Good n s a)(hr:∀x,mX (mk n [x])=ma x 0 5):∃i:Nat,a=[(i:Int)]/\i<=5:=by
 obtain⟨x,rfl⟩:=QF (by
  rcases g.len with h|h
  ·rw[hf]at h;cases h
  ·rw[hf]at h;exact h)
 obtain⟨t,rfl,h1,h2⟩:=gy ((hr x).symm.trans g.ranged) dk;exact⟨t,Z,om⟩
theorem N3(g:Good 15 s a):∃i:Nat,a=[(i:Int)]/\i<=5/\gz s (mk 15 a)=if s.indexes.length<=i then(s,[-2])else({s with indexes:=s.indexes.eraseIdx i},[0]):=by
 obtain⟨i,rfl,h⟩:=aaG Z g λ_=>rfl;refine⟨i,Z,h,?_⟩;show(if(s.indexes.length:Int)<=(i:Int)then _ else _)=_;by_cases z:s.indexes.length<=i
 ·rw[aC z,aC om]
 ·rw[aw z,aw om,aG]
theorem Xu(g:Good 16 s a):∃i:Nat,a=[(i:Int)]/\i<=5/\gz s (mk 16 a)=match s.indexes[i]? with
  |none=>(s,[-2])
  |some x=>(s,(x.rows.length:Int)::((x.attrs.length:Int)::x.rows.flatten)):=by
 obtain⟨i,rfl,h⟩:=aaG Z g λ_=>rfl;exact⟨i,Z,h,Z⟩
theorem UD(g:Good 19 s a):∃r m:Nat,a=[(r:Int),(m:Int)]/\gz s (mk 19 a)=({s with cache:={rule:=r,most:=m}},[0]):=by
 obtain⟨x,y,rfl⟩:=IB (g.len.resolve_left dk);have hr:(ma x 0 1&&ma y 0 20)=ac:=g.ranged;rw[aK]at hr;obtain⟨n,rfl,h1,h2⟩:=gy hr.1 dk;obtain⟨b,rfl,h3,h4⟩:=gy hr.2 dk;exact⟨n,b,Z,Z⟩
theorem VS(hf:bJ n=[])(g:Good n s a):a=[]:=by
 rcases g.len with h|h
 ·rw[hf]at h;cases h
 ·rw[hf]at h;exact nw h
theorem Xw(g:Good 5 s a):∃k p:Nat,a=[(k:Int),(p:Int)]/\1<=k/\k<=s.w.kinds.length/\gz s (mk 5 a)=if p≠0/\a_ s.w p=ae then(s,[-3])else if THINGS<=s.w.things.length then(s,[-4])else wl s {s.w with things:=s.w.things++[{kind:=k,holder:=p}]} [s.w.things.length+1] (λ_=>ae) [((s.w.things.length+1:Nat):Int)]:=by
 obtain⟨x,y,rfl⟩:=IB (g.len.resolve_left dk);have hr:(ma x 1 30&&ma y 0 200)=ac:=g.ranged;rw[aK]at hr;obtain⟨k,rfl,h1,h2⟩:=gy hr.1 dk;obtain⟨p,rfl,h3,h4⟩:=gy hr.2 dk;have hm:=((ju g.L9) 0 3 (k:Int) Z Z).2.2 Z;refine⟨k,p,Z,om,om,?_⟩;rw[show gz s (mk 5 [(k:Int),(p:Int)])=(jk s (k:Int) λk=>if(p:Int)≠0/\a_ s.w (p:Int).toNat=ae then(s,[-3])else if THINGS<=s.w.things.length then(s,[-4])else wl s {s.w with things:=s.w.things++[{kind:=k,holder:=(p:Int).toNat}]} [s.w.things.length+1] (λ_=>ae) [((s.w.things.length+1:Nat):Int)])from Z];rw[BJ om,aG,aG];by_cases z:p≠0/\a_ s.w p=ae
 ·rw[aC z,aC ⟨by have:=z.1;lia,z.2⟩]
 ·rw[aw z,aw (λq=>z ⟨by have:=q.1;lia,q.2⟩)]
theorem Xy(g:Good 6 s a):∃t d:Nat,a=[(t:Int),(d:Int)]/\a_ s.w t=ac/\gz s (mk 6 a)=if d=0/\(inside s.w t).isEmpty=ae then(s,[-3])else wl s (nu s.w (t::inside s.w t)) (t::inside s.w t) (λ_=>ae) [(((inside s.w t).length+1:Nat):Int)]:=by
 obtain⟨x,y,rfl⟩:=IB (g.len.resolve_left dk);have hr:(ma x 1 200&&ma y 0 1)=ac:=g.ranged;rw[aK]at hr;obtain⟨t,rfl,h1,h2⟩:=gy hr.1 dk;obtain⟨d,rfl,h3,h4⟩:=gy hr.2 dk;have hm:=((ju g.L9) 0 4 (t:Int) Z Z).1 Z;rw[aG]at hm;refine⟨t,d,Z,hm,?_⟩;rw[show gz s (mk 6 [(t:Int),(d:Int)])=(eM s (t:Int) λt=>if(d:Int)=0/\(inside s.w t).isEmpty=ae then(s,[-3])else wl s (nu s.w (t::inside s.w t)) (t::inside s.w t) (λ_=>ae) [(((inside s.w t).length+1:Nat):Int)])from Z];rw[rX (by rw[aG];exact hm),aG];by_cases z:d=0/\(inside s.w t).isEmpty=ae
 ·rw[aC z,aC ⟨by have:=z.1;lia,z.2⟩]
 ·rw[aw z,aw (λq=>z ⟨by have:=q.1;lia,q.2⟩)]
theorem Xv(g:Good 10 s a):∃t p:Nat,a=[(t:Int),(p:Int)]/\a_ s.w t=ac/\gz s (mk 10 a)=if p≠0/\a_ s.w p=ae then(s,[-3])else if p=t\/(inside s.w t).contains p=ac then(s,[-4])else wl s (zP s.w t p) [] (λe=>!e.places) [0]:=by
 obtain⟨x,y,rfl⟩:=IB (g.len.resolve_left dk);have hr:(ma x 1 200&&ma y 0 200)=ac:=g.ranged;rw[aK]at hr;obtain⟨t,rfl,h1,h2⟩:=gy hr.1 dk;obtain⟨p,rfl,h3,h4⟩:=gy hr.2 dk;have hm:=((ju g.L9) 0 4 (t:Int) Z Z).1 Z;rw[aG]at hm;refine⟨t,p,Z,hm,?_⟩;rw[show gz s (mk 10 [(t:Int),(p:Int)])=(eM s (t:Int) λt=>if(p:Int)≠0/\a_ s.w (p:Int).toNat=ae then(s,[-3])else if(p:Int)=(t:Int)\/(inside s.w t).contains (p:Int).toNat=ac then(s,[-4])else wl s (zP s.w t (p:Int).toNat) [] (λe=>!e.places) [0])from Z];rw[rX (by rw[aG];exact hm),aG,aG];by_cases z:p≠0/\a_ s.w p=ae
 ·rw[aC z,aC ⟨by have:=z.1;lia,z.2⟩]
 ·rw[aw z,aw (λq=>z ⟨by have:=q.1;lia,q.2⟩)];by_cases z2:p=t\/(inside s.w t).contains p=ac
  ·rw[aC z2,aC (by rcases z2 with h|h;exact .inl om;exact .inr h)]
  ·rw[aw z2,aw (by rintro(h|h);exact z2 (.inl om);exact z2 (.inr h))]
theorem aaF(g:Good 7 s a):∃(t b:Nat)(x:Int),a=[(t:Int),(b:Int),x]/\a_ s.w t=ac/\b<=15/\gz s (mk 7 a)=wl s (rK s.w t (lu b x)) [t] (λe=>!e.attrs.contains b) [0]:=by
 obtain⟨x,y,z,rfl⟩:=Zy (g.len.resolve_left dk);have hr:(ma x 1 200&&(ma y 0 15&&Cp z))=ac:=g.ranged;rw[aK,aK]at hr;obtain⟨t,rfl,h1,h2⟩:=gy hr.1 dk;obtain⟨b,rfl,h3,h4⟩:=gy hr.2.1 dk;have hm:=((ju g.L9) 0 4 (t:Int) Z Z).1 Z;rw[aG]at hm;refine⟨t,b,z,Z,hm,om,?_⟩;rw[show gz s (mk 7 [(t:Int),(b:Int),z])=(eM s (t:Int) λt=>wl s (rK s.w t (lu (b:Int).toNat z)) [t] (λe=>!e.attrs.contains (b:Int).toNat) [0])from Z];rw[rX (by rw[aG];exact hm),aG,aG]
theorem Uz(g:Good 8 s a):∃(t b:Nat),a=[(t:Int),(b:Int)]/\a_ s.w t=ac/\b<=15/\gz s (mk 8 a)=if(cK b (bh s.w t).own).isNone=ac then(s,[-3])else wl s (rK s.w t (rh b)) [t] (λe=>!e.attrs.contains b) [0]:=by
 obtain⟨x,y,rfl⟩:=IB (g.len.resolve_left dk);have hr:(ma x 1 200&&ma y 0 15)=ac:=g.ranged;rw[aK]at hr;obtain⟨t,rfl,h1,h2⟩:=gy hr.1 dk;obtain⟨b,rfl,h3,h4⟩:=gy hr.2 dk;have hm:=((ju g.L9) 0 4 (t:Int) Z Z).1 Z;rw[aG]at hm;refine⟨t,b,Z,hm,om,?_⟩;rw[show gz s (mk 8 [(t:Int),(b:Int)])=(eM s (t:Int) λt=>if(cK (b:Int).toNat (bh s.w t).own).isNone=ac then(s,[-3])else wl s (rK s.w t (rh (b:Int).toNat)) [t] (λe=>!e.attrs.contains (b:Int).toNat) [0])from Z];rw[rX (by rw[aG];exact hm),aG,aG]
theorem N5(g:Good 3 s a):∃(k b:Nat)(x:Int),a=[(k:Int),(b:Int),x]/\1<=k/\k<=s.w.kinds.length/\b<=15/\gz s (mk 3 a)=wl s (pX s.w k (lu b x)) (jx s.w k) (λe=>!e.attrs.contains b) [0]:=by
 obtain⟨x,y,z,rfl⟩:=Zy (g.len.resolve_left dk);have hr:(ma x 1 30&&(ma y 0 15&&Cp z))=ac:=g.ranged;rw[aK,aK]at hr;obtain⟨k,rfl,h1,h2⟩:=gy hr.1 dk;obtain⟨b,rfl,h3,h4⟩:=gy hr.2.1 dk;have hm:=((ju g.L9) 0 3 (k:Int) Z Z).2.2 Z;refine⟨k,b,z,Z,om,om,om,?_⟩;rw[show gz s (mk 3 [(k:Int),(b:Int),z])=(jk s (k:Int) λk=>wl s (pX s.w k (lu (b:Int).toNat z)) (jx s.w k) (λe=>!e.attrs.contains (b:Int).toNat) [0])from Z];rw[BJ om,aG,aG]
theorem I0(g:Good 4 s a):∃(k b:Nat),a=[(k:Int),(b:Int)]/\1<=k/\k<=s.w.kinds.length/\b<=15/\gz s (mk 4 a)=if(cK b (cS s.w k).defaults).isNone=ac then(s,[-3])else wl s (pX s.w k (rh b)) (jx s.w k) (λe=>!e.attrs.contains b) [0]:=by
 obtain⟨x,y,rfl⟩:=IB (g.len.resolve_left dk);have hr:(ma x 1 30&&ma y 0 15)=ac:=g.ranged;rw[aK]at hr;obtain⟨k,rfl,h1,h2⟩:=gy hr.1 dk;obtain⟨b,rfl,h3,h4⟩:=gy hr.2 dk;have hm:=((ju g.L9) 0 3 (k:Int) Z Z).2.2 Z;refine⟨k,b,Z,om,om,om,?_⟩;rw[show gz s (mk 4 [(k:Int),(b:Int)])=(jk s (k:Int) λk=>if(cK (b:Int).toNat (cS s.w k).defaults).isNone=ac then(s,[-3])else wl s (pX s.w k (rh (b:Int).toNat)) (jx s.w k) (λe=>!e.attrs.contains (b:Int).toNat) [0])from Z];rw[BJ om,aG,aG]
end
end Tw
namespace Ts
open PySem
def Up(xs:Array Nat):Prop:=∀i j,i<j->j<xs.size->xs.getD i 0<xs.getD j 0
theorem Uy{xs:Array Nat}{i:Nat}(d e:Nat)(h:i<xs.size):xs.getD i d=xs.getD i e:=by
 simp[sL,h]
theorem B_{xs:Array Nat}(hu:Up xs)(j:Nat):∀(f lo hi:Nat),hi - lo<=f->lo<=hi->hi<=xs.size->(∀i,i<lo->xs.getD i 0<j)->(∀i,hi<=i->i<xs.size->j<=xs.getD i 0)->
  kn xs j f lo hi<=xs.size/\(∀i,i<kn xs j f lo hi->xs.getD i 0<j)/\(∀i,kn xs j f lo hi<=i->i<xs.size->j<=xs.getD i 0)
 |0,lo,hi,hf,hl,hh,h1,h2=>by
  have e:lo=hi:=om;subst e;unfold kn;exact⟨hh,h1,h2⟩
 |f+1,lo,hi,hf,hl,hh,h1,h2=>by
  unfold kn;by_cases gO:lo<hi
  ·rw[aC gO];have hm:(lo+hi) / 2<xs.size:=om;dsimp only;rw[Uy j 0 hm];by_cases hc:xs.getD ((lo+hi) / 2) 0<j
   ·rw[aC hc];refine B_ hu j f _ _ om om hh (λi zj=>?_) h2;by_cases e:i=(lo+hi) / 2
    ·rw[e];exact hc
    ·exact mG (hu i _ om hm) hc
   ·rw[aw hc];refine B_ hu j f _ _ om om om h1 (λi zj hs=>?_);by_cases e:i=(lo+hi) / 2
    ·rw[e];lia
    ·have:=hu _ i (show(lo+hi) / 2<i by lia) hs;lia
  ·rw[aw gO];have e:lo=hi:=om;subst e;exact⟨hh,h1,h2⟩
theorem we(hu:Up xs)(j:Nat):bW xs j<=xs.size/\(∀i,i<bW xs j->xs.getD i 0<j)/\(∀i,bW xs j<=i->i<xs.size->j<=xs.getD i 0):=
 B_ hu j xs.size 0 xs.size om (gx _) (aS _) (λi h=>absurd h (CC _)) (λi h h'=>absurd h' (pN.mpr h))
theorem Ll(hu:Up xs)(hi:i<xs.size):bW xs (xs.getD i 0+1)=i+1:=by
 obtain⟨h0,h1,h2⟩:=we hu (xs.getD i 0+1);rcases Nat.lt_trichotomy (bW xs (xs.getD i 0+1)) (i+1)with h|h|h
 ·have:=h2 i om hi;lia
 ·exact h
 ·have h3:=h1 (i+1) h;have h4:=hu i (i+1) om om;lia
theorem Lk(hu:Up xs):bW xs 0=0:=by
 obtain⟨h0,h1,h2⟩:=we hu 0;rcases Nat.eq_zero_or_pos (bW xs 0)with h|h
 ·exact h
 ·exact absurd (h1 0 h) (CC _)
theorem vy(hp:p<=xs.size)(i:Nat):(wu xs p j).getD i 0=if i<p then xs.getD i 0 else if i=p then j else xs.getD (i - 1) 0:=by
 have e:∀(ys:Array Nat)(i:Nat),ys.getD i 0=ys.toList.getD i 0:=λys i=>by simp[sL,Hb];split<;>simp_all
 rw[e,SetTable.toList_insertAt,bD];by_cases h1:i<p
 ·rw[aC h1,kD (by rw[ck,bE];lia),GP h1,e,bD]
 ·rw[aw h1,jZ (by rw[ck,bE];lia),ck,bE,lG hp];by_cases h2:i=p
  ·rw[aC h2,h2];simp
  ·rw[aw h2,show i - p=(i - 1 - p)+1 by lia,sg,OB,e,bD]
   congr 2
   lia
theorem Dz{α:Type}(xs:Array α)(p:Nat)(x:α):(wu xs p x).size=xs.size+1:=by
 rw[<-bE,(SetTable.insertAt_perm xs p x).length_eq];simp
theorem Nf(hu:Up xs)(hn:xs[bW xs j]?≠aa j):Up (wu xs (bW xs j) j):=by
 obtain⟨h0,h1,h2⟩:=we hu j;intro a b BK hb;rw[Dz]at hb;rw[vy h0,vy h0];have hs:∀i,bW xs j<=i->i<xs.size->j<xs.getD i 0:=by
  intro i hi hsz;have h3:=h2 i hi hsz;by_cases e:bW xs j=i
  ·rcases Nat.lt_or_eq_of_le h3 with h|h
   ·exact h
   ·refine absurd ?_ hn;rw[e,ig hsz,h];simp[sL,hsz]
  ·have h4:=hu _ i (show bW xs j<i by lia) hsz;have h5:=h2 _ (aS _) (show bW xs j<xs.size by lia);lia
 by_cases a1:a<bW xs j
 ·rw[aC a1];by_cases b1:b<bW xs j
  ·rw[aC b1];exact hu a b BK om
  ·rw[aw b1];by_cases b2:b=bW xs j
   ·rw[aC b2];exact h1 a a1
   ·rw[aw b2];exact mG (h1 a a1) (hs _ om om)
 ·rw[aw a1,aw (by lia:¬b<bW xs j),aw (by lia:¬b=bW xs j)];by_cases a2:a=bW xs j
  ·rw[aC a2];exact hs _ om om
  ·rw[aw a2];exact hu _ _ om om
theorem Pr(n:Nat):Up (zZ n):=by
 intro i j xu hj;rw[Array.size_range]at hj;simp[sL,hj,mG xu hj,xu]
theorem Pt{l:V9}(h:l.Pairwise (· < ·)):Up l.toArray:=by
 intro i j xu hj;have abK:j<l.length:=by simpa using hj
 have:=kz.mp h i j (mG xu abK) abK xu;simpa[sL,abK,mG xu abK]using this
theorem Td{mask f m:Nat}{led plain:Bool}{hs:Array Int}{t:dJ}{o:Array Nat}(h:O2 mask f m led plain hs=aa (t,o)):Up t.place/\t.dummies=#[]/\t.led=led:=by
 unfold O2 at h
 cases e:SetTable.layClean mask hs with
 |none=>rw[e]at h;cases h
 |some owner=>
  rw[e]at h
  cases h;refine⟨Pt ?_,Z,Z⟩;rw[List.map_filterMap];refine List.Pairwise.sublist (l₂:=cF (mask+1)) ?_ JF;generalize cF (mask+1)=l
  induction l with
  |nil=>exact .slnil
  |cons a l ih=>
   rw[c9]
   cases owner.getD a ab with
   |none=>exact .cons _ ih
   |some b=>exact .cons_cons _ ih
def jh(b:Bool)(t:dJ):Prop:=Up t.place/\t.dummies=#[]/\(b=ac\/t.led=ac)
theorem jh.standIn(h:jh b t)(n:Nat):jh b (t.standIn n):=⟨Pr n,rfl,h.2.2⟩
theorem jh.orStandIn(h:jh b t)(n:Nat):jh b (t.orStandIn n):=by
 unfold SetTable.orStandIn;split
 ·exact h
 ·exact h.standIn n
theorem jh.fresh(f m:Nat):jh b (.fresh f m !b):=⟨λi j _ h=>absurd h (CC _),rfl,by cases b<;>simp[SetTable.fresh]⟩
theorem jh.off(h:jh b t)(p:Bool):jh b {t with plain:=p}:=h
theorem Kg{t:dJ}{j:Nat}(h:t.slot j= .empty):t.place[bW t.place j]?≠aa j:=by
 intro e;unfold O1 at h;simp[e]at h
theorem A9(hd:t.dummies=#[])(f:Nat->Int)(h:Int):∀(n:Nat)(p:Oz)(j:Nat)(d:Option Nat),p.dummy=ab->sZ t f h n p=aa (.empty j d)->d=ab/\t.slot j= .empty
 |0,p,j,d,hp,e=>by unfold sZ at e;cases e
 |n+1,p,j,d,hp,e=>by
  unfold sZ at e;have adv:∀p:Oz,p.dummy=ab->(t.advance p).dummy=ab:=by
   intro p hp;unfold SetTable.advance;split
   ·exact hp
   ·exact hp
  split at e
  ·rename_i hs
   cases e;exact⟨hp,hs⟩
  ·rename_i hs;unfold O1 DT at hs;rw[hd]at hs;dsimp only at hs;by_cases c:(t.place[bW t.place p.j]? ==aa p.j)=ac
   ·rw[aC c]at hs;cases hs
   ·rw[aw c]at hs;simp at hs
  ·split at e
   ·cases e
   ·exact A9 hd f h n _ j d (adv p hp) e
theorem BQ{t:dJ}(hd:t.dummies=#[]){h:Int}{j:Nat}{d:Bool}(e:t.freeSlot h=aa (j,d)):t.slot j= .empty:=by
 unfold SetTable.freeSlot at e;split at e
 ·rename_i j' d' he;have:=A9 hd _ h _ _ _ _ Z he
  cases e;rw[this.1];exact this.2
 ·cases e
theorem jh.put{b:Bool}{t:dJ}(h:jh b t){j:Nat}(hs:t.slot j= .empty):jh b (t.put j).1:=by
 refine⟨Nf h.1 (Kg hs),?_,h.2.2⟩;show(if DT t.dummies j then _ else t.dummies)=#[];rw[aw,h.2.1];rw[h.2.1];simp[DT]
theorem jh.layNew{b:Bool}{t:dJ}(h:jh b t)(es:Array (Int×ai))(k:Int)(x:ai):jh b (layNew t es k x).2.1:=by
 unfold PySem.layNew;split
 ·rename_i j d e;exact(h.put (BQ h.2.1 e)).orStandIn _
 ·exact h.standIn _
theorem jh.relayAll(h:jh b t)(es:Array (Int×ai))(n:Nat):jh b (SE t es n).2.1:=by
 unfold PySem.relayAll;split
 ·rename_i t' o e;dsimp only;split
  ·obtain⟨h1,h2,h3⟩:=Td e;exact⟨h1,h2,by rw[h3];exact h.2.2⟩
  ·exact h.standIn _
 ·exact h.standIn _
theorem pW{α:Type}:∀{l:List α}{i:Nat}(h:i<l.length),(l[i]::l.eraseIdx i).Perm l
 |a::l,0,_=>.refl _
 |a::l,i+1,h=>by
  rw[lM,List.getElem_cons_succ];exact(List.Perm.swap _ _ _).trans (.cons _ (pW (by simpa using h)))
theorem pq{α:Type}(next:Nat->Nat):∀(f k:Nat)(l:List α)(out:Array α),l.length=f->(Cr next f k l out).toList.Perm (out.toList++l)
 |0,k,l,out,h=>by
  have:l=[]:=sf.mp h;subst this;unfold Cr;simp
 |f+1,k,l,out,h=>by
  unfold Cr;have gO:next k % l.length<l.length:=Nat.mod_lt _ om
  rw[aR gO];dsimp only;refine(pq next f (k+1) _ _ (by rw[vi,aC gO,h];rfl)).trans ?_;rw[OF,fP];refine List.Perm.append_left _ ?_;rw[J0];exact pW gO
theorem tZ{α:Type}(next:Nat->Nat)(xs:Array α):(E7 next xs).toList.Perm xs.toList:=by
 have:=pq next xs.size 0 xs.toList #[] (bE ..)
 simpa[E7]using this
theorem lR{α β:Type}{f:α->β}{xs ys:List β}(p:xs.Perm ys):∀l:List α,ys=l.map f->∃l':List α,l'.Perm l/\xs=l'.map f:=by
 induction p with
 |nil=>
  intro l e;exact⟨l,.refl _,e⟩
 |cons a q ih=>
  intro l e
  cases l with
  |nil=>cases e
  |cons b l=>
   rw[bC]at e;injection e with e1 e2
   obtain⟨l',q1,q2⟩:=ih l e2;exact⟨b::l',q1.cons b,by rw[bC,<-q2,e1]⟩
 |swap a b q=>
  intro l e
  match l,e with
  |c::d::l,e=>
   rw[bC,bC]at e;injection e with e1 e2
   injection e2 with e2 e3
   exact⟨d::c::l,.swap _ _ _,by rw[bC,bC,<-e1,<-e2,e3]⟩
 |trans q1 q2 ih1 ih2=>
  intro l e;obtain⟨l1,p1,e1⟩:=ih2 l e;obtain⟨l2,p2,e2⟩:=ih1 l1 e1;exact⟨l2,p2.trans p1,e2⟩
def mz(p:Int×qc):Int×ai:=(sW p.1,.int p.1 p.2)
abbrev ET(w:World):Bool:=w.params.followText "set-order"
structure iF(w:World)(h:bO)(a:ao)(es:Array (Int×ai))(ep:Nat)(t:dJ)(l:List (Int×qc)):Prop where
 obj:∃o,h.get? a=aa o/\o.ExactSet/\o.data= .set es ep t
 ent:es.toList=l.map mz
 fits:t.fits es.size=ac
 tab:jh (ET w) t
 nodup:(l.map (·.1)).Nodup
 room:l.length<h_
theorem iF.size(S:iF w h a es ep t l):es.size=l.length:=by
 rw[<-bE,S.ent,af]
theorem iF.keep(S:iF w h a es ep t l)(k:∀o,h.get? a=aa o->h'.get? a=aa o):iF w h' a es ep t l:=
 ⟨let⟨o,e,r⟩:=S.obj;⟨o,k o e,r⟩,S.ent,S.fits,S.tab,S.nodup,S.room⟩
variable{prog:ba}{w:World}{A:cb}{E:ai->aq->Prop}{s:aq}
theorem elems(prog:ba)(w:World)(l:List (Int×qc)):ElemsOf (gR prog w) (l.map mz):=by
 intro e he;obtain⟨p,_,rfl⟩:=aV.mp he;exact⟨⟨p.1,nW prog w p.1 p.2,Z⟩,Z⟩
theorem OT{h:bO}{a:ao}{o:gt}{es oU:Array (Int×ai)}{ep:Nat}{t t':dJ}{l:List (Int×qc)}(ho:h.get? a=aa o)(hx:o.ExactSet)(hd:o.data= .set es ep t)(he:oU.toList=l.map mz)(hf:t'.fits oU.size=ac)
 (ht:jh (ET w) t')(hn:(l.map (·.1)).Nodup)(hb:l.length<h_):iF w (h.update a (xZ oU t')) a oU (ep+1) t' l:=by
 have g:(h.update a (xZ oU t')).get? a=aa (xZ oU t' o):=cW (xZ oU t') ho (by rw[putSet_of oU t' hd];rfl);rw[putSet_of oU t' hd]at g;exact⟨⟨_,g,hx,Z⟩,he,hf,ht,hn,hb⟩
theorem MQ{g:Bool->uX Unit}(hg:∀(b:Bool) (fX:aq) (Q':Unit->aq->Prop),Q' () fX->aU (bg prog w) A (g b) Q' E fX)
 {a:ao}{o:gt}{es:Array (Int×ai)}{ep:Nat}{t:dJ}(ho:s.heap.get? a=aa o)(hx:o.ExactSet)(hd:o.data= .set es ep t)
 {e1:Array (Int×ai)}{t2:dJ}{l1:List (Int×qc)}(he:e1.toList=l1.map mz)(hf:t2.fits e1.size=ac)(ht:jh (ET w) t2)(hn:(l1.map (·.1)).Nodup)(hb:l1.length<h_){wd:Bool}{R:Option Bool->aq->Prop}
 (h:∀h' oU xS t' l',eG a s.heap h'->iF w h' a oU xS t' l'->l'.Perm l1->R (aa ac) {s with heap:=h'}):
  aU (bg prog w) A (do
    storeSet a e1 t2
    if(!wd&&t2.tooFull)=ac then do
      g (SE t2 e1 (lD e1.size)).2.2
      storeSet a (SE t2 e1 (lD e1.size)).1 (SE t2 e1 (lD e1.size)).2.1
      pure (aa ac)
     else pure (aa ac)) R E s:=by
 have z1:e1.size=l1.length:=by rw[<-bE,he,af]
 refine ag (Cn ho hd ?_ (fits_of_scanBound (by rw[z1];exact hb)));have S1:=OT (w:=w) ho hx hd he hf ht hn hb;have u1:=cQ s.heap a (xZ e1 t2);split
 ·obtain⟨l2,q2,e2⟩:=lR (relayAll_perm t2 e1 (lD e1.size)) l1 he;have f2:=relayAll_fits t2 e1 (lD e1.size);have k2:=ht.relayAll e1 (lD e1.size);obtain⟨o1,g1,x1,d1⟩:=S1.obj;have b2:l2.length<h_:=by rw[q2.length_eq];exact hb
  refine ag (hg _ _ _ ?_);refine ag (Cn g1 d1 ?_ (fits_of_scanBound (by rw[<-bE,e2,af];exact b2)));exact au (h _ _ _ _ l2 (u1.trans (cQ _ a _)) (OT g1 x1 d1 e2 f2 k2 ((q2.map _).nodup_iff.mpr hn) b2) q2)
 ·exact au (h _ _ _ _ l1 u1 S1 (.refl _))
theorem add_int{a:ao}{es:Array (Int×ai)}{ep:Nat}{t:dJ}{l:List (Int×qc)}{k:Int}{u:qc}{Q:Bool->aq->Prop}(S:iF w s.heap a es ep t l)(hr:l.length+1<h_)
 (h:∀b h' oU xS t' l',eG a s.heap h'->iF w h' a oU xS t' l'->(l'.map (·.1)).Perm (if k∈l.map (·.1)then l.map (·.1)else k::l.map (·.1))->Q b {s with heap:=h'}):
  aU (bg prog w) A (OW a (.int k u) (sW k)) Q E s:=by
 obtain⟨o,ho,hx,hd⟩:=S.obj;have adX:ElemsOf (gR prog w) es.toList:=by rw[S.ent];exact elems prog w l
 have hk:=nW prog w k u;have hb:es.size<h_:=by rw[S.size];exact S.room
 unfold OW setAddHashedIn;refine fu (ag (f_ ho hd S.fits ?_));dsimp only;rw[byScan_of (knd:=gR prog w) (x:=.int k u) Z hb adX];simp only[↓reduceIte];unfold setAddByScan;refine ag (ag (kR (ag ?_)));refine wpAny_setScan_of (knd:=gR prog w) (k:=k) hk ho hd S.fits adX ?_;have key:∀e∈es.toList,(gR prog w).is k e.2=ac↔∃p∈l,mz p=e/\p.1=k:=by
  intro e he;rw[S.ent]at he;obtain⟨p,hp,rfl⟩:=aV.mp he;constructor
  ·intro z;exact⟨p,hp,Z,(gR prog w).inj _ _ _ (nW prog w p.1 p.2) z⟩
  ·rintro⟨p',OJ,e',rfl⟩;have e2:=congrArg Prod.snd e';rw[<-e2];exact nW prog w p'.1 p'.2
 cases hf:List.findIdx? (λe=>(gR prog w).is k e.2) es.toList with
 |some j=>
  dsimp only;obtain⟨hj,pj,_⟩:=List.findIdx?_eq_some_iff_getElem.mp hf;obtain⟨p,hp,_,e⟩:=(key _ (R' hj)).mp pj;have hm:k∈l.map (·.1):=e▸fV hp;refine au (au ?_);have:=h ae s.heap es ep t l (kN a s.heap) S (by rw[aC hm]);exact this
 |none=>
  dsimp only;have hm:k∉l.map (·.1):=by
   intro hm;obtain⟨p,hp,e⟩:=aV.mp hm;have hq:mz p∈es.toList:=by rw[S.ent];exact fV hp
   have:=List.findIdx?_eq_none_iff.mp hf _ hq;rw[(key _ hq).mpr ⟨p,hp,Z,e⟩]at this
   cases this
  have hgw:∀(b:Bool){fX:aq}{Q':Unit->aq->Prop},Q' () fX->aU (bg prog w) A (match b with|true=>rule "set.scan.the-table-gave-way" |false=>pure ()) Q' E fX:=
   λb fX Q' q=>by cases b;exact au q;exact kR q
  have p1:=layNew_perm t es (sW k) (.int k u);have f1:=layNew_fits t es (sW k) (.int k u);have t1:=S.tab.layNew es (sW k) (.int k u);show aU _ _ (match layNew t es (sW k) (.int k u)with|(es,t,YS,aeg)=>_) _ _ _;generalize layNew t es (sW k) (.int k u)=L at p1 f1 t1 ⊢;obtain⟨e1,t1',wd,aeg⟩:=L;dsimp only at p1 f1 t1 ⊢;rw[OF,S.ent,show l.map mz++[(sW k,j5 k u)]=(l++[(k,u)]).map mz from by rw[bz];rfl]at p1;obtain⟨l1,q1,i1⟩:=lR p1 _ Z;have m1:(l1.map (·.1)).Perm (k::l.map (·.1)):=by
   refine(q1.map _).trans ?_;rw[bz];exact List.perm_append_singleton _ _
  have n1:(l1.map (·.1)).Nodup:=m1.nodup_iff.mpr (cc.mpr ⟨hm,S.nodup⟩);have b1:l1.length<h_:=by rw[q1.length_eq,aQ];exact hr
  have fin:∀h' oU xS t' l',eG a s.heap h'->iF w h' a oU xS t' l'->l'.Perm l1->Q ac {s with heap:=h'}:=λh' oU xS t' l' u' S' q'=>h ac h' oU xS t' l' u' S' (by rw[aw hm];exact(q'.map _).trans m1);refine ag (hgw _ ?_);split
  ·refine ag ?_;rw[hashByValue_scannable 8 (x:=.int k u) Z];refine au (MQ ?_ ho hx hd i1 ?_ ?_ n1 b1 λh' oU xS t' l' u' S' q'=>?_)
   ·intro b fX Q' q;cases b;exact au q;exact kR q
   ·split
    ·exact f1
    ·exact SetTable.fits_plain_off f1
   ·split
    ·exact t1
    ·exact t1.off ae
   ·exact au (fin h' oU xS t' l' u' S' q')
  ·refine ag (au ?_);simp only[↓reduceIte];refine MQ ?_ ho hx hd i1 f1 t1 n1 b1 λh' oU xS t' l' u' S' q'=>au (fin h' oU xS t' l' u' S' q');intro b fX Q' q;cases b;exact au q;exact kR q
theorem Rq(S:iF w s.heap a es ep t l)(h:∀r:Option Nat,r.isSome=decide (k∈l.map (·.1))->Q r s):
  aU (bg prog w) A (setFind a (.int k u) (sW k)) Q E s:=by
 obtain⟨o,ho,hx,hd⟩:=S.obj;refine wpAny_setFind_of (knd:=gR prog w) (S:=λk=>decide (k∈l.map (·.1))) (n:=es.size) (nW prog w k u) Z ⟨o,es,ep,t,ho,hx,hd,by rw[S.ent];exact elems prog w l,λk'=>?_,by rw[S.size];exact S.room,S.fits,Z⟩ h;rw[decide_eq_true_iff,S.ent];constructor
 ·intro hm;obtain⟨p,hp,rfl⟩:=aV.mp hm;exact⟨mz p,fV hp,nW prog w p.1 p.2⟩
 ·rintro⟨e,he,z⟩;obtain⟨p,hp,rfl⟩:=aV.mp he;rw[(gR prog w).inj _ _ _ z (nW prog w p.1 p.2)];exact fV hp
theorem cP:Slot "set_iterator" "__next__" "set_iterator.__next__":=
 O0 (owner:="set_iterator") (n:="__next__") (by rw[iP,fo];kernel_rfl) dK dK dK (bi dK) (by rw[ni];kernel_rfl)
theorem js:Slot "set_iterator" "__iter__" "set_iterator.__iter__":=
 O0 (owner:="set_iterator") (n:="__iter__") (by rw[iP,fo];kernel_rfl) dK dK dK (bi dK) (by rw[ni];kernel_rfl)
theorem slot_set_iter:Slot "set" "__iter__" "set.__iter__":=
 O0 (owner:="set") (n:="__iter__") (by rw[iP,fo];kernel_rfl) dK dK dK (bi dK) (by rw[ni];kernel_rfl)
theorem slot_set_and:Slot "set" "__and__" "set.__and__":=
 O0 (owner:="set") (n:="__and__") (by rw[iP,fo];kernel_rfl) dK dK dK (bi dK) (by rw[ni];kernel_rfl)
theorem jb:Cw table "set_iterator.__next__"=aa gS.«set_iterator.__next__»:=entryFor_of_tree (by kernel_rfl)
theorem oH:Cw table "set_iterator.__iter__"=aa gS.«dict_keyiterator.__iter__»:=
 JV (id':="dict_keyiterator.__iter__") (by kernel_rfl) Z dK (by kernel_rfl)
theorem B0:Cw table "set.__iter__"=aa gS.«frozenset.__iter__»:=
 JV (id':="frozenset.__iter__") (by kernel_rfl) Z dK (by kernel_rfl)
theorem DJ:Cw table "set.__and__"=aa gS.«frozenset.__and__»:=
 JV (id':="frozenset.__and__") (by kernel_rfl) Z dK (by kernel_rfl)
theorem jw(a:ai):vI "set_iterator.__next__" ⟨[a],[]⟩:=by unfold vI;kernel_rfl
theorem pL(a:ai):vI "set_iterator.__iter__" ⟨[a],[]⟩:=by unfold vI;kernel_rfl
theorem DN(a:ai):vI "set.__iter__" ⟨[a],[]⟩:=by unfold vI;kernel_rfl
theorem Gv(a b:ai):vI "set.__and__" ⟨[a,b],[]⟩:=by unfold vI;kernel_rfl
theorem fills_set_and:fillsNumberSlot (.type "set") "and"=pure ac:=
 fillsNumberSlot_of (id:="set.__and__") (r:=aa (.builtin "set.__rand__")) slot_set_and.lookup dK (by rw[iP,fo];kernel_rfl)
def Pp(p:Int×qc):ai:=.int p.1 p.2
def mP(h:bO)(I a:ao)(first:ai)(i n ep:Nat):Prop:=∃o,h.get? I=aa o/\o.cls= .type "set_iterator"/\o.data= .fields #[first,.int i 0,.ref a,.int n 0,.int ep 0]
theorem mP.typeIs{s:aq}{I a:ao}{f:ai}{i n ep:Nat}(x:mP s.heap I a f i n ep):s.TypeIs (.ref I) "set_iterator":=let⟨o,ho,hc,_⟩:=x;⟨o,ho,hc⟩
theorem mP.at(x:mP h I a f i n ep)(e:∀o,h.get? I=aa o->h'.get? I=aa o):mP h' I a f i n ep:=let⟨o,ho,r⟩:=x;⟨o,e _ ho,r⟩
theorem J7(hn:n≠0)(h:∀i,i<n->Q i {s with drawn:=s.drawn.bump src}):aU (bg prog w) A (choose src n) Q E s:=
 λ_ _ _=>⟨hn,h _ (Nat.mod_lt _ (Nat.pos_of_ne_zero hn))⟩
theorem MC{α:Type}:∀(n:Nat)(xs:List α)(s:aq)(Q:List α->aq->Prop),xs.length=n->(∀ys d,ys.Perm xs->Q ys {s with drawn:=d})->aU (bg prog w) A (drawOrder n xs) Q E s
 |0,xs,s,Q,hn,h=>by
  have:xs=[]:=sf.mp hn;subst this;exact au (h [] s.drawn (.refl _))
 |n+1,[],s,Q,hn,h=>absurd hn (by simp)
 |n+1,x::xs,s,Q,hn,h=>by
  unfold drawOrder;refine ag (J7 (by simp) λi hi=>?_);rw[aR hi];dsimp only;refine ag (MC n _ _ _ (by rw[vi,aC hi,hn];rfl) λys d hp=>au (h _ d ?_));exact(hp.cons _).trans (pW hi)
theorem Ql{a:ao}{es:Array (Int×ai)}{ep:Nat}{t:dJ}{l l':List (Int×qc)}{i slot:Nat}{Q:Option (ai×Nat)->aq->Prop}(S:iF w s.heap a es ep t l)(hb:ET w=ac)
 (hl:(E7 (w.params.setOrder a ep) es).toList=l'.map mz)(h:Q ((l'.map Pp)[i]?.map λv=>(v,slot)) s):aU (bg prog w) A (Cq a slot i ep) Q E s:=by
 obtain⟨o,ho,hx,hd⟩:=S.obj;unfold Cq;refine ag (f_ ho hd S.fits ?_);refine ag (ag (fL (au ?_)));show aU _ _ (if ET w=ac then _ else _) _ _ _;rw[aC hb];dsimp only;rw[bne_self_eq_false];simp only[bA,↓reduceIte];refine ag ?_;unfold setWalk;refine ag (f_ ho hd S.fits ?_);refine ag (ag (fL (au ?_)));show aU _ _ (if ET w=ac then _ else _) _ _ _;rw[aC hb];refine ag (fL (au (au ?_)));have e:((E7 (w.params.setOrder a ep) es)[i]?).map (λe=>(e.2,slot))=(l'.map Pp)[i]?.map λv=>(v,slot):=by
  rw[<-cU,hl,aA,aA]
  cases l'[i]?<;>rfl
 show Q (((E7 (w.params.setOrder a ep) es)[i]?).map (λe=>(e.2,slot))) s;rw[e];exact h
theorem NK(S:iF w s.heap a es ep t l)(hb:ET w=ae)
 (Q?:(!t.plain&&decide (es.size>1))=ae)(hs:bW t.place slot=i)(h:∀qt,bW t.place qt=i+1\/l.length<=i->Q ((l.map Pp)[i]?.map λv=>(v,qt)) s):aU (bg prog w) A (Cq a slot i xS) Q E s:=by
 obtain⟨o,ho,hx,hd⟩:=S.obj;have hp:t.place.size=es.size:=by
  have:=S.fits;simp only[SetTable.fits,aK,beq_iff_eq]at this;exact this.1
 unfold Cq;refine ag (f_ ho hd S.fits ?_);refine ag (ag (fL (au ?_)));show aU _ _ (if ET w=ac then _ else _) _ _ _;rw[aw (by rw[hb];exact bf)];show aU _ _ (if(!t.plain&&decide (es.size>1))=ac then _ else _) _ _ _;rw[aw (by rw[Q?];exact bf)];have Xf:t.led=ac:=S.tab.2.2.elim (λz=>absurd (z.symm.trans hb) dk) id;refine ag ?_;show aU _ _ (if(!t.led&&!es.isEmpty)=ac then _ else pure ()) _ _ _;rw[aw (by rw[Xf];exact bf)];refine au ?_;show aU _ _ (pure (match es[bW t.place slot]?,t.place[bW t.place slot]? with|some (_,x),aa j=>aa (x,j+1)|_,_=>ab)) _ _ _;rw[hs];have e1:es[i]? =(l[i]?).map mz:=by rw[<-cU,S.ent,aA]
 by_cases hi:i<l.length
 ·have zj:i<t.place.size:=by rw[hp,S.size];exact hi
  have e2:t.place[i]? =aa (t.place.getD i 0):=by rw[ig zj];simp[sL,zj]
  rw[e1,e2,aR hi];refine au ?_;have:=h (t.place.getD i 0+1) (.inl (Ll S.tab.1 zj));rw[aA,aR hi]at this;exact this
 ·have DF:l.length<=i:=pN.mp hi;rw[e1,cV DF];refine au ?_;have:=h 0 (.inr DF);rw[aA,cV DF]at this;exact this
theorem Hi{F:Nat->Nat->Prop}(hh:A.handled=ab)(I a:ao)(iQ:a≠I){es:Array (Int×ai)}{ep:Nat}{t:dJ}{l l':List (Int×qc)}(hl:l'.length=l.length)
 (hn:∀(A:cb) (E:ai->aq->Prop) (s:aq) (Q:Option (ai×Nat)->aq->Prop) (i slot:Nat),iF w s.heap a es ep t l->F slot i->(∀qt,(i<l.length->F qt (i+1))->Q ((l'.map Pp)[i]?.map λv=>(v,qt)) s)->aU (bg prog w) A (Cq a slot i ep) Q E s):
  Walks prog w A I [I,a] [I] l.length (λi v=>(l'.map Pp)[i]? =aa v) (λi h=>iF w h a es ep t l/\∃slot,F slot i/\mP h I a (.int slot 0) i l.length ep)where
 sub:=λb hb=>by simp at hb;simp[hb]
 frame:=λi h h' st hk=>⟨st.1.keep λo e=>hk a (by simp) o e,let⟨k,f,it⟩:=st.2;⟨k,f,it.at λo e=>hk I (by simp) o e⟩⟩
 item:=λi s Q E hi st hQ=>by
  obtain⟨S,slot,f,it⟩:=st;obtain⟨o,ho,hc,hd⟩:=id it;obtain⟨oa,IR,Si,NZ⟩:=S.obj;unfold j4;refine ag (jV (dy (name:=al "__next__") it.typeIs cP (cE cP it.typeIs jb ?_ (jw _))));show aU _ _ (SI (.ref I)>>=_) _ _ s;refine ag (nh ho hd ?_);show aU _ _ (JQ a>>=_) _ _ s;refine ag (ge IR NZ S.fits ?_);rw[S.size,bne_self_eq_false];simp only[bA,↓reduceIte];show aU _ _ (Cq a (fj (slot:Int)) (fj (i:Int)) (fj (ep:Int))>>=_) _ _ s;simp only[aG];refine ag (hn _ _ _ _ i slot S f λqt f'=>?_);have zj:i<l'.length:=by rw[hl];exact hi
  rw[aA,aR zj];dsimp only[gB];refine ag (gH ho hd (by simp) ?_);have g1:=cW (iL (·.setIfInBounds 0 (fS qt))) ho (hZ (dL hd _));have d1:=dL hd (·.setIfInBounds 0 (fS qt));refine ag (gH g1 d1 (by simp) ?_);have g2:=cW (iL (·.setIfInBounds 1 (fS ((i:Int)+1)))) g1 (hZ (dL d1 _));have d2:=dL d1 (·.setIfInBounds 1 (fS ((i:Int)+1)));refine au ⟨_,Z,au ?_⟩;have sb:=(cQ s.heap I (iL (·.setIfInBounds 0 (fS qt)))).trans (cQ _ I (iL (·.setIfInBounds 1 (fS ((i:Int)+1)))));refine hQ _ _ s.toks (by rw[aA,aR zj];rfl) ⟨S.keep λo e=>by rw[sb.2 a iQ];exact e,qt,f' hi,_,g2,?_,?_⟩ (λb o hb e=>by rw[sb.2 b (λz=>hb (by simp[z]))];exact e)
  ·exact(mF ..).trans ((mF ..).trans hc)
  ·rw[d2];simp[fS]
 done:=λs Q E st hQ=>by
  obtain⟨S,slot,f,it⟩:=st;obtain⟨o,ho,hc,hd⟩:=id it;obtain⟨oa,IR,Si,NZ⟩:=S.obj;unfold j4;refine ag (jV (dy (name:=al "__next__") it.typeIs cP (cE cP it.typeIs jb ?_ (jw _))));show aU _ _ (SI (.ref I)>>=_) _ _ s;refine ag (nh ho hd ?_);show aU _ _ (JQ a>>=_) _ _ s;refine ag (ge IR NZ S.fits ?_);rw[S.size,bne_self_eq_false];simp only[bA,↓reduceIte];show aU _ _ (Cq a (fj (slot:Int)) (fj (l.length:Int)) (fj (ep:Int))>>=_) _ _ s;simp only[aG];refine ag (hn _ _ _ _ l.length slot S f λqt f'=>?_);rw[aA,cV (by rw[hl];exact aS _)];dsimp only[Option.map_none];refine ag (gH ho hd (by simp) ?_);refine ag ?_;simp only[OX,JS];refine ag (cC ?_ (by size_fits));refine ag (m:=jm _ _) (sT (a:=eO) (by first|rfl|(simp only[jm];rfl)) ?_);refine cC ?_ (by size_fits);simp only[SF];refine ag (zV ?_);rw[show A.in1.handled=ab from hh];refine ag (au (GB ?_));refine ag (h9 (T:="StopIteration") (b:=ac) ⟨_,aT _ Z,Z⟩ xX ?_);refine au (hQ _ s.toks λb o hb e=>?_);exact(((cQ ..).extBut.push _).push _) b o (λz=>hb (by simp[z])) e
 self:=λi s Q E st hQ=>by
  obtain⟨S,slot,f,it⟩:=st;refine ng it.typeIs js (cE js it.typeIs oH ?_ (pL _));show aU _ _ (ret (.ref I)) _ _ s;exact au ⟨_,Z,"set_iterator",_,it.typeIs,cP.lookup,hQ⟩
def xJ(h:bO)(T:ao)(ps:V9):Prop:=∃o k,h.get? T=aa o/\o.data= .seq (ps.map λ(j:Nat)=>fS j).toArray k
theorem xJ.at(x:xJ h T ps)(e:∀o,h.get? T=aa o->h'.get? T=aa o):xJ h' T ps:=let⟨o,k,ho,r⟩:=x;⟨o,k,e _ ho,r⟩
theorem KC(S:iF w s.heap a es ep t l)(hj:l[j]? =aa p)(h:Q (Pp p) s):aU (bg prog w) A (OU a j ep) Q E s:=by
 obtain⟨o,ho,hx,hd⟩:=S.obj;unfold OU;refine ag (f_ ho hd S.fits ?_);dsimp only;rw[bne_self_eq_false];simp only[bA,↓reduceIte];rw[show es[j]? =aa (mz p)from by rw[<-cU,S.ent,aA,hj];rfl];exact au h
theorem Pj(hh:A.handled=ab)(I T a:ao)(iQ:a≠I)(hnT:T≠I)(hl:ps.Perm (cF l.length)):
  Walks prog w A I [I,a,T] [I] l.length (λi v=>((ps.map λj=>l.getD j (0,0)).map Pp)[i]? =aa v) (λi h=>iF w h a es ep t l/\mP h I a (.ref T) i l.length ep/\xJ h T ps)where
 sub:=λb hb=>by simp at hb;simp[hb]
 frame:=λi h h' st hk=>⟨st.1.keep λo e=>hk a (by simp) o e,st.2.1.at λo e=>hk I (by simp) o e,st.2.2.at λo e=>hk T (by simp) o e⟩
 item:=λi s Q E hi st hQ=>by
  obtain⟨S,it,tp⟩:=st;obtain⟨o,ho,hc,hd⟩:=id it;obtain⟨oa,IR,Si,NZ⟩:=S.obj;obtain⟨oT,k,adp,ad1⟩:=id tp;have c6:ps.length=l.length:=by rw[hl.length_eq,fO]
  have zj:i<ps.length:=by rw[c6];exact hi
  have hj:ps[i]<l.length:=fi.mp (hl.mem_iff.mp (R' zj));unfold j4;refine ag (jV (dy (name:=al "__next__") it.typeIs cP (cE cP it.typeIs jb ?_ (jw _))));show aU _ _ (SI (.ref I)>>=_) _ _ s;refine ag (nh ho hd ?_);show aU _ _ (JQ a>>=_) _ _ s;refine ag (ge IR NZ S.fits ?_);rw[S.size,bne_self_eq_false];simp only[bA,↓reduceIte];show aU _ _ (uU (.ref T)>>=_) _ _ s;refine ag (eF adp ad1 ?_);simp only[aG];rw[show(ps.map λ(j:Nat)=>fS j).toArray[i]? =aa (fS (ps[i]:Nat))from by rw[uF,aA,aR zj];rfl];show aU _ _ (OU a (fj ((ps[i]:Nat):Int)) (fj (ep:Int))>>=_) _ _ s;simp only[aG];refine ag (KC S (p:=l[ps[i]]) (aR hj) ?_);refine ag (gH ho hd (by simp) ?_);have g1:=cW (iL (·.setIfInBounds 1 (fS ((i:Int)+1)))) ho (hZ (dL hd _));have d1:=dL hd (·.setIfInBounds 1 (fS ((i:Int)+1)));refine au ⟨_,Z,au ?_⟩;have sb:=cQ s.heap I (iL (·.setIfInBounds 1 (fS ((i:Int)+1))));refine hQ _ _ s.toks ?_ ⟨S.keep λo e=>by rw[sb.2 a iQ];exact e,⟨_,g1,(mF ..).trans hc,by rw[d1];simp[fS]⟩,tp.at λo e=>by rw[sb.2 T hnT];exact e⟩ (λb o hb e=>by rw[sb.2 b (λz=>hb (by simp[z]))];exact e);rw[aA,aA,aR zj];simp[Hb,hj]
 done:=λs Q E st hQ=>by
  obtain⟨S,it,tp⟩:=st;obtain⟨o,ho,hc,hd⟩:=id it;obtain⟨oa,IR,Si,NZ⟩:=S.obj;obtain⟨oT,k,adp,ad1⟩:=id tp;have c6:ps.length=l.length:=by rw[hl.length_eq,fO]
  unfold j4;refine ag (jV (dy (name:=al "__next__") it.typeIs cP (cE cP it.typeIs jb ?_ (jw _))));show aU _ _ (SI (.ref I)>>=_) _ _ s;refine ag (nh ho hd ?_);show aU _ _ (JQ a>>=_) _ _ s;refine ag (ge IR NZ S.fits ?_);rw[S.size,bne_self_eq_false];simp only[bA,↓reduceIte];show aU _ _ (uU (.ref T)>>=_) _ _ s;refine ag (eF adp ad1 ?_);simp only[aG];rw[show(ps.map λ(j:Nat)=>fS j).toArray[l.length]? =ab from by rw[uF,aA,cV (by rw[c6];exact aS _)];rfl];dsimp only;refine ag (gH ho hd (by simp) ?_);have g1:=cW (iL (·.setIfInBounds 0 (fS 0))) ho (hZ (dL hd _));have d1:=dL hd (·.setIfInBounds 0 (fS 0));refine ag (gH g1 d1 (by simp) ?_);refine ag ?_;simp only[OX,JS];refine ag (cC ?_ (by size_fits));refine ag (m:=jm _ _) (sT (a:=eO) (by first|rfl|(simp only[jm];rfl)) ?_);refine cC ?_ (by size_fits);simp only[SF];refine ag (zV ?_);rw[show A.in1.handled=ab from hh];refine ag (au (GB ?_));refine ag (h9 (T:="StopIteration") (b:=ac) ⟨_,aT _ Z,Z⟩ xX ?_);refine au (hQ _ s.toks λb o hb e=>?_);exact((((cQ ..).trans (cQ ..)).extBut.push _).push _) b o (λz=>hb (by simp[z])) e
 self:=λi s Q E st hQ=>by
  obtain⟨S,it,tp⟩:=st;refine ng it.typeIs js (cE js it.typeIs oH ?_ (pL _));show aU _ _ (ret (.ref I)) _ _ s;exact au ⟨_,Z,"set_iterator",_,it.typeIs,cP.lookup,hQ⟩
def Lp(prog:ba)(w:World)(A:cb)(h:bO)(I:ao)(n:Nat)(P:Nat->ai->Prop)(h1:bO)(d:ao):Prop:=
 ∃(St:Nat->bO->Prop)(fp:List ao),Walks prog w A I fp [I] n P St/\St 0 h1/\h.objs.size<=I/\(∀b∈fp,b=d\/h.objs.size<=b)/\∀b o,h.get? b=aa o->h1.get? b=aa o
theorem map_range{α:Type}(l:List α)(d:α):(cF l.length).map (λj=>l.getD j d)=l:=by
 refine O? λi=>?_;rw[aA];by_cases h:i<l.length
 ·rw[aR (by rw[fO];exact h),List.getElem_range];simp[Hb,h]
 ·rw[cV (by rw[fO];lia),cV om];rfl
theorem QQ(hh:A.handled=ab)(S:iF w s.heap a es ep t l)
 (h:∀(l':List (Int×qc)) I h1 d1,l'.Perm l->Lp prog w A s.heap I l.length (λi v=>(l'.map Pp)[i]? =aa v) h1 a->Q (.ref I) {s with heap:=h1,drawn:=d1}):aU (bg prog w) A (E6 (.ref a)) Q E s:=by
 obtain⟨o,ho,hx,hd⟩:=S.obj;have hT:s.TypeIs (.ref a) "set":=⟨o,ho,hx.1⟩;have DE:=aW ho;refine ng hT slot_set_iter (cE slot_set_iter hT B0 ?_ (DN _));show aU _ _ (m3 a>>=_) _ _ s;unfold m3;refine ag (ag (ge ho hd S.fits (au ?_)));unfold setDrawn;refine ag (ag (f_ ho hd S.fits ?_));refine ag (ag (fL (au (au ?_))));show aU _ _ (if(!(ET w)&&(!t.plain&&decide (es.size>1)))=ac then _ else _) _ _ s;by_cases hb:ET w=ac
 ·rw[hb];simp only[wB,fQ,bA,↓reduceIte];refine ag (au ?_);refine ag (km ho hd S.fits ?_);refine ag (cC (au ⟨_,Z,"set_iterator",_,⟨_,aT _ Z,Z⟩,cP.lookup,?_⟩));obtain⟨l',p',e'⟩:=lR (tZ (w.params.setOrder a ep) es) l S.ent;refine h l' s.heap.objs.size _ s.drawn p' ⟨_,_,Hi (F:=λ_ _=>True) (t:=t) (es:=es) (ep:=ep) hh s.heap.objs.size a (bL DE) p'.length_eq (λA E s Q i slot S _ q=>Ql S hb e' (q slot λ_=>trivial)),?_,aS _,λb hb=>?_,λb o e=>az _ e⟩
  ·exact⟨S.keep λo e=>az _ e,0,trivial,_,aT _ Z,Z,by rw[S.size];rfl⟩
  ·simp only[aF,gY,or_false]at hb;rcases hb with rfl|rfl
   ·exact .inr (aS _)
   ·exact .inl Z
 ·have hb:ET w=ae:=by simpa using hb
  rw[hb];simp only[Vd,gq];by_cases hc:(!t.plain&&decide (es.size>1))=ac
  ·rw[aC hc];refine ag (MC _ _ _ _ (fO ..) λps d hp=>?_);refine ag ?_;unfold JS;have hps:ps.length=l.length:=by rw[hp.length_eq,fO,S.size]
   have aam:l.length<4096:=S.room;refine cC ?_ (by
    show(ps.map λ(i:Nat)=>fS i).toArray.size<=aE;rw[bm,af,hps];exact aB (eX aam) dk)
   have Yl:=az {cls:=dU "tuple",data:=.seq (ps.map λ(i:Nat)=>fS i).toArray} ho;refine ag (km Yl hd S.fits ?_);refine ag (cC (au ⟨_,Z,"set_iterator",_,⟨_,aT _ Z,Z⟩,cP.lookup,?_⟩));have hsz:∀o:gt,(s.heap.push o).objs.size=s.heap.objs.size+1:=λo=>cH ..;have OJ:ps.Perm (cF l.length):=by rw[<-S.size];exact hp
   refine h (ps.map λj=>l.getD j (0,0)) _ _ d ?_ ⟨_,_,Pj (t:=t) (es:=es) (ep:=ep) hh _ s.heap.objs.size a ?_ ?_ OJ,?_,?_,λb hb=>?_,λb o e=>az _ (az _ e)⟩
   ·have:=OJ.map (λj=>l.getD j (0,0));rw[map_range]at this;exact this
   ·dsimp only;rw[hsz];exact bL (gF DE)
   ·dsimp only;rw[hsz];exact bL (ky _)
   ·exact⟨S.keep λo e=>az _ (az _ e),⟨_,aT _ Z,Z,by rw[S.size];rfl⟩,_,_,az _ (aT _ Z),Z⟩
   ·dsimp only;rw[hsz];exact j7 _
   ·simp only[aF,gY,or_false]at hb;rcases hb with rfl|rfl|rfl
    ·right;rw[hsz];exact j7 _
    ·exact .inl Z
    ·exact .inr (aS _)
  ·rw[aw hc];have hc:(!t.plain&&decide (es.size>1))=ae:=by simpa using hc
   refine ag (au ?_);refine ag (km ho hd S.fits ?_);refine ag (cC (au ⟨_,Z,"set_iterator",_,⟨_,aT _ Z,Z⟩,cP.lookup,?_⟩));refine h l s.heap.objs.size _ s.drawn (.refl _) ⟨_,_,Hi (F:=λslot i=>bW t.place slot=i) (t:=t) (es:=es) (ep:=ep) hh s.heap.objs.size a (bL DE) Z (λA E s Q i slot S f q=>NK S hb hc f λqt z=>q qt λhi=>z.elim id λz=>absurd hi (pN.mpr z)),?_,aS _,λb hb=>?_,λb o e=>az _ e⟩
   ·exact⟨S.keep λo e=>az _ e,0,Lk S.tab.1,_,aT _ Z,Z,by rw[S.size];rfl⟩
   ·simp only[aF,gY,or_false]at hb;rcases hb with rfl|rfl
    ·exact .inr (aS _)
    ·exact .inl Z
theorem DK:Cw table "proto.collect"=aa gS.«proto.collect»:=entryFor_of_fast (by kernel_rfl)
theorem K?:Cw table "list.__iadd__"=aa gS.«list.__iadd__»:=entryFor_of_fast (by kernel_rfl)
theorem Ip{wr:List ao}{s s':aq}(hm:Moved wr (λa b=>b=a) s s'):s'={s with heap:=s'.heap,toks:=s'.toks}:=by
 obtain⟨h',g',d',k',o'⟩:=s';have e1:g'=s.gens:=hm.gens;have e2:d'=s.drawn:=hm.drawn;have e3:o'=s.os:=hm.os;rw[e1,e2,e3]
theorem Jg{T:String}{r d:ao}{o:gt}{n:Nat}{G:(Nat->ai->Prop)->Prop}{R:X9->aq->Prop}(hh:A.handled=ab)(ho:s.heap.get? r=aa o)(hc:o.cls= .type T)(hd:d<s.heap.objs.size)
 (nl:(dU T==dU "list")=ae)(nt:(dU T==dU "tuple")=ae)(hn:n<=aE)
 (hint:∀(A:cb) (E:ai->aq->Prop) (s':aq) (Q:Bool->aq->Prop),s'.TypeIs (.ref r) T->Q ae s'->aU (bg prog w) A (fc (.ref r)) Q E s')
  (iter:∀(A:cb) (E:ai->aq->Prop) (h:bO) (Q:ai->aq->Prop),A.handled=ab->(∀b o,s.heap.get? b=aa o->h.get? b=aa o)->
   (∀P I h1 d1,G P->Lp prog w A h I n P h1 d->Q (.ref I) {s with heap:=h1,drawn:=d1})->aU (bg prog w) A (E6 (.ref r)) Q E {s with heap:=h})
  (fin:∀(h':bO)(tk:Nat)(d1:Drawn)(P:Nat->ai->Prop)(acc:Array ai),(∀b o,s.heap.get? b=aa o->h'.get? b=aa o)->s.heap.objs.size<h'.objs.size->G P->CD P acc n->R acc.toList {s with heap:=h',toks:=tk,drawn:=d1}):
  aU (bg prog w) A (collect (.ref r)) R E s:=by
 have gO:r<s.heap.objs.size:=aW ho;have Yq:A.in1.handled=ab:=hh;unfold collect;refine ag (wpAny_runValue (fE DK ?_));rw[d_ PySem.F.plain_proto_collect _];refine ag (cC (Q:=λv s'=>aU (bg prog w) A.in1 (again (.builtin "list.__iadd__" ⟨[v,.ref r],[]⟩)) _ _ s') ?_);refine au ⟨f8 DX _,fE K? ?_⟩;rw[d_ DX _];have g0:(s.heap.push {cls:=.type "list",data:=.seq ([]:X9).toArray}).get? s.heap.objs.size=aa {cls:=.type "list",data:=.seq #[]}:=aT _ Z;have k0:∀b o,s.heap.get? b=aa o->(s.heap.push {cls:=.type "list",data:=.seq ([]:X9).toArray}).get? b=aa o:=λb o e=>az _ e;have z0:(s.heap.push {cls:=.type "list",data:=.seq ([]:X9).toArray}).objs.size=s.heap.objs.size+1:=cH ..;generalize (s.heap.push {cls:=.type "list",data:=.seq ([]:X9).toArray})=h0 at g0 k0 z0 ⊢;show aU _ A.in1 (fe (.ref s.heap.objs.size) (.ref r) (.ref s.heap.objs.size)) _ _ _;unfold fe;refine ag (OQ (T:=T) (s:={s with heap:=h0}) ⟨o,k0 r o ho,hc⟩ ?_);have e1:jQ (.ref s.heap.objs.size) (.ref r)=ae:=by simp[jQ,iK gO]
 simp only[e1,nl,nt,fN,bA,if_false];refine ag (iter _ _ h0 _ Yq k0 λP I h1 d1 gp wk=>?_);obtain⟨St,fp,W,st,hI,OM,k1⟩:=wk;have g1:=k1 _ _ g0;have hSI:s.heap.objs.size≠I:=by rw[z0]at hI;exact bL hI
 have Mu:s.heap.objs.size∉fp:=λz=>(OM _ z).elim (λe=>absurd hd (by rw[<-e];exact eV _)) (λe=>absurd e (by rw[z0];exact Nat.not_succ_le_self _));refine ag (fu (hint _ _ _ _ ⟨o,k1 r o (k0 r o ho),hc⟩ ?_));have loop:∀(h:bO)(c tk:Nat),St 0 h->(∀b o,b≠s.heap.objs.size->h1.get? b=aa o->h.get? b=aa o)->h.get? s.heap.objs.size=aa {cls:=.type "list",data:=.seq #[] c}->
   md (bg prog w) A (.builtin "list.extend.loop" ⟨[.ref s.heap.objs.size,.ref I,.ref s.heap.objs.size],[]⟩) (λq s'=>∃(h':bO)(tk:Nat)(acc:Array ai)(c':Nat),q= .ok (.ret (.ref s.heap.objs.size))/\s'={s with heap:=h',toks:=tk,drawn:=d1}/\
    (∀b o,s.heap.get? b=aa o->h'.get? b=aa o)/\h'.get? s.heap.objs.size=aa {cls:=.type "list",dict:=ab,data:=.seq acc c',slots:=#[]}/\CD P acc n) {s with heap:=h,toks:=tk,drawn:=d1}:=by
  intro h c tk uQ hk hS;refine SK W.toS hn s.heap.objs.size Mu _ n 0 _ #[] c Z (gx _) uQ hS (Vb _) λs' acc c' hm DI fF=>?_;refine⟨s'.heap,s'.toks,acc,c',Z,Ip hm,λb o e=>?_,DI,fF⟩;have hb:b≠s.heap.objs.size:=bL (aW e);refine hm.heap b o (λz=>?_) (hk b o hb (k1 b o (k0 b o e)));rcases aF.mp z with z|z
  ·exact hb z
  ·have:b<h0.objs.size:=by rw[z0];exact gF (aW e)
   rw[cX.mp z]at this;exact absurd this (pN.mpr hI)
 have after:∀(q:AA)(s':aq),(∃(h':bO)(tk:Nat)(acc:Array ai)(c':Nat),q= .ok (.ret (.ref s.heap.objs.size))/\s'={s with heap:=h',toks:=tk,drawn:=d1}/\
    (∀b o,s.heap.get? b=aa o->h'.get? b=aa o)/\h'.get? s.heap.objs.size=aa {cls:=.type "list",dict:=ab,data:=.seq acc c',slots:=#[]}/\CD P acc n)->
   (∃v,q= .ok (.ret v)/\aU (bg prog w) A (match v with| .ref a=>(load a>>=λo=>match o.data with| .seq xs _=>pure xs.toList|_=>afL "internal:collect")|_=>afL "internal:collect") R E s'):=by
  rintro q s' ⟨h',tk,acc,c',rfl,rfl,hk,DI,fF⟩;refine⟨_,Z,?_⟩;refine ag (wpAny_load DI ?_);exact au (fin h' tk d1 P acc hk (aW DI) gp fF)
 have conv:∀(c tk:Nat)(h:bO),St 0 h->(∀b o,b≠s.heap.objs.size->h1.get? b=aa o->h.get? b=aa o)->h.get? s.heap.objs.size=aa {cls:=.type "list",data:=.seq #[] c}->_:=λc tk h a1 a2 a3=>jA (loop h c tk a1 a2 a3) (λq s' x=>after q s' x)
 refine c_ (λ_=>?_) (λ_=>au ⟨f8 oY _,?_⟩)
 ·refine ag (kR ?_);refine ag ?_;show aU _ _ (E3 s.heap.objs.size (·.push .none)>>=λ_=>E3 s.heap.objs.size (·.pop)) _ _ _;refine ag (l? g1 Z ?_);have g2:=cW (j6 (·.push eO)) g1 Z;refine l? (hz:=by seq_fits) g2 Z ?_;have g3:=cW (j6 (·.pop)) g2 Z;refine au ⟨f8 oY _,jA (conv _ s.toks _ ?_ ?_ g3) ?_⟩
  ·refine W.frame 0 _ _ st λb hb o e=>?_;have hbS:b≠s.heap.objs.size:=λz=>Mu (z▸hb);exact(db _ _ (a8 hbS)).trans ((db _ _ (a8 hbS)).trans e)
  ·exact λb o hb e=>(db _ _ (a8 hb)).trans ((db _ _ (a8 hb)).trans e)
  ·rintro q s' ⟨v,rfl,x⟩;exact x
 ·refine jA (conv _ s.toks _ st (λb o _ e=>e) g1) ?_;rintro q s' ⟨v,rfl,x⟩;exact x
theorem tK{α β:Type}{Q:β->aq->Prop}{st:β}:∀(xs:List α)(f:α->β->uX (ForInStep β)),(∀x∈xs,∀Q':ForInStep β->aq->Prop,Q' (.yield st) s->aU (bg prog w) A (f x st) Q' E s)->Q st s->aU (bg prog w) A (forIn xs st f) Q E s
 |[],f,_,h=>by rw[iY];exact au h
 |x::xs,f,hf,h=>by
  rw[jr];refine ag (hf x (.head _) _ ?_);exact tK xs f (λy hy=>hf y (.tail _ hy)) h
theorem quiet{Wz:List ao}{Q:Bool->aq->Prop}(hs:∀a∈Wz,∃es ep t l,iF w s.heap a es ep t l)(h:Q ac s):aU (bg prog w) A (setsQuiet Wz) Q E s:=by
 unfold setsQuiet;refine ag (tK Wz _ (λa ha Q' q'=>?_) ?_)
 ·obtain⟨es,ep,t,l,S⟩:=hs a ha;obtain⟨o,ho,hx,hd⟩:=S.obj;refine ag (ge ho hd S.fits ?_);refine ag ?_;rw[<-wD,S.ent];refine tK _ _ (λe he Q'' q''=>?_) ?_
  ·obtain⟨p,_,rfl⟩:=aV.mp he;exact au q''
  ·exact au q'
 ·exact au h
theorem Pk(S:iF w s.heap a es ep t l)(hc:ET w=ac\/(!t.plain&&decide (es.size>1))=ae)
 (h:∀(oU:Array (Int×ai)) (l':List (Int×qc)),oU.toList=l'.map mz->l'.Perm l->Q oU s):aU (bg prog w) A (setWalk a) Q E s:=by
 obtain⟨o,ho,hx,hd⟩:=S.obj;unfold setWalk;refine ag (f_ ho hd S.fits ?_);refine ag (ag (fL (au ?_)));show aU _ _ (if ET w=ac then _ else _) _ _ _;by_cases hb:ET w=ac
 ·rw[aC hb];obtain⟨l',p',e'⟩:=lR (tZ (w.params.setOrder a ep) es) l S.ent;exact ag (fL (au (h _ l' e' p')))
 ·rw[aw hb];have Q? :=hc.resolve_left hb;show aU _ _ (if(!t.plain&&decide (es.size>1))=ac then _ else _) _ _ _;rw[aw (by rw[Q?];exact bf)];have Xf:t.led=ac:=S.tab.2.2.elim (λz=>absurd z hb) id;refine ag ?_;show aU _ _ (if(!t.led&&decide (es.size>1))=ac then _ else pure ()) _ _ _;rw[aw (by rw[Xf];exact bf)];exact au (au (h es l S.ent (.refl _)))
theorem yV(S:iF w s.heap a es ep t l)(Sb:∃es ep t l,iF w s.heap b es ep t l)
 (Sr:∃es ep t,iF w s.heap r es ep t lr)(h:∀(oU:Array (Int×ai)) (l':List (Int×qc)) (h':bO),oU.toList=l'.map mz->l'.Perm l->eG r s.heap h'->(∃es ep t,iF w h' r es ep t lr)->Q oU {s with heap:=h'}):
  aU (bg prog w) A (setWalkUnseen a [b,r] (aa r)) Q E s:=by
 obtain⟨o,ho,hx,hd⟩:=S.obj;unfold setWalkUnseen;refine ag (f_ ho hd S.fits ?_);refine ag (ag (fL (au ?_)));show aU _ _ (if(ET w||(t.led&&t.plain)||decide (es.size<=1))=ac then _ else _) _ _ _;by_cases hc:(ET w||(t.led&&t.plain)||decide (es.size<=1))=ac
 ·rw[aC hc];refine Pk S ?_ λoU l' e' p'=>h oU l' s.heap e' p' (kN ..) Sr;rcases gG _ _▸hc with hc|hc
  ·rcases gG _ _▸hc with hc|hc
   ·exact .inl hc
   ·right
    rw[aK]at hc;rw[hc.2];rfl
  ·right
   have:=i6 hc;rw[ay om,Ve]
 ·rw[aw hc];refine ag (quiet (λx Ci=>?_) ?_)
  ·simp only[aF,gY,or_false]at Ci;rcases Ci with rfl|rfl|rfl
   ·exact⟨_,_,_,_,S⟩
   ·exact Sb
   ·obtain⟨es,ep,t,Sr⟩:=Sr;exact⟨_,_,_,_,Sr⟩
  ·simp only[wB,bA,↓reduceIte];refine ag (kR ?_);obtain⟨er,epr,tr,Sr⟩:=Sr;obtain⟨oR,adn,hxr,Ut⟩:=Sr.obj;refine ag (f_ adn Ut Sr.fits ?_);dsimp only;split
   ·have aam:lr.length<4096:=Sr.room;refine ag (Cn adn Ut ?_ (by rw[Sr.size];exact aB (eX aam) dk));refine au (h es l _ S.ent (.refl _) (cQ ..) ⟨_,_,_,OT adn hxr Ut Sr.ent ?_ ?_ Sr.nodup Sr.room⟩)
    ·exact Sr.fits
    ·refine⟨Sr.tab.1,Sr.tab.2.1,?_⟩;rcases Sr.tab.2.2 with z|z
     ·exact .inl z
     ·rcases S.tab.2.2 with z'|z'
      ·exact .inl z'
      ·right
       show(tr.led&&t.led)=ac;rw[z,z'];rfl
   ·exact au (h es l s.heap S.ent (.refl _) (kN ..) ⟨_,_,_,Sr⟩)
theorem Gw(ho:s.heap.get? a=aa o)(hc:o.cls= .type "set")(h:Q ac s):aU (bg prog w) A (iU (.ref a)) Q E s:=by
 unfold iU orM;exact ag (h9 (T:="set") (b:=ac) ⟨o,ho,hc⟩ OS (au h))
theorem TV(h:∀h',(∀b o,s.heap.get? b=aa o->h'.get? b=aa o)->h'.objs.size=s.heap.objs.size+1->iF w h' s.heap.objs.size #[] 0 (.fresh 0 0 (!(ET w))) []->Q (.ref s.heap.objs.size) {s with heap:=h'}):aU (bg prog w) A (newSet (.type "set")) Q E s:=by
 unfold newSet setsByText;refine ag (ag (fL (au ?_)));dsimp only;simp only[newObj];refine ag (SA (au (h _ (λb o e=>az _ e) (cH ..) ⟨⟨_,aT _ Z,⟨Z,Z,Z⟩,Z⟩,Z,Z,jh.fresh 0 0,.nil,dk⟩)))
def EO(id:String)(a b r:ao)(ep:Nat):Int×ai->PUnit->uX (ForInStep PUnit):=λe _=>do
 Jx [e.2] (do
  if(<-setFind b e.2 e.1).isSome then
   let _<-OW r e.2 e.1
   pure oZ
  else pure oZ)
 lN id a ep
 pure (kq oZ)
theorem wa{a b r:ao}(Cj:r≠a)(Mn:r≠b){id:String}{es:Array (Int×ai)}{ep:Nat}{t:dJ}{la lb:List (Int×qc)}:∀(rest done:List (Int×qc))(s:aq)(lr:List (Int×qc))(Q:PUnit->aq->Prop),
  iF w s.heap a es ep t la->(∃es ep t,iF w s.heap b es ep t lb)->(∃es ep t,iF w s.heap r es ep t lr)->done.length+rest.length+1<h_->lr.length<=done.length->(∀x,x∈lr.map (·.1)↔x∈done.map (·.1)/\x∈lb.map (·.1))->
  (∀h' Sh,eG r s.heap h'->(∃es ep t,iF w h' r es ep t Sh)->(∀x,x∈Sh.map (·.1)↔x∈(done++rest).map (·.1)/\x∈lb.map (·.1))->Q ⟨⟩ {s with heap:=h'})->
  aU (bg prog w) A (forIn (rest.map mz) oZ (EO id a b r ep)) Q E s
 |[],done,s,lr,Q,Sa,Sb,Sr,hb,my,hm,h=>by
  rw[oQ,iY];exact au (h s.heap lr (kN ..) Sr (by rw[eQ];exact hm))
 |p::rest,done,s,lr,Q,Sa,Sb,Sr,hb,my,hm,h=>by
  rw[bC,jr];obtain⟨eb,epb,tb,Sb⟩:=Sb;obtain⟨er,epr,tr,Sr⟩:=Sr;obtain⟨oa,IR,Si,NZ⟩:=Sa.obj;rw[aJ]at hb;refine ag (ag (fu (ag (Rq (u:=p.2) Sb λf hf=>?_))));have next:∀(h':bO)(Sh:List (Int×qc)),eG r s.heap h'->(∃es ep t,iF w h' r es ep t Sh)->Sh.length<=(done++[p]).length->(∀x,x∈Sh.map (·.1)↔x∈(done++[p]).map (·.1)/\x∈lb.map (·.1))->
    aU (bg prog w) A (do lN id a ep;pure (kq oZ)) (λx s'=>x= .yield oZ/\aU (bg prog w) A (forIn (rest.map mz) oZ (EO id a b r ep)) Q E s') E {s with heap:=h'}:=by
   intro h' Sh sb aey adF EC;have ka:h'.get? a=aa oa:=by rw[sb.2 a (a8 Cj)];exact IR
   refine ag ?_;unfold lN;refine ag (km (s:={s with heap:=h'}) ka NZ Sa.fits ?_);rw[bne_self_eq_false];simp only[bA,↓reduceIte];refine au (au ⟨Z,?_⟩);refine wa Cj Mn rest (done++[p]) {s with heap:=h'} Sh Q (Sa.keep λo e=>by rw[sb.2 a (a8 Cj)];exact e) ⟨eb,epb,tb,Sb.keep λo e=>by rw[sb.2 b (a8 Mn)];exact e⟩ aey (by rw[aQ,mZ];lia) adF EC λh2 lr2 sb2 aa3 BG=>?_;exact h h2 lr2 (sb.trans sb2) aa3 (by rw[fP]at BG;exact BG)
  by_cases EE:p.1∈lb.map (·.1)
  ·rw[aI EE]at hf;rw[aC hf];refine ag (add_int (u:=p.2) Sr om λ_ h' oU xS t' Sh sb aey pm=>au (f? (next h' Sh sb ⟨_,_,_,aey⟩ ?_ λx=>?_) (λx s' q=>by rw[q.1];exact q.2) λ_ _ e=>e))
   ·have:=pm.length_eq;rw[af]at this;rw[this,aQ,mZ];split
    ·rw[af];lia
    ·rw[aJ,af];lia
   ·rw[pm.mem_iff,bz,df];have hx:=hm x;by_cases hi:p.1∈lr.map (·.1)
    ·rw[aC hi,hx];constructor
     ·exact λz=>⟨.inl z.1,z.2⟩
     ·rintro⟨z|z,z'⟩
      ·exact⟨z,z'⟩
      ·rw[xP,cX]at z;rw[z];exact(hm p.1).mp hi
    ·rw[aw hi,aF,hx,xP,cX];constructor
     ·rintro(z|z)
      ·exact⟨.inr z,by rw[z];exact EE⟩
      ·exact⟨.inl z.1,z.2⟩
     ·rintro⟨z|z,z'⟩
      ·exact .inr ⟨z,z'⟩
      ·exact .inl z
  ·rw[ay EE]at hf;rw[aw (by rw[hf];exact bf)];refine au (f? (next s.heap lr (kN ..) ⟨_,_,_,Sr⟩ (by rw[aQ];lia) λx=>?_) (λx s' q=>by rw[q.1];exact q.2) λ_ _ e=>e);rw[hm x,bz,df,xP,cX];constructor
   ·exact λz=>⟨.inl z.1,z.2⟩
   ·rintro⟨z|z,z'⟩
    ·exact⟨z,z'⟩
    ·exact absurd (z▸z') EE
theorem aaT{a b:ao}{id:String}(BK:a≠b){ea eb:Array (Int×ai)}{pa pb:Nat}{ta tb:dJ}{la lb:List (Int×qc)}{Q:ai->aq->Prop}(Sa:iF w s.heap a ea pa ta la)(Sb:iF w s.heap b eb pb tb lb)
 (ha:la.length+1<h_)(hb:lb.length+1<h_)
 (h:∀h' er pr tr lr,(∀c o,s.heap.get? c=aa o->h'.get? c=aa o)->iF w h' s.heap.objs.size er pr tr lr->(∀x,x∈lr.map (·.1)↔x∈la.map (·.1)/\x∈lb.map (·.1))->Q (.ref s.heap.objs.size) {s with heap:=h'}):
  aU (bg prog w) A (sK id a (.ref b)) Q E s:=by
 obtain⟨oa,IR,Si,NZ⟩:=Sa.obj;obtain⟨ob,Xc,VB,K4⟩:=Sb.obj;unfold sK;rw[aw (by simp[a8 BK])];unfold S8;refine ag (ag (h9 (T:="set") (b:=ac) ⟨oa,IR,Si.1⟩ OS (au ?_)));simp only[↓reduceIte];refine ag (TV λh1 k1 z1 Sr=>?_);refine ag (m:=m4 _) (au ?_);have Cj:s.heap.objs.size≠a:=iK (aW IR);have Mn:s.heap.objs.size≠b:=iK (aW Xc);have YM:=Sa.keep (h':=h1) λo e=>k1 a o e;have YL:=Sb.keep (h':=h1) λo e=>k1 b o e;have Sv:=k1 a oa IR;have EI:=k1 b ob Xc;refine ag (fu ?_);refine ag (Gw EI VB.1 ?_);simp only[↓reduceIte];refine ag (m:=m4 _) (au ?_);unfold m3;refine ag (ag (ge EI K4 YL.fits (au ?_)));refine ag (ag (ge Sv NZ YM.fits (au ?_)));have fin:∀(h2:bO)(lr:List (Int×qc)),eG s.heap.objs.size h1 h2->(∃es ep t,iF w h2 s.heap.objs.size es ep t lr)->(∀x,x∈lr.map (·.1)↔x∈la.map (·.1)/\x∈lb.map (·.1))->Q (.ref s.heap.objs.size) {s with heap:=h2}:=by
  rintro h2 lr sb ⟨er,pr,tr,S⟩ hm;exact h h2 er pr tr lr (λc o e=>by rw[sb.2 c (bL (aW e))];exact k1 c o e) S hm
 by_cases hsz:eb.size>ea.size
 ·rw[aC hsz];dsimp only;refine ag (km Sv NZ YM.fits ?_);refine ag (yV YM ⟨_,_,_,_,YL⟩ ⟨_,_,_,Sr⟩ λoU l' h2 e' p' sb aa3=>?_);refine ag ?_;rw[<-wD,e'];refine wa (id:=id) Cj Mn l' [] {s with heap:=h2} [] _ (YM.keep λo e=>by rw[sb.2 a (a8 Cj)];exact e) ⟨_,_,_,YL.keep λo e=>by rw[sb.2 b (a8 Mn)];exact e⟩ aa3 (by rw[p'.length_eq];simpa using ha) (aS _) (λx=>by simp)
   λh3 lr Zb aex hm=>au (au (fin h3 lr (sb.trans Zb) aex λx=>by rw[hm x,ly,(p'.map (·.1)).mem_iff]))
 ·rw[aw hsz];dsimp only;refine ag (km EI K4 YL.fits ?_);refine ag (yV YL ⟨_,_,_,_,YM⟩ ⟨_,_,_,Sr⟩ λoU l' h2 e' p' sb aa3=>?_);refine ag ?_;rw[<-wD,e'];refine wa (id:=id) Mn Cj l' [] {s with heap:=h2} [] _ (YL.keep λo e=>by rw[sb.2 b (a8 Mn)];exact e) ⟨_,_,_,YM.keep λo e=>by rw[sb.2 a (a8 Cj)];exact e⟩ aa3 (by rw[p'.length_eq];simpa using hb) (aS _) (λx=>by simp)
   λh3 lr Zb aex hm=>au (au (fin h3 lr (sb.trans Zb) aex λx=>by rw[hm x,ly,(p'.map (·.1)).mem_iff];exact And.comm))
theorem UR{a b:ao}(BK:a≠b){ea eb:Array (Int×ai)}{pa pb:Nat}{ta tb:dJ}{la lb:List (Int×qc)}{Q:ai->aq->Prop}(Sa:iF w s.heap a ea pa ta la)(Sb:iF w s.heap b eb pb tb lb)
 (ha:la.length+1<h_)(hb:lb.length+1<h_)
 (h:∀h' er pr tr lr,(∀c o,s.heap.get? c=aa o->h'.get? c=aa o)->iF w h' s.heap.objs.size er pr tr lr->(∀x,x∈lr.map (·.1)↔x∈la.map (·.1)/\x∈lb.map (·.1))->Q (.ref s.heap.objs.size) {s with heap:=h'}):
  aU (bg prog w) A (uV .BitAnd (.ref a) (.ref b)) Q E s:=by
 obtain⟨oa,IR,Si,NZ⟩:=Sa.obj;obtain⟨ob,Xc,VB,K4⟩:=Sb.obj;refine wpAny_binaryOp_same (T:="set") (id:="set.__and__") ⟨oa,IR,Si.1⟩ ⟨ob,Xc,VB.1⟩ fills_set_and slot_set_and (cE slot_set_and ⟨oa,IR,Si.1⟩ DJ ?_ (Gv _ _));show aU _ _ ((iU (.ref a)<&&>iU (.ref b))>>=_) _ _ s;refine ag ?_;unfold andM;refine ag (Gw IR Si.1 (Gw Xc VB.1 ?_));simp only[wB,bA,↓reduceIte];refine ag (m:=m4 _) (au ?_);refine ag (aaT BK Sa Sb ha hb λh' er pr tr lr k S hm=>au ⟨_,Z,?_,h h' er pr tr lr k S hm⟩);intro z
 cases z
theorem Pq{R:AA->aq->Prop}{G:Array SY->Array SY->Prop}{P:Nat->ai->Prop}{St:Nat->aq->Prop}(W:WalksS prog w A.in1 I fp wr G n P St)(S:ao)(Mu:S∉fp)
 {ns:xC}(Sm:ns.length=n)(hv:∀i v,P i v->∃t,v= .int (ns.getD i 0) t)(hb:n+1<h_):
  ∀(k i:Nat)(s:aq)(l:List (Int×qc)),n - i=k->i<=n->St i s->(∃es ep t,iF w s.heap S es ep t l)->l.length<=i->(∀x,x∈l.map (·.1)↔x∈ns.take i)->
   (∀s' es ep t l',Moved (S::wr) G s s'->iF w s'.heap S es ep t l'->l'.length<=n->(∀x,x∈l'.map (·.1)↔x∈ns)->R (.ok (.ret .none)) s')->
   md (bg prog w) A (.builtin "set.update.loop" ⟨[.ref S,.ref I],[]⟩) R s:=by
 have Xo:S∉wr:=λh=>Mu (W.sub _ h);have DB:∀b∈wr,b∈S::wr:=λb hb=>aD _ hb;intro k
 induction k with
 |zero=>
  intro i s l hk hi uQ hS my hm hR;obtain⟨es,ep,t,hS⟩:=hS;have EE:i=n:=om;subst EE;refine fE q_ ?_;rw[d_ jq _];refine ag (m:=j4 (.ref I)) (W.done s _ _ uQ λs' mv=>?_);refine au (hR s' es ep t l (mv.mono DB) (hS.keep λo e=>mv.heap S _ Xo e) my λx=>?_);rw[hm x,<-Sm,cB]
 |succ k ih=>
  intro i s l hk hi uQ hS my hm hR;have gO:i<n:=om;refine fE q_ ?_;rw[d_ jq _];refine ag (m:=j4 (.ref I)) (W.item i s _ _ gO uQ λv s' hP IK mv=>?_);obtain⟨t,rfl⟩:=hv i v hP;obtain⟨es,ep,tb,hS⟩:=hS;have DI:=hS.keep (h':=s'.heap) λo e=>mv.heap S _ Xo e;refine ag (m:=Jx [j5 (ns.getD i 0) t] (setAdd S (.int (ns.getD i 0) t))) (fu ?_);unfold setAdd;refine fu (ag ((gR prog w).pyHash (k:=ns.getD i 0) (nW _ _ _ _) ?_));refine add_int (s:={s' with toks:=s'.toks+1}) (u:=t) DI om λ_ h' oU xS t' l' sb S2 pm=>?_;have ZP:∀x,x∈ns.take (i+1)↔x∈ns.take i\/x=ns.getD i 0:=by
   intro x;have zj:i<ns.length:=by rw[Sm];exact gO
   rw[O6,aR zj,df];simp[Hb,zj]
  have BG:∀x,x∈l'.map (·.1)↔x∈ns.take (i+1):=by
   intro x;rw[pm.mem_iff,ZP x];by_cases DF:ns.getD i 0∈l.map (·.1)
   ·rw[aC DF,hm x];exact⟨.inl,λz=>z.elim id λz=>by rw[z];exact(hm _).mp DF⟩
   ·rw[aw DF,aF,hm x];exact or_comm
  have adE:l'.length<=i+1:=by
   have:=pm.length_eq;rw[af]at this;rw[this];split
   ·rw[af];lia
   ·rw[aJ,af];lia
  refine au ⟨f8 jq _,ih (i+1) _ l' om gO (W.frame _ s' _ _ IK (j7 _) λb Xn o e=>?_) ⟨_,_,_,S2⟩ adE BG λZe aek aem acs l'' acW S'' ZY adB=>?_⟩
  ·rw[sb.2 b (λh:b=S=>Mu (by rw[<-h];exact Xn))];exact e
  ·refine hR Ze aek aem acs l'' (Moved.trans W.gtrans ((mv.mono DB).then_heap (j7 _) λb o Xn e=>?_) acW) S'' ZY adB;rw[sb.2 b (λh:b=S=>Xn (by rw[h];exact cY))];exact e
theorem RI(a:ai)(h:Q₁ (.ref s.heap.objs.size) {s with heap:=s.heap.push {cls:=.type "set",dict:=ab,data:=.set #[] 0 (.fresh 0 0 (!(ET w)))}}):
  md (bg prog w) A (.call (.builtin "set.__new__") ⟨[.type "set",a],[]⟩) (wants Q₁ E) s:=by
 refine codeAny_of_tree ?_;refine ag (m:=checkBuiltinCall "set.__new__" ⟨[.type "set",a],[]⟩) (sT (F.newCall_set_1 a) (au ⟨f8 F.plain_set_new _,fE F.entry_set_new ?_⟩));rw[d_ F.plain_set_new _];unfold gS.«set.__new__» S7;have DB:=OS;obtain⟨hp,g,d,tk,os⟩:=s;dsimp only;wp_walk;refine fL (au ?_);dsimp only;simp only[newObj];refine ag (SA (au ?_));exact au h
theorem set_list(hh:A.handled=ab)(hl:s.heap.IsList l items)(hi:f9 items.toList ns)(hb:ns.length+1<h_)
 (h:∀(h':bO) (tk:Nat) es ep t lr,iF w h' s.heap.objs.size es ep t lr->lr.length<=ns.length->(∀x,x∈lr.map (·.1)↔x∈ns)->(∀b o,s.heap.get? b=aa o->h'.get? b=aa o)->Q (.ref s.heap.objs.size) {s with heap:=h',toks:=tk}):
  aU (bg prog w) A (call (.type "set") [.ref l]) Q E s:=by
 have hsz:ns.length=items.size:=by rw[<-bE];exact hi.length.symm
 obtain⟨c,tl,hmro⟩:=kW.mro;have hmade:=kW.made;have DB:=kW.sub;refine VY (codeAny_of_tree (show aU _ _ (callAny (.type "set") _) _ _ _ from ?_));refine au ⟨Code.quiet_builtin _ dK,fE F.entry_type_call ?_⟩;rw[Around.under_plain (weight_type_call_type "set" [.ref l] []) Z];have n1:=kW.notType;have n2:=kW.canCreate;have n3:=F.typeCall_set_1 (.ref l)
 repeat (any_goals (first|assumption|wp_step))
 generalize hO:({cls:=.type "set",dict:=ab,data:=.set #[] 0 (.fresh 0 0 (!(ET w)))}:gt)=oS;refine jA (RI (.ref l) (E:=E) (Q₁:=λv fX=>v= .ref s.heap.objs.size/\fX={s with heap:=s.heap.push oS}) (by rw[<-hO];exact⟨Z,Z⟩)) λr fX hr=>?_;have g0:(s.heap.push oS).get? s.heap.objs.size=aa oS:=aT _ (by rw[<-hO];rfl);have S0:iF w (s.heap.push oS) s.heap.objs.size #[] 0 (.fresh 0 0 (!(ET w))) []:=⟨⟨oS,g0,by rw[<-hO];exact⟨Z,Z,Z⟩,by rw[<-hO]⟩,Z,Z,jh.fresh 0 0,.nil,dk⟩;have k0:∀b o,s.heap.get? b=aa o->(s.heap.push oS).get? b=aa o:=λb o e=>az _ e;have z0:(s.heap.push oS).objs.size=s.heap.objs.size+1:=cH ..;have c0:oS.cls= .type "set":=by rw[<-hO]
 have t0:oS.dict=ab:=by rw[<-hO]
 generalize s.heap.push oS=h0 at hr g0 S0 k0 z0
 match r,hr with
 | .error e,hr=>exact hr
 | .ok (.ret v),hr=>
  obtain⟨rfl,rfl⟩:=hr;have hT:SO {s with heap:=h0} (.ref s.heap.objs.size) "set":=⟨_,g0,c0⟩;have i1:=kW.init.lookup;have i2:=kW.init.bind (.ref s.heap.objs.size)
  repeat (any_goals (first|assumption|wp_step))
  refine jA (codeAny_call_builtin (R:=wants (λr n? =>r= .none/\∃h' tk es ep t lr,n? ={s with heap:=h',toks:=tk}/\iF w h' s.heap.objs.size es ep t lr/\lr.length<=ns.length/\(∀x,x∈lr.map (·.1)↔x∈ns)/\
    (∀b o,s.heap.get? b=aa o->h'.get? b=aa o)) E) kW.init.plain F.entry_set_init (check_set_init_1 hT ?_)) λacC n? IN=>?_
  ·obtain⟨⟨xc,xd,xt,xs⟩,Yk,K5,nl,abM⟩:=hl;simp only at K5 abM;subst K5 abM;have ZT:=k0 l _ Yk;have q1:=F.sub_list_set;have q2:=F.sub_list_frozenset;have q3:(dU "list"==dU "dict")=ae:=dk;have nn:h0.IsList l items:=⟨_,ZT,Z,nl,Z⟩;have hTl:SO {s with heap:=h0} (.ref l) "list":=⟨_,ZT,Z⟩;unfold gS.«set.__init__» noKeywords S6;subst hO;generalize hPI:E6=PI;wp_walk;subst hPI;refine sS (s:={s with heap:=h0}) nn ?_;refine ag (wpAny_runValue ?_);have Z0:l<s.heap.objs.size:=aW Yk;refine Pq ((Cz (A:=A.in1.in1.in1) (by simp[hh]) _ l (by rw[z0];exact bL (gF Z0)) items).toS) s.heap.objs.size ?_ (ns:=ns) hsz
    (λi v hv=>OA hi i v (by rw[cU];exact hv)) (by rw[<-hsz];exact hb) (items.size - 0) 0 _ [] om (gx _) ⟨⟨_,aT _ Z,Z,Z⟩,(nn.push _)⟩
    ⟨_,_,_,S0.keep λo e=>az _ e⟩ (aS _) (λx=>by simp) λs' es ep t lr mv S' my hm=>?_
   ·rw[z0];simp only[aF,gY,or_false,not_or];exact⟨bL (ky _),iK Z0⟩
   ·have oU:=Ip mv;rw[oU];show aU _ _ _ _ _ _;refine au ?_;show aU _ _ (ret eO) _ _ _;refine au ⟨Z,s'.heap,s'.toks,es,ep,t,lr,Z,S',by rw[hsz];exact my,hm,λb o e=>?_⟩;have aak:=aW e;refine mv.heap b o ?_ (az _ (k0 b o e));rw[z0];simp only[aF,gY,or_false,not_or];exact⟨bL aak,bL (gF aak)⟩
  ·match acC,IN with
   | .error e,IN=>exact IN
   | .ok (.ret v),IN=>
    obtain⟨rfl,h',tk,es,ep,t,lr,rfl,S',my,hm,BH⟩:=IN
    repeat (any_goals (first|assumption|wp_step))
    exact h _ _ es ep t lr S' my hm BH
theorem Tk:Az (.type "set") "__len__"=pure (aa (.builtin "set.__len__")):=by rw[iP,fo];kernel_rfl
theorem Q6(hT:s.TypeIs (.ref r) "set")(h:Q ae s):aU (bg prog w) A (fc (.ref r)) Q E s:=by
 unfold fc;refine ag (wm hT Tk ?_);generalize Xh:("set.__len__":String)=ac3
 wp_delta
 rw[show splitId ac3=aa ("set","__len__")from by subst Xh;decide+kernel];subst Xh;refine ag (h9 (T:="set") (b:=ac) hT (by rw[ni];kernel_rfl) ?_);refine c_ (λBK=>absurd BK dk) (λ_=>?_);refine c_ (λ_=>?_) (λBK=>absurd dK BK);exact ag (OQ hT (au h))
theorem AR{T:String}{r d:ao}{o:gt}{n:Nat}{G:(Nat->ai->Prop)->Prop}{M:xC->Prop}{Q:ai->aq->Prop}(hh:A.handled=ab)(ho:s.heap.get? r=aa o)(hc:o.cls= .type T)(hd:d<s.heap.objs.size)
 (nl:(dU T==dU "list")=ae)(nt:(dU T==dU "tuple")=ae)(hn:n<=aE)
 (hint:∀(A:cb) (E:ai->aq->Prop) (s':aq) (Q:Bool->aq->Prop),s'.TypeIs (.ref r) T->Q ae s'->aU (bg prog w) A (fc (.ref r)) Q E s')
  (iter:∀(A:cb) (E:ai->aq->Prop) (h:bO) (Q:ai->aq->Prop),A.handled=ab->(∀b o,s.heap.get? b=aa o->h.get? b=aa o)->
   (∀P I h1 d1,G P->Lp prog w A h I n P h1 d->Q (.ref I) {s with heap:=h1,drawn:=d1})->aU (bg prog w) A (E6 (.ref r)) Q E {s with heap:=h})
  (hG:∀P acc,G P->CD P acc n->∃ns,f9 acc.toList ns/\M ns)
  (fin:∀(h':bO)(tk:Nat)(d1:Drawn)(p:ao)(out:Array ai)(ep:Nat)(ns yu:xC),(∀b o,s.heap.get? b=aa o->h'.get? b=aa o)->s.heap.objs.size<=p->M ns->yu.Perm ns->yu.Pairwise (· <=·)->f9 out.toList yu->
   h'.get? p=aa (mE "list" out ep)->Q (.ref p) {s with heap:=h',toks:=tk,drawn:=d1}):
  aU (bg prog w) A (call (.builtin "sorted") [.ref r]) Q E s:=by
 refine D9 PyProof.Rows.kind_sorted PyProof.Rows.plain_sorted PyProof.Rows.entry_sorted (PyProof.Rows.args_sorted1 _) ?_;unfold gS.«sorted»;refine ag (m:=checkCount "sorted" 1 1 _) (au ?_);refine ag (Jg (A:=A.in1) hh ho hc hd nl nt hn hint iter λh' tk d1 P acc hk gO gp fF=>?_);obtain⟨ns,hi,hM⟩:=hG P acc gp fF;have hl:acc.toList.length<=aE:=by rw[bE,fF.1];exact hn
 refine ag (MW ?_ hl);have Uo:(h'.push (mE "list" acc.toList.toArray 0)).get? h'.objs.size=aa (mE "list" acc.toList.toArray 0):=aT _ Z;refine ag (fu (cE PyProof.Rows.slot_list_sort ⟨_,Uo,Z⟩ PyProof.Rows.entry_list_sort (PyProof.Rows.list_sort_treeAny Uo hi hl λout yu a1 a2 a3=>⟨_,Z,?_⟩) (PyProof.Rows.args_list_sort _)));refine au ⟨_,Z,?_⟩;obtain⟨xS,NY⟩:=PyProof.Rows.sortedHeap_at (vs:=acc.toList) (out:=out) Uo;refine fin _ tk d1 h'.objs.size out xS ns yu (λb u hu=>?_) (eX gO) hM a2 a3 a1 NY;have hb:=aW (hk b u hu);rw[PyProof.Rows.sortedHeap_old (bL hb) (aW (az _ (hk b u hu)))];exact az _ (hk b u hu)
theorem II:∀l:List (Int×qc),f9 (l.map Pp) (l.map (·.1))
 |[]=>.nil
 |p::l=>.cons _ _ (II l)
theorem Ke{a:ao}{es:Array (Int×ai)}{ep:Nat}{t:dJ}{l:List (Int×qc)}{Q:ai->aq->Prop}(hh:A.handled=ab)(S:iF w s.heap a es ep t l)
  (fin:∀(h':bO) (tk:Nat) (d1:Drawn) (p:ao) (out:Array ai) (ep:Nat) (yu:xC),(∀b o,s.heap.get? b=aa o->h'.get? b=aa o)->s.heap.objs.size<=p->yu.Perm (l.map (·.1))->yu.Pairwise (· <=·)->f9 out.toList yu->
   h'.get? p=aa (mE "list" out ep)->Q (.ref p) {s with heap:=h',toks:=tk,drawn:=d1}):
  aU (bg prog w) A (call (.builtin "sorted") [.ref a]) Q E s:=by
 obtain⟨o,ho,hx,hd⟩:=S.obj;have aam:l.length<4096:=S.room;refine AR (T:="set") (d:=a) (n:=l.length) (G:=λP=>∃l':List (Int×qc),l'.Perm l/\P=λi v=>(l'.map Pp)[i]? =aa v) (M:=λns=>ns.Perm (l.map (·.1))) hh ho hx.1 (aW ho) dk dk
  (aB (eX aam) dk) (λ_ _ _ _ hT q=>Q6 hT q) (λA E h Q hh k q=>QQ (s:={s with heap:=h}) hh (S.keep λo e=>k a o e) λl' I h1 d1 p' wk=>q _ I h1 d1 ⟨l',p',Z⟩ wk) ?_
  λh' tk d1 p out ep ns yu hk hp hM a2 a3 a1 he=>fin h' tk d1 p out ep yu hk hp (a2.trans hM) a3 a1 he
 rintro P acc ⟨l',p',rfl⟩ fF;have e:acc.toList=l'.map Pp:=by
  refine O? λi=>?_;by_cases hi:i<l.length
  ·have zj:i<acc.size:=by rw[fF.1];exact hi
   rw[fF.2 i acc[i] (ig zj),cU,ig zj]
  ·rw[cV (by rw[bE,fF.1];lia),cV (by rw[af,p'.length_eq];lia)]
 exact⟨l'.map (·.1),by rw[e];exact II l',p'.map _⟩
open PyProof.Rows
abbrev tupK:SortKind:=tuples' ac
abbrev one(st:fT):fT:=mT Cu (wt st) (qY st) (Cv st) (failedOf st)
abbrev RY:ai->ku->aq->Prop:=λ_ _ _=>False
def tF(M:JZ)(Γ:Ctx)(s s2:aq){α:Type}(m:StateT fT uX α):Prop:=
 ∀(st:fT)(Q:α×fT->ku->aq->Prop)(p q:ku),kindOf st=tupK->kU M Γ (m.run st) Q RY p s2->
  kU M Γ (m.run (one st)) (λr _ s1=>s1=s/\∃tR p',r.2=one tR/\kindOf tR=tupK/\Q (r.1,tR) p' s2) RY q s
section
variable{M:JZ}{Γ:Ctx}{s s2:aq}{α β:Type}
theorem jG(a:α):tF M Γ s s2 (pure a:StateT fT uX α):=by
 intro st Q p q hk h;exact⟨Z,st,p,Z,hk,h⟩
theorem je(h1:tF M Γ s s2 m)(h2:∀a,tF M Γ s s2 (f a)):tF M Γ s s2 (m>>=f):=by
 intro st Q p q hk h;rw[OZ,gs]at h;rw[OZ,gs];refine M0 _ _ _ (λr p' s1=>?_) (λ_ _ _ x=>x) _ _ (h1 st _ p q hk h);rintro⟨rfl,tR,p1,e,BH,h'⟩;rw[e];exact h2 r.1 tR Q p1 p' BH h'
theorem wP(h:∀st,f (one st)=f st/\tF M Γ s s2 (f st)):tF M Γ s s2 (get>>=f):=by
 intro st Q p q hk h';have e:=h st;have h1:kU M Γ ((f st).run st) Q RY p s2:=h';have h2:=e.2 st Q p q hk h1;rw[<-e.1]at h2;exact h2
theorem mJ(h1:∀st,f (one st)=one (f st))(h2:∀st,kindOf (f st)=kindOf st):tF M Γ s s2 (modify f:StateT fT uX PUnit):=by
 intro st Q p q hk h;have h:Q (⟨⟩,f st) p s2:=h;exact⟨Z,f st,p,h1 st,(h2 st).trans hk,h⟩
theorem tV(t:String):tF M Γ s s2 (liftM (rule t):StateT fT uX Unit):=by
 intro st Q p q hk h;have h:Q ((),st) p s2:=h;exact⟨Z,st,p,Z,hk,h⟩
theorem qv(t:String):tF M Γ s s2 (liftM (afL t:uX α):StateT fT uX α):=by
 intro st Q p q hk h;exact dW h
theorem Hw(h:∀i b,tF M Γ s s2 (f i b)):∀(l:V9)(b:β),tF M Γ s s2 (forIn l b f)
 |[],b=>by rw[iY];exact jG b
 |x::l,b=>by
  rw[jr];refine je (h x b) λr=>?_
  cases r with
  |done c=>exact jG c
  |yield c=>exact Hw h l c
theorem rF(h:∀i b,tF M Γ s s2 (f i b))(r:Std.Legacy.Range)(b:β):tF M Γ s s2 (forIn r b f):=by
 rw[U7];exact Hw h _ b
theorem z9  [Decidable c]  (h1:c->tF M Γ s s2 m1) (h2:¬c->tF M Γ s s2 m2):tF M Γ s s2 (if c then m1 else m2):=by
 by_cases h:c
 ·rw[aC h];exact h1 h
 ·rw[aw h];exact h2 h
theorem qw(a:Array ww)(i:Nat):tF M Γ s s2 (elem' a i):=by
 rw[elem'_eq];split
 ·exact jG _
 ·exact qv _
variable(gO:∀x y:ww,tF M Γ s s2 (lt' x y))
include gO
theorem Hv(i j:Nat):tF M Γ s s2 (ltAt' i j):=by
 rw[ltAt'_eq];refine wP λst=>⟨Z,?_⟩;exact je (qw _ _) λ_=>je (qw _ _) λ_=>gO _ _
theorem Ki(l:Bool)(k:ww)(a:Array ww)(b i:Nat):tF M Γ s s2 (beyond' l k a b i):=by
 unfold beyond';refine je (qw _ _) λ_=>?_;split
 ·exact gO _ _
 ·exact je (gO _ _) λ_=>jG _
theorem vR(l:Bool)(k:ww)(a:Array ww)(b n h:Nat):tF M Γ s s2 (gallop' l k a b n h):=by
 rw[gallop'_eq];have hb:=Ki gO
 repeat' first|exact jG _|exact hb _ _ _ _ _|refine je ?_ (λ_=>?_)|refine rF (λ_ _=>?_) _ _|split|dsimp only
theorem Kh(lo n ok:Nat):tF M Γ s s2 (binarySort' lo n ok):=by
 rw[binarySort'_eq];have ha:=Hv gO;have hm:∀i j,tF M Γ s s2 (moveDown' i j):=λi j=>by rw[moveDown'_eq];exact mJ (λ_=>rfl) (λ_=>rfl)
 repeat' first|exact jG _|exact ha _ _|exact hm _ _|refine je ?_ (λ_=>?_)|refine rF (λ_ _=>?_) _ _|split|dsimp only
theorem Nu(lo n:Nat):tF M Γ s s2 (countRun' lo n):=by
 rw[countRun'_eq];have ha:=Hv gO;have hm:∀i j,tF M Γ s s2 (reverseSlice' i j):=λi j=>by rw[reverseSlice'_eq];exact mJ (λ_=>rfl) (λ_=>rfl)
 repeat' first|exact jG _|exact tV _|exact ha _ _|exact hm _ _|refine je ?_ (λ_=>?_)|refine rF (λ_ _=>?_) _ _|split|dsimp only
theorem Ww(a b:Array ww):tF M Γ s s2 (mergeLo' a b):=by
 rw[mergeLo'_eq];have hg:=vR gO;have hm:∀g,tF M Γ s s2 (setMinGallop' g):=λg=>by rw[setMinGallop'_eq];exact mJ (λ_=>rfl) (λ_=>rfl)
 repeat' first|with_reducible exact jG _|with_reducible exact tV _|with_reducible exact qv _|with_reducible exact qw _ _|with_reducible exact gO _ _|with_reducible exact hg _ _ _ _ _ _|with_reducible exact hm _|(with_reducible refine wP ?_;refine λst=>⟨rfl,?_⟩)|with_reducible refine je ?_ (λ_=>?_)|with_reducible refine rF (λ_ _=>?_) _ _|with_reducible refine z9 (λ_=>?_) (λ_=>?_)|split|dsimp only
theorem Wy(a b:Array ww):tF M Γ s s2 (mergeHi' a b):=by
 rw[mergeHi'_eq];have hg:=vR gO;have hm:∀g,tF M Γ s s2 (setMinGallop' g):=λg=>by rw[setMinGallop'_eq];exact mJ (λ_=>rfl) (λ_=>rfl)
 repeat' first|with_reducible exact jG _|with_reducible exact tV _|with_reducible exact qv _|with_reducible exact qw _ _|with_reducible exact gO _ _|with_reducible exact hg _ _ _ _ _ _|with_reducible exact hm _|(with_reducible refine wP ?_;refine λst=>⟨rfl,?_⟩)|with_reducible refine je ?_ (λ_=>?_)|with_reducible refine rF (λ_ _=>?_) _ _|with_reducible refine z9 (λ_=>?_) (λ_=>?_)|split|dsimp only
end
section
variable{M:JZ}{Γ:Ctx}{s s2:aq}{α β:Type}
theorem PM  (h:∀(st:fT)(Q:β×fT->ku->aq->Prop)(p q:ku),kindOf st=tupK->kU M Γ ((f st).run st) Q RY p s2->
  kU M Γ ((f (one st)).run (one st)) (λr _ s1=>s1=s/\∃tR p',r.2=one tR/\kindOf tR=tupK/\Q (r.1,tR) p' s2) RY q s):tF M Γ s s2 (get>>=f):=λst Q p q hk h'=>h st Q p q hk h'
theorem PJ{st:fT}{X:Array (Nat×Nat×Nat)}{K:PUnit->StateT fT uX β}{Q:β×fT->ku->aq->Prop}{p q:ku}(hK:∀u,tF M Γ s s2 (K u))(hk:kindOf st=tupK)
 (h:kU M Γ ((set (V1 st X)>>=K:StateT fT uX β).run st) Q RY p s2):
  kU M Γ ((set (V1 (one st) X)>>=K:StateT fT uX β).run (one st)) (λr _ s1=>s1=s/\∃tR p',r.2=one tR/\kindOf tR=tupK/\Q (r.1,tR) p' s2) RY q s:=
 hK ⟨⟩ (V1 st X) Q p q hk h
variable(gO:∀x y:ww,tF M Γ s s2 (lt' x y))
include gO
theorem Hu(i:Nat):tF M Γ s s2 (mergeAt' i):=by
 rw[mergeAt'_eq];have hg:=vR gO;have h1:=Ww gO;have h2:=Wy gO;refine PM λst Q p q hk h=>?_;dsimp only at h ⊢
 cases e1:(qY st)[i]? with
 |none=>rw[e1]at h;exact dW h
 |some a=>
  cases e2:(qY st)[i+1]? with
  |none=>rw[e1,e2]at h;exact dW h
  |some b=>
   obtain⟨sa,na,pw⟩:=a;obtain⟨sb,nb,pw2⟩:=b;rw[e1,e2]at h;dsimp only at h;refine PJ (λu=>?_) hk h;have hm:∀(mg:Array ww)(x:Nat),tF M Γ s s2 (modify λs=>setArr s (mg.toList.zipIdx.foldl (λa (p,j)=>a.setIfInBounds (x+j) p) (wt s)):StateT fT uX PUnit):=λmg x=>mJ (λ_=>rfl) (λ_=>rfl)
   repeat' first|with_reducible exact jG _|with_reducible exact tV _|with_reducible exact qv _|with_reducible exact qw _ _|with_reducible exact hg _ _ _ _ _ _|with_reducible exact h1 _ _|with_reducible exact h2 _ _|exact hm _ _|(with_reducible refine wP ?_;refine λst=>⟨rfl,?_⟩)|with_reducible refine je ?_ (λ_=>?_)|with_reducible refine rF (λ_ _=>?_) _ _|with_reducible refine z9 (λ_=>?_) (λ_=>?_)|split|dsimp only
theorem PL:tF M Γ s s2 sortRuns':=by
 rw[sortRuns'_eq];have hc:=Nu gO;have hb:=Kh gO;have hm:=Hu gO
 repeat' first|with_reducible exact jG _|with_reducible exact tV _|with_reducible exact qv _|with_reducible exact hc _ _|with_reducible exact hb _ _ _|with_reducible exact hm _|(with_reducible refine wP ?_;refine λst=>⟨rfl,?_⟩)|with_reducible refine je ?_ (λ_=>?_)|with_reducible refine rF (λ_ _=>?_) _ _|with_reducible refine z9 (λ_=>?_) (λ_=>?_)|(with_reducible refine mJ ?_ ?_<;>exact λ_=>rfl)|split|dsimp only
end
def standIn(k:Nat):gt:={cls:=.type "list",data:=.seq (tz k eO) 0}
def gone:gt:={cls:=.type "list",data:=.freed}
def zk(n:Nat)(rk:ao->Option Nat):bO:={objs:=(zZ n).map λi=>match rk i with|some k=>standIn k|none=>gone}
def GW(n:Nat)(rk:ao->Option Nat):ai->Option Nat
 | .ref a=>if a<n then rk a else ab
 |_=>ab
theorem EG(a:ao):(zk n rk).get? a=(GW n rk (.ref a)).map standIn:=by
 unfold Heap.get? zk GW;dsimp only;by_cases h:a<n
 ·rw[aC h];have:((zZ n).map λi=>match rk i with|some k=>standIn k|none=>gone)[a]? =aa (match rk a with|some k=>standIn k|none=>gone):=by
   rw[Na,J5];simp[h]
  rw[this]
  cases rk a<;>rfl
 ·rw[aw h];have:((zZ n).map λi=>match rk i with|some k=>standIn k|none=>gone)[a]? =ab:=by
   rw[Na,J5];simp[h]
  rw[this];rfl
section
variable{prog:ba}{w:World}{Γ:Ctx}{s2:aq}
theorem Hh(x:ai)(n:Nat)(rk:ao->Option Nat)(hs:s2.heap=zk n rk)(Q:Array ai->ku->aq->Prop)(E:ai->ku->aq->Prop)(p:ku):
  kU (bg prog w) Γ (gv x) Q E p s2↔∃k,GW n rk x=aa k/\Q (tz k eO) p s2:=by
 have iy:∀y:ai,(∀a,y≠.ref a)->GW n rk y=ab:=λy hy=>by
  cases y<;>first|rfl|exact absurd rfl (hy _)
 by_cases hx:∃a,x= .ref a
 ·obtain⟨a,rfl⟩:=hx;constructor
  ·intro h;obtain⟨o,ho,h⟩:∃o,s2.heap.get? a=aa o/\_:=h;rw[hs,EG]at ho
   cases e:GW n rk (.ref a)with
   |none=>rw[e]at ho;cases ho
   |some k=>
    rw[e]at ho
    cases ho;exact⟨k,Z,h⟩
  ·rintro⟨k,e,h⟩;exact⟨standIn k,by rw[hs,EG,e];rfl,h⟩
 ·have Ci:∀a,x≠.ref a:=λa e=>hx ⟨a,e⟩;rw[iy x Ci];refine⟨λh=>?_,λ⟨k,e,_⟩=>by cases e⟩
  cases x
  case ref a=>exact absurd Z (Ci a)
  case builtin id=>
   have h:kU (bg prog w) Γ ((((if(withoutEnding? id "#opaque").isSome then afL id else pure ()):uX Unit)>>=λ_=>(pure ab:uX (Option (Array ai))))>>=λr=>match r with|some xs=>pure xs|none=>afL "internal:list-without-items") Q E p s2:=h;by_cases c:(withoutEnding? id "#opaque").isSome=ac
   ·rw[aC c]at h;exact h.elim
   ·rw[aw c]at h;exact dW h
  all_goals exact dW h
theorem LC{γ δ:Type}{Q:δ->ku->aq->Prop}{E:ai->ku->aq->Prop}{st:δ}:∀(L:List γ)(body:γ->δ->uX (ForInStep δ))(p:ku),(∀e∈L,∀(Q':ForInStep δ->ku->aq->Prop)(p:ku),kU (bg prog w) Γ (body e st) Q' E p s2↔Q' (.yield st) p s2)->
  (kU (bg prog w) Γ (forIn L st body) Q E p s2↔Q st p s2)
 |[],body,p,_=>by rw[iY];exact Iff.rfl
 |e::L,body,p,hb=>by
  rw[jr,gs,hb e (.head _)];exact LC L body p λe' NY=>hb e' (.tail _ NY)
theorem T7(b:Bool)(x y:ai):xW (tuples' b) x y=(do
  let xs<-gv x;let ys<-gv y
  for ((p,q),i)in(xs.toList.zip ys.toList).zipIdx do
   if !(<-eqBool p q)then return<-oneLt' (b&&i==0) p q
  return xs.size<ys.size):=Z
theorem Hg(x y:ai)(n:Nat)(rk:ao->Option Nat)(hs:s2.heap=zk n rk)(Q:Bool->ku->aq->Prop)(E:ai->ku->aq->Prop)(p:ku):
  kU (bg prog w) Γ (xW tupK x y) Q E p s2↔∃i j,GW n rk x=aa i/\GW n rk y=aa j/\Q (decide (i<j)) p s2:=by
 rw[T7,gs,Hh x n rk hs];have main:∀i,(kU (bg prog w) Γ (gv y>>=λys=>do
   for ((p,q),i)in((tz i eO).toList.zip ys.toList).zipIdx do
    if !(<-eqBool p q)then return<-oneLt' (ac&&i==0) p q
   return(tz i eO).size<ys.size) Q E p s2)↔∃j,GW n rk y=aa j/\Q (decide (i<j)) p s2:=by
  intro i;rw[gs,Hh y n rk hs];refine exists_congr λj=>and_congr_right λ_=>?_;rw[gs,LC]
  ·rw[J4,J4];exact Iff.rfl
  ·rintro⟨⟨a,b⟩,k⟩ he Q' p';have hm:=nM (List.fst_mem_of_mem_zipIdx he);rw[He,He]at hm;have ha:a=eO:=GR hm.1;have hb:b=eO:=GR hm.2;subst ha hb;exact Iff.rfl
 constructor
 ·rintro⟨i,e,h⟩;obtain⟨j,e',h⟩:=(main i).mp h;exact⟨i,j,e,e',h⟩
 ·rintro⟨i,j,e,e',h⟩;exact⟨i,e,(main i).mpr ⟨j,e',h⟩⟩
end
@[reducible] def IC (n:Nat) (rk:ao->Option Nat):KeyKind where
 α:=Nat
 blt a b:=decide (a<b)
 irrefl a:=by simp
 trans a b c h1 h2:=by simp only[decide_eq_true_eq]at*;omega
 negTrans a b c h:=by simp only[decide_eq_true_eq]at*;omega
 total a b h1 h2:=by simp only[decide_eq_false_iff_not]at*;omega
 keyOf:=GW n rk
 dflt:=0
section
variable{prog:ba}{w:World}{s s2:aq}{n:Nat}{rk:ao->Option Nat}
theorem Zx(hs:s2.heap=zk n rk):G.LtAt prog w s2 (IC n rk) tupK:=by
 intro A E x y a b Q hx hy hq Γ p _;exact(Hg x y n rk hs _ _ p).mpr ⟨a,b,hx,hy,hq⟩
theorem Wv(hs:s2.heap=zk n rk)
 (hr:∀(x y:ai) (i j:Nat) (q:ku),GW n rk x=aa i->GW n rk y=aa j->kU (bg prog w) Γ (xW Cu x y) (λb _ s1=>s1=s/\b=decide (i<j)) RY q s)(x y:ww):tF (bg prog w) Γ s s2 (lt' x y):=by
 intro st Q p q hk h;rw[lt'_eq]at h ⊢;have h1:kU (bg prog w) Γ ((xW (kindOf st) x.1 y.1).attempt>>=λr=>(match r with| .ok b=>(pure (aa b):StateT fT uX (Option Bool))| .error e=>(do modify (λs=>mT (kindOf s) (wt s) (qY s) (Cv s) (aa e));return ab)).run st) Q RY p s2:=by
  have:(((xW (kindOf st) x.1 y.1).attempt>>=λa=>pure (a,st))>>=λr=>(match r.1 with| .ok b=>(pure (aa b):StateT fT uX (Option Bool))| .error e=>(do modify (λs=>mT (kindOf s) (wt s) (qY s) (Cv s) (aa e));return ab)).run r.2)=_:=Z;have h':kU (bg prog w) Γ (((xW (kindOf st) x.1 y.1).attempt>>=λa=>pure (a,st))>>=λr=>(match r.1 with| .ok b=>(pure (aa b):StateT fT uX (Option Bool))| .error e=>(do modify (λs=>mT (kindOf s) (wt s) (qY s) (Cv s) (aa e));return ab)).run r.2) Q RY p s2:=h;rw[gs,gs]at h';rw[gs];exact h'
 rw[hk,gs]at h1;have h2:kU (bg prog w) Γ (xW tupK x.1 y.1) (λb p' s'=>Q (aa b,st) p' s') (λe p' s'=>Q (ab,mT (kindOf st) (wt st) (qY st) (Cv st) (aa e)) p' s') p s2:=by
  rw[V8]at h1;exact h1
 obtain⟨i,j,hx,hy,hq⟩:=(Hg x.1 y.1 n rk hs _ _ p).mp h2;show kU (bg prog w) Γ (((xW Cu x.1 y.1).attempt>>=λa=>pure (a,one st))>>=λr=>(match r.1 with| .ok b=>(pure (aa b):StateT fT uX (Option Bool))| .error e=>(do modify (λs=>mT (kindOf s) (wt s) (qY s) (Cv s) (aa e));return ab)).run r.2) _ RY q s;rw[gs,gs,V8];refine M0 _ _ _ (λb p' s1=>?_) (λ_ _ _ z=>z.elim) _ _ (hr x.1 y.1 i j q hx hy);rintro⟨rfl,rfl⟩;exact⟨Z,st,p,Z,hk,hq⟩
theorem Ny{A:cb}{E:ai->aq->Prop}{vs:X9}(h2:2<=vs.length)(hv:∀v∈vs,∃k,GW n rk v=aa k)
 (hr:∀(x y:ai) (i j:Nat),GW n rk x=aa i->GW n rk y=aa j->aU (bg prog w) A (xW Cu x y) (λb s1=>s1=s/\b=decide (i<j)) (λ_ _=>False) s):
  aU (bg prog w) A (sortRuns'.run (mT Cu (vs.toArray.zip vs.toArray) #[] 7 ab))
   (λr s1=>s1=s/\(wt r.2).Perm (sV vs)/\failedOf r.2=ab/\SortedToK (IC n rk) (wt r.2) (sV vs).size) E s:=by
 have key:wpS (bg prog w) A (λ_ _=>False) {s with heap:=zk n rk} sortRuns' (λ_ tR=>(wt tR).Perm (sV vs)/\failedOf tR=ab/\SortedToK (IC n rk) (wt tR) (sV vs).size) (mT tupK (vs.toArray.zip vs.toArray) #[] 7 ab):=by
  refine G.wpS_sortRunsSt (κ:=IC n rk) (kd:=tupK) (a₀:=sV vs) (Zx Z) (λp hp=>?_) ⟨J6 _,Z,Z⟩ Z (Stable.refl _) (by rw[Ct];exact h2) λtR a1 a2 a3 a4=>⟨a1,a2,a3⟩;rw[JR]at hp;exact hv p.1 (mem_zip_self hp).2
 intro Γ p hΓ;have h:=PL (M:=bg prog w) (Γ:=Γ) (s:=s) (s2:={s with heap:=zk n rk}) (Wv Z λx y i j q hx hy=>hr x y i j hx hy Γ q hΓ) _ _ p p Z (key Γ p hΓ);refine M0 _ _ _ (λr p' s1=>?_) (λ_ _ _ z=>z.elim) _ _ h;rintro⟨rfl,tR,p1,e,_,_,a1,a2,a3⟩;rw[e];exact⟨Z,a1,a2,a3⟩
end
end Ts
namespace L2
local macro_rules|`(tactic|intros)=>`(tactic|intro pins s σ H Q I h)
open PySem PySem.Spec PyProof.Rows
theorem OP.ok2{P:ba}{w:br}{K:aj}{mg:bV->Option ai}{base:bO}{x qual:bV}{st:cG}{f:ao}{fd:gI}{ps:List bV}{k:Nat}{sp:Sp}(F:OP K x qual st f fd)(N:List bV)
  (IY:N.Nodup->∀(fC:ai) (A:cb) (outer:List Hd) (s:aq) (H:Hp) (vs:V2) (Q:VK) (E:XK),kL k (A.deeper (vG qual (cj st) s.heap.objs.size f fC))->(A.deeper (vG qual (cj st) s.heap.objs.size f fC)).units+1<mS->sp vs H Q E->
   ∃t,MR (Ld gr P w K mg base N qual (cj st) f fC A outer s H E).Zs (r9 st) t/\t {nx:=λ_ H'=>Q .iy H',rt:=Q} (start N vs) H)
  (len:∀vs H Q E,sp vs H Q E->vs.length=ps.length:=by(intro _ _ _ _ h;first|(cases h;subst_vars;rfl)|(repeat (obtain⟨_,h⟩:=h));subst_vars;rfl))
  (S:l6 N ps (cj st):=by exact⟨Z,Z,Z,dK,Z,dK,dK⟩):cD P w K mg base gr (k+1) f fd ps sp:=
 F.ok S len λfC A outer s H vs Q E hr h=>IY S.nd fC A outer s H vs Q E hr (ZM hr) h
end L2
namespace Tp
local macro_rules|`(tactic|obtain $p:rcasesPatMed)=>`(tactic|(intro nd fC A outer s H vs Q E hr hu h;obtain $p:rcasesPatMed:=h))
local macro_rules|`($a<*$b)=>`(FOk P w K mg base $a $b t)
local macro_rules|`(tactic|intros)=>`(tactic|intro pins s σ H Q I h)
open PySem PySem.Spec PyProof.Rows L2 Tw Ts
def top(i:Nat):cG:=V_.main.body.getD i (.Pass ⟨0,0,0,0⟩)
def Gk(x0 x1 x2 x3:V):List (bV×V):=[("question",x0),("answer",x1),("put_at",x2),("told_at",x3)]
def Ru(x0 x1 x2 x3 x4 x5 x6 x7:V):List (bV×V):=[("rule",x0),("most",x1),("clock",x2),("hits",x3),("misses",x4),("fallen",x5),("forgotten",x6),("entries",x7)]
def Rt(x0 x1:V):List (bV×V):=[("order",x0),("defaults",x1)]
def BY(x0 x1:V):List (bV×V):=[("merged",x0),("left",x1)]
def yI(x0 x1 x2 x3 x4 x5 x6 x7:V):List (bV×V):=[("numbers",x0),("kind",x1),("place",x2),("deep",x3),("most",x4),("conditions",x5),("sortings",x6),("attributes",x7)]
def pV(x0 x1 x2:V):List (bV×V):=[("kind",x0),("holder",x1),("own",x2)]
def Rs(x0 x1 x2:V):List (bV×V):=[("taken",x0),("told",x1),("looked_at",x2)]
def Gj(x0 x1 x2:V):List (bV×V):=[("attributes",x0),("rows",x1),("row_of",x2)]
def rZ(x0 x1 x2 x3 x4:V):List (bV×V):=[("kinds",x0),("things",x1),("made",x2),("indexes",x3),("cache",x4)]
structure eP where
 c:Nat->ao
 f:Nat->ao
 d:Nat->gI
 g:Nat->ao
abbrev eP.Entry(t:eP):ao:=t.c 0
abbrev eP.Cache(t:eP):ao:=t.c 1
abbrev eP.Kind(t:eP):ao:=t.c 2
abbrev eP.jc(t:eP):ao:=t.c 3
abbrev eP.Question(t:eP):ao:=t.c 4
abbrev eP.Thing(t:eP):ao:=t.c 5
abbrev eP.Plan(t:eP):ao:=t.c 6
abbrev eP.Index(t:eP):ao:=t.c 7
abbrev eP.World(t:eP):ao:=t.c 8
structure fB(K:aj)(mg:bV->Option ai)(x:bV)(st:cG)(ps:List bV)(f:ao)(fd:gI):Prop where
 F:OP K x x st f fd
 b:Binds K fd ps []
 m:mg x=aa (.ref f)
structure gE(K:aj)(C:ao)(x qual:bV)(st:cG)(ps:List bV)(f:ao)(fd:gI):Prop where
 F:OP K x qual st f fd
 b:Binds K fd ps []
 me:Meth K C x f
structure DO(K:aj)(mg:bV->Option ai)(x:bV)(C f:ao)(fs:List bV):Prop where
 cl:E2 K C
 mc:mg x=aa (.ref C)
 T2:Mk K C f
 na:∀y∈fs,dn K C y
abbrev wY:cG:=inClass (top 1) 0
theorem C3:l6 ["self","question","answer","clock"] ["self","question","answer","clock"] (cj wY):=⟨rfl,rfl,rfl,by decide+kernel,rfl,by decide+kernel,by decide+kernel⟩
abbrev wZ:cG:=inClass (top 2) 0
theorem C5:l6 ["self","rule","most"] ["self","rule","most"] (cj wZ):=⟨rfl,rfl,rfl,by decide+kernel,rfl,by decide+kernel,by decide+kernel⟩
abbrev u9:cG:=inClass (top 2) 1
abbrev FM:cG:=inClass (top 2) 2
abbrev oh:cG:=inClass (top 2) 3
abbrev FL:cG:=inClass (top 2) 4
abbrev j3:cG:=inClass (top 2) 5
abbrev ny:cG:=inClass (top 2) 6
abbrev rG:cG:=inClass (top 2) 7
abbrev Kj:cG:=top 7
abbrev Hz:cG:=top 8
abbrev A4:cG:=top 9
abbrev Vm:cG:=top 10
abbrev C7:cG:=top 11
abbrev C8:cG:=top 12
abbrev yY:cG:=inClass (top 14) 0
theorem Fv:l6 ["self","order"] ["self","order"] (cj yY):=⟨rfl,rfl,rfl,by decide+kernel,rfl,by decide+kernel,by decide+kernel⟩
abbrev tW:cG:=inClass (top 15) 0
theorem zE:l6 ["self","merged","left"] ["self","merged","left"] (cj tW):=⟨rfl,rfl,rfl,by decide+kernel,rfl,by decide+kernel,by decide+kernel⟩
abbrev sm:cG:=top 16
abbrev yf:cG:=top 17
abbrev jH:cG:=top 18
abbrev LK:cG:=top 19
abbrev so:cG:=top 20
abbrev Hx:cG:=top 22
abbrev su:cG:=inClass (top 23) 0
abbrev Tl:cG:=top 24
abbrev wS:cG:=top 25
abbrev mK:cG:=top 26
abbrev A3:cG:=top 27
abbrev yg:cG:=top 28
abbrev sr:cG:=top 29
abbrev o_:cG:=top 30
abbrev wV:cG:=inClass (top 32) 0
theorem C1:l6 ["self","kind","holder"] ["self","kind","holder"] (cj wV):=⟨rfl,rfl,rfl,by decide+kernel,rfl,by decide+kernel,by decide+kernel⟩
abbrev Ei:cG:=top 33
abbrev A6:cG:=top 34
abbrev PQ:cG:=top 35
abbrev Fx:cG:=top 36
abbrev yX:cG:=inClass (top 38) 0
theorem Fu:l6 ["self","taken","told","looked_at"] ["self","taken","told","looked_at"] (cj yX):=⟨rfl,rfl,rfl,by decide+kernel,rfl,by decide+kernel,by decide+kernel⟩
abbrev AU:cG:=top 39
abbrev wQ:cG:=top 40
abbrev Hy:cG:=top 41
abbrev C6:cG:=top 42
abbrev wR:cG:=top 43
abbrev PP:cG:=top 48
abbrev HA:cG:=top 49
abbrev m6:cG:=top 50
abbrev HF:cG:=top 51
abbrev FD:cG:=top 52
abbrev AV:cG:=top 53
abbrev AZ:cG:=top 54
abbrev yh:cG:=top 55
abbrev HE:cG:=top 56
abbrev HH:cG:=top 57
abbrev Kk:cG:=top 58
abbrev Fy:cG:=top 59
abbrev Km:cG:=top 60
abbrev HD:cG:=top 61
abbrev HG:cG:=top 62
abbrev C9:cG:=top 63
abbrev AX:cG:=top 64
abbrev FE:cG:=top 65
abbrev AW:cG:=top 66
abbrev HB:cG:=top 67
abbrev Kn:cG:=top 68
abbrev HC:cG:=top 69
abbrev FF:cG:=top 70
abbrev FC:cG:=top 71
abbrev AY:cG:=top 72
abbrev FA:cG:=top 73
abbrev Kl:cG:=top 74
abbrev zF:cG:=top 76
abbrev C_:cG:=top 77
abbrev Fw:cG:=top 79
abbrev wX:cG:=inClass (top 80) 0
theorem C2:l6 ["self","attributes"] ["self","attributes"] (cj wX):=⟨rfl,rfl,rfl,by decide+kernel,rfl,by decide+kernel,by decide+kernel⟩
abbrev yk:cG:=inClass (top 80) 1
abbrev C':cG:=inClass (top 80) 2
abbrev wW:cG:=inClass (top 80) 3
abbrev FJ:cG:=inClass (top 82) 0
abbrev yj:cG:=inClass (top 82) 1
abbrev FI:cG:=inClass (top 82) 2
abbrev wT:cG:=inClass (top 82) 3
abbrev yi:cG:=inClass (top 82) 4
abbrev o?:cG:=inClass (top 82) 5
abbrev wU:cG:=inClass (top 82) 6
abbrev vS:cG:=inClass (top 82) 7
abbrev u7:cG:=inClass (top 82) 8
abbrev qx:cG:=inClass (top 82) 9
abbrev FH:cG:=inClass (top 82) 10
abbrev FK:cG:=inClass (top 82) 11
abbrev FG:cG:=inClass (top 82) 12
abbrev vT:cG:=inClass (top 82) 13
abbrev Nv:cG:=top 84
theorem j9{X:Cx}{k:Nat}{f:ao}{fd:gI}{ps:List bV}{sp:Sp}{x:bV}{st:cG}{e:Expr}{es:List Expr}{t:TA}{p pos:ku}(F:cD X.prog X.w X.K X.mg X.base gr k f fd ps sp)(hr:kL k X.A)(hg:Gl X x)(D:fB X.K X.mg x st ps f fd)
 (ha:PA X (e::es) t)(K4:(x==("__debug__":bV))=ae:=by decide)(he:bX (e::es) X.env=(ae,eval e X.env)::bX es X.env:=by rfl)(qg:(jC pos (bX es X.env)).any (·.1)=ae:=by rfl):
  PE X (.Call (.Name x p) (e::es) [] pos) (Vk sp [] E0 t):=TH F hr hg D.m D.F.kp D.b .nil dD ha K4 he qg
structure aa2(K:aj)(mg:bV->Option ai)(t:eP):Prop where
 ccEntry:DO K mg "Entry" (t.c 0) (t.f 0) ["question","answer","put_at","told_at"]
 ccCache:DO K mg "Cache" (t.c 1) (t.f 1) ["rule","most","clock","hits","misses","fallen","forgotten","entries"]
 ccKind:DO K mg "Kind" (t.c 2) (t.f 15) ["order","defaults"]
 ccMerging:DO K mg "Merging" (t.c 3) (t.f 16) ["merged","left"]
 ccQuestion:DO K mg "Question" (t.c 4) (t.f 23) ["numbers","kind","place","deep","most","conditions","sortings","attributes"]
 ccThing:DO K mg "Thing" (t.c 5) (t.f 31) ["kind","holder","own"]
 ccPlan:DO K mg "Plan" (t.c 6) (t.f 36) ["taken","told","looked_at"]
 ccIndex:DO K mg "Index" (t.c 7) (t.f 72) ["attributes","rows","row_of"]
 ccWorld:DO K mg "World" (t.c 8) (t.f 76) ["kinds","things","made","indexes","cache"]
 len:mg "len"=ab
 range:mg "range"=ab
 zip:mg "zip"=ab
 any:mg "any"=ab
 all:mg "all"=ab
 min:mg "min"=ab
 max:mg "max"=ab
 list:mg "list"=ab
 sorted:mg "sorted"=ab
 set:mg "set"=ab
 reversed:mg "reversed"=ab
structure aaZ(K:aj)(mg:bV->Option ai)(t:eP):Prop where
 G0:gE K (t.c 0) "__init__" "Entry.__init__" wY ["self","question","answer","clock"] (t.f 0) (t.d 0)
 G1:gE K (t.c 1) "__init__" "Cache.__init__" wZ ["self","rule","most"] (t.f 1) (t.d 1)
 G2:gE K (t.c 1) "kept_answer" "Cache.kept_answer" u9 ["self","question"] (t.f 2) (t.d 2)
 G3:gE K (t.c 1) "keep" "Cache.keep" FM ["self","question","answer"] (t.f 3) (t.d 3)
 G4:gE K (t.c 1) "forget_one" "Cache.forget_one" oh ["self"] (t.f 4) (t.d 4)
 G5:gE K (t.c 1) "stay" "Cache.stay" FL ["self","staying"] (t.f 5) (t.d 5)
 G6:gE K (t.c 1) "attribute_written" "Cache.attribute_written" j3 ["self","attribute"] (t.f 6) (t.d 6)
 G7:gE K (t.c 1) "thing_moved" "Cache.thing_moved" ny ["self"] (t.f 7) (t.d 7)
 G8:gE K (t.c 1) "things_changed" "Cache.things_changed" rG ["self"] (t.f 8) (t.d 8)
 G15:gE K (t.c 2) "__init__" "Kind.__init__" yY ["self","order"] (t.f 15) (t.d 15)
 G16:gE K (t.c 3) "__init__" "Merging.__init__" tW ["self","merged","left"] (t.f 16) (t.d 16)
 G23:gE K (t.c 4) "__init__" "Question.__init__" su ["self","numbers"] (t.f 23) (t.d 23)
 G31:gE K (t.c 5) "__init__" "Thing.__init__" wV ["self","kind","holder"] (t.f 31) (t.d 31)
 G36:gE K (t.c 6) "__init__" "Plan.__init__" yX ["self","taken","told","looked_at"] (t.f 36) (t.d 36)
 G72:gE K (t.c 7) "__init__" "Index.__init__" wX ["self","attributes"] (t.f 72) (t.d 72)
 G73:gE K (t.c 7) "take_out" "Index.take_out" yk ["self","number"] (t.f 73) (t.d 73)
 G74:gE K (t.c 7) "renew" "Index.renew" C' ["self","number","had"] (t.f 74) (t.d 74)
 G75:gE K (t.c 7) "rows_with" "Index.rows_with" wW ["self","front"] (t.f 75) (t.d 75)
 G76:gE K (t.c 8) "__init__" "World.__init__" FJ ["self"] (t.f 76) (t.d 76)
 G77:gE K (t.c 8) "order_of" "World.order_of" yj ["self","number"] (t.f 77) (t.d 77)
 G78:gE K (t.c 8) "is_a" "World.is_a" FI ["self","number","kind"] (t.f 78) (t.d 78)
 G79:gE K (t.c 8) "source_of" "World.source_of" wT ["self","number","attribute"] (t.f 79) (t.d 79)
 G80:gE K (t.c 8) "value_of" "World.value_of" yi ["self","number","attribute"] (t.f 80) (t.d 80)
 G81:gE K (t.c 8) "values_of" "World.values_of" o? ["self","number","attributes"] (t.f 81) (t.d 81)
 G82:gE K (t.c 8) "is_holder" "World.is_holder" wU ["self","number"] (t.f 82) (t.d 82)
 G83:gE K (t.c 8) "renew_rows" "World.renew_rows" vS ["self","number","attribute"] (t.f 83) (t.d 83)
 G84:gE K (t.c 8) "own_written" "World.own_written" u7 ["self","number","attribute"] (t.f 84) (t.d 84)
 G85:gE K (t.c 8) "default_written" "World.default_written" qx ["self","kind","attribute"] (t.f 85) (t.d 85)
 G86:gE K (t.c 8) "make" "World.make" FH ["self","kind","holder"] (t.f 86) (t.d 86)
 G87:gE K (t.c 8) "drop" "World.drop" FK ["self","numbers"] (t.f 87) (t.d 87)
 G88:gE K (t.c 8) "move" "World.move" FG ["self","number","holder"] (t.f 88) (t.d 88)
 G89:gE K (t.c 8) "make_index" "World.make_index" vT ["self","attributes"] (t.f 89) (t.d 89)
structure aa1(K:aj)(mg:bV->Option ai)(t:eP):Prop where
 G9:fB K mg "has_list" Kj ["form"] (t.f 9) (t.d 9)
 G10:fB K mg "is_formed" Hz ["row"] (t.f 10) (t.d 10)
 G11:fB K mg "arguments_of" A4 ["row"] (t.f 11) (t.d 11)
 G12:fB K mg "fit" Vm ["names","numbers"] (t.f 12) (t.d 12)
 G13:fB K mg "is_question" C7 ["numbers"] (t.f 13) (t.d 13)
 G14:fB K mg "is_in_range" C8 ["form","arguments"] (t.f 14) (t.d 14)
 G17:fB K mg "stands_behind" sm ["member","rows"] (t.f 17) (t.d 17)
 G18:fB K mg "member_to_take" yf ["rows"] (t.f 18) (t.d 18)
 G19:fB K mg "rows_without_first" jH ["rows","member"] (t.f 19) (t.d 19)
 G20:fB K mg "merge" LK ["rows"] (t.f 20) (t.d 20)
 G21:fB K mg "merge_parents" so ["kinds","parents"] (t.f 21) (t.d 21)
 G22:fB K mg "pieces" Hx ["numbers","size"] (t.f 22) (t.d 22)
 G24:fB K mg "meets" Tl ["had","relation","value"] (t.f 24) (t.d 24)
 G25:fB K mg "meets_each" wS ["had","conditions"] (t.f 25) (t.d 25)
 G26:fB K mg "conditions_for" mK ["question","attribute","lowest","highest"] (t.f 26) (t.d 26)
 G27:fB K mg "asked_values" A3 ["attributes","question"] (t.f 27) (t.d 27)
 G28:fB K mg "further_bounds" yg ["attributes","question","asked"] (t.f 28) (t.d 28)
 G29:fB K mg "how_much_told" sr ["attributes","question"] (t.f 29) (t.d 29)
 G30:fB K mg "things_by_index" o_ ["index","question"] (t.f 30) (t.d 30)
 G32:fB K mg "held_by" Ei ["things","holder"] (t.f 32) (t.d 32)
 G33:fB K mg "all_holdings" A6 ["things"] (t.f 33) (t.d 33)
 G34:fB K mg "inside" PQ ["things","holder"] (t.f 34) (t.d 34)
 G35:fB K mg "holders_of" Fx ["things","number"] (t.f 35) (t.d 35)
 G37:fB K mg "plan_for" AU ["world","question"] (t.f 37) (t.d 37)
 G38:fB K mg "things_in_place" wQ ["world","question"] (t.f 38) (t.d 38)
 G39:fB K mg "is_wanted" Hy ["world","question","number"] (t.f 39) (t.d 39)
 G40:fB K mg "sorting_row" C6 ["world","question","number"] (t.f 40) (t.d 40)
 G41:fB K mg "search" wR ["world","question","looked_at"] (t.f 41) (t.d 41)
 G42:fB K mg "listed" PP ["numbers"] (t.f 42) (t.d 42)
 G43:fB K mg "has_twice" HA ["numbers"] (t.f 43) (t.d 43)
 G44:fB K mg "refusal_of_parents" m6 ["world","parents"] (t.f 44) (t.d 44)
 G45:fB K mg "call_kind" HF ["world","parents"] (t.f 45) (t.d 45)
 G46:fB K mg "call_order" FD ["world","arguments"] (t.f 46) (t.d 46)
 G47:fB K mg "call_why" AV ["world","parents"] (t.f 47) (t.d 47)
 G48:fB K mg "call_default" AZ ["world","arguments"] (t.f 48) (t.d 48)
 G49:fB K mg "call_undefault" yh ["world","arguments"] (t.f 49) (t.d 49)
 G50:fB K mg "call_make" HE ["world","arguments"] (t.f 50) (t.d 50)
 G51:fB K mg "call_drop" HH ["world","arguments"] (t.f 51) (t.d 51)
 G52:fB K mg "call_set" Kk ["world","arguments"] (t.f 52) (t.d 52)
 G53:fB K mg "call_unset" Fy ["world","arguments"] (t.f 53) (t.d 53)
 G54:fB K mg "call_get" Km ["world","arguments"] (t.f 54) (t.d 54)
 G55:fB K mg "call_move" HD ["world","arguments"] (t.f 55) (t.d 55)
 G56:fB K mg "call_held" HG ["world","arguments"] (t.f 56) (t.d 56)
 G57:fB K mg "call_inside" C9 ["world","arguments"] (t.f 57) (t.d 57)
 G58:fB K mg "call_holders" AX ["world","arguments"] (t.f 58) (t.d 58)
 G59:fB K mg "call_index" FE ["world","attributes"] (t.f 59) (t.d 59)
 G60:fB K mg "call_unindex" AW ["world","arguments"] (t.f 60) (t.d 60)
 G61:fB K mg "call_rows" HB ["world","arguments"] (t.f 61) (t.d 61)
 G62:fB K mg "call_ask" Kn ["world","numbers"] (t.f 62) (t.d 62)
 G63:fB K mg "call_plan" HC ["world","numbers"] (t.f 63) (t.d 63)
 G64:fB K mg "call_cache" FF ["world","arguments"] (t.f 64) (t.d 64)
 G65:fB K mg "call_stats" FC ["world","arguments"] (t.f 65) (t.d 65)
 G66:fB K mg "call_entries" AY ["world","arguments"] (t.f 66) (t.d 66)
 G67:fB K mg "call_thing" FA ["world","arguments"] (t.f 67) (t.d 67)
 G68:fB K mg "call_isa" Kl ["world","arguments"] (t.f 68) (t.d 68)
 G69:fB K mg "names_missing" zF ["world","form","arguments"] (t.f 69) (t.d 69)
 G70:fB K mg "answer_call" C_ ["world","row"] (t.f 70) (t.d 70)
 G71:fB K mg "rows_below" Fw ["rows","wanted"] (t.f 71) (t.d 71)
 G90:fB K mg "answers" Nv ["calls"] (t.f 90) (t.d 90)
structure aa0(K:aj)(mg:bV->Option ai)(t:eP):Prop where
 Jt:mg "FORMS"=aa (.ref (t.g 1))
 RX:mg "RANGES"=aa (.ref (t.g 0))
 vC:mg "QUESTION_HEAD"=aa (.ref (t.g 2))
 aa?:mg "CALLS"=aa (.ref (t.g 3))
 Lr:∃k,mg "MOST_KINDS"=aa (.int 30 k)
 Jr:∃k,mg "MOST_THINGS"=aa (.int 200 k)
 Gy:∃k,mg "MOST_INDEXES"=aa (.int 6 k)
structure Txt(K:aj)(mg:bV->Option ai)(t:eP):Prop where
 c:aa2 K mg t
 m:aaZ K mg t
 f:aa1 K mg t
 g:aa0 K mg t
section
variable{K:aj}{mg:bV->Option ai}{t:eP}
theorem Txt.jU(T:Txt K mg t):E2 K t.Entry:=T.c.ccEntry.cl
theorem Txt.Qu(T:Txt K mg t):mg "Entry"=aa (.ref t.Entry):=T.c.ccEntry.mc
theorem Txt.UY(T:Txt K mg t):Mk K t.Entry (t.f 0):=T.c.ccEntry.T2
theorem Txt.iO(T:Txt K mg t):dn K t.Entry "question":=T.c.ccEntry.na _ (by decide)
theorem Txt.ue(T:Txt K mg t):dn K t.Entry "answer":=T.c.ccEntry.na _ (by decide)
theorem Txt.ud(T:Txt K mg t):dn K t.Entry "put_at":=T.c.ccEntry.na _ (by decide)
theorem Txt.kQ(T:Txt K mg t):dn K t.Entry "told_at":=T.c.ccEntry.na _ (by decide)
theorem Txt.cp(T:Txt K mg t):E2 K t.Cache:=T.c.ccCache.cl
theorem Txt.Iw(T:Txt K mg t):mg "Cache"=aa (.ref t.Cache):=T.c.ccCache.mc
theorem Txt.MS(T:Txt K mg t):Mk K t.Cache (t.f 1):=T.c.ccCache.T2
theorem Txt.xn(T:Txt K mg t):dn K t.Cache "rule":=T.c.ccCache.na _ (by decide)
theorem Txt.rP(T:Txt K mg t):dn K t.Cache "most":=T.c.ccCache.na _ (by decide)
theorem Txt.kJ(T:Txt K mg t):dn K t.Cache "clock":=T.c.ccCache.na _ (by decide)
theorem Txt.rQ(T:Txt K mg t):dn K t.Cache "hits":=T.c.ccCache.na _ (by decide)
theorem Txt.oA(T:Txt K mg t):dn K t.Cache "misses":=T.c.ccCache.na _ (by decide)
theorem Txt.oB(T:Txt K mg t):dn K t.Cache "fallen":=T.c.ccCache.na _ (by decide)
theorem Txt.jv(T:Txt K mg t):dn K t.Cache "forgotten":=T.c.ccCache.na _ (by decide)
theorem Txt.cT(T:Txt K mg t):dn K t.Cache "entries":=T.c.ccCache.na _ (by decide)
theorem Txt.pZ(T:Txt K mg t):E2 K t.Kind:=T.c.ccKind.cl
theorem Txt.T5(T:Txt K mg t):mg "Kind"=aa (.ref t.Kind):=T.c.ccKind.mc
theorem Txt.XT(T:Txt K mg t):Mk K t.Kind (t.f 15):=T.c.ccKind.T2
theorem Txt.lV(T:Txt K mg t):dn K t.Kind "order":=T.c.ccKind.na _ (by decide)
theorem Txt.jg(T:Txt K mg t):dn K t.Kind "defaults":=T.c.ccKind.na _ (by decide)
theorem Txt.qT(T:Txt K mg t):E2 K t.jc:=T.c.ccMerging.cl
theorem Txt.KI(T:Txt K mg t):mg "Merging"=aa (.ref t.jc):=T.c.ccMerging.mc
theorem Txt.Op(T:Txt K mg t):Mk K t.jc (t.f 16):=T.c.ccMerging.T2
theorem Txt.qF(T:Txt K mg t):dn K t.jc "merged":=T.c.ccMerging.na _ (by decide)
theorem Txt.oy(T:Txt K mg t):dn K t.jc "left":=T.c.ccMerging.na _ (by decide)
theorem Txt.cO(T:Txt K mg t):E2 K t.Question:=T.c.ccQuestion.cl
theorem Txt.zb(T:Txt K mg t):mg "Question"=aa (.ref t.Question):=T.c.ccQuestion.mc
theorem Txt.B?(T:Txt K mg t):Mk K t.Question (t.f 23):=T.c.ccQuestion.T2
theorem Txt.i'(T:Txt K mg t):dn K t.Question "numbers":=T.c.ccQuestion.na _ (by decide)
theorem Txt.nj(T:Txt K mg t):dn K t.Question "kind":=T.c.ccQuestion.na _ (by decide)
theorem Txt.iN(T:Txt K mg t):dn K t.Question "place":=T.c.ccQuestion.na _ (by decide)
theorem Txt.sx(T:Txt K mg t):dn K t.Question "deep":=T.c.ccQuestion.na _ (by decide)
theorem Txt.sw(T:Txt K mg t):dn K t.Question "most":=T.c.ccQuestion.na _ (by decide)
theorem Txt.f6(T:Txt K mg t):dn K t.Question "conditions":=T.c.ccQuestion.na _ (by decide)
theorem Txt.j?(T:Txt K mg t):dn K t.Question "sortings":=T.c.ccQuestion.na _ (by decide)
theorem Txt.mx(T:Txt K mg t):dn K t.Question "attributes":=T.c.ccQuestion.na _ (by decide)
theorem Txt.ip(T:Txt K mg t):E2 K t.Thing:=T.c.ccThing.cl
theorem Txt.Qs(T:Txt K mg t):mg "Thing"=aa (.ref t.Thing):=T.c.ccThing.mc
theorem Txt.UW(T:Txt K mg t):Mk K t.Thing (t.f 31):=T.c.ccThing.T2
theorem Txt.rO(T:Txt K mg t):dn K t.Thing "kind":=T.c.ccThing.na _ (by decide)
theorem Txt.gW(T:Txt K mg t):dn K t.Thing "holder":=T.c.ccThing.na _ (by decide)
theorem Txt.jN(T:Txt K mg t):dn K t.Thing "own":=T.c.ccThing.na _ (by decide)
theorem Txt.wb(T:Txt K mg t):E2 K t.Plan:=T.c.ccPlan.cl
theorem Txt.L?(T:Txt K mg t):mg "Plan"=aa (.ref t.Plan):=T.c.ccPlan.mc
theorem Txt.RZ(T:Txt K mg t):Mk K t.Plan (t.f 36):=T.c.ccPlan.T2
theorem Txt.xm(T:Txt K mg t):dn K t.Plan "taken":=T.c.ccPlan.na _ (by decide)
theorem Txt.y?(T:Txt K mg t):dn K t.Plan "told":=T.c.ccPlan.na _ (by decide)
theorem Txt.mL(T:Txt K mg t):dn K t.Plan "looked_at":=T.c.ccPlan.na _ (by decide)
theorem Txt.eC(T:Txt K mg t):E2 K t.Index:=T.c.ccIndex.cl
theorem Txt.Qt(T:Txt K mg t):mg "Index"=aa (.ref t.Index):=T.c.ccIndex.mc
theorem Txt.UX(T:Txt K mg t):Mk K t.Index (t.f 72):=T.c.ccIndex.T2
theorem Txt.eI(T:Txt K mg t):dn K t.Index "attributes":=T.c.ccIndex.na _ (by decide)
theorem Txt.fg(T:Txt K mg t):dn K t.Index "rows":=T.c.ccIndex.na _ (by decide)
theorem Txt.oz(T:Txt K mg t):dn K t.Index "row_of":=T.c.ccIndex.na _ (by decide)
theorem Txt.bj(T:Txt K mg t):E2 K t.World:=T.c.ccWorld.cl
theorem Txt.Qr(T:Txt K mg t):mg "World"=aa (.ref t.World):=T.c.ccWorld.mc
theorem Txt.UV(T:Txt K mg t):Mk K t.World (t.f 76):=T.c.ccWorld.T2
theorem Txt.c?(T:Txt K mg t):dn K t.World "kinds":=T.c.ccWorld.na _ (by decide)
theorem Txt.bT(T:Txt K mg t):dn K t.World "things":=T.c.ccWorld.na _ (by decide)
theorem Txt.i_(T:Txt K mg t):dn K t.World "made":=T.c.ccWorld.na _ (by decide)
theorem Txt.dw(T:Txt K mg t):dn K t.World "indexes":=T.c.ccWorld.na _ (by decide)
theorem Txt.eK(T:Txt K mg t):dn K t.World "cache":=T.c.ccWorld.na _ (by decide)
theorem Txt.len(T:Txt K mg t):mg "len"=ab:=T.c.len
theorem Txt.range(T:Txt K mg t):mg "range"=ab:=T.c.range
theorem Txt.zip(T:Txt K mg t):mg "zip"=ab:=T.c.zip
theorem Txt.any(T:Txt K mg t):mg "any"=ab:=T.c.any
theorem Txt.all(T:Txt K mg t):mg "all"=ab:=T.c.all
theorem Txt.min(T:Txt K mg t):mg "min"=ab:=T.c.min
theorem Txt.max(T:Txt K mg t):mg "max"=ab:=T.c.max
theorem Txt.list(T:Txt K mg t):mg "list"=ab:=T.c.list
theorem Txt.sorted(T:Txt K mg t):mg "sorted"=ab:=T.c.sorted
theorem Txt.set(T:Txt K mg t):mg "set"=ab:=T.c.set
theorem Txt.reversed(T:Txt K mg t):mg "reversed"=ab:=T.c.reversed
end
abbrev nI(n:Nat):V:=.int (n:Int)
def vV:Option Int->V
 |none=>.iy
 |some x=>.int x
abbrev nz(l:V9):xC:=l.map λ(n:Nat)=>(n:Int)
def IL(H:Hp)(a:ao)(ns:xC):Prop:=H a=aa (.lst (ns.map V.int))
theorem IL.same(h:IL H a ns)(s:a7 H H'):IL H' a ns:=s _ _ h
section
variable{X:Cx}{K:aj}
theorem kK(h:X.K=K):Cb X (Zm K):=h▸bP
theorem Mj(h:X.K=K):Cb X (Zl K):=h▸v7
theorem AS(h:X.K=K):aez X (Zk K):=h▸lP
theorem Ky(h:X.K=K):wx X (d? .In) (abv K ae):=h▸uM
theorem Dc(h:X.K=K):wx X (d? .NotIn) (abv K ac):=h▸xg
theorem mW(h:X.K=K):sF X (.builtin "len") (λxs H Q=>∃p ys,xs=[.ref p]/\(bQ K H p ys\/tE K H p ys)/\Q (.int ys.length) H):=h▸bq
theorem nH(h:X.K=K)(he:PE X e ta)(hb:jW e f X.env (eval e X.env)=eval e X.env):PE X (.Attribute e f pos) (Y5 K ta f):=h▸bb he hb
end
def vE(D:ao)(H H':Hp):Prop:=∀b o,b≠D->H b=aa o->H' b=aa o
theorem _root_.L2.a7.upd(hp:H p=ab):a7 H (L2.upd H p o):=λb u e=>by
 rw[aZ (aL e hp)];exact e
theorem _root_.L2.a7.tN(s:a7 H H1)(hp:H p=ab):a7 H (L2.upd H1 p o):=λb u e=>by
 rw[aZ (aL e hp)];exact s b u e
theorem _root_.L2.a7.up(s:a7 H H1)(hp:H1 p=ab):a7 H (L2.upd H1 p o):=s.trans (a7.upd hp)
theorem vE.upd   :vE p H (L2.upd H p o):=λb u n e=>by
 rw[aZ n];exact e
theorem vE.ace(s:a7 H H1):vE p H (L2.upd H1 p o):=λb u n e=>by
 rw[aZ n];exact s b u e
theorem _root_.L2.a7.but(s:a7 H H1)(hD:H D=ab)(b:vE D H1 H2):a7 H H2:=λc o e=>
 b c o (aL e hD) (s c o e)
theorem _root_.L2.a7.Sf{K:aj}{H H':Hp}{a:ao}{xs:V2}(e:a7 H H')(h:tE K H a xs):tE K H' a xs:=by
 rcases h with(h|⟨o,h⟩)|h
 ·exact .inl (.inl (e _ _ h))
 ·exact .inl (.inr ⟨o,e _ _ h⟩)
 ·exact .inr h
section
variable{α β γ:Type}{F G:α->β->Prop}
theorem dY:∀{l:List α}{m:List β},ci F l m->l.length=m.length
 |_,_,.nil=>rfl
 |_,_,.cons _ t=>by rw[aJ,aJ,dY t]
theorem Ku:∀{l:List α}{m:List β}{i:Nat}{b:β},ci F l m->m[i]? =aa b->∃a,l[i]? =aa a/\F a b
 |_,_,_,_,.nil,h=>by simp at h
 |_,_,0,b,.cons (a:=a) h _,e=>by
  simp at e;subst e;exact⟨a,Z,h⟩
 |_,_,i+1,b,.cons _ t,e=>by
  simp at e;obtain⟨a,h1,h2⟩:=Ku t e;exact⟨a,by simpa using h1,h2⟩
theorem o5:∀{l:List α}{m:List β}{i:Nat}{a:α},ci F l m->l[i]? =aa a->∃b,m[i]? =aa b/\F a b
 |_,_,_,_,.nil,h=>by simp at h
 |_,_,0,a,.cons (b:=b) h _,e=>by
  simp at e;subst e;exact⟨b,Z,h⟩
 |_,_,i+1,b,.cons _ t,e=>by
  simp at e;obtain⟨a,h1,h2⟩:=o5 t e;exact⟨a,by simpa using h1,h2⟩
theorem dI(k:∀a b,F a b->G a b):∀{l:List α}{m:List β},ci F l m->ci G l m
 |_,_,.nil=>.nil
 |_,_,.cons h t=>.cons (k _ _ h) (dI k t)
theorem vq:∀{l:List α}{m:List β},l.length=m.length->(∀(i:Nat) a b,l[i]? =aa a->m[i]? =aa b->F a b)->ci F l m
 |[],[],_,_=>.nil
 |[],_::_,h,_=>by simp at h
 |_::_,[],h,_=>by simp at h
 |a::l,b::m,h,k=>.cons (k 0 a b Z Z) (vq (by simpa using h) λi x y h1 h2=>k (i+1) x y (by simpa using h1) (by simpa using h2))
theorem t9:∀{l l':List α}{m m':List β},ci F l m->ci F l' m'->ci F (l++l') (m++m')
 |_,_,_,_,.nil,t=>t
 |_,_,_,_,.cons h s,t=>.cons h (t9 s t)
theorem kP :∀{l:List α}{m:List γ},ci F l (m.map f)->ci (λa c=>F a (f c)) l m
 |[],[],_=>.nil
 |[],_::_,h=>by cases h
 |_::_,[],h=>by cases h
 |_::_,_::_,.cons h t=>.cons h (kP t)
theorem Ia :∀{l:List α}{m:List γ},ci (λa c=>F a (f c)) l m->ci F l (m.map f)
 |_,_,.nil=>.nil
 |_,_,.cons h t=>.cons h (Ia t)
theorem FR:∀{l:List α}{m:List β}(n:Nat),ci F l m->ci F (l.take n) (m.take n)
 |_,_,0,_=>by simp;exact .nil
 |_,_,n+1,.nil=>.nil
 |_,_,n+1,.cons h t=>.cons h (FR n t)
theorem FS:∀{l:List α}{m:List β}(n:Nat),ci F l m->ci F (l.drop n) (m.drop n)
 |_,_,0,t=>t
 |_,_,n+1,.nil=>.nil
 |_,_,n+1,.cons h t=>FS n t
theorem xb:∀{l:List α}{m:List β}(n:Nat),ci F l m->ci F (l.eraseIdx n) (m.eraseIdx n)
 |_,_,_,.nil=>.nil
 |_,_,0,.cons h t=>t
 |_,_,n+1,.cons h t=>.cons h (xb n t)
end
theorem Bd:∀l:V9,ci (λ(v:V)(n:Nat)=>v=nI n) ((nz l).map V.int) l
 |[]=>.nil
 |_::l=>.cons Z (Bd l)
theorem L0{α β:Type}{f:β->α}:∀{l:List α}{m:List β},ci (λv n=>v=f n) l m->l=m.map f
 |_,_,.nil=>rfl
 |_,_,.cons h t=>by rw[bC,h,L0 t]
theorem take_succ{α:Type}{l:List α}{i:Nat}{x:α}(h:l[i]? =aa x):l.take (i+1)=l.take i++[x]:=by
 rw[O6,h];rfl
theorem xx{α β:Type}{l:List α}{i:Nat}{x:α}(f:α->Option β)(h:l[i]? =aa x):(l.take (i+1)).filterMap f=(l.take i).filterMap f++(f x).toList:=by
 rw[take_succ h,J1]
 cases e:f x<;>simp[e]
theorem Rn{α β:Type}(f:α->Option β)(l:List α):(l.filterMap f).length<=l.length:=GO f l
theorem QI(Pv:Nat->Hp->Prop)(h0:Pv 0 (upd H1 D (.lst [])))(ul:∀H,Pv n H->J.stop n H)(Mq:∀i H,i<n->Pv i H->J.go i H)
  (hs:∀i H x H',i<n->Pv i H->J.CJ i H x H'->g x (wipe σ vs) H' λgh H2=>wipe gh vs=wipe σ vs/\tt gh H2 λb H3=>
   if b=ac then te gh H3 (afG D (Pv (i+1)))else Pv (i+1) H3) (hd:∀H,Pv n H->Qd H):
  tLc_2 g tt te vs σ Qd J H1 D:=by
 refine⟨λi m H=>m=n - i/\i<=n/\Pv i H,⟨n,by simp,gx _,h0⟩,λi m H w=>?_⟩;obtain⟨rfl,hi,p⟩:=w;by_cases gO:i<n
 ·exact .inr ⟨Mq i H gO p,Pv (i+1),λH' p'=>⟨n - (i+1),om,Z,gO,p'⟩,λx H' y=>hs i H x H' gO p y⟩
 ·obtain rfl:i=n:=by lia
  exact .inl ⟨ul H p,hd H p⟩
theorem An(Pv:Nat->L2.St->Hp->Prop)(h0:Pv 0 σ H)(ul:∀σ H,Pv n σ H->J.stop n H)(Mq:∀i σ H,i<n->Pv i σ H->J.go i H)
 (hs:∀i σ H x H',i<n->Pv i σ H->J.CJ i H x H'->g x σ H' λgh H2=>tb {D with nx:=Pv (i+1),ct:=Pv (i+1),bk:=D.nx} gh H2)(hd:∀σ H,Pv n σ H->D.nx σ H):
  tFor_2 g tb D σ J H:=by
 refine⟨λi m σ H=>m=n - i/\i<=n/\Pv i σ H,⟨n,by simp,gx _,h0⟩,λi m σ H w=>?_⟩;obtain⟨rfl,hi,p⟩:=w;by_cases gO:i<n
 ·exact .inr ⟨Mq i σ H gO p,Pv (i+1),λjd H' p'=>⟨n - (i+1),om,Z,gO,p'⟩,λx H' y=>hs i σ H x H' gO p y⟩
 ·obtain rfl:i=n:=by lia
  exact .inl ⟨ul σ H p,hd σ H p⟩
theorem filterMap_some{α β:Type}(f:α->β):∀l:List α,l.filterMap (λx=>aa (f x))=l.map f
 |[]=>rfl
 |x::l=>by simp[filterMap_some f l]
section
variable{α β:Type}{K:aj}{a:ao}{xs:V2}{g:TG}{tt:TT}{te:TE}{vs:V9}{σ:L2.St}{H1:Hp}{D:ao}{Qd:Hp->Prop}
theorem yx{Ro:Hp->V->β->Prop}{l:List α}{Ri:V->α->Prop}(f:α->Option β)(mo:∀H H' y b,a7 H H'->Ro H y b->Ro H' y b)
 (hD:H1 D=ab)(hl:bQ K H1 a xs)(hp:ci Ri xs l)(hz:l.length<aE)
  (hs:∀(i:Nat) (x:α) (y:V) (H:Hp) (acc:V2) (Kt:V->Hp->Prop) (Kf:Hp->Prop),l[i]? =aa x->xs[i]? =aa y->Ri y x->a7 H1 H->H D=aa (.lst acc)->
   (∀z b H4,f x=aa b->a7 H H4->(∀H5,vE D H4 H5->a7 H1 H5->Ro H5 z b)->Kt z H4)->(∀H3,f x=ab->a7 H H3->Kf H3)->
   g y (wipe σ vs) H λgh H2=>wipe gh vs=wipe σ vs/\tt gh H2 λb H3=>if b=ac then te gh H3 Kt else Kf H3)
  (hd:∀H' ys,a7 H1 H'->H' D=aa (.lst ys)->ci (Ro H') ys (l.filterMap f)->Qd H'):
  tLc_2 g tt te vs σ Qd (E1 K a) H1 D:=by
 have c6:=dY hp;refine Uc (xs:=xs) (λi H=>a7 H1 H/\∃acc,H D=aa (.lst acc)/\∀H5,vE D H H5->a7 H1 H5->ci (Ro H5) acc ((l.take i).filterMap f)) ⟨a7.tN (a7.refl H1) hD,[],ak,λ_ _ _=>by simp;exact .nil⟩ (λi H _ p=>p.1.seq hl) ?_ ?_
 ·rintro i y H hy ⟨s,acc,fF,uo⟩;obtain⟨x,hx,hr⟩:=o5 hp hy;refine hs i x y H acc _ _ hx hy hr s fF (λz b H4 hf s4 JK=>?_) (λH3 hf s3=>?_)
  ·have gO:acc.length<aE:=by
    have e:=dY (uo H (λb o _ e=>e) s);have e2:((l.take i).filterMap f).length<=l.length:=aB (Rn _ _) (Lx ..);lia
   refine⟨acc,s4 _ _ fF,gO,(s.trans s4).tN hD,_,ak,λH5 b5 s5=>?_⟩;have bt:vE D H4 H5:=λc o n e=>b5 c o n (by rw[aZ n];exact e);rw[xx f hx,hf];exact t9 (uo H5 (λc o n e=>bt c o n (s4 c o e)) s5) (.cons (JK H5 bt s5) .nil)
  ·refine⟨s.trans s3,acc,s3 _ _ fF,λH5 b5 s5=>?_⟩;rw[xx f hx,hf];simpa using uo H5 (λc o n e=>b5 c o n (s3 c o e)) s5
 ·rintro H ⟨s,acc,fF,uo⟩;have:=uo H (λb o _ e=>e) s;rw[c6,cB]at this;exact hd H acc s fF this
theorem F9{l:List α}{Ri:V->α->Prop}(f:α->Option V)(hD:H1 D=ab)(hl:bQ K H1 a xs)(hp:ci Ri xs l)(hz:l.length<aE)
  (hs:∀(i:Nat) (x:α) (y:V) (H:Hp) (Kt:V->Hp->Prop) (Kf:Hp->Prop),l[i]? =aa x->xs[i]? =aa y->Ri y x->a7 H1 H->
   (∀b H4,f x=aa b->a7 H H4->Kt b H4)->(∀H3,f x=ab->a7 H H3->Kf H3)->
   g y (wipe σ vs) H λgh H2=>wipe gh vs=wipe σ vs/\tt gh H2 λb H3=>if b=ac then te gh H3 Kt else Kf H3)
  (hd:∀H',a7 H1 H'->H' D=aa (.lst (l.filterMap f))->Qd H'):
  tLc_2 g tt te vs σ Qd (E1 K a) H1 D:=
 yx (Ro:=λ_ z b=>z=b) f (λ_ _ _ _ _ h=>h) hD hl hp hz (λi x y H acc Kt Kf hx hy hr s fF ht hf=>hs i x y H Kt Kf hx hy hr s (λb H4 e s4=>ht b b H4 e s4 λ_ _ _=>rfl) hf)
  λH' ys s e p=>hd H' s (by rw[e,L0 (f:=id) p,jY])
theorem Ak{Ro:Hp->V->β->Prop}{l:List α}{Ri:V->α->Prop}(f:α->β)(mo:∀H H' y b,a7 H H'->Ro H y b->Ro H' y b)
 (hD:H1 D=ab)(hl:bQ K H1 a xs)(hp:ci Ri xs l)(hz:l.length<aE)
  (hs:∀(i:Nat) (x:α) (y:V) (H:Hp) (acc:V2) (Kt:V->Hp->Prop),l[i]? =aa x->xs[i]? =aa y->Ri y x->a7 H1 H->H D=aa (.lst acc)->
   (∀z H4,a7 H H4->(∀H5,vE D H4 H5->a7 H1 H5->Ro H5 z (f x))->Kt z H4)->g y (wipe σ vs) H λgh H2=>wipe gh vs=wipe σ vs/\te gh H2 Kt)
  (hd:∀H' ys,a7 H1 H'->H' D=aa (.lst ys)->ci (Ro H') ys (l.map f)->Qd H'):
  tLc_2 g Fl te vs σ Qd (E1 K a) H1 D:=
 yx (tt:=Fl) (λx=>aa (f x)) mo hD hl hp hz (λi x y H acc Kt Kf hx hy hr s fF ht hf=>by
  have:=hs i x y H acc Kt hx hy hr s fF λz H4 s4 h5=>ht z (f x) H4 Z s4 h5;have e:(λ(gh:L2.St)(H2:Hp)=>wipe gh vs=wipe σ vs/\Fl gh H2 λb H3=>if b=ac then te gh H3 Kt else Kf H3)=λgh H2=>wipe gh vs=wipe σ vs/\te gh H2 Kt:=by
   funext gh H2;show(wipe gh vs=wipe σ vs/\if ac=ac then te gh H2 Kt else Kf H2)=_;rw[aC Z]
  rw[e];exact this) λH' ys s e p=>hd H' ys s e (by rw[<-filterMap_some];exact p)
theorem mU{l:List α}{Ri:V->α->Prop}(f:α->V)(hD:H1 D=ab)(hl:bQ K H1 a xs)(hp:ci Ri xs l)(hz:l.length<aE)
  (hs:∀(i:Nat) (x:α) (y:V) (H:Hp) (Kt:V->Hp->Prop),l[i]? =aa x->xs[i]? =aa y->Ri y x->a7 H1 H->(∀H4,a7 H H4->Kt (f x) H4)->
   g y (wipe σ vs) H λgh H2=>wipe gh vs=wipe σ vs/\te gh H2 Kt)
  (hd:∀H',a7 H1 H'->H' D=aa (.lst (l.map f))->Qd H'):
  tLc_2 g Fl te vs σ Qd (E1 K a) H1 D:=
 Ak (Ro:=λ_ z b=>z=b) f (λ_ _ _ _ _ h=>h) hD hl hp hz (λi x y H acc Kt hx hy hr s fF ht=>hs i x y H Kt hx hy hr s λH4 s4=>ht (f x) H4 s4 λ_ _ _=>rfl)
  λH' ys s e p=>hd H' s (by rw[e,L0 (f:=id) p,jY])
end
inductive Tag where
 |ln|wE|kinds|Gq (k:Nat)|things|thing (t:Nat)|own (t:Nat)|indexes|rows (i:ao)|pf (i:ao)|cache|xA|entry
 deriving DecidableEq
abbrev Role:=ao->Tag
def Kp(P:Tag->Prop)(H:Hp)(ro:Role)(H':Hp)(ro':Role):Prop:=∀b o,H b=aa o->P (ro b)->H' b=aa o/\ro' b=ro b
def i8(ro:Role)(p:ao)(x:Tag):Role:=λb=>if b=p then x else ro b
theorem fm   :i8 ro p x p=x:=aC rfl
theorem fI(h:b≠p):i8 ro p x b=ro b:=aw h
section
variable{P Q:Tag->Prop}{H H1 H2:Hp}{ro kr nF:Role}
theorem Kp.refl:Kp P H ro H ro:=λ_ _ h _=>⟨h,rfl⟩
theorem Kp.same(s:a7 H H1):Kp P H ro H1 ro:=λb o h _=>⟨s b o h,rfl⟩
theorem Kp.mono(k:Kp P H ro H1 kr)(h:∀x,Q x->P x):Kp Q H ro H1 kr:=λb o e q=>k b o e (h _ q)
theorem Kp.trans(a:Kp P H ro H1 kr)(b:Kp P H1 kr H2 nF):Kp P H ro H2 nF:=λc o e q=>by
 obtain⟨e1,r1⟩:=a c o e q;obtain⟨e2,r2⟩:=b c o e1 (by rw[r1];exact q);exact⟨e2,r2.trans r1⟩
theorem Kp.fresh(s:a7 H H1)(hp:H p=ab):Kp P H ro H1 (i8 ro p x):=λb o e _=>⟨s b o e,fI (aL e hp)⟩
theorem Kp.put(h:ro a=x):Kp (· ≠x) H ro (upd H a o) ro:=λb u e q=>⟨by
 rw[aZ (λz=>q (by rw[z];exact h))];exact e,Z⟩
end
def IM(H:Hp)(ro:Role)(a:ao)(ns:xC):Prop:=IL H a ns/\ro a= .ln
theorem IM.kp{P:Tag->Prop}(h:IM H ro a ns)(k:Kp P H ro H' ro')(q:P .ln):IM H' ro' a ns:=by
 obtain⟨e,r⟩:=k a _ h.1 (by rw[h.2];exact q);exact⟨e,r.trans h.2⟩
inductive LM(H:Hp)(ro:Role)(a:ao)(l:List xC):Prop
 |mk(as:List ao)(_:H a=aa (.lst (as.map V.ref)))(_:ro a= .ln)(_:ci (IM H ro) as l)
theorem LM.kp{P:Tag->Prop}(h:LM H ro a l)(k:Kp P H ro H' ro')(q:P .ln):LM H' ro' a l:=by
 obtain⟨as,e,r,p⟩:=h;obtain⟨e',r'⟩:=k a _ e (by rw[r];exact q);exact⟨as,e',r'.trans r,dI (λ_ _ h=>h.kp k q) p⟩
def dv(l:List (Nat×Int)):Key->Option V
 | .inl z=>if 0<=z then(cK z.toNat l).map V.int else ab
 | .inr _=>ab
theorem yJ(l:List (Nat×Int))(a:Nat):dv l (.inl (a:Int))=(cK a l).map V.int:=by
 show(if 0<=(a:Int)then(cK (a:Int).toNat l).map V.int else ab)=_;rw[aC (Int.natCast_nonneg a),aG]
inductive DR(H:Hp)(d:ao)(l:List (Nat×Int)):Prop
 |mk(kvs:List (Key×V))(_:H d=aa (.dK kvs))(_:(kvs.map (·.1)).Nodup)(_:∀k,eY kvs k=dv l k)
theorem DR.kp{P:Tag->Prop}(h:DR H d l)(k:Kp P H ro H' ro')(q:P (ro d)):DR H' d l/\ro' d=ro d:=by
 obtain⟨kvs,e,n,v⟩:=h;obtain⟨e',r'⟩:=k d _ e q;exact⟨⟨kvs,e',n,v⟩,r'⟩
theorem Ew{kvs:List (Key×V)}(hn:(kvs.map (·.1)).Nodup)(m:Nat)(h:∀k∈kvs.map (·.1),∃a:Nat,k= .inl (a:Int)/\a<=m):kvs.length<=m+1:=by
 have inj:∀{l:List Key},l.Nodup->(∀k∈l,∃a:Nat,k= .inl (a:Int)/\a<=m)->∃l':V9,l'.length=l.length/\l'.Nodup/\(∀a∈l',a<=m)/\∀a∈l',(iJ (a:Int):Key)∈l:=by
  intro l
  induction l with
  |nil=>intro _ _;exact⟨[],Z,gu,by simp,by simp⟩
  |cons k l ih=>
   intro hn hk;obtain⟨h1,h2⟩:=cc.mp hn;obtain⟨l',e,n',b',m'⟩:=ih h2 λk BH=>hk k (aD _ BH);obtain⟨a,rfl,ha⟩:=hk k (by simp);refine⟨a::l',by simp[e],cc.mpr ⟨λz=>h1 (m' a z),n'⟩,λx hx=>?_,λx hx=>?_⟩
   ·rcases aF.mp hx with rfl|hx
    ·exact ha
    ·exact b' x hx
   ·rcases aF.mp hx with rfl|hx
    ·simp
    ·exact aD _ (m' x hx)
 obtain⟨l',e,n',b',_⟩:=inj hn h;rw[af]at e;rw[<-e];have:=m8 n' (r:=cF (m+1)) λx hx=>fi.mpr (by have:=b' x hx;lia);simpa using this
theorem Lb{kvs:List (Key×V)}{l:List (Nat×Int)}(hn:(kvs.map (·.1)).Nodup)(hv:∀k,eY kvs k=dv l k)(ok:DQ l):kvs.length<=16:=by
 refine Ew hn 15 λk hk=>?_
 cases q:eY kvs k with
 |none=>exact absurd hk (tM q)
 |some v=>
  rw[hv]at q
  cases k with
  |inr x=>cases q
  |inl z=>
   have q:(if 0<=z then(cK z.toNat l).map V.int else ab)=aa v:=q;by_cases hz:0<=z
   ·rw[aC hz]at q
    cases e:cK z.toNat l with
    |none=>rw[e]at q;cases q
    |some x=>exact⟨z.toNat,by rw[du hz],ok.le _ (ok.some e)⟩
   ·rw[aw hz]at q;cases q
theorem Rz(hv:∀k,eY kvs k=dv l k)(a:Nat)(x:Int):∀k,eY (putK kvs (.inl (a:Int)) (.int x)) k=dv (lu a x l) k:=λk=>by
 rw[n9,hv]
 cases k with
 |inr y=>rw[aw (λq=>nomatch q)];rfl
 |inl z=>
  by_cases e:z=(a:Int)
  ·subst e;rw[aC Z,yJ,t_,aC Z];rfl
  ·rw[aw (λq=>e (iV q))];show(if 0<=z then _ else _)=(if 0<=z then _ else _);by_cases hz:0<=z
   ·rw[aC hz,aC hz,t_,aw om]
   ·rw[aw hz,aw hz]
theorem n_ {κ:Type} [DecidableEq κ] (k j:κ):∀kvs:List (κ×V),eY (ik kvs k) j=if j=k then ab else eY kvs j
 |[]=>by simp[ik,eY]
 |p::r=>by
  by_cases e:p.1=k
  ·rw[EL e,n_ k j r];by_cases q:j=k
   ·rw[aC q,aC q]
   ·rw[aw q,aw q,gD (λz=>q (z.symm.trans e))]
  ·rw[EM e];by_cases q:p.1=j
   ·rw[ii q,ii q,aw (λz=>e (q.trans z))]
   ·rw[gD q,gD q,n_ k j r]
theorem MA(hv:∀k,eY kvs k=dv l k)(a:Nat):∀k,eY (ik kvs (.inl (a:Int))) k=dv (rh a l) k:=λk=>by
 rw[n_,hv]
 cases k with
 |inr y=>rw[aw (λq=>nomatch q)];rfl
 |inl z=>
  by_cases e:z=(a:Int)
  ·subst e;rw[aC Z,yJ,uL,aC Z];rfl
  ·rw[aw (λq=>e (iV q))];show(if 0<=z then _ else _)=(if 0<=z then _ else _);by_cases hz:0<=z
   ·rw[aC hz,aC hz,uL,aw om]
   ·rw[aw hz,aw hz]
theorem F6{kvs:List (Key×V)}{k:Key}(v:V)(hn:(kvs.map (·.1)).Nodup):((putK kvs k v).map (·.1)).Nodup:=by
 cases e:eY kvs k with
 |none=>exact TY v hn e
 |some x=>
  have:(kvs.any λkv=>decide (kv.1=k))=ac:=by rw[m5,e];rfl
  unfold putK;rw[aC this,bv];have e2:((λx:Key×V=>x.1)∘λkv:Key×V=>if kv.1=k then(kv.1,v)else kv)=λx=>x.1:=by
   funext kv;simp only[iw];split<;>rfl
  rw[e2];exact hn
section
variable(t:eP)
inductive yP(H:Hp)(ro:Role)(n:Nat)(a:ao)(th:U5):Prop
 |mk(dx d:_)(_:H a=aa (.ins t.Thing dx (pV (nI th.kind) (nI th.holder) (.ref d))))(_:ro a= .thing n)(_:DR H d th.own)(_:ro d= .own n)
inductive EZ(H:Hp)(ro:Role)(k:Nat)(a:ao)(kd:V5):Prop
 |mk(dx o d:_)(_:H a=aa (.ins t.Kind dx (Rt (.ref o) (.ref d))))(_:ro a= .ln)(_:IM H ro o (nz kd.order))(_:DR H d kd.defaults)(_:ro d= .Gq k)
abbrev eS(f:Nat->ao)(l:V9):List (Key×V):=l.map λ(n:Nat)=>(iJ (n:Int),V.ref (f n))
def On(H:Hp)(ro:Role)(td:ao)(fz:HO->HO)(w:aO):Prop:=
 ∃ta:Nat->ao,H td=aa (fz (.dK (eS ta (aM w))))/\ro td= .things/\∀n,a_ w n=ac->yP t H ro n (ta n) (bh w n)
def R3(H:Hp)(ro:Role)(kd:ao)(w:aO):Prop:=
 ∃ka:Nat->ao,H kd=aa (.dK (eS ka ((cF w.kinds.length).map (· +1))))/\ro kd= .kinds/\∀k,1<=k->k<=w.kinds.length->EZ t H ro k (ka k) (cS w k)
structure ab?(H:Hp)(ro:Role)(i dx A R D:ao)(kvs:List (Key×V))(re:List ao)(rows:List xC)(at_:V9)(ρ:Nat->Option xC):Prop where
 obj:H i=aa (.ins t.Index dx (Gj (.ref A) (.ref R) (.ref D)))
 ri:ro i= .ln
 RK:IM H ro A (nz at_)
 rws:H R=aa (.lst (re.map V.ref))
 rR:ro R= .rows i
 pd:ci (IM H ro) re rows
 Lj:Tw.Canon ρ rows
 zS:H D=aa (.dK kvs)
 rD:ro D= .pf i
 nd:(kvs.map (·.1)).Nodup
 has:∀k v,eY kvs k=aa v->∃(n:Nat)(a:ao)(r:xC),k= .inl (n:Int)/\v= .ref a/\IM H ro a r/\ρ n=aa r/\n<=200
 all:∀n r,ρ n=aa r->(eY kvs (.inl (n:Int))).isSome=ac
inductive Cb(H:Hp)(ro:Role)(i:ao)(at_:V9)(ρ:Nat->Option xC):Prop
 |mk(dx A R D kvs re rows:_)(_:ab? t H ro i dx A R D kvs re rows at_ ρ)
abbrev p_:=List (V9×(Nat->Option xC))
def Oq(H:Hp)(ro:Role)(il:ao)(L:p_):Prop:=
 ∃is:List ao,H il=aa (.lst (is.map V.ref))/\ro il= .indexes/\is.Nodup/\ci (λi x=>Cb t H ro i x.1 x.2) is L
def dO(c:JA):xC:=[(c.attr:Int),(c.op:Int),c.to]
def sortRow(b:Nat×Bool):xC:=[(b.1:Int),cx b.2]
structure QA(H:Hp)(ro:Role)(a dx N Cs Ss As:ao)(l:xC)(q:bu):Prop where
 obj:H a=aa (.ins t.Question dx (yI (.ref N) (nI q.kind) (.int q.place) (.int (cx q.deep)) (nI q.limit) (.ref Cs) (.ref Ss) (.ref As)))
 ra:ro a= .ln
 ns:IM H ro N l
 cs:LM H ro Cs (q.conds.map dO)
 ss:LM H ro Ss (q.by_.map sortRow)
 aeJ:IM H ro As (nz (gX q))
inductive QR(H:Hp)(ro:Role)(a:ao)(l:xC)(q:bu):Prop
 |mk(dx N Cs Ss As:_)(_:QA t H ro a dx N Cs Ss As l q)
inductive Gz(H:Hp)(ro:Role)(a:ao)(e:dA):Prop
 |mk(dx q A qq:_)(_:H a=aa (.ins t.Entry dx (Gk (.ref q) (.ref A) (nI e.made) (nI e.used))))(_:ro a= .entry)(_:eN e.asked=aa qq)(_:QR t H ro q e.asked qq)(_:IM H ro A (nz e.answer))
abbrev pY(c:bw)(el:ao):List (bV×V):=Ru (nI c.rule) (nI c.most) (nI c.clock) (nI c.hits) (nI c.misses) (nI c.fallen) (nI c.forgotten) (.ref el)
structure aeC(H:Hp)(ro:Role)(ca dx el:ao)(mB:List ao)(c:bw):Prop where
 obj:H ca=aa (.ins t.Cache dx (pY c el))
 rc:ro ca= .cache
 lst:H el=aa (.lst (mB.map V.ref))
 rl:ro el= .xA
 nd:mB.Nodup
 pd:ci (Gz t H ro) mB c.entries
inductive DS(H:Hp)(ro:Role)(ca:ao)(c:bw):Prop
 |mk(dx el mB:_)(_:aeC t H ro ca dx el mB c)
structure WA(H:Hp)(ro:Role)(W dx kd td il ca:ao)(fz:HO->HO)(w:aO)(L:p_)(c:bw):Prop where
 obj:H W=aa (.ins t.World dx (rZ (.ref kd) (.ref td) (nI w.things.length) (.ref il) (.ref ca)))
 vn:ro W= .wE
 ks:R3 t H ro kd w
 ts:On t H ro td fz w
 ix:Oq t H ro il L
 ca:DS t H ro ca c
inductive WR(H:Hp)(ro:Role)(W:ao)(fz:HO->HO)(w:aO)(L:p_)(c:bw):Prop
 |mk(dx kd td il ca:_)(_:WA t H ro W dx kd td il ca fz w L c)
end
section
variable{t:eP}{P:Tag->Prop}{H H':Hp}{ro ro':Role}
theorem yP.kp(h:yP t H ro n a th)(k:Kp P H ro H' ro')(h1:P (.thing n))(h2:P (.own n)):yP t H' ro' n a th:=by
 obtain⟨dx,d,e,r,dd,rd⟩:=h;obtain⟨e',r'⟩:=k a _ e (by rw[r];exact h1);obtain⟨d',abu⟩:=dd.kp k (by rw[rd];exact h2);exact⟨dx,d,e',r'.trans r,d',abu.trans rd⟩
theorem EZ.kp(h:EZ t H ro n a kd)(k:Kp P H ro H' ro')(h1:P .ln)(h2:P (.Gq n)):EZ t H' ro' n a kd:=by
 obtain⟨dx,o,d,e,r,i,dd,rd⟩:=h;obtain⟨e',r'⟩:=k a _ e (by rw[r];exact h1);obtain⟨d',abu⟩:=dd.kp k (by rw[rd];exact h2);exact⟨dx,o,d,e',r'.trans r,i.kp k h1,d',abu.trans rd⟩
theorem On.kp(h:On t H ro td fz w)(k:Kp P H ro H' ro')(h0:P .things)(h1:∀n,a_ w n=ac->P (.thing n))(h2:∀n,a_ w n=ac->P (.own n)):On t H' ro' td fz w:=by
 obtain⟨ta,e,r,f⟩:=h;obtain⟨e',r'⟩:=k td _ e (by rw[r];exact h0);exact⟨ta,e',r'.trans r,λn hn=>(f n hn).kp k (h1 n hn) (h2 n hn)⟩
theorem R3.kp(h:R3 t H ro kd w)(k:Kp P H ro H' ro')(h0:P .kinds)(h1:P .ln)(h2:∀n,P (.Gq n)):R3 t H' ro' kd w:=by
 obtain⟨ta,e,r,f⟩:=h;obtain⟨e',r'⟩:=k kd _ e (by rw[r];exact h0);exact⟨ta,e',r'.trans r,λn hn Ym=>(f n hn Ym).kp k h1 (h2 n)⟩
theorem ab?.kp{i dx A R D:ao}(h:ab? t H ro i dx A R D kvs re rows at_ ρ)(k:Kp P H ro H' ro')(h0:P .ln)(h1:P (.rows i))(h2:P (.pf i)):
  ab? t H' ro' i dx A R D kvs re rows at_ ρ:=by
 obtain⟨e1,r1⟩:=k i _ h.obj (by rw[h.ri];exact h0);obtain⟨e2,r2⟩:=k R _ h.rws (by rw[h.rR];exact h1);obtain⟨e3,r3⟩:=k D _ h.zS (by rw[h.rD];exact h2);exact⟨e1,r1.trans h.ri,h.RK.kp k h0,e2,r2.trans h.rR,dI (λ_ _ z=>z.kp k h0) h.pd,h.Lj,e3,r3.trans h.rD,h.nd,λq v z=>by
  obtain⟨n,a,r,z1,z2,z3,z4⟩:=h.has q v z;exact⟨n,a,r,z1,z2,z3.kp k h0,z4⟩,h.all⟩
theorem Cb.kp(h:Cb t H ro i at_ ρ)(k:Kp P H ro H' ro')(h0:P .ln)(h1:P (.rows i))(h2:P (.pf i)):Cb t H' ro' i at_ ρ:=by
 obtain⟨dx,A,R,D,kvs,re,rows,x⟩:=h;exact⟨dx,A,R,D,kvs,re,rows,x.kp k h0 h1 h2⟩
theorem Oq.kp(h:Oq t H ro il L)(k:Kp P H ro H' ro')(h0:P .ln)(h1:P .indexes)(h2:∀i,P (.rows i))(h3:∀i,P (.pf i)):Oq t H' ro' il L:=by
 obtain⟨is,e,r,n,p⟩:=h;obtain⟨e',r'⟩:=k il _ e (by rw[r];exact h1);exact⟨is,e',r'.trans r,n,dI (λi _ z=>z.kp k h0 (h2 i) (h3 i)) p⟩
theorem QA.kp(h:QA t H ro a dx N Cs Ss As l q)(k:Kp P H ro H' ro')(h0:P .ln):QA t H' ro' a dx N Cs Ss As l q:=by
 obtain⟨e1,r1⟩:=k a _ h.obj (by rw[h.ra];exact h0);exact⟨e1,r1.trans h.ra,h.ns.kp k h0,h.cs.kp k h0,h.ss.kp k h0,h.aeJ.kp k h0⟩
theorem QR.kp(h:QR t H ro a l q)(k:Kp P H ro H' ro')(h0:P .ln):QR t H' ro' a l q:=by
 obtain⟨dx,N,Cs,Ss,As,x⟩:=h;exact⟨dx,N,Cs,Ss,As,x.kp k h0⟩
theorem Gz.kp(h:Gz t H ro a e)(k:Kp P H ro H' ro')(h0:P .ln)(h1:P .entry):Gz t H' ro' a e:=by
 obtain⟨dx,q,A,qq,z1,z2,z3,z4,z5⟩:=h;obtain⟨e1,r1⟩:=k a _ z1 (by rw[z2];exact h1);exact⟨dx,q,A,qq,e1,r1.trans z2,z3,z4.kp k h0,z5.kp k h0⟩
theorem DS.kp(h:DS t H ro ca c)(k:Kp P H ro H' ro')(h0:P .ln)(h1:P .cache)(h2:P .xA)(h3:P .entry):DS t H' ro' ca c:=by
 obtain⟨dx,el,mB,x⟩:=h;obtain⟨e1,r1⟩:=k ca _ x.obj (by rw[x.rc];exact h1);obtain⟨e2,r2⟩:=k el _ x.lst (by rw[x.rl];exact h2);exact⟨dx,el,mB,e1,r1.trans x.rc,e2,r2.trans x.rl,x.nd,dI (λ_ _ z=>z.kp k h0 h3) x.pd⟩
theorem WR.kp{W:ao}(h:WR t H ro W fz w L c)(k:Kp (λ_=>True) H ro H' ro'):WR t H' ro' W fz w L c:=by
 obtain⟨dx,kd,td,il,ca,x⟩:=h;obtain⟨e1,r1⟩:=k W _ x.obj trivial;exact⟨dx,kd,td,il,ca,e1,r1.trans x.vn,x.ks.kp k trivial trivial (λ_=>trivial),x.ts.kp k trivial (λ_ _=>trivial) (λ_ _=>trivial),x.ix.kp k trivial trivial (λ_=>trivial) (λ_=>trivial),x.ca.kp k trivial trivial trivial trivial⟩
theorem WR.same{W:ao}(h:WR t H ro W fz w L c)(s:a7 H H'):WR t H' ro W fz w L c:=h.kp (Kp.same s)
theorem QR.same(h:QR t H ro a l q)(s:a7 H H'):QR t H' ro a l q:=h.kp (P:=λ_=>True) (Kp.same s) trivial
end
theorem Eb{f:Nat->ao}{l:V9}{n:Nat}(h:n∈l):eY (eS f l) (.inl (n:Int))=aa (.ref (f n)):=by
 induction l with
 |nil=>simp at h
 |cons m l ih=>
  show eY ((iJ (m:Int),V.ref (f m))::eS f l) _=_;by_cases e:m=n
  ·subst e;exact ii (p:=(iJ (m:Int),V.ref (f m))) Z
  ·rw[gD (p:=(iJ (m:Int),V.ref (f m))) (λq=>e (by have:=iV q;lia))];exact ih (by simpa[a8 e]using h)
theorem Fi{f:Nat->ao}{l:V9}{z:Int}(h:∀n∈l,(n:Int)≠z):eY (eS f l) (.inl z)=ab:=by
 induction l with
 |nil=>rfl
 |cons m l ih=>
  show eY ((iJ (m:Int),V.ref (f m))::eS f l) _=_;rw[gD (p:=(iJ (m:Int),V.ref (f m))) (λq=>h m (by simp) (iV q))];exact ih λn hn=>h n (aD _ hn)
def Fz(fz:HO->HO):Prop:=fz=id\/∃o,fz=HO.jT o
theorem Fz.rd(z:Fz fz)(h:H d=aa (fz u)):Rd H d u:=by
 rcases z with rfl|⟨o,rfl⟩
 ·exact .inl h
 ·exact .inr ⟨o,h⟩
theorem oJ(xs:V2)(i:Nat):qP xs (aa (i:Int)) ab=xs.drop i:=by
 unfold qP;rw[HT.z?,HT.HI];by_cases h:i<=xs.length
 ·rw[lG h,ee (by rw[gj];lia)]
 ·rw[sI om,mq (aS _),mq om];simp
theorem RG(xs:V2)(j:Nat):qP xs ab (aa (j:Int))=xs.take j:=by
 unfold qP;rw[HT.z?,HT.HI,D7,Nat.sub_zero];by_cases h:j<=xs.length
 ·rw[lG h]
 ·rw[sI om,ee (aS _),ee om]
theorem xD(xs:V2)(i j:Nat):qP xs (aa (i:Int)) (aa (j:Int))=(xs.take j).drop i:=by
 unfold qP;rw[HT.z?,HT.z?,U?];by_cases h:i<=xs.length
 ·rw[lG h];by_cases h2:j<=xs.length
  ·rw[lG h2]
  ·rw[sI om,ee (l:=xs.drop i) (by rw[gj];lia),ee (l:=xs.drop i) (by rw[gj];lia)]
 ·rw[sI (show xs.length<=i by lia),mq (aS _),mq (as:=xs) (i:=i) om];simp
theorem IJ(z:Int):∀ns:xC,DA (.int z) (ns.map V.int)=decide (z∈ns)
 |[]=>by simp[DA]
 |n::ns=>by
  have ih:=IJ z ns;unfold DA at ih ⊢;rw[bC,d9,ih];show((n==z)||_)=_;by_cases e:n=z
  ·subst e;simp
  ·simp[e,a8 e]
theorem mO(ns:xC):(ns.map V.int).all pH=ac:=by
 rw[dC];intro v hv;obtain⟨n,_,rfl⟩:=aV.mp hv;rfl
theorem Iv{m:Nat}{l:V9}:(m:Int)∈nz l↔m∈l:=by
 constructor
 ·intro h;obtain⟨x,hx,e⟩:=aV.mp h;have:x=m:=om;rw[<-this];exact hx
 ·exact λh=>aV.mpr ⟨m,h,Z⟩
theorem uk(m:Nat)(l:V9):DA (nI m) ((nz l).map V.int)=l.contains m:=by
 rw[IJ];by_cases h:m∈l
 ·rw[aI (Iv.mpr h)];exact(gf.mpr h).symm
 ·rw[ay (λz=>h (Iv.mp z))]
  cases e:l.contains m with
  |false=>rfl
  |true=>exact absurd (gf.mp e) h
inductive LL(H:Hp)(a:ao)(l:List xC):Prop
 |mk(as:List ao)(_:H a=aa (.lst (as.map V.ref)))(_:ci (IL H) as l)
theorem LL.same(h:LL H a l)(s:a7 H H'):LL H' a l:=by
 obtain⟨as,e,p⟩:=h;exact⟨as,s _ _ e,dI (λ_ _ h=>h.same s) p⟩
inductive RL(H:Hp)(v:V)(l:xC):Prop
 |mk(a:_)(_:v= .ref a)(_:IL H a l)
theorem RL.same(h:RL H v l)(s:a7 H H'):RL H' v l:=by
 obtain⟨a,e,i⟩:=h;exact⟨a,e,i.same s⟩
theorem LL.rl(h:LL H a l):∃ys,H a=aa (.lst ys)/\ci (RL H) ys l:=by
 obtain⟨as,e,p⟩:=h;refine⟨as.map V.ref,e,?_⟩;clear e
 induction p with
 |nil=>exact .nil
 |cons h t ih=>exact .cons ⟨_,Z,h⟩ ih
inductive vd(S:ao->Prop)(H:Hp)(a:ao)(l:List xC):Prop
 |mk(as:List ao)(_:H a=aa (.lst (as.map V.ref)))(_:ci (λb x=>IL H b x/\S b) as l)
theorem vd.ll{S:ao->Prop}(h:vd S H a l):LL H a l:=by
 obtain⟨as,e,p⟩:=h;exact⟨as,e,dI (λ_ _ z=>z.1) p⟩
def RW(S:ao->Prop)(H:Hp)(v:V)(l:xC):Prop:=∃a,v= .ref a/\IL H a l/\S a
theorem RW.same{S:ao->Prop}(h:RW S H v l)(s:a7 H H'):RW S H' v l:=by
 obtain⟨a,e,i,q⟩:=h;exact⟨a,e,i.same s,q⟩
theorem vd.rl{S:ao->Prop}(h:vd S H a l):∃ys,H a=aa (.lst ys)/\ci (RW S H) ys l:=by
 obtain⟨as,e,p⟩:=h;refine⟨as.map V.ref,e,?_⟩;clear e
 induction p with
 |nil=>exact .nil
 |cons h t ih=>exact .cons ⟨_,Z,h⟩ ih
theorem vd.L4{S:ao->Prop}(e:H a=aa (.lst ys))(p:ci (RW S H) ys l):vd S H a l:=by
 have:∃as:List ao,ys=as.map V.ref/\ci (λb x=>IL H b x/\S b) as l:=by
  clear e
  induction p with
  |nil=>exact⟨[],Z,.nil⟩
  |cons h t ih=>
   obtain⟨a,rfl,h⟩:=h;obtain⟨as,rfl,p⟩:=ih;exact⟨a::as,Z,.cons h p⟩
 obtain⟨as,rfl,p'⟩:=this;exact⟨as,e,p'⟩
theorem vd.mono{S S':ao->Prop}(h:vd S H a l)(k:∀b,S b->S' b):vd S' H a l:=by
 obtain⟨as,e,p⟩:=h;exact⟨as,e,dI (λ_ _ z=>⟨z.1,k _ z.2⟩) p⟩
theorem vd.same{S:ao->Prop}(h:vd S H a l)(s:a7 H H'):vd S H' a l:=by
 obtain⟨as,e,p⟩:=h;exact⟨as,s _ _ e,dI (λ_ _ z=>⟨z.1.same s,z.2⟩) p⟩
theorem vd.but(h:vd (· ≠m) H a l)(n:a≠m)(s:vE m H H'):vd (· ≠m) H' a l:=by
 obtain⟨as,e,p⟩:=h;exact⟨as,s _ _ n e,dI (λb _ z=>⟨s _ _ z.2 z.1,z.2⟩) p⟩
abbrev nats(l:List V9):List xC:=l.map nz
variable{P:ba}{w:br}{K:aj}{mg:bV->Option ai}{base:bO}{t:eP}
inductive ya(vs:V2)(H:Hp)(Q:VK)(E:XK):Prop
 |mk(m:Nat)(a:ao)(rows:List V9)(_:vs=[nI m,.ref a])(_:LL H a (nats rows))(_:rows.length<=1000)(_:∀H',a7 H H'->Q (.bl (uC m rows)) H')
abbrev FOk(P w K mg base)(n i:Nat)(t:eP):=cD P w K mg base gr n (t.f i) (t.d i)
theorem yq(T:Txt K mg t):(1<*17) ["member","rows"] ya:=by
 refine T.f.G17.F.ok2 ["member","rows","row"] ?_;obtain⟨m,a,rows,rfl,hL,hz,k⟩;refine⟨_,(aH (bo (bF (Lg Z) Z T.any boot_any (ah (mr (own:=[("row",2)]) Z nd (dH (pv 1)) (eE (N:=["member","rows","row"]) (sc:=cj sm) dK) (λ_ _ _ _ _=>cJ (i:=2) nd Z (bi Z)) (λ_ _ _ _ _=>i9) (λ_ _ _ _ _=>(gJ (Ky (K:=K) Z) (pv 0) (iM (AS (K:=K) Z) (pv 2) (gZ aN) ph) (by with_unfolding_all rfl)))) ax)))),?_⟩;obtain⟨ys,e,p⟩:=hL.rl;refine⟨_,Z,a,Z,⟨_,bQ.of e⟩,λD hD=>mU (K:=K) (a:=a) (xs:=ys) (l:=rows) (Ri:=λy x=>RL H y (nz x)) (λx=>.bl ((x.drop 1).contains m)) hD (bQ.of e) ?_ (aX hz dk) ?_ ?_⟩
 ·exact kP p
 ·intro i x y H2 Kt hx hy um s2 ht;obtain⟨b,rfl,hb⟩:=um;refine⟨Z,_,Z,_,Z,_,Z,_,_,Z,bQ.of (s2 _ _ hb),λp hp=>⟨_,_,Z,.inl (bQ.of ak),Z,?_,?_⟩⟩
  ·rw[show((1:Int))=((1:Nat):Int)from Z,oJ,<-gn];exact mO _
  ·have:=ht _ (a7.upd hp (o:=.lst (qP (U_ V.int (nz x)) (aa 1) ab)));refine(congrArg (λz=>Kt (V.bl z) _) ?_).mp this;rw[show((1:Int))=((1:Nat):Int)from Z,oJ,<-gn,<-gn];exact(uk m _).symm
 ·intro H' s' e';refine⟨_,rows.map (λx=>(x.drop 1).contains m),Z,?_,?_⟩
  ·refine bQ.of (e'.trans ?_);rw[bv];rfl
  ·have:(rows.map λx=>(x.drop 1).contains m).any id=uC m rows:=by
    rw[tj];rfl
   rw[this];exact k H' s'
theorem Ao:∀l:List V9,l.filterMap (λx=>if x.isEmpty then ab else aa (nz x))=nats (l.filter λl=>!l.isEmpty)
 |[]=>rfl
 |[]::l=>by rw[List.filterMap_cons_none Z,Ao l];rfl
 |(z::r)::l=>by rw[List.filterMap_cons_some (f:=λx:V9=>if x.isEmpty=ac then ab else aa (nz x)) (a:=z::r) (b:=nz (z::r)) Z,Ao l];rfl
theorem sR  :Ol (x::xs) 0=aa x:=MN (j:=0) rfl
theorem LL.at_{H:Hp}{a:ao}{l:List xC}{ys:V2}{i:Nat}{y:V}(e:H a=aa (.lst ys))(p:ci (RL H) ys l)(hy:ys[i]? =aa y):∃x b,l[i]? =aa x/\y= .ref b/\IL H b x:=by
 obtain⟨x,hx,b,rfl,hb⟩:=o5 p hy;exact⟨x,b,hx,Z,hb⟩
inductive wI(vs:V2)(H:Hp)(Q:VK)(E:XK):Prop
 |mk(a:ao)(rows:List V9)(_:vs=[.ref a])(_:LL H a (nats rows))(_:Tw.Full rows)(_:rows.length<=1000)(_:∀H',a7 H H'->Q (nI ((eU rows).getD 0)) H')
theorem px(T:Txt K mg t):(2<*18) ["rows"] wI:=by
 refine T.f.G18.F.ok2 ["rows","row"] ?_;obtain⟨a,rows,rfl,hL,hF,hz,k⟩;refine⟨_,(ap (jI bY Z (dH (pv 0)) (cJ (i:=1) nd Z (bi Z))
  (aH (de (oo (hJ (j9 (yq T) (hr.mono dk) Z T.f.G17 (ah (cu bP (pv 1) aN (λ_ _=>rfl)) (ah (pv 0) ax))))) (aH (bo (cu bP (pv 1) aN (λ_ _=>rfl)))) bS)))
  (aH (bo aN))),?_⟩
 obtain⟨ys,e,p⟩:=hL.rl;have c6:ys.length=rows.length:=by rw[dY p,af]
 refine⟨_,Z,a,Z,⟨_,bQ.of e⟩,ij (K:=K) (a:=a) (xs:=ys) (λi σ H'=>∃v:Option V,σ=[aa (.ref a),v]/\a7 H H'/\((rows.take i).filterMap λl=>l.head?).find? (λx=>!uC x rows)=ab)
  ⟨ab,Z,a7.refl H,Z⟩ (λi σ H' _ ⟨_,_,s1,_⟩=>s1.seq (bQ.of e)) ?_ ?_⟩
 ·rintro i y σ H1 hy ⟨v,rfl,s1,hn⟩;obtain⟨x,b,hx,rfl,hb⟩:=LL.at_ e p hy;obtain⟨r,DC,rfl⟩:∃r,rows[i]? =aa r/\x=nz r:=by
   rw[aA]at hx
   cases q:rows[i]? with
   |none=>rw[q]at hx;cases hx
   |some r=>rw[q]at hx;exact⟨r,Z,(bN hx).symm⟩
  obtain⟨z,r,rfl⟩:∃z r',r=z::r':=by
   cases r with
   |nil=>exact absurd Z (hF _ (aP DC))
   |cons z r=>exact⟨z,r,Z⟩
  have EI:H1 b=aa (.lst (nI z::(nz r).map V.int)):=s1 _ _ hb;refine⟨_,Z,_,_,_,_,Z,Z,bQ.of EI,sR,_,Z,z,a,rows,Z,hL.same s1,hz,λH2 s2=>⟨_,Z,?_⟩⟩;have hs:((rows.take (i+1)).filterMap λl=>l.head?)=((rows.take i).filterMap λl=>l.head?)++[z]:=by
   rw[xx _ DC];rfl
  cases aak:uC z rows with
  |true=>
   refine cy ⟨_,Z,s1.trans s2,?_⟩;rw[hs,O_,hn];simp[aak]
  |false=>
   refine cI ⟨_,Z,_,_,_,_,Z,Z,bQ.of (s2 _ _ EI),sR,?_⟩;have hc:eU rows=aa z:=by
    unfold eU;rw[<-g? (i+1) rows,J1,hs,fP,O_,g?,hn];simp[aak]
   have:=k H2 (s1.trans s2);rw[hc]at this;exact this
 ·rintro σ H1 ⟨v,rfl,s1,hn⟩;rw[c6,cB]at hn;have hc:eU rows=ab:=hn;have:=k H1 s1;rw[hc]at this;exact this
inductive sM(vs:V2)(H:Hp)(Q:VK)(E:XK):Prop
 |mk(a:ao)(m:Nat)(rows:List V9)(S:ao->Prop)(_:vs=[.ref a,nI m])(_:vd S H a (nats rows))(_:Tw.Full rows)(_:rows.length<=1000)(_:∀H' p,a7 H H'->H p=ab->vd (λb=>S b\/H b=ab) H' p (nats (e? m rows))->Q (.ref p) H')
theorem sP(T:Txt K mg t):(1<*19) ["rows","member"] sM:=by
 refine T.f.G19.F.ok2 ["rows","member","shorter","row"] ?_;obtain⟨a,m,rows,S,rfl,hL,hF,hz,k⟩;refine⟨_,(ap (qz (i:=2) (own:=[("row",3)]) Z nd Z Z (by with_unfolding_all rfl) (dH (pv 0)) (eE (N:=["rows","member","shorter","row"]) (sc:=cj jH) dK) (λ_ _ _ _ _=>cJ (i:=3) nd Z (bi Z)) (λ_ _ _ _ _=>i9) (λ_ _ _ _ _=>(xa (bR fZ (cu (kK (K:=K) Z) (pv 3) aN (λ_ _=>rfl)) (pv 1) (bU _)) (iM (AS (K:=K) Z) (pv 3) (gZ aN) ph) (pv 3))))
  (aH (bo (mr (own:=[("row",3)]) Z nd (dH (pv 2)) (eE (N:=["rows","member","shorter","row"]) (sc:=cj jH) dK) (λ_ _ _ _ _=>cJ (i:=3) nd Z (bi Z)) (λ_ _ _ _ _=>nG (bR y8 (bF (mW (K:=K) Z) Z T.len a9 (ah (pv 3) ax)) aN (bU _))) (λ_ _ _ _ _=>(pv 3)))))),?_⟩
 obtain⟨ys,e,p⟩:=hL.rl;refine⟨_,Z,a,Z,⟨_,bQ.of e⟩,λD hD=>Ak (K:=K) (a:=a) (xs:=ys) (l:=rows) (Ri:=λy x=>RW S H y (nz x)) (Ro:=RW λb=>S b\/H b=ab) (λx=>nz (if x.head? =aa m then x.drop 1 else x)) (λH H' y b s h=>h.same s) hD (bQ.of e) (kP p) (aX hz dk) ?_ ?_⟩
 ·intro i x y H2 acc Kt hx hy um s2 fF ht;obtain⟨b,rfl,hb,ad7⟩:=um;obtain⟨z,r,rfl⟩:∃z r',x=z::r':=by
   cases x with
   |nil=>exact absurd Z (hF _ (aP hx))
   |cons z r=>exact⟨z,r,Z⟩
  have EI:H2 b=aa (.lst (nI z::(nz r).map V.int)):=s2 _ _ hb;refine⟨Z,_,Z,_,_,_,_,Z,Z,bQ.of EI,sR,_,Z,Z,_,Z,?_⟩;by_cases ac7:z=m
  ·subst ac7;rw[aI Z];refine cI ⟨_,Z,_,Z,_,_,Z,bQ.of EI,λq hq=>?_⟩;refine ht _ _ (a7.upd hq) λH5 b5 s5=>?_;refine⟨q,Z,b5 q _ (aL fF hq).symm ?_,.inr (s2.free hq)⟩;rw[ak,aC (show(z::r).head? =aa z from Z),show((1:Int))=((1:Nat):Int)from Z,oJ];rfl
  ·rw[ay (λq=>ac7 (by injection q with q;lia))];refine cy ⟨_,Z,ht _ _ (a7.refl _) λH5 b5 s5=>⟨b,Z,?_,.inl ad7⟩⟩;rw[aw (show¬(z::r).head? =aa m from λq=>ac7 (bN q))];exact s5 _ _ hb
 ·intro H1 zs s1 e1 p1;refine⟨_,Z,D,Z,⟨_,bQ.of e1⟩,λD2 Xs=>yx (K:=K) (a:=D) (xs:=zs) (l:=rows.map λx=>if x.head? =aa m then x.drop 1 else x) (Ri:=λy x=>RW (λb=>S b\/H b=ab) H1 y (nz x)) (Ro:=RW λb=>S b\/H b=ab) (λx=>if x.isEmpty then ab else aa (nz x)) (λH H' y b s h=>h.same s) Xs (bQ.of e1) ?_ (by rw[af];exact aX hz dk) ?_ ?_⟩
  ·refine kP ?_;rw[bv];exact p1
  ·intro i x y H2 acc Kt Kf hx hy um s2 fF ht hf;obtain⟨b,rfl,hb,ad7⟩:=um;refine⟨Z,_,Z,_,_,Z,.inl (bQ.of (s2 _ _ hb)),_,_,Z,Z,_,Z,?_⟩;rw[af,af]
   cases x with
   |nil=>exact cy (hf _ Z (a7.refl _))
   |cons z r=>
    rw[aI (by simp)];exact cI ⟨_,Z,ht _ _ _ Z (a7.refl _) λH5 b5 s5=>⟨b,Z,s5 _ _ hb,ad7⟩⟩
  ·intro H2 us s2 e2 p2;refine k H2 D2 (s1.trans s2) (s1.free Xs) (vd.L4 e2 ?_);have:(rows.map λx=>if x.head? =aa m then x.drop 1 else x).filterMap (λx=>if x.isEmpty then ab else aa (nz x))=nats (e? m rows):=Ao _;rw[this]at p2;exact p2
inductive CV(t:eP)(vs:V2)(H:Hp)(Q:VK)(E:XK):Prop
 |mk(p dx:ao)(x0 x1 x2:V)(_:vs=[.ref p,x0,x1,x2])(_:H p=aa (.ins t.Entry dx []))(_:∀(H':Hp),vE p H H'->H' p=aa (.ins t.Entry dx (Gk x0 x1 x2 x2))->Q .iy H')
theorem Ds(T:Txt K mg t):(1<*0) ["self","question","answer","clock"] (CV t):=by
 refine T.m.G0.F.ok C3 (λvs H Q E h=>?_) (λfC A outer s H vs Q E hr h=>?_)
 ·obtain⟨p,dx,x0,x1,x2,rfl,_⟩:=h;rfl
 ·obtain⟨p,dx,x0,x1,x2,rfl,h0,k⟩:=h;refine⟨_,(ap (dM (pv 0) (pv 1) Z)
   (ap (dM (pv 0) (pv 2) Z)
   (ap (dM (pv 0) (pv 3) Z)
   (aH (dM (pv 0) (pv 3) Z))))),?_⟩
  refine⟨_,Z,_,Z,_,_,_,_,Z,h0,T.jU,T.iO,(by show 0<1000;decide),?_⟩;refine⟨_,Z,_,Z,_,_,_,_,Z,ak,T.jU,T.ue,(by show 1<1000;decide),?_⟩;refine⟨_,Z,_,Z,_,_,_,_,Z,ak,T.jU,T.ud,(by show 2<1000;decide),?_⟩;refine⟨_,Z,_,Z,_,_,_,_,Z,ak,T.jU,T.kQ,(by show 3<1000;decide),?_⟩;exact k _ (λb o n e=>by rw[aZ n,aZ n,aZ n,aZ n];exact e) ak
inductive CY(t:eP)(vs:V2)(H:Hp)(Q:VK)(E:XK):Prop
 |mk(p dx:ao)(x0 x1:V)(_:vs=[.ref p,x0,x1])(_:H p=aa (.ins t.Cache dx []))(_:∀(H':Hp) (yy:ao),vE p H H'->H' p=aa (.ins t.Cache dx (Ru x0 x1 (.int 0) (.int 0) (.int 0) (.int 0) (.int 0) (.ref yy)))->H yy=ab->H' yy=aa (.lst [])->Q .iy H')
theorem vw(T:Txt K mg t):(1<*1) ["self","rule","most"] (CY t):=by
 refine T.m.G1.F.ok C5 (λvs H Q E h=>?_) (λfC A outer s H vs Q E hr h=>?_)
 ·obtain⟨p,dx,x0,x1,rfl,_⟩:=h;rfl
 ·obtain⟨p,dx,x0,x1,rfl,h0,k⟩:=h;refine⟨_,(ap (dM (pv 0) (pv 1) Z)
   (ap (dM (pv 0) (pv 2) Z)
   (ap (dM (pv 0) aN Z)
   (ap (dM (pv 0) aN Z)
   (ap (dM (pv 0) aN Z)
   (ap (dM (pv 0) aN Z)
   (ap (dM (pv 0) aN Z)
   (aH (dM (pv 0) (cn ax) Z))))))))),?_⟩
  refine⟨_,Z,_,Z,_,_,_,_,Z,h0,T.cp,T.xn,(by show 0<1000;decide),?_⟩;refine⟨_,Z,_,Z,_,_,_,_,Z,ak,T.cp,T.rP,(by show 1<1000;decide),?_⟩;refine⟨_,Z,_,_,_,_,Z,ak,T.cp,T.kJ,(by show 2<1000;decide),?_⟩;refine⟨_,Z,_,_,_,_,Z,ak,T.cp,T.rQ,(by show 3<1000;decide),?_⟩;refine⟨_,Z,_,_,_,_,Z,ak,T.cp,T.oA,(by show 4<1000;decide),?_⟩;refine⟨_,Z,_,_,_,_,Z,ak,T.cp,T.oB,(by show 5<1000;decide),?_⟩;refine⟨_,Z,_,_,_,_,Z,ak,T.cp,T.jv,(by show 6<1000;decide),?_⟩;refine⟨(by show 0<=aE;decide),λl7 Z1=>?_⟩;have e7:p≠l7:=λz=>by
   rw[<-z,ak]at Z1
   cases Z1
  refine⟨_,Z,_,_,_,_,Z,(by rw[aZ e7];exact ak),T.cp,T.cT,(by show 7<1000;decide),?_⟩;have free:H l7=ab:=by
   cases q:H l7 with
   |none=>rfl
   |some o=>rw[aZ (a8 e7),aZ (a8 e7),aZ (a8 e7),aZ (a8 e7),aZ (a8 e7),aZ (a8 e7),aZ (a8 e7)]at Z1;rw[q]at Z1;cases Z1
  exact k _ _ (λb o n e=>by rw[aZ n,aZ (aL e free),aZ n,aZ n,aZ n,aZ n,aZ n,aZ n,aZ n];exact e) ak free (by rw[aZ (a8 e7)];exact ak)
inductive Fs(t:eP)(vs:V2)(H:Hp)(Q:VK)(E:XK):Prop
 |mk(p dx:ao)(x0:V)(_:vs=[.ref p,x0])(_:H p=aa (.ins t.Kind dx []))(_:∀(H':Hp) (v6:ao),vE p H H'->H' p=aa (.ins t.Kind dx (Rt x0 (.ref v6)))->H v6=ab->H' v6=aa (.dK [])->Q .iy H')
theorem F5(T:Txt K mg t):(1<*15) ["self","order"] (Fs t):=by
 refine T.m.G15.F.ok Fv (λvs H Q E h=>?_) (λfC A outer s H vs Q E hr h=>?_)
 ·obtain⟨p,dx,x0,rfl,_⟩:=h;rfl
 ·obtain⟨p,dx,x0,rfl,h0,k⟩:=h;refine⟨_,(ap (dM (pv 0) (pv 1) Z)
   (aH (dM (pv 0) qA Z))),?_⟩
  refine⟨_,Z,_,Z,_,_,_,_,Z,h0,T.pZ,T.lV,(by show 0<1000;decide),?_⟩;intro l1 nn;have e1:p≠l1:=λz=>by
   rw[<-z,ak]at nn
   cases nn
  refine⟨_,Z,_,_,_,_,Z,(by rw[aZ e1];exact ak),T.pZ,T.jg,(by show 1<1000;decide),?_⟩;have free:H l1=ab:=by
   cases q:H l1 with
   |none=>rfl
   |some o=>rw[aZ (a8 e1)]at nn;rw[q]at nn;cases nn
  exact k _ _ (λb o n e=>by rw[aZ n,aZ (aL e free),aZ n];exact e) ak free (by rw[aZ (a8 e1)];exact ak)
inductive zD(t:eP)(vs:V2)(H:Hp)(Q:VK)(E:XK):Prop
 |mk(p dx:ao)(x0 x1:V)(_:vs=[.ref p,x0,x1])(_:H p=aa (.ins t.jc dx []))(_:∀(H':Hp),vE p H H'->H' p=aa (.ins t.jc dx (BY x0 x1))->Q .iy H')
theorem zO(T:Txt K mg t):(1<*16) ["self","merged","left"] (zD t):=by
 refine T.m.G16.F.ok zE (λvs H Q E h=>?_) (λfC A outer s H vs Q E hr h=>?_)
 ·obtain⟨p,dx,x0,x1,rfl,_⟩:=h;rfl
 ·obtain⟨p,dx,x0,x1,rfl,h0,k⟩:=h;refine⟨_,(ap (dM (pv 0) (pv 1) Z)
   (aH (dM (pv 0) (pv 2) Z))),?_⟩
  refine⟨_,Z,_,Z,_,_,_,_,Z,h0,T.qT,T.qF,(by show 0<1000;decide),?_⟩;refine⟨_,Z,_,Z,_,_,_,_,Z,ak,T.qT,T.oy,(by show 1<1000;decide),?_⟩;exact k _ (λb o n e=>by rw[aZ n,aZ n];exact e) ak
inductive CT(t:eP)(vs:V2)(H:Hp)(Q:VK)(E:XK):Prop
 |mk(p dx:ao)(x0 x1:V)(_:vs=[.ref p,x0,x1])(_:H p=aa (.ins t.Thing dx []))(_:∀(H':Hp) (QJ:ao),vE p H H'->H' p=aa (.ins t.Thing dx (pV x0 x1 (.ref QJ)))->H QJ=ab->H' QJ=aa (.dK [])->Q .iy H')
theorem Dq(T:Txt K mg t):(1<*31) ["self","kind","holder"] (CT t):=by
 refine T.m.G31.F.ok C1 (λvs H Q E h=>?_) (λfC A outer s H vs Q E hr h=>?_)
 ·obtain⟨p,dx,x0,x1,rfl,_⟩:=h;rfl
 ·obtain⟨p,dx,x0,x1,rfl,h0,k⟩:=h;refine⟨_,(ap (dM (pv 0) (pv 1) Z)
   (ap (dM (pv 0) (pv 2) Z)
   (aH (dM (pv 0) qA Z)))),?_⟩
  refine⟨_,Z,_,Z,_,_,_,_,Z,h0,T.ip,T.rO,(by show 0<1000;decide),?_⟩;refine⟨_,Z,_,Z,_,_,_,_,Z,ak,T.ip,T.gW,(by show 1<1000;decide),?_⟩;intro l2 qL;have e2:p≠l2:=λz=>by
   rw[<-z,ak]at qL
   cases qL
  refine⟨_,Z,_,_,_,_,Z,(by rw[aZ e2];exact ak),T.ip,T.jN,(by show 2<1000;decide),?_⟩;have free:H l2=ab:=by
   cases q:H l2 with
   |none=>rfl
   |some o=>rw[aZ (a8 e2),aZ (a8 e2)]at qL;rw[q]at qL;cases qL
  exact k _ _ (λb o n e=>by rw[aZ n,aZ (aL e free),aZ n,aZ n];exact e) ak free (by rw[aZ (a8 e2)];exact ak)
inductive Fq(t:eP)(vs:V2)(H:Hp)(Q:VK)(E:XK):Prop
 |mk(p dx:ao)(x0 x1 x2:V)(_:vs=[.ref p,x0,x1,x2])(_:H p=aa (.ins t.Plan dx []))(_:∀(H':Hp),vE p H H'->H' p=aa (.ins t.Plan dx (Rs x0 x1 x2))->Q .iy H')
theorem xi(T:Txt K mg t):(1<*36) ["self","taken","told","looked_at"] (Fq t):=by
 refine T.m.G36.F.ok Fu (λvs H Q E h=>?_) (λfC A outer s H vs Q E hr h=>?_)
 ·obtain⟨p,dx,x0,x1,x2,rfl,_⟩:=h;rfl
 ·obtain⟨p,dx,x0,x1,x2,rfl,h0,k⟩:=h;refine⟨_,(ap (dM (pv 0) (pv 1) Z)
   (ap (dM (pv 0) (pv 2) Z)
   (aH (dM (pv 0) (pv 3) Z)))),?_⟩
  refine⟨_,Z,_,Z,_,_,_,_,Z,h0,T.wb,T.xm,(by show 0<1000;decide),?_⟩;refine⟨_,Z,_,Z,_,_,_,_,Z,ak,T.wb,T.y?,(by show 1<1000;decide),?_⟩;refine⟨_,Z,_,Z,_,_,_,_,Z,ak,T.wb,T.mL,(by show 2<1000;decide),?_⟩;exact k _ (λb o n e=>by rw[aZ n,aZ n,aZ n];exact e) ak
inductive CU(t:eP)(vs:V2)(H:Hp)(Q:VK)(E:XK):Prop
 |mk(p dx:ao)(x0:V)(_:vs=[.ref p,x0])(_:H p=aa (.ins t.Index dx []))(_:∀(H':Hp) (F_ xp:ao),vE p H H'->H' p=aa (.ins t.Index dx (Gj x0 (.ref F_) (.ref xp)))->H F_=ab->H' F_=aa (.lst [])->H xp=ab->H' xp=aa (.dK [])->F_≠xp->Q .iy H')
theorem Dr(T:Txt K mg t):(1<*72) ["self","attributes"] (CU t):=by
 refine T.m.G72.F.ok C2 (λvs H Q E h=>?_) (λfC A outer s H vs Q E hr h=>?_)
 ·obtain⟨p,dx,x0,rfl,_⟩:=h;rfl
 ·obtain⟨p,dx,x0,rfl,h0,k⟩:=h;refine⟨_,(ap (dM (pv 0) (pv 1) Z)
   (ap (dM (pv 0) (cn ax) Z)
   (aH (dM (pv 0) qA Z)))),?_⟩
  refine⟨_,Z,_,Z,_,_,_,_,Z,h0,T.eC,T.eI,(by show 0<1000;decide),?_⟩;refine⟨(by show 0<=aE;decide),λl1 nn=>?_⟩;have e1:p≠l1:=λz=>by
   rw[<-z,ak]at nn
   cases nn
  refine⟨_,Z,_,_,_,_,Z,(by rw[aZ e1];exact ak),T.eC,T.fg,(by show 1<1000;decide),?_⟩;intro l2 qL;have e2:p≠l2:=λz=>by
   rw[<-z,ak]at qL
   cases qL
  refine⟨_,Z,_,_,_,_,Z,(by rw[aZ e2];exact ak),T.eC,T.oz,(by show 2<1000;decide),?_⟩;have f1:H l1=ab:=by
   cases q:H l1 with
   |none=>rfl
   |some o=>rw[aZ (a8 e1),q]at nn;cases nn
  have aep:l2≠l1:=λz=>by
   rw[z,aZ (a8 e1),ak]at qL
   cases qL
  have f2:H l2=ab:=by
   cases q:H l2 with
   |none=>rfl
   |some o=>rw[aZ (a8 e2),aZ aep,aZ (a8 e2),q]at qL;cases qL
  exact k _ _ _ (λb o n e=>by rw[aZ n,aZ (aL e f2),aZ n,aZ (aL e f1),aZ n];exact e) ak f1 (by rw[aZ (a8 e1),aZ (a8 aep),aZ (a8 e1)];exact ak) f2 (by rw[aZ (a8 e2)];exact ak) (a8 aep)
theorem gb(nx:H x=ab)(nd:H dx=ab)(bt:vE x (upd (upd H dx (.own x)) x (.ins C dx [])) H2):a7 H H2:=λb o e=>
 bt b o (aL e nx) (by rw[aZ (aL e nx),aZ (aL e nd)];exact e)
inductive PF(t:eP)(vs:V2)(H:Hp)(Q:VK)(E:XK):Prop
 |mk(a:ao)(rows:List V9)(_:vs=[.ref a])(_:LL H a (nats rows))(_:(∀r∈rows,∀x∈r,1<=x))(_:rows.length<=1000)(_:Tw.size (rows.filter λl=>!l.isEmpty)<=100000)(_:∀(H':Hp) (x dx m l:ao),a7 H H'->H' x=aa (.ins t.jc dx (BY (.ref m) (.ref l)))->IL H' m (nz (Tw.run (Tw.size (rows.filter λl=>!l.isEmpty)) (rows.filter λl=>!l.isEmpty)).1)->LL H' l (nats (Tw.run (Tw.size (rows.filter λl=>!l.isEmpty)) (rows.filter λl=>!l.isEmpty)).2)->Q (.ref x) H')
theorem PV:∀{n:Nat}{ls:List V9},Tw.Full ls->Tw.size ls<=n->Tw.run n ls=Tw.run (Tw.size ls) ls:=by
 have key:∀(n m:Nat)(ls:List V9),Tw.Full ls->Tw.size ls<=n->Tw.size ls<=m->Tw.run n ls=Tw.run m ls:=by
  intro n
  induction n with
  |zero=>
   intro m ls hF h1 h2;have:ls=[]:=by
    cases ls with
    |nil=>rfl
    |cons a l=>have:=Tw.size_pos hF (by simp);lia
   subst this
   cases m<;>rfl
  |succ n ih=>
   intro m ls hF h1 h2
   cases m with
   |zero=>
    have:ls=[]:=by
     cases ls with
     |nil=>rfl
     |cons a l=>have:=Tw.size_pos hF (by simp);lia
    subst this;rfl
   |succ m=>
    unfold Tw.run
    cases e:eU ls with
    |none=>rfl
    |some x=>
     have:=qS e;simp only;rw[ih m _ (i? x ls) om om]
 intro n ls hF h;exact key _ _ _ hF h (aS _)
theorem PR(hF:Tw.Full ls)(h:eU ls=aa x):Tw.run (Tw.size ls) ls=(x::(Tw.run (Tw.size (e? x ls)) (e? x ls)).1,(Tw.run (Tw.size (e? x ls)) (e? x ls)).2):=by
 have h1:=qS h;obtain⟨n,hn⟩:∃n,Tw.size ls=n+1:=⟨Tw.size ls - 1,om⟩;rw[hn];show(match eU ls with
  |none=>_
  |some x=>_)=_
 rw[h];simp only;rw[PV (i? x ls) om]
theorem PU(h:eU ls=ab):Tw.run (Tw.size ls) ls=([],ls):=by
 cases Tw.size ls with
 |zero=>rfl
 |succ n=>
  show(match eU ls with
   |none=>_
   |some x=>_)=_
  rw[h]
theorem zf(x:Nat)(ls:List V9):(e? x ls).length<=ls.length:=by
 unfold e?;exact aB (bx _ _) (by rw[af];exact aS _)
theorem Qe(T:Txt K mg t):(3<*20) ["rows"] (PF t):=by
 refine T.f.G20.F.ok2 ["rows","merged","left","member","row"] ?_;obtain⟨a,rows,rfl,hL,NU,hz,hsz,k⟩;refine⟨_,(ap (bM (i:=1) nd (cn ax))
  (ap (qz (i:=2) (own:=[("row",4)]) Z nd Z Z (by with_unfolding_all rfl) (dH (pv 0)) (eE (N:=["rows","merged","left","member","row"]) (sc:=cj LK) dK) (λ_ _ _ _ _=>cJ (i:=4) nd Z (bi Z)) (λ_ _ _ _ _=>nG (bR y8 (bF (mW (K:=K) Z) Z T.len a9 (ah (pv 4) ax)) aN (bU _))) (λ_ _ _ _ _=>(pv 4)))
  (ap (bM (i:=3) nd (j9 (px T) (hr.mono dk) Z T.f.G18 (ah (pv 2) ax)))
  (ap (qy bY (bR Bg (pv 3) aN (bU _))
  (ap (cv (jK bp dF dE jS (pv 1) (ah (pv 3) ax)))
  (ap (bM (i:=2) nd (j9 (sP T) (hr.mono dk) Z T.f.G19 (ah (pv 2) (ah (pv 3) ax))))
  (aH (bM (i:=3) nd (j9 (px T) (hr.mono dk) Z T.f.G18 (ah (pv 2) ax)))))))
  (aH (bo (lS T.Op (zO T) (hr.mono dk) Z T.KI T.m.G16.b .nil dD (ah (pv 1) (ah (pv 2) ax))))))))),?_⟩
 refine⟨(by show 0<=aE;decide),λm hm=>?_⟩;obtain⟨ys,e,p⟩:=hL.rl;have am:a≠m:=aL e hm;have s0:a7 H (upd H m (.lst [])):=a7.upd hm;generalize Us:(rows.filter λl=>!l.isEmpty)=N6 at*;have hF:Tw.Full N6:=Us▸lp rows;have Sq:N6.length<=1000:=by rw[<-Us];exact aB (bx _ _) hz
 refine⟨_,Z,a,Z,⟨_,bQ.of (s0 _ _ e)⟩,λD hD=>yx (K:=K) (a:=a) (xs:=ys) (l:=rows) (Ri:=λy x=>RL H y (nz x)) (Ro:=RW (· ≠m)) (λx=>if x.isEmpty then ab else aa (nz x)) (λH H' y b s h=>h.same s) hD (bQ.of (s0 _ _ e)) (kP p) (aX hz dk) ?_ ?_⟩
 ·intro i x y H2 acc Kt Kf hx hy um s2 fF ht hf;obtain⟨b,rfl,hb⟩:=um;have ur:=s2 _ _ (s0 _ _ hb);refine⟨Z,_,Z,_,_,Z,.inl (bQ.of ur),_,_,Z,Z,_,Z,?_⟩;rw[af,af]
  cases x with
  |nil=>exact cy (hf _ Z (a7.refl _))
  |cons z r=>
   rw[aI (by simp)];exact cI ⟨_,Z,ht _ _ _ Z (a7.refl _) λH5 b5 s5=>⟨b,Z,s5 _ _ (s0 _ _ hb),aL hb hm⟩⟩
 ·intro H1 zs s1 e1 p1;rw[Ao,Us]at p1;have dm:D≠m:=λz=>by
   rw[z,ak]at hD
   cases hD
  refine⟨_,Z,D,N6,Z,(vd.L4 e1 p1).ll,hF,Sq,λH2 s2=>?_⟩;refine⟨λn σ H'=>∃(done:V9)(lf:List V9)(l:ao),n=Tw.size lf/\σ=[aa (.ref a),aa (.ref m),aa (.ref l),aa (nI ((eU lf).getD 0)),ab]/\a7 H H'/\IL H' m (nz done)/\l≠m/\vd (· ≠m) H' l (nats lf)/\Tw.Full lf/\lf.length<=1000/\
    (∀r∈lf,∀x∈r,1<=x)/\Tw.run (Tw.size N6) N6=(done++(Tw.run (Tw.size lf) lf).1,(Tw.run (Tw.size lf) lf).2)/\done.length+Tw.size lf<=100000,⟨_,[],N6,D,Z,Z,(s0.trans s1).trans s2,(s1.trans s2) _ _ ak,dm,(vd.L4 e1 p1).same s2,hF,Sq,by
    rw[<-Us];exact λr hr=>NU r (bB.mp hr).1,by simp,by simpa using hsz⟩,?_⟩
  ·rintro n σ H3 ⟨done,lf,l,rfl,rfl,s3,adz,lm,hl3,hF3,IW,VH,Uk,Uj⟩;refine⟨_,Z,Z,_,Z,?_⟩
   cases hc:eU lf with
   |none=>
    refine cy ?_;rw[PU hc,eQ]at Uk;refine⟨_,Z,_,Z,λx dx nx ub OH=>⟨x,dx,_,_,Z,ak,λH4 bt e4=>⟨Z,?_⟩⟩⟩;have s4:=gb nx ub bt;refine k H4 x dx m l (s3.trans s4) e4 ?_ ?_
    ·rw[Uk];exact s4 _ _ adz
    ·rw[Uk];exact hl3.ll.same s4
   |some x=>
    obtain⟨rw0,hrw,hx0⟩:=yM hc;have ZL:1<=x:=VH _ hrw x (by
     cases rw0 with
     |nil=>cases hx0
     |cons y r=>cases hx0;simp)
    have ad0:(!decide (V.int ((x:Nat):Int)=V.int 0))=ac:=by
     rw[ay (λq=>by injection q with q;lia)];rfl
    show if(!decide (V.int ((x:Nat):Int)=V.int 0))=ac then _ else _;rw[aC ad0];refine⟨_,λ_ _ h=>h,?_⟩;have VE:=Uk;rw[PR hF3 hc]at VE;have gO:=qS hc;refine⟨_,Z,.inl ⟨Z,_,bQ.of adz⟩,_,Z,m,_,_,Z,Z,adz,?_,?_⟩
    ·rw[af,af];exact aX (show done.length<=100000 by lia) dk
    have b4:vE m H3 (upd H3 m (.lst ((nz done).map V.int++[nI x]))):=vE.upd;refine⟨_,Z,_,Z,l,x,lf,(· ≠m),Z,hl3.but lm b4,hF3,IW,λH5 l5 s5 f5 hl5=>?_⟩;have lm5:l5≠m:=λz=>by
     rw[z,ak]at f5
     cases f5
    have Z2:vd (· ≠m) H5 l5 (nats (e? x lf)):=hl5.mono λb hb=>hb.elim id λq z=>by
     rw[z,ak]at q
     cases q
    refine⟨_,Z,l5,_,Z,Z2.ll,i? x lf,aB (zf x lf) IW,λH6 s6=>?_⟩;refine⟨_,gO,done++[x],e? x lf,l5,Z,Z,?_,?_,lm5,Z2.same s6,i? x lf,aB (zf x lf) IW,?_,?_,?_⟩
    ·exact((s3.but hm b4).trans s5).trans s6
    ·refine(s5.trans s6) _ _ ?_;rw[ak];simp
    ·intro r hr z EA;obtain⟨r',DC,ac9⟩:=za hr EA;exact VH r' DC z ac9
    ·rw[VE];simp
    ·rw[aQ];simp;lia
theorem l3(e:Rd H d (.dK (eS f l)))(hn:n∈l):m_ H d (nI n) (aa (.ref (f n))):=.inl ⟨_,.inl (n:Int),e,rfl,(Eb hn).symm⟩
theorem Jd(e:Rd H d (.dK (eS f l)))(hn:∀n∈l,(n:Int)≠z):m_ H d (.int z) ab:=.inl ⟨_,.inl z,e,rfl,(Fi hn).symm⟩
theorem r8(h:DR H d l)(a:Nat):m_ H d (nI a) ((cK a l).map V.int):=by
 obtain⟨kvs,e,n,v⟩:=h;exact .inl ⟨kvs,.inl (a:Int),.inl e,Z,by rw[v,yJ]⟩
theorem uf :k∈(cF n).map (· +1)↔1<=k/\k<=n:=by
 rw[aV];constructor
 ·rintro⟨x,hx,rfl⟩;have:=fi.mp hx;lia
 ·rintro⟨h1,h2⟩;exact⟨k - 1,fi.mpr om,om⟩
section
variable{t:eP}{H:Hp}{ro:Role}
theorem On.thing{td:ao}{fz:HO->HO}{w:aO}(h:On t H ro td fz w)(z:Fz fz){n:Nat}(hn:a_ w n=ac):∃a,m_ H td (nI n) (aa (.ref a))/\yP t H ro n a (bh w n):=by
 obtain⟨ta,e,r,f⟩:=h;exact⟨ta n,l3 (z.rd e) (cw.mpr hn),f n hn⟩
theorem On.no{td:ao}{fz:HO->HO}{w:aO}(h:On t H ro td fz w)(z:Fz fz){y:Int}(hn:∀n:Nat,(n:Int)=y->a_ w n=ae):m_ H td (.int y) ab:=by
 obtain⟨ta,e,r,f⟩:=h;exact Jd (z.rd e) λn hm q=>by
  have:=cw.mp hm;rw[hn n q]at this
  cases this
theorem R3.kind{kd:ao}{w:aO}(h:R3 t H ro kd w){k:Nat}(h1:1<=k)(h2:k<=w.kinds.length):∃a,m_ H kd (nI k) (aa (.ref a))/\EZ t H ro k a (cS w k):=by
 obtain⟨ka,e,r,f⟩:=h;exact⟨ka k,l3 (.inl e) (uf.mpr ⟨h1,h2⟩),f k h1 h2⟩
theorem R3.no{kd:ao}{w:aO}(h:R3 t H ro kd w){y:Int}(hn:y<1\/(w.kinds.length:Int)<y):m_ H kd (.int y) ab:=by
 obtain⟨ka,e,r,f⟩:=h;exact Jd (.inl e) λn hm q=>by
  have:=uf.mp hm;lia
end
inductive wM(t:eP)(vs:V2)(H:Hp)(Q:VK)(E:XK):Prop
 |mk(W:ao)(n:Nat)(ro:Role)(fz:HO->HO)(wd:aO)(L:p_)(c:bw)(_:vs=[.ref W,nI n])(_:WR t H ro W fz wd L c)(_:Fz fz)(_:p8 wd)(_:a_ wd n=ac)(_:∀o,IM H ro o (nz (cS wd (bh wd n).kind).order)->Q (.ref o) H)
theorem pA(T:Txt K mg t):(1<*77) ["self","number"] (wM t):=by
 refine T.m.G77.F.ok2 ["self","number"] ?_;obtain⟨W,n,ro,fz,wd,L,c,rfl,hW,hz,ok,hn,k⟩;refine⟨_,(aH (bo (bb (fW hu (bb (pv 0) Z) (bb (fW hu (bb (pv 0) Z) (pv 1) (λ_ _=>rfl)) Z) (λ_ _=>rfl)) Z))),?_⟩;obtain⟨dx,kd,td,il,ca,X⟩:=hW;obtain⟨ta,dg,zl,d,te,_⟩:=X.ts.thing hz hn;obtain⟨ka,kg,UH,o,d2,ke,_,ko,_⟩:=X.ks.kind (ok.knd n hn).1 (ok.knd n hn).2;exact⟨_,Z,_,_,_,_,_,Z,X.obj,T.bj,T.c?,Z,_,Z,_,_,_,_,_,Z,X.obj,T.bj,T.bT,Z,_,Z,_,_,Z,dg,_,_,_,_,_,Z,te,T.ip,T.rO,Z,_,_,Z,kg,_,_,_,_,_,Z,ke,T.pZ,T.lV,Z,k o ko⟩
inductive CQ(t:eP)(vs:V2)(H:Hp)(Q:VK)(E:XK):Prop
 |mk(W:ao)(n k:Nat)(ro:Role)(fz:HO->HO)(wd:aO)(L:p_)(c:bw)(_:vs=[.ref W,nI n,nI k])(_:WR t H ro W fz wd L c)(_:Fz fz)(_:p8 wd)(_:a_ wd n=ac)(_:Q (.bl (eJ wd n k)) H)
theorem pS(T:Txt K mg t):(2<*78) ["self","number","kind"] (CQ t):=by
 refine T.m.G78.F.ok2 ["self","number","kind"] ?_;obtain⟨W,n,kk,ro,fz,wd,L,c,rfl,hW,hz,ok,hn,k⟩;refine⟨_,(aH (bo (gJ uM (pv 2) (cZ (pv 0) T.bj T.m.G77.me (pA T) (hr.mono dk) T.m.G77.b .nil dD (ah (pv 1) ax)) (by with_unfolding_all rfl)))),?_⟩;obtain⟨dx,kd,td,il,ca,X⟩:=id hW;refine⟨_,Z,_,Z,_,_,_,Z,X.obj,Z,_,Z,W,n,ro,fz,wd,L,c,Z,hW,hz,ok,hn,λo io=>⟨_,_,Z,.inl (bQ.of io.1),Z,mO _,?_⟩⟩;have e:DA (nI kk) ((nz (cS wd (bh wd n).kind).order).map V.int)=eJ wd n kk:=uk _ _;show Q (.bl (DA _ _)) H;rw[e];exact k
def acv:Option (Int×Nat)->V
 |none=>.iy
 |some x=>nI x.2
inductive vO(t:eP)(vs:V2)(H:Hp)(Q:VK)(E:XK):Prop
 |mk(W:ao)(n a:Nat)(ro:Role)(fz:HO->HO)(wd:aO)(L:p_)(c:bw)(_:vs=[.ref W,nI n,nI a])(_:WR t H ro W fz wd L c)(_:Fz fz)(_:p8 wd)(_:a_ wd n=ac)(_:Q (acv (ft wd n a)) H)
theorem ow(T:Txt K mg t):(2<*79) ["self","number","attribute"] (vO t):=by
 refine T.m.G79.F.ok2 ["self","number","attribute","kind"] ?_;obtain⟨W,n,a,ro,fz,wd,L,c,rfl,hW,hz,ok,hn,k⟩;refine⟨_,(ap (de (yn (Kv hu (pv 2) (bb (fW hu (bb (pv 0) Z) (pv 1) (λ_ _=>rfl)) Z))) (aH (bo aN)) bS)
  (ap (jI bY Z (dH (cZ (pv 0) T.bj T.m.G77.me (pA T) (hr.mono dk) T.m.G77.b .nil dD (ah (pv 1) ax))) (cJ (i:=3) nd Z (bi Z))
  (aH (de (yn (Kv hu (pv 2) (bb (fW hu (bb (pv 0) Z) (pv 3) (λ_ _=>rfl)) Z))) (aH (bo (pv 3))) bS)))
  (aH (bo ou)))),?_⟩
 obtain⟨dx,kd,td,il,ca,X⟩:=id hW;obtain⟨ta,dg,zl,d,te,_,hd,_⟩:=X.ts.thing hz hn;refine⟨_,Z,_,Z,_,_,_,_,_,Z,X.obj,T.bj,T.bT,Z,_,Z,_,_,Z,dg,_,_,_,_,_,Z,te,T.ip,T.jN,Z,_,_,Z,r8 hd a,_,Z,?_⟩;rw[iu]
 cases hp:cK a (bh wd n).own with
 |some v=>
  refine cI ?_;have e:ft wd n a=aa (v,0):=by
   unfold ft;simp only[hp]
  rw[e]at k;exact k
 |none=>
  refine cy ?_;have e:ft wd n a=(cS wd (bh wd n).kind).order.findSome? λk=>(cK a (cS wd k).defaults).map λv=>(v,k):=by
   unfold ft;simp only[hp]
  rw[e]at k;have hk:=ok.knd n hn;have NV:=ok.ord _ hk.1 hk.2;refine⟨_,Z,_,_,_,Z,X.obj,Z,_,Z,W,n,ro,fz,wd,L,c,Z,hW,hz,ok,hn,λo io=>⟨o,Z,⟨_,bQ.of io.1⟩,?_⟩⟩
  revert k NV io
  generalize (cS wd (bh wd n).kind).order=od;intro k NV io;refine ij (K:=K) (a:=o) (xs:=(nz od).map V.int) (λi σ H'=>∃v:Option V,σ=[aa (.ref W),aa (nI n),aa (nI a),v]/\H'=H/\(od.take i).findSome? (λk=>(cK a (cS wd k).defaults).map λv=>(v,k))=ab)
   ⟨ab,Z,Z,Z⟩ (λi σ H' _ ⟨_,_,e,_⟩=>e▸bQ.of io.1) ?_ ?_
  ·rintro i y σ H1 hy ⟨v,rfl,rfl,hf⟩;obtain⟨kk,Yo,rfl⟩:∃kk,od[i]? =aa kk/\y=nI kk:=by
    rw[aA,aA]at hy
    cases q:od[i]? with
    |none=>rw[q]at hy;cases hy
    |some kk=>rw[q]at hy;exact⟨kk,Z,(bN hy).symm⟩
   have Q5:=NV kk (aP Yo);obtain⟨ka,kg,UH,o2,d2,ke,_,_,ZC,_⟩:=X.ks.kind Q5.1 Q5.2;refine⟨_,Z,_,Z,_,_,_,_,_,Z,X.obj,T.bj,T.c?,Z,_,Z,_,_,Z,kg,_,_,_,_,_,Z,ke,T.pZ,T.jg,Z,_,_,Z,r8 ZC a,_,Z,?_⟩;rw[iu]
   cases l9:cK a (cS wd kk).defaults with
   |some v2=>
    refine cI ⟨_,Z,?_⟩;have e2:od.findSome? (λk=>(cK a (cS wd k).defaults).map λv=>(v,k))=aa (v2,kk):=by
     rw[<-g? (i+1) od,take_succ Yo,uG,uG,hf];simp[l9]
    rw[e2]at k;exact k
   |none=>
    refine cy ⟨_,Z,Z,?_⟩;rw[take_succ Yo,uG,hf];simp[l9]
  ·rintro σ H1 ⟨v,rfl,rfl,hf⟩;rw[af,af,cB]at hf;rw[hf]at k;exact k
inductive wL(t:eP)(vs:V2)(H:Hp)(Q:VK)(E:XK):Prop
 |mk(W:ao)(n a:Nat)(ro:Role)(fz:HO->HO)(wd:aO)(L:p_)(c:bw)(_:vs=[.ref W,nI n,nI a])(_:WR t H ro W fz wd L c)(_:Fz fz)(_:p8 wd)(_:a_ wd n=ac)(_:Q (vV (eT wd n a)) H)
theorem jt(T:Txt K mg t):(3<*80) ["self","number","attribute"] (wL t):=by
 refine T.m.G80.F.ok2 ["self","number","attribute","source"] ?_;obtain⟨W,n,a,ro,fz,wd,L,c,rfl,hW,hz,ok,hn,k⟩;refine⟨_,(ap (bM (i:=3) nd (cZ (pv 0) T.bj T.m.G79.me (ow T) (hr.mono dk) T.m.G79.b .nil dD (ah (pv 1) (ah (pv 2) ax))))
  (ap (de (bR FV (pv 3) ou (bU _)) (aH (bo ou)) bS)
  (ap (de (bR fZ (pv 3) aN (bU _)) (aH (bo (fW hu (bb (fW hu (bb (pv 0) Z) (pv 1) (λ_ _=>rfl)) Z) (pv 2) (λ_ _=>rfl)))) bS)
  (aH (bo (fW hu (bb (fW hu (bb (pv 0) Z) (pv 3) (λ_ _=>rfl)) Z) (pv 2) (λ_ _=>rfl))))))),?_⟩
 obtain⟨dx,kd,td,il,ca,X⟩:=id hW;refine⟨_,Z,_,_,_,Z,X.obj,Z,_,Z,_,Z,W,n,a,ro,fz,wd,L,c,Z,hW,hz,ok,hn,?_⟩;have hv:eT wd n a=(ft wd n a).map λx=>x.1:=Z;rw[hv]at k
 cases e:ft wd n a with
 |none=>
  rw[e]at k;exact⟨_,Z,Z,_,Z,cI k⟩
 |some x=>
  rw[e]at k;refine⟨_,Z,Z,_,Z,cy ⟨_,Z,Z,_,Z,?_⟩⟩;unfold ft at e;simp only at e
  cases hp:cK a (bh wd n).own with
  |some v=>
   rw[hp]at e
   cases e;obtain⟨ta,dg,zl,d,te,_,hd,_⟩:=X.ts.thing hz hn;have dd:=r8 hd a;rw[hp]at dd;exact cI ⟨_,Z,_,_,_,_,_,Z,X.obj,T.bj,T.bT,Z,_,Z,_,_,Z,dg,_,_,_,_,_,Z,te,T.ip,T.jN,Z,_,Z,_,_,Z,dd,k⟩
  |none=>
   rw[hp]at e;simp only at e;obtain⟨kk,hk,hx⟩:=List.exists_of_findSome?_eq_some e
   cases l9:cK a (cS wd kk).defaults with
   |none=>rw[l9]at hx;cases hx
   |some v=>
    rw[l9]at hx
    cases hx;have Sn:=ok.knd n hn;have Q5:=ok.ord _ Sn.1 Sn.2 kk hk;obtain⟨ka,kg,UH,o2,d2,ke,_,_,ZC,_⟩:=X.ks.kind Q5.1 Q5.2;have dd:=r8 ZC a;rw[l9]at dd;rw[ay (λq=>by
     have:((kk:Nat):Int)=0:=V.int.inj q;lia)]
    exact cy ⟨_,Z,_,_,_,_,_,Z,X.obj,T.bj,T.c?,Z,_,Z,_,_,Z,kg,_,_,_,_,_,Z,ke,T.pZ,T.jg,Z,_,Z,_,_,Z,dd,k⟩
inductive vN(t:eP)(vs:V2)(H:Hp)(Q:VK)(E:XK):Prop
 |mk(W A:ao)(n:Nat)(at_:V9)(ro:Role)(fz:HO->HO)(wd:aO)(L:p_)(c:bw)(_:vs=[.ref W,nI n,.ref A])(_:IL H A (nz at_))(_:at_.length<=1000)(_:WR t H ro W fz wd L c)(_:Fz fz)(_:p8 wd)(_:a_ wd n=ac)(_:∀H' p,a7 H H'->H p=ab->H' p=aa (.lst (at_.map λa=>vV (eT wd n a)))->Q (.ref p) H')
theorem kY(T:Txt K mg t):(4<*81) ["self","number","attributes"] (vN t):=by
 refine T.m.G81.F.ok2 ["self","number","attributes","attribute"] ?_;obtain⟨W,A0,n,at_,ro,fz,wd,L,c,rfl,hA,hl,hW,hz,ok,hn,k⟩;refine⟨_,(aH (bo (mr (own:=[("attribute",3)]) Z nd (dH (pv 2)) (eE (N:=["self","number","attributes","attribute"]) (sc:=cj o?) dK) (λ_ _ _ _ _=>cJ (i:=3) nd Z (bi Z)) (λ_ _ _ _ _=>i9) (λ_ _ _ _ _=>(cZ (pv 0) T.bj T.m.G80.me (jt T) (hr.mono dk) T.m.G80.b .nil dD (ah (pv 1) (ah (pv 3) ax))))))),?_⟩;refine⟨_,Z,A0,Z,⟨_,bQ.of hA⟩,λD hD=>mU (K:=K) (a:=A0) (xs:=(nz at_).map V.int) (l:=at_) (Ri:=λy x=>y=nI x) (λa=>vV (eT wd n a)) hD (bQ.of hA) ?_ (aX hl dk) ?_ ?_⟩
 ·exact Bd at_
 ·intro i x y H2 Kt hx hy um s2 ht;subst um;obtain⟨dx,kd,td,il,ca,X⟩:=id (hW.same s2);exact⟨Z,_,Z,_,_,_,Z,X.obj,Z,_,Z,_,Z,W,n,x,ro,fz,wd,L,c,Z,hW.same s2,hz,ok,hn,ht _ (a7.refl _)⟩
 ·intro H' s' e';exact k H' D s' hD e'
inductive vP(t:eP)(vs:V2)(H:Hp)(Q:VK)(E:XK):Prop
 |mk(W:ao)(n:Nat)(ro:Role)(fz:HO->HO)(wd:aO)(L:p_)(c:bw)(_:vs=[.ref W,nI n])(_:WR t H ro W fz wd L c)(_:Fz fz)(_:Q (.bl (decide (n=0)||a_ wd n)) H)
theorem kZ(T:Txt K mg t):(1<*82) ["self","number"] (vP t):=by
 refine T.m.G82.F.ok2 ["self","number"] ?_;obtain⟨W,n,ro,fz,wd,L,c,rfl,hW,hz,k⟩;refine⟨_,(aH (bo (Zp (gJ fZ (pv 1) aN (bU _)) (yo (Qa (Kv hu (pv 1) (bb (pv 0) Z))))))),?_⟩;obtain⟨dx,kd,td,il,ca,X⟩:=id hW;refine⟨_,Z,Z,_,Z,?_⟩;by_cases h0:n=0
 ·subst h0;exact cI k
 ·rw[ay (λq=>h0 (by have:((n:Nat):Int)=0:=V.int.inj q;lia))];refine cy ⟨_,Z,_,Z,_,_,_,_,_,Z,X.obj,T.bj,T.bT,Z,?_⟩;rw[ay h0,wC]at k
  cases hn:a_ wd n with
  |true=>
   obtain⟨ta,dg,_⟩:=X.ts.thing hz hn;rw[hn]at k;exact⟨_,_,Z,dg,k⟩
  |false=>
   have dg:=X.ts.no hz (y:=(n:Int)) λm e=>by
    have:m=n:=om;rw[this];exact hn
   rw[hn]at k;exact⟨_,_,Z,dg,k⟩
section
open PySem.SeqAt PySem.MeetsSeq PySem.MeetsSeq2 PySem.MeetsSeq3
open PySem.AutoSeq1 (wpAny_loadPart')
theorem T9(l b:ao)(items gc:Array ai)(n n2:Nat)(dd YJ:Option ao)(sl X7:Array (Option ai)):∀(ns ms:xC)(i:Nat),f9 (items.toList.drop i) ns->f9 (gc.toList.drop i) ms->
  (ns.length+i=items.size\/(ns=[]/\items.size<=i))->(ms.length+i=gc.size\/(ms=[]/\gc.size<=i))->i<=items.size->i<=gc.size->
  SR (gS.«list.__eq__.loop» ⟨[.ref l,.ref b,fS i,fS 0],[]⟩)
   (λA R s=>s.heap.get? l=aa {cls:=.type "list",dict:=dd,data:=.seq items n,slots:=sl}/\s.heap.get? b=aa {cls:=.type "list",dict:=YJ,data:=.seq gc n2,slots:=X7}/\
    R (.ok (.ret (.bool (HT.lexLt ns ms)))) s):=by
 intro ns
 induction ns with
 |nil=>
  intro ms i h1 h2 k1 k2 k3 k4 prog w A R s h;obtain⟨hp,g,d,tk,os⟩:=s;obtain⟨hl,hb,h⟩:=h;have z1:items.size=i:=by simp at k1;lia
  wp_walk using eZ hl,eZ hb;have K2:items[((i:Nat):Int).toNat]? =ab:=by simp;lia
  rw[K2];wp_walk using eZ hl,eZ hb;show R (.ok (.ret (.bool (decide (items.size<gc.size))))) _
  cases ms with
  |nil=>
   have z2:gc.size=i:=by simp at k2;lia
   rw[z1,z2,ay om];exact h
  |cons y ms=>
   have z2:gc.size=ms.length+1+i:=by simp at k2;lia
   rw[z1,z2,aI om];exact h
 |cons x ns ih=>
  intro ms i h1 h2 k1 k2 k3 k4 prog w A R s h;obtain⟨hp,g,d,tk,os⟩:=s;obtain⟨hl,hb,h⟩:=h;have z1:items.size=ns.length+1+i:=by simp at k1;lia
  have lt1:i<items.size:=om;have K2:items[((i:Nat):Int).toNat]? =aa items[i]:=by simp[lt1]
  have e1:items.toList.drop i=items[i]::items.toList.drop (i+1):=by
   rw[kE (by simpa using lt1)];simp
  wp_walk using eZ hl,eZ hb;rw[K2]
  cases ms with
  |nil=>
   have z2:gc.size=i:=by simp at k2;lia
   have DF:gc[((i:Nat):Int).toNat]? =ab:=by simp;lia
   rw[DF];wp_walk using eZ hl,eZ hb;show R (.ok (.ret (.bool (decide (items.size<gc.size))))) _;rw[z1,z2,ay om];exact h
  |cons y ms=>
   have z2:gc.size=ms.length+1+i:=by simp at k2;lia
   have lt2:i<gc.size:=om;have DF:gc[((i:Nat):Int).toNat]? =aa gc[i]:=by simp[lt2]
   have e2:gc.toList.drop i=gc[i]::gc.toList.drop (i+1):=by
    rw[kE (by simpa using lt2)];simp
   rw[DF];rw[e1]at h1;rw[e2]at h2;generalize hA:items[i]=u1 at h1 K2;generalize hB:gc[i]=u2 at h2 DF
   cases h1 with
   |cons _ t1 r1=>
    cases h2 with
    |cons _ t2 r2=>
     have hc:((i:Int)+1)=((i+1:Nat):Int):=by push_cast;rfl
     rw[HT.By]at h;obtain⟨e,he,Z?⟩:=HT.Rx A.in1 ⟨hp,g,d,tk,os⟩ x t1 y t2;refine ag (he prog w _ _ ?_)
     cases e with
     |true=>
      rw[aC (Z?.mp Z)]at h;wp_walk;rw[hc];exact⟨f8 plain_eq_loop _,fE entry_eq_loop (by
       rw[d_ plain_eq_loop _];exact ih ms (i+1) r1 r2 (.inl om) (.inl om) om om prog w A R _ ⟨hl,hb,h⟩)⟩
     |false=>
      rw[aw (λq=>absurd (Z?.mpr q) bf)]at h;have Yg:=HT.PZ A.in1 ⟨hp,g,d,tk,os⟩ x t1 y t2 prog w;wp_walk using eZ hl,eZ hb;rw[K2,DF];wp_walk using Yg;simpa using h
theorem Md(l b:ao)(items gc:Array ai)(n n2:Nat)(dd YJ:Option ao)(sl X7:Array (Option ai))(ns ms:xC)(hi:f9 items.toList ns)(hj:f9 gc.toList ms):
  SR (gS.«list.__lt__» ⟨[.ref l,.ref b],[]⟩)
   (λA R s=>s.heap.get? l=aa {cls:=.type "list",dict:=dd,data:=.seq items n,slots:=sl}/\s.heap.get? b=aa {cls:=.type "list",dict:=YJ,data:=.seq gc n2,slots:=X7}/\
    R (.ok (.ret (.bool (HT.lexLt ns ms)))) s):=by
 intro prog w A R s h;obtain⟨hp,g,d,tk,os⟩:=s;obtain⟨hl,hb,h⟩:=h;have f3:=AutoSeq1.sub_list_list;have z1:=hi.length;have z2:=hj.length;wp_walk using eZ hl,eZ hb;exact⟨f8 plain_eq_loop _,fE entry_eq_loop (by
  rw[d_ plain_eq_loop _];exact T9 l b items gc n n2 dd YJ sl X7 ns ms 0 (by simpa using hi) (by simpa using hj) (.inl (by simp at z1;lia)) (.inl (by simp at z2;lia)) om om prog w A R _ ⟨hl,hb,h⟩)⟩
end
variable{X:Cx}
inductive acL(K:aj)(x y:V)(H:Hp)(Q:VK):Prop
 |mk(a b ns ms:_)(_:x= .ref a)(_:y= .ref b)(_:bQ K H a (ns.map V.int))(_:bQ K H b (ms.map V.int))(_:Q (.bl (HT.lexLt ns ms)) H)
theorem Qz{prog:ba}{w:World}{A:cb}{E:ai->aq->Prop}{s:aq}{l b:ao}{items gc:Array ai}{ns ms:xC}{Q:ai->aq->Prop}(hl:s.heap.IsList l items)(hb:s.heap.IsList b gc)(hi:f9 items.toList ns)(hj:f9 gc.toList ms)
 (hu:A.units<mS)(h:Q (.bool (HT.lexLt ns ms)) s):aU (bg prog w) A (d? .Lt (.ref l) (.ref b)) Q E s:=by
 obtain⟨⟨cls,dd,data,sl⟩,ho,hc,n,hd⟩:=id hl;obtain⟨⟨cls2,YJ,data2,X7⟩,Yl,Xl,n2,aaf⟩:=id hb;simp only at hc hd Xl aaf;subst hc hd Xl aaf;exact richCompare_meets_room (op:=.Lt) ⟨_,ho,Z⟩ ⟨_,Yl,Z⟩ tI GL (Fc _ _) (Md l b items gc n n2 dd YJ sl X7 ns ms hi hj)
  ⟨ho,Yl,show lx (HT.lexLt ns ms)≠JX/\Q (.bool (HT.lexLt ns ms)) s from⟨(λx=>nomatch x),h⟩⟩ hu
theorem WN(hu:X.A.units<mS):wx X (d? .Lt) (acL X.K):=by
 intro pins s σ H x y v u Q I rx ry h;obtain⟨a,b,ns,ms,rfl,rfl,ha,hb,q⟩:=h
 cases rx
 cases ry;obtain⟨its,r1,p1,_⟩:=I.list ha;obtain⟨zQ,r2,p2,_⟩:=I.list hb;exact Qz p1.isList p2.isList (intsAre_of r1) (intsAre_of r2) hu ⟨.bl (HT.lexLt ns ms),H,I,Z,q⟩
inductive Tt(x:V)(vs:V2)(H:Hp)(Q:VK):Prop
 |mk(l xs i y:_)(_:x= .ref l)(_:vs=[.int (i:Nat),y])(_:H l=aa (.lst xs))(_:i<=xs.length)(_:xs.length<1000000)(_:Q .iy (upd H l (.lst (xs.take i++y::xs.drop i))))
theorem NL:aa6 X "list.insert" Tt:=by
 intro pins s σ H x xs v us Q I rx rv h;obtain⟨l,xs,i,y,rfl,rfl,hH,hi,hz,q⟩:=h
 cases rx;obtain⟨u1,u2,rfl,r1,r2⟩:=Vals.two rv;obtain⟨t1,rfl⟩:=r1;obtain⟨z,its,n,r,hl,e⟩:=I.Iy hH;have aaa:¬(!Builtin.List.listFitsIndex (i:Int))=ac:=by
  rw[fitsIndex_both om (Int.lt_of_le_of_lt (Int.ofNat_le.mpr (aB hi (eX hz))) dk)];exact bf
 have hsz:its.toArray.size<=aE:=by rw[bm,<-hl];exact z
 obtain⟨MP,aao⟩:∃MP:Array ai,its.toArray=MP:=⟨_,Z⟩;obtain⟨x,hx⟩:∃x:Int,(i:Int)=x:=⟨_,Z⟩;rw[hx]at aaa ⊢;rw[aao]at hsz e;have hmt:=PySem.AutoSeq1.list_insert_list_int_val_1 l MP n x t1 u2 aaa hsz;refine jB CA ⟨_,e,Z⟩ PySem.F.entry_list_insert (PySem.F.args_list_insert_3 _ _ _) hmt ⟨e,?_⟩;subst aao;refine⟨.iy,_,I.QB (its:=its) (its':=its.take i++u2::its.drop i) (ys:=xs.take i++y::xs.drop i) (t':=s.toks) hH e ?_ ?_ ?_,Z,q⟩
 ·have hk:(if x<0 then(x+(its.toArray.size:Int)).toNat else min x.toNat its.toArray.size)=i:=by
   rw[aw om,bm,<-hl];lia
  show(its.toArray.extract 0 (if x<0 then(x+(its.toArray.size:Int)).toNat else min x.toNat its.toArray.size)).push u2++its.toArray.extract (if x<0 then(x+(its.toArray.size:Int)).toNat else min x.toNat its.toArray.size)=_;rw[hk];exact PySem.W.kl_ins_eq its i u2
 ·exact(r.take i).append (.cons r2 (r.drop i))
 ·rw[aQ,aJ,ck,gj];have e1:min i xs.length+(xs.length - i+1)=xs.length+1:=om;rw[e1];exact aB hz dk
inductive ae?(Q:VK)(a:ao)(y z:V)(H3:Hp):Prop
 |mk(kvs k:_)(_:H3 a=aa (.dK kvs))(_:y=kV k)(_:kvs.length<aE)(_:(∀v,eY kvs k=aa v->Q v H3))(_:(eY kvs k=ab->Q z (upd H3 a (.dK (putK kvs k z)))))
inductive ae'(ty tx:TE)(σ:L2.St)(Q:VK)(x:V)(H1:Hp):Prop
 |mk(a:_)(_:x= .ref a)(_:aa_ H1 a)(_:ty σ H1 λy H2=>tx σ H2 (ae? Q a y))
def Wk(td ty tx:TE):TE:=λσ H Q=>td σ H (ae' ty tx σ Q)
theorem Gr(I:Inv X pins σ H s)(e:H a=aa (.dK kvs))(ry:RelV (kV k) u)(rz:RelV z r)(c6:kvs.length<aE)
 (h1:∀v w' s',eY kvs k=aa v->Inv X pins σ H s'->RelV v w'->Q w' s')(h2:eY kvs k=ab->∀s',Inv X pins σ (upd H a (.dK (putK kvs k z))) s'->Q r s'):
  aU (bg X.prog X.w) A (call (.builtin "dict.setdefault") [.ref a,u,r]) Q E s:=by
 obtain⟨hz,hd,vs,rel,dd⟩:=MG I.f7 e;refine vH zw dd.typeIs PySem.F.entry_dict_setdefault (PySem.F.args_dict_setdefault_3 _ _ _) (kt_meets_setdefault (fh X.prog X.w) a (uj ry) hd r)
  ⟨vs,dd,by rw[<-rel.length];exact hz,λv hv=>?_,λhn h' Sy hs=>?_⟩
 ·have q:=rel.val k;rw[hv]at q
  cases e':eY kvs k with
  |none=>rw[e']at q;exact q.elim
  |some v'=>
   rw[e']at q;exact h1 v' v _ e' (I.tok _) q
 ·have q:=rel.val k;rw[hn]at q;have e':eY kvs k=ab:=by
   cases e':eY kvs k with
   |none=>rfl
   |some v'=>rw[e']at q;exact q.elim
  have he:∃q,h'.get? a=aa q:=let⟨q,_,_,hq,_⟩:=Sy;⟨q,hq⟩;have hl:(putK kvs k z).length<=aE:=by have:=pC kvs k z;lia
  exact h2 e' _ (Aw I (by rw[e];exact m?) hs he (Lc hl hd (rel.put k rz) Sy))
theorem P_(ho:PE X o td)(he:PE X e ty)(hf:PE X f tx)(m:M2 X o "setdefault" lC e f lA):PE X (.Call (.Attribute o "setdefault" lC) [e,f] [] lA) (Wk td ty tx):=by
 intros;refine sU m.base m.aaN m.line k9 zw PySem.F.type_dict_setdefault (ga (ho pins s σ H _ I h) λu s1 ⟨x,H1,I1,rx,a,ex,d,q1⟩=>?_);subst ex;obtain rfl:u=bn a:=rx;obtain⟨t1,t2,_⟩:=F' I1 d;refine⟨t1,t2,?_⟩;rw[m.trees];refine fM Z (iB (dj (ga (he pins s1 σ H1 _ I1 q1) λiv s2 ⟨y,H2,I2,ry,q2⟩=>
  dj (ga (hf pins s2 σ H2 _ I2 q2) λfv s3 ⟨z,H3,I3,rz,kvs,k,e3,ey,hl,q3,q4⟩=>e8 ?_))))
 subst ey;exact Gr I3 e3 ry rz hl (λv w' s4 e4 I4 C? =>⟨v,H3,I4,C?,q3 v e4⟩) (λe4 s4 I4=>⟨z,_,I4,rz,q4 e4⟩)
def lY(kvs:List (Key×V)):V2:=kvs.map λp=>kV p.1
theorem B8:sF X (.type "list") (λxs H Q=>∃a kvs,xs=[.ref a]/\Rd H a (.dK kvs)/\X.A.handled=ab/\∀l,H l=ab->Q (.ref l) (upd H l (.lst (lY kvs)))):=by
 intro pins s σ H xs us Q I r h;obtain⟨a,kvs,rfl,ha,hh,q⟩:=h;obtain⟨u,rfl,ru⟩:=vals1 r
 cases ru;obtain⟨hz,hd,vs,rel,dd⟩:=vA I.f7 ha;obtain⟨ep,ab7⟩:=dd.dictAt;refine PySem.W.kdl_call (PySem.W.kdl_dict (knd:=fh X.prog X.w) (kvs:=vs) (ep:=ep) hd) hh ab7 (by rw[<-rel.length];exact hz) λh' tk aaY c' hk hD fF=>?_;have hv:Vals (lY kvs) aaY.toList:=by
  refine vq (by rw[lY,af];exact rel.length.trans (fF.1.symm.trans (bE ..).symm)) (λi x u hx hu=>?_);unfold lY at hx;rw[aA]at hx
  cases e:kvs[i]? with
  |none=>rw[e]at hx;cases hx
  |some p=>
   rw[e]at hx
   cases hx;obtain⟨k,x',hk,adN⟩:=fF.2 i u (by rw[<-cU];exact hu);obtain⟨u',GX,_⟩:=KR rel (i:=i) (k:=p.1) (v:=p.2) e;rw[hk]at GX
   cases GX;exact A8 adN
 refine⟨.ref s.heap.objs.size,upd H s.heap.objs.size (.lst (lY kvs)),I.laid (t':=tk) hk (aS _) ?_,Z,q _ I.fresh⟩;exact⟨by rw[lY,af];exact hz,aaY.toList,c',hv,by rw[u0];exact hD⟩
theorem KO:Az (.type "list_reverseiterator") "__len__"=pure ab:=by rw[iP,fo];kernel_rfl
theorem QC:Az (.type "list_reverseiterator") "__length_hint__"=pure (aa (.builtin "list_reverseiterator.__length_hint__")):=by rw[iP,fo];kernel_rfl
variable{prog:ba}{w:World}{A:cb}{E:ai->aq->Prop}{s:aq}
theorem Q7(hT:s.TypeIs (.ref r) "list_reverseiterator")(h:Q ae s):aU (bg prog w) A (fc (.ref r)) Q E s:=by
 unfold fc;refine ag (wm hT KO ?_);refine c_ (λBK=>absurd BK dK) (λ_=>?_);refine c_ (λBK=>absurd BK dk) (λ_=>?_);refine ag (wm hT QC ?_);generalize Xh:("list_reverseiterator.__length_hint__":String)=ac3
 wp_delta
 rw[show splitId ac3=aa ("list_reverseiterator","__length_hint__")from by subst Xh;decide+kernel];subst Xh;refine ag (h9 (T:="list_reverseiterator") (b:=ac) hT (by rw[ni];kernel_rfl) ?_);refine c_ (λBK=>absurd BK dk) (λ_=>?_);refine c_ (λ_=>?_) (λBK=>absurd dK BK);refine c_ (λBK=>absurd BK dK) (λ_=>?_);exact au h
abbrev vD(acc:Array ai)(c:Nat):gt:={cls:=.type "list",dict:=ab,data:=.seq acc c,slots:=#[]}
abbrev RV(items:Array ai):Nat->ai->Prop:=λi v=>items[items.size - 1 - i]? =aa v
theorem UE{R:AA->aq->Prop}(hh:A.handled=ab)(uR:s.heap.IsRevIter it l ((items.size:Int) - 1))(hl:s.heap.IsList l items)(Xe:l≠it)(S:ao)(aap:S≠it)(abR:S≠l)(acH:ai)(c0:Nat)
 (hS:s.heap.get? S=aa (vD #[] c0))
 (hR:∀h' tk acc c,(∀b o,b≠S->b≠it->s.heap.get? b=aa o->h'.get? b=aa o)->h'.get? S=aa (vD acc c)->CD (RV items) acc items.size->R (.ok (.ret acH)) {s with heap:=h',toks:=tk})(hn:items.size<=aE):
  aU (bg prog w) A.in1 (fe (.ref S) (.ref it) acH)
   (λfin s'=>match fin with| .done f=>R (.ok f) s'| .again c'=>c'.quiet=ac/\md (bg prog w) A c' R s') (λe s'=>R (.error e) s') s:=by
 have OM:S∉[it,l]:=by
  intro z;rcases aF.mp z with z|z
  ·exact aap z
  ·exact abR (cX.mp z)
 have hW:=Walks.listRev (prog:=prog) (w:=w) (A:=A.in1) hh it l Xe items;unfold fe;refine ag (OQ (T:="list_reverseiterator") uR.typeIs ?_);have n1:jQ (.ref S) (.ref it)=ae:=by simp[jQ,aap]
 have n2:(dU "list_reverseiterator"==dU "list")=ae:=dk;have n3:(dU "list_reverseiterator"==dU "tuple")=ae:=dk;simp only[n1,n2,n3,fN,bA,if_false];refine ag (wpAny_pyIter_revIter uR ?_);refine ag (fu (Q7 uR.typeIs ?_));refine c_ (λz=>absurd z dk) (λ_=>au ⟨f8 oY _,?_⟩);refine SK hW.toS hn S OM acH items.size 0 _ #[] c0 Z (gx _) ⟨gx _,?_,hl⟩ hS (Vb _) λs' acc c hm DI fF=>?_
 ·have e:(items.size:Int) - 1 - ((0:Nat):Int)=(items.size:Int) - 1:=om;rw[e];exact uR
 ·rw[Moved.eq_with hm];refine hR s'.heap s'.toks acc c (λb o hb ur e=>hm.heap b o (λz=>?_) e) DI fF;rcases aF.mp z with z|z
  ·exact hb z
  ·exact ur (cX.mp z)
theorem QT{R:AA->aq->Prop}(hh:A.handled=ab)(uR:s.heap.IsRevIter it l ((items.size:Int) - 1))(hl:s.heap.IsList l items)(Xe:l≠it)(S:ao)(aap:S≠it)(abR:S≠l)
 (hS:s.heap.get? S=aa (vD #[] 0))
 (hR:∀h' tk acc c,(∀b o,b≠S->b≠it->s.heap.get? b=aa o->h'.get? b=aa o)->h'.get? S=aa (vD acc c)->CD (RV items) acc items.size->R (.ok (.ret .none)) {s with heap:=h',toks:=tk})(hn:items.size<=aE):
  aU (bg prog w) A.in1 (gS.«list.__init__» ⟨[.ref S,.ref it],[]⟩)
   (λfin s'=>match fin with| .done f=>R (.ok f) s'| .again c'=>c'.quiet=ac/\md (bg prog w) A c' R s') (λe s'=>R (.error e) s') s:=by
 show aU _ _ (do let was<-gv (.ref S);Builtin.List.listUpdate (.ref S) (λ_=>#[]);letGo was.toList.reverse;fe (.ref S) (.ref it) .none) _ _ s;refine ag ?_;unfold gv;refine ag (eF hS Z (au ?_));show aU _ _ (E3 S (λ_=>#[])>>=λ_=>letGo (#[]:Array ai).toList.reverse>>=λ_=>fe (.ref S) (.ref it) .none) _ _ s;refine ag (l? hS Z ?_);have aaq:=cW (j6 (λ_=>(#[]:Array ai))) hS Z;have ot:∀b o,b≠S->s.heap.get? b=aa o->(s.heap.update S (j6 (λ_=>(#[]:Array ai)))).get? b=aa o:=λb o hb e=>(db _ _ (a8 hb)).trans e;refine ag (mQ ?_);refine UE hh (uR.at λo e=>ot _ o (a8 aap) e) (hl.at λo e=>ot _ o (a8 abR) e) Xe S aap abR .none _ aaq (λh' tk acc c hk DI fF=>?_) hn;exact hR h' tk acc c (λb o hb ur e=>hk b o hb ur (ot b o hb e)) DI fF
theorem DM(hh:A.handled=ab)(uR:s.heap.IsRevIter it l ((items.size:Int) - 1))(hl:s.heap.IsList l items)(Xe:l≠it)(hn:items.size<=aE)
 (hQ:∀h' tk acc c,(∀b o,b≠it->s.heap.get? b=aa o->h'.get? b=aa o)->h'.get? s.heap.objs.size=aa (vD acc c)->CD (RV items) acc items.size->Q (.ref s.heap.objs.size) {s with heap:=h',toks:=tk}):
  aU (bg prog w) A (call (.type "list") [.ref it]) Q E s:=by
 obtain⟨oi,hoi,_⟩:=id uR;obtain⟨ol,Yk,_⟩:=id hl;refine callType_codes (Q₁:=λv s'=>v= .ref s.heap.objs.size/\s'={s with heap:=s.heap.push (vD #[] 0)}) PySem.F.called_list (PySem.F.typeCall_list_1 _) PySem.F.entry_list_init (code_list_new _ ⟨Z,Z⟩) λv s' h1=>?_;obtain⟨rfl,rfl⟩:=h1;have hS:(s.heap.push (vD #[] 0)).get? s.heap.objs.size=aa (vD #[] 0):=aT _ Z;refine⟨⟨_,hS,Z⟩,PySem.F.args_list_init_2 _ _,QT (A:=A.in1) hh (uR.at λo e=>az _ e) (hl.at λo e=>az _ e) Xe _ (iK (aW hoi)) (iK (aW Yk)) hS (λh' tk acc c hk DI fF=>?_) hn⟩;exact⟨Z,hQ h' tk acc c (λb o hb e=>hk b o (bL (aW e)) hb (az _ e)) DI fF⟩
theorem wc:g_ "list"=aa (.type "list"):=by decide+kernel
inductive ae5(K:aj)(Q:VK)(vs:V2)(H1:Hp):Prop
 |mk(a:ao)(xs:V2)(_:vs=[.ref a])(_:bQ K H1 a xs)(_:∀p,H1 p=ab->Q (.ref p) (upd H1 p (.lst xs.reverse)))
def Pz(K:aj)(ta:TA):TE:=λσ H Q=>ta σ H (ae5 K Q)
theorem A'(hc:X.calm=ac)(hg:Gl X "list")(hm:X.mg "list"=ab)(Yr:Gl X "reversed")(BG:X.mg "reversed"=ab)(ha:PA X [e] ta)
 (hs:bX [e] X.env=[(ae,eval e X.env)]:=by rfl)(Sk:bX [.Call (.Name "reversed" p2) [e] [] A_] X.env=[(ae,eval (.Call (.Name "reversed" p2) [e] [] A_) X.env)]:=by rfl):
  PE X (.Call (.Name "list" p) [.Call (.Name "reversed" p2) [e] [] A_] [] pos) (Pz X.K ta):=by
 intros;refine dt (nk I hg hm wc ?_ dk dk);refine dz ?_ Sk Z;rw[Sk];show aU _ _ (Jv ((ae,eval (.Call (.Name "reversed" p2) [e] [] A_) X.env)::[])) _ _ s;refine dj ?_;refine dt (nk I Yr BG B9 ?_ dk dk);refine dz (ga (ha A_ pins s σ H _ I h) λus s1 ⟨vs,H1,I1,r1,q1⟩=>?_) hs Z;obtain⟨a,xs,e1,hq,q⟩:=q1;subst e1
 cases r1 with
 |cons r rr=>
  cases rr
  cases r;obtain⟨its,rv,p',hz⟩:=I1.list hq;have hl:=rv.length;refine call_reversed_list p'.isList ?_;refine e8 ?_;have Xe:a≠s1.heap.objs.size:=bL (by obtain⟨o,ho,_⟩:=p'.isList;exact aW ho);refine DM (items:=its.toArray) (l:=a) (I1.ok.hd hc) ⟨_,aT _ Z,Z,Z⟩ (p'.isList.at λo eo=>az _ eo) Xe (by rw[bm,<-hl];exact hz) λh' tk acc c hk hD fF=>?_;have hsz:s1.heap.objs.size<=(s1.heap.push (revObj a (((its.toArray.size:Nat):Int) - 1))).objs.size:=by
   have:(s1.heap.push (revObj a (((its.toArray.size:Nat):Int) - 1))).get? s1.heap.objs.size=aa (revObj a (((its.toArray.size:Nat):Int) - 1)):=aT _ Z;exact eX (aW this)
  refine⟨.ref _,upd H1 (s1.heap.push (revObj a (((its.toArray.size:Nat):Int) - 1))).objs.size (.lst xs.reverse),I1.laid (t':=tk) (λb u eb=>hk b u (bL (aW eb)) (az _ eb)) hsz ?_,Z,q _ (I1.f7.fresh hsz)⟩;refine⟨by rw[iT];exact hz,acc.toList,c,?_,by rw[u0];exact hD⟩;refine vq (by rw[iT,hl,bE];exact(fF.1.trans (bm ..)).symm) (λi x u hx hu=>?_);have ZN:=fF.2 i u (by rw[<-cU];exact hu);have hi:i<xs.length:=by
   have:=(aY.mp hx).1;rwa[iT]at this
  rw[List.getElem?_reverse hi]at hx;obtain⟨u',GX,ru⟩:=rv.get hx;have hu3:its.toArray[its.toArray.size - 1 - i]? =aa u:=ZN;rw[uF,bm,<-hl]at hu3;rw[show xs.length - 1 - i=xs.length - 1 - i from Z,hu3]at GX
  cases GX;exact ru
theorem xE{X:Cx}(hc:X.calm=ac):sF X (.type "list") (λxs H Q=>∃a kvs,xs=[.ref a]/\Rd H a (.dK kvs)/\∀l,H l=ab->Q (.ref l) (upd H l (.lst (lY kvs)))):=by
 intro pins s σ H xs us Q I r h;obtain⟨a,kvs,h1,h2,h3⟩:=h;exact B8 pins s σ H xs us Q I r ⟨a,kvs,h1,h2,I.ok.hd hc,h3⟩
abbrev N?(d:ai):List (bV×ai):=[(al "default",d)]
theorem Qv(a v:ai):vI "max" ⟨[a],[(al "default",v)]⟩:=by unfold vI;kernel_rfl
theorem xo:(toString "max"++toString ".loop":String)="max.loop":=by decide
section
variable{prog:ba}{w:World}{A:cb}{R:AA->aq->Prop}{it:ao}{fp wr:List ao}{n:Nat}{P:Nat->ai->Prop}{St:Nat->bO->Prop}{d:ai}
theorem T0(hW:Walks prog w A.in1 it fp wr n P St)(bt:Nat->Nat->Bool)(hc:CmpOf prog w A.in1 .Gt P bt)(S:ao)(Mu:S∉fp):
  ∀(k j:Nat)(s:aq)(vb:ai)(c:Nat),n - (j+1)=k->j+1<=n->St (j+1) s.heap->P (Cy bt j) vb->s.heap.get? S=aa (vD #[vb,vb] c)->
  (∀v h' tk,P (Cy bt (n - 1)) v->(∀b o,b∉wr->b≠S->s.heap.get? b=aa o->h'.get? b=aa o)->R (.ok (.ret v)) {s with heap:=h',toks:=tk})->
  md (bg prog w) A (.builtin "max.loop" ⟨[.ref it,.none,.ref S],N? d⟩) R s:=by
 have Xo:S∉wr:=λh=>Mu (hW.sub _ h);intro k
 induction k with
 |zero=>
  intro j s vb c hk hj uQ abS hS hR;have EE:j+1=n:=om;refine fE rn ?_;rw[d_ fH _];show aU _ _ (uU (.ref S)>>=_) _ _ s;refine ag (eF hS Z ?_);show aU _ _ (tryCatch (j4 (.ref it)) _>>=_) _ _ s;refine ag (rf (hW.done s _ _ (EE▸uQ) λh' tk BH=>?_));have DI:=BH S _ Xo hS;show aU _ _ (E3 S (λ_=>#[])>>=_) _ _ _;refine ag ?_;refine l? DI Z (ag (mQ (au ?_)));exact hR vb _ tk (by rw[<-EE];exact abS) λb o q1 q2 e=>(db _ _ (a8 q2)).trans (BH b o q1 e)
 |succ k ih=>
  intro j s vb c hk hj uQ abS hS hR;have gO:j+1<n:=om;refine fE rn ?_;rw[d_ fH _];show aU _ _ (uU (.ref S)>>=_) _ _ s;refine ag (eF hS Z ?_);show aU _ _ (tryCatch (j4 (.ref it)) _>>=_) _ _ s;refine ag (rf (hW.item (j+1) s _ _ gO uQ λv h' tk hP IK BH=>?_));have DI:=BH S _ Xo hS;show aU _ _ (tryCatch (Jx [v,v] (richCompare .Gt v vb>>=_)) _>>=_) _ _ _;refine ag (rf (fu (ag (hc (j+1) (Cy bt j) v vb _ _ _ hP abS ?_))));refine ag (fu (eL ?_));refine ag (mQ (au ?_))
  cases hb:bt (j+1) (Cy bt j)with
  |true=>
   simp only[if_true];refine ag ?_;refine l? DI Z (ag (mQ ?_));rw[xo];refine au ⟨f8 fH _,ih (j+1) _ v _ om gO (hW.frame _ _ _ IK λb q1 o e=>?_) (by simp only[Cy,hb,if_true];exact hP) (cW _ DI Z) λv' h2 Wg aar K1=>?_⟩
   ·exact(db _ _ (λz:S=b=>Mu (z▸q1))).trans e
   ·exact hR v' h2 Wg aar λb o q1 q2 e=>K1 b o q1 q2 ((db _ _ (a8 q2)).trans (BH b o q1 e))
  |false=>
   simp only[bA,if_false];refine ag (mQ ?_);rw[xo];refine au ⟨f8 fH _,ih (j+1) _ vb c om gO IK (by simp only[Cy,hb,bA,if_false];exact abS) DI λv' h2 Wg aar K1=>?_⟩;exact hR v' h2 Wg aar λb o q1 q2 e=>K1 b o q1 q2 (BH b o q1 e)
theorem Qn(hW:Walks prog w A.in1 it fp wr n P St)(bt:Nat->Nat->Bool)(hc:CmpOf prog w A.in1 .Gt P bt)(S:ao)(Mu:S∉fp){s:aq}{c:Nat}(uQ:St 0 s.heap)(hS:s.heap.get? S=aa (vD #[] c))
 (hR:0<n->∀v h' tk,P (Cy bt (n - 1)) v->(∀b o,b∉wr->b≠S->s.heap.get? b=aa o->h'.get? b=aa o)->R (.ok (.ret v)) {s with heap:=h',toks:=tk})
 (h0:n=0->∀h' tk,(∀b o,b∉wr->b≠S->s.heap.get? b=aa o->h'.get? b=aa o)->R (.ok (.ret d)) {s with heap:=h',toks:=tk}):
  md (bg prog w) A (.builtin "max.loop" ⟨[.ref it,.none,.ref S],N? d⟩) R s:=by
 have Xo:S∉wr:=λh=>Mu (hW.sub _ h);refine fE rn ?_;rw[d_ fH _];show aU _ _ (uU (.ref S)>>=_) _ _ s;refine ag (eF hS Z ?_);show aU _ _ (tryCatch (j4 (.ref it)) _>>=_) _ _ s;by_cases hn:0<n
 ·refine ag (rf (hW.item 0 s _ _ hn uQ λv h' tk hP IK BH=>?_));have DI:=BH S _ Xo hS;show aU _ _ (E3 S (λ_=>#[v,v])>>=_) _ _ _;refine ag ?_;refine l? DI Z ?_;rw[xo];refine au ⟨f8 fH _,T0 hW bt hc S Mu _ 0 _ v _ Z hn (hW.frame _ _ _ IK λb q1 o e=>?_) hP (cW _ DI Z) λv' h2 Wg aar K1=>?_⟩
  ·exact(db _ _ (λz:S=b=>Mu (z▸q1))).trans e
  ·exact hR hn v' h2 Wg aar λb o q1 q2 e=>K1 b o q1 q2 ((db _ _ (a8 q2)).trans (BH b o q1 e))
 ·have hz:n=0:=om;refine ag (rf (hW.done s _ _ (hz▸uQ) λh' tk BH=>?_));show aU _ _ (rule _>>=_) _ _ _;refine ag (kR ?_);exact au (h0 hz h' tk λb o q1 q2 e=>BH b o q1 e)
end
section
variable{prog:ba}{w:World}{A:cb}{E:ai->aq->Prop}{s:aq}{l:ao}{its:X9}{ns:xC}{Q:ai->aq->Prop}{d:ai}
theorem WY(hh:A.handled=ab)(hl:s.heap.IsList l its.toArray)(hi:f9 its ns)
 (h1:0<ns.length->∀h' tk M t',(∀b o,s.heap.get? b=aa o->h'.get? b=aa o)->M∈ns->(∀a,a∈ns->a<=M)->Q (.int M t') {s with heap:=h',toks:=tk})
 (h0:ns.length=0->∀h' tk,(∀b o,s.heap.get? b=aa o->h'.get? b=aa o)->Q d {s with heap:=h',toks:=tk}):
  aU (bg prog w) A (call (.builtin "max") [.ref l] (N? d)) Q E s:=by
 obtain⟨xs,e⟩:=hi.allInts.items;have hn:numsOf (JU xs).toList=ns:=by rw[<-e];exact hi.numsOf
 rw[nums_intItems]at hn;subst hn;rw[e]at hl;refine PyProof.Rows.kmk_tree PySem.F.kind_max PySem.F.plain_max PySem.F.entry_max (Qv _ _) ?_;show aU _ A.in1 (uZ "max" ["key","default"] 0 ⟨[],N? d⟩>>=_) _ _ s;refine ag (sT (show uZ "max" ["key","default"] 0 ⟨[],N? d⟩=pure [ab,aa d]from Z) ?_);refine ag (au ?_);refine ag (iter_intList hl λs2 e2 st OM hlI=>?_);subst e2;refine ag (cC ?_);have Mu:(s.heap.push {cls:=.type "list_iterator",data:=.fields #[.ref l,.int 0 0]}).objs.size∉[s.heap.objs.size,l]:=λhm=>eV _ (OM _ hm);have hW:=Cz (prog:=prog) (w:=w) (A:=A.in1) hh s.heap.objs.size l hlI (JU xs);have hsz:(JU xs).size=xs.size:=by simp[JU]
 have kept:∀{h':bO},(∀b o,b∉[s.heap.objs.size]->b≠(s.heap.push {cls:=.type "list_iterator",data:=.fields #[.ref l,.int 0 0]}).objs.size->((s.heap.push {cls:=.type "list_iterator",data:=.fields #[.ref l,.int 0 0]}).push {cls:=.type "list",data:=.seq #[]}).get? b=aa o->h'.get? b=aa o)->∀b o,s.heap.get? b=aa o->h'.get? b=aa o:=λ{h'} hk b o eb=>by
  have gO:=aW eb;have h2:s.heap.objs.size<=(s.heap.push {cls:=.type "list_iterator",data:=.fields #[.ref l,.int 0 0]}).objs.size:=by
   have:(s.heap.push {cls:=.type "list_iterator",data:=.fields #[.ref l,.int 0 0]}).get? s.heap.objs.size=aa {cls:=.type "list_iterator",data:=.fields #[.ref l,.int 0 0]}:=aT _ Z;exact eX (aW this)
  refine hk b o (λz=>?_) (λz=>?_) (az _ (az _ eb))
  ·rw[cX.mp z]at gO;exact eV _ gO
  ·exact absurd gO (by rw[z];exact pN.mpr h2)
 rw[xo];refine au ⟨f8 fH _,Qn hW _ (CmpOf.ints_gt (numAt xs) (λ_ _=>SH)) _ Mu (hW.frame _ _ _ st λb _ o eb=>az _ eb) (aT _ Z) (λhn v h' tk hv hk=>?_) λhn h' tk hk=>?_⟩
 ·rw[hsz]at hv hn;obtain⟨t,rfl⟩:=SH hv;obtain⟨b1,b2⟩:=argBest_gt (numAt xs) (xs.size - 1);refine h1 (by rw[af,bE];exact hn) h' tk _ t (kept hk) ?_ λa ha=>?_
  ·rw[SG];exact SQ (by rw[af,bE];lia)
  ·obtain⟨j,hj,rfl⟩:=mem_getD ha;rw[af,bE]at hj;rw[<-SG];exact b2 j om
 ·exact h0 (by rw[af,bE,<-hsz];exact hn) h' tk (kept hk)
end
inductive afn(K:aj)(d:V)(Q:VK)(x:V)(H1:Hp):Prop
 |mk(a:ao)(ns:xC)(_:x=V.ref a)(_:bQ K H1 a (ns.map V.int))(_:(ns=[]->Q d H1))(_:∀m,m∈ns->(∀y,y∈ns->y<=m)->Q (.int m) H1)
def Y2(K:aj)(te:TE)(d:V):TE:=λσ H Q=>te σ H (afn K d Q)
theorem Oi:g_ "max"=aa (.builtin "max"):=by decide+kernel
theorem TD{X:Cx}(hc:X.calm=ac)(hg:Gl X "max")(hm:X.mg "max"=ab)(he:PE X e te)(hd:PE X ed (tC (.int i)))(hs:bX [e] X.env=[(ae,eval e X.env)]:=by rfl):
  PE X (.Call (.Name "max" p) [e] [⟨aa "default",ed,kp⟩] pos) (Y2 X.K te (.int i)):=by
 intros;refine dt (nk I hg hm Oi ?_ dk dk);refine PyProof.Rows.callWith_kw ?_ (by rw[hs];rfl) (by rw[hs];rfl) Z Z;rw[hs];show aU _ _ (Jv ((ae,eval e X.env)::[])) _ _ s;refine dj (ga (he pins s σ H _ I h) λu s1 ⟨x,H1,I1,rx,a,ns,ex,hq,q0,q1⟩=>e8 ?_);subst ex;obtain rfl:u=bn a:=rx;refine ga (TB (kpos:=kp) (nm:=aa "default") hd WH pos pins s1 σ H1 (λzs H2=>zs=[.int i]/\H2=H1) I1 ⟨Z,Z⟩) λws s2 ⟨zs,H2,I2,rz,ez,eH⟩=>?_;subst ez eH;obtain⟨w1,rfl,rw1⟩:=vals1 rz;obtain⟨its,rv,hl,_⟩:=I2.list hq;show aU _ _ (call (.builtin "max") [.ref a] (N? w1)) _ _ s2;refine WY (I2.ok.hd hc) hl.isList rv.ints (λ_ h' tk M t' hk m1 m2=>⟨.int M,_,I2.kept hk,⟨_,Z⟩,q1 M m1 m2⟩) λhn h' tk hk=>⟨.int i,_,I2.kept hk,?_,q0 (nw hn)⟩;exact rw1
theorem F8:∀a b:xC,HT.lexLt a b=dQ a b
 |[],[]=>rfl
 |[],_::_=>rfl
 |_::_,[]=>rfl
 |x::a,y::b=>by
  rw[HT.By,F8 a b];show _=(decide (x<y)||(x==y&&dQ a b));by_cases e:x=y
  ·subst e;simp
  ·rw[aw e];simp[e]
theorem QP{n:Nat}{z:Int}{j:Nat}(e:z=(j:Int))(h:j<n):E5 z n=aa j:=by
 refine(Ml ?_).1;unfold VA;rw[aC om,aC om]
 congr 1
 lia
theorem qO{α β:Type}(f:α->β):∀(l:List α)(n:Nat),(l.map f).eraseIdx n=(l.eraseIdx n).map f
 |[],_=>rfl
 |_::_,0=>rfl
 |_::l,n+1=>by
  show _::(l.map f).eraseIdx n=_;rw[qO f l n];rfl
def rH(jF:List (Option Int))(n:Nat):Option xC:=(jF.mapM id).map λl=>l++[(n:Int)]
theorem Bv:∀jF:List (Option Int),(jF.mapM id=ab/\ab∈jF)\/∃l:xC,jF=l.map aa/\jF.mapM id=aa l
 |[]=>.inr ⟨[],Z,Z⟩
 |none::jF=>.inl ⟨by simp,by simp⟩
 |some x::jF=>by
  rcases Bv jF with⟨h1,h2⟩|⟨l,h1,h2⟩
  ·exact .inl ⟨by simp[h1],by simp[h2]⟩
  ·exact .inr ⟨x::l,by simp[h1],by simp[h2]⟩
theorem A7(w:aO)(n:Nat):∀at_:V9,fK w at_ n=rH (at_.map (eT w n)) n:=λat_=>by
 unfold fK rH
 congr 1
 induction at_ with
 |nil=>rfl
 |cons a l ih=>
  rw[bC,ml,ml,ih];rfl
theorem BE:∀jF:List (Option Int),DA .iy (jF.map vV)=decide (ab∈jF)
 |[]=>by simp[DA]
 |o::jF=>by
  have ih:=BE jF;unfold DA at ih ⊢;rw[bC,d9,ih]
  cases o with
  |none=>show(ac||_)=_;simp
  |some x=>show(ae||_)=_;simp
theorem N9(jF:List (Option Int)):(jF.map vV).all pH=ac:=by
 rw[dC];intro v hv;obtain⟨n,_,rfl⟩:=aV.mp hv
 cases n<;>rfl
theorem qR(c:Tw.Canon ρ rows)(e:Tw.Ends ρ)(b:∀n r,ρ n=aa r->n<=200):rows.length<=201:=by
 have key:∀l:List xC,l.Nodup->(∀r∈l,∃n,ρ n=aa r)->∃m:V9,m.length=l.length/\m.Nodup/\∀n∈m,∃r∈l,ρ n=aa r:=by
  intro l
  induction l with
  |nil=>intro _ _;exact⟨[],Z,gu,by simp⟩
  |cons r l ih=>
   intro hn hm;obtain⟨h1,h2⟩:=cc.mp hn;obtain⟨m,e1,e2,e3⟩:=ih h2 λr hr=>hm r (aD _ hr);obtain⟨n,Q1⟩:=hm r (by simp);refine⟨n::m,by simp[e1],cc.mpr ⟨λz=>?_,e2⟩,λx hx=>?_⟩
   ·obtain⟨r',DC,e'⟩:=e3 n z;rw[Q1]at e'
    cases e';exact h1 DC
   ·rcases aF.mp hx with rfl|hx
    ·exact⟨r,by simp,Q1⟩
    ·obtain⟨r',DC,e'⟩:=e3 x hx;exact⟨r',aD _ DC,e'⟩
 obtain⟨m,e1,e2,e3⟩:=key rows (c.OG.imp λ{a b} h q=>by rw[q,nJ]at h;cases h) λr hr=>(c.mem r).mp hr;rw[<-e1];have:=m8 e2 (r:=cF 201) λx hx=>by
  obtain⟨r,_,hr⟩:=e3 x hx;exact fi.mpr (by have:=b x r hr;lia)
 simpa using this
theorem LM.ll(h:LM H ro a l):LL H a l:=by
 obtain⟨as,e,_,p⟩:=h;exact⟨as,e,dI (λ_ _ z=>z.1) p⟩
inductive CL(vs:V2)(H:Hp)(Q:VK)(E:XK):Prop
 |mk(a b:ao)(rs:List xC)(x:xC)(_:vs=[.ref a,.ref b])(_:LL H a rs)(_:IL H b x)(_:DP rs)(_:Q (.int (Tw.cnt rs x:Nat)) H)
theorem pQ(T:Txt K mg t):(1<*71) ["rows","wanted"] CL:=by
 refine T.f.G71.F.ok2 ["rows","wanted","low","high","middle"] ?_;obtain⟨a,b,rs,x,rfl,hL,hb,hs,k⟩;refine⟨_,(ap (bM (i:=2) nd aN)
  (ap (bM (i:=3) nd (bF bq Z T.len a9 (ah (pv 0) ax)))
  (ap (qy bY (bR Bh (pv 2) (pv 3) (bU _))
  (ap (bM (i:=4) nd (fY TJ (fY j_ (pv 2) (pv 3)) aN))
  (aH (de (bR (WN hr.We) (cu bP (pv 0) (pv 4) (λ_ _=>rfl)) (pv 1) (bU _)) (aH (bM (i:=2) nd (fY j_ (pv 4) aN))) (aH (bM (i:=3) nd (pv 4)))))))
  (aH (bo (pv 2)))))),?_⟩
 obtain⟨ys,e,p⟩:=hL.rl;have c6:=dY p;refine⟨_,Z,_,_,Z,.inl (bQ.of e),?_⟩;have hc:=Lh rs x;refine⟨λm σ H'=>∃(lo hi:Int)(v:Option V),m=(hi - lo).toNat/\σ=[aa (.ref a),aa (.ref b),aa (.int lo),aa (.int hi),v]/\H'=H/\0<=lo/\lo<=(Tw.cnt rs x:Int)/\(Tw.cnt rs x:Int)<=hi/\hi<=(rs.length:Int),
  ⟨_,0,(ys.length:Int),ab,Z,Z,Z,om,om,om,om⟩,?_⟩
 rintro m σ H1 ⟨lo,hi,v,rfl,rfl,rfl,h1,h2,h3,h4⟩;refine⟨_,Z,_,Z,_,_,Z,Z,_,Z,?_⟩;by_cases gO:lo<hi
 ·rw[aI gO];refine cI ⟨_,λ_ _ h=>h,_,Z,_,Z,_,_,Z,Z,_,_,Z,Z,⟨dk,dk⟩,?_⟩;obtain⟨j,hj⟩:∃j:Nat,(lo+hi) / 2=(j:Int):=⟨((lo+hi) / 2).toNat,om⟩;have Yp:j<rs.length:=om;obtain⟨y,hy,b2,rfl,ur⟩:=Ku p (i:=j) (b:=rs[j]) (by simp[Yp]);refine⟨_,Z,_,Z,_,_,_,_,Z,Z,bQ.of e,at_of hj hy,_,Z,_,_,_,_,Z,Z,bQ.of ur,bQ.of hb,_,Z,?_⟩;have hif:=ML (x:=x) hs (show rs[j]? =aa rs[j] by simp[Yp]);rw[F8]
  cases VO:dQ rs[j] x with
  |true=>
   have:=hif.mp VO;exact cI ⟨_,Z,_,_,Z,Z,_,om,(lo+hi) / 2+1,hi,_,Z,Z,Z,om,om,h3,h4⟩
  |false=>
   have:¬j<Tw.cnt rs x:=λq=>by
    rw[hif.mpr q]at VO
    cases VO
   exact cy ⟨_,Z,_,om,lo,(lo+hi) / 2,_,Z,Z,Z,h1,h2,om,om⟩
 ·rw[ay gO];refine cy ⟨_,Z,?_⟩;have:lo=(Tw.cnt rs x:Int):=om;rw[this];exact k
def Js(i:ao):Tag->Prop:=λx=>x≠.rows i/\x≠.pf i
inductive wN(t:eP)(vs:V2)(H:Hp)(Q:VK)(E:XK):Prop
 |mk(i:ao)(n:Nat)(ro:Role)(at_:V9)(ρ:Nat->Option xC)(_:vs=[.ref i,nI n])(_:Cb t H ro i at_ ρ)(_:Tw.Ends ρ)(_:∀H',Cb t H' ro i at_ (gQ ρ n ab)->Kp (Js i) H ro H' ro->Q .iy H')
theorem pB(T:Txt K mg t):(2<*73) ["self","number"] (wN t):=by
 refine T.m.G73.F.ok2 ["self","number","row"] ?_;obtain⟨i,n,ro,at_,ρ,rfl,hI,hE,k⟩;refine⟨_,(ap (bM (i:=2) nd (P' (bb (pv 0) Z) (pv 1) ou ⟨Z,Z,Z,Z⟩))
  (aH (de (bR L3 (pv 2) ou (bU _)) (aH (cv (jK bp mi mf Bs (bb (pv 0) Z) (ah (j9 (pQ T) (hr.mono dk) Z T.f.G71 (ah (bb (pv 0) Z) (ah (pv 2) ax))) ax)))) bS))),?_⟩
 obtain⟨dx,A,R,D,kvs,re,rows,X⟩:=hI;have iD:i≠D:=lh X.obj X.zS (by intro q;cases q);have iR:i≠R:=lh X.obj X.rws (by intro q;cases q);have RD:R≠D:=lh X.rws X.zS (by intro q;cases q);refine⟨_,Z,_,_,_,_,_,Z,X.obj,T.eC,T.oz,Z,_,Z,.inl ⟨_,.inl X.zS⟩,_,Z,kvs,.inl (n:Int),X.zS,Z,λv hv=>?_,λhv=>?_⟩
 ·obtain⟨n',a,r,hk,rfl,ha,DC,_⟩:=X.has _ _ hv;obtain rfl:n'=n:=by injection hk with hk;lia
  have k1:Kp (· ≠.pf i) H ro (upd H D (.dK (ik kvs (.inl (n':Int))))) ro:=Kp.put X.rD;have Sv:=ha.kp k1 (by intro q;cases q);have ad_:(upd H D (.dK (ik kvs (.inl (n':Int))))) R=aa (.lst (re.map V.ref)):=by rw[aZ RD];exact X.rws
  have JM:(upd H D (.dK (ik kvs (.inl (n':Int))))) i=aa (.ins t.Index dx (Gj (.ref A) (.ref R) (.ref D))):=by rw[aZ iD];exact X.obj
  have qK:r∈rows:=(X.Lj.mem r).mpr ⟨n',DC⟩;obtain⟨VP,her⟩:=RJ X.Lj.OG qK;have BF:ci (IL (upd H D (.dK (ik kvs (.inl (n':Int)))))) re rows:=dI (λ_ _ z=>(z.kp k1 (by intro q;cases q)).1) X.pd;have c6:=dY X.pd;have hclt:Tw.cnt rows r<rows.length:=(aY.mp VP).1;refine⟨_,Z,Z,_,Z,cI ⟨_,Z,_,_,_,_,_,Z,JM,T.eC,T.fg,Z,.inl ⟨Z,_,bQ.of ad_⟩,_,Z,_,_,_,_,_,Z,JM,T.eC,T.fg,Z,_,Z,R,a,rows,r,Z,⟨re,ad_,BF⟩,Sv.1,X.Lj.OG,?_⟩⟩;obtain⟨ra,Cj⟩:∃ra,re[Tw.cnt rows r]? =aa ra:=⟨re[Tw.cnt rows r]'om,by simp⟩;refine⟨R,_,_,Tw.cnt rows r,.ref ra,Z,Z,ad_,om,?_,QP Z (by rw[af];lia),by rw[aA,Cj];rfl,?_⟩
  ·have:=qR X.Lj hE λm r' e'=>by
    have:=X.all m r' e';obtain⟨v',EB⟩:=iH.mp this;obtain⟨n2,_,_,K1,_,_,_,my⟩:=X.has _ _ EB;injection K1 with K1
    lia
   lia
  ·have k2:Kp (· ≠.rows i) (upd H D (.dK (ik kvs (.inl (n':Int))))) ro (upd (upd H D (.dK (ik kvs (.inl (n':Int))))) R (.lst ((re.map V.ref).eraseIdx (Tw.cnt rows r)))) ro:=Kp.put X.rR;have kk:Kp (Js i) H ro _ ro:=(k1.mono λx (q:Js i x)=>q.2).trans (k2.mono λx (q:Js i x)=>q.1);refine k _ ⟨dx,A,R,D,ik kvs (.inl (n':Int)),re.eraseIdx (Tw.cnt rows r),rows.eraseIdx (Tw.cnt rows r),?_⟩ kk;have im:Js i .ln:=⟨(by intro q;cases q),(by intro q;cases q)⟩;refine⟨by rw[aZ iR];exact JM,X.ri,X.RK.kp kk im,?_,X.rR,?_,?_,?_,X.rD,uc X.nd,?_,?_⟩
   ·rw[ak,qO]
   ·exact xb _ (dI (λ_ _ z=>z.kp kk im) X.pd)
   ·rw[her];exact X.Lj.out hE DC
   ·rw[aZ (a8 RD),ak]
   ·intro q v' EB;rw[n_]at EB;split at EB
    ·cases EB
    ·rename_i iQ;obtain⟨n2,a2,r2,e1,e2,e3,e4,e5⟩:=X.has q v' EB;refine⟨n2,a2,r2,e1,e2,e3.kp kk im,?_,e5⟩;unfold gQ;rw[aw (λz=>iQ (by rw[e1,z]))];exact e4
   ·intro m r' e';unfold gQ at e';split at e'
    ·cases e'
    ·rename_i iQ;rw[n_,aw (λz=>iQ (by injection z with z;lia))];exact X.all m r' e'
 ·refine⟨_,Z,Z,_,Z,cy (k _ ⟨dx,A,R,D,kvs,re,rows,?_⟩ Kp.refl)⟩;have Gf:ρ n=ab:=by
   cases e:ρ n with
   |none=>rfl
   |some r=>
    have:=X.all n r e;rw[hv]at this
    cases this
  refine⟨X.obj,X.ri,X.RK,X.rws,X.rR,X.pd,X.Lj.Ib Gf,X.zS,X.rD,X.nd,?_,?_⟩
  ·intro q v' EB;obtain⟨n2,a2,r2,e1,e2,e3,e4,e5⟩:=X.has q v' EB;refine⟨n2,a2,r2,e1,e2,e3,?_,e5⟩;unfold gQ;rw[aw (λz=>by rw[z,Gf]at e4;cases e4)];exact e4
  ·intro m r' e';unfold gQ at e';split at e'
   ·cases e'
   ·exact X.all m r' e'
theorem TQ{A B:Prop}{x:V}{xs:V2}(h:DA x xs=ae)(a:A):if(if(ac:Bool)=ac then !DA x xs else DA x xs)=ac then A else B:=by
 rw[h];exact a
theorem TR{A B:Prop}{x:V}{xs:V2}(h:DA x xs=ac)(b:B):if(if(ac:Bool)=ac then !DA x xs else DA x xs)=ac then A else B:=by
 rw[h];exact b
theorem ME{K:aj}{H:Hp}:∀ns:xC,zn K H (ns.map V.int) (ns.map Ce)
 |[]=>.nil
 |n::r=>.cons (.int n) (ME r)
theorem Dp.ints{K:aj}{H:Hp}{a:ao}{ns:xC}(h:bQ K H a (ns.map V.int)):Dp K H (.ref a) (.list (ns.map Ce)):=.lst h (ME ns)
theorem Ends.none(e:Tw.Ends ρ)(n:Nat):Tw.Ends (gQ ρ n ab):=Tw.Ends.put e λr q=>by cases q
inductive AO(t:eP)(vs:V2)(H:Hp)(Q:VK)(E:XK):Prop
 |mk(i hd:ao)(n:Nat)(jF:List (Option Int))(ro:Role)(at_:V9)(ρ:Nat->Option xC)(_:vs=[.ref i,nI n,.ref hd])(_:H hd=aa (.lst (jF.map vV)))(_:ro hd= .ln)(_:Cb t H ro i at_ ρ)(_:Tw.Ends ρ)(_:n<=200)(_:jF.length<=1000)(_:∀H' ro',Cb t H' ro' i at_ (gQ ρ n (rH jF n))->Kp (Js i) H ro H' ro'->Q .iy H')
theorem ox(T:Txt K mg t):(3<*74) ["self","number","had"] (AO t):=by
 refine T.m.G74.F.ok2 ["self","number","had","row"] ?_;obtain⟨i,hd,n,jF,ro,at_,ρ,rfl,hh,JK,hI,hE,hn,hv,k⟩;refine⟨_,(ap (cv (cZ (pv 0) T.eC T.m.G73.me (pB T) (hr.mono dk) T.m.G73.b .nil dD (ah (pv 1) ax)))
  (aH (de (bR xg ou (pv 2) (by with_unfolding_all rfl)) (ap (bM (i:=3) nd (fY rL (pv 2) (cn (ah (pv 1) ax))))
  (ap (w9 hu (bb (pv 0) Z) (pv 1) (pv 3) Z)
  (aH (cv (jK bp CA PySem.F.type_list_insert NL (bb (pv 0) Z) (ah (j9 (pQ T) (hr.mono dk) Z T.f.G71 (ah (bb (pv 0) Z) (ah (pv 3) ax))) (ah (pv 3) ax))))))) bS))),?_⟩
 obtain⟨dx0,A0,R0,D0,kvs0,ras0,rows0,X0⟩:=id hI;have im:Js i .ln:=⟨(by intro q;cases q),(by intro q;cases q)⟩;refine⟨_,Z,_,_,_,Z,X0.obj,Z,_,Z,i,n,ro,at_,ρ,Z,hI,hE,λH1 OO k1=>?_⟩;have Yq:H1 hd=aa (.lst (jF.map vV)):=(k1 _ _ hh (by rw[JK];exact im)).1;refine⟨_,Z,_,_,Z,.inl (bQ.of Yq),Z,N9 _,_,Z,?_⟩;rcases Bv jF with⟨hm,EE⟩|⟨l,rfl,hm⟩
 ·refine TR (by rw[BE,aI EE]) ?_;refine k H1 ro ?_ k1;have:rH jF n=ab:=by unfold rH;rw[hm];rfl
  rw[this];exact OO
 ·refine TQ (by rw[BE,ay (by simp)]) ?_;have IP:rH (l.map aa) n=aa (l++[(n:Int)]):=by unfold rH;rw[hm];rfl
  rw[IP]at k;have K0:(l.map aa).map vV=l.map V.int:=by rw[bv];rfl
  rw[K0]at Yq;obtain⟨dx,A,R,D,kvs,re,rows,X⟩:=OO;refine⟨_,Z,_,Z,(by show 1<=aE;decide),λq hq=>⟨hd,q,l.map V.int,_,Z,Z,?_,ak,?_,λp hp=>?_⟩⟩
  ·rw[aZ (aL Yq hq)];exact Yq
  ·rw[af];rw[af]at hv;exact aB (j8 hv 1) dk
  have s3:a7 H1 (upd (upd H1 q (.lst [nI n])) p (.lst (l.map V.int++[nI n]))):=(a7.upd hq).up hp;have fp:H1 p=ab:=(a7.upd hq).free hp;generalize hH3:upd (upd H1 q (.lst [nI n])) p (.lst (l.map V.int++[nI n]))=H3 at s3;have GY:IL H3 p (l++[(n:Int)]):=by
   rw[<-hH3];show upd _ _ _ _=_;rw[ak,bz];rfl
  have iD:i≠D:=lh X.obj X.zS (by intro q;cases q);have iR:i≠R:=lh X.obj X.rws (by intro q;cases q);have RD:R≠D:=lh X.rws X.zS (by intro q;cases q);have pR:p≠R:=(aL X.rws fp).symm;have pD:p≠D:=(aL X.zS fp).symm;have k3:Kp (λ_=>True) H1 ro H3 (i8 ro p .ln):=Kp.fresh s3 fp;have X3:=X.kp k3 trivial trivial trivial;have hE1:=Ends.none hE n;have hb:∀m r',gQ ρ n ab m=aa r'->m<=200:=λm r' e'=>by
   have:=X.all m r' e';obtain⟨v',EB⟩:=iH.mp this;obtain⟨n2,_,_,K1,_,_,_,my⟩:=X.has _ _ EB;injection K1 with K1
   lia
  have Mp:kvs.length<=201:=Ew X.nd 200 λq hq=>by
   cases e:eY kvs q with
   |none=>exact absurd hq (tM e)
   |some v'=>
    obtain⟨n2,_,_,K1,_,_,_,my⟩:=X.has _ _ e;exact⟨n2,K1,my⟩
  refine⟨_,Z,_,Z,_,_,_,_,_,Z,X3.obj,T.eC,T.oz,Z,_,Z,_,_,Z,GA.k (k:=.inl (n:Int)) X3.zS (aX Mp dk),?_⟩;have k4:Kp (· ≠.pf i) H3 (i8 ro p .ln) (upd H3 D (.dK (putK kvs (.inl (n:Int)) (.ref p)))) (i8 ro p .ln):=Kp.put X3.rD;have Ux:(upd H3 D (.dK (putK kvs (.inl (n:Int)) (.ref p)))) i=aa (.ins t.Index dx (Gj (.ref A) (.ref R) (.ref D))):=by rw[aZ iD];exact X3.obj
  have ad9:(upd H3 D (.dK (putK kvs (.inl (n:Int)) (.ref p)))) R=aa (.lst (re.map V.ref)):=by rw[aZ RD];exact X3.rws
  have Gd:IL (upd H3 D (.dK (putK kvs (.inl (n:Int)) (.ref p)))) p (l++[(n:Int)]):=by
   show upd _ _ _ _=_;rw[aZ pD];exact GY
  have hP4:ci (IL (upd H3 D (.dK (putK kvs (.inl (n:Int)) (.ref p))))) re rows:=dI (λ_ _ z=>(z.kp k4 (by intro q;cases q)).1) X3.pd;have c6:=dY X.pd;have VG:=qR X.Lj hE1 hb;refine⟨_,Z,_,_,_,_,_,Z,Ux,T.eC,T.fg,Z,.inl ⟨Z,_,bQ.of ad9⟩,_,Z,_,_,_,_,_,Z,Ux,T.eC,T.fg,Z,_,Z,R,p,rows,l++[(n:Int)],Z,⟨re,ad9,hP4⟩,Gd,X.Lj.OG,_,Z,R,_,Tw.cnt rows (l++[(n:Int)]),_,Z,Z,ad9,?_,?_,?_⟩
  ·rw[af,c6];exact Lh _ _
  ·rw[af,c6];lia
  have k5:Kp (· ≠.rows i) (upd H3 D (.dK (putK kvs (.inl (n:Int)) (.ref p)))) (i8 ro p .ln) (upd (upd H3 D (.dK (putK kvs (.inl (n:Int)) (.ref p)))) R (.lst ((re.map V.ref).take (Tw.cnt rows (l++[(n:Int)]))++.ref p::(re.map V.ref).drop (Tw.cnt rows (l++[(n:Int)]))))) (i8 ro p .ln):=Kp.put X3.rR;have kk:Kp (Js i) H3 (i8 ro p .ln) _ (i8 ro p .ln):=(k4.mono λx (q:Js i x)=>q.2).trans (k5.mono λx (q:Js i x)=>q.1);have Gf:gQ ρ n ab n=ab:=by unfold gQ;rw[aC Z]
  have xr:=X.Lj.new hE1 (p:=l) Gf;refine k _ (i8 ro p .ln) ⟨dx,A,R,D,putK kvs (.inl (n:Int)) (.ref p),re.take (Tw.cnt rows (l++[(n:Int)]))++p::re.drop (Tw.cnt rows (l++[(n:Int)])),rows.take (Tw.cnt rows (l++[(n:Int)]))++(l++[(n:Int)])::rows.drop (Tw.cnt rows (l++[(n:Int)])),?_⟩ ((k1.trans (k3.mono λ_ _=>trivial)).trans kk);have ZS:IM _ (i8 ro p .ln) p (l++[(n:Int)]):=(show IM H3 (i8 ro p .ln) p (l++[(n:Int)])from⟨GY,fm⟩).kp kk im;refine⟨by rw[aZ iR];exact Ux,X3.ri,X3.RK.kp kk im,?_,X3.rR,?_,?_,?_,X3.rD,F6 _ X.nd,?_,?_⟩
  ·rw[ak,bz,bC,k_,gn]
  ·have OJ:=dI (λ_ _ z=>z.kp kk im) X3.pd;exact t9 (FR _ OJ) (.cons ZS (FS _ OJ))
  ·rw[MK X.Lj.OG xr];have:=X.Lj.put (r:=l++[(n:Int)]) Gf;rw[HU]at this;exact this
  ·rw[aZ (a8 RD),ak]
  ·intro q v' EB;rw[n9]at EB;split at EB
   ·rename_i NT
    cases EB;exact⟨n,p,l++[(n:Int)],NT,Z,ZS,by unfold gQ;rw[aC Z],hn⟩
   ·rename_i iQ;obtain⟨n2,a2,r2,e1,e2,e3,e4,e5⟩:=X3.has q v' EB;refine⟨n2,a2,r2,e1,e2,e3.kp kk im,?_,e5⟩;unfold gQ at e4 ⊢;have adt:n2≠n:=λz=>iQ (by rw[e1,z]);rw[aw adt]at e4 ⊢;exact e4
  ·intro m r' e';rw[n9];split
   ·rfl
   ·rename_i iQ;unfold gQ at e';rw[aw (λz=>iQ (by rw[z]))]at e';refine X.all m r' ?_;unfold gQ;rw[aw (λz=>iQ (by rw[z]))];exact e'
theorem Ja(ns ms:xC):oO (.list (ns.map Ce)) (.list (ms.map Ce))=decide (ns=ms):=by
 simp only[oO];exact PySem.W.ked_eqvAll ns ms
theorem Wf{α:Type}{p:α->Bool}{l:List α}{c e:Nat}(VN:c<=e)(adX:e<=l.length)(k7:∀(j:Nat) x,c<=j->j<e->l[j]? =aa x->p x=ac)(Q9:∀x,l[e]? =aa x->p x=ae):(l.drop c).takeWhile p=(l.take e).drop c:=by
 have h1:l.drop c=(l.take e).drop c++l.drop e:=by
  conv=>lhs;rw[<-g? e l]
  rw[List.drop_append_of_le_length (by rw[ck];lia)]
 rw[h1,List.takeWhile_append_of_pos]
 ·have h2:(l.drop e).takeWhile p=[]:=by
   cases q:l.drop e with
   |nil=>rfl
   |cons x r=>
    have:l[e]? =aa x:=by
     have:=congrArg (·[0]?) q;simpa using this
    rw[eu,Q9 x this];rfl
  rw[h2,eQ]
 ·intro x hx;obtain⟨j,hj,rfl⟩:=vg.mp hx;have adM:j<e - c:=by
   have:((l.take e).drop c).length=e - c:=by rw[gj,ck];lia
   lia
  refine k7 (c+j) _ om om ?_;rw[List.getElem_drop,O8,aR]
inductive vQ(t:eP)(vs:V2)(H:Hp)(Q:VK)(E:XK):Prop
 |mk(i f:ao)(ro:Role)(at_:V9)(ρ:Nat->Option xC)(x:xC)(_:vs=[.ref i,.ref f])(_:Cb t H ro i at_ ρ)(_:IL H f x)(_:∀H' p rows,a7 H H'->H p=ab->Tw.Canon ρ rows->LL H' p (yG rows x)->Q (.ref p) H')
theorem v0(T:Txt K mg t):(2<*75) ["self","front"] (vQ t):=by
 refine T.m.G75.F.ok2 ["self","front","start","end"] ?_;obtain⟨i,f,ro,at_,ρ,x,rfl,hI,hf,k⟩;refine⟨_,(ap (bM (i:=2) nd (j9 (pQ T) (hr.mono dk) Z T.f.G71 (ah (bb (pv 0) Z) (ah (pv 1) ax))))
  (ap (bM (i:=3) nd (pv 2))
  (ap (qy bY (PW.pt (ym (bR Bh (pv 3) (bF bq Z T.len a9 (ah (bb (pv 0) Z) ax)) (bU _)) (uJ (bR (Bi hr.units) (iM lP (cu bP (bb (pv 0) Z) (pv 3) (λ_ _=>rfl)) ph (gZ (bF bq Z T.len a9 (ah (pv 1) ax)))) (pv 1) (bU _)))))
  (aH (WF (i:=3) nd Z (bi Z) aN W6)))
  (aH (bo (iM lP (bb (pv 0) Z) (gZ (pv 2)) (gZ (pv 3)))))))),?_⟩
 obtain⟨dx,A0,R,D,kvs,re,rows,X⟩:=id hI;have KZ:ci (IL H) re rows:=dI (λ_ _ z=>z.1) X.pd;have c6:=dY X.pd;have hc:=Lh rows x;refine⟨_,Z,_,_,_,_,_,Z,X.obj,T.eC,T.fg,Z,_,Z,R,f,rows,x,Z,⟨re,X.rws,KZ⟩,hf,X.Lj.OG,_,Z,?_⟩;refine⟨λm σ H'=>∃e:Nat,m=rows.length - e/\σ=[aa (.ref i),aa (.ref f),aa (nI (Tw.cnt rows x)),aa (nI e)]/\a7 H H'/\Tw.cnt rows x<=e/\e<=rows.length/\∀(j:Nat) r,Tw.cnt rows x<=j->j<e->rows[j]? =aa r->(r.take x.length==x)=ac,
  ⟨_,Tw.cnt rows x,Z,Z,a7.refl _,aS _,hc,λj r h1 h2=>by lia⟩,?_⟩
 rintro m σ H1 ⟨e,rfl,rfl,s1,h1,h2,h3⟩;have hO:=s1 _ _ X.obj;have hR:=s1 _ _ X.rws;have hf1:=s1 _ _ hf;have done:∀H2,a7 H H2->(∀r,rows[e]? =aa r->(r.take x.length==x)=ae)->∀p,H2 p=ab->Q (.ref p) (upd H2 p (.lst (qP (re.map V.ref) (aa (Tw.cnt rows x:Nat)) (aa (e:Nat))))):=λH2 s2 he p hp=>by
  refine k _ p rows (s2.up hp) (s2.free hp) X.Lj ⟨(re.take e).drop (Tw.cnt rows x),?_,?_⟩
  ·rw[ak,xD,gn,k_]
  ·unfold yG;rw[Wf h1 h2 h3 he];exact FS _ (FR _ (dI (λ_ _ z=>z.same (s2.up hp)) KZ))
 refine⟨_,Z,_,Z,_,_,_,_,_,Z,hO,T.eC,T.fg,Z,_,_,Z,.inl (bQ.of hR),_,_,Z,Z,_,Z,?_⟩;by_cases gO:e<rows.length
 ·rw[aI (by rw[af,c6];lia)];obtain⟨ra,Cj,ZR⟩:=Ku KZ (i:=e) (b:=rows[e]) (by simp[gO]);have Mo:=ZR.same s1;refine cI ⟨_,Z,_,_,_,_,_,Z,hO,T.eC,T.fg,Z,_,Z,_,_,_,.ref ra,Z,Z,bQ.of hR,at_of Z (by rw[aA,Cj];rfl),_,Z,_,_,Z,.inl (bQ.of hf1),_,Z,_,_,Z,bQ.of Mo,λp hp=>?_⟩;have Xk:(upd H1 p (.lst (qP (rows[e].map V.int) ab (aa ((x.map V.int).length:Nat))))) p=aa (.lst ((rows[e].take x.length).map V.int)):=by
   rw[ak,RG,af,k_]
  refine⟨_,Z,_,_,Dp.ints (bQ.of Xk),Dp.ints (bQ.of (a7.upd hp _ _ hf1)),lI _,lI _,_,Z,?_⟩;rw[Ja];by_cases he:rows[e].take x.length=x
  ·rw[aI he];refine cI ⟨_,λ_ _ h=>h,_,Z,_,_,Z,Z,_,?_,e+1,Z,Z,s1.up hp,om,om,λj r j1 j2 hj=>?_⟩
   ·lia
   ·by_cases q:j<e
    ·exact h3 j r j1 q hj
    ·obtain rfl:j=e:=by lia
     rw[aR gO]at hj
     cases hj;exact beq_iff_eq.mpr he
  ·rw[ay he];have s2:=s1.up (o:=(.lst (qP (rows[e].map V.int) ab (aa ((x.map V.int).length:Nat))))) hp;refine cy ⟨_,Z,_,_,_,_,_,Z,s2 _ _ X.obj,T.eC,T.fg,Z,_,Z,_,Z,_,Z,_,Z,_,_,Z,bQ.of (s2 _ _ X.rws),λp2 l9=>?_⟩;refine done _ s2 (λr um=>?_) p2 l9;rw[aR gO]at um
   cases um;exact beq_eq_false_iff_ne.mpr he
 ·rw[ay (by rw[af,c6];lia)];refine cy (cy ⟨_,Z,_,_,_,_,_,Z,hO,T.eC,T.fg,Z,_,Z,_,Z,_,Z,_,Z,_,_,Z,bQ.of hR,λp2 l9=>?_⟩);refine done _ s1 (λr um=>?_) p2 l9;rw[cV om]at um
  cases um
end Tp
namespace Ts
open PySem PyProof.Rows Tw
def rank(as:List ao)(row:ao->xC)(a:ao):Nat:=as.countP λc=>dQ (row c) (row a)
theorem EQ{α:Type}{p q:α->Bool}:∀{l:List α}{x:α},(∀y,p y=ac->q y=ac)->x∈l->p x=ae->q x=ac->l.countP p<l.countP q
 |y::l,x,h,hx,h1,h2=>by
  have mono:l.countP p<=l.countP q:=J3 λy _=>h y;rw[R?,R?];rcases aF.mp hx with rfl|hx
  ·rw[h1,h2];simp only[bA,↓reduceIte];lia
  ·have:=EQ h hx h1 h2;by_cases c:p y=ac
   ·rw[aC c,aC (h y c)];lia
   ·rw[aw c];lia
theorem LR{as:List ao}{row:ao->xC}{a b:ao}(ha:a∈as):decide (rank as row a<rank as row b)=dQ (row a) (row b):=by
 cases e:dQ (row a) (row b)with
 |true=>
  refine aI (EQ (x:=a) (λy hy=>lq hy e) ha (nJ _) e)
 |false=>
  refine ay (pN.mpr (J3 λy _ hy=>?_))
  cases e2:dQ (row b) (row a)with
  |true=>exact lq hy e2
  |false=>rw[nU e e2];exact hy
variable{prog:ba}{w:World}{A:cb}{E:ai->aq->Prop}{s:aq}
theorem T8(hu:A.units<mS)(ha:s.heap.IsList a xs)(hb:s.heap.IsList b ys)(hi:f9 xs.toList ns)(hj:f9 ys.toList ms)(h:Q (dQ ns ms) s):
  aU (bg prog w) A (xW Cu (.ref a) (.ref b)) Q E s:=by
 obtain⟨⟨c1,d1,t1,l1⟩,ho,hc,n,hd⟩:=id ha;obtain⟨⟨c2,d2,t2,l2⟩,Yl,Xl,n2,aaf⟩:=id hb;simp only at hc hd Xl aaf;subst hc hd Xl aaf;rw[keyLt'_oneType,oneLt'_eq,aC Z];refine ag (wpAny_cRoomFor hu ?_);refine ag (wpAny_callSpecialIfBound?_slot (T:="list") ⟨_,ho,Z⟩ tI (jB tI ⟨_,ho,Z⟩ GL (Fc _ _) (Tp.Md a b xs ys n n2 d1 d2 l1 l2 ns ms hi hj) ⟨ho,Yl,?_⟩));rw[Tp.F8];exact eL h
theorem Tr :∀{vs:X9},vs.Perm (as.map bn)->∃qi:List ao,qi.Perm as/\vs=qi.map bn:=λp=>lR p as rfl
theorem Bw{a:ao}{as:List ao}{row:ao->xC}{n:Nat}{P:Fin->aq->Prop}(hu:A.units<mS)(ho:s.heap.get? a=aa (mE "list" (as.map bn).toArray n))(adw:a∉as)(c6:as.length<=10000)
 (IP:∀b∈as,∃xs,s.heap.IsList b xs/\f9 xs.toList (row b))
 (h:∀qi:List ao,qi.Perm as->qi.Pairwise (λx y=>dQ (row y) (row x)=ae)->P (.done (.ret .none)) {s with heap:=sortedHeap s.heap a (as.map bn) (qi.map bn).toArray}):
  aU (bg prog w) A (gS.«list.sort» ⟨[.ref a],[]⟩) P E s:=by
 have hsl:(10000:Nat)<=aE:=dk;have hL:(as.map bn).length<=aE:=by rw[af];lia
 have ad? :=hL;rw[oW]at ad?;have DE:a<s.heap.objs.size:=aW ho;rw[list_sort_plain];refine ag (listItems_at ho Z (ag (MY ho Z ?_)));obtain⟨e1,g1⟩:∃e1,(s.heap.update a (j6 λ_=>#[])).get? a=aa (mE "list" #[] e1):=⟨_,get?_update_seq ho (λ_=>#[])⟩;refine ag (SD g1 Z (ag (wpAny_newTuple (ag (MW (fu ?_))))));have k6:∀b o,b≠a->s.heap.get? b=aa o->(si s.heap a (as.map bn)).get? b=aa o:=λb o hb e=>
  az _ (az _ ((M? _ _ _ _ hb).trans e))
 have g6:(si s.heap a (as.map bn)).get? a=aa (mE "list" #[] e1):=az _ (az _ g1);show aU (bg prog w) A _ P E {s with heap:=si s.heap a (as.map bn)};have fin:∀(MP:Array ww),MP.Perm (sV (as.map bn))->(∀(i j:Nat)(x y:ww),i<=j->MP[i]? =aa x->MP[j]? =aa y->∀b c:ao,x.2=bn b->y.2=bn c->dQ (row c) (row b)=ae)->
   P (.done (.ret .none)) {s with heap:=sortedHeap s.heap a (as.map bn) (MP.map (·.2))}:=by
  intro MP hp hs;have p1:(MP.toList.map (·.2)).Perm (as.map bn):=by
   have:=(CH.mp hp).map (·.2);rw[JR,List.map_snd_zip (aS _)]at this;exact this
  obtain⟨qi,q,e⟩:=Tr p1;have e2:MP.map (·.2)=(qi.map bn).toArray:=by rw[<-e,<-Array.toList_map,u0]
  rw[e2];refine h qi q (kz.mpr λi j hi hj xu=>?_);have at':∀k (hk:k<qi.length),∃x,MP[k]? =aa x/\x.2= .ref qi[k]:=by
   intro k hk;have h1:(MP.toList.map (·.2))[k]? =aa (.ref qi[k]):=by rw[e,aA,aR hk];rfl
   rw[aA,cU]at h1
   cases e3:MP[k]? with
   |none=>rw[e3]at h1;cases h1
   |some x=>rw[e3]at h1;exact⟨x,Z,bN h1⟩
  obtain⟨x,hx,ex⟩:=at' i hi;obtain⟨y,hy,ey⟩:=at' j hj;exact hs i j x y (eX xu) hx hy _ _ ex ey
 have hsz:(as.map bn).toArray.size=as.length:=by simp
 dsimp only;by_cases h2:(as.map bn).toArray.size<2
 ·rw[aC h2,aC h2];refine ag (au ?_);rw[StateT.run_pure];refine ag (au ?_);dsimp only;refine ag (SD g6 Z ?_);refine ag (MY g6 Z ?_ (hsz2:=by rw[S9];show(sV (as.map bn)).size<=_;rw[Ct,oW];lia));rw[bne_self_eq_false];simp only[bA,if_false];refine au (fin (sV (as.map bn)) (J6 _) λi j x y xu hx hy b c eb ec=>?_);have hj:j<2 - 1:=by
   have:=(o4.mp hy).1;rw[Ct,af]at this;rw[hsz]at h2;lia
  have:i=j:=om;subst this;rw[hx]at hy
  cases hy;rw[eb]at ec
  cases ec;exact nJ _
 ·rw[aw h2,aw h2];have VQ:2<=(as.map bn).length:=by rw[af];rw[hsz]at h2;lia
  have LP:∀b∈as,∃xs,(si s.heap a (as.map bn)).IsList b xs/\f9 xs.toList (row b):=by
   intro b hb;obtain⟨xs,⟨o,Ck,hc,m,hd⟩,hi⟩:=IP b hb;exact⟨xs,⟨o,k6 b o (λe=>adw (e▸hb)) Ck,hc,m,hd⟩,hi⟩
  refine ag (PySem.W.kas_kind (T:=.type "list") VQ (λv hv=>?_) dk dk ?_)
  ·obtain⟨b,hb,rfl⟩:=aV.mp hv;obtain⟨xs,⟨o,Ck,hc,m,hd⟩,_⟩:=LP b hb;rw[<-hc];exact(PySem.W.Looks.ld Ck).andThen .now
  generalize hN:(si s.heap a (as.map bn)).objs.size=N at*;have Sl:∀b∈as,GW N (λb=>if b∈as then aa (rank as row b)else ab) (.ref b)=aa (rank as row b):=by
   intro b hb;obtain⟨xs,⟨o,Ck,_⟩,_⟩:=LP b hb;have:=aW Ck;rw[hN]at this;unfold GW;dsimp only;rw[aC this,aC hb]
  have Z':∀v i,GW N (λb=>if b∈as then aa (rank as row b)else ab) v=aa i->∃b,b∈as/\v= .ref b/\i=rank as row b:=by
   intro v i e
   cases v
   case ref b=>
    unfold GW at e;dsimp only at e;by_cases c1:b<N
    ·rw[aC c1]at e;by_cases c2:b∈as
     ·rw[aC c2]at e;cases e;exact⟨b,c2,Z,Z⟩
     ·rw[aw c2]at e;cases e
    ·rw[aw c1]at e;cases e
   all_goals cases e
  refine ag (f? (Ny (n:=N) (rk:=λb=>if b∈as then aa (rank as row b)else ab) (s:={s with heap:=si s.heap a (as.map bn)}) VQ (λv hv=>?_) (λx y i j hx hy=>?_)) ?_ λ_ _ e=>e)
  ·obtain⟨b,hb,rfl⟩:=aV.mp hv;exact⟨_,Sl b hb⟩
  ·obtain⟨b,hb,rfl,rfl⟩:=Z' x i hx;obtain⟨c,hc,rfl,rfl⟩:=Z' y j hy;obtain⟨xs,il,hi⟩:=LP b hb;obtain⟨ys,jl,hj⟩:=LP c hc;exact T8 hu il jl hi hj ⟨Z,(LR hb).symm⟩
  ·rintro⟨⟨⟩,tR⟩ s' ⟨rfl,hp,hf,hs⟩;dsimp only;refine ag (SD g6 Z ?_);refine ag (MY g6 Z ?_ (hsz2:=by refine aB (o3 ((S9 ..).trans (hp.size_eq.trans (Ct _)))) ?_;rw[oW];lia));rw[hf,bne_self_eq_false];simp only[bA,if_false];refine au (fin (wt tR) hp λi j x y xu hx hy b c eb ec=>?_);have hj:j<(sV (as.map bn)).size:=by rw[<-hp.size_eq];exact(o4.mp hy).1
   have ks:∀k (z:ww) d,(wt tR)[k]? =aa z->z.2= .ref d->d∈as/\KK (IC N (λb=>if b∈as then aa (rank as row b)else ab)) (wt tR) k=rank as row d:=by
    intro k z d hz ez;have hm:z∈(sV (as.map bn)).toList:=(CH.mp hp).mem_iff.mp (aP (by rw[cU];exact hz));rw[JR]at hm;obtain⟨e0,m0⟩:=mem_zip_self hm;obtain⟨d',Q?,e'⟩:=aV.mp m0;have ed:z.1= .ref d:=by rw[<-ez,e0]
    have:d'=d:=by rw[ed]at e';cases e';rfl
    subst this;refine⟨Q?,?_⟩;unfold KK;rw[hz];dsimp only;rw[ed,Sl d' Q?];rfl
   obtain⟨hb,kb⟩:=ks i x b hx eb;obtain⟨hc,kc⟩:=ks j y c hy ec;have t:=hs i j xu hj;rw[kb,kc]at t;have t':decide (rank as row c<rank as row b)=ae:=t;rw[LR hc]at t';exact t'
end Ts
namespace Tp
local macro_rules|`(tactic|obtain $p:rcasesPatMed)=>`(tactic|(intro nd fC A outer s H vs Q E hr hu h;obtain $p:rcasesPatMed:=h))
local macro_rules|`($a<*$b)=>`(FOk P w K mg base $a $b t)
local macro_rules|`(tactic|intros)=>`(tactic|intro pins s σ H Q I h)
open PySem PySem.Spec PyProof.Rows L2 Tw Ts
section
variable{α β γ:Type}{F:α->β->Prop}
theorem Es(keep:β->Bool)(g:α->γ):∀{l:List α}{m:List β},ci F l m->∃l':List α,l'.Sublist l/\ci F l' (m.filter keep)/\(l.zip m).filterMap (λx=>if keep x.2=ac then aa (g x.1)else ab)=l'.map g
 |_,_,.nil=>⟨[],List.Sublist.slnil,.nil,Z⟩
 |a::l,b::m,.cons h t=>by
  obtain⟨l',s,p,e⟩:=Es keep g t
  cases q:keep b with
  |true=>
   refine⟨a::l',s.cons₂ a,?_,?_⟩
   ·rw[bH,aC q];exact .cons h p
   ·show U' _ ((a,b)::l.zip m)=_;rw[c9];simp only[q,if_true];rw[e];rfl
  |false=>
   refine⟨l',s.cons a,?_,?_⟩
   ·rw[bH,q];exact p
   ·show U' _ ((a,b)::l.zip m)=_;rw[c9];simp only[q];exact e
theorem Bc(g:α->γ):∀{l:List α}{m:List β},ci F l m->ci (λy x=>y=g x.1/\F x.1 x.2) (l.map g) (l.zip m)
 |_,_,.nil=>.nil
 |_::_,_::_,.cons h t=>.cons ⟨Z,h⟩ (Bc g t)
end
def zo:Tag->Prop:=λx=>x≠.cache/\x≠.xA/\x≠.entry
variable{P:ba}{w:br}{K:aj}{mg:bV->Option ai}{base:bO}{t:eP}
inductive vm(t:eP)(vs:V2)(H:Hp)(Q:VK)(E:XK):Prop
 |mk(ca st:ao)(ro:Role)(c:bw)(mB:List ao)(es:List dA)(_:vs=[.ref ca,.ref st])(_:DS t H ro ca c)(_:H st=aa (.lst (mB.map V.ref)))(_:ro st= .xA)(_:mB.Nodup)(_:ci (Gz t H ro) mB es)(_:es.length<=c.entries.length)(_:∀H',DS t H' ro ca {c with entries:=es,fallen:=c.fallen+(c.entries.length - es.length)}->Kp (· ≠.cache) H ro H' ro->Q .iy H')
theorem pT(T:Txt K mg t):(1<*5) ["self","staying"] (vm t):=by
 refine T.m.G5.F.ok2 ["self","staying"] ?_;obtain⟨ca,st,ro,c,mB,es,rfl,hC,uQ,rst,OK,hp,my,k⟩;refine⟨_,(ap (nQ (pv 0) (fY Kx (bF bq Z T.len a9 (ah (bb (pv 0) Z) ax)) (bF bq Z T.len a9 (ah (pv 1) ax))) yC)
  (aH (dM (pv 0) (pv 1) Z))),?_⟩
 obtain⟨dx,el,aen,X⟩:=hC;have abJ:=dY X.pd;have nn:=dY hp;have ne:st≠ca:=lh uQ X.obj (by intro q;cases q);refine⟨_,Z,_,_,_,_,_,Z,X.obj,T.cp,T.oB,Z,_,Z,_,_,_,_,_,Z,X.obj,T.cp,T.cT,Z,_,_,Z,.inl (bQ.of X.lst),_,Z,_,_,Z,.inl (bQ.of uQ),_,_,Z,Z,_,_,Z,Z,_,_,X.obj,(by show 8<1000;decide),_,Z,_,Z,_,_,_,_,Z,ak,T.cp,T.cT,(by show 8<1000;decide),?_⟩;rw[af,af];have adq:(c.fallen:Int)+((aen.length:Int) - (mB.length:Int))=((c.fallen+(c.entries.length - es.length):Nat):Int):=om;have kk:∀o1 o2,Kp (· ≠.cache) H ro (upd (upd H ca o1) ca o2) ro:=λo1 o2=>(Kp.put X.rc).trans (Kp.put X.rc);refine k _ ⟨dx,st,mB,?_,X.rc,?_,rst,OK,?_⟩ (kk _ _)
 ·rw[ak,adq];rfl
 ·rw[aZ ne,aZ ne];exact uQ
 ·exact dI (λ_ _ z=>z.kp (kk _ _) (by intro q;cases q) (by intro q;cases q)) hp
inductive Fp(t:eP)(keep:dA->Bool)(ca:ao)(H:Hp)(Q:VK):Prop
 |mk(ro:Role)(c:bw)(_:DS t H ro ca c)(_:xK c)(_:∀H' ro',DS t H' ro' ca (lv c keep)->Kp zo H ro H' ro'->Q .iy H')
theorem Fm(X:aeC t H ro ca dx el mB c)(hD:H D=ab)(s:a7 H H')(e:H' D=aa (.lst ((mB.zip c.entries).filterMap λx=>if keep x.2=ac then aa (V.ref x.1)else ab)))
 (k:∀YO ro',DS t YO ro' ca (lv c keep)->Kp zo H ro YO ro'->Q .iy YO):vm t [.ref ca,.ref D] H' Q E:=by
 obtain⟨aeo,hs,hp,he⟩:=Es keep V.ref X.pd;rw[he]at e;have k1:Kp (λ_=>True) H ro H' (i8 ro D .xA):=Kp.fresh s hD;refine⟨ca,D,i8 ro D .xA,c,aeo,c.entries.filter keep,Z,DS.kp ⟨dx,el,mB,X⟩ k1 trivial trivial trivial trivial,e,fm,hs.nodup X.nd,dI (λ_ _ z=>z.kp k1 trivial trivial) hp,bx _ _,λYO c'' k2=>k YO _ c'' ?_⟩;exact(k1.mono λ_ _=>trivial).trans (k2.mono λx q=>q.1)
theorem My(h:Gz t H ro a e)(ok:aeR e):∃dx q A qq dq N Cs Ss As,H a=aa (.ins t.Entry dx (Gk (.ref q) (.ref A) (nI e.made) (nI e.used)))/\eN e.asked=aa qq/\QA t H ro q dq N Cs Ss As e.asked qq/\IM H ro A (nz e.answer)/\e.attrs=gX qq/\e.places=decide (0<=qq.place):=by
 obtain⟨dx,q,A,qq,h1,_,h3,⟨dq,N,Cs,Ss,As,h4⟩,h5⟩:=h;obtain⟨q2,e1,e2,e3⟩:=ok.qu;rw[h3]at e1
 cases e1;exact⟨dx,q,A,qq,dq,N,Cs,Ss,As,h1,h3,h4,h5,e2,e3⟩
theorem Ae{α β:Type}{F:α->β->Prop}:∀{l:List α}{m:List β},ci F l m->∀x∈l.zip m,x.2∈m
 |_,_,.nil,x,h=>by simp at h
 |_::_,_::_,.cons _ t,x,h=>by
  rcases aF.mp h with rfl|h
  ·simp
  ·exact aD _ (Ae t x h)
inductive og(t:eP)(vs:V2)(H:Hp)(Q:VK)(E:XK):Prop
 |mk(ca:ao)(a:Nat)(_:vs=[.ref ca,nI a])(_:Fp t (λe=>!e.attrs.contains a) ca H Q)
theorem jL(T:Txt K mg t):(2<*6) ["self","attribute"] (og t):=by
 refine T.m.G6.F.ok2 ["self","attribute","entry"] ?_;obtain⟨ca,a,rfl,ro,c,hC,ok,k⟩;refine⟨_,(aH (cv (cZ (pv 0) T.cp T.m.G5.me (pT T) (hr.mono dk) T.m.G5.b .nil dD (ah (mr (own:=[("entry",2)]) Z nd (dH (bb (pv 0) Z)) (eE (N:=["self","attribute","entry"]) (sc:=cj j3) dK) (λ_ _ _ _ _=>cJ (i:=2) nd Z (bi Z)) (λ_ _ _ _ _=>nG (bR (Dc (K:=K) Z) (pv 1) (nH (K:=K) Z (nH (K:=K) Z (pv 2) Z) Z) (by with_unfolding_all rfl))) (λ_ _ _ _ _=>(pv 2))) ax)))),?_⟩;obtain⟨dx,el,mB,X⟩:=hC;have c6:=dY X.pd;have IU:=ok.len;have BG:=ok.most;refine⟨_,Z,_,_,_,Z,X.obj,Z,_,Z,_,_,_,_,_,Z,X.obj,T.cp,T.cT,Z,el,Z,⟨_,bQ.of X.lst⟩,λD hD=>F9 (K:=K) (l:=mB.zip c.entries) (Ri:=λy x=>y=V.ref x.1/\Gz t H ro x.1 x.2) (λx=>if(!x.2.attrs.contains a)=ac then aa (V.ref x.1)else ab) hD (bQ.of X.lst) (Bc _ X.pd) ?_ ?_ ?_⟩
 ·rw[fk];exact aX (kx _ _) (aX (aB IU BG) dk)
 ·intro i x y H2 Kt Kf hx hy hR s2 ht hf;obtain⟨rfl,hE⟩:=hR;obtain⟨La,q,A2,qq,dq,N,Cs,Ss,As,h1,h3,h4,h5,e2,e3⟩:=My hE (ok.ent _ (Ae X.pd _ (aP hx)));refine⟨Z,_,Z,_,Z,_,_,_,_,_,Z,s2 _ _ h1,T.jU,T.iO,Z,_,_,_,_,_,Z,s2 _ _ h4.obj,T.cO,T.mx,Z,_,_,Z,.inl (bQ.of (s2 _ _ h4.aeJ.1)),Z,mO _,_,Z,?_⟩;have e:DA (nI a) ((nz (gX qq)).map V.int)=x.2.attrs.contains a:=by rw[e2];exact uk _ _
  rw[<-e]at ht hf
  cases hb:DA (nI a) ((nz (gX qq)).map V.int)with
  |true=>
   rw[hb]at hf;exact cy (hf _ Z (a7.refl _))
  |false=>
   rw[hb]at ht;exact cI ⟨_,Z,ht _ _ Z (a7.refl _)⟩
 ·intro H' s' e';exact Fm X hD s' e' k
inductive tT(t:eP)(vs:V2)(H:Hp)(Q:VK)(E:XK):Prop
 |mk(ca:ao)(_:vs=[.ref ca])(_:Fp t (λe=>!e.places) ca H Q)
theorem t?(T:Txt K mg t):(2<*7) ["self"] (tT t):=by
 refine T.m.G7.F.ok2 ["self","entry"] ?_;obtain⟨ca,rfl,ro,c,hC,ok,k⟩;refine⟨_,(aH (cv (cZ (pv 0) T.cp T.m.G5.me (pT T) (hr.mono dk) T.m.G5.b .nil dD (ah (mr (own:=[("entry",1)]) Z nd (dH (bb (pv 0) Z)) (eE (N:=["self","entry"]) (sc:=cj ny) dK) (λ_ _ _ _ _=>cJ (i:=1) nd Z (bi Z)) (λ_ _ _ _ _=>nG (bR fZ (nH (K:=K) Z (nH (K:=K) Z (pv 1) Z) Z) (jJ gU aN) (bU _))) (λ_ _ _ _ _=>(pv 1))) ax)))),?_⟩;obtain⟨dx,el,mB,X⟩:=hC;have c6:=dY X.pd;have IU:=ok.len;have BG:=ok.most;refine⟨_,Z,_,_,_,Z,X.obj,Z,_,Z,_,_,_,_,_,Z,X.obj,T.cp,T.cT,Z,el,Z,⟨_,bQ.of X.lst⟩,λD hD=>F9 (K:=K) (l:=mB.zip c.entries) (Ri:=λy x=>y=V.ref x.1/\Gz t H ro x.1 x.2) (λx=>if(!x.2.places)=ac then aa (V.ref x.1)else ab) hD (bQ.of X.lst) (Bc _ X.pd) ?_ ?_ ?_⟩
 ·rw[fk];exact aX (kx _ _) (aX (aB IU BG) dk)
 ·intro i x y H2 Kt Kf hx hy hR s2 ht hf;obtain⟨rfl,hE⟩:=hR;obtain⟨La,q,A2,qq,dq,N,Cs,Ss,As,h1,h3,h4,h5,e2,e3⟩:=My hE (ok.ent _ (Ae X.pd _ (aP hx)));refine⟨Z,_,Z,_,_,_,_,_,Z,s2 _ _ h1,T.jU,T.iO,Z,_,_,_,_,_,Z,s2 _ _ h4.obj,T.cO,T.iN,Z,_,Z,Z,_,Z,?_⟩;have hl:=(lQ h3).2;rw[e3]at ht hf;by_cases hb:qq.place= -1
  ·rw[aI (by rw[hb])];exact cI ⟨_,Z,ht _ _ (by rw[hb];rfl) (a7.refl _)⟩
  ·rw[ay (λz=>hb (V.int.inj z))];refine cy (hf _ ?_ (a7.refl _));rw[aI om];rfl
 ·intro H' s' e';exact Fm X hD s' e' k
inductive qr(t:eP)(vs:V2)(H:Hp)(Q:VK)(E:XK):Prop
 |mk(ca:ao)(_:vs=[.ref ca])(_:Fp t (λ_=>ae) ca H Q)
theorem lg(T:Txt K mg t):(2<*8) ["self"] (qr t):=by
 refine T.m.G8.F.ok2 ["self"] ?_;obtain⟨ca,rfl,ro,c,hC,ok,k⟩;refine⟨_,(aH (cv (cZ (pv 0) T.cp T.m.G5.me (pT T) (hr.mono dk) T.m.G5.b .nil dD (ah (cn ax) ax)))),?_⟩;obtain⟨dx,el,mB,X⟩:=hC;refine⟨_,Z,_,_,_,Z,X.obj,Z,(by show 0<=aE;decide),λD hD=>Fm X hD (a7.upd hD) ?_ k⟩;rw[ak];have:(mB.zip c.entries).filterMap (λx=>if(λ_=>ae) x.2=ac then aa (V.ref x.1)else ab)=[]:=by
  induction mB.zip c.entries with
  |nil=>rfl
  |cons x l ih=>rw[c9];exact ih
 rw[this]
theorem Jo(h:c.rule=0)(e:dA):k8 c e=e.made:=by unfold k8;rw[aC h]
theorem RQ(h:c.rule=1)(e:dA):k8 c e=e.used:=by unfold k8;rw[aw (by lia)]
theorem zg(f:dA->Nat):∀(l:List dA)(m:Nat),(∃x∈l,f x=m)->(∀x∈l,m<=f x)->∃(j:Nat)(e:dA),l[j]? =aa e/\f e=m/\∀(k:Nat) x,k<j->l[k]? =aa x->m<f x
 |[],_,h,_=>by obtain⟨x,h,_⟩:=h;simp at h
 |a::l,m,h,my=>by
  by_cases ha:f a=m
  ·exact⟨0,a,Z,ha,λk x hk=>by lia⟩
  ·obtain⟨j,e,h1,h2,h3⟩:=zg f l m (by
    obtain⟨x,hx,e⟩:=h;rcases aF.mp hx with rfl|hx
    ·exact absurd e ha
    ·exact⟨x,hx,e⟩) λx hx=>my x (aD _ hx)
   refine⟨j+1,e,h1,h2,λk x hk hx=>?_⟩
   cases k with
   |zero=>
    simp at hx;subst hx;have:=my a (by simp);lia
   |succ k=>exact h3 k x om hx
theorem xz(n:Int):JN (.int n) (.int n)=ac:=by simp[JN]
theorem BZ(h:n≠m):JN (.int n) (.int m)=ae:=by simp[JN,h]
inductive u6(t:eP)(vs:V2)(H:Hp)(Q:VK)(E:XK):Prop
 |mk(ca:ao)(ro:Role)(c:bw)(_:vs=[.ref ca])(_:DS t H ro ca c)(_:xK c)(_:¬c.entries.length<c.most)(_:c.most≠0)(_:∀H',DS t H' ro ca (h? c)->Kp zo H ro H' ro->Q .iy H')
theorem vc(T:Txt K mg t):(1<*4) ["self"] (u6 t):=by
 refine T.m.G4.F.ok2 ["self","first","times","entry"] ?_;obtain⟨ca,ro,c,rfl,hC,ok,Mr,hm0,k⟩;refine⟨_,(ap (bM (i:=1) nd aN)
  (ap (de (bR fZ (bb (pv 0) Z) aN (bU _)) (ap (qz (i:=2) (own:=[("entry",3)]) Z nd Z Z (by with_unfolding_all rfl) (dH (bb (pv 0) Z)) (eE (N:=["self","first","times","entry"]) (sc:=cj oh) dK) (λ_ _ _ _ _=>cJ (i:=3) nd Z (bi Z)) (λ_ _ _ _ _=>i9) (λ_ _ _ _ _=>(nH (K:=K) Z (pv 3) Z)))
  (aH (bM (i:=1) nd (jK bp qj DV Io (pv 2) (ah (bF (XJ Z) Z T.min boot_min (ah (pv 2) ax)) ax))))) bS)
  (ap (cv (jK bp mi mf Bs (bb (pv 0) Z) (ah (pv 1) ax)))
  (aH (nQ (pv 0) aN yC))))),?_⟩
 obtain⟨dx,el,mB,X⟩:=hC;have c6:=dY X.pd;have IU:=ok.len;have BG:=ok.most;have Zz:∀H1,a7 H H1->∀(j:Nat)(e:dA),c.entries[j]? =aa e->(∀x∈c.entries,k8 c e<=k8 c x)->(∀(k:Nat) x,k<j->c.entries[k]? =aa x->k8 c e<k8 c x)->
   ∃(l:ao)(xs:V2)(i:Int)(k:Nat)(y:V),V.ref el= .ref l/\[V.int (j:Int)]=[.int i]/\H1 l=aa (.lst xs)/\ -(2 ^ 63)<=i/\i<2 ^ 63/\E5 i xs.length=aa k/\xs[k]? =aa y/\
    DS t (upd (upd H1 l (.lst (xs.eraseIdx k))) ca (.ins t.Cache dx (pY {c with forgotten:=c.forgotten+1} el))) ro ca (h? c)/\Kp zo H ro (upd (upd H1 l (.lst (xs.eraseIdx k))) ca (.ins t.Cache dx (pY {c with forgotten:=c.forgotten+1} el))) ro/\(upd H1 l (.lst (xs.eraseIdx k))) ca=aa (.ins t.Cache dx (pY c el)):=λH1 s1 j e he my gO=>by
  obtain⟨ra,Cj,_⟩:=Ku X.pd he;have hj:j<mB.length:=(aY.mp Cj).1;have ne:ca≠el:=lh X.obj X.lst (by intro q;cases q);refine⟨el,mB.map V.ref,j,j,.ref ra,Z,Z,s1 _ _ X.lst,om,om,QP Z (by rw[af];exact hj),by rw[aA,Cj];rfl,?_⟩;have kk:∀o1 o2,Kp zo H ro (upd (upd H1 el o1) ca o2) ro:=λo1 o2=>((Kp.same (P:=zo) s1).trans ((Kp.put X.rl).mono λx (q:zo x)=>q.2.1)).trans ((Kp.put X.rc).mono λx (q:zo x)=>q.1);have k2:∀o1 o2,Kp (λx=>x≠.cache/\x≠.xA) H ro (upd (upd H1 el o1) ca o2) ro:=λo1 o2=>((Kp.same s1).trans ((Kp.put X.rl).mono λx q=>q.2)).trans ((Kp.put X.rc).mono λx q=>q.1);refine⟨?_,kk _ _,by rw[aZ ne];exact s1 _ _ X.obj⟩;rw[To ok Mr he my gO];refine⟨dx,el,mB.eraseIdx j,ak,X.rc,?_,X.rl,(J2 _ _).nodup X.nd,?_⟩
  ·rw[aZ (a8 ne),ak,qO]
  ·exact xb _ (dI (λ_ _ z=>z.kp (k2 _ _) ⟨(by intro q;cases q),(by intro q;cases q)⟩ ⟨(by intro q;cases q),(by intro q;cases q)⟩) X.pd)
 refine⟨_,Z,_,_,_,_,_,Z,X.obj,T.cp,T.xn,Z,Z,_,Z,?_⟩;by_cases Mo:c.rule=1
 ·rw[aI (by rw[Mo];rfl)];refine cI ⟨_,Z,_,_,_,_,_,Z,X.obj,T.cp,T.cT,Z,el,Z,⟨_,bQ.of X.lst⟩,λD hD=>mU (K:=K) (l:=mB.zip c.entries) (Ri:=λy x=>y=V.ref x.1/\Gz t H ro x.1 x.2) (λx=>nI x.2.used) hD (bQ.of X.lst) (Bc _ X.pd) ?_ ?_ ?_⟩
  ·rw[fk];exact aX (kx _ _) (aX (aB IU BG) dk)
  ·intro i x y H2 Kt hx hy hR s2 ht;obtain⟨rfl,La,q,A2,qq,h1,_⟩:=hR;exact⟨Z,_,Z,_,_,_,_,_,Z,s2 _ _ h1,T.jU,T.kQ,Z,ht _ (a7.refl _)⟩
  ·intro H' s' e';have K0:(mB.zip c.entries).map (λx=>nI x.2.used)=(nz (c.entries.map λe=>e.used)).map V.int:=by
    have:(mB.zip c.entries).map (λx=>x.2)=c.entries:=by rw[<-U8,Lv om]
    conv=>rhs;rw[<-this]
    rw[bv,bv,bv];rfl
   rw[K0]at e';refine⟨_,Z,.inl ⟨Z,_,bQ.of e'⟩,_,Z,D,nz (c.entries.map λe=>e.used),Z,bQ.of e',by rw[af,af];lia,λm hm my=>?_⟩;obtain⟨mn,rV,rfl⟩:=aV.mp hm;obtain⟨e0,K3,hmu⟩:=aV.mp rV;obtain⟨j,e,h1,h2,h3⟩:=zg (λe=>e.used) c.entries mn ⟨e0,K3,hmu⟩ λx hx=>by
    have:=my (x.used:Int) (aV.mpr ⟨x.used,aV.mpr ⟨x,hx,Z⟩,Z⟩);lia
   have Uw:∀x:dA,k8 c x=x.used:=RQ Mo;refine⟨D,(nz (c.entries.map λe=>e.used)).map V.int,.int (mn:Int),j,nI e.used,Z,Z,bQ.of e',Z,mO _,?_,?_,?_,?_⟩
   ·rw[aA,aA,aA,h1];rfl
   ·rw[h2];exact xz _
   ·intro m z' EC EA;rw[aA,aA,aA]at EA
    cases hq:c.entries[m]? with
    |none=>rw[hq]at EA;cases EA
    |some x=>
     rw[hq]at EA
     cases EA;have:mn<x.used:=h3 m x EC hq;exact BZ (n:=(x.used:Int)) (m:=(mn:Int)) om
   ·obtain⟨l,xs,i,k',y,q1,q2,q3,q4,q5,q6,q7,q8,q9,Zn⟩:=Zz H' s' j e h1 (λx hx=>by
     rw[Uw,Uw,h2];have:=my (x.used:Int) (aV.mpr ⟨x.used,aV.mpr ⟨x,hx,Z⟩,Z⟩);lia) (λk x hk hx=>by rw[Uw,Uw,h2];exact h3 k x hk hx)
    exact⟨_,Z,_,_,_,_,_,Z,s' _ _ X.obj,T.cp,T.cT,Z,.inl ⟨Z,_,bQ.of (s' _ _ X.lst)⟩,_,Z,l,xs,i,k',y,q1,q2,q3,q4,q5,q6,q7,_,Z,_,_,_,_,_,Z,Zn,T.cp,T.jv,Z,_,_,Z,Z,_,_,Zn,(by show 8<1000;decide),k _ q8 q9⟩
 ·rw[ay (λz=>Mo (by have:((c.rule:Nat):Int)=1:=V.int.inj z;lia))];refine cy ?_;have OI:c.rule=0:=by have:=ok.rule;lia
  have NU:0<c.entries.length:=om;obtain⟨l,xs,i,k',y,q1,q2,q3,q4,q5,q6,q7,q8,q9,Zn⟩:=Zz H (a7.refl H) 0 c.entries[0] (by simp[NU]) (λx hx=>by
   rw[Jo OI,Jo OI];obtain⟨j,hj,rfl⟩:=vg.mp hx;by_cases hj0:j=0
   ·subst hj0;exact aS _
   ·exact eX (kz.mp ok.up 0 j NU hj om)) (λk x hk=>by lia)
  exact⟨_,Z,_,_,_,_,_,Z,X.obj,T.cp,T.cT,Z,.inl ⟨Z,_,bQ.of X.lst⟩,_,Z,l,xs,i,k',y,q1,q2,q3,q4,q5,q6,q7,_,Z,_,_,_,_,_,Z,Zn,T.cp,T.jv,Z,_,_,Z,Z,_,_,Zn,(by show 8<1000;decide),k _ q8 q9⟩
def mz(d:bw)(l:xC)(q:bu)(RP:V9):dA:={asked:=l,answer:=RP,attrs:=gX q,places:=decide (0<=q.place),made:=d.clock,used:=d.clock}
inductive CW(t:eP)(vs:V2)(H:Hp)(Q:VK)(E:XK):Prop
 |mk(ca qa A:ao)(ro:Role)(d:bw)(l:xC)(q:bu)(RP:V9)(_:vs=[.ref ca,.ref qa,.ref A])(_:DS t H ro ca d)(_:xK d)(_:eN l=aa q)(_:QR t H ro qa l q)(_:IM H ro A (nz RP))(_:∀H' ro',DS t H' ro' ca (if d.most=0 then d else {h? d with entries:=(h? d).entries++[mz d l q RP]})->Kp zo H ro H' ro'->Q .iy H')
theorem Dt(T:Txt K mg t):(3<*3) ["self","question","answer"] (CW t):=by
 refine T.m.G3.F.ok2 ["self","question","answer"] ?_;obtain⟨ca,qa,A0,ro,d,l,q,RP,rfl,hC,ok,hq,hQ,hA,k⟩;refine⟨_,(ap (de (bR fZ (bb (pv 0) Z) aN (bU _)) (aH Tx) bS)
  (ap (de (bR fZ (bF bq Z T.len a9 (ah (bb (pv 0) Z) ax)) (bb (pv 0) Z) (bU _)) (aH (cv (w? (pv 0) T.cp T.m.G4.me (vc T) (hr.mono dk) T.m.G4.b .nil dD))) bS)
  (aH (cv (jK bp dF dE jS (bb (pv 0) Z) (ah (lS T.UY (Ds T) (hr.mono dk) Z T.Qu T.m.G0.b .nil dD (ah (pv 1) (ah (pv 2) (ah (bb (pv 0) Z) ax)))) ax)))))),?_⟩
 obtain⟨dx,el,mB,X⟩:=id hC;have c6:=dY X.pd;have VM:zo .ln:=⟨(by intro q;cases q),(by intro q;cases q),(by intro q;cases q)⟩;refine⟨_,Z,_,_,_,_,_,Z,X.obj,T.cp,T.rP,Z,Z,_,Z,?_⟩;by_cases h0:d.most=0
 ·rw[aI (by rw[h0];rfl)];rw[aC h0]at k;exact cI (k H ro hC Kp.refl)
 ·rw[ay (λz=>h0 (by have:((d.most:Nat):Int)=0:=V.int.inj z;lia))];rw[aw h0]at k;have VF:=zc ok;have put:∀H1,Kp zo H ro H1 ro->DS t H1 ro ca (h? d)->∃(dx el:ao)(mB:List ao),aeC t H1 ro ca dx el mB (h? d)/\mB.length<aE/\∀(H2 H3:Hp)(x La:ao),H1 x=ab->a7 H1 H2->H2 x=aa (.ins t.Entry La (Gk (.ref qa) (.ref A0) (nI d.clock) (nI d.clock)))->H3=upd H2 el (.lst (mB.map V.ref++[.ref x]))->Q .iy H3:=λH1 k1 c1=>by
   obtain⟨YH,UF,UG,X1⟩:=id c1;have nn:=dY X1.pd;have gO:=VF.2.1 h0;have BG:=ok.most;refine⟨YH,UF,UG,X1,mG (m:=21) om dk,λH2 H3 x La hx s2 he e3=>?_⟩;have abh:x≠UF:=λz=>by rw[z,X1.lst]at hx;cases hx
   have ab8:ca≠UF:=lh X1.obj X1.lst (by intro q;cases q);have k2:Kp (λ_=>True) H1 ro H2 (i8 ro x .entry):=Kp.fresh s2 hx;have rel:i8 ro x .entry UF= .xA:=by rw[fI (a8 abh)];exact X1.rl
   have k3:Kp (· ≠.xA) H2 (i8 ro x .entry) H3 (i8 ro x .entry):=by rw[e3];exact Kp.put rel
   have QO:Kp (· ≠.xA) H1 ro H3 (i8 ro x .entry):=(k2.mono λ_ _=>trivial).trans k3;have QN:Kp zo H ro H3 (i8 ro x .entry):=k1.trans (QO.mono λx q=>q.2.1);refine k H3 _ ⟨YH,UF,UG++[x],?_,?_,?_,rel,?_,?_⟩ QN
   ·rw[e3,aZ ab8];exact s2 _ _ X1.obj
   ·rw[fI (λz=>by rw[<-z,X1.obj]at hx;cases hx)];exact X1.rc
   ·rw[e3,ak,bz];rfl
   ·rw[O7];refine⟨X1.nd,by simp,λa ha b hb=>?_⟩;have:b=x:=by simpa using hb
    subst this;intro z;subst z;obtain⟨i,hi⟩:=uD.mp ha;obtain⟨e',_,NY⟩:=o5 X1.pd hi;obtain⟨_,_,_,_,h1,_⟩:=NY;rw[h1]at hx
    cases hx
   ·refine t9 (dI (λ_ _ z=>z.kp QO (by intro q;cases q) (by intro q;cases q)) X1.pd) (.cons ⟨La,qa,A0,q,?_,fm,hq,hQ.kp QN VM,hA.kp QN VM⟩ .nil);rw[e3,aZ abh];exact he
  refine cy ⟨_,Z,_,_,_,_,_,Z,X.obj,T.cp,T.cT,Z,_,_,Z,.inl (bQ.of X.lst),_,Z,_,_,_,_,_,Z,X.obj,T.cp,T.rP,Z,Z,_,Z,?_⟩;by_cases hf:d.entries.length=d.most
  ·rw[aI (by rw[af,c6,hf])];refine cI ⟨_,Z,_,_,_,Z,X.obj,Z,ca,ro,d,Z,hC,ok,om,h0,λH1 c1 k1=>?_⟩;obtain⟨YH,UF,UG,X1,hsz,fin⟩:=put H1 k1 c1;refine⟨_,Z,_,_,_,_,_,Z,X1.obj,T.cp,T.cT,Z,.inl ⟨Z,_,bQ.of X1.lst⟩,_,Z,_,Z,_,Z,_,_,_,_,_,Z,X1.obj,T.cp,T.kJ,Z,λx La nx ub OH=>⟨x,La,.ref qa,.ref A0,_,Z,ak,λH2 bt e2=>⟨Z,?_⟩⟩⟩;have s2:=gb nx ub bt;refine⟨UF,_,_,Z,Z,s2 _ _ X1.lst,by rw[af];exact hsz,fin H2 _ x La nx s2 ?_ Z⟩;rw[e2,VF.2.2.1]
  ·rw[ay (λz=>hf (by
    have:((mB.map V.ref).length:Int)=((d.most:Nat):Int):=V.int.inj z;rw[af,c6]at this;lia))]
   have my:=ok.len;have e0:h? d=d:=by unfold h?;rw[aC om]
   obtain⟨YH,UF,UG,X1,hsz,fin⟩:=put H Kp.refl (by rw[e0];exact hC);rw[e0]at X1;refine cy ⟨_,Z,_,_,_,_,_,Z,X1.obj,T.cp,T.cT,Z,.inl ⟨Z,_,bQ.of X1.lst⟩,_,Z,_,Z,_,Z,_,_,_,_,_,Z,X1.obj,T.cp,T.kJ,Z,λx La nx ub OH=>⟨x,La,.ref qa,.ref A0,_,Z,ak,λH2 bt e2=>⟨Z,?_⟩⟩⟩;have s2:=gb nx ub bt;exact⟨UF,_,_,Z,Z,s2 _ _ X1.lst,by rw[af];exact hsz,fin H2 _ x La nx s2 e2 Z⟩
theorem L5{ro:Role}{a b:ao}{x y:Tag}(h1:ro a=x)(h2:ro b=y)(h:x≠y):a≠b:=λe=>h (by rw[<-h1,<-h2,e])
theorem ups(h:b≠a)(e:H b=aa o):(upd H a x) b=aa o:=(aZ h).trans e
inductive tU(t:eP)(vs:V2)(H:Hp)(Q:VK)(E:XK):Prop
 |mk(ca qa:ao)(ro:Role)(c:bw)(l:xC)(q:bu)(_:vs=[.ref ca,.ref qa])(_:DS t H ro ca c)(_:xK c)(_:QR t H ro qa l q)(_:(∀e H' A,e∈c.entries->e.asked=l->DS t H' ro ca (U1 c l)->Kp zo H ro H' ro->IM H' ro A (nz e.answer)->Q (.ref A) H'))(_:((∀e∈c.entries,e.asked≠l)->∀H',DS t H' ro ca {c with clock:=c.clock+1,misses:=c.misses+1}->Kp zo H ro H' ro->Q .iy H'))
theorem ua(T:Txt K mg t):(1<*2) ["self","question"] (tU t):=by
 refine T.m.G2.F.ok2 ["self","question","entry"] ?_;obtain⟨ca,qa,ro,c,l,q,rfl,hC,ok,hQ,acZ,kno⟩;refine⟨_,(ap (nQ (pv 0) aN yC)
  (ap (jI bY Z (dH (bb (pv 0) Z)) (cJ (i:=2) nd Z (bi Z))
  (aH (de (bR (Bi hr.units) (bb (bb (pv 2) Z) Z) (bb (pv 1) Z) (bU _)) (ap (dM (pv 2) (bb (pv 0) Z) Z)
  (ap (nQ (pv 0) aN yC)
  (aH (bo (bb (pv 2) Z))))) bS)))
  (ap (nQ (pv 0) aN yC)
  (aH (bo ou))))),?_⟩
 obtain⟨dx,el,mB,X⟩:=id hC;obtain⟨dq,N,Cs,Ss,As,Y⟩:=id hQ;have c6:=dY X.pd;have VM:zo .ln:=⟨(by intro q;cases q),(by intro q;cases q),(by intro q;cases q)⟩;have nC:∀{x:Tag},x≠.cache->x≠.cache:=id;refine⟨_,Z,_,_,_,_,_,Z,X.obj,T.cp,T.kJ,Z,_,_,Z,Z,_,_,X.obj,(by show 8<1000;decide),?_⟩;have k1:Kp (· ≠.cache) H ro (upd H ca (.ins t.Cache dx (pY {c with clock:=c.clock+1} el))) ro:=Kp.put X.rc;have ab8:ca≠el:=lh X.obj X.lst (by intro q;cases q);have JM:(upd H ca (.ins t.Cache dx (pY {c with clock:=c.clock+1} el))) ca=aa (.ins t.Cache dx (pY {c with clock:=c.clock+1} el)):=ak;have aas:(upd H ca (.ins t.Cache dx (pY {c with clock:=c.clock+1} el))) el=aa (.lst (mB.map V.ref)):=by rw[aZ (a8 ab8)];exact X.lst
 have abT:=dI (λ_ _ z=>z.kp k1 (by intro q;cases q) (by intro q;cases q)) X.pd;have Y1:=Y.kp k1 (by intro q;cases q);show(λH1=>_) (upd H ca (.ins t.Cache dx (pY {c with clock:=c.clock+1} el)));generalize upd H ca (.ins t.Cache dx (pY {c with clock:=c.clock+1} el))=H1 at k1 JM aas abT Y1;refine⟨_,Z,_,_,_,_,_,Z,JM,T.cp,T.cT,Z,el,Z,⟨_,bQ.of aas⟩,?_⟩;refine ij (K:=K) (a:=el) (xs:=mB.map V.ref) (λi σ H'=>∃v:Option V,σ=[aa (.ref ca),aa (.ref qa),v]/\H'=H1/\∀(j:Nat) e,j<i->c.entries[j]? =aa e->e.asked≠l)
  ⟨ab,Z,Z,λj e h=>by lia⟩ (λi σ H' _ ⟨_,_,e,_⟩=>e▸bQ.of aas) ?_ ?_
 ·rintro i y σ H2 hy ⟨v,rfl,rfl,Gf⟩;rw[aA]at hy
  cases Yx:mB[i]? with
  |none=>rw[Yx]at hy;cases hy
  |some a=>
   rw[Yx]at hy
   cases hy;obtain⟨e,Yu,hE⟩:=o5 abT Yx;obtain⟨La,qe,A2,qq,dqe,N2,Cs2,Ss2,As2,h1,h3,h4,h5,e2,e3⟩:=My hE (ok.ent _ (aP Yu));refine⟨_,Z,_,_,_,_,_,Z,h1,T.jU,T.iO,Z,_,_,_,_,_,Z,h4.obj,T.cO,T.i',Z,_,Z,_,_,_,_,_,Z,Y1.obj,T.cO,T.i',Z,_,_,Dp.ints (bQ.of h4.ns.1),Dp.ints (bQ.of Y1.ns.1),lI _,lI _,_,Z,?_⟩;rw[Ja];by_cases hq:e.asked=l
   ·rw[aI hq];have ra:ro a= .entry:=by obtain⟨_,_,_,_,_,z,_⟩:=hE;exact z
    have ab9:ca≠a:=L5 X.rc ra (by intro q;cases q);refine cI ⟨_,Z,_,_,_,_,_,Z,JM,T.cp,T.kJ,Z,_,Z,_,_,_,_,Z,h1,T.jU,T.kQ,(by show 4<1000;decide),_,Z,_,_,_,_,_,Z,ups ab9 JM,T.cp,T.rQ,Z,_,_,Z,Z,_,_,ups ab9 JM,(by show 8<1000;decide),_,Z,_,_,_,_,_,Z,ups (a8 ab9) ak,T.jU,T.ue,Z,?_⟩;have kk:∀o1 o2,Kp (λx=>x≠.cache/\x≠.entry) H2 ro (upd (upd H2 a o1) ca o2) ro:=λo1 o2=>((Kp.put ra).mono λx q=>q.2).trans ((Kp.put X.rc).mono λx q=>q.1);have QN:∀o1 o2,Kp zo H ro (upd (upd H2 a o1) ca o2) ro:=λo1 o2=>(k1.mono λx (q:zo x)=>q.1).trans ((kk o1 o2).mono λx (q:zo x)=>⟨q.1,q.2.2⟩);have Zu:(Tag.ln≠.cache/\Tag.ln≠.entry):=⟨(by intro q;cases q),(by intro q;cases q)⟩;refine acZ e _ A2 (aP Yu) hq ⟨dx,el,mB,ak,X.rc,?_,X.rl,X.nd,?_⟩ (QN _ _) (h5.kp (kk _ _) Zu)
    ·exact(kk _ _ el _ aas (by rw[X.rl];exact⟨(by intro q;cases q),(by intro q;cases q)⟩)).1
    ·refine vq (by show _=(c.entries.map _).length;rw[af];exact c6) λj b e' hb NY=>?_;have Xj:(c.entries.map λe=>if e.asked=l then {e with used:=c.clock+1}else e)[j]? =aa e':=NY;rw[aA]at Xj;obtain⟨e0,K3,hE0⟩:=o5 abT hb;rw[K3]at Xj;injection Xj with Q_
     simp only at Q_;by_cases Z8:j=i
     ·subst Z8;rw[Yx]at hb
      cases hb;rw[Yu]at K3
      cases K3;rw[aC hq]at Q_;subst Q_;exact⟨La,qe,A2,qq,by rw[aZ (a8 ab9),ak];rfl,ra,h3,QR.kp ⟨dqe,N2,Cs2,Ss2,As2,h4⟩ (kk _ _) Zu,h5.kp (kk _ _) Zu⟩
     ·have iQ:e0.asked≠l:=by
       intro z;have Uq:j<c.entries.length:=(aY.mp K3).1;have So:i<c.entries.length:=(aY.mp Yu).1;have g1:=(aY.mp K3).2;have g2:=(aY.mp Yu).2;rcases Nat.lt_or_gt_of_ne Z8 with h|h
       ·exact Gf j e0 h K3 z
       ·have:=kz.mp ok.asked i j So Uq h;rw[g1,g2]at this;exact this (hq.trans z.symm)
      rw[aw iQ]at Q_;subst Q_;have hba:b≠a:=by
       intro z;subst z;have Uq:j<mB.length:=(aY.mp hb).1;have So:i<mB.length:=(aY.mp Yx).1;have:=(yT Uq X.nd).mp (hb.trans Yx.symm);exact Z8 this
      obtain⟨d1,q1,A1,qq1,g1,g2,g3,g4,g5⟩:=hE0;have bca:b≠ca:=L5 g2 X.rc (by intro q;cases q);exact⟨d1,q1,A1,qq1,by rw[aZ bca,aZ hba];exact g1,g2,g3,g4.kp (kk _ _) Zu,g5.kp (kk _ _) Zu⟩
   ·rw[ay hq];refine cy ⟨_,Z,Z,λj e' hj NY=>?_⟩;by_cases Z8:j<i
    ·exact Gf j e' Z8 NY
    ·obtain rfl:j=i:=by lia
     rw[Yu]at NY
     cases NY;exact hq
 ·rintro σ H2 ⟨v,rfl,rfl,Gf⟩;refine⟨_,Z,_,_,_,_,_,Z,JM,T.cp,T.oA,Z,_,_,Z,Z,_,_,JM,(by show 8<1000;decide),kno (λe he=>?_) _ ⟨dx,el,mB,ak,X.rc,?_,X.rl,X.nd,?_⟩ ?_⟩
  ·obtain⟨j,hj⟩:=uD.mp he;refine Gf j e ?_ hj;rw[af,c6];exact(aY.mp hj).1
  ·rw[aZ (a8 ab8)];exact aas
  ·exact dI (λ_ _ z=>z.kp (Kp.put X.rc) (by intro q;cases q) (by intro q;cases q)) abT
  ·exact(k1.trans (Kp.put X.rc)).mono λx (q:zo x)=>q.1
def wg:Tag->Prop:=λx=>∀i,x≠.rows i/\x≠.pf i
theorem wg.ix(h:wg x):Js i x:=h i
section
variable{t:eP}{H H':Hp}{ro ro':Role}
def Ca(t:eP)(H:Hp)(ro:Role)(il:ao)(is:List ao)(L:p_):Prop:=H il=aa (.lst (is.map V.ref))/\ro il= .indexes/\is.Nodup/\ci (λi x=>Cb t H ro i x.1 x.2) is L
theorem Ca.put(h:Ca t H ro il is L)(hi:is[j]? =aa i)(hx:L[j]? =aa x)(k:Kp (Js i) H ro H' ro')(r:Cb t H' ro' i x.1 ρ):Ca t H' ro' il is (L.set j (x.1,ρ)):=by
 obtain⟨e,rl,n,p⟩:=h;obtain⟨e',r'⟩:=k il _ e (by rw[rl];exact⟨(by intro q;cases q),(by intro q;cases q)⟩);refine⟨e',r'.trans rl,n,vq (by rw[SU];exact dY p) λm b y hb hy=>?_⟩;by_cases hm:m=j
 ·subst hm;rw[hi]at hb
  cases hb;rw[mm (aY.mp hx).1]at hy
  cases hy;exact r
 ·rw[nv (a8 hm)]at hy;obtain⟨y',QV,z⟩:=o5 p hb;rw[hy]at QV
  cases QV;have iQ:b≠i:=λq=>hm ((yT (aY.mp hb).1 n).mp (by rw[hb,hi,q]));exact z.kp k ⟨(by intro q;cases q),(by intro q;cases q)⟩ ⟨λq=>iQ (Tag.rows.inj q),(by intro q;cases q)⟩ ⟨(by intro q;cases q),λq=>iQ (Tag.pf.inj q)⟩
theorem WA.tD{W dx kd td il ca:ao}{fz:HO->HO}{w:aO}{L L':p_}{c:bw}(h:WA t H ro W dx kd td il ca fz w L c)(k:Kp wg H ro H' ro')(x:Oq t H' ro' il L'):WA t H' ro' W dx kd td il ca fz w L' c:=by
 have n:∀{y:Tag},(∀i,y≠.rows i)->(∀i,y≠.pf i)->wg y:=λh1 h2 i=>⟨h1 i,h2 i⟩;have im:wg .ln:=λi=>⟨(by intro q;cases q),(by intro q;cases q)⟩;obtain⟨e1,r1⟩:=k W _ h.obj (by rw[h.vn];exact λi=>⟨(by intro q;cases q),(by intro q;cases q)⟩);exact⟨e1,r1.trans h.vn,h.ks.kp k (λi=>⟨(by intro q;cases q),(by intro q;cases q)⟩) im λ_=>λi=>⟨(by intro q;cases q),(by intro q;cases q)⟩,
  h.ts.kp k (λi=>⟨(by intro q;cases q),(by intro q;cases q)⟩) (λ_ _=>λi=>⟨(by intro q;cases q),(by intro q;cases q)⟩) (λ_ _=>λi=>⟨(by intro q;cases q),(by intro q;cases q)⟩),x,
  h.ca.kp k im (λi=>⟨(by intro q;cases q),(by intro q;cases q)⟩) (λi=>⟨(by intro q;cases q),(by intro q;cases q)⟩) (λi=>⟨(by intro q;cases q),(by intro q;cases q)⟩)⟩
end
def part{α:Type}(f:α->α)(L:List α)(j:Nat):List α:=(L.take j).map f++L.drop j
theorem part0{α:Type}(f:α->α)(L:List α):part f L 0=L:=by unfold part;simp
theorem Be{α:Type}(f:α->α)(L:List α):part f L L.length=L.map f:=by unfold part;simp
theorem rJ{α:Type}{f:α->α}{L:List α}{j:Nat}{x:α}(h:L[j]? =aa x):(part f L j)[j]? =aa x:=by
 have hj:=(aY.mp h).1;unfold part;rw[jZ (by rw[af,ck];lia),af,ck,OB,<-h]
 congr 1
 lia
theorem xf{α:Type}{f:α->α}{L:List α}{j:Nat}{x:α}(h:L[j]? =aa x):(part f L j).set j (f x)=part f L (j+1):=by
 have hj:=(aY.mp h).1;have hl:((L.take j).map f).length=j:=by rw[af,ck];lia
 unfold part;rw[List.set_append_right _ _ om,hl,Nat.sub_self,take_succ h,bz,fP]
 congr 1
 have:L.drop j=x::L.drop (j+1):=by rw[kE hj,(aY.mp h).2]
 rw[this];rfl
theorem NE{α:Type}{f:α->α}{L:List α}{j:Nat}{x:α}(h:L[j]? =aa x)(e:f x=x):part f L (j+1)=part f L j:=by
 rw[<-xf h,e];obtain⟨h1,h2⟩:=aY.mp (rJ (f:=f) h);rw[<-h2];exact List.set_getElem_self h1
def wj(L:p_):Prop:=L.length<=6/\∀x∈L,Tw.Ends x.2/\x.1.length<=3
def sO(wd:aO)(n a:Nat)(x:V9×(Nat->Option xC)):V9×(Nat->Option xC):=if x.1.contains a=ac then(x.1,gQ x.2 n (fK wd x.1 n))else x
theorem HM(h:fK wd at_ n=aa r):∃p:xC,r=p++[(n:Int)]:=HN h
theorem wj.aeH(h:wj L)(f:V9×(Nat->Option xC)->V9×(Nat->Option xC))(hf:∀x,Tw.Ends x.2->(f x).1=x.1/\Tw.Ends (f x).2):wj (L.map f):=by
 refine⟨by rw[af];exact h.1,λx hx=>?_⟩;obtain⟨y,hy,rfl⟩:=aV.mp hx;have:=h.2 y hy;obtain⟨h1,h2⟩:=hf y this.1;exact⟨h2,by rw[h1];exact this.2⟩
theorem Tq(wd:aO)(n a:Nat)(x:V9×(Nat->Option xC))(h:Tw.Ends x.2):(sO wd n a x).1=x.1/\Tw.Ends (sO wd n a x).2:=by
 unfold sO;split
 ·exact⟨Z,Tw.Ends.put h λr q=>HM q⟩
 ·exact⟨Z,h⟩
theorem AE(wd:aO)(n:Nat)(at_:V9):(at_.map λa=>vV (eT wd n a))=(at_.map (eT wd n)).map vV:=by rw[bv];rfl
inductive u4(t:eP)(vs:V2)(H:Hp)(Q:VK)(E:XK):Prop
 |mk(W:ao)(n a:Nat)(ro:Role)(fz:HO->HO)(wd:aO)(L:p_)(c:bw)(_:vs=[.ref W,nI n,nI a])(_:WR t H ro W fz wd L c)(_:Fz fz)(_:p8 wd)(_:a_ wd n=ac)(_:wj L)(_:∀H' ro',WR t H' ro' W fz wd (L.map (sO wd n a)) c->Kp wg H ro H' ro'->Q .iy H')
theorem nE(T:Txt K mg t):(5<*83) ["self","number","attribute"] (u4 t):=by
 refine T.m.G83.F.ok2 ["self","number","attribute","index"] ?_;obtain⟨W,n,a,ro,fz,wd,L,c,rfl,hW,hz,ok,hn,hL,k⟩;refine⟨_,(aH (jI bY Z (dH (bb (pv 0) Z)) (cJ (i:=3) nd Z (bi Z))
  (aH (de (bR uM (pv 2) (bb (pv 3) Z) (by with_unfolding_all rfl)) (aH (cv (cZ (pv 3) T.eC T.m.G74.me (ox T) (hr.mono dk) T.m.G74.b .nil dD (ah (pv 1) (ah (cZ (pv 0) T.bj T.m.G81.me (kY T) (hr.mono dk) T.m.G81.b .nil dD (ah (pv 1) (ah (bb (pv 3) Z) ax))) ax))))) bS)))),?_⟩
 obtain⟨dx,kd,td,il,ca,X⟩:=id hW;obtain⟨is,hI⟩:=id X.ix;have c6:=dY hI.2.2.2;have VM:wg .ln:=λi=>⟨(by intro q;cases q),(by intro q;cases q)⟩;have Ym:n<=200:=aB (b? hn).2 ok.tl;refine⟨_,Z,_,_,_,_,_,Z,X.obj,T.bj,T.dw,Z,il,Z,⟨_,bQ.of hI.1⟩,?_⟩;refine ij (K:=K) (a:=il) (xs:=is.map V.ref) (λj σ H'=>∃(v:Option V)(ro':Role),σ=[aa (.ref W),aa (nI n),aa (nI a),v]/\Kp wg H ro H' ro'/\Ca t H' ro' il is (part (sO wd n a) L j))
  ⟨ab,ro,Z,Kp.refl,by rw[part0];exact hI⟩ (λi σ H' _ ⟨_,_,_,_,e⟩=>bQ.of e.1) ?_ ?_
 ·rintro j y σ H1 hy ⟨v,kr,rfl,k1,OO⟩;rw[aA]at hy
  cases xu:is[j]? with
  |none=>rw[xu]at hy;cases hy
  |some i=>
   rw[xu]at hy
   cases hy;obtain⟨x,hx,_⟩:=o5 hI.2.2.2 xu;obtain⟨x',Ci,hR⟩:=o5 OO.2.2.2 xu;rw[rJ hx]at Ci
   cases Ci;obtain⟨hE,VP⟩:=hL.2 x (aP hx);obtain⟨YG,A1,R1,D1,kvs,re,rows,Y⟩:=id hR;have X1:=X.tD k1 ⟨is,OO⟩;refine⟨_,Z,_,Z,_,_,_,_,_,Z,Y.obj,T.eC,T.eI,Z,_,_,Z,.inl (bQ.of Y.RK.1),Z,mO _,_,Z,?_⟩;have e:DA (nI a) ((nz x.1).map V.int)=x.1.contains a:=uk _ _;rw[e]
   cases hb:x.1.contains a with
   |false=>
    have hf:sO wd n a x=x:=by unfold sO;rw[hb];rfl
    refine cy ⟨_,kr,Z,k1,?_⟩;rw[NE hx hf];exact OO
   |true=>
    have hf:sO wd n a x=(x.1,gQ x.2 n (fK wd x.1 n)):=by unfold sO;rw[aC hb]
    refine cI ⟨_,Z,_,_,_,Z,Y.obj,Z,_,Z,_,Z,_,_,_,Z,X1.obj,Z,_,Z,_,Z,_,_,_,_,_,Z,Y.obj,T.eC,T.eI,Z,W,A1,n,x.1,kr,fz,wd,_,c,Z,Y.RK.1,om,⟨dx,kd,td,il,ca,X1⟩,hz,ok,hn,λH2 p s2 np hp=>?_⟩;rw[AE]at hp;have k2:Kp (λ_=>True) H1 kr H2 (i8 kr p .ln):=Kp.fresh s2 np;refine⟨i,p,n,x.1.map (eT wd n),i8 kr p .ln,x.1,x.2,Z,hp,fm,hR.kp k2 trivial trivial trivial,hE,Ym,by rw[af];lia,λH3 w6 hR3 k3=>?_⟩;have QO:Kp (Js i) H1 kr H3 w6:=(k2.mono λ_ _=>trivial).trans k3;refine⟨_,w6,Z,k1.trans (QO.mono λx q=>q.ix),?_⟩;rw[<-xf hx,hf];rw[<-A7]at hR3;exact OO.put xu (rJ hx) QO hR3
 ·rintro σ H1 ⟨v,kr,rfl,k1,OO⟩;rw[af,c6,Be]at OO;exact k H1 kr ⟨dx,kd,td,il,ca,X.tD k1 ⟨is,OO⟩⟩ k1
theorem IF(h1:∀i,x≠.rows i)(h2:∀i,x≠.pf i):wg x:=λi=>⟨h1 i,h2 i⟩
section
variable{t:eP}{H H':Hp}{ro ro':Role}{W dx kd td il ca:ao}{fz abY:HO->HO}{w:aO}{L L':p_}{c c':bw}
theorem WA.cache(h:WA t H ro W dx kd td il ca fz w L c)(k:Kp zo H ro H' ro')(x:DS t H' ro' ca c'):WA t H' ro' W dx kd td il ca fz w L c':=by
 have im:zo .ln:=⟨nofun,nofun,nofun⟩;obtain⟨e1,r1⟩:=k W _ h.obj (by rw[h.vn];exact⟨nofun,nofun,nofun⟩);exact⟨e1,r1.trans h.vn,h.ks.kp k ⟨nofun,nofun,nofun⟩ im λ_=>⟨nofun,nofun,nofun⟩,h.ts.kp k ⟨nofun,nofun,nofun⟩ (λ_ _=>⟨nofun,nofun,nofun⟩) (λ_ _=>⟨nofun,nofun,nofun⟩),
  h.ix.kp k im ⟨nofun,nofun,nofun⟩ (λ_=>⟨nofun,nofun,nofun⟩) (λ_=>⟨nofun,nofun,nofun⟩),x⟩
theorem WA.things(h:WA t H ro W dx kd td il ca fz w L c)(k:Kp (· ≠.things) H ro H' ro')(x:On t H' ro' td abY w):WA t H' ro' W dx kd td il ca abY w L c:=by
 obtain⟨e1,r1⟩:=k W _ h.obj (by rw[h.vn];exact nofun);exact⟨e1,r1.trans h.vn,h.ks.kp k nofun nofun λ_=>nofun,x,h.ix.kp k nofun nofun (λ_=>nofun) (λ_=>nofun),h.ca.kp k nofun nofun nofun nofun⟩
def aeK(t:eP)(H:Hp)(ro:Role)(td:ao)(fz:HO->HO)(w:aO)(ta:Nat->ao):Prop:=H td=aa (fz (.dK (eS ta (aM w))))/\ro td= .things/\∀n,a_ w n=ac->yP t H ro n (ta n) (bh w n)
theorem WA.lock(h:WA t H ro W dx kd td il ca id w L c):∃ta,aeK t H ro td id w ta/\∀od,WA t (upd H td (.jT od (.dK (eS ta (aM w))))) ro W dx kd td il ca (HO.jT od) w L c/\Kp (· ≠.things) H ro (upd H td (.jT od (.dK (eS ta (aM w))))) ro:=by
 obtain⟨ta,e,r,f⟩:=id h.ts;refine⟨ta,⟨e,r,f⟩,λod=>?_⟩;have k:Kp (· ≠.things) H ro (upd H td (.jT od (.dK (eS ta (aM w))))) ro:=Kp.put r;exact⟨h.things k ⟨ta,ak,r,λn hn=>(f n hn).kp k nofun nofun⟩,k⟩
theorem WA.unlock(h:WA t H ro W dx kd td il ca (HO.jT od) w L c)(e:H td=aa (.jT od (.dK (eS ta (aM w))))):WA t (upd H td (.dK (eS ta (aM w)))) ro W dx kd td il ca id w L c/\Kp (· ≠.things) H ro (upd H td (.dK (eS ta (aM w)))) ro:=by
 obtain⟨Py,e',r,f⟩:=id h.ts;rw[e]at e';have e2:eS ta (aM w)=eS Py (aM w):=by
  injection e' with e'
  injection e' with _ e'
  injection e' with e'
 rw[e2];have k:Kp (· ≠.things) H ro (upd H td (.dK (eS Py (aM w)))) ro:=Kp.put r;exact⟨h.things k ⟨Py,ak,r,λn hn=>(f n hn).kp k nofun nofun⟩,k⟩
end
def WP:Tag->Prop:=λx=>wg x/\zo x
theorem aeF(h1:∀i,x≠.rows i)(h2:∀i,x≠.pf i)(h3:x≠.cache)(h4:x≠.xA)(h5:x≠.entry):WP x:=⟨IF h1 h2,h3,h4,h5⟩
def pP(wd:aO)(a:Nat)(ts:V9)(L:p_):p_:=ts.foldl (λL n=>L.map (sO wd n a)) L
theorem wj.all  :∀{ts:V9}{L:p_},wj L->wj (pP wd a ts L)
 |[],_,h=>h
 |n::ts,L,h=>by
  show wj (pP wd a ts (L.map (sO wd n a)));exact wj.all (h.aeH _ λx=>Tq wd n a x)
theorem Ko(wd:aO)(a:Nat)(ts us:V9)(L:p_):pP wd a (ts++us) L=pP wd a us (pP wd a ts L):=O9
theorem Al{f:Nat->ao}{l:V9}{j:Nat}{k:Key}{v:V}(h:(eS f l)[j]? =aa (k,v)):∃n,l[j]? =aa n/\kV k=nI n/\v= .ref (f n):=by
 rw[aA]at h
 cases q:l[j]? with
 |none=>rw[q]at h;cases h
 |some n=>
  rw[q]at h;have h':((iJ (n:Int):Key),V.ref (f n))=(k,v):=bN h;injection h' with h1 h2
  subst h1 h2;exact⟨n,Z,Z,Z⟩
inductive tS(t:eP)(vs:V2)(H:Hp)(Q:VK)(E:XK):Prop
 |mk(W:ao)(n a:Nat)(ro:Role)(wd:aO)(L:p_)(c:bw)(_:vs=[.ref W,nI n,nI a])(_:WR t H ro W id wd L c)(_:p8 wd)(_:a_ wd n=ac)(_:wj L)(_:xK c)(_:∀H' ro',WR t H' ro' W id wd (L.map (sO wd n a)) (lv c λe=>!e.attrs.contains a)->Kp WP H ro H' ro'->Q .iy H')
theorem m7(T:Txt K mg t):(6<*84) ["self","number","attribute"] (tS t):=by
 refine T.m.G84.F.ok2 ["self","number","attribute"] ?_;obtain⟨W,n,a,ro,wd,L,c,rfl,hW,ok,hn,hL,hc,k⟩;refine⟨_,(ap (cv (cZ (pv 0) T.bj T.m.G83.me (nE T) (hr.mono dk) T.m.G83.b .nil dD (ah (pv 1) (ah (pv 2) ax))))
  (aH (cv (cZ (bb (pv 0) Z) T.cp T.m.G6.me (jL T) (hr.mono dk) T.m.G6.b .nil dD (ah (pv 2) ax))))),?_⟩
 obtain⟨dx,kd,td,il,ca,X⟩:=id hW;refine⟨_,Z,_,_,_,Z,X.obj,Z,_,Z,_,Z,W,n,a,ro,id,wd,L,c,Z,hW,.inl Z,ok,hn,hL,λH1 kr abQ k1=>?_⟩;obtain⟨YH,kd1,td1,il1,ca1,X1⟩:=id abQ;obtain⟨dc,el,mB,C⟩:=id X1.ca;refine⟨_,Z,_,_,_,_,_,Z,X1.obj,T.bj,T.eK,Z,_,_,_,Z,C.obj,Z,_,Z,ca1,a,Z,kr,c,X1.ca,hc,λH2 nF c2 k2=>?_⟩;exact k H2 nF ⟨YH,kd1,td1,il1,ca1,X1.cache k2 c2⟩ ((k1.mono λx q=>q.1).trans (k2.mono λx q=>q.2))
inductive pO(t:eP)(vs:V2)(H:Hp)(Q:VK)(E:XK):Prop
 |mk(W:ao)(kk a:Nat)(ro:Role)(wd:aO)(L:p_)(c:bw)(_:vs=[.ref W,nI kk,nI a])(_:WR t H ro W id wd L c)(_:p8 wd)(_:wj L)(_:xK c)(_:∀H' ro',WR t H' ro' W id wd (pP wd a (jx wd kk) L) (lv c λe=>!e.attrs.contains a)->Kp (λx=>WP x/\x≠.things) H ro H' ro'->Q .iy H')
theorem kI(T:Txt K mg t):(6<*85) ["self","kind","attribute"] (pO t):=by
 refine T.m.G85.F.ok2 ["self","kind","attribute","number"] ?_;obtain⟨W,kk,a,ro,wd,L,c,rfl,hW,ok,hL,hc,k⟩;refine⟨_,(ap (FQ (jI bY Z (Ac (bb (pv 0) Z)) (cJ (i:=3) nd Z (bi Z))
  (aH (de (hJ (cZ (pv 0) T.bj T.m.G78.me (pS T) (hr.mono dk) T.m.G78.b .nil dD (ah (pv 3) (ah (pv 1) ax)))) (aH (cv (cZ (pv 0) T.bj T.m.G83.me (nE T) (hr.mono dk) T.m.G83.b .nil dD (ah (pv 3) (ah (pv 2) ax))))) bS))))
  (aH (cv (cZ (bb (pv 0) Z) T.cp T.m.G6.me (jL T) (hr.mono dk) T.m.G6.b .nil dD (ah (pv 2) ax))))),?_⟩
 obtain⟨dx,kd,td,il,ca,X⟩:=id hW;obtain⟨ta,⟨Am,Aa,yD⟩,Q2⟩:=X.lock;refine⟨td,.dK (eS ta (aM wd)),Am,trivial,λod=>?_⟩;obtain⟨X1,k1⟩:=Q2 od;have KY:(upd H td (.jT od (.dK (eS ta (aM wd))))) td=aa (.jT od (.dK (eS ta (aM wd)))):=ak;generalize upd H td (.jT od (.dK (eS ta (aM wd))))=H1 at X1 k1 KY;refine⟨_,Z,_,_,_,_,_,Z,X1.obj,T.bj,T.bT,Z,td,od,Z,.inl ⟨_,KY,?_⟩⟩;refine An (n:=(aM wd).length) (λj σ H'=>∃(v:Option V)(ro':Role),σ=[aa (.ref W),aa (nI kk),aa (nI a),v]/\Kp wg H1 ro H' ro'/\WA t H' ro' W dx kd td il ca (HO.jT od) wd (pP wd a (((aM wd).take j).filter λn=>eJ wd n kk) L) c)
  ⟨ab,ro,Z,Kp.refl,X1⟩ ?_ ?_ ?_ ?_
 ·rintro σ H2 ⟨v,nF,rfl,k2,X2⟩;exact⟨(k2 _ _ KY (by rw[Aa];exact IF nofun nofun)).1,by rw[af];exact aS _⟩
 ·rintro j σ H2 hj ⟨v,nF,rfl,k2,X2⟩;exact⟨(k2 _ _ KY (by rw[Aa];exact IF nofun nofun)).1,by rw[af];exact hj⟩
 ·rintro j σ H2 x H3 hj ⟨v,nF,rfl,k2,X2⟩ ⟨rfl,k',v',NW,rfl⟩;obtain⟨n,Cm,Sn,rfl⟩:=Al NW;rw[Sn];have hn:=cw.mp (aP Cm);have aab:((aM wd).take (j+1)).filter (λn=>eJ wd n kk)=((aM wd).take j).filter (λn=>eJ wd n kk)++(if eJ wd n kk=ac then [n]else []):=by
   rw[take_succ Cm,xQ]
   congr 1
   cases hq:eJ wd n kk<;>simp[hq]
  refine⟨_,Z,_,_,_,Z,X2.obj,Z,_,Z,_,Z,W,n,kk,nF,_,wd,_,c,Z,⟨dx,kd,td,il,ca,X2⟩,.inr ⟨od,Z⟩,ok,hn,_,Z,?_⟩
  cases hA:eJ wd n kk with
  |false=>
   refine cy ⟨_,nF,Z,k2,?_⟩;rw[aab,hA];simpa using X2
  |true=>
   refine cI ⟨_,Z,_,_,_,Z,X2.obj,Z,_,Z,_,Z,W,n,a,nF,_,wd,_,c,Z,⟨dx,kd,td,il,ca,X2⟩,.inr ⟨od,Z⟩,ok,hn,hL.all,λH4 HQ abP k4=>?_⟩;refine⟨_,HQ,Z,k2.trans k4,?_⟩;rw[aab,hA,aC Z,Ko];obtain⟨ab5,Yb,XZ,Yd,XN,X4⟩:=abP;have hO:=(k4 _ _ X2.obj (by rw[X2.vn];exact IF nofun nofun)).1;rw[X4.obj]at hO;obtain⟨rfl,rfl,rfl,rfl,rfl⟩:ab5=dx/\Yb=kd/\XZ=td/\Yd=il/\XN=ca:=by
    injection hO with hO
    injection hO with _ h1 h2
    refine⟨h1,?_⟩;simp[rZ]at h2;exact h2
   exact X4
 ·rintro σ H2 ⟨v,nF,rfl,k2,X2⟩;have yE:=(k2 _ _ KY (by rw[Aa];exact IF nofun nofun)).1;refine⟨yE,?_⟩;rw[cB]at X2;obtain⟨X3,k3⟩:=X2.unlock yE;obtain⟨dc,el,mB,C⟩:=id X3.ca;refine⟨_,Z,_,_,_,_,_,Z,X3.obj,T.bj,T.eK,Z,_,_,_,Z,C.obj,Z,_,Z,ca,a,Z,nF,c,X3.ca,hc,λH4 HQ c4 k4=>?_⟩;refine k H4 HQ ⟨dx,kd,td,il,ca,X3.cache k4 c4⟩ ?_;exact(((k1.mono λx q=>q.2).trans (k2.mono λx q=>q.1.1)).trans (k3.mono λx q=>q.2)).trans (k4.mono λx q=>q.1.2)
section
variable{t:eP}{H H':Hp}{ro ro':Role}{W dx kd td il ca:ao}{w:aO}{L:p_}{c:bw}
theorem WA.adr{W dx kd td il ca ab5 Yb XZ Yd XN:ao}(X:WA t H ro W dx kd td il ca fz w L c)(Y:WA t H' ro' W ab5 Yb XZ Yd XN abY w' L' c')(h:∀o,H W=aa o->H' W=aa o):ab5=dx/\Yb=kd/\XZ=td/\Yd=il/\XN=ca:=by
 have hO:=h _ X.obj;rw[Y.obj]at hO;injection hO with hO
 injection hO with _ h1 h2
 refine⟨h1,?_⟩;simp[rZ]at h2;exact⟨h2.1,h2.2.1,h2.2.2.2.1,h2.2.2.2.2⟩
end
def TW(wd:aO)(n:Nat)(x:V9×(Nat->Option xC)):V9×(Nat->Option xC):=(x.1,gQ x.2 n (fK wd x.1 n))
theorem QL{ta:Nat->ao}{l:V9}{n:Nat}{x:ao}(h:n∉l):putK (eS ta l) (.inl (n:Int)) (.ref x)=eS (λm=>if m=n then x else ta m) (l++[n]):=by
 have e:(eS ta l).any (λkv=>decide (kv.1=(iJ (n:Int):Key)))=ae:=by
  rw[ql];rintro⟨k,v⟩ hk;obtain⟨m,hm,e⟩:=aV.mp hk;injection e with e1 e2
  subst e1;simp;intro z;exact h (by rw[<-(show m=n by lia)];exact hm)
 unfold putK;rw[aw (by rw[e];simp)];show _=U_ _ _;rw[bz]
 congr 1
 ·apply cg;intro m hm;have:m≠n:=λz=>h (z▸hm);simp[this]
 ·simp
theorem Ud{ta:Nat->ao}{l:V9}{n:Nat}:ik (eS ta l) (.inl (n:Int))=eS ta (l.filter λm=>!decide (m=n)):=by
 unfold ik eS;rw[List.filter_map]
 congr 1
 apply jD;intro m _;simp only[iw];by_cases h:m=n
 ·subst h;simp
 ·have:¬((iJ (m:Int):Key)=iJ (n:Int)):=λz=>h (by have:=iV z;lia);simp[h,this]
inductive CO(t:eP)(vs:V2)(H:Hp)(Q:VK)(E:XK):Prop
 |mk(W:ao)(n p:Nat)(ro:Role)(wd:aO)(L:p_)(c:bw)(_:vs=[.ref W,nI n,nI p])(_:WR t H ro W id wd L c)(_:a_ wd n=ac)(_:xK c)(_:∀H' ro',WR t H' ro' W id (zP wd n p) L (lv c λe=>!e.places)->Kp (λx=>WP x/\x≠.thing n) H ro H' ro'->Q .iy H')
theorem Dl(T:Txt K mg t):(3<*88) ["self","number","holder"] (CO t):=by
 refine T.m.G88.F.ok2 ["self","number","holder"] ?_;obtain⟨W,n,p,ro,wd,L,c,rfl,hW,hn,hc,k⟩;refine⟨_,(ap (dM (fW hu (bb (pv 0) Z) (pv 1) (λ_ _=>rfl)) (pv 2) Z)
  (aH (cv (w? (bb (pv 0) Z) T.cp T.m.G7.me (t? T) (hr.mono dk) T.m.G7.b .nil dD)))),?_⟩
 obtain⟨dx,kd,td,il,ca,X⟩:=id hW;obtain⟨ta,Am,Aa,yD⟩:=id X.ts;obtain⟨zl,d,te,rt,hd,rd⟩:=id (yD n hn);refine⟨_,Z,_,Z,_,_,_,_,_,Z,X.obj,T.bj,T.bT,Z,_,Z,_,_,Z,l3 (.inl Am) (cw.mpr hn),_,_,_,_,Z,te,T.ip,T.gW,(by show 3<1000;decide),?_⟩;have k1:Kp (· ≠.thing n) H ro (upd H (ta n) (.ins t.Thing zl (pV (nI (bh wd n).kind) (nI p) (.ref d)))) ro:=Kp.put rt;have xr:(upd H (ta n) (.ins t.Thing zl (pV (nI (bh wd n).kind) (nI p) (.ref d)))) (ta n)=aa (.ins t.Thing zl (pV (nI (bh wd n).kind) (nI p) (.ref d))):=ak;show(λH1=>_) (upd H (ta n) (.ins t.Thing zl (pV (nI (bh wd n).kind) (nI p) (.ref d))));generalize upd H (ta n) (.ins t.Thing zl (pV (nI (bh wd n).kind) (nI p) (.ref d)))=H1 at k1 xr;have X1:WA t H1 ro W dx kd td il ca id (zP wd n p) L c:=by
  obtain⟨e1,r1⟩:=k1 W _ X.obj (by rw[X.vn];exact nofun);refine⟨?_,X.vn,X.ks.kp k1 nofun nofun λ_=>nofun,⟨ta,?_,Aa,λm hm=>?_⟩,X.ix.kp k1 nofun nofun (λ_=>nofun) (λ_=>nofun),X.ca.kp k1 nofun nofun nofun nofun⟩
  ·rw[k?];exact e1
  ·rw[HW hn];exact(k1 _ _ Am (by rw[Aa];exact nofun)).1
  ·rw[lW hn]at hm;rw[Bt hn (b? hm).1];by_cases rV:m=n
   ·subst rV;rw[aC Z];exact⟨zl,d,xr,rt,(hd.kp k1 (by rw[rd];exact nofun)).1,rd⟩
   ·rw[aw rV];exact(yD m hm).kp k1 (λz=>rV (Tag.thing.inj z)) nofun
 obtain⟨dc,el,mB,C⟩:=id X1.ca;refine⟨_,Z,_,_,_,_,_,Z,X1.obj,T.bj,T.eK,Z,_,_,_,Z,C.obj,Z,ca,Z,ro,c,X1.ca,hc,λH2 nF c2 k2=>?_⟩;exact k H2 nF ⟨dx,kd,td,il,ca,X1.cache k2 c2⟩ ((k1.mono λx q=>q.2).trans (k2.mono λx q=>q.1.2))
def ab':Tag->Prop:=λx=>WP x/\x≠.things/\x≠.wE
inductive CP(t:eP)(vs:V2)(H:Hp)(Q:VK)(E:XK):Prop
 |mk(W:ao)(kk p:Nat)(ro:Role)(wd:aO)(L:p_)(c:bw)(_:vs=[.ref W,nI kk,nI p])(_:WR t H ro W id wd L c)(_:p8 (sQ wd kk p))(_:wj L)(_:xK c)(_:∀H' ro',WR t H' ro' W id (sQ wd kk p) (L.map (TW (sQ wd kk p) (wd.things.length+1))) (lv c λ_=>ae)->Kp ab' H ro H' ro'->Q (nI (wd.things.length+1)) H')
theorem Dm(T:Txt K mg t):(5<*86) ["self","kind","holder"] (CP t):=by
 refine T.m.G86.F.ok2 ["self","kind","holder","index"] ?_;obtain⟨W,kk,p,ro,wd,L,c,rfl,hW,ok,hL,hc,k⟩;refine⟨_,(ap (nQ (pv 0) aN yC)
  (ap (w9 hu (bb (pv 0) Z) (bb (pv 0) Z) (lS T.UW (Dq T) (hr.mono dk) Z T.Qs T.m.G31.b .nil dD (ah (pv 1) (ah (pv 2) ax))) Z)
  (ap (jI bY Z (dH (bb (pv 0) Z)) (cJ (i:=3) nd Z (bi Z))
  (aH (cv (cZ (pv 3) T.eC T.m.G74.me (ox T) (hr.mono dk) T.m.G74.b .nil dD (ah (bb (pv 0) Z) (ah (cZ (pv 0) T.bj T.m.G81.me (kY T) (hr.mono dk) T.m.G81.b .nil dD (ah (bb (pv 0) Z) (ah (bb (pv 3) Z) ax))) ax))))))
  (ap (cv (w? (bb (pv 0) Z) T.cp T.m.G8.me (lg T) (hr.mono dk) T.m.G8.b .nil dD))
  (aH (bo (bb (pv 0) Z))))))),?_⟩
 obtain⟨dx,kd,td,il,ca,X⟩:=id hW;obtain⟨ta,Am,Aa,yD⟩:=id X.ts;have hnh:a_ wd (wd.things.length+1)=ae:=by
  cases q:a_ wd (wd.things.length+1)with
  |false=>rfl
  |true=>have:=(b? q).2;lia
 have W9:wd.things.length+1<=200:=by
  have:=ok.tl;rw[aQ]at this;exact this
 refine⟨_,Z,_,_,_,_,_,Z,X.obj,T.bj,T.i_,Z,_,_,Z,Z,_,_,X.obj,(by show 5<1000;decide),?_⟩;have k1:Kp (· ≠.wE) H ro (upd H W (.ins t.World dx (rZ (.ref kd) (.ref td) (nI (wd.things.length+1)) (.ref il) (.ref ca)))) ro:=Kp.put X.vn;have JM:(upd H W (.ins t.World dx (rZ (.ref kd) (.ref td) (nI (wd.things.length+1)) (.ref il) (.ref ca)))) W=aa (.ins t.World dx (rZ (.ref kd) (.ref td) (nI (wd.things.length+1)) (.ref il) (.ref ca))):=ak;show(λH1=>_) (upd H W (.ins t.World dx (rZ (.ref kd) (.ref td) (nI (wd.things.length+1)) (.ref il) (.ref ca))));generalize upd H W (.ins t.World dx (rZ (.ref kd) (.ref td) (nI (wd.things.length+1)) (.ref il) (.ref ca)))=H1 at k1 JM;refine⟨_,Z,_,Z,λx zl nx ub OH=>⟨x,zl,nI kk,nI p,Z,ak,λH2 d bt e2 abA ed=>⟨Z,?_⟩⟩⟩;have s2:=gb nx ub bt;have KE:H1 d=ab:=by
  cases q:H1 d with
  |none=>rfl
  |some o=>
   have iQ:d≠x:=λz=>by rw[z,ak]at abA;cases abA
   have ads:d≠zl:=λz=>by rw[z]at q;rw[ub]at q;cases q
   rw[aZ iQ,aZ ads,q]at abA
   cases abA
 have xd:x≠d:=λz=>by rw[<-z,e2]at ed;cases ed
 have yE:H2 td=aa (.dK (eS ta (aM wd))):=s2 _ _ (k1 _ _ Am (by rw[Aa];exact nofun)).1;have qg:=gM wd;refine⟨_,rfl,_,_,_,_,_,rfl,s2 _ _ JM,T.bj,T.bT,rfl,_,rfl,_,_,_,_,_,rfl,s2 _ _ JM,T.bj,T.i_,rfl,_,_,rfl,GA.k (k:=.inl ((wd.things.length+1:Nat):Int)) yE (by rw[af];exact aX (m:=200) (by lia) (by decide)),?_⟩;rw[QL (λz=>by rw[cw.mp z]at hnh;cases hnh)];generalize W_:i8 (i8 ro x (.thing (wd.things.length+1))) d (.own (wd.things.length+1))=nF;have k2:Kp (λ_=>True) H1 ro H2 nF:=λb o e _=>⟨s2 b o e,by rw[<-W_,fI (aL e KE),fI (aL e nx)]⟩;have KY:=(k1 _ _ Am (by rw[Aa];exact nofun)).1;have Zf:nF td= .things:=((k2 _ _ KY trivial).2).trans Aa;have rx:nF x= .thing (wd.things.length+1):=by rw[<-W_,fI xd,fm]
 have rdd:nF d= .own (wd.things.length+1):=by rw[<-W_,fm]
 generalize abE:(λm=>if m=wd.things.length+1 then x else ta m)=Py;have k3:Kp (· ≠.things) H2 nF (upd H2 td (.dK (eS Py (aM wd++[wd.things.length+1])))) nF:=Kp.put Zf;have QX:(upd H2 td (.dK (eS Py (aM wd++[wd.things.length+1])))) td=aa (.dK (eS Py (aM wd++[wd.things.length+1]))):=ak;generalize upd H2 td (.dK (eS Py (aM wd++[wd.things.length+1])))=H3 at k3 QX;have k23:Kp (· ≠.things) H1 ro H3 nF:=(k2.mono λ_ _=>trivial).trans k3;have QO:Kp (λx=>x≠.things/\x≠.wE) H ro H3 nF:=(k1.mono λx q=>q.2).trans (k23.mono λx q=>q.1);have Xr:H3 W=aa (.ins t.World dx (rZ (.ref kd) (.ref td) (nI (wd.things.length+1)) (.ref il) (.ref ca)))/\nF W= .wE:=by
  obtain⟨a1,a2⟩:=k23 _ _ JM (by rw[X.vn];exact nofun);exact⟨a1,a2.trans X.vn⟩
 have ZX:(sQ wd kk p).things.length=wd.things.length+1:=by rw[aQ];rfl
 have X3:WA t H3 nF W dx kd td il ca id (sQ wd kk p) L c:=by
  refine⟨by rw[ZX];exact Xr.1,Xr.2,X.ks.kp QO ⟨nofun,nofun⟩ ⟨nofun,nofun⟩ λ_=>⟨nofun,nofun⟩,⟨Py,?_,Zf,λm hm=>?_⟩,X.ix.kp QO ⟨nofun,nofun⟩ ⟨nofun,nofun⟩ (λ_=>⟨nofun,nofun⟩) (λ_=>⟨nofun,nofun⟩),X.ca.kp QO ⟨nofun,nofun⟩ ⟨nofun,nofun⟩ ⟨nofun,nofun⟩ ⟨nofun,nofun⟩⟩
  ·rw[HX];exact QX
  ·have YC:=(b? hm).1;rw[oE YC];rw[lX]at hm;by_cases rV:m=wd.things.length+1
   ·rw[aC rV];subst rV;have:Py (wd.things.length+1)=x:=by rw[<-abE];simp
    rw[this];refine⟨zl,d,(k3 _ _ e2 (by rw[rx];exact nofun)).1,rx,⟨[],(k3 _ _ ed (by rw[rdd];exact nofun)).1,gu,λq=>?_⟩,rdd⟩
    cases q with
    |inl z=>show ab=(if 0<=z then _ else _);split<;>rfl
    |inr z=>rfl
   ·rw[aw rV];have EC:a_ wd m=ac:=by simpa[rV]using hm
    have:Py m=ta m:=by rw[<-abE];simp[rV]
    rw[this];exact(yD m EC).kp QO ⟨nofun,nofun⟩ ⟨nofun,nofun⟩
 obtain⟨is,hI⟩:=id X3.ix;have aea:=dY hI.2.2.2;have xr:a_ (sQ wd kk p) (wd.things.length+1)=ac:=by rw[lX];simp
 refine⟨_,Z,_,_,_,_,_,Z,Xr.1,T.bj,T.dw,Z,il,Z,⟨_,bQ.of hI.1⟩,?_⟩;refine ij (K:=K) (a:=il) (xs:=is.map V.ref) (λj σ H'=>∃(v:Option V)(ro':Role),σ=[aa (.ref W),aa (nI kk),aa (nI p),v]/\Kp wg H3 nF H' ro'/\Ca t H' ro' il is (part (TW (sQ wd kk p) (wd.things.length+1)) L j))
  ⟨ab,nF,Z,Kp.refl,by rw[part0];exact hI⟩ (λi σ H' _ ⟨_,_,_,_,e⟩=>bQ.of e.1) ?_ ?_
 ·rintro j y σ H4 hy ⟨v,HQ,rfl,k4,K9⟩;rw[aA]at hy
  cases xu:is[j]? with
  |none=>rw[xu]at hy;cases hy
  |some i=>
   rw[xu]at hy
   cases hy;obtain⟨x5,hx,_⟩:=o5 hI.2.2.2 xu;obtain⟨x',Ci,hR⟩:=o5 K9.2.2.2 xu;rw[rJ hx]at Ci
   cases Ci;obtain⟨hE,VP⟩:=hL.2 x5 (aP hx);obtain⟨YG,A1,R1,D1,kvs,re,rows,Y⟩:=id hR;have X4:=X3.tD k4 ⟨is,K9⟩;have Ux:=(k4 _ _ Xr.1 (by rw[Xr.2];exact IF nofun nofun)).1;refine⟨_,Z,_,_,_,Z,Y.obj,Z,_,Z,_,_,_,_,_,Z,Ux,T.bj,T.i_,Z,_,Z,_,_,_,Z,Ux,Z,_,Z,_,_,_,_,_,Z,Ux,T.bj,T.i_,Z,_,Z,_,_,_,_,_,Z,Y.obj,T.eC,T.eI,Z,W,A1,wd.things.length+1,x5.1,HQ,id,sQ wd kk p,_,c,Z,Y.RK.1,om,⟨dx,kd,td,il,ca,X4⟩,.inl Z,ok,xr,λH5 p5 s5 np hp=>?_⟩;rw[AE]at hp;have k5:Kp (λ_=>True) H4 HQ H5 (i8 HQ p5 .ln):=Kp.fresh s5 np;refine⟨i,p5,wd.things.length+1,x5.1.map (eT (sQ wd kk p) (wd.things.length+1)),i8 HQ p5 .ln,x5.1,x5.2,Z,hp,fm,hR.kp k5 trivial trivial trivial,hE,W9,by rw[af];lia,λH6 abt Xq k6=>?_⟩;have k46:Kp (Js i) H4 HQ H6 abt:=(k5.mono λ_ _=>trivial).trans k6;refine⟨_,abt,Z,k4.trans (k46.mono λx q=>q.ix),?_⟩;rw[<-xf hx];rw[<-A7]at Xq;exact K9.put xu (rJ hx) k46 Xq
 ·rintro σ H4 ⟨v,HQ,rfl,k4,K9⟩;rw[af,aea,Be]at K9;have X4:=X3.tD k4 ⟨is,K9⟩;have Ux:=(k4 _ _ Xr.1 (by rw[Xr.2];exact IF nofun nofun)).1;obtain⟨dc,el,mB,C⟩:=id X4.ca;refine⟨_,Z,_,_,_,_,_,Z,X4.obj,T.bj,T.eK,Z,_,_,_,Z,C.obj,Z,ca,Z,HQ,c,X4.ca,hc,λH5 Sg c5 k5=>?_⟩;have hO5:=(k5 _ _ Ux (by rw[X4.vn];exact⟨nofun,nofun,nofun⟩)).1;refine⟨_,Z,_,_,_,_,_,Z,hO5,T.bj,T.i_,Z,k H5 Sg ⟨dx,kd,td,il,ca,X4.cache k5 c5⟩ ?_⟩;exact((QO.mono λx (q:ab' x)=>q.2).trans (k4.mono λx (q:ab' x)=>q.1.1)).trans (k5.mono λx (q:ab' x)=>q.1.2)
def v_(ts:V9)(x:V9×(Nat->Option xC)):V9×(Nat->Option xC):=(x.1,λn=>if n∈ts then ab else x.2 n)
def outF(n:Nat)(x:V9×(Nat->Option xC)):V9×(Nat->Option xC):=(x.1,gQ x.2 n ab)
theorem UK(ts:V9)(x:V9×(Nat->Option xC))(h:Tw.Ends x.2):(v_ ts x).1=x.1/\Tw.Ends (v_ ts x).2:=⟨rfl,λn r q=>by
 have q':(if n∈ts then ab else x.2 n)=aa r:=q;split at q'
 ·cases q'
 ·exact h n r q'⟩
theorem Oa(ts:V9)(n:Nat)(L:p_):(L.map (v_ ts)).map (outF n)=L.map (v_ (ts++[n])):=by
 rw[bv];apply cg;intro x _;simp only[iw,outF,v_]
 congr 1
 funext m;unfold gQ;by_cases h:m=n
 ·simp[h]
 ·by_cases h2:m∈ts<;>simp[h,h2]
theorem RC(L:p_):L.map (v_ [])=L:=by
 conv=>rhs;rw[<-jY L]
 apply cg;intro x _;simp[v_]
def aeB:Tag->Prop:=λx=>wg x/\x≠.things
inductive vk(t:eP)(vs:V2)(H:Hp)(Q:VK)(E:XK):Prop
 |mk(W N:ao)(xs:V9)(ro:Role)(wd:aO)(L:p_)(c:bw)(_:vs=[.ref W,.ref N])(_:WR t H ro W id wd L c)(_:IM H ro N (nz xs))(_:xs.Nodup)(_:(∀x∈xs,a_ wd x=ac))(_:wj L)(_:xK c)(_:∀H' ro',WR t H' ro' W id (nu wd xs) (L.map (v_ xs)) (lv c λ_=>ae)->Kp (λx=>WP x/\x≠.things) H ro H' ro'->Q .iy H')
theorem Do(T:Txt K mg t):(3<*87) ["self","numbers"] (vk t):=by
 refine T.m.G87.F.ok2 ["self","numbers","number","index"] ?_;obtain⟨W,N,xs,ro,wd,L,c,rfl,hW,hN,OK,k7,hL,hc,k⟩;refine⟨_,(ap (jI bY Z (dH (pv 1)) (cJ (i:=2) nd Z (bi Z))
  (ap (cv (Ba (bb (pv 0) Z) (pv 2) ⟨Z,Z,Z,Z⟩))
  (aH (jI bY Z (dH (bb (pv 0) Z)) (cJ (i:=3) nd Z (bi Z))
  (aH (cv (cZ (pv 3) T.eC T.m.G73.me (pB T) (hr.mono dk) T.m.G73.b .nil dD (ah (pv 2) ax))))))))
  (aH (cv (w? (bb (pv 0) Z) T.cp T.m.G8.me (lg T) (hr.mono dk) T.m.G8.b .nil dD)))),?_⟩
 obtain⟨dx,kd,td,il,ca,X⟩:=id hW;refine⟨_,Z,N,Z,⟨_,bQ.of hN.1⟩,?_⟩;refine ij (K:=K) (a:=N) (xs:=(nz xs).map V.int) (λj σ H'=>∃(v u:Option V)(ro':Role),σ=[aa (.ref W),aa (.ref N),v,u]/\Kp aeB H ro H' ro'/\WA t H' ro' W dx kd td il ca id (nu wd (xs.take j)) (L.map (v_ (xs.take j))) c)
  ⟨ab,ab,ro,Z,Kp.refl,by rw[D6,RC];exact X⟩ (λi σ H' _ ⟨_,_,_,_,k1,_⟩=>bQ.of (hN.kp k1 ⟨IF nofun nofun,nofun⟩).1) ?_ ?_
 ·rintro j y σ H1 hy ⟨v,u,kr,rfl,k1,X1⟩;obtain⟨n,Cm,rfl⟩:∃n,xs[j]? =aa n/\y=nI n:=by
   rw[aA,aA]at hy
   cases q:xs[j]? with
   |none=>rw[q]at hy;cases hy
   |some kk=>rw[q]at hy;exact⟨kk,Z,(bN hy).symm⟩
  have hb:∀x∈xs,1<=x/\x<=wd.things.length:=λx hx=>b? (k7 x hx);have hbt:∀x∈xs.take j,1<=x/\x<=wd.things.length:=λx hx=>hb x (List.mem_of_mem_take hx);have hnx:=k7 n (aP Cm);have Q0:n∉xs.take j:=λz=>by
   obtain⟨i,hi,e⟩:=vg.mp z;rw[ck]at hi;rw[O8]at e;have Uq:=(aY.mp Cm).1;have e3:xs[i]? =xs[j]? :=by rw[Cm,aR om,e]
   have:=(yT om OK).mp e3;lia
  have hh:a_ (nu wd (xs.take j)) n=ac:=by rw[oI hbt,hnx];simp[Q0]
  have hw2:nu wd (xs.take (j+1))=nu (nu wd (xs.take j)) [n]:=by
   rw[take_succ Cm];show s? _ _ _=s? _ (s? _ _ _) _;rw[O9]
  have ad?:L.map (v_ (xs.take (j+1)))=(L.map (v_ (xs.take j))).map (outF n):=by rw[Oa,take_succ Cm]
  have hLj:wj (L.map (v_ (xs.take j))):=hL.aeH _ (UK _);rw[hw2,ad?];generalize nu wd (xs.take j)=w1 at X1 hh;generalize L.map (v_ (xs.take j))=L1 at X1 hLj;have EI:∀x∈[n],1<=x/\x<=w1.things.length:=λx hx=>by
   rw[cX.mp hx];exact b? hh
  obtain⟨ta,Am,Aa,yD⟩:=id X1.ts;refine⟨_,Z,_,_,_,_,_,Z,X1.obj,T.bj,T.bT,Z,td,Z,.inl ⟨_,.inl Am⟩,_,Z,_,.inl (n:Int),_,Am,Z,Eb (cw.mpr hh),?_⟩;rw[Ud];have k2:Kp (· ≠.things) H1 kr (upd H1 td (.dK (eS ta ((aM w1).filter λm=>!decide (m=n))))) kr:=Kp.put Aa;have yE:(upd H1 td (.dK (eS ta ((aM w1).filter λm=>!decide (m=n))))) td=aa (.dK (eS ta ((aM w1).filter λm=>!decide (m=n)))):=ak;generalize upd H1 td (.dK (eS ta ((aM w1).filter λm=>!decide (m=n))))=H2 at k2 yE;have X2:WA t H2 kr W dx kd td il ca id (nu w1 [n]) L1 c:=by
   obtain⟨e1,r1⟩:=k2 W _ X1.obj (by rw[X1.vn];exact nofun);refine⟨by rw[(uS [n] w1).1];exact e1,X1.vn,?_,⟨ta,?_,Aa,λm hm=>?_⟩,X1.ix.kp k2 nofun nofun (λ_=>nofun) (λ_=>nofun),X1.ca.kp k2 nofun nofun nofun nofun⟩
   ·have:=X1.ks.kp k2 nofun nofun λ_=>nofun;exact this
   ·rw[HY EI];rw[yE];simp
   ·have YC:=(b? hm).1;rw[B4 EI YC];rw[oI EI]at hm;have rV:m≠n:=by
     intro z;rw[z]at hm;simp at hm
    have EC:a_ w1 m=ac:=by simpa[rV]using hm
    rw[aw (by simpa using rV)];exact(yD m EC).kp k2 nofun nofun
  obtain⟨is,hI⟩:=id X2.ix;have aea:=dY hI.2.2.2;refine⟨_,Z,_,_,_,_,_,Z,X2.obj,T.bj,T.dw,Z,il,Z,⟨_,bQ.of hI.1⟩,?_⟩;refine ij (K:=K) (a:=il) (xs:=is.map V.ref) (λm σ H'=>∃(u:Option V),σ=[aa (.ref W),aa (.ref N),aa (nI n),u]/\Kp wg H2 kr H' kr/\Ca t H' kr il is (part (outF n) L1 m))
   ⟨u,Z,Kp.refl,by rw[part0];exact hI⟩ (λi σ H' _ ⟨_,_,_,e⟩=>bQ.of e.1) ?_ ?_
  ·rintro m y σ H4 hy ⟨u,rfl,k4,K9⟩;rw[aA]at hy
   cases xu:is[m]? with
   |none=>rw[xu]at hy;cases hy
   |some i=>
    rw[xu]at hy
    cases hy;obtain⟨x5,hx,_⟩:=o5 hI.2.2.2 xu;obtain⟨x',Ci,hR⟩:=o5 K9.2.2.2 xu;rw[rJ hx]at Ci
    cases Ci;obtain⟨hE,VP⟩:=hLj.2 x5 (aP hx);obtain⟨YG,A1,R1,D1,kvs,re,rows,Y⟩:=id hR;refine⟨_,Z,_,_,_,Z,Y.obj,Z,_,Z,i,n,kr,x5.1,x5.2,Z,hR,hE,λH6 Xq k6=>?_⟩;refine⟨_,Z,k4.trans (k6.mono λx q=>q.ix),?_⟩;rw[<-xf hx];exact K9.put xu (rJ hx) k6 Xq
  ·rintro σ H4 ⟨u,rfl,k4,K9⟩;rw[af,aea,Be]at K9;exact⟨_,_,kr,Z,(k1.trans (k2.mono λx (q:aeB x)=>q.2)).trans (k4.mono λx (q:aeB x)=>q.1),X2.tD k4 ⟨is,K9⟩⟩
 ·rintro σ H1 ⟨v,u,kr,rfl,k1,X1⟩;rw[af,af,cB]at X1;obtain⟨dc,el,mB,C⟩:=id X1.ca;refine⟨_,Z,_,_,_,_,_,Z,X1.obj,T.bj,T.eK,Z,_,_,_,Z,C.obj,Z,ca,Z,kr,c,X1.ca,hc,λH5 Sg c5 k5=>?_⟩;exact k H5 Sg ⟨dx,kd,td,il,ca,X1.cache k5 c5⟩ ((k1.mono λx q=>⟨q.1.1,q.2⟩).trans (k5.mono λx q=>q.1.2))
section
variable{t:eP}{H H':Hp}{ro ro':Role}{W dx kd td il ca i:ao}{fz:HO->HO}{w:aO}{L:p_}{c:bw}{is:List ao}
theorem Ca.other(h:Ca t H ro il is L)(hi:i∉is)(k:Kp (Js i) H ro H' ro'):Ca t H' ro' il is L:=by
 obtain⟨e,rl,n,p⟩:=h;obtain⟨e',r'⟩:=k il _ e (by rw[rl];exact⟨nofun,nofun⟩);refine⟨e',r'.trans rl,n,vq (dY p) λm b y hb hy=>?_⟩;obtain⟨y',QV,z⟩:=o5 p hb;rw[hy]at QV
 cases QV;have iQ:b≠i:=λq=>hi (q▸aP hb);exact z.kp k ⟨nofun,nofun⟩ ⟨λq=>iQ (Tag.rows.inj q),nofun⟩ ⟨nofun,λq=>iQ (Tag.pf.inj q)⟩
theorem WA.other(h:WA t H ro W dx kd td il ca fz w L c)(k:Kp (Js i) H ro H' ro')(x:Oq t H' ro' il L):WA t H' ro' W dx kd td il ca fz w L c:=
 h.tD (k.mono λ_ q=>q.ix) x
end
def aa7:Tag->Prop:=λx=>wg x/\x≠.things/\x≠.indexes
inductive u5(t:eP)(vs:V2)(H:Hp)(Q:VK)(E:XK):Prop
 |mk(W A0:ao)(at_:V9)(ro:Role)(wd:aO)(L:p_)(c:bw)(_:vs=[.ref W,.ref A0])(_:WR t H ro W id wd L c)(_:IM H ro A0 (nz at_))(_:p8 wd)(_:at_.length<=3)(_:L.length<=6)(_:∀H' ro',WR t H' ro' W id wd (L++[(at_,kG wd at_)]) c->Kp aa7 H ro H' ro'->Q .iy H')
theorem va(T:Txt K mg t):(5<*89) ["self","attributes"] (u5 t):=by
 refine T.m.G89.F.ok2 ["self","attributes","index","number"] ?_;obtain⟨W,A0,at_,ro,wd,L,c,rfl,hW,hA,ok,VP,hL6,k⟩;refine⟨_,(ap (bM (i:=2) nd (lS T.UX (Dr T) (hr.mono dk) Z T.Qt T.m.G72.b .nil dD (ah (pv 1) ax)))
  (ap (FQ (jI bY Z (Ac (bb (pv 0) Z)) (cJ (i:=3) nd Z (bi Z))
  (aH (cv (cZ (pv 2) T.eC T.m.G74.me (ox T) (hr.mono dk) T.m.G74.b .nil dD (ah (pv 3) (ah (cZ (pv 0) T.bj T.m.G81.me (kY T) (hr.mono dk) T.m.G81.b .nil dD (ah (pv 3) (ah (pv 1) ax))) ax)))))))
  (aH (cv (jK bp dF dE jS (bb (pv 0) Z) (ah (pv 2) ax)))))),?_⟩
 obtain⟨dx,kd,td,il,ca,X⟩:=id hW;refine⟨_,Z,λi di nx ub OH=>⟨i,di,.ref A0,Z,ak,λH1 R D bt e1 nR eR nD eD neq=>⟨Z,?_⟩⟩⟩;have s1:=gb nx ub bt;have free:∀{b:ao},(upd (upd H di (.own i)) i (.ins t.Index di [])) b=ab->H b=ab:=λ{b} hb=>by
  cases q:H b with
  |none=>rfl
  |some o=>
   rw[aZ (aL q nx),aZ (aL q ub),q]at hb
   cases hb
 have fR:=free nR;have fD:=free nD;have iR:i≠R:=λz=>by rw[<-z,e1]at eR;cases eR
 have iD:i≠D:=λz=>by rw[<-z,e1]at eD;cases eD
 generalize IQ:i8 (i8 (i8 ro i .ln) R (.rows i)) D (.pf i)=kr;have k1:Kp (λ_=>True) H ro H1 kr:=λb o e _=>⟨s1 b o e,by rw[<-IQ,fI (aL e fD),fI (aL e fR),fI (aL e nx)]⟩;have OO:Cb t H1 kr i at_ (λ_=>ab):=by
  refine⟨di,A0,R,D,[],[],[],e1,by rw[<-IQ,fI iD,fI iR,fm],hA.kp k1 trivial,eR,by rw[<-IQ,fI neq,fm],.nil,⟨kF,λr=>by simp⟩,eD,by rw[<-IQ,fm],gu,?_,?_⟩
  ·intro q v z;cases z
  ·intro n r z;cases z
 have X1:WA t H1 kr W dx kd td il ca id wd L c:=by
  obtain⟨YI,kd',td',il',ca',X'⟩:=hW.kp k1;obtain⟨rfl,rfl,rfl,rfl,rfl⟩:=X.adr X' λo h=>(k1 _ _ h trivial).1;exact X'
 obtain⟨is,hIs⟩:=id X1.ix;have Q0:i∉is:=λz=>by
  obtain⟨m,hm⟩:=uD.mp z;obtain⟨is0,aav⟩:=id X.ix;have e0:=s1 _ _ aav.1;rw[hIs.1]at e0;have e2:is=is0:=by
   injection e0 with e0
   injection e0 with e0
   exact(List.map_inj_right (λa b (h:V.ref a=V.ref b)=>V.ref.inj h)).mp e0
  rw[e2]at hm;obtain⟨x,_,⟨_,_,_,_,_,_,_,Y⟩⟩:=o5 aav.2.2.2 hm;rw[Y.obj]at nx
  cases nx
 obtain⟨ta,⟨Am,Aa,yD⟩,Q2⟩:=X1.lock;refine⟨td,.dK (eS ta (aM wd)),Am,trivial,λod=>?_⟩;obtain⟨X2,k2⟩:=Q2 od;have yE:(upd H1 td (.jT od (.dK (eS ta (aM wd))))) td=aa (.jT od (.dK (eS ta (aM wd)))):=ak;generalize upd H1 td (.jT od (.dK (eS ta (aM wd))))=H2 at X2 k2 yE;have Yz:=OO.kp k2 nofun nofun nofun;have YB:=(hA.kp k1 trivial).kp k2 nofun;have aau:Ca t H2 kr il is L:=by
  obtain⟨e,rl,n,p⟩:=hIs;exact⟨(k2 _ _ e (by rw[rl];exact nofun)).1,rl,n,dI (λ_ _ z=>z.kp k2 nofun nofun nofun) p⟩
 refine⟨_,Z,_,_,_,_,_,Z,X2.obj,T.bj,T.bT,Z,td,od,Z,.inl ⟨_,yE,?_⟩⟩;refine An (n:=(aM wd).length) (λj σ H'=>∃(v:Option V)(ro':Role),σ=[aa (.ref W),aa (.ref A0),aa (.ref i),v]/\Kp (Js i) H2 kr H' ro'/\Cb t H' ro' i at_ (λm=>if m∈(aM wd).take j then fK wd at_ m else ab))
  ⟨ab,kr,Z,Kp.refl,by simpa using Yz⟩ ?_ ?_ ?_ ?_
 ·rintro σ H3 ⟨v,w6,rfl,k3,_⟩;exact⟨(k3 _ _ yE (by rw[Aa];exact⟨nofun,nofun⟩)).1,by rw[af];exact aS _⟩
 ·rintro j σ H3 hj ⟨v,w6,rfl,k3,_⟩;exact⟨(k3 _ _ yE (by rw[Aa];exact⟨nofun,nofun⟩)).1,by rw[af];exact hj⟩
 ·rintro j σ H3 x H4 hj ⟨v,w6,rfl,k3,abU⟩ ⟨rfl,k',v',NW,rfl⟩;obtain⟨n,Cm,Sn,rfl⟩:=Al NW;rw[Sn];have hn:=cw.mp (aP Cm);have X3:=X2.other k3 ⟨is,aau.other Q0 k3⟩;have YA:=YB.kp k3 ⟨nofun,nofun⟩;obtain⟨YG,A1,R1,D1,kvs,re,rows,Y⟩:=id abU;refine⟨_,Z,_,_,_,Z,Y.obj,Z,_,Z,_,Z,_,_,_,Z,X3.obj,Z,_,Z,_,Z,W,A0,n,at_,w6,_,wd,L,c,Z,YA.1,om,⟨dx,kd,td,il,ca,X3⟩,.inr ⟨od,Z⟩,ok,hn,λH5 p5 s5 np hp=>?_⟩;rw[AE]at hp;have k5:Kp (λ_=>True) H4 w6 H5 (i8 w6 p5 .ln):=Kp.fresh s5 np;refine⟨i,p5,n,at_.map (eT wd n),i8 w6 p5 .ln,at_,_,Z,hp,fm,abU.kp k5 trivial trivial trivial,λm r q=>?_,aB (b? hn).2 ok.tl,by rw[af];lia,λH6 abt Xq k6=>?_⟩
  ·split at q
   ·exact HM q
   ·cases q
  ·refine⟨_,abt,Z,k3.trans ((k5.mono λ_ _=>trivial).trans k6),?_⟩;rw[<-A7]at Xq;have:(λm=>if m∈(aM wd).take (j+1)then fK wd at_ m else ab)=gQ (λm=>if m∈(aM wd).take j then fK wd at_ m else ab) n (fK wd at_ n):=by
    funext m;unfold gQ;rw[take_succ Cm];by_cases h:m=n
    ·simp[h]
    ·simp[h]
   rw[this];exact Xq
 ·rintro σ H3 ⟨v,w6,rfl,k3,abU⟩;have QX:=(k3 _ _ yE (by rw[Aa];exact⟨nofun,nofun⟩)).1;have aat:=aau.other Q0 k3;have X3:=X2.other k3 ⟨is,aat⟩;refine⟨QX,?_⟩;obtain⟨X4,k4⟩:=X3.unlock QX;have K9:=abU.kp k4 nofun nofun nofun;have K8:Ca t (upd H3 td (.dK (eS ta (aM wd)))) w6 il is L:=by
   obtain⟨e,rl,n,p⟩:=aat;exact⟨(k4 _ _ e (by rw[rl];exact nofun)).1,rl,n,dI (λ_ _ z=>z.kp k4 nofun nofun nofun) p⟩
  have add:(λm=>if m∈(aM wd).take (aM wd).length then fK wd at_ m else ab)=kG wd at_:=by
   funext m;unfold kG;rw[cB];by_cases h:a_ wd m=ac
   ·rw[aC (cw.mpr h),aC h]
   ·rw[aw (λz=>h (cw.mp z)),aw h]
  rw[add]at K9;have c6:=dY K8.2.2.2;refine⟨_,Z,_,_,_,_,_,Z,X4.obj,T.bj,T.dw,Z,.inl ⟨Z,_,bQ.of K8.1⟩,_,Z,il,_,_,Z,Z,K8.1,by rw[af];exact aX (m:=6) om dk,?_⟩;have k5:∀o,Kp (· ≠.indexes) _ w6 (upd (upd H3 td (.dK (eS ta (aM wd)))) il o) w6:=λo=>Kp.put K8.2.1;refine k _ w6 ⟨dx,kd,td,il,ca,?_⟩ ?_
  ·obtain⟨e6,r6⟩:=k5 _ W _ X4.obj (by rw[X4.vn];exact nofun);refine⟨e6,X4.vn,X4.ks.kp (k5 _) nofun nofun λ_=>nofun,X4.ts.kp (k5 _) nofun (λ_ _=>nofun) (λ_ _=>nofun),⟨is++[i],?_,K8.2.1,?_,?_⟩,X4.ca.kp (k5 _) nofun nofun nofun nofun⟩
   ·rw[ak,bz];rfl
   ·rw[O7];refine⟨K8.2.2.1,by simp,λa ha b hb=>?_⟩;have:b=i:=by simpa using hb
    subst this;exact λz=>Q0 (z▸ha)
   ·exact t9 (dI (λ_ _ z=>z.kp (k5 _) nofun nofun nofun) K8.2.2.2) (.cons (K9.kp (k5 _) nofun nofun nofun) .nil)
  ·exact((((k1.mono λ_ _=>trivial).trans (k2.mono λx (q:aa7 x)=>q.2.1)).trans (k3.mono λx (q:aa7 x)=>q.1.ix)).trans (k4.mono λx (q:aa7 x)=>q.2.1)).trans ((k5 _).mono λx (q:aa7 x)=>q.2.2)
inductive CS(t:eP)(vs:V2)(H:Hp)(Q:VK)(E:XK):Prop
 |mk(p dx:ao)(_:vs=[.ref p])(_:H p=aa (.ins t.World dx []))(_:∀H' ro',WR t H' ro' p id {} [] {}->vE p H H'->(∀b o,H b=aa o->b≠p->ro' b= .ln)->Q .iy H')
theorem Dn(T:Txt K mg t):(3<*76) ["self"] (CS t):=by
 refine T.m.G76.F.ok2 ["self"] ?_;obtain⟨p,dx,rfl,h0,k⟩;refine⟨_,(ap (dM (pv 0) qA Z)
  (ap (dM (pv 0) qA Z)
  (ap (dM (pv 0) aN Z)
  (ap (dM (pv 0) (cn ax) Z)
  (aH (dM (pv 0) (lS T.MS (vw T) (hr.mono dk) Z T.Iw T.m.G1.b .nil dD (ah aN (ah aN ax))) Z)))))),?_⟩
 intro kd JL;have pk:p≠kd:=aL h0 JL;refine⟨_,Z,_,_,_,_,Z,ups pk h0,T.bj,T.c?,(by show 0<1000;decide),?_⟩;have b1:∀o,vE p H (upd (upd H kd (.dK [])) p o):=λo=>vE.ace (a7.upd JL);have e1:∀o,(upd (upd H kd (.dK [])) p o) kd=aa (.dK []):=λo=>ups (a8 pk) ak;have p1:∀o,(upd (upd H kd (.dK [])) p o) p=aa o:=λo=>ak;intro td Am;have pt:p≠td:=aL (p1 _) Am;have kt:kd≠td:=aL (e1 _) Am;refine⟨_,Z,_,_,_,_,Z,ups pt (p1 _),T.bj,T.bT,(by show 1<1000;decide),?_⟩;refine⟨_,Z,_,_,_,_,Z,ak,T.bj,T.i_,(by show 2<1000;decide),?_⟩;have ftd:H td=ab:=by
  cases q:H td with
  |none=>rfl
  |some u=>
   have:=b1 (HO.ins t.World dx (b_ (al "kinds") (V.ref kd) [])) _ _ (a8 pt) q;rw[Am]at this
   cases this
 refine⟨(by show 0<=aE;decide),λil So=>?_⟩;have pi:p≠il:=aL ak So;have ki:kd≠il:=aL (ups (a8 pk) (ups (a8 pk) (ups kt (e1 _)))) So;have ti:td≠il:=aL (ups (a8 pt) (ups (a8 pt) ak)) So;refine⟨_,Z,_,_,_,_,Z,ups pi ak,T.bj,T.dw,(by show 3<1000;decide),?_⟩;have fil:H il=ab:=by
  cases q:H il with
  |none=>rfl
  |some u=>
   rw[aZ (a8 pi),aZ (a8 pi),aZ (a8 ti),aZ (a8 pi),aZ (a8 ki),q]at So
   cases So
 refine λca dc nx ub OH=>⟨ca,dc,.int 0,.int 4,Z,ak,λH5 el bt e5 TX Sx=>⟨Z,?_⟩⟩;have s5:=gb nx ub bt;have p5:=s5 p _ ak;have Z5:=s5 kd _ (ups (a8 pk) (ups ki (ups (a8 pk) (ups (a8 pk) (ups kt (e1 _))))));have ZO:=s5 td _ (ups (a8 pt) (ups ti (ups (a8 pt) (ups (a8 pt) ak))));have adP:=s5 il _ (ups (a8 pi) ak);have pc:p≠ca:=aL ak nx;have kc:kd≠ca:=aL (ups (a8 pk) (ups ki (ups (a8 pk) (ups (a8 pk) (ups kt (e1 _)))))) nx;have tc:td≠ca:=aL (ups (a8 pt) (ups ti (ups (a8 pt) (ups (a8 pt) ak)))) nx;have ic:il≠ca:=aL (ups (a8 pi) ak) nx;have ce:ca≠el:=λz=>by rw[<-z,e5]at Sx;cases Sx
 have pe:p≠el:=lh p5 Sx (by intro q;cases q);have ke:kd≠el:=lh Z5 Sx (by intro q;cases q);have te:td≠el:=lh ZO Sx (by intro q;cases q);have ie:il≠el:=λz=>by
  rw[<-z]at TX;rw[aZ ic]at TX;have Xh:il≠dc:=aL (ups (a8 pi) ak) ub;rw[aZ Xh,aZ (a8 pi),ak]at TX
  cases TX
 refine⟨_,Z,_,_,_,_,Z,p5,T.bj,T.eK,(by show 4<1000;decide),?_⟩;have fr:∀b o,H b=aa o->b≠p->b≠kd/\b≠td/\b≠il:=λb o e n=>⟨aL e JL,aL e ftd,aL e fil⟩;have b4:∀b o,H b=aa o->b≠p->H5 b=aa o:=λb o e n=>by
  obtain⟨n1,n2,n3⟩:=fr b o e n;exact s5 b _ (ups n (ups n3 (ups n (ups n (ups n2 (ups n (ups n1 e)))))))
 have nca:∀b o,H b=aa o->b≠p->b≠ca/\b≠el:=λb o e n=>by
  obtain⟨n1,n2,n3⟩:=fr b o e n;have hc:=aL (ups n (ups n3 (ups n (ups n (ups n2 (ups n (ups n1 e))))))) nx;have Xl:=aL (ups n (ups n3 (ups n (ups n (ups n2 (ups n (ups n1 e))))))) ub;refine⟨hc,λz=>?_⟩;rw[<-z,aZ hc,aZ Xl,aZ n,aZ n3,aZ n,aZ n,aZ n2,aZ n,aZ n1,e]at TX
  cases TX
 refine k _ (λb=>if b=p then .wE else if b=kd then .kinds else if b=td then .things else if b=il then .indexes else if b=ca then .cache else if b=el then .xA else .ln) ⟨dx,kd,td,il,ca,?_⟩ (λb o n e=>ups n (b4 b o e n)) (λb o e n=>?_)
 ·refine⟨ak,aC Z,⟨λ_=>0,ups (a8 pk) Z5,?_,λq h1 h2=>?_⟩,⟨λ_=>0,ups (a8 pt) ZO,?_,λn hn=>?_⟩,⟨[],ups (a8 pi) adP,?_,gu,.nil⟩,⟨dc,el,[],ups (a8 pc) e5,?_,ups (a8 pe) Sx,?_,gu,.nil⟩⟩
  ·simp[a8 pk]
  ·have:q<=0:=h2;lia
  ·simp[a8 pt,a8 kt]
  ·have:=(b? hn).2;have h0':n<=0:=this;have:=(b? hn).1;lia
  ·simp[a8 pi,a8 ki,a8 ti]
  ·simp[a8 pc,a8 kc,a8 tc,a8 ic]
  ·simp[a8 pe,a8 ke,a8 te,a8 ie,a8 ce]
 ·obtain⟨n1,n2,n3⟩:=fr b o e n;obtain⟨n4,n5⟩:=nca b o e n;simp[n,n1,n2,n3,n4,n5]
theorem Zw :(nI a=nI b)↔a=b:=⟨λh=>by have:=V.int.inj h;lia,λh=>by rw[h]⟩
theorem v?(a b:Nat):decide (nI a=nI b)=decide (a=b):=by
 by_cases h:a=b
 ·rw[aI h,aI (by rw[h])]
 ·rw[ay h,ay (λz=>h (Zw.mp z))]
theorem pI(a:Nat):decide (nI a=V.int 0)=decide (a=0):=v? a 0
theorem mV(a k:Nat)(e:z=(k:Int)):decide (nI a=V.int z)=decide (a=k):=by rw[e];exact v? a k
theorem pJ(a b:Int):decide (V.int a=V.int b)=decide (a=b):=by
 by_cases h:a=b
 ·rw[aI h,aI (by rw[h])]
 ·rw[ay h,ay (λz=>h (V.int.inj z))]
theorem LL.Vv(e:H a=aa (.lst ys))(p:ci (RL H) ys l):LL H a l:=by
 have:∃as:List ao,ys=as.map V.ref/\ci (IL H) as l:=by
  clear e
  induction p with
  |nil=>exact⟨[],Z,.nil⟩
  |cons h t ih=>
   obtain⟨as,e,q⟩:=ih;obtain⟨b,rfl,hb⟩:=h;exact⟨b::as,by rw[e];rfl,.cons hb q⟩
 obtain⟨as,rfl,q⟩:=this;exact⟨as,e,q⟩
inductive PH(vs:V2)(H:Hp)(Q:VK)(E:XK):Prop
 |mk(K7:Option Int)(op:Nat)(to:Int)(_:vs=[vV K7,nI op,.int to])(_:Q (.bl (kf K7 op to)) H)
theorem Ic(T:Txt K mg t):(1<*24) ["had","relation","value"] PH:=by
 refine T.f.G24.F.ok2 ["had","relation","value"] ?_;obtain⟨K7,op,to,rfl,k⟩;refine⟨_,(ap (de (bR FV (pv 0) ou (bU _)) (aH (bo (gJ fZ (pv 1) aN (bU _)))) bS)
  (ap (de (bR fZ (pv 1) aN (bU _)) (aH (bo (gJ fZ (pv 0) (pv 2) (bU _)))) bS)
  (ap (de (bR fZ (pv 1) aN (bU _)) (aH (bo (gJ Bh (pv 0) (pv 2) (bU _)))) bS)
  (ap (de (bR fZ (pv 1) aN (bU _)) (aH (bo (gJ vt (pv 0) (pv 2) (bU _)))) bS)
  (ap (de (bR fZ (pv 1) aN (bU _)) (aH (bo (gJ y8 (pv 0) (pv 2) (bU _)))) bS)
  (ap (de (bR fZ (pv 1) aN (bU _)) (aH (bo (gJ Qc (pv 0) (pv 2) (bU _)))) bS)
  (ap (de (bR fZ (pv 1) aN (bU _)) (aH (bo (gJ Bg (pv 0) (pv 2) (bU _)))) bS)
  (aH (bo (gJ fZ (pv 1) aN (bU _))))))))))),?_⟩
 cases K7 with
 |none=>
  refine⟨_,Z,Z,_,Z,cI ⟨_,Z,Z,?_⟩⟩;rw[mV op 7 (z:=7) Z];have e:kf ab op to=decide (op=7):=by show(op==7)=_;by_cases h:op=7<;>simp[h]
  rw[e]at k;exact k
 |some x=>
  refine⟨_,Z,Z,_,Z,cy ⟨_,Z,Z,_,Z,?_⟩⟩;rw[mV op 0 (z:=0) Z];unfold kf at k;simp only at k;by_cases h0:op=0
  ·rw[aC h0]at k;rw[aI h0];refine cI ⟨_,Z,_,Z,Z,?_⟩;have e:(x==to)=decide (V.int x=V.int to):=by rw[pJ];by_cases h:x=to<;>simp[h]
   rw[e]at k;exact k
  rw[aw h0]at k;rw[ay h0];refine cy ⟨_,Z,Z,_,Z,?_⟩;rw[mV op 1 (z:=1) Z];by_cases h1:op=1
  ·rw[aC h1]at k;rw[aI h1];exact cI ⟨_,Z,_,Z,_,_,Z,Z,k⟩
  rw[aw h1]at k;rw[ay h1];refine cy ⟨_,Z,Z,_,Z,?_⟩;rw[mV op 2 (z:=2) Z];by_cases h2:op=2
  ·rw[aC h2]at k;rw[aI h2];exact cI ⟨_,Z,_,Z,_,_,Z,Z,k⟩
  rw[aw h2]at k;rw[ay h2];refine cy ⟨_,Z,Z,_,Z,?_⟩;rw[mV op 3 (z:=3) Z];by_cases h3:op=3
  ·rw[aC h3]at k;rw[aI h3];exact cI ⟨_,Z,_,Z,_,_,Z,Z,k⟩
  rw[aw h3]at k;rw[ay h3];refine cy ⟨_,Z,Z,_,Z,?_⟩;rw[mV op 4 (z:=4) Z];by_cases h4:op=4
  ·rw[aC h4]at k;rw[aI h4];exact cI ⟨_,Z,_,Z,_,_,Z,Z,k⟩
  rw[aw h4]at k;rw[ay h4];refine cy ⟨_,Z,Z,_,Z,?_⟩;rw[mV op 5 (z:=5) Z];by_cases h5:op=5
  ·rw[aC h5]at k;rw[aI h5];refine cI ⟨_,Z,_,Z,Z,?_⟩;have e:(x != to)= !decide (V.int x=V.int to):=by rw[pJ];by_cases h:x=to<;>simp[h]
   rw[e]at k;exact k
  rw[aw h5]at k;rw[ay h5];refine cy ⟨_,Z,Z,?_⟩;rw[mV op 6 (z:=6) Z];have e:(op==6)=decide (op=6):=by by_cases h:op=6<;>simp[h]
  rw[e]at k;exact k
inductive CM(vs:V2)(H:Hp)(Q:VK)(E:XK):Prop
 |mk(K7:Option Int)(C:ao)(cs:List JA)(_:vs=[vV K7,.ref C])(_:LL H C (cs.map dO))(_:cs.length<=1000)(_:∀H',a7 H H'->Q (.bl (cs.all λc=>kf K7 c.op c.to)) H')
theorem Dd(T:Txt K mg t):(2<*25) ["had","conditions"] CM:=by
 refine T.f.G25.F.ok2 ["had","conditions","condition"] ?_;obtain⟨K7,C,cs,rfl,hC,c6,k⟩;refine⟨_,(aH (bo (bF (RH Z) Z T.all boot_all (ah (mr (own:=[("condition",2)]) Z nd (dH (pv 1)) (eE (N:=["had","conditions","condition"]) (sc:=cj wS) dK) (λ_ _ _ _ _=>cJ (i:=2) nd Z (bi Z)) (λ_ _ _ _ _=>i9) (λ_ _ _ _ _=>(j9 (Ic T) (hr.mono dk) Z T.f.G24 (ah (pv 0) (ah (cu (kK (K:=K) Z) (pv 2) aN (λ_ _=>rfl)) (ah (cu (kK (K:=K) Z) (pv 2) aN (λ_ _=>rfl)) ax)))))) ax)))),?_⟩;obtain⟨ys,e,p⟩:=hC.rl;refine⟨_,Z,C,Z,⟨_,bQ.of e⟩,λD hD=>mU (K:=K) (l:=cs) (Ri:=λy x=>RL H y (dO x)) (λc=>V.bl (kf K7 c.op c.to)) hD (bQ.of e) (kP p) (aX c6 dk) ?_ ?_⟩
 ·intro i x y H2 Kt hx hy hR s2 ht;obtain⟨b,rfl,hb⟩:=hR;have ur:H2 b=aa (.lst [nI x.attr,nI x.op,.int x.to]):=s2 _ _ hb;exact⟨Z,_,Z,_,Z,_,_,_,_,Z,Z,bQ.of ur,at_of (j:=1) Z Z,_,Z,_,_,_,_,Z,Z,bQ.of ur,at_of (j:=2) Z Z,K7,x.op,x.to,Z,ht _ (a7.refl _)⟩
 ·intro H' s' e';refine⟨D,cs.map λc=>kf K7 c.op c.to,Z,bQ.of (by rw[bv];exact e'),?_⟩;have:(cs.map λc=>kf K7 c.op c.to).all id=cs.all λc=>kf K7 c.op c.to:=by rw[JH];rfl
  rw[this];exact k H' s'
inductive wK(t:eP)(vs:V2)(H:Hp)(Q:VK)(E:XK):Prop
 |mk(q:ao)(a lo hi:Nat)(ro:Role)(l:xC)(qq:bu)(_:vs=[.ref q,nI a,nI lo,nI hi])(_:QR t H ro q l qq)(_:qq.conds.length<=6)(_:∀H' p,a7 H H'->H p=ab->LL H' p ((eg qq a lo hi).map dO)->Q (.ref p) H')
theorem lT(T:Txt K mg t):(1<*26) ["question","attribute","lowest","highest"] (wK t):=by
 refine T.f.G26.F.ok2 ["question","attribute","lowest","highest","named","condition"] ?_;obtain⟨q,a,lo,hi,ro,l,qq,rfl,hQ,h6,k⟩;refine⟨_,(ap (qz (i:=4) (own:=[("condition",5)]) Z nd Z Z (by with_unfolding_all rfl) (dH (bb (pv 0) Z)) (eE (N:=["question","attribute","lowest","highest","named","condition"]) (sc:=cj mK) dK) (λ_ _ _ _ _=>cJ (i:=5) nd Z (bi Z)) (λ_ _ _ _ _=>nG (bR fZ (cu (kK (K:=K) Z) (pv 5) aN (λ_ _=>rfl)) (pv 1) (bU _))) (λ_ _ _ _ _=>(pv 5)))
  (aH (bo (mr (own:=[("condition",5)]) Z nd (dH (pv 4)) (eE (N:=["question","attribute","lowest","highest","named","condition"]) (sc:=cj mK) dK) (λ_ _ _ _ _=>cJ (i:=5) nd Z (bi Z)) (λ_ _ _ _ _=>nG (HV vt vt (pv 2) (cu (kK (K:=K) Z) (pv 5) aN (λ_ _=>rfl)) (pv 3))) (λ_ _ _ _ _=>(pv 5)))))),?_⟩
 obtain⟨dq,N,Cs,Ss,As,Y⟩:=id hQ;obtain⟨ys,e,p⟩:=Y.cs.ll.rl;refine⟨_,Z,_,_,_,_,_,Z,Y.obj,T.cO,T.f6,Z,Cs,Z,⟨_,bQ.of e⟩,λD hD=>yx (K:=K) (l:=qq.conds) (Ri:=λy x=>RL H y (dO x)) (Ro:=λH' y x=>RL H' y (dO x)) (λx=>if x.attr==a then aa x else ab) (λH H' y b s h=>h.same s) hD (bQ.of e) (kP p) (aX h6 dk) ?_ ?_⟩
 ·intro i x y H2 acc Kt Kf hx hy hR s2 fF ht hf;obtain⟨b,rfl,hb⟩:=hR;have ur:H2 b=aa (.lst [nI x.attr,nI x.op,.int x.to]):=s2 _ _ hb;refine⟨Z,_,Z,_,_,_,_,Z,Z,bQ.of ur,sR,_,Z,Z,_,Z,?_⟩;rw[v?];by_cases h:x.attr=a
  ·rw[aI h];exact cI ⟨_,Z,ht _ x _ (by simp[h]) (a7.refl _) λH5 b5 s5=>⟨b,Z,s5 _ _ hb⟩⟩
  ·rw[ay h];exact cy (hf _ (by simp[h]) (a7.refl _))
 ·intro H1 zs s1 e1 p1;have hfm:qq.conds.filterMap (λx=>if x.attr==a then aa x else ab)=qq.conds.filter λc=>c.attr==a:=by
   rw[<-GQ];rfl
  rw[hfm]at p1;have nn:(qq.conds.filter λc=>c.attr==a).length<aE:=aX (aB (bx _ _) h6) dk;refine⟨_,Z,D,Z,⟨_,bQ.of e1⟩,λD2 Xs=>yx (K:=K) (l:=qq.conds.filter λc=>c.attr==a) (Ri:=λy x=>RL H1 y (dO x)) (Ro:=λH' y x=>RL H' y (dO x)) (λx=>if(decide (lo<=x.op)&&decide (x.op<=hi))=ac then aa x else ab) (λH H' y b s h=>h.same s) Xs (bQ.of e1) p1 nn ?_ ?_⟩
  ·intro i x y H2 acc Kt Kf hx hy hR s2 fF ht hf;obtain⟨b,rfl,hb⟩:=hR;have ur:H2 b=aa (.lst [nI x.attr,nI x.op,.int x.to]):=s2 _ _ hb;refine⟨Z,_,Z,_,Z,_,_,_,_,Z,Z,bQ.of ur,at_of (j:=1) Z Z,_,_,Z,Z,_,Z,?_⟩;by_cases h:lo<=x.op
   ·rw[aI (show(lo:Int)<=(x.op:Int) by lia)];refine cI ⟨_,Z,_,_,Z,Z,_,Z,?_⟩;by_cases h2:x.op<=hi
    ·rw[aI (show(x.op:Int)<=(hi:Int) by lia)];exact cI ⟨_,Z,ht _ x _ (by simp[h,h2]) (a7.refl _) λH5 b5 s5=>⟨b,Z,s5 _ _ hb⟩⟩
    ·rw[ay (show¬(x.op:Int)<=(hi:Int) by lia)];exact cy (hf _ (by simp[h2]) (a7.refl _))
   ·rw[ay (show¬(lo:Int)<=(x.op:Int) by lia)];exact cy ⟨_,Z,cy (hf _ (by simp[h]) (a7.refl _))⟩
  ·intro H2 us s2 e2 p2;refine k H2 D2 (s1.trans s2) (s1.free Xs) (LL.Vv e2 ?_);have adT:(qq.conds.filter λc=>c.attr==a).filterMap (λx=>if(decide (lo<=x.op)&&decide (x.op<=hi))=ac then aa x else ab)=eg qq a lo hi:=by
    unfold eg;rw[<-GQ (p:=λc:JA=>decide (lo<=c.op)&&decide (c.op<=hi))];rfl
   rw[adT]at p2;exact Ia p2
theorem iZ(q:bu)(a:Nat)(r:V9):bK q (a::r)=match qb q a with
  |none=>[]
  |some x=>x::bK q r:=Z
theorem Em :∀{l:V9}{j:Nat},(bK q (l.take j)).length=j->∀{a:Nat},l[j]? =aa a->∀{x:Int},qb q a=aa x->bK q (l.take (j+1))=bK q (l.take j)++[x]
 |[],j,_,a,h,_,_=>by simp at h
 |b::l,0,_,a,h,x,e=>by
  simp at h;subst h;rw[fU,D6,iZ,e];rfl
 |b::l,j+1,hl,a,h,x,e=>by
  rw[fU,iZ]at hl;rw[fU,fU,iZ,iZ]
  cases q1:qb q b with
  |none=>rw[q1]at hl<;>simp at hl
  |some y=>
   rw[q1]at hl;simp only at hl ⊢;rw[Em (l:=l) (j:=j) (by simpa using hl) (by simpa using h) e];rfl
theorem yZ :∀{l:V9}{j:Nat},(bK q (l.take j)).length=j->∀{a:Nat},l[j]? =aa a->qb q a=ab->bK q l=bK q (l.take j)
 |[],j,_,a,h,_=>by simp at h
 |b::l,0,_,a,h,e=>by
  simp at h;subst h;rw[D6,iZ,e]
  try rfl
 |b::l,j+1,hl,a,h,e=>by
  rw[fU,iZ]at hl;rw[fU,iZ,iZ]
  cases q1:qb q b with
  |none=>rw[q1]at hl<;>simp at hl
  |some y=>
   rw[q1]at hl;simp only at hl ⊢;rw[yZ (l:=l) (j:=j) (by simpa using hl) (by simpa using h) e]
inductive zA(t:eP)(vs:V2)(H:Hp)(Q:VK)(E:XK):Prop
 |mk(A0 q:ao)(at_:V9)(ro:Role)(l:xC)(qq:bu)(_:vs=[.ref A0,.ref q])(_:IL H A0 (nz at_))(_:at_.length<=3)(_:QR t H ro q l qq)(_:qq.conds.length<=6)(_:∀H' p,a7 H H'->H p=ab->IL H' p (bK qq at_)->Q (.ref p) H')
theorem sv(T:Txt K mg t):(2<*27) ["attributes","question"] (zA t):=by
 refine T.f.G27.F.ok2 ["attributes","question","asked","attribute","equal"] ?_;obtain⟨A0,q,at_,ro,l,qq,rfl,hA,h3,hQ,h6,k⟩;refine⟨_,(ap (bM (i:=2) nd (cn ax))
  (ap (jI bY Z (dH (pv 0)) (cJ (i:=3) nd Z (bi Z))
  (ap (bM (i:=4) nd (j9 (lT T) (hr.mono dk) Z T.f.G26 (ah (pv 1) (ah (pv 3) (ah aN (ah aN ax))))))
  (ap (de (bR fZ (bF bq Z T.len a9 (ah (pv 4) ax)) aN (bU _)) (aH P6) bS)
  (aH (cv (jK bp dF dE jS (pv 2) (ah (cu bP (cu bP (pv 4) aN (λ_ _=>rfl)) aN (λ_ _=>rfl)) ax)))))))
  (aH (bo (pv 2))))),?_⟩
 refine⟨(by show 0<=aE;decide),λp hp=>?_⟩;have s0:a7 H (upd H p (.lst [])):=a7.upd hp;have KZ:(upd H p (.lst [])) p=aa (.lst []):=ak;generalize upd H p (.lst [])=H1 at s0 KZ;have N1:=hA.same s0;have Ap:A0≠p:=aL hA hp;refine⟨_,Z,A0,Z,⟨_,bQ.of N1⟩,?_⟩;refine ij (K:=K) (a:=A0) (xs:=(nz at_).map V.int) (λj σ H'=>∃v u:Option V,σ=[aa (.ref A0),aa (.ref q),aa (.ref p),v,u]/\a7 H H'/\IL H' p (bK qq (at_.take j))/\(bK qq (at_.take j)).length=j)
  ⟨ab,ab,Z,s0,KZ,Z⟩ (λi σ H' _ ⟨_,_,_,s,_⟩=>bQ.of (hA.same s)) ?_ ?_
 ·rintro j y σ H2 hy ⟨v,u,rfl,s2,l9,qL⟩;obtain⟨a,adL,rfl⟩:∃n,at_[j]? =aa n/\y=nI n:=by
   rw[aA,aA]at hy
   cases q:at_[j]? with
   |none=>rw[q]at hy;cases hy
   |some kk=>rw[q]at hy;exact⟨kk,Z,(bN hy).symm⟩
  refine⟨_,Z,_,Z,q,a,0,0,ro,l,qq,Z,hQ.same s2,h6,λH3 c s3 nc hc=>?_⟩;obtain⟨ys,e,pp⟩:=hc.rl;have c6:=dY pp;have my:=Tw.like_eq qq a;refine⟨_,Z,_,_,Z,.inl (bQ.of e),Z,_,Z,?_⟩
  cases Yv:eg qq a 0 0 with
  |nil=>
   rw[Yv]at c6 my;have:ys.length=0:=c6;rw[aI (by rw[this];rfl)];refine cI ⟨_,Z,k H3 p (s2.trans s3) hp ?_⟩;rw[yZ qL adL my];exact l9.same s3
  |cons c0 cr=>
   rw[Yv]at c6 my pp hc;have hl':ys.length=cr.length+1:=by rw[c6];simp
   rw[ay (λz=>by
    have:(ys.length:Int)=0:=V.int.inj z;lia)]
   obtain⟨y0,hy0,b,rfl,hb⟩:=Ku pp (i:=0) (b:=dO c0) Z;have ur:H3 b=aa (.lst [nI c0.attr,nI c0.op,.int c0.to]):=hb;have hj3:j<3:=bI (aY.mp adL).1 h3;have qg:=l9.same s3;refine cy ⟨_,Z,.inl ⟨Z,_,bQ.of qg⟩,_,Z,_,_,_,_,Z,Z,bQ.of e,at_of (j:=0) Z hy0,_,_,_,_,Z,Z,bQ.of ur,at_of (j:=2) Z Z,p,_,_,Z,Z,qg,?_,?_⟩
   ·rw[af,qL];exact bI hj3 dk
   ·have Mq:=Em qL adL (x:=c0.to) my;refine⟨_,_,Z,(s2.trans s3).tN hp,?_,?_⟩
    ·show upd _ _ _ _=_;rw[ak,Mq,bz];rfl
    ·rw[Mq,aQ,qL];rfl
 ·rintro σ H2 ⟨v,u,rfl,s2,l9,qL⟩;rw[af,af,cB]at l9;exact⟨_,Z,k H2 p s2 hp l9⟩
inductive wJ(t:eP)(vs:V2)(H:Hp)(Q:VK)(E:XK):Prop
 |mk(A0 q B:ao)(at_:V9)(ro:Role)(l:xC)(qq:bu)(_:vs=[.ref A0,.ref q,.ref B])(_:IL H A0 (nz at_))(_:QR t H ro q l qq)(_:qq.conds.length<=6)(_:IL H B (bK qq at_))(_:∀H' p,a7 H H'->H p=ab->LL H' p ((gd qq at_).map dO)->Q (.ref p) H')
theorem pz(T:Txt K mg t):(2<*28) ["attributes","question","asked"] (wJ t):=by
 refine T.f.G28.F.ok2 ["attributes","question","asked"] ?_;obtain⟨A0,q,B,at_,ro,l,qq,rfl,hA,hQ,h6,hB,k⟩;refine⟨_,(ap (de (bR fZ (bF bq Z T.len a9 (ah (pv 2) ax)) (bF bq Z T.len a9 (ah (pv 0) ax)) (bU _)) (aH (bo (cn ax))) bS)
  (aH (bo (j9 (lT T) (hr.mono dk) Z T.f.G26 (ah (pv 1) (ah (cu bP (pv 0) (bF bq Z T.len a9 (ah (pv 2) ax)) (λ_ _=>rfl)) (ah aN (ah aN ax)))))))),?_⟩
 have my:=uK qq at_;refine⟨_,Z,_,_,Z,.inl (bQ.of hB),_,Z,_,_,Z,.inl (bQ.of hA),Z,_,Z,?_⟩;rw[af,af,af];have hd:=v? (bK qq at_).length at_.length;rw[show decide (V.int ((bK qq at_).length:Nat)=V.int (at_.length:Nat))=_ from hd];by_cases h:(bK qq at_).length=at_.length
 ·rw[aI h];refine cI ⟨(by show 0<=aE;decide),λp hp=>k _ p (a7.upd hp) hp ?_⟩;have:gd qq at_=[]:=by
   unfold gd;rw[cV om]
  rw[this];exact⟨[],ak,.nil⟩
 ·rw[ay h];have gO:(bK qq at_).length<at_.length:=om;have VP:at_[(bK qq at_).length]? =aa at_[(bK qq at_).length]:=by simp[gO]
  have hfo:gd qq at_=eg qq at_[(bK qq at_).length] 1 4:=by
   unfold gd;rw[VP]
  refine cy ⟨_,Z,_,Z,_,Z,_,_,Z,.inl (bQ.of hB),_,_,_,nI at_[(bK qq at_).length],Z,Z,bQ.of hA,?_,q,_,1,4,ro,l,qq,Z,hQ,h6,λH3 c s3 nc hc=>?_⟩
  ·rw[af];refine at_of Z ?_;rw[aA,aA,VP];rfl
  ·rw[<-hfo]at hc;exact k H3 c s3 nc hc
theorem Jn  :Ol (xs++[v]) (-1)=aa v:=by
 unfold Ol VA;rw[aw dk,aC (by rw[aQ];show -((xs.length+1:Nat):Int)<= -1;lia)];have:((-1:Int)+((xs++[v]).length:Nat)).toNat=xs.length:=by rw[aQ];show((-1:Int)+((xs.length+1:Nat):Int)).toNat=_;lia
 rw[this];show(xs++[v])[xs.length]? =_;simp
inductive yd(t:eP)(vs:V2)(H:Hp)(Q:VK)(E:XK):Prop
 |mk(A0 q:ao)(i:dP)(ro:Role)(l:xC)(qq:bu)(_:vs=[.ref A0,.ref q])(_:IL H A0 (nz i.attrs))(_:i.attrs.length<=3)(_:QR t H ro q l qq)(_:qq.conds.length<=6)(_:∀H',a7 H H'->Q (nI (gK qq i)) H')
theorem yt(T:Txt K mg t):(3<*29) ["attributes","question"] (yd t):=by
 refine T.f.G29.F.ok2 ["attributes","question","asked","bounded","attribute"] ?_;obtain⟨A0,q,i,ro,l,qq,rfl,hA,h3,hQ,h6,k⟩;refine⟨_,(ap (de (hJ (bF (Lg Z) Z T.any boot_any (ah (mr (own:=[("attribute",4)]) Z nd (dH (pv 0)) (eE (N:=["attributes","question","asked","bounded","attribute"]) (sc:=cj sr) dK) (λ_ _ _ _ _=>cJ (i:=4) nd Z (bi Z)) (λ_ _ _ _ _=>i9) (λ_ _ _ _ _=>(gJ fZ (bF (mW (K:=K) Z) Z T.len a9 (ah (j9 (lT T) (hr.mono dk) Z T.f.G26 (ah (pv 1) (ah (pv 4) (ah aN (ah aN ax))))) ax)) aN (bU _)))) ax))) (aH (bo aN)) bS)
  (ap (bM (i:=2) nd (j9 (sv T) (hr.mono dk) Z T.f.G27 (ah (pv 0) (ah (pv 1) ax))))
  (ap (bM (i:=3) nd (gJ y8 (bF bq Z T.len a9 (ah (j9 (pz T) (hr.mono dk) Z T.f.G28 (ah (pv 0) (ah (pv 1) (ah (pv 2) ax)))) ax)) aN (bU _)))
  (aH (bo (fY j_ (fY FU aN (bF bq Z T.len a9 (ah (pv 2) ax))) (xa (hJ (pv 3)) aN aN))))))),?_⟩
 rw[Ph]at k;refine⟨_,Z,A0,Z,⟨_,bQ.of hA⟩,λD hD=>mU (K:=K) (l:=i.attrs) (Ri:=λy x=>y=nI x) (λa=>V.bl (eg qq a 0 6).isEmpty) hD (bQ.of hA) (Bd _) (aX h3 dk) ?_ ?_⟩
 ·intro j x y H2 Kt hx hy hR s2 ht;subst hR;refine⟨Z,_,Z,_,Z,q,x,0,6,ro,l,qq,Z,hQ.same s2,h6,λH3 c s3 nc hc=>?_⟩;obtain⟨ys,e,pp⟩:=hc.rl;have c6:=dY pp;rw[af]at c6;refine⟨_,_,Z,.inl (bQ.of e),Z,?_⟩;have:decide (V.int (ys.length:Nat)=V.int 0)=(eg qq x 0 6).isEmpty:=by
   rw[show decide (V.int (ys.length:Nat)=V.int 0)=_ from pI ys.length,c6]
   cases eg qq x 0 6<;>rfl
  rw[this];exact ht H3 s3
 ·intro H1 s1 e1;refine⟨D,i.attrs.map λa=>(eg qq a 0 6).isEmpty,Z,bQ.of (by rw[bv];exact e1),_,Z,?_⟩;have Rb:(i.attrs.map λa=>(eg qq a 0 6).isEmpty).any id=i.attrs.any λa=>(eg qq a 0 6).isEmpty:=by rw[tj];rfl
  rw[Rb]
  cases hb:i.attrs.any λa=>(eg qq a 0 6).isEmpty with
  |true=>
   rw[hb,aC Z]at k;exact cI (k H1 s1)
  |false=>
   rw[hb,aw (by simp)]at k;refine cy ⟨_,Z,_,Z,A0,q,i.attrs,ro,l,qq,Z,hA.same s1,h3,hQ.same s1,h6,λH2 B s2 nB hB=>?_⟩;have u? :=s1.trans s2;refine⟨_,Z,_,Z,_,Z,A0,q,B,i.attrs,ro,l,qq,Z,hA.same u?,hQ.same u?,h6,hB,λH3 c s3 nc hc=>?_⟩;obtain⟨ys,e,pp⟩:=hc.rl;have c6:=dY pp;rw[af]at c6;have adk:=uK qq i.attrs;refine⟨_,_,Z,.inl (bQ.of e),_,_,Z,Z,_,Z,_,_,Z,.inl (bQ.of (hB.same s3)),_,_,Z,Z,.inl ⟨dk,dk⟩,_,Z,_,Z,?_⟩;rw[af];by_cases hf:gd qq i.attrs=[]
   ·rw[hf]at c6;rw[ay (by rw[c6];decide)];refine cy ⟨_,_,Z,Z,?_⟩;have:=k H3 (u?.trans s3);rw[aw (by simp[hf])]at this;exact this
   ·have NU:0<ys.length:=by
     rw[c6];exact M5.mpr hf
    rw[aI (show(0:Int)<(ys.length:Int) by lia)];refine cI ⟨_,_,Z,Z,?_⟩;have:=k H3 (u?.trans s3);rw[aC hf]at this;exact this
inductive vM(t:eP)(vs:V2)(H:Hp)(Q:VK)(E:XK):Prop
 |mk(ia q:ao)(ix:dP)(ρ:Nat->Option xC)(ro:Role)(l:xC)(qq:bu)(_:vs=[.ref ia,.ref q])(_:Cb t H ro ia ix.attrs ρ)(_:Tw.Canon ρ ix.rows)(_:(∀n r,ρ n=aa r->n<=200/\r.length=ix.attrs.length+1/\r.getLast? =aa (n:Int)))(_:ix.attrs.length<=3)(_:QR t H ro q l qq)(_:qq.conds.length<=6)(_:∀H' p,a7 H H'->H p=ab->IL H' p (nz (jX qq ix))->Q (.ref p) H')
theorem vY(T:Txt K mg t):(3<*30) ["index","question"] (vM t):=by
 refine T.f.G30.F.ok2 ["index","question","asked","bounds","rows","row"] ?_;obtain⟨ia,q,ix,ρ,ro,l,qq,rfl,hI,DH,ac6,h3,hQ,h6,k⟩;refine⟨_,(ap (bM (i:=2) (hx:=GN Z) nd (j9 (sv T) (hr.mono dk) Z T.f.G27 (ah (bb (pv 0) Z) (ah (pv 1) ax))))
  (ap (bM (i:=3) (hx:=GN Z) nd (j9 (pz T) (hr.mono dk) Z T.f.G28 (ah (bb (pv 0) Z) (ah (pv 1) (ah (pv 2) ax)))))
  (ap (bM (i:=4) nd (cZ (pv 0) T.eC T.m.G75.me (v0 T) (hr.mono dk) T.m.G75.b .nil dD (ah (pv 2) ax)))
  (aH (bo (mr (own:=[("row",5)]) Z nd (dH (pv 4)) (eE (N:=["index","question","asked","bounds","rows","row"]) (sc:=cj o_) dK) (λ_ _ _ _ _=>cJ (i:=5) nd Z (bi Z)) (λ_ _ _ _ _=>nG (hJ (j9 (Dd T) (hr.mono dk) Z T.f.G25 (ah (cu (kK (K:=K) Z) (pv 5) (bF (mW (K:=K) Z) Z T.len a9 (ah (pv 2) ax)) (λ_ _=>rfl)) (ah (pv 3) ax))))) (λ_ _ _ _ _=>(cu (kK (K:=K) Z) (pv 5) (jJ gU aN) (λ_ _=>rfl))))))))),?_⟩
 obtain⟨YG,A1,R1,D1,kvs,re,rows,Y⟩:=id hI;have adk:=uK qq ix.attrs;refine⟨_,Z,_,_,_,_,_,Z,Y.obj,T.eC,T.eI,Z,_,Z,A1,q,ix.attrs,ro,l,qq,Z,Y.RK.1,h3,hQ,h6,λH1 B s1 nB hB=>?_⟩;refine⟨_,Z,_,_,_,_,_,Z,s1 _ _ Y.obj,T.eC,T.eI,Z,_,Z,_,Z,A1,q,B,ix.attrs,ro,l,qq,Z,Y.RK.1.same s1,hQ.same s1,h6,hB,λH2 C s2 nC hC=>?_⟩;have u? :=s1.trans s2;have Yz:=hI.kp (P:=λ_=>True) (Kp.same u?) trivial trivial trivial;refine⟨_,Z,_,_,_,Z,u? _ _ Y.obj,Z,_,Z,ia,B,ro,ix.attrs,ρ,bK qq ix.attrs,Z,Yz,hB.same s2,λH3 R Zg s3 nR Yw hL=>?_⟩;have ZR:Zg=ix.rows:=Yw.uniq DH;rw[ZR]at hL;have qK:∀r∈ix.rows,∃n:Nat,∃p:xC,r=p++[(n:Int)]/\r.length=ix.attrs.length+1:=λr hr=>by
  obtain⟨n,hn⟩:=(DH.mem r).mp hr;obtain⟨_,h2,h3⟩:=ac6 n r hn;obtain⟨p,rfl⟩:=Fg.mp h3;exact⟨n,p,Z,h2⟩
 rw[EK DH.OG (λr hr=>by
  obtain⟨n,p,_,h2⟩:=qK r hr;lia)]at hL
 have VG:ix.rows.length<=201:=qR DH (λn r hn=>by
  obtain⟨_,_,h3⟩:=ac6 n r hn;exact Fg.mp h3) λn r hn=>(ac6 n r hn).1
 obtain⟨ys,e,pp⟩:=hL.rl;have hB3:=(hB.same s2).same s3;have aay:=hC.same s3;have u_:=u?.trans s3;refine⟨_,Z,R,Z,⟨_,bQ.of e⟩,λD hD=>F9 (K:=K) (l:=ix.rows.filter λr=>r.take (bK qq ix.attrs).length==bK qq ix.attrs) (Ri:=λy x=>RL H3 y x) (λr=>if((gd qq ix.attrs).all λc=>kf (aa (r.getD (bK qq ix.attrs).length 0)) c.op c.to)=ac then aa (nI (r.getLastD 0).toNat)else ab) hD (bQ.of e) pp (aX (aB (bx _ _) VG) dk) ?_ ?_⟩
 ·intro j x y H4 Kt Kf hx hy hR s4 ht hf;obtain⟨b,rfl,hb⟩:=hR;have W7:=(bB.mp (aP hx)).1;obtain⟨n,p,rfl,h2⟩:=qK x W7;have hb4:=s4 _ _ hb;have adQ:((p++[(n:Int)]).map V.int)[(bK qq ix.attrs).length]? =aa (vV (aa ((p++[(n:Int)]).getD (bK qq ix.attrs).length 0))):=by
   rw[aA,aR om,bD,aR om];rfl
  refine⟨Z,_,Z,_,Z,_,_,Z,.inl (bQ.of (s4 _ _ hB3)),_,_,_,_,Z,Z,bQ.of hb4,at_of (by rw[af]) adQ,_,Z,aa _,C,gd qq ix.attrs,Z,aay.same s4,?_,λH5 s5=>⟨_,Z,?_⟩⟩
  ·unfold gd;split
   ·simp
   ·unfold eg;exact aB (aB (bx _ _) (bx _ _)) om
  ·cases hm:(gd qq ix.attrs).all λc=>kf (aa ((p++[(n:Int)]).getD (bK qq ix.attrs).length 0)) c.op c.to with
   |true=>
    refine cI ⟨_,Z,_,Z,_,_,_,nI n,Z,Z,bQ.of (s5 _ _ hb4),?_,ht _ _ ?_ s5⟩
    ·rw[bz];exact Jn
    ·rw[aC hm];simp
   |false=>exact cy (hf _ (by rw[hm];rfl) s5)
 ·intro H4 s4 e4;refine k H4 D (u_.trans s4) (u_.free hD) ?_;rw[BL];show H4 D=_;rw[e4]
  congr 2
  generalize ix.rows.filter (λr=>r.take (bK qq ix.attrs).length==bK qq ix.attrs)=rs
  induction rs with
  |nil=>rfl
  |cons r rs ih=>
   rw[c9,bH]
   cases hm:(gd qq ix.attrs).all λc=>kf (aa (r.getD (bK qq ix.attrs).length 0)) c.op c.to with
   |true=>simp only[if_true];rw[ih];rfl
   |false=>simp only[bA,if_false];exact ih
section
variable{α β:Type}{k:L2.St->Hp->Prop}{J:It}{g:TG}{tt:TT}{te:TE}{vs:V9}{σ:L2.St}{H1:Hp}{D:ao}{Qd:Hp->Prop}
theorem Mf{Ro:Hp->V->β->Prop}{l:List α}{Ri:V->α->Prop}(f:α->Option β)
 (hD:H1 D=ab)(ul:∀H,a7 H1 H->J.stop l.length H)(Mq:∀i H,i<l.length->a7 H1 H->J.go i H)(KW:∀i H x H',i<l.length->J.CJ i H x H'->H'=H/\∃a,l[i]? =aa a/\Ri x a)(hz:l.length<aE)
  (hs:∀(i:Nat) (x:α) (y:V) (H:Hp) (acc:V2) (Kt:V->Hp->Prop) (Kf:Hp->Prop),l[i]? =aa x->Ri y x->a7 H1 H->H D=aa (.lst acc)->
   (∀z b H4,f x=aa b->a7 H H4->(∀H5,vE D H4 H5->a7 H1 H5->Ro H5 z b)->Kt z H4)->(∀H3,f x=ab->a7 H H3->Kf H3)->
   g y (wipe σ vs) H λgh H2=>wipe gh vs=wipe σ vs/\tt gh H2 λb H3=>if b=ac then te gh H3 Kt else Kf H3)
  (hd:∀H' ys,a7 H1 H'->H' D=aa (.lst ys)->ci (Ro H') ys (l.filterMap f)->Qd H'):
  tLc_2 g tt te vs σ Qd J H1 D:=by
 refine QI (n:=l.length) (λi H=>a7 H1 H/\∃acc,H D=aa (.lst acc)/\∀H5,vE D H H5->a7 H1 H5->ci (Ro H5) acc ((l.take i).filterMap f)) ⟨a7.tN (a7.refl H1) hD,[],ak,λ_ _ _=>by simp;exact .nil⟩ (λH p=>ul H p.1) (λi H hi p=>Mq i H hi p.1) ?_ ?_
 ·rintro i H y H' hi ⟨s,acc,fF,uo⟩ hy;obtain⟨rfl,x,hx,hr⟩:=KW i H y H' hi hy;refine hs i x y H' acc _ _ hx hr s fF (λz b H4 hf s4 JK=>?_) (λH3 hf s3=>?_)
  ·have gO:acc.length<aE:=by
    have e:=dY (uo H' (λb o _ e=>e) s);have e2:((l.take i).filterMap f).length<=l.length:=aB (Rn _ _) (Lx ..);lia
   refine⟨acc,s4 _ _ fF,gO,(s.trans s4).tN hD,_,ak,λH5 b5 s5=>?_⟩;have bt:vE D H4 H5:=λc o n e=>b5 c o n (by rw[aZ n];exact e);rw[xx f hx,hf];exact t9 (uo H5 (λc o n e=>bt c o n (s4 c o e)) s5) (.cons (JK H5 bt s5) .nil)
  ·refine⟨s.trans s3,acc,s3 _ _ fF,λH5 b5 s5=>?_⟩;rw[xx f hx,hf];simpa using uo H5 (λc o n e=>b5 c o n (s3 c o e)) s5
 ·rintro H ⟨s,acc,fF,uo⟩;have:=uo H (λb o _ e=>e) s;rw[cB]at this;exact hd H acc s fF this
theorem Ub{l:List α}{Ri:V->α->Prop}(f:α->Option V)
 (hD:H1 D=ab)(ul:∀H,a7 H1 H->J.stop l.length H)(Mq:∀i H,i<l.length->a7 H1 H->J.go i H)(KW:∀i H x H',i<l.length->J.CJ i H x H'->H'=H/\∃a,l[i]? =aa a/\Ri x a)(hz:l.length<aE)
  (hs:∀(i:Nat) (x:α) (y:V) (H:Hp) (Kt:V->Hp->Prop) (Kf:Hp->Prop),l[i]? =aa x->Ri y x->a7 H1 H->
   (∀b H4,f x=aa b->a7 H H4->Kt b H4)->(∀H3,f x=ab->a7 H H3->Kf H3)->
   g y (wipe σ vs) H λgh H2=>wipe gh vs=wipe σ vs/\tt gh H2 λb H3=>if b=ac then te gh H3 Kt else Kf H3)
  (hd:∀H',a7 H1 H'->H' D=aa (.lst (l.filterMap f))->Qd H'):
  tLc_2 g tt te vs σ Qd J H1 D:=
 Mf (Ro:=λ_ z b=>z=b) f hD ul Mq KW hz (λi x y H acc Kt Kf hx hr s fF ht hf=>hs i x y H Kt Kf hx hr s (λb H4 e s4=>ht b b H4 e s4 λ_ _ _=>rfl) hf)
  λH' ys s e p=>hd H' s (by rw[e,L0 (f:=id) p,jY])
theorem Pg{Kt:V->Hp->Prop}{Kf:Hp->Prop}(h:(λ(gh:L2.St) (H2:Hp)=>wipe gh vs=wipe σ vs/\te gh H2 Kt)=k):(λ(gh:L2.St)(H2:Hp)=>wipe gh vs=wipe σ vs/\Fl gh H2 λb H3=>if b=ac then te gh H3 Kt else Kf H3)=k:=by
 rw[<-h];funext gh H2;show(wipe gh vs=wipe σ vs/\if ac=ac then te gh H2 Kt else Kf H2)=_;rw[aC Z]
theorem QH{Ro:Hp->V->β->Prop}{l:List α}{Ri:V->α->Prop}(f:α->β)
 (hD:H1 D=ab)(ul:∀H,a7 H1 H->J.stop l.length H)(Mq:∀i H,i<l.length->a7 H1 H->J.go i H)(KW:∀i H x H',i<l.length->J.CJ i H x H'->H'=H/\∃a,l[i]? =aa a/\Ri x a)(hz:l.length<aE)
  (hs:∀(i:Nat) (x:α) (y:V) (H:Hp) (acc:V2) (Kt:V->Hp->Prop),l[i]? =aa x->Ri y x->a7 H1 H->H D=aa (.lst acc)->
   (∀z H4,a7 H H4->(∀H5,vE D H4 H5->a7 H1 H5->Ro H5 z (f x))->Kt z H4)->
   g y (wipe σ vs) H λgh H2=>wipe gh vs=wipe σ vs/\te gh H2 Kt)
  (hd:∀H' ys,a7 H1 H'->H' D=aa (.lst ys)->ci (Ro H') ys (l.map f)->Qd H'):
  tLc_2 g Fl te vs σ Qd J H1 D:=
 Mf (tt:=Fl) (λx=>aa (f x)) hD ul Mq KW hz (λi x y H acc Kt Kf hx hr s fF ht hf=>by
  have:=hs i x y H acc Kt hx hr s fF λz H4 s4 h5=>ht z (f x) H4 Z s4 h5;rw[Pg Z];exact this) λH' ys s e p=>hd H' ys s e (by rw[<-filterMap_some];exact p)
end
theorem Zj(c:Nat)(hc:c=2\/c=3)(k:Nat)(hk:k<=1000):aeL 0 ((k*c:Nat):Int) (c:Int) k:=by
 have e:j0 0 ((k*c:Nat):Int) (c:Int)=(k:Int):=by
  unfold j0;rcases hc with rfl|rfl
  ·rw[aC dk];split<;>lia
  ·rw[aC dk];split<;>lia
 refine⟨by rcases hc with rfl|rfl<;>decide,by rcases hc with rfl|rfl<;>decide,?_,e⟩;unfold Cg;rw[e];simp only[Builtin.Range.rangeFitsLong,aK,gG,decide_eq_true_eq,beq_iff_eq];rcases hc with rfl|rfl
 ·rw[aC dk];refine⟨⟨⟨⟨?_,?_⟩,?_⟩,?_⟩,.inr ?_⟩<;>first|decide|lia|(rw[aK,decide_eq_true_eq,decide_eq_true_eq];lia)
 ·rw[aC dk];refine⟨⟨⟨⟨?_,?_⟩,?_⟩,?_⟩,.inr ?_⟩<;>first|decide|lia|(rw[aK,decide_eq_true_eq,decide_eq_true_eq];lia)
theorem BV :∀{rows:List xC}{i:Nat}{r:xC},(∀x∈rows,x.length=c)->rows[i]? =aa r->(rows.flatten.take (i*c+c)).drop (i*c)=r
 |[],_,_,_,h=>by simp at h
 |x::rows,0,r,hl,h=>by
  simp at h;subst h;have:=hl x (by simp);simp[<-this]
 |x::rows,i+1,r,hl,h=>by
  have hx:=hl x (by simp);have ih:=BV (rows:=rows) (i:=i) (r:=r) (λy hy=>hl y (aD _ hy)) (by simpa using h);have e1:(i+1)*c=x.length+i*c:=by rw[Nat.add_mul,hx];lia
  rw[d8,e1,Nat.add_assoc,oP,List.drop_length_add_append];exact ih
theorem BW :∀{rows:List xC},(∀x∈rows,x.length=c)->rows.flatten.length=rows.length*c
 |[],_=>by simp
 |x::rows,h=>by
  rw[d8,aQ,h x (by simp),BW λy hy=>h y (aD _ hy),aJ,Nat.add_mul];lia
inductive No(vs:V2)(H:Hp)(Q:VK)(E:XK):Prop
 |mk(N:ao)(c:Nat)(rows:List xC)(_:vs=[.ref N,nI c])(_:IL H N rows.flatten)(_:(c=2\/c=3))(_:(∀x∈rows,x.length=c))(_:rows.length<=1000)(_:∀H' p,a7 H H'->H p=ab->vd (λb=>H b=ab) H' p rows->Q (.ref p) H')
theorem Et(T:Txt K mg t):(1<*22) ["numbers","size"] No:=by
 refine T.f.G22.F.ok2 ["numbers","size","start"] ?_;obtain⟨N,c,rows,rfl,hN,hc,hl,c6,k⟩;refine⟨_,(aH (bo (mr (own:=[("start",2)]) Z nd (NC Z T.range (ah aN (ah (bF bq Z T.len a9 (ah (pv 0) ax)) (ah (pv 1) ax)))) (eE (N:=["numbers","size","start"]) (sc:=cj Hx) dK) (λ_ _ _ _ _=>cJ (i:=2) nd Z (bi Z)) (λ_ _ _ _ _=>i9) (λ_ _ _ _ _=>(iM (AS (K:=K) Z) (pv 0) (gZ (pv 2)) (gZ (fY j_ (pv 2) (pv 1)))))))),?_⟩;have Sq:=BW hl;refine⟨_,Z,_,_,Z,.inl (bQ.of hN),_,Z,0,_,_,rows.length,Z,?_,λD hD=>QH (l:=rows.zipIdx) (Ri:=λy x=>y= .int (((x.2*c:Nat):Nat):Int)) (Ro:=RW λb=>H b=ab) (λx=>x.1) hD (λH _=>?_) (λi H hi _=>?_) (λi H x H' hi hy=>?_) ?_ ?_ ?_⟩
 ·rw[af,Sq];exact Zj c hc _ c6
 ·show rows.length<=_;simp
 ·show i<rows.length;simpa using hi
 ·obtain⟨rfl,rfl⟩:=hy;have zj:i<rows.length:=by simpa using hi
  exact⟨Z,(rows[i],i),by simp[zj],by simp⟩
 ·simp;exact aX c6 dk
 ·intro i x y H2 acc Kt hx hR s2 fF ht;subst hR;obtain⟨x1,x2⟩:=x;have hxi:rows[i]? =aa x1/\x2=i:=by
   rw[List.getElem?_zipIdx]at hx
   cases q:rows[i]? with
   |none=>rw[q]at hx;simp at hx
   |some r=>rw[q]at hx;simp at hx;exact⟨by rw[hx.1],hx.2.symm⟩
  obtain⟨Mo,rfl⟩:=hxi;refine⟨Z,_,Z,_,Z,_,Z,_,Z,_,Z,_,_,Z,Z,_,Z,_,_,Z,bQ.of (s2 _ _ hN),λp hp=>?_⟩;refine ht _ _ (a7.upd hp) λH5 b5 s5=>⟨p,Z,b5 p _ (aL fF hp).symm ?_,s2.free hp⟩;rw[ak];have:qP (rows.flatten.map V.int) (aa ((x2*c:Nat):Int)) (aa (((x2*c:Nat):Int)+(c:Int)))=x1.map V.int:=by
   rw[show((x2*c:Nat):Int)+(c:Int)=((x2*c+c:Nat):Int) by lia,xD,<-k_,<-gn,BV hl Mo]
  rw[this]
 ·intro H' ys s' e' p';refine k H' D s' hD (vd.L4 e' ?_);have:rows.zipIdx.map (λx=>x.1)=rows:=by simp
  rw[this]at p';exact p'
def qE(H:Hp)(ro:Role):Role:=λb=>if H b=ab then .ln else ro b
theorem lU(h:H b=ab):qE H ro b= .ln:=aC h
theorem Br(h:H b=aa o):qE H ro b=ro b:=aw (by rw[h];simp)
theorem Kp.new{P:Tag->Prop}(s:a7 H H'):Kp P H ro H' (qE H ro):=λb o e _=>⟨s b o e,Br e⟩
theorem vd.lm(h:vd (λb=>H b=ab) H' p l)(hp:H p=ab):LM H' (qE H ro) p l:=by
 obtain⟨as,e,q⟩:=h;exact⟨as,e,lU hp,dI (λ_ _ z=>⟨z.1,lU z.2⟩) q⟩
section
open Vbwsad
theorem ER:∀(n:Nat)(r:xC)(cs:List JA)(t:xC),conds n r=aa (cs,t)->cs.length=n
 |0,r,cs,t,h=>by simp[conds]at h;rw[h.1];rfl
 |n+1,r,cs,t,h=>by
  match r,h with
  |[],h=>simp[conds]at h
  |[_],h=>simp[conds]at h
  |[_,_],h=>simp[conds]at h
  |a::o::x::r,h=>
   rw[B5]at h;split at h
   ·cases e:conds n r with
    |none=>rw[e]at h;cases h
    |some y=>
     rw[e]at h;have h':=bN h;injection h' with h1 h2
     rw[<-h1,aJ,ER n r y.1 y.2 e]
   ·cases h
theorem Eg:∀(n:Nat)(r:xC)(bs:List (Nat×Bool))(t:xC),xU n r=aa (bs,t)->bs.length=n
 |0,r,bs,t,h=>by simp[xU]at h;rw[h.1];rfl
 |n+1,r,bs,t,h=>by
  match r,h with
  |[],h=>simp[xU]at h
  |[_],h=>simp[xU]at h
  |a::o::r,h=>
   rw[AQ]at h;split at h
   ·cases e:xU n r with
    |none=>rw[e]at h;cases h
    |some y=>
     rw[e]at h;have h':=bN h;injection h' with h1 h2
     rw[<-h1,aJ,Eg n r y.1 y.2 e]
   ·cases h
theorem uI(h:eN l=aa q):q.conds.length<=6/\q.by_.length<=4:=by
 unfold eN at h;split at h
 ·rename_i k p d n m r;split at h
  ·cases h
  ·rename_i EE;have hm:(m.toNat:Int)<=6:=by
    have:ma k 0 30=ac/\ma p (-1) 200=ac/\ma d 0 1=ac/\ma n 0 200=ac/\ma m 0 6=ac:=by simpa using EE
    have:=eB.mp this.2.2.2.2;lia
   split at h
   ·rename_i cs s t e;split at h
    ·cases h
    ·rename_i hs;split at h
     ·rename_i b e2
      cases h;have:=ER _ _ _ _ e;have:=Eg _ _ _ _ e2;have:=eB.mp (by simpa using hs);simp only;lia
     ·cases h
   ·cases h
 ·cases h
theorem QA.at_(h:eN l=aa q):∃(s:Int),l=[(q.kind:Int),q.place,cx q.deep,(q.limit:Int),(q.conds.length:Int)]++(q.conds.map dO).flatten++s::(q.by_.map sortRow).flatten/\s=(q.by_.length:Int):=by
 have hq:Tw.isQ l=ac:=by rw[<-KS,h];rfl
 obtain⟨q',h',k,p,d,n,m,s,e,e1,e2,e3,e4,e5,e6⟩:=IH hq;rw[h]at h'
 cases h';subst e1 e2 e3 e4 e5;exact⟨s,e,e6⟩
end
inductive ye(t:eP)(vs:V2)(H:Hp)(Q:VK)(E:XK):Prop
 |mk(x dx N:ao)(l:xC)(q:bu)(_:vs=[.ref x,.ref N])(_:H x=aa (.ins t.Question dx []))(_:IL H N l)(_:eN l=aa q)(_:∀(H':Hp) (Cs Ss As:ao),vE x H H'->H' x=aa (.ins t.Question dx (yI (.ref N) (nI q.kind) (.int q.place) (.int (cx q.deep)) (nI q.limit) (.ref Cs) (.ref Ss) (.ref As)))->H Cs=ab->H Ss=ab->H As=ab->vd (λb=>H b=ab) H' Cs (q.conds.map dO)->vd (λb=>H b=ab) H' Ss (q.by_.map sortRow)->IL H' As (nz (gX q))->Q .iy H')
theorem Oj(q:bu):(q.conds.map dO++q.by_.map sortRow).map (λr=>r.headD 0)=nz (gX q):=by
 unfold gX nz;rw[bz,bv,bv,bz,bv,bv];rfl
theorem qD(T:Txt K mg t):(2<*23) ["self","numbers"] (ye t):=by
 refine T.m.G23.F.ok2 ["self","numbers","sortings_at","piece"] ?_;obtain⟨x,dx,N,l,q,rfl,h0,hN,hq,k⟩;refine⟨_,(ap (bM (i:=2) nd (fY j_ aN (fY FU aN (cu bP (pv 1) aN (λ_ _=>rfl)))))
  (ap (dM (pv 0) (pv 1) Z)
  (ap (dM (pv 0) (cu bP (pv 1) aN (λ_ _=>rfl)) Z)
  (ap (dM (pv 0) (cu bP (pv 1) aN (λ_ _=>rfl)) Z)
  (ap (dM (pv 0) (cu bP (pv 1) aN (λ_ _=>rfl)) Z)
  (ap (dM (pv 0) (cu bP (pv 1) aN (λ_ _=>rfl)) Z)
  (ap (dM (pv 0) (j9 (Et T) (hr.mono dk) Z T.f.G22 (ah (iM lP (pv 1) (gZ aN) (gZ (pv 2))) (ah aN ax))) Z)
  (ap (dM (pv 0) (j9 (Et T) (hr.mono dk) Z T.f.G22 (ah (iM lP (pv 1) (gZ (fY j_ (pv 2) aN)) ph) (ah aN ax))) Z)
  (aH (dM (pv 0) (mr (own:=[("piece",3)]) Z nd (dH (fY rL (bb (pv 0) Z) (bb (pv 0) Z))) (eE (N:=["self","numbers","sortings_at","piece"]) (sc:=cj su) dK) (λ_ _ _ _ _=>cJ (i:=3) nd Z (bi Z)) (λ_ _ _ _ _=>i9) (λ_ _ _ _ _=>(cu (kK (K:=K) Z) (pv 3) aN (λ_ _=>rfl)))) Z)))))))))),?_⟩
 obtain⟨h6,h4⟩:=uI hq;obtain⟨s0,hl,hs0⟩:=QA.at_ hq;have xN:N≠x:=lh hN h0 (by intro z;cases z);have K5:(q.conds.map dO).flatten.length=q.conds.length*3:=by
  rw[BW (c:=3) λy hy=>by obtain⟨c,_,rfl⟩:=aV.mp hy;rfl,af]
 have K0:l.map V.int=nI q.kind::.int q.place::.int (cx q.deep)::nI q.limit::nI q.conds.length::((q.conds.map dO).flatten++s0::(q.by_.map sortRow).flatten).map V.int:=by rw[hl];simp
 have Sw:H N=aa (.lst (nI q.kind::.int q.place::.int (cx q.deep)::nI q.limit::nI q.conds.length::((q.conds.map dO).flatten++s0::(q.by_.map sortRow).flatten).map V.int)):=by rw[<-K0];exact hN
 refine⟨_,Z,_,_,_,_,Z,Z,bQ.of Sw,at_of (j:=4) Z Z,_,_,Z,Z,.inl ⟨dk,dk⟩,_,_,Z,Z,?_⟩;refine⟨_,Z,_,Z,_,_,_,_,Z,h0,T.cO,T.i',(by show 0<1000;decide),?_⟩;refine⟨_,Z,_,_,_,_,Z,Z,bQ.of (ups xN Sw),sR,_,Z,_,_,_,_,Z,ak,T.cO,T.nj,(by show 1<1000;decide),?_⟩;refine⟨_,Z,_,_,_,_,Z,Z,bQ.of (ups xN (ups xN Sw)),at_of (j:=1) Z Z,_,Z,_,_,_,_,Z,ak,T.cO,T.iN,(by show 2<1000;decide),?_⟩;refine⟨_,Z,_,_,_,_,Z,Z,bQ.of (ups xN (ups xN (ups xN Sw))),at_of (j:=2) Z Z,_,Z,_,_,_,_,Z,ak,T.cO,T.sx,(by show 3<1000;decide),?_⟩;refine⟨_,Z,_,_,_,_,Z,Z,bQ.of (ups xN (ups xN (ups xN (ups xN Sw)))),at_of (j:=3) Z Z,_,Z,_,_,_,_,Z,ak,T.cO,T.sw,(by show 4<1000;decide),?_⟩;have b5:vE x H (upd (upd (upd (upd (upd H x (.ins t.Question dx (b_ (al "numbers") (.ref N) []))) x (.ins t.Question dx (b_ (al "kind") (nI q.kind) (b_ (al "numbers") (.ref N) [])))) x (.ins t.Question dx (b_ (al "place") (.int q.place) (b_ (al "kind") (nI q.kind) (b_ (al "numbers") (.ref N) []))))) x (.ins t.Question dx (b_ (al "deep") (.int (cx q.deep)) (b_ (al "place") (.int q.place) (b_ (al "kind") (nI q.kind) (b_ (al "numbers") (.ref N) [])))))) x (.ins t.Question dx (b_ (al "most") (nI q.limit) (b_ (al "deep") (.int (cx q.deep)) (b_ (al "place") (.int q.place) (b_ (al "kind") (nI q.kind) (b_ (al "numbers") (.ref N) []))))))):=λb u n e=>ups n (ups n (ups n (ups n (ups n e))));have ZK:(upd (upd (upd (upd (upd H x (.ins t.Question dx (b_ (al "numbers") (.ref N) []))) x (.ins t.Question dx (b_ (al "kind") (nI q.kind) (b_ (al "numbers") (.ref N) [])))) x (.ins t.Question dx (b_ (al "place") (.int q.place) (b_ (al "kind") (nI q.kind) (b_ (al "numbers") (.ref N) []))))) x (.ins t.Question dx (b_ (al "deep") (.int (cx q.deep)) (b_ (al "place") (.int q.place) (b_ (al "kind") (nI q.kind) (b_ (al "numbers") (.ref N) [])))))) x (.ins t.Question dx (b_ (al "most") (nI q.limit) (b_ (al "deep") (.int (cx q.deep)) (b_ (al "place") (.int q.place) (b_ (al "kind") (nI q.kind) (b_ (al "numbers") (.ref N) []))))))) x=aa (.ins t.Question dx (b_ (al "most") (nI q.limit) (b_ (al "deep") (.int (cx q.deep)) (b_ (al "place") (.int q.place) (b_ (al "kind") (nI q.kind) (b_ (al "numbers") (.ref N) [])))))):=ak;generalize upd (upd (upd (upd (upd H x (.ins t.Question dx (b_ (al "numbers") (.ref N) []))) x (.ins t.Question dx (b_ (al "kind") (nI q.kind) (b_ (al "numbers") (.ref N) [])))) x (.ins t.Question dx (b_ (al "place") (.int q.place) (b_ (al "kind") (nI q.kind) (b_ (al "numbers") (.ref N) []))))) x (.ins t.Question dx (b_ (al "deep") (.int (cx q.deep)) (b_ (al "place") (.int q.place) (b_ (al "kind") (nI q.kind) (b_ (al "numbers") (.ref N) [])))))) x (.ins t.Question dx (b_ (al "most") (nI q.limit) (b_ (al "deep") (.int (cx q.deep)) (b_ (al "place") (.int q.place) (b_ (al "kind") (nI q.kind) (b_ (al "numbers") (.ref N) []))))))=H5 at b5 ZK;have ab1:∀{b:ao},H5 b=ab->H b=ab:=λ{b} hb=>by
  cases z:H b with
  |none=>rfl
  |some o=>
   by_cases e:b=x
   ·rw[e,ZK]at hb;cases hb
   ·rw[b5 b o e z]at hb;cases hb
 have hN5:=b5 N _ xN hN;have aah:qP (l.map V.int) (aa (5:Int)) (aa ((5:Int)+3*(q.conds.length:Int)))=((q.conds.map dO).flatten).map V.int:=by
  rw[show(5:Int)=((5:Nat):Int)from Z,show((5:Nat):Int)+3*(q.conds.length:Int)=((5+q.conds.length*3:Nat):Int) by lia,xD,<-k_,<-gn,hl]
  congr 1
  rw[show [(q.kind:Int),q.place,cx q.deep,(q.limit:Int),(q.conds.length:Int)]++(q.conds.map dO).flatten++s0::(q.by_.map sortRow).flatten=[(q.kind:Int),q.place,cx q.deep,(q.limit:Int),(q.conds.length:Int)]++((q.conds.map dO).flatten++s0::(q.by_.map sortRow).flatten) by simp];rw[show 5+q.conds.length*3=[(q.kind:Int),q.place,cx q.deep,(q.limit:Int),(q.conds.length:Int)].length+q.conds.length*3 from Z,oP,<-K5,U9];rfl
 have aag:qP (l.map V.int) (aa ((5:Int)+3*(q.conds.length:Int)+1)) ab=((q.by_.map sortRow).flatten).map V.int:=by
  rw[show(5:Int)+3*(q.conds.length:Int)+1=((5+q.conds.length*3+1:Nat):Int) by lia,oJ,<-gn,hl]
  congr 1
  rw[show [(q.kind:Int),q.place,cx q.deep,(q.limit:Int),(q.conds.length:Int)]++(q.conds.map dO).flatten++s0::(q.by_.map sortRow).flatten=([(q.kind:Int),q.place,cx q.deep,(q.limit:Int),(q.conds.length:Int)]++(q.conds.map dO).flatten++[s0])++(q.by_.map sortRow).flatten by simp];refine List.drop_left' ?_;simp[K5];lia
 refine⟨_,Z,_,Z,_,Z,_,Z,_,_,Z,bQ.of hN5,λp1 BF=>?_⟩;rw[aah];have sA:a7 H5 (upd H5 p1 (.lst ((q.conds.map dO).flatten.map V.int))):=a7.upd BF;refine⟨p1,3,q.conds.map dO,Z,ak,.inr Z,(λy hy=>by obtain⟨c,_,rfl⟩:=aV.mp hy;rfl),by rw[af];lia,λH6 Cs sB acV hCs=>?_⟩;have s6:=sA.trans sB;refine⟨_,Z,_,_,_,_,Z,s6 _ _ ZK,T.cO,T.f6,(by show 5<1000;decide),?_⟩;have ab0:∀{b:ao},(upd H5 p1 (.lst ((q.conds.map dO).flatten.map V.int))) b=ab->H5 b=ab:=λh=>a7.free sA h;have acd:Cs≠x:=λz=>by rw[z]at acV;have:=ab0 acV;rw[ZK]at this;cases this
 have aaw:vd (λb=>H b=ab) (upd H6 x (.ins t.Question dx (b_ (al "conditions") (.ref Cs) (b_ (al "most") (nI q.limit) (b_ (al "deep") (.int (cx q.deep)) (b_ (al "place") (.int q.place) (b_ (al "kind") (nI q.kind) (b_ (al "numbers") (.ref N) [])))))))) Cs (q.conds.map dO):=by
  obtain⟨as,e,pp⟩:=hCs;refine⟨as,ups acd e,dI (λb y z=>⟨ups (λw=>?_) z.1,ab1 (ab0 z.2)⟩) pp⟩;have:=ab0 z.2;rw[w,ZK]at this
  cases this
 have b7:vE x H (upd H6 x (.ins t.Question dx (b_ (al "conditions") (.ref Cs) (b_ (al "most") (nI q.limit) (b_ (al "deep") (.int (cx q.deep)) (b_ (al "place") (.int q.place) (b_ (al "kind") (nI q.kind) (b_ (al "numbers") (.ref N) [])))))))):=λb u n e=>ups n (s6 _ _ (b5 b u n e));have ZJ:(upd H6 x (.ins t.Question dx (b_ (al "conditions") (.ref Cs) (b_ (al "most") (nI q.limit) (b_ (al "deep") (.int (cx q.deep)) (b_ (al "place") (.int q.place) (b_ (al "kind") (nI q.kind) (b_ (al "numbers") (.ref N) [])))))))) x=aa (.ins t.Question dx (b_ (al "conditions") (.ref Cs) (b_ (al "most") (nI q.limit) (b_ (al "deep") (.int (cx q.deep)) (b_ (al "place") (.int q.place) (b_ (al "kind") (nI q.kind) (b_ (al "numbers") (.ref N) []))))))):=ak;have fCs:H Cs=ab:=ab1 (ab0 acV);generalize upd H6 x (.ins t.Question dx (b_ (al "conditions") (.ref Cs) (b_ (al "most") (nI q.limit) (b_ (al "deep") (.int (cx q.deep)) (b_ (al "place") (.int q.place) (b_ (al "kind") (nI q.kind) (b_ (al "numbers") (.ref N) [])))))))=H7 at aaw b7 ZJ;have fr7:∀{b:ao},H7 b=ab->H b=ab:=λ{b} hb=>by
  cases z:H b with
  |none=>rfl
  |some o=>
   by_cases e:b=x
   ·rw[e,ZJ]at hb;cases hb
   ·rw[b7 b o e z]at hb;cases hb
 refine⟨_,Z,_,Z,_,_,Z,Z,_,Z,_,_,Z,bQ.of (b7 N _ xN hN),λp2 l9=>?_⟩;rw[aag];have sC:a7 H7 (upd H7 p2 (.lst ((q.by_.map sortRow).flatten.map V.int))):=a7.upd l9;refine⟨p2,2,q.by_.map sortRow,Z,ak,.inl Z,(λy hy=>by obtain⟨c,_,rfl⟩:=aV.mp hy;rfl),by rw[af];lia,λH8 Ss sD acU hSs=>?_⟩;have s8:=sC.trans sD;refine⟨_,Z,_,_,_,_,Z,s8 _ _ ZJ,T.cO,T.j?,(by show 6<1000;decide),?_⟩;have abZ:∀{b:ao},(upd H7 p2 (.lst ((q.by_.map sortRow).flatten.map V.int))) b=ab->H7 b=ab:=λh=>a7.free sC h;have xSs:Ss≠x:=λz=>by rw[z]at acU;have:=abZ acU;rw[ZJ]at this;cases this
 have Xp:vd (λb=>H b=ab) (upd H8 x (.ins t.Question dx (b_ (al "sortings") (.ref Ss) (b_ (al "conditions") (.ref Cs) (b_ (al "most") (nI q.limit) (b_ (al "deep") (.int (cx q.deep)) (b_ (al "place") (.int q.place) (b_ (al "kind") (nI q.kind) (b_ (al "numbers") (.ref N) []))))))))) Ss (q.by_.map sortRow):=by
  obtain⟨as,e,pp⟩:=hSs;refine⟨as,ups xSs e,dI (λb y z=>⟨ups (λw=>?_) z.1,fr7 (abZ z.2)⟩) pp⟩;have:=abZ z.2;rw[w,ZJ]at this
  cases this
 have nx:∀{b:ao},H b=ab->b≠x:=λ{b} h z=>by rw[z,h0]at h;cases h
 have Xt:vd (λb=>H b=ab) (upd H8 x (.ins t.Question dx (b_ (al "sortings") (.ref Ss) (b_ (al "conditions") (.ref Cs) (b_ (al "most") (nI q.limit) (b_ (al "deep") (.int (cx q.deep)) (b_ (al "place") (.int q.place) (b_ (al "kind") (nI q.kind) (b_ (al "numbers") (.ref N) []))))))))) Cs (q.conds.map dO):=by
  obtain⟨as,e,pp⟩:=aaw;exact⟨as,ups acd (s8 _ _ e),dI (λb y z=>⟨ups (nx z.2) (s8 _ _ z.1),z.2⟩) pp⟩
 have b9:vE x H (upd H8 x (.ins t.Question dx (b_ (al "sortings") (.ref Ss) (b_ (al "conditions") (.ref Cs) (b_ (al "most") (nI q.limit) (b_ (al "deep") (.int (cx q.deep)) (b_ (al "place") (.int q.place) (b_ (al "kind") (nI q.kind) (b_ (al "numbers") (.ref N) []))))))))):=λb u n e=>ups n (s8 _ _ (b7 b u n e));have ZI:(upd H8 x (.ins t.Question dx (b_ (al "sortings") (.ref Ss) (b_ (al "conditions") (.ref Cs) (b_ (al "most") (nI q.limit) (b_ (al "deep") (.int (cx q.deep)) (b_ (al "place") (.int q.place) (b_ (al "kind") (nI q.kind) (b_ (al "numbers") (.ref N) []))))))))) x=aa (.ins t.Question dx (b_ (al "sortings") (.ref Ss) (b_ (al "conditions") (.ref Cs) (b_ (al "most") (nI q.limit) (b_ (al "deep") (.int (cx q.deep)) (b_ (al "place") (.int q.place) (b_ (al "kind") (nI q.kind) (b_ (al "numbers") (.ref N) [])))))))):=ak;have fSs:H Ss=ab:=fr7 (abZ acU);generalize upd H8 x (.ins t.Question dx (b_ (al "sortings") (.ref Ss) (b_ (al "conditions") (.ref Cs) (b_ (al "most") (nI q.limit) (b_ (al "deep") (.int (cx q.deep)) (b_ (al "place") (.int q.place) (b_ (al "kind") (nI q.kind) (b_ (al "numbers") (.ref N) []))))))))=H9 at Xt Xp b9 ZI;have fr9:∀{b:ao},H9 b=ab->H b=ab:=λ{b} hb=>by
  cases z:H b with
  |none=>rfl
  |some o=>
   by_cases e:b=x
   ·rw[e,ZI]at hb;cases hb
   ·rw[b9 b o e z]at hb;cases hb
 obtain⟨abf,e1,pp1⟩:=Xt.ll.rl;obtain⟨abe,e2,pp2⟩:=Xp.ll.rl;have nn:=dY pp1;have qL:=dY pp2;rw[af]at nn qL;refine⟨_,Z,_,_,_,_,_,Z,ZI,T.cO,T.f6,Z,_,Z,_,_,_,_,_,Z,ZI,T.cO,T.j?,Z,_,_,_,_,Z,Z,e1,e2,aB (m:=10) om dk,λp3 GY=>?_⟩;have WB:a7 H9 (upd H9 p3 (.lst (abf++abe))):=a7.upd GY;have W?:(upd H9 p3 (.lst (abf++abe))) p3=aa (.lst (abf++abe)):=ak;generalize upd H9 p3 (.lst (abf++abe))=aeA at WB W?;refine⟨p3,Z,⟨_,bQ.of W?⟩,λD hD=>mU (K:=K) (l:=q.conds.map dO++q.by_.map sortRow) (Ri:=λy z=>RL H9 y z/\z≠[]) (λr=>V.int (r.headD 0)) hD (bQ.of W?) ?_ ?_ ?_ ?_⟩
 ·refine t9 ?_ ?_
  ·refine vq (by rw[af];exact nn) λi y z hy hz=>?_;obtain⟨z',EA,DC⟩:=o5 pp1 hy;rw[hz]at EA
   cases EA;refine⟨DC,?_⟩;obtain⟨c,_,rfl⟩:=aV.mp (aP hz);simp[dO]
  ·refine vq (by rw[af];exact qL) λi y z hy hz=>?_;obtain⟨z',EA,DC⟩:=o5 pp2 hy;rw[hz]at EA
   cases EA;refine⟨DC,?_⟩;obtain⟨c,_,rfl⟩:=aV.mp (aP hz);simp[sortRow]
 ·rw[aQ,af,af];exact aX (m:=10) om dk
 ·intro i z y H11 Kt hz hy hR abp ht;obtain⟨⟨b,rfl,hb⟩,iQ⟩:=hR
  cases z with
  |nil=>exact absurd Z iQ
  |cons z0 zr=>
   have ur:H11 b=aa (.lst (.int z0::zr.map V.int)):=abp _ _ (WB _ _ hb);exact⟨Z,_,Z,_,_,_,_,Z,Z,bQ.of ur,sR,ht _ (a7.refl _)⟩
 ·intro H11 abp e11;have Nw:=WB.trans abp;have fD:H D=ab:=fr9 (WB.free hD);refine⟨_,Z,_,_,_,_,Z,Nw _ _ ZI,T.cO,T.mx,(by show 7<1000;decide),?_⟩;refine k _ Cs Ss D (λb u n e=>ups n (Nw _ _ (b9 b u n e))) ak fCs fSs fD ?_ ?_ ?_
  ·obtain⟨as,e,pp⟩:=Xt;exact⟨as,ups acd (Nw _ _ e),dI (λb y z=>⟨ups (nx z.2) (Nw _ _ z.1),z.2⟩) pp⟩
  ·obtain⟨as,e,pp⟩:=Xp;exact⟨as,ups xSs (Nw _ _ e),dI (λb y z=>⟨ups (nx z.2) (Nw _ _ z.1),z.2⟩) pp⟩
  ·show upd _ _ _ _=_;rw[aZ (nx fD),e11,<-Oj,bv];rfl
theorem Hl(e:H d=aa u)(s:a7 (upd H d (.jT od u)) H'):a7 H (upd H' d u):=λb o h=>by
 by_cases q:b=d
 ·subst q;rw[e]at h
  cases h;exact ak
 ·rw[aZ q];exact s b o (by rw[aZ q];exact h)
theorem Bp(a b:V9):nz (a++b)=nz a++nz b:=bz
inductive Kd(t:eP)(vs:V2)(H:Hp)(Q:VK)(E:XK):Prop
 |mk(td:ao)(h:Nat)(ro:Role)(wd:aO)(_:vs=[.ref td,nI h])(_:On t H ro td id wd)(_:wd.things.length<=200)(_:∀H' p,a7 H H'->H p=ab->IL H' p (nz (cf wd h))->Q (.ref p) H')
theorem Bm(T:Txt K mg t):(1<*32) ["things","holder"] (Kd t):=by
 refine T.f.G32.F.ok2 ["things","holder","number"] ?_;obtain⟨td,h,ro,wd,rfl,hT,hl,k⟩;refine⟨_,(aH (bo (TF (mr (own:=[("number",2)]) Z nd (Ac (pv 0)) (eE (N:=["things","holder","number"]) (sc:=cj Ei) dK) (λ_ _ _ _ _=>cJ (i:=2) nd Z (bi Z)) (λ_ _ _ _ _=>nG (bR fZ (nH (K:=K) Z (fW hu (pv 0) (pv 2) (λ_ _=>rfl)) Z) (pv 1) (bU _))) (λ_ _ _ _ _=>(pv 2)))))),?_⟩;obtain⟨ta,e,r,f⟩:=hT;refine⟨td,.dK (eS ta (aM wd)),e,trivial,λod=>?_⟩;have e1:(upd H td (.jT od (.dK (eS ta (aM wd))))) td=aa (.jT od (.dK (eS ta (aM wd)))):=ak;have k1:Kp (· ≠.things) H ro (upd H td (.jT od (.dK (eS ta (aM wd))))) ro:=Kp.put r;have uns:∀H',a7 (upd H td (.jT od (.dK (eS ta (aM wd))))) H'->a7 H (upd H' td (.dK (eS ta (aM wd)))):=λH'=>Hl e;have fr1:∀{b:ao},(upd H td (.jT od (.dK (eS ta (aM wd))))) b=ab->H b=ab:=λ{b} hb=>by
  cases q:H b with
  |none=>rfl
  |some o=>
   by_cases z:b=td
   ·rw[z,e1]at hb;cases hb
   ·rw[aZ z,q]at hb;cases hb
 generalize upd H td (.jT od (.dK (eS ta (aM wd))))=H1 at e1 k1 uns fr1;refine⟨_,Z,td,od,Z,.inl ⟨_,e1,λD hD=>Ub (l:=aM wd) (Ri:=λy x=>y=nI x) (λn=>if((bh wd n).holder==h)=ac then aa (nI n)else ab) hD (λH' s=>⟨s _ _ e1,by rw[af];exact aS _⟩) (λi H' hi s=>⟨s _ _ e1,by rw[af];exact hi⟩) (λi H' x YO hi hy=>?_) ?_ ?_ ?_⟩⟩
 ·obtain⟨rfl,k',v',NW,rfl⟩:=hy;obtain⟨n,Cm,Sn,rfl⟩:=Al NW;exact⟨Z,n,Cm,Sn⟩
 ·exact aX (aB (gM wd) hl) dk
 ·intro i x y H2 Kt Kf hx hR s2 ht hf;subst hR;have hn:=cw.mp (aP hx);obtain⟨zl,d,te,_⟩:=(f x hn).kp k1 nofun nofun;refine⟨Z,_,Z,_,Z,_,_,Z,l3 (.inr ⟨od,s2 _ _ e1⟩) (aP hx),_,_,_,_,_,Z,s2 _ _ te,T.ip,T.gW,Z,_,Z,Z,_,Z,?_⟩;rw[v?];by_cases hh:(bh wd x).holder=h
  ·rw[aI hh];exact cI ⟨_,Z,ht _ _ (by simp[hh]) (a7.refl _)⟩
  ·rw[ay hh];exact cy (hf _ (by simp[hh]) (a7.refl _))
 ·intro H2 s2 e2;refine⟨s2 _ _ e1,k _ D (uns _ s2) (fr1 hD) ?_⟩;have aeb:D≠td:=λz=>by rw[z,e1]at hD;cases hD
  show upd _ _ _ _=_;rw[aZ aeb,e2]
  congr 2
  unfold cf nz;rw[bv]
  induction aM wd with
  |nil=>rfl
  |cons a l ih=>
   rw[c9,bH]
   cases hb:(bh wd a).holder==h with
   |true=>simp only[if_true];rw[ih];rfl
   |false=>simp only[bA,if_false];exact ih
inductive CN(t:eP)(vs:V2)(H:Hp)(Q:VK)(E:XK):Prop
 |mk(td:ao)(n:Nat)(ro:Role)(wd:aO)(_:vs=[.ref td,nI n])(_:On t H ro td id wd)(_:p8 wd)(_:a_ wd n=ac)(_:∀H' p,a7 H H'->H p=ab->IL H' p (nz (oM wd n))->Q (.ref p) H')
theorem De(T:Txt K mg t):(1<*35) ["things","number"] (CN t):=by
 refine T.f.G35.F.ok2 ["things","number","found","holder"] ?_;obtain⟨td,n,ro,wd,rfl,hT,ok,hn,k⟩;refine⟨_,(ap (bM (i:=2) nd (cn ax))
  (ap (bM (i:=3) nd (bb (fW hu (pv 0) (pv 1) (λ_ _=>rfl)) Z))
  (ap (qy bY (bR Bg (pv 3) aN (bU _))
  (ap (cv (jK bp dF dE jS (pv 2) (ah (pv 3) ax)))
  (aH (bM (i:=3) nd (bb (fW hu (pv 0) (pv 3) (λ_ _=>rfl)) Z)))))
  (aH (bo (pv 2)))))),?_⟩
 have get:∀{m:Nat}{H':Hp},a7 H H'->a_ wd m=ac->∃(a zl d:ao),m_ H' td (nI m) (aa (.ref a))/\H' a=aa (.ins t.Thing zl (pV (nI (bh wd m).kind) (nI (bh wd m).holder) (.ref d))):=λ{m H'} s hm=>by
  obtain⟨a,dg,zl,d,te,_⟩:=(hT.kp (P:=λ_=>True) (Kp.same s) trivial (λ_ _=>trivial) (λ_ _=>trivial)).thing (.inl Z) hm;exact⟨a,zl,d,dg,te⟩
 refine⟨(by show 0<=aE;decide),λp hp=>?_⟩;have s0:a7 H (upd H p (.lst [])):=a7.upd hp;have KZ:(upd H p (.lst [])) p=aa (.lst []):=ak;generalize upd H p (.lst [])=H1 at s0 KZ;obtain⟨a,zl,d,dg,te⟩:=get s0 hn;have hl:=uq ok.tree hn;have W9:=ok.tl;refine⟨_,Z,_,Z,_,_,Z,dg,_,_,_,_,_,Z,te,T.ip,T.gW,Z,?_⟩;refine⟨λm σ H'=>∃(done:V9)(c:Nat),σ=[aa (.ref td),aa (nI n),aa (.ref p),aa (nI c)]/\a7 H H'/\IL H' p (nz done)/\(c=0\/a_ wd c=ac)/\oM wd n=done++(if c=0 then []else c::oM wd c)/\m=(if c=0 then 0 else 1+(oM wd c).length),
  ⟨_,[],(bh wd n).holder,Z,s0,KZ,ok.tree.hold n hn,by rw[ly];exact ok.tree.iE hn,Z⟩,?_⟩
 rintro m σ H2 ⟨done,c,rfl,s2,hd,hc,he,rfl⟩;refine⟨_,Z,Z,_,Z,?_⟩;by_cases h0:c=0
 ·have:(!decide (nI c=V.int 0))=ae:=by rw[pI,aI h0];rfl
  rw[this];rw[aC h0,eQ]at he;refine cy ⟨_,Z,k H2 p s2 hp ?_⟩;rw[he];exact hd
 ·have:(!decide (nI c=V.int 0))=ac:=by rw[pI,ay h0];rfl
  rw[this];rw[aw h0]at he;have K6:=hc.resolve_left h0;have c6:done.length+1<=200:=by
   have:=congrArg lL he;rw[aQ,aJ]at this;lia
  obtain⟨a2,dxt2,d2,dg2,te2⟩:=get (s2.tN (o:=.lst ((nz done).map V.int++[nI c])) hp) K6;refine cI ⟨_,λ_ _ h=>h,_,rfl,.inl ⟨rfl,_,bQ.of hd⟩,_,rfl,p,_,_,rfl,rfl,hd,by rw[af,af];exact bI (m:=200) (by lia) (by decide),_,rfl,_,rfl,_,_,rfl,dg2,_,_,_,_,_,rfl,te2,T.ip,T.gW,rfl,_,?_,done++[c],(bh wd c).holder,rfl,s2.tN hp,?_,ok.tree.hold c K6,?_,rfl⟩
  ·rw[aw h0];have:=ok.tree.iE K6;split
   ·lia
   ·rename_i iQ;rw[aw iQ]at this;rw[this,aJ];lia
  ·show upd _ _ _ _=_;rw[ak,Bp,bz];rfl
  ·rw[fP,he,<-ok.tree.iE K6];rfl
def pE(wd:aO)(j n:Nat):V9:=((aM wd).take j).filter λx=>(bh wd x).holder==n
theorem yF(wd:aO)(n:Nat):pE wd (aM wd).length n=cf wd n:=by unfold pE cf;rw[cB]
theorem mN(h:(aM wd)[j]? =aa x)(n:Nat):pE wd (j+1) n=pE wd j n++(if(bh wd x).holder=n then [x]else []):=by
 unfold pE;rw[take_succ h,xQ]
 congr 1
 by_cases e:(bh wd x).holder=n<;>simp[e]
structure sE(B H:Hp)(d:ao)(kvs:List (Key×V))(f:Nat->V9):Prop where
 zS:H d=aa (.dK kvs)
 no:∀n:Nat,f n=[]->eY kvs (.inl (n:Int))=ab
 yes:∀n:Nat,f n≠[]->∃b,eY kvs (.inl (n:Int))=aa (.ref b)/\IL H b (nz (f n))/\B b=ab
 inj:∀(n m:Nat)(b:ao),eY kvs (.inl (n:Int))=aa (.ref b)->eY kvs (.inl (m:Int))=aa (.ref b)->n=m
inductive zC(t:eP)(vs:V2)(H:Hp)(Q:VK)(E:XK):Prop
 |mk(td:ao)(ro:Role)(wd:aO)(_:vs=[.ref td])(_:On t H ro td id wd)(_:wd.things.length<=200)(_:∀H' d kvs,a7 H H'->H d=ab->sE H H' d kvs (cf wd)->Q (.ref d) H')
theorem zN(T:Txt K mg t):(1<*33) ["things"] (zC t):=by
 refine T.f.G33.F.ok2 ["things","holdings","number"] ?_;obtain⟨td,ro,wd,rfl,hT,hl,k⟩;refine⟨_,(ap (bM (i:=1) nd qA)
  (ap (FQ (jI bY Z (Ac (pv 0)) (cJ (i:=2) nd Z (bi Z))
  (aH (cv (jK bp dF dE jS (P_ (pv 1) (bb (fW hu (pv 0) (pv 2) (λ_ _=>rfl)) Z) (cn ax) ⟨Z,Z,Z,Z⟩) (ah (pv 2) ax))))))
  (aH (bo (pv 1))))),?_⟩
 obtain⟨ta,e,r,f⟩:=hT;intro d hd;have ab6:td≠d:=aL e hd;refine⟨td,.dK (eS ta (aM wd)),ups ab6 e,trivial,λod=>?_⟩;have e1:(upd (upd H d (.dK [])) td (.jT od (.dK (eS ta (aM wd))))) td=aa (.jT od (.dK (eS ta (aM wd)))):=ak;have d1:(upd (upd H d (.dK [])) td (.jT od (.dK (eS ta (aM wd))))) d=aa (.dK []):=ups (a8 ab6) ak;have k1:Kp (· ≠.things) H ro (upd (upd H d (.dK [])) td (.jT od (.dK (eS ta (aM wd))))) ro:=((Kp.same (P:=(· ≠.things)) (a7.upd hd)).trans (Kp.put r));have kp1:∀b o,b≠td->H b=aa o->(upd (upd H d (.dK [])) td (.jT od (.dK (eS ta (aM wd))))) b=aa o:=λb o n h=>ups n (ups (aL h hd) h);generalize upd (upd H d (.dK [])) td (.jT od (.dK (eS ta (aM wd))))=H1 at e1 d1 k1 kp1;have qg:=gM wd;refine⟨_,Z,td,od,Z,.inl ⟨_,e1,?_⟩⟩;refine An (n:=(aM wd).length) (λj σ H'=>∃(v:Option V)(kvs:List (Key×V)),σ=[aa (.ref td),aa (.ref d),v]/\H' td=aa (.jT od (.dK (eS ta (aM wd))))/\(∀b o,b≠td->H b=aa o->H' b=aa o)/\sE H H' d kvs (pE wd j)/\kvs.length<=j)
  ⟨ab,[],Z,e1,kp1,⟨d1,λn _=>rfl,λn h=>absurd (by unfold pE;simp) h,λn m b h=>by cases h⟩,aS _⟩ ?_ ?_ ?_ ?_
 ·rintro σ H2 ⟨v,kvs,rfl,et,_⟩;exact⟨et,by rw[af];exact aS _⟩
 ·rintro j σ H2 hj ⟨v,kvs,rfl,et,_⟩;exact⟨et,by rw[af];exact hj⟩
 ·rintro j σ H2 x H3 hj ⟨v,kvs,rfl,et,ED,hA,c6⟩ ⟨rfl,k',v',NW,rfl⟩;obtain⟨n,Cm,Sn,rfl⟩:=Al NW;rw[Sn];have hn:=cw.mp (aP Cm);obtain⟨zl,dd,te,_⟩:=f n hn;have tan:ta n≠td:=lh te e (by intro q;cases q);have te3:=ED _ _ tan te;refine⟨_,Z,d,Z,.inl ⟨_,.inl hA.zS⟩,_,Z,_,Z,_,_,Z,l3 (.inr ⟨od,et⟩) (aP Cm),_,_,_,_,_,Z,te3,T.ip,T.gW,Z,(by show 0<=aE;decide),λl hl=>?_⟩;have ld:d≠l:=aL hA.zS hl;have abB:td≠l:=aL et hl;have fl:H l=ab:=by
   cases q:H l with
   |none=>rfl
   |some o=>rw[ED l o (a8 abB) q]at hl;cases hl
  refine⟨kvs,.inl (((bh wd n).holder:Nat):Int),ups ld hA.zS,rfl,aX (m:=200) (by lia) (by decide),λv hv=>?_,λhv=>?_⟩
  ·obtain⟨b,EI,ur,VO⟩:∃b,eY kvs (.inl (((bh wd n).holder:Nat):Int))=aa (.ref b)/\IL H3 b (nz (pE wd j (bh wd n).holder))/\H b=ab:=by
    by_cases z:pE wd j (bh wd n).holder=[]
    ·rw[hA.no _ z]at hv;cases hv
    ·exact hA.yes _ z
   rw[EI]at hv
   cases hv;have bl:b≠l:=aL ur hl;have bd:b≠d:=lh ur hA.zS (by intro q;cases q);have btd:b≠td:=lh ur et (by intro q;cases q);have hhl:(pE wd j (bh wd n).holder).length<=j:=by
    unfold pE;exact aB (bx _ _) (List.length_take_le _ _)
   refine⟨.inl ⟨rfl,_,bQ.of (ups bl ur)⟩,_,rfl,b,_,_,rfl,rfl,ups bl ur,by rw[af,af];exact aX (m:=200) (by lia) (by decide),?_⟩;refine⟨_,kvs,Z,ups (a8 btd) (ups abB et),(λc o hc h=>ups (aL h VO) (ups (aL h fl) (ED c o hc h))),⟨ups (a8 bd) (ups ld hA.zS),λm hm=>?_,λm hm=>?_,hA.inj⟩,om⟩
   ·rw[mN Cm]at hm;exact hA.no m (JG.mp hm).1
   ·rw[mN Cm];by_cases rV:(bh wd n).holder=m
    ·subst rV;refine⟨b,EI,?_,VO⟩;show upd _ _ _ _=_;rw[ak,aC Z,Bp,bz];rfl
    ·rw[mN Cm,aw rV,eQ]at hm;rw[aw rV,eQ];obtain⟨b',h1,h2,h3⟩:=hA.yes m hm;have ad3:b'≠b:=λz=>rV (hA.inj _ _ b EI (z▸h1));exact⟨b',h1,ups ad3 (ups (aL h2 hl) h2),h3⟩
  ·have Xd:pE wd j (bh wd n).holder=[]:=by
    by_cases z:pE wd j (bh wd n).holder=[]
    ·exact z
    ·obtain⟨b,h1,_⟩:=hA.yes _ z;rw[hv]at h1
     cases h1
   have hll:=ak (H:=H3) (a:=l) (o:=HO.lst []);have hlx:∀o,(upd (upd H3 l (.lst [])) d o) l=aa (.lst []):=λo=>ups (a8 ld) ak;refine⟨.inl ⟨Z,_,bQ.of (hlx _)⟩,_,Z,l,_,_,Z,Z,hlx _,by show 0<aE;decide,?_⟩;refine⟨_,putK kvs (.inl (((bh wd n).holder:Nat):Int)) (.ref l),Z,ups abB (ups ab6 (ups abB et)),(λc o hc h=>ups (aL h fl) (ups (aL h hd) (ups (aL h fl) (ED c o hc h)))),⟨ups ld ak,λm hm=>?_,λm hm=>?_,λm m' b hm EC=>?_⟩,?_⟩
   ·rw[mN Cm]at hm;obtain⟨h1,h2⟩:=JG.mp hm;have rV:(bh wd n).holder≠m:=λz=>by rw[aC z]at h2;cases h2
    rw[n9,aw (λz=>rV (by have:=iV z;lia))];exact hA.no m h1
   ·rw[mN Cm];by_cases rV:(bh wd n).holder=m
    ·subst rV;refine⟨l,by rw[n9,aC Z],?_,fl⟩;show upd _ _ _ _=_;rw[ak,aC Z,Xd];rfl
    ·rw[mN Cm,aw rV,eQ]at hm;rw[aw rV,eQ];obtain⟨b',h1,h2,h3⟩:=hA.yes m hm;have ad4:b'≠d:=lh h2 hA.zS (by intro q;cases q);exact⟨b',by rw[n9,aw (λz=>rV (by have:=iV z;lia))];exact h1,ups (aL h2 hl) (ups ad4 (ups (aL h2 hl) h2)),h3⟩
   ·have old:∀{q:Nat}{b':ao},eY kvs (.inl (q:Int))=aa (.ref b')->b'≠l:=λ{q b'} h z=>by
     by_cases zz:pE wd j q=[]
     ·rw[hA.no _ zz]at h;cases h
     ·obtain⟨b2,h1,h2,_⟩:=hA.yes _ zz;rw[h1]at h
      cases h;rw[z]at h2;rw[show H3 l=_ from h2]at hl
      cases hl
    rw[n9]at hm EC;split at hm
    ·rename_i z1
     cases hm;split at EC
     ·rename_i z2;have a1:=iV z1;have a2:=iV z2;lia
     ·exact absurd Z (old EC)
    ·split at EC
     ·cases EC;exact absurd Z (old hm)
     ·exact hA.inj m m' b hm EC
   ·have:=pC kvs (.inl (((bh wd n).holder:Nat):Int)) (.ref l);lia
 ·rintro σ H2 ⟨v,kvs,rfl,et,ED,hA,c6⟩;refine⟨et,_,Z,k _ d kvs ?_ hd ?_⟩
  ·intro b o h;by_cases q:b=td
   ·subst q;rw[e]at h
    cases h;exact ak
   ·exact ups q (ED b o q h)
  ·refine⟨ups (a8 ab6) hA.zS,λn hn=>hA.no n (by rw[yF];exact hn),λn hn=>?_,hA.inj⟩;obtain⟨b,h1,h2,h3⟩:=hA.yes n (by rw[yF];exact hn);rw[yF]at h2;exact⟨b,h1,ups (lh h2 et (by intro q;cases q)) h2,h3⟩
theorem sE.get(h:sE B H d kvs f)(n:Nat):(f n=[]/\m_ H d (nI n) ab)\/∃b,m_ H d (nI n) (aa (.ref b))/\IL H b (nz (f n))/\B b=ab:=by
 by_cases z:f n=[]
 ·exact .inl ⟨z,.inl ⟨kvs,.inl (n:Int),.inl h.zS,Z,(h.no n z).symm⟩⟩
 ·obtain⟨b,h1,h2,h3⟩:=h.yes n z;exact .inr ⟨b,.inl ⟨kvs,.inl (n:Int),.inl h.zS,Z,h1.symm⟩,h2,h3⟩
theorem sE.keep(h:sE B H d kvs f)(s:∀b o,H b=aa o->(b=d\/∃n:Nat,eY kvs (.inl (n:Int))=aa (.ref b))->H' b=aa o):sE B H' d kvs f:=
 ⟨s _ _ h.zS (.inl Z),h.no,λn hn=>by
  obtain⟨b,h1,h2,h3⟩:=h.yes n hn;exact⟨b,h1,s _ _ h2 (.inr ⟨n,h1⟩),h3⟩,h.inj⟩
inductive Nq(t:eP)(vs:V2)(H:Hp)(Q:VK)(E:XK):Prop
 |mk(td:ao)(h:Nat)(ro:Role)(wd:aO)(_:vs=[.ref td,nI h])(_:On t H ro td id wd)(_:p8 wd)(_:∀H' p,a7 H H'->H p=ab->IL H' p (nz (bG wd h))->Q (.ref p) H')
theorem uN(T:Txt K mg t):(2<*34) ["things","holder"] (Nq t):=by
 refine T.f.G34.F.ok2 ["things","holder","holdings","found","waiting","number"] ?_;obtain⟨td,h,ro,wd,rfl,hT,ok,k⟩;refine⟨_,(ap (bM (i:=2) nd (j9 (zN T) (hr.mono dk) Z T.f.G33 (ah (pv 0) ax)))
  (ap (bM (i:=3) nd (cn ax))
  (ap (bM (i:=4) nd (A' Z Z T.list Z T.reversed (ah (H_ hu (pv 2) (pv 1) (cn ax) ⟨Z,Z,Z,Z⟩) ax)))
  (ap (qy bY (bR y8 (bF bq Z T.len a9 (ah (pv 4) ax)) aN (bU _))
  (ap (bM (i:=5) nd (WK bp mi mf WW (pv 4)))
  (ap (cv (jK bp dF dE jS (pv 3) (ah (pv 5) ax)))
  (aH (cv (jK bp ej ei li (pv 4) (ah (A' Z Z T.list Z T.reversed (ah (H_ hu (pv 2) (pv 5) (cn ax) ⟨Z,Z,Z,Z⟩) ax)) ax)))))))
  (aH (bo (pv 3))))))),?_⟩
 have W9:=ok.tl;have So:=oF ok.tree h;refine⟨_,Z,td,ro,wd,Z,hT,ok.tl,λH1 d kvs s1 KE N1=>?_⟩;refine⟨(by show 0<=aE;decide),λp hp=>?_⟩;have s2:a7 H1 (upd H1 p (.lst [])):=a7.upd hp;have l9:(upd H1 p (.lst [])) p=aa (.lst []):=ak;have fp:H p=ab:=s1.free hp;generalize upd H1 p (.lst [])=H2 at s2 l9;have YB:sE H H2 d kvs (cf wd):=N1.keep λb o hb _=>s2 b o hb;have rev:∀(n:Nat)(H3:Hp)(l:ao),H3 l=ab->sE H H3 d kvs (cf wd)->∃(o:Option V)(a':ao)(xs:V2),m_ (upd H3 l (.lst [])) d (nI n) o/\o.getD (.ref l)= .ref a'/\bQ K (upd H3 l (.lst [])) a' xs/\xs.reverse=(nz (cf wd n).reverse).map V.int:=λn H3 l hl hA=>by
  have hA':sE H (upd H3 l (.lst [])) d kvs (cf wd):=hA.keep λb o hb _=>a7.upd hl b o hb;rcases hA'.get n with⟨z,dg⟩|⟨b,dg,hb,_⟩
  ·exact⟨_,l,[],dg,Z,bQ.of ak,by rw[z];rfl⟩
  ·refine⟨_,b,_,dg,Z,bQ.of hb,?_⟩;unfold nz;rw[R_,R_]
 refine⟨_,Z,d,Z,.inl ⟨_,.inl YB.zS⟩,_,Z,(by show 0<=aE;decide),λl0 abJ=>?_⟩;obtain⟨o0,a0,abg,dg0,g0,sq0,r0⟩:=rev h H2 l0 abJ YB;refine⟨o0,dg0,?_⟩;rw[g0];refine⟨a0,abg,Z,sq0,λq NT=>?_⟩;have s3:a7 H2 (upd (upd H2 l0 (.lst [])) q (.lst abg.reverse)):=(a7.upd abJ).up NT;have nq:H2 q=ab:=(a7.upd abJ).free NT;have hq:(upd (upd H2 l0 (.lst [])) q (.lst abg.reverse)) q=aa (.lst ((nz (cf wd h).reverse).map V.int)):=by rw[ak,r0]
 generalize upd (upd H2 l0 (.lst [])) q (.lst abg.reverse)=H3 at s3 hq;have fq:H q=ab:=(s1.trans s2).free nq;have qp:q≠p:=λz=>by rw[z,l9]at nq;cases nq
 have WT:∀b,(b=d\/∃n:Nat,eY kvs (.inl (n:Int))=aa (.ref b))->b≠q/\b≠p:=λb hb=>by
  rcases hb with rfl|⟨n,hn⟩
  ·exact⟨aL YB.zS nq,aL N1.zS hp⟩
  ·by_cases z:cf wd n=[]
   ·rw[N1.no n z]at hn;cases hn
   ·obtain⟨b',h1,h2,_⟩:=N1.yes n z;rw[h1]at hn
    cases hn;exact⟨aL (s2 _ _ h2) nq,aL h2 hp⟩
 refine⟨λm σ H'=>∃(done ws:V9)(v:Option V),σ=[aa (.ref td),aa (nI h),aa (.ref d),aa (.ref p),aa (.ref q),v]/\a7 H H'/\sE H H' d kvs (cf wd)/\IL H' p (nz done)/\IL H' q (nz ws)/\bG wd h=done++ws.reverse.flatMap (λx=>x::bG wd x)/\m=(ws.reverse.flatMap (λx=>x::bG wd x)).length,
  ⟨_,[],(cf wd h).reverse,ab,Z,(s1.trans s2).trans s3,YB.keep λb o hb _=>s3 b o hb,s3 _ _ l9,hq,by rw[vf,ly];exact ok.tree.nS h,Z⟩,?_⟩
 rintro m σ H4 ⟨done,ws,v,rfl,s4,hA4,Gd,adh,he,rfl⟩;have VC:ws.length<=(ws.reverse.flatMap (λx=>x::bG wd x)).length:=by
  rw[<-iT];generalize ws.reverse=us
  induction us with
  |nil=>simp
  |cons a us ih=>rw[gC,aQ,aJ,aJ];lia
 have Uj:=congrArg lL he;rw[aQ]at Uj;refine⟨_,Z,_,_,Z,.inl (bQ.of adh),_,_,Z,Z,_,Z,?_⟩;rw[af,af];rcases List.eq_nil_or_concat ws with rfl|⟨us,x,rfl⟩
 ·rw[ay (by simp)];refine cy ⟨_,Z,k H4 p s4 fp ?_⟩;rw[he];simpa using Gd
 ·rw[List.concat_eq_append]at*;rw[aI (by simp)];rw[wv,List.reverse_singleton,J0,gC]at he Uj VC ⊢;rw[aQ,aJ]at Uj;rw[aQ]at VC;have adg:H4 q=aa (.lst ((nz us).map V.int++[nI x])):=by
   have:=adh;unfold IL at this;rw[Bp,bz]at this;exact this
  have abM:((nz us).map V.int++[nI x]).dropLast=(nz us).map V.int:=by simp
  refine cI ⟨_,λ_ _ h=>h,_,Z,.inl ⟨Z,_,bQ.of adh⟩,q,_,nI x,Z,Z,adg,by simp,?_⟩;rw[abM];have VL:∀o,(upd H4 q o) p=aa (.lst ((nz done).map V.int)):=λo=>ups (a8 qp) Gd;refine⟨_,rfl,.inl ⟨rfl,_,bQ.of (VL _)⟩,_,rfl,p,_,_,rfl,rfl,VL _,by rw[af,af];exact aX (m:=200) (by lia) (by decide),?_⟩;have hq6:∀o o',(upd (upd H4 q o) p o') q=aa o:=λo o'=>ups qp ak;have aee:∀o o',sE H (upd (upd H4 q o) p o') d kvs (cf wd):=λo o'=>hA4.keep λb u hb hx=>ups (WT b hx).2 (ups (WT b hx).1 hb);refine⟨_,Z,.inl ⟨Z,_,bQ.of (hq6 _ _)⟩,_,Z,d,Z,.inl ⟨_,.inl (aee _ _).zS⟩,_,Z,(by show 0<=aE;decide),λl1 nn=>?_⟩;obtain⟨o1,a1,acb,dg1,g1,sq1,r1⟩:=rev x _ l1 nn (aee _ _);refine⟨o1,dg1,?_⟩;rw[g1];refine⟨a1,acb,Z,sq1,λr DC=>?_⟩;have s7:=((a7.upd (o:=.lst []) nn).up (o:=.lst acb.reverse) DC);have nr:=(a7.upd (o:=.lst []) nn).free DC;have hr7:∀G:Hp,(upd G r (.lst acb.reverse)) r=aa (.lst ((nz (cf wd x).reverse).map V.int)):=λG=>by rw[<-r1];exact ak
  have hxl:(cf wd x).length<=(bG wd x).length:=by
   rw[ok.tree.nS x];generalize cf wd x=vs
   induction vs with
   |nil=>simp
   |cons a vs ih=>rw[gC,aQ,aJ,aJ];lia
  have hul:us.length<=(us.reverse.flatMap (λx=>x::bG wd x)).length:=by
   rw[<-iT];generalize us.reverse=vs
   induction vs with
   |nil=>simp
   |cons a vs ih=>rw[gC,aQ,aJ,aJ];lia
  have fr:H r=ab:=by
   cases z:H r with
   |none=>rfl
   |some o=>rw[ups (aL z fp) (ups (aL z fq) (s4 _ _ z))]at nr;cases nr
  refine⟨q,r,_,_,Z,Z,s7 _ _ (hq6 _ _),hr7 _,?_,?_⟩
  ·rw[af,af,af,af,iT];exact aB (m:=400) om dk
  ·refine⟨_,?_,done++[x],us++(cf wd x).reverse,_,Z,?_,?_,?_,?_,?_,Z⟩
   ·rw[wv,vf,gL,<-ok.tree.nS x,aQ,aQ,aJ];lia
   ·exact λb o hb=>ups (aL hb fq) (s7 _ _ (ups (aL hb fp) (ups (aL hb fq) (s4 _ _ hb))))
   ·exact(aee _ _).keep λb u hb hx=>ups (WT b hx).1 (s7 _ _ hb)
   ·show upd _ _ _ _=_;rw[aZ (a8 qp),s7 _ _ ak,Bp,bz];rfl
   ·show upd _ _ _ _=_;rw[ak,Bp,bz]
   ·rw[wv,vf,gL,<-ok.tree.nS x,he,fP];rfl
def qV(wd:aO)(l:List dP):p_:=l.map λi=>(i.attrs,kG wd i.attrs)
theorem Ix :∀{l:V9}{r:xC},l.mapM f=aa r->r.length=l.length
 |[],r,h=>by simp at h;rw[h];rfl
 |a::l,r,h=>by
  rw[ml]at h
  cases e1:f a with
  |none=>rw[e1]at h;simp at h
  |some x=>
   rw[e1]at h
   cases e2:l.mapM f with
   |none=>rw[e2]at h;simp at h
   |some r'=>
    rw[e2]at h;simp at h;rw[<-h,aJ,aJ,Ix e2]
theorem uH(ok:p8 wd)(h:kG wd at_ n=aa r):n<=200/\r.length=at_.length+1/\r.getLast? =aa (n:Int):=by
 unfold kG at h;by_cases hn:a_ wd n=ac
 ·rw[aC hn]at h;refine⟨aB (b? hn).2 ok.tl,?_⟩;unfold fK at h
  cases e:at_.mapM (eT wd n)with
  |none=>rw[e]at h;cases h
  |some l=>
   rw[e]at h
   cases h;exact⟨by rw[aQ,Ix e];rfl,by simp⟩
 ·rw[aw hn]at h;cases h
inductive vL(t:eP)(vs:V2)(H:Hp)(Q:VK)(E:XK):Prop
 |mk(W q:ao)(ro:Role)(wd:aO)(L:p_)(c:bw)(l:xC)(qq:bu)(_:vs=[.ref W,.ref q])(_:WR t H ro W id wd L c)(_:p8 wd)(_:QR t H ro q l qq)(_: -1<=qq.place)(_:∀H' p,a7 H H'->H p=ab->IL H' p (nz (lc wd qq))->Q (.ref p) H')
theorem vX(T:Txt K mg t):(3<*38) ["world","question"] (vL t):=by
 refine T.f.G38.F.ok2 ["world","question"] ?_;obtain⟨W,q,ro,wd,L,c,l,qq,rfl,hW,ok,hQ,hp,k⟩;refine⟨_,(ap (de (bR fZ (bb (pv 1) Z) (jJ gU aN) (bU _)) (aH (bo (Er (xE Z) Z T.list wc (ah (bb (pv 0) Z) ax)))) bS)
  (ap (de (bR fZ (bb (pv 1) Z) aN (bU _)) (aH (bo (j9 (uN T) (hr.mono dk) Z T.f.G34 (ah (bb (pv 0) Z) (ah (bb (pv 1) Z) ax))))) bS)
  (aH (bo (j9 (Bm T) (hr.mono dk) Z T.f.G32 (ah (bb (pv 0) Z) (ah (bb (pv 1) Z) ax))))))),?_⟩
 obtain⟨dx,kd,td,il,ca,X⟩:=id hW;obtain⟨dq,N,Cs,Ss,As,Y⟩:=id hQ;unfold lc at k;refine⟨_,Z,_,_,_,_,_,Z,Y.obj,T.cO,T.iN,Z,_,Z,Z,_,Z,?_⟩;have hd:decide (V.int qq.place=V.int (-1))=decide (qq.place= -1):=pJ _ _;rw[hd];by_cases h1:qq.place= -1
 ·rw[aI h1];rw[aC h1]at k;obtain⟨ta,e,r,f⟩:=id X.ts;refine cI ⟨_,Z,_,_,_,_,_,Z,X.obj,T.bj,T.bT,Z,td,_,Z,.inl e,λp hp=>k _ p (a7.upd hp) hp ?_⟩;show upd _ _ _ _=_;rw[ak]
  congr 2
  unfold lY eS nz;rw[bv,bv];rfl
 ·rw[ay h1];rw[aw h1]at k;obtain⟨pl,qg⟩:∃pl:Nat,qq.place=(pl:Int):=⟨qq.place.toNat,om⟩;have Ul:qq.place.toNat=pl:=om;rw[Ul]at k;have hY:=Y.obj;rw[qg]at hY;refine cy ⟨_,Z,_,_,_,_,_,Z,hY,T.cO,T.sx,Z,Z,_,Z,?_⟩
  cases hdp:qq.deep with
  |true=>
   rw[hdp,aC Z]at k;exact cI ⟨_,Z,_,_,_,_,_,Z,X.obj,T.bj,T.bT,Z,_,Z,_,_,_,_,_,Z,hY,T.cO,T.iN,Z,td,pl,ro,wd,Z,X.ts,ok,k⟩
  |false=>
   rw[hdp,aw (by simp)]at k;exact cy ⟨_,Z,_,_,_,_,_,Z,X.obj,T.bj,T.bT,Z,_,Z,_,_,_,_,_,Z,hY,T.cO,T.iN,Z,td,pl,ro,wd,Z,X.ts,ok.tl,k⟩
inductive Fn(t:eP)(vs:V2)(H:Hp)(Q:VK)(E:XK):Prop
 |mk(W q:ao)(n:Nat)(ro:Role)(wd:aO)(L:p_)(c:bw)(l:xC)(qq:bu)(_:vs=[.ref W,.ref q,nI n])(_:WR t H ro W id wd L c)(_:p8 wd)(_:QR t H ro q l qq)(_:a_ wd n=ac)(_:Q (.bl ((qq.kind==0||eJ wd n qq.kind)&&qq.conds.all (iq wd n))) H)
theorem FW(T:Txt K mg t):(4<*39) ["world","question","number"] (Fn t):=by
 refine T.f.G39.F.ok2 ["world","question","number","condition"] ?_;obtain⟨W,q,n,ro,wd,L,c,l,qq,rfl,hW,ok,hQ,hn,k⟩;refine⟨_,(ap (de (PW.pt (ym (bR Bg (bb (pv 1) Z) aN (bU _)) (uJ (oo (hJ (cZ (pv 0) T.bj T.m.G78.me (pS T) (hr.mono dk) T.m.G78.b .nil dD (ah (pv 2) (ah (bb (pv 1) Z) ax)))))))) (aH (bo t7)) bS)
  (ap (jI bY Z (dH (bb (pv 1) Z)) (cJ (i:=3) nd Z (bi Z))
  (aH (de (oo (hJ (j9 (Ic T) (hr.mono dk) Z T.f.G24 (ah (cZ (pv 0) T.bj T.m.G80.me (jt T) (hr.mono dk) T.m.G80.b .nil dD (ah (pv 2) (ah (cu bP (pv 3) aN (λ_ _=>rfl)) ax))) (ah (cu bP (pv 3) aN (λ_ _=>rfl)) (ah (cu bP (pv 3) aN (λ_ _=>rfl)) ax)))))) (aH (bo t7)) bS)))
  (aH (bo t7)))),?_⟩
 obtain⟨dx,kd,td,il,ca,X⟩:=id hW;obtain⟨dq,N,Cs,Ss,As,Y⟩:=id hQ;obtain⟨ys,e,p⟩:=Y.cs.ll.rl;have p2:=kP p;have c6:ys.length=qq.conds.length:=dY p2;refine⟨_,Z,_,_,_,_,_,Z,Y.obj,T.cO,T.nj,Z,Z,_,Z,?_⟩;by_cases h0:qq.kind=0
 ·rw[show(!decide (nI qq.kind=V.int 0))=ae by rw[pI,aI h0];rfl];rw[show(qq.kind==0||eJ wd n qq.kind)=ac by simp[h0],gq]at k;refine cy (cy ?_);refine⟨_,Z,_,_,_,_,_,Z,Y.obj,T.cO,T.f6,Z,Cs,Z,⟨_,bQ.of e⟩,?_⟩;refine ij (K:=K) (a:=Cs) (xs:=ys) (λi σ H'=>∃v:Option V,σ=[aa (.ref W),aa (.ref q),aa (nI n),v]/\H'=H/\(qq.conds.take i).all (iq wd n)=ac)
   ⟨ab,Z,Z,Z⟩ (λi σ H' _ ⟨_,_,eH,_⟩=>eH▸bQ.of e) ?_ ?_
  ·rintro i y σ H2 hy ⟨v,rfl,rfl,k7⟩;obtain⟨x,hx,b,rfl,hb⟩:=o5 p2 hy;have ur:H2 b=aa (.lst [nI x.attr,nI x.op,.int x.to]):=hb;refine⟨_,Z,_,_,_,Z,X.obj,Z,_,Z,_,Z,_,_,_,_,Z,Z,bQ.of ur,sR,W,n,x.attr,ro,id,wd,L,c,Z,hW,.inl Z,ok,hn,_,Z,_,_,_,_,Z,Z,bQ.of ur,at_of (j:=1) Z Z,_,Z,_,_,_,_,Z,Z,bQ.of ur,at_of (j:=2) Z Z,_,x.op,x.to,Z,_,Z,?_⟩;rw[<-zi]
   cases hh:iq wd n x with
   |true=>
    refine cy ⟨_,Z,Z,?_⟩;rw[take_succ hx,SX,k7];simp[hh]
   |false=>
    refine cI ?_;have:qq.conds.all (iq wd n)=ae:=by
     rw[Pa];exact⟨x,aP hx,by rw[hh];simp⟩
    rw[this]at k;exact k
  ·rintro σ H2 ⟨v,rfl,rfl,k7⟩;rw[c6,cB]at k7;rw[k7]at k;exact k
 ·rw[show(!decide (nI qq.kind=V.int 0))=ac by rw[pI,ay h0];rfl];rw[show(qq.kind==0||eJ wd n qq.kind)=eJ wd n qq.kind by simp[h0]]at k;refine cI ⟨_,Z,_,_,_,Z,X.obj,Z,_,Z,_,Z,_,_,_,_,_,Z,Y.obj,T.cO,T.nj,Z,W,n,qq.kind,ro,id,wd,L,c,Z,hW,.inl Z,ok,hn,_,Z,?_⟩
  cases hA:eJ wd n qq.kind with
  |false=>
   rw[hA,fQ]at k;exact cI k
  |true=>
   rw[hA,gq]at k;refine cy ?_;refine⟨_,Z,_,_,_,_,_,Z,Y.obj,T.cO,T.f6,Z,Cs,Z,⟨_,bQ.of e⟩,?_⟩;refine ij (K:=K) (a:=Cs) (xs:=ys) (λi σ H'=>∃v:Option V,σ=[aa (.ref W),aa (.ref q),aa (nI n),v]/\H'=H/\(qq.conds.take i).all (iq wd n)=ac)
    ⟨ab,Z,Z,Z⟩ (λi σ H' _ ⟨_,_,eH,_⟩=>eH▸bQ.of e) ?_ ?_
   ·rintro i y σ H2 hy ⟨v,rfl,rfl,k7⟩;obtain⟨x,hx,b,rfl,hb⟩:=o5 p2 hy;have ur:H2 b=aa (.lst [nI x.attr,nI x.op,.int x.to]):=hb;refine⟨_,Z,_,_,_,Z,X.obj,Z,_,Z,_,Z,_,_,_,_,Z,Z,bQ.of ur,sR,W,n,x.attr,ro,id,wd,L,c,Z,hW,.inl Z,ok,hn,_,Z,_,_,_,_,Z,Z,bQ.of ur,at_of (j:=1) Z Z,_,Z,_,_,_,_,Z,Z,bQ.of ur,at_of (j:=2) Z Z,_,x.op,x.to,Z,_,Z,?_⟩;rw[<-zi]
    cases hh:iq wd n x with
    |true=>
     refine cy ⟨_,Z,Z,?_⟩;rw[take_succ hx,SX,k7];simp[hh]
    |false=>
     refine cI ?_;have:qq.conds.all (iq wd n)=ae:=by
      rw[Pa];exact⟨x,aP hx,by rw[hh];simp⟩
     rw[this]at k;exact k
   ·rintro σ H2 ⟨v,rfl,rfl,k7⟩;rw[c6,cB]at k7;rw[k7]at k;exact k
inductive AK(t:eP)(vs:V2)(H:Hp)(Q:VK)(E:XK):Prop
 |mk(W q:ao)(n:Nat)(ro:Role)(wd:aO)(L:p_)(c:bw)(l:xC)(qq:bu)(_:vs=[.ref W,.ref q,nI n])(_:WR t H ro W id wd L c)(_:p8 wd)(_:QR t H ro q l qq)(_:qq.by_.length<=4)(_:a_ wd n=ac)(_:∀H' p,a7 H H'->H p=ab->IL H' p (Tw.keyOf wd qq.by_ n)->Q (.ref p) H')
def BC(wd:aO)(n:Nat)(b:Nat×Bool):xC:=match eT wd n b.1 with
  |none=>[1,0]
  |some v=>[0,if b.2=ac then -v else v]
theorem BB(wd:aO)(n:Nat):∀l:List (Nat×Bool),(l.flatMap (BC wd n)).length=2*l.length
 |[]=>rfl
 |b::l=>by
  rw[gC,aQ,BB wd n l,aJ];have:(BC wd n b).length=2:=by unfold BC;split<;>rfl
  lia
theorem yB{wd:aO}{n:Nat}{l:List (Nat×Bool)}{i:Nat}{b:Nat×Bool}(h:l[i]? =aa b):(l.take (i+1)).flatMap (BC wd n)=(l.take i).flatMap (BC wd n)++BC wd n b:=by
 rw[take_succ h,gL];simp
theorem Bj(T:Txt K mg t):(4<*40) ["world","question","number"] (AK t):=by
 refine T.f.G40.F.ok2 ["world","question","number","row","sorting","had"] ?_;obtain⟨W,q,n,ro,wd,L,c,l,qq,rfl,hW,ok,hQ,h4,hn,k⟩;refine⟨_,(ap (bM (i:=3) nd (cn ax))
  (ap (jI bY Z (dH (bb (pv 1) Z)) (cJ (i:=4) nd Z (bi Z))
  (ap (bM (i:=5) nd (cZ (pv 0) T.bj T.m.G80.me (jt T) (hr.mono dk) T.m.G80.b .nil dD (ah (pv 2) (ah (cu bP (pv 4) aN (λ_ _=>rfl)) ax))))
  (aH (de (bR FV (pv 5) ou (bU _)) (aH (cv (jK bp ej ei li (pv 3) (ah (cn (ah aN (ah aN ax))) ax)))) (aH (cv (jK bp ej ei li (pv 3) (ah (cn (ah aN (ah (xa (bR fZ (cu bP (pv 4) aN (λ_ _=>rfl)) aN (bU _)) (jJ gU (pv 5)) (pv 5)) ax))) ax))))))))
  (ap (cv (jK bp dF dE jS (pv 3) (ah (pv 2) ax)))
  (aH (bo (pv 3)))))),?_⟩
 obtain⟨dq,N,Cs,Ss,As,Y⟩:=id hQ;obtain⟨dx,kd,td,il,ca,X⟩:=id hW;obtain⟨ys,e,p⟩:=Y.ss.ll.rl;have p2:=kP p;have c6:ys.length=qq.by_.length:=dY p2;refine⟨(by show 0<=aE;decide),λr OI=>?_⟩;have s0:a7 H (upd H r (.lst [])):=a7.upd OI;have Mo:(upd H r (.lst [])) r=aa (.lst []):=ak;generalize upd H r (.lst [])=H1 at s0 Mo;refine⟨_,Z,_,_,_,_,_,Z,s0 _ _ Y.obj,T.cO,T.j?,Z,Ss,Z,⟨_,bQ.of (s0 _ _ e)⟩,?_⟩;refine ij (K:=K) (a:=Ss) (xs:=ys) (λi σ H'=>∃v u:Option V,σ=[aa (.ref W),aa (.ref q),aa (nI n),aa (.ref r),v,u]/\a7 H H'/\IL H' r ((qq.by_.take i).flatMap (BC wd n)))
  ⟨ab,ab,Z,s0,Mo⟩ (λi σ H' _ ⟨_,_,_,s,_⟩=>bQ.of (s _ _ e)) ?_ ?_
 ·rintro i y σ H2 hy ⟨v,u,rfl,s2,um⟩;obtain⟨x,hx,b,rfl,hb⟩:=o5 p2 hy;have ur:H2 b=aa (.lst [nI x.1,.int (cx x.2)]):=s2 _ _ hb;have hi4:i<4:=bI (aY.mp hx).1 h4;have Mp:((qq.by_.take i).flatMap (BC wd n)).length<=8:=by
   rw[BB,ck];lia
  refine⟨_,Z,_,_,_,Z,s2 _ _ X.obj,Z,_,Z,_,Z,_,_,_,_,Z,Z,bQ.of ur,sR,W,n,x.1,ro,id,wd,L,c,Z,hW.same s2,.inl Z,ok,hn,_,Z,Z,_,Z,?_⟩;have Q5:BC wd n x=match eT wd n x.1 with
   |none=>[1,0]
   |some v=>[0,if x.2=ac then -v else v]:=Z
  cases hv:eT wd n x.1 with
  |none=>
   rw[hv]at Q5;refine cI ⟨_,Z,.inl ⟨Z,_,bQ.of um⟩,(by show 2<=aE;decide),λz hz=>⟨r,z,_,_,Z,Z,ups (aL um hz) um,ak,?_,?_⟩⟩
   ·rw[af];exact aB (m:=10) (j8 Mp 2) dk
   ·refine⟨_,_,Z,(s2.up hz).tN OI,?_⟩;show upd _ _ _ _=_;rw[ak,yB hx,Q5,bz];rfl
  |some vv=>
   rw[hv]at Q5;refine cy ⟨_,Z,.inl ⟨Z,_,bQ.of um⟩,_,Z,_,_,_,_,Z,Z,bQ.of ur,at_of (j:=1) Z Z,Z,_,Z,?_⟩
   cases hb:x.2 with
   |true=>
    refine cI ⟨_,Z,_,Z,(by show 2<=aE;decide),λz hz=>⟨r,z,_,_,Z,Z,ups (aL um hz) um,ak,?_,?_⟩⟩
    ·rw[af];exact aB (m:=10) (j8 Mp 2) dk
    ·refine⟨_,_,Z,(s2.up hz).tN OI,?_⟩;show upd _ _ _ _=_;rw[ak,yB hx,Q5,hb,bz];rfl
   |false=>
    refine cy ⟨_,Z,(by show 2<=aE;decide),λz hz=>⟨r,z,_,_,Z,Z,ups (aL um hz) um,ak,?_,?_⟩⟩
    ·rw[af];exact aB (m:=10) (j8 Mp 2) dk
    ·refine⟨_,_,Z,(s2.up hz).tN OI,?_⟩;show upd _ _ _ _=_;rw[ak,yB hx,Q5,hb,bz];rfl
 ·rintro σ H2 ⟨v,u,rfl,s2,um⟩;rw[c6,cB]at um;have Mp:(qq.by_.flatMap (BC wd n)).length<=8:=by rw[BB];lia
  refine⟨_,Z,.inl ⟨Z,_,bQ.of um⟩,_,Z,r,_,_,Z,Z,um,by rw[af];exact aX Mp dk,_,Z,k _ r (s2.tN OI) OI ?_⟩;show upd _ _ _ _=_;rw[ak];have:Tw.keyOf wd qq.by_ n=qq.by_.flatMap (BC wd n)++[(n:Int)]:=Z;rw[this,bz];rfl
def Vt(o:Option (Nat×Nat)):Nat:=match o with
 |none=>0
 |some b=>b.1+1
def Vs(o:Option (Nat×Nat)):Nat:=match o with
 |none=>0
 |some b=>b.2
def vo(wd:aO)(q:bu)(l:List dP)(o:Option (Nat×Nat)):V9:=match o with
 |none=>aM wd
 |some b=>jX q (l.getD b.1 {attrs:=[],rows:=[]})
theorem I?:∀(l:V9)(m:Nat),m∈l->∃j:Nat,l[j]? =aa m/\∀k:Nat,k<j->l[k]?≠aa m
 |[],m,h=>by simp at h
 |a::l,m,h=>by
  by_cases e:a=m
  ·exact⟨0,by rw[e];rfl,λk hk=>by lia⟩
  ·obtain⟨j,h1,h2⟩:=I? l m (by simpa[a8 e]using h);refine⟨j+1,h1,λk hk=>?_⟩
   cases k with
   |zero=>simpa using e
   |succ k=>exact h2 k om
theorem Eh:∀{ls:List V9},(∀l∈ls,l.length<=30)->Tw.size ls<=30*ls.length
 |[],_=>aS _
 |l::ls,h=>by
  rw[Tw.size_cons,aJ];have:=h l (by simp);have:=Eh λx hx=>h x (aD _ hx);lia
inductive Hq(t:eP)(vs:V2)(H:Hp)(Q:VK)(E:XK):Prop
 |mk(W q:ao)(ro:Role)(wd:aO)(tD:List dP)(c:bw)(l:xC)(qq:bu)(_:vs=[.ref W,.ref q])(_:WR t H ro W id wd (qV wd tD) c)(_:p8 wd)(_:XU wd tD)(_:QR t H ro q l qq)(_:qq.conds.length<=6)(_:∀(H':Hp) (x dx la:ao),a7 H H'->H' x=aa (.ins t.Plan dx (Rs (nI (Vt (gP qq tD))) (nI (Vs (gP qq tD))) (.ref la)))->H la=ab->IL H' la (nz (vo wd qq tD (gP qq tD)))->Q (.ref x) H')
theorem y9(T:Txt K mg t):(4<*37) ["world","question"] (Hq t):=by
 refine T.f.G37.F.ok2 ["world","question","told","most","place","index"] ?_;obtain⟨W,q,ro,wd,tD,c,l,qq,rfl,hW,ok,adO,hQ,h6,k⟩;refine⟨_,(ap (qz (i:=2) (own:=[("index",5)]) Z nd Z Z (by with_unfolding_all rfl) (dH (bb (pv 0) Z)) (eE (N:=["world","question","told","most","place","index"]) (sc:=cj AU) dK) (λ_ _ _ _ _=>cJ (i:=5) nd Z (bi Z)) (λ_ _ _ _ _=>i9) (λ_ _ _ _ _=>(j9 (yt T) (hr.mono dk) Z T.f.G29 (ah (nH (K:=K) Z (pv 5) Z) (ah (pv 1) ax)))))
  (ap (bM (i:=3) nd (TD Z Z T.max (pv 2) aN))
  (ap (de (bR fZ (pv 3) aN (bU _)) (aH (bo (lS T.RZ (xi T) (hr.mono dk) Z T.L? T.m.G36.b .nil dD (ah aN (ah aN (ah (Er (xE Z) Z T.list wc (ah (bb (pv 0) Z) ax)) ax)))))) bS)
  (ap (bM (i:=4) nd (jK bp qj DV Io (pv 2) (ah (pv 3) ax)))
  (aH (bo (lS T.RZ (xi T) (hr.mono dk) Z T.L? T.m.G36.b .nil dD (ah (fY j_ (pv 4) aN) (ah (pv 3) (ah (j9 (vY T) (hr.mono dk) Z T.f.G30 (ah (cu bP (bb (pv 0) Z) (pv 4) (λ_ _=>rfl)) (ah (pv 1) ax))) ax)))))))))),?_⟩
 obtain⟨dx,kd,td,il,ca,X⟩:=id hW;obtain⟨is,hI⟩:=id X.ix;have hp:ci (λi (x:dP)=>Cb t H ro i x.attrs (kG wd x.attrs)) is tD:=kP hI.2.2.2;have c6:=dY hp;have hl6:=adO.len;refine⟨_,Z,_,_,_,_,_,Z,X.obj,T.bj,T.dw,Z,il,Z,⟨_,bQ.of hI.1⟩,λD hD=>mU (K:=K) (l:=is.zip tD) (Ri:=λy x=>y=V.ref x.1/\Cb t H ro x.1 x.2.attrs (kG wd x.2.attrs)) (λx=>nI (gK qq x.2)) hD (bQ.of hI.1) (Bc _ hp) ?_ ?_ ?_⟩
 ·rw[fk];exact aX (aB (kx _ _) hl6) dk
 ·intro i x y H2 Kt hx hy hR s2 ht;obtain⟨rfl,YG,A1,R1,D1,kvs,re,rows,Y⟩:=hR;have hm:=Ae hp _ (aP hx);exact⟨Z,_,Z,_,_,_,_,_,Z,s2 _ _ Y.obj,T.eC,T.eI,Z,_,Z,A1,q,x.2,ro,l,qq,Z,Y.RK.1.same s2,(adO.at_ _ hm).2.1,hQ.same s2,h6,λH3 s3=>ht H3 s3⟩
 ·intro H1 s1 e1;have K0:(is.zip tD).map (λx=>nI (gK qq x.2))=(nz (tD.map (gK qq))).map V.int:=by
   have:(is.zip tD).map (λx=>x.2)=tD:=by rw[<-U8,Lv om]
   conv=>rhs;rw[<-this]
   rw[bv,bv,bv];rfl
  rw[K0]at e1;have X1:=(hW.same s1);have aaM:(∀i∈tD,gK qq i=0)->∀(H2:Hp)(x dx la:ao),a7 H H2->H2 x=aa (.ins t.Plan dx (Rs (.int 0) (.int 0) (.ref la)))->H la=ab->IL H2 la (nz (aM wd))->Q (.ref x) H2:=λhz H2 x dx la s2 hx DE hl=>by
   have Ul:=NB hz;rw[Ul]at k;exact k H2 x dx la s2 hx DE hl
  obtain⟨ta,e,r,f⟩:=id X.ts;have Z4:lY (eS ta (aM wd))=(nz (aM wd)).map V.int:=by
   unfold lY eS nz;rw[bv,bv];rfl
  refine⟨_,Z,D,nz (tD.map (gK qq)),Z,bQ.of e1,λXd=>?_,λm hm ady=>?_⟩
  ·have hz:∀i∈tD,gK qq i=0:=λi hi=>by
    have:tD=[]:=by
     cases tD with
     |nil=>rfl
     |cons a b=>simp at Xd
    rw[this]at hi;simp at hi
   refine⟨_,Z,Z,_,Z,cI ⟨_,Z,_,_,_,_,_,Z,s1 _ _ X.obj,T.bj,T.bT,Z,td,_,Z,.inl (s1 _ _ e),λla DE=>λx VT nx ub OH=>⟨x,VT,.int 0,.int 0,.ref la,Z,ak,λH3 bt e3=>⟨Z,?_⟩⟩⟩⟩;have s3:=gb nx ub bt;refine aaM hz H3 x VT la ((s1.up DE).trans s3) e3 (s1.free DE) ?_;have:=s3 la _ ak;rw[Z4]at this;exact this
  ·obtain⟨mn,rV,rfl⟩:=aV.mp hm;have my:∀i∈tD,gK qq i<=mn:=λi hi=>by
    have:=ady (gK qq i:Int) (aV.mpr ⟨_,aV.mpr ⟨i,hi,Z⟩,Z⟩);lia
   refine⟨_,Z,Z,_,Z,?_⟩;rw[show decide (V.int (mn:Int)=V.int 0)=_ from pI mn];by_cases h0:mn=0
   ·rw[aI h0];have hz:∀i∈tD,gK qq i=0:=λi hi=>by have:=my i hi;lia
    refine cI ⟨_,Z,_,_,_,_,_,Z,s1 _ _ X.obj,T.bj,T.bT,Z,td,_,Z,.inl (s1 _ _ e),λla DE=>λx VT nx ub OH=>⟨x,VT,.int 0,.int 0,.ref la,Z,ak,λH3 bt e3=>⟨Z,?_⟩⟩⟩;have s3:=gb nx ub bt;refine aaM hz H3 x VT la ((s1.up DE).trans s3) e3 (s1.free DE) ?_;have:=s3 la _ ak;rw[Z4]at this;exact this
   ·rw[ay h0];obtain⟨j,Yp,adM⟩:=I? _ mn rV;have qg:=NA om Yp my adM;have Uq:j<tD.length:=by
     have:=(aY.mp Yp).1;rwa[af]at this
    obtain⟨ia,Xi,hIR⟩:=Ku hp (i:=j) (b:=tD[j]) (by simp[Uq]);have OL:tD.getD j {attrs:=[],rows:=[]}=tD[j]:=by rw[bD];simp[Uq]
    obtain⟨h1,h3,hA15,DH⟩:=adO.at_ tD[j] (by simp);refine cy ⟨_,Z,.inl ⟨Z,_,bQ.of e1⟩,_,Z,D,_,nI mn,j,nI mn,Z,Z,bQ.of e1,Z,mO _,?_,xz _,?_,?_⟩
    ·rw[aA,aA,Yp];rfl
    ·intro k' z' BH EA;rw[aA,aA]at EA
     cases hq:(tD.map (gK qq))[k']? with
     |none=>rw[hq]at EA;cases EA
     |some y=>
      rw[hq]at EA
      cases EA;have:y≠mn:=λz=>adM k' BH (by rw[hq,z]);exact BZ (n:=(y:Int)) (m:=(mn:Int)) om
    ·refine⟨_,Z,_,_,Z,Z,_,Z,_,Z,_,_,_,_,_,Z,s1 _ _ X.obj,T.bj,T.dw,Z,_,Z,_,_,_,.ref ia,Z,Z,bQ.of (s1 _ _ hI.1),at_of Z (by rw[aA,Xi];rfl),_,Z,ia,q,tD[j],kG wd tD[j].attrs,ro,l,qq,Z,hIR.kp (P:=λ_=>True) (Kp.same s1) trivial trivial trivial,DH,λn r hr=>uH ok hr,h3,hQ.same s1,h6,λH3 la s3 aby DE=>λx VT nx ub OH=>⟨x,VT,_,_,.ref la,Z,ak,λH4 bt e4=>⟨Z,?_⟩⟩⟩;have s4:=gb nx ub bt;rw[qg]at k;refine k H4 x VT la ((s1.trans s3).trans s4) e4 (s1.free aby) ?_;show H4 la=_;have:=s4 _ _ DE;show H4 la=aa (.lst ((nz (jX qq (tD.getD j {attrs:=[],rows:=[]}))).map V.int));rw[OL];exact this
inductive yc(t:eP)(vs:V2)(H:Hp)(Q:VK)(E:XK):Prop
 |mk(kd Ps:ao)(ps:V9)(ro:Role)(wd:aO)(_:vs=[.ref kd,.ref Ps])(_:R3 t H ro kd wd)(_:p8 wd)(_:IL H Ps (nz ps))(_:(∀p∈ps,1<=p/\p<=wd.kinds.length))(_:ps.length<=6)(_:∀(H':Hp) (x dx m l:ao),a7 H H'->H' x=aa (.ins t.jc dx (BY (.ref m) (.ref l)))->IL H' m (nz (Tw.run (Tw.size (a? wd ps)) (a? wd ps)).1)->LL H' l (nats (Tw.run (Tw.size (a? wd ps)) (a? wd ps)).2)->Q (.ref x) H')
theorem qC(T:Txt K mg t):(4<*21) ["kinds","parents"] (yc t):=by
 refine T.f.G21.F.ok2 ["kinds","parents","parent"] ?_;obtain⟨kd,Ps,ps,ro,wd,rfl,hK,ok,hP,hb,h6,k⟩;refine⟨_,(aH (bo (j9 (Qe T) (hr.mono dk) Z T.f.G20 (ah (fY rL (mr (own:=[("parent",2)]) Z nd (dH (pv 1)) (eE (N:=["kinds","parents","parent"]) (sc:=cj so) dK) (λ_ _ _ _ _=>cJ (i:=2) nd Z (bi Z)) (λ_ _ _ _ _=>i9) (λ_ _ _ _ _=>(nH (K:=K) Z (fW hu (pv 0) (pv 2) (λ_ _=>rfl)) Z))) (cn (ah (pv 1) ax))) ax)))),?_⟩;obtain⟨ka,e,r,f⟩:=hK;refine⟨_,Z,Ps,Z,⟨_,bQ.of hP⟩,λD hD=>Ak (K:=K) (l:=ps) (Ri:=λy x=>y=nI x) (Ro:=RL) (λp=>nz (cS wd p).order) (λH H' y b s h=>h.same s) hD (bQ.of hP) (Bd _) (aX h6 dk) ?_ ?_⟩
 ·intro i x y H2 acc Kt hx hy hR s2 fF ht;subst hR;have VB:=hb x (aP hx);obtain⟨UH,o,d2,ke,_,ko,_⟩:=f x VB.1 VB.2;exact⟨Z,_,Z,_,Z,_,_,Z,l3 (.inl (s2 _ _ e)) (uf.mpr VB),_,_,_,_,_,Z,s2 _ _ ke,T.pZ,T.lV,Z,ht _ _ (a7.refl _) λH5 b5 s5=>⟨o,Z,s5 _ _ ko.1⟩⟩
 ·intro H1 ys s1 e1 p1;have Ui:=dY p1;rw[af]at Ui;refine⟨_,Z,(by show 1<=aE;decide),λb EI=>⟨D,b,ys,_,Z,Z,ups (aL e1 EI) e1,ak,?_,λp hp=>?_⟩⟩
  ·show ys.length+1<=aE;exact aB (m:=7) om dk
  ·have s3:=(a7.upd (o:=.lst [.ref Ps]) EI).up (o:=.lst (ys++[.ref Ps])) hp;refine⟨p,ps.map (λq=>(cS wd q).order)++[ps],Z,LL.Vv ak ?_,?_,?_,?_,λH4 x dx m l s4 hx hm hl=>k H4 x dx m l ((s1.trans s3).trans s4) hx hm hl⟩
   ·unfold nats;rw[bz,bv];exact t9 (dI (λ_ _ z=>z.same s3) p1) (.cons ⟨Ps,Z,(hP.same s1).same s3⟩ .nil)
   ·intro r hr z hz;rcases df.mp hr with h|h
    ·obtain⟨q,hq,rfl⟩:=aV.mp h;exact(ok.ord q (hb q hq).1 (hb q hq).2 z hz).1
    ·rw[cX.mp h]at hz;exact(hb z hz).1
   ·rw[aQ,af];show ps.length+1<=1000;lia
   ·refine aB (Eh λr hr=>?_) ?_
    ·rcases df.mp (bB.mp hr).1 with h|h
     ·obtain⟨q,hq,rfl⟩:=aV.mp h;exact ok.Bf (hb q hq).1 (hb q hq).2
     ·rw[cX.mp h];lia
    ·have:=bx (λl:V9=>!l.isEmpty) (ps.map (λq=>(cS wd q).order)++[ps]);rw[aQ,af]at this;have h1:([ps]:List V9).length=1:=Z;lia
def xI:Tag->Prop:=λx=>x= .ln\/x= .thing 0
def B'(t:eP)(H:Hp)(ro:Role)(W:ao)(s:c8):Prop:=WR t H ro W id s.w (qV s.w s.indexes) s.cache
theorem B'.same{t:eP}{H H':Hp}{ro:Role}{W:ao}{s:c8}(h:B' t H ro W s)(k:a7 H H'):B' t H' ro W s:=WR.same h k
def aeO(H:Hp)(ro:Role)(H':Hp)(ro':Role)(p:ao):Prop:=Kp xI H ro H' ro'/\∀o,H p=aa o->¬xI (ro p)
theorem Kp.fin(k:Kp xI H ro H1 kr)(hp:H1 p=ab)(s:a7 H1 H'):aeO H ro H' kr p:=⟨k.trans (Kp.same s),λo e q=>by
 have:=(k p o e q).1;rw[hp]at this
 cases this⟩
def MU(t:eP)(H:Hp)(ro:Role)(W:ao)(r:c8×xC)(Q:VK):Prop:=∀H' ro' p,B' t H' ro' W r.1->aeO H ro H' ro' p->IL H' p r.2->Q (.ref p) H'
inductive gm(t:eP)(n:Nat)(vs:V2)(H:Hp)(Q:VK)(E:XK):Prop
 |mk(W A0:ao)(ro:Role)(s:c8)(a:xC)(_:vs=[.ref W,.ref A0])(_:B' t H ro W s)(_:wf s)(_:IM H ro A0 a)(_:Tw.Good n s a)(_:MU t H ro W (gz s (Tw.mk n a)) Q)
inductive Np(vs:V2)(H:Hp)(Q:VK)(E:XK):Prop
 |mk(A0:ao)(l:xC)(_:vs=[.ref A0])(_:IL H A0 l)(_:l.length<=100000)(_:∀H' p,a7 H H'->H p=ab->IL H' p (dG l)->Q (.ref p) H')
theorem jj(T:Txt K mg t):(1<*42) ["numbers"] Np:=by
 refine T.f.G42.F.ok2 ["numbers"] ?_;obtain⟨A0,l,rfl,hA,hl,k⟩;refine⟨_,(aH (bo (fY rL (cn (ah (bF bq Z T.len a9 (ah (pv 0) ax)) ax)) (pv 0)))),?_⟩;refine⟨_,Z,_,_,Z,.inl (bQ.of hA),(by show 1<=aE;decide),λq hq=>⟨_,Z,_,_,_,_,Z,Z,ak,ups (aL hA hq) hA,?_,λp hp=>k _ p ((a7.upd hq).up hp) ((a7.upd hq).free hp) ?_⟩⟩
 ·rw[af];show 1+l.length<=aE;exact aB (m:=100001) om dk
 ·show upd _ _ _ _=_;rw[ak,af];rfl
theorem dr{W:ao}(hS:B' t H ro W s)(k:MU t H ro W (s,l) Q):∀H' p,a7 H H'->H p=ab->IL H' p l->Q (.ref p) H':=λH' p s' h0 hp=>k H' ro p (hS.same s') (Kp.fin (Kp.same (a7.refl H)) h0 s') hp
theorem Di(T:Txt K mg t):(2<*46) ["world","arguments"] (gm t 1):=by
 refine T.f.G46.F.ok2 ["world","arguments"] ?_;obtain⟨W,A0,ro,s0,a,rfl,hS,ok,hA,hg,k⟩;refine⟨_,(aH (bo (j9 (jj T) (hr.mono dk) Z T.f.G42 (ah (bb (fW hu (bb (pv 0) Z) (cu bP (pv 1) aN (λ_ _=>rfl)) (λ_ _=>rfl)) Z) ax)))),?_⟩;obtain⟨kk,rfl,h1,h2,he⟩:=UB hg;rw[he]at k;obtain⟨dx,kd,td,il,ca,X⟩:=id hS;obtain⟨ka,kg,UH,o,d2,ke,_,ko,_⟩:=X.ks.kind h1 h2;have hl:=ok.w.Bf h1 h2;exact⟨_,Z,_,_,_,_,_,Z,X.obj,T.bj,T.c?,Z,_,Z,_,_,_,_,Z,Z,bQ.of hA.1,sR,_,_,Z,kg,_,_,_,_,_,Z,ke,T.pZ,T.lV,Z,o,_,Z,ko.1,by rw[af];lia,dr hS k⟩
theorem Ih(T:Txt K mg t):(3<*68) ["world","arguments"] (gm t 23):=by
 refine T.f.G68.F.ok2 ["world","arguments"] ?_;obtain⟨W,A0,ro,s0,a,rfl,hS,ok,hA,hg,k⟩;refine⟨_,(aH (bo (cn (ah (xa (hJ (cZ (pv 0) T.bj T.m.G78.me (pS T) (hr.mono dk) T.m.G78.b .nil dD (ah (cu bP (pv 1) aN (λ_ _=>rfl)) (ah (cu bP (pv 1) aN (λ_ _=>rfl)) ax)))) aN aN) ax)))),?_⟩;obtain⟨n,kk,rfl,hn,h1,h2,he⟩:=aaH hg;rw[he]at k;obtain⟨dx,kd,td,il,ca,X⟩:=id hS;refine⟨_,Z,_,_,_,Z,X.obj,Z,_,Z,_,_,_,_,Z,Z,bQ.of hA.1,sR,_,Z,_,_,_,_,Z,Z,bQ.of hA.1,at_of (j:=1) Z Z,W,n,kk,ro,id,s0.w,_,s0.cache,Z,hS,.inl Z,ok.w,hn,_,Z,?_⟩
 cases hb:eJ s0.w n kk with
 |true=>
  rw[hb]at k;exact cI ⟨(by show 1<=aE;decide),λp hp=>dr hS k _ p (a7.upd hp) hp ak⟩
 |false=>
  rw[hb]at k;exact cy ⟨(by show 1<=aE;decide),λp hp=>dr hS k _ p (a7.upd hp) hp ak⟩
theorem Ii(T:Txt K mg t):(4<*54) ["world","arguments"] (gm t 9):=by
 refine T.f.G54.F.ok2 ["world","arguments","number","attribute","source"] ?_;obtain⟨W,A0,ro,s0,a,rfl,hS,ok,hA,hg,k⟩;refine⟨_,(ap (bM (i:=2) nd (cu bP (pv 1) aN (λ_ _=>rfl)))
  (ap (bM (i:=3) nd (cu bP (pv 1) aN (λ_ _=>rfl)))
  (ap (bM (i:=4) nd (cZ (pv 0) T.bj T.m.G79.me (ow T) (hr.mono dk) T.m.G79.b .nil dD (ah (pv 2) (ah (pv 3) ax))))
  (ap (de (bR FV (pv 4) ou (bU _)) (aH (bo (cn (ah aN (ah aN (ah aN ax)))))) bS)
  (aH (bo (cn (ah aN (ah (cZ (pv 0) T.bj T.m.G80.me (jt T) (hr.mono dk) T.m.G80.b .nil dD (ah (pv 2) (ah (pv 3) ax))) (ah (pv 4) ax)))))))))),?_⟩
 obtain⟨n,b,rfl,hn,he⟩:=aaI hg;rw[he]at k;obtain⟨dx,kd,td,il,ca,X⟩:=id hS;refine⟨_,Z,_,_,_,_,Z,Z,bQ.of hA.1,sR,_,Z,_,_,_,_,Z,Z,bQ.of hA.1,at_of (j:=1) Z Z,_,Z,_,_,_,Z,X.obj,Z,_,Z,_,Z,W,n,b,ro,id,s0.w,_,s0.cache,Z,hS,.inl Z,ok.w,hn,_,Z,Z,_,Z,?_⟩;have hv:eT s0.w n b=(ft s0.w n b).map λx=>x.1:=Z
 cases e:ft s0.w n b with
 |none=>
  rw[e]at k;exact cI ⟨(by show 3<=aE;decide),λp hp=>dr hS k _ p (a7.upd hp) hp ak⟩
 |some x=>
  rw[e]at k hv;refine cy ⟨_,Z,_,_,_,Z,X.obj,Z,_,Z,_,Z,W,n,b,ro,id,s0.w,_,s0.cache,Z,hS,.inl Z,ok.w,hn,_,Z,(by show 3<=aE;decide),λp hp=>dr hS k _ p (a7.upd hp) hp ?_⟩;show upd _ _ _ _=_;rw[ak,hv];rfl
theorem F3(T:Txt K mg t):(2<*56) ["world","arguments"] (gm t 11):=by
 refine T.f.G56.F.ok2 ["world","arguments"] ?_;obtain⟨W,A0,ro,s0,a,rfl,hS,ok,hA,hg,k⟩;refine⟨_,(aH (bo (j9 (jj T) (hr.mono dk) Z T.f.G42 (ah (j9 (Bm T) (hr.mono dk) Z T.f.G32 (ah (bb (pv 0) Z) (ah (cu bP (pv 1) aN (λ_ _=>rfl)) ax))) ax)))),?_⟩;obtain⟨n,rfl,he⟩:=Xx hg;rw[he]at k;obtain⟨dx,kd,td,il,ca,X⟩:=id hS;have hl:(cf s0.w n).length<=200:=aB (bx _ _) (aB (gM _) ok.w.tl);exact⟨_,Z,_,_,_,_,_,Z,X.obj,T.bj,T.bT,Z,_,Z,_,_,_,_,Z,Z,bQ.of hA.1,sR,td,n,ro,s0.w,Z,X.ts,ok.w.tl,λH1 p s1 np hp=>⟨p,_,Z,hp,by rw[af];lia,λH2 r s2 nr hr=>dr hS k H2 r (s1.trans s2) (s1.free nr) hr⟩⟩
theorem Bn(T:Txt K mg t):(3<*57) ["world","arguments"] (gm t 12):=by
 refine T.f.G57.F.ok2 ["world","arguments"] ?_;obtain⟨W,A0,ro,s0,a,rfl,hS,ok,hA,hg,k⟩;refine⟨_,(aH (bo (j9 (jj T) (hr.mono dk) Z T.f.G42 (ah (j9 (uN T) (hr.mono dk) Z T.f.G34 (ah (bb (pv 0) Z) (ah (cu bP (pv 1) aN (λ_ _=>rfl)) ax))) ax)))),?_⟩;obtain⟨n,rfl,he⟩:=Rg hg;rw[he]at k;obtain⟨dx,kd,td,il,ca,X⟩:=id hS;have hl:=aB (oF ok.w.tree n) ok.w.tl;exact⟨_,Z,_,_,_,_,_,Z,X.obj,T.bj,T.bT,Z,_,Z,_,_,_,_,Z,Z,bQ.of hA.1,sR,td,n,ro,s0.w,Z,X.ts,ok.w,λH1 p s1 np hp=>⟨p,_,Z,hp,by rw[af];lia,λH2 r s2 nr hr=>dr hS k H2 r (s1.trans s2) (s1.free nr) hr⟩⟩
theorem zJ(T:Txt K mg t):(2<*58) ["world","arguments"] (gm t 13):=by
 refine T.f.G58.F.ok2 ["world","arguments"] ?_;obtain⟨W,A0,ro,s0,a,rfl,hS,ok,hA,hg,k⟩;refine⟨_,(aH (bo (j9 (jj T) (hr.mono dk) Z T.f.G42 (ah (j9 (De T) (hr.mono dk) Z T.f.G35 (ah (bb (pv 0) Z) (ah (cu bP (pv 1) aN (λ_ _=>rfl)) ax))) ax)))),?_⟩;obtain⟨n,rfl,hn,he⟩:=N4 hg;rw[he]at k;obtain⟨dx,kd,td,il,ca,X⟩:=id hS;have hl:=aB (uq ok.w.tree hn) ok.w.tl;exact⟨_,Z,_,_,_,_,_,Z,X.obj,T.bj,T.bT,Z,_,Z,_,_,_,_,Z,Z,bQ.of hA.1,sR,td,n,ro,s0.w,Z,X.ts,ok.w,hn,λH1 p s1 np hp=>⟨p,_,Z,hp,by rw[af];lia,λH2 r s2 nr hr=>dr hS k H2 r (s1.trans s2) (s1.free nr) hr⟩⟩
theorem Dh(T:Txt K mg t):(1<*65) ["world","arguments"] (gm t 20):=by
 refine T.f.G65.F.ok2 ["world","arguments","cache"] ?_;obtain⟨W,A0,ro,s0,a,rfl,hS,ok,hA,hg,k⟩;refine⟨_,(ap (bM (i:=2) nd (bb (pv 0) Z))
  (aH (bo (cn (ah (bb (pv 2) Z) (ah (bb (pv 2) Z) (ah (bb (pv 2) Z) (ah (bb (pv 2) Z) (ah (bF bq Z T.len a9 (ah (bb (pv 2) Z) ax)) ax))))))))),?_⟩
 obtain rfl:=VS Z hg;obtain⟨dx,kd,td,il,ca,X⟩:=id hS;obtain⟨dc,el,mB,C⟩:=id X.ca;have hl:=dY C.pd;refine⟨_,Z,_,_,_,_,_,Z,X.obj,T.bj,T.eK,Z,_,Z,_,_,_,_,_,Z,C.obj,T.cp,T.rQ,Z,_,Z,_,_,_,_,_,Z,C.obj,T.cp,T.oA,Z,_,Z,_,_,_,_,_,Z,C.obj,T.cp,T.oB,Z,_,Z,_,_,_,_,_,Z,C.obj,T.cp,T.jv,Z,_,Z,_,_,_,_,_,Z,C.obj,T.cp,T.cT,Z,_,_,Z,.inl (bQ.of C.lst),(by show 5<=aE;decide),λp hp=>dr hS k _ p (a7.upd hp) hp ?_⟩;show upd _ _ _ _=_;rw[ak,af,hl];rfl
theorem Dk(T:Txt K mg t):(3<*64) ["world","arguments"] (gm t 19):=by
 refine T.f.G64.F.ok2 ["world","arguments"] ?_;obtain⟨W,A0,ro,s0,a,rfl,hS,ok,hA,hg,k⟩;refine⟨_,(ap (dM (pv 0) (lS T.MS (vw T) (hr.mono dk) Z T.Iw T.m.G1.b .nil dD (ah (cu bP (pv 1) aN (λ_ _=>rfl)) (ah (cu bP (pv 1) aN (λ_ _=>rfl)) ax))) Z)
  (aH (bo (cn (ah aN ax))))),?_⟩
 obtain⟨r,m,rfl,he⟩:=UD hg;rw[he]at k;obtain⟨dx,kd,td,il,ca,X⟩:=id hS;refine⟨_,Z,_,_,_,_,Z,Z,bQ.of hA.1,sR,_,Z,_,_,_,_,Z,Z,bQ.of hA.1,at_of (j:=1) Z Z,λx dc nx ub OH=>⟨x,dc,nI r,nI m,Z,ak,λH1 el bt e1 TX Sx=>⟨Z,?_⟩⟩⟩;have s1:=gb nx ub bt;have fel:H el=ab:=by
  cases q:H el with
  |none=>rfl
  |some o=>
   rw[aZ (aL q nx),aZ (aL q ub),q]at TX
   cases TX
 have abh:x≠el:=λz=>by rw[<-z,e1]at Sx;cases Sx
 generalize IQ:i8 (i8 ro x .cache) el .xA=kr;have k1:Kp (λ_=>True) H ro H1 kr:=λb o e _=>⟨s1 b o e,by rw[<-IQ,fI (aL e fel),fI (aL e nx)]⟩;refine⟨_,Z,_,_,_,_,Z,s1 _ _ X.obj,T.bj,T.eK,(by show 5<1000;decide),(by show 1<=aE;decide),λp hp=>?_⟩;have k2:∀o,Kp (· ≠.wE) H1 kr (upd H1 W o) kr:=λo=>Kp.put ((k1 _ _ X.obj trivial).2.trans X.vn);have abC:∀o,Kp (· ≠.wE) H ro (upd H1 W o) kr:=λo=>(k1.mono λ_ _=>trivial).trans (k2 o);have Wx:W≠x:=aL X.obj nx;have Wel:W≠el:=aL X.obj fel;have xr:∀o,(upd H1 W o) W=aa o:=λo=>ak;refine k _ kr p (B'.same ⟨dx,kd,td,il,x,ak,(k1 _ _ X.obj trivial).2.trans X.vn,X.ks.kp (abC _) nofun nofun (λ_=>nofun),X.ts.kp (abC _) nofun (λ_ _=>nofun) (λ_ _=>nofun),X.ix.kp (abC _) nofun nofun (λ_=>nofun) (λ_=>nofun),⟨dc,el,[],ups (a8 Wx) e1,by rw[<-IQ,fI abh,fm],ups (a8 Wel) Sx,by rw[<-IQ,fm],gu,.nil⟩⟩ (a7.upd hp)) ?_ ak;exact((abC _).mono λx q=>by rcases q with rfl|rfl<;>exact nofun).fin hp (a7.upd hp)
theorem A?{X:Cx}(hg:Gl X x)(hm:∃k,X.mg x=aa (.int i k))(hd:(x==("__debug__":bV))=ae:=by decide):PE X (.Name x pos) (tC (.int i)):=by
 obtain⟨k,hm⟩:=hm;exact LZ hg hm ⟨_,Z⟩ hd
theorem kH{X:Cx}(hg:Gl X x)(hm:X.mg x=aa (.ref a))(hd:(x==("__debug__":bV))=ae:=by decide):PE X (.Name x pos) (tC (.ref a)):=LZ hg hm rfl hd
theorem QE(w w':aO)(ts:V9)(l:List dP):qV w' (uB w w' ts l)=qV w' l:=by
 unfold qV uB;rw[bv];apply cg;intro i _;simp only[iw];rw[v9]
theorem yw{w:aO}{l:List dP}(h:XU w l):wj (qV w l):=by
 refine⟨by unfold qV;rw[af];exact h.len,λx hx=>?_⟩;obtain⟨i,hi,rfl⟩:=aV.mp hx;exact⟨tX _ _,(h.at_ i hi).2.1⟩
theorem T_{w:aO}{t p:Nat}(ht:a_ w t=ac)(l:List dP):qV (zP w t p) l=qV w l:=by
 unfold qV;apply cg;intro i _
 congr 1
 funext n;exact L8 ht _ _
theorem T?{w:aO}{k p:Nat}(l:List dP):(qV w l).map (TW (sQ w k p) (w.things.length+1))=qV (sQ w k p) l:=by
 unfold qV;rw[bv];apply cg;intro i _;simp only[iw,TW]
 congr 1
 funext n;unfold gQ;by_cases h:n=w.things.length+1
 ·rw[aC h,h];unfold kG;rw[aC (by rw[lX];simp)]
 ·rw[aw h,Ma _ h]
theorem Ua{w:aO}{xs:V9}(h:∀x∈xs,a_ w x=ac)(l:List dP):(qV w l).map (v_ xs)=qV (nu w xs) l:=by
 have hb:∀x∈xs,1<=x/\x<=w.things.length:=λx hx=>b? (h x hx);unfold qV;rw[bv];apply cg;intro i _;simp only[iw,v_]
 congr 1
 funext n;by_cases hn:n∈xs
 ·rw[aC hn];unfold kG;rw[aw (by rw[oI hb];simp[hn])]
 ·rw[aw hn,MB hb _ hn]
theorem Mb{w:aO}{t a:Nat}{f:List (Nat×Int)->List (Nat×Int)}(ht:a_ w t=ac)(hf:∀b,b≠a->cK b (f (bh w t).own)=cK b (bh w t).own)(l:List dP):(qV w l).map (sO (rK w t f) t a)=qV (rK w t f) l:=by
 unfold qV;rw[bv];apply cg;intro i _;simp only[iw,sO];split
 ·congr 1
  funext n;unfold gQ;by_cases h:n=t
  ·rw[aC h,h];unfold kG;rw[aC (by rw[jf ht];exact ht)]
  ·rw[aw h,Af ht _ h]
 ·rename_i hc
  congr 1
  funext n;by_cases h:n=t
  ·subst h;refine(oj (jf ht n) λ_ b hb=>?_).symm;exact NG ht hf (λz=>hc (by rw[<-z];exact gf.mpr hb))
  ·exact(Af ht _ h).symm
theorem El(w:aO)(a:Nat):∀(ts:V9)(L:p_),pP w a ts L=L.map λx=>(x.1,λm=>if m∈ts/\x.1.contains a=ac then fK w x.1 m else x.2 m)
 |[],L=>by
  show L=_
  conv=>lhs;rw[<-jY L]
  apply cg;intro x _;simp
 |n::ts,L=>by
  show pP w a ts (L.map (sO w n a))=_;rw[El w a ts,bv];apply cg;intro x _;simp only[iw];have h1:(sO w n a x).1=x.1:=by unfold sO;split<;>rfl
  rw[h1]
  congr 1
  funext m;unfold sO;by_cases hc:x.1.contains a=ac
  ·rw[aC hc];unfold gQ;by_cases hm:m∈ts
   ·rw[aC ⟨hm,hc⟩,aC ⟨aD _ hm,hc⟩]
   ·rw[aw (λz=>hm z.1)];by_cases e:m=n
    ·rw[aC ⟨by rw[e];simp,hc⟩];simp[e]
    ·rw[aw (λz=>by rcases aF.mp z.1 with q|q;exact e q;exact hm q)];simp[e]
  ·have Yw:a∉x.1:=by simpa using hc
   simp[Yw]
theorem W1{w:aO}(ok:p8 w){k:Nat}{f:List (Nat×Int)->List (Nat×Int)}(h1:1<=k)(h2:k<=w.kinds.length):jx (pX w k f) k=jx w k:=by
 have hp:aM (pX w k f)=aM w:=Z;unfold jx;rw[hp];apply jD;intro n hn;have hh:=cw.mp hn;unfold eJ;have:bh (pX w k f) n=bh w n:=Z;rw[this,Av h1 h2 (ok.knd n hh).1]
theorem Mc{w:aO}(ok:p8 w){k a:Nat}{f:List (Nat×Int)->List (Nat×Int)}(h1:1<=k)(h2:k<=w.kinds.length)(hf:∀b,b≠a->cK b (f (cS w k).defaults)=cK b (cS w k).defaults)(l:List dP):
  pP (pX w k f) a (jx (pX w k f) k) (qV w l)=qV (pX w k f) l:=by
 rw[El,W1 ok h1 h2];unfold qV;rw[bv];apply cg;intro i _;simp only[iw]
 congr 1
 funext m;by_cases h:m∈jx w k/\i.attrs.contains a=ac
 ·rw[aC h];have:=(oC.mp h.1).1;unfold kG;rw[aC (show a_ (pX w k f) m=ac from this)]
 ·rw[aw h];by_cases hm:a_ w m=ac
  ·refine(MH ok h1 h2 _ ?_).symm;by_cases hA:eJ w m k=ac
   ·refine .inr λb hb=>hf b λz=>h ⟨oC.mpr ⟨hm,hA⟩,?_⟩;rw[<-z];exact gf.mpr hb
   ·exact .inl (by simpa using hA)
  ·unfold kG;rw[aw hm,aw (show¬a_ (pX w k f) m=ac from hm)]
theorem mI{W:ao}(h:WR t H ro W id w' (qV w' s.indexes) (lv s.cache keep)):B' t H ro W (Vbwsad.write s w' ts keep RP).1:=by
 show WR t H ro W id w' (qV w' (uB s.w w' ts s.indexes)) _;rw[QE];exact h
theorem gw(h:xI x):WP x/\x≠.things/\x≠.wE/\x≠.indexes/\(∀n,1<=n->x≠.thing n)/\(∀n,x≠.own n)/\(∀n,x≠.Gq n)/\x≠.kinds:=by
 rcases h with rfl|rfl
 ·exact⟨aeF nofun nofun nofun nofun nofun,nofun,nofun,nofun,nofun,nofun,nofun,nofun⟩
 ·refine⟨aeF nofun nofun nofun nofun nofun,nofun,nofun,nofun,λn hn z=>?_,nofun,nofun,nofun⟩;have:=Tag.thing.inj z;lia
theorem F1(T:Txt K mg t):(6<*50) ["world","arguments"] (gm t 5):=by
 refine T.f.G50.F.ok2 ["world","arguments","kind","holder"] ?_;obtain⟨W,A0,ro,s0,a,rfl,hS,ok,hA,hg,k⟩;refine⟨_,(ap (bM (i:=2) nd (cu bP (pv 1) aN (λ_ _=>rfl)))
  (ap (bM (i:=3) nd (cu bP (pv 1) aN (λ_ _=>rfl)))
  (ap (de (oo (hJ (cZ (pv 0) T.bj T.m.G82.me (kZ T) (hr.mono dk) T.m.G82.b .nil dD (ah (pv 3) ax)))) (aH (bo (cn (ah (jJ gU aN) ax)))) bS)
  (ap (de (bR fZ (bb (pv 0) Z) (A? Z T.g.Jr) (bU _)) (aH (bo (cn (ah (jJ gU aN) ax)))) bS)
  (aH (bo (cn (ah (cZ (pv 0) T.bj T.m.G86.me (Dm T) (hr.mono dk) T.m.G86.b .nil dD (ah (pv 2) (ah (pv 3) ax))) ax)))))))),?_⟩
 obtain⟨kk,p,rfl,h1,h2,he⟩:=Xw hg;have GV:=rE ok hg.ranged (by intro q hq;cases hq);rw[he]at k GV;obtain⟨dx,kd,td,il,ca,X⟩:=id hS;refine⟨_,Z,_,_,_,_,Z,Z,bQ.of hA.1,sR,_,Z,_,_,_,_,Z,Z,bQ.of hA.1,at_of (j:=1) Z Z,_,Z,_,_,_,Z,X.obj,Z,_,Z,W,p,ro,id,s0.w,_,s0.cache,Z,hS,.inl Z,_,Z,?_⟩;by_cases z:p≠0/\a_ s0.w p=ae
 ·rw[show(decide (p=0)||a_ s0.w p)=ae by simp[z.1,z.2]];rw[aC z]at k;exact cI ⟨_,Z,(by show 1<=aE;decide),λp hp=>dr hS k _ p (a7.upd hp) hp ak⟩
 ·rw[show(decide (p=0)||a_ s0.w p)=ac by
   by_cases z0:p=0
   ·simp[z0]
   ·cases hq:a_ s0.w p with
    |true=>simp
    |false=>exact absurd ⟨z0,hq⟩ z]
  rw[aw z]at k GV;refine cy ⟨_,Z,_,_,_,_,_,Z,X.obj,T.bj,T.i_,Z,Z,_,Z,?_⟩;rw[mV s0.w.things.length 200 (z:=200) Z];have W9:=ok.w.tl;by_cases hT:s0.w.things.length=200
  ·rw[aI hT];rw[aC (show SN<=s0.w.things.length by rw[hT];exact aS _)]at k;exact cI ⟨_,Z,(by show 1<=aE;decide),λp hp=>dr hS k _ p (a7.upd hp) hp ak⟩
  ·rw[ay hT];have gO:¬SN<=s0.w.things.length:=by show¬200<=_;lia
   rw[aw gO]at k GV;refine cy ⟨_,Z,_,_,_,Z,X.obj,Z,_,Z,_,Z,W,kk,p,ro,s0.w,_,s0.cache,Z,hS,GV.w,yw ok.i,ok.c,λH1 kr abQ k1=>⟨(by show 1<=aE;decide),λr hr=>?_⟩⟩;rw[T?]at abQ;exact k _ kr r ((mI abQ).same (a7.upd hr)) ((k1.mono λx q=>⟨(gw q).1,(gw q).2.1,(gw q).2.2.1⟩).fin hr (a7.upd hr)) ak
theorem F4(T:Txt K mg t):(4<*51) ["world","arguments"] (gm t 6):=by
 refine T.f.G51.F.ok2 ["world","arguments","number","deep","within"] ?_;obtain⟨W,A0,ro,s0,a,rfl,hS,ok,hA,hg,k⟩;refine⟨_,(ap (bM (i:=2) nd (cu bP (pv 1) aN (λ_ _=>rfl)))
  (ap (bM (i:=3) nd (cu bP (pv 1) aN (λ_ _=>rfl)))
  (ap (bM (i:=4) nd (j9 (uN T) (hr.mono dk) Z T.f.G34 (ah (bb (pv 0) Z) (ah (pv 2) ax))))
  (ap (de (PW.pt (ym (bR fZ (pv 3) aN (bU _)) (uJ (bR y8 (bF bq Z T.len a9 (ah (pv 4) ax)) aN (bU _))))) (aH (bo (cn (ah (jJ gU aN) ax)))) bS)
  (ap (cv (cZ (pv 0) T.bj T.m.G87.me (Do T) (hr.mono dk) T.m.G87.b .nil dD (ah (fY rL (cn (ah (pv 2) ax)) (pv 4)) ax)))
  (aH (bo (cn (ah (fY j_ aN (bF bq Z T.len a9 (ah (pv 4) ax))) ax))))))))),?_⟩
 obtain⟨n,d,rfl,hn,he⟩:=Xy hg;rw[he]at k;obtain⟨dx,kd,td,il,ca,X⟩:=id hS;have So:=aB (oF ok.w.tree n) ok.w.tl;refine⟨_,Z,_,_,_,_,Z,Z,bQ.of hA.1,sR,_,Z,_,_,_,_,Z,Z,bQ.of hA.1,at_of (j:=1) Z Z,_,Z,_,_,_,_,_,Z,X.obj,T.bj,T.bT,Z,_,Z,td,n,ro,s0.w,Z,X.ts,ok.w,λH1 q s1 nq hq=>?_⟩;have ON:=hS.same s1;have refuse:(d=0/\(bG s0.w n).isEmpty=ae)->∀p,H1 p=ab->Q (.ref p) (upd H1 p (.lst [.int (-3)])):=λz p hp=>by
  rw[aC z]at k;exact dr hS k _ p (s1.up hp) (s1.free hp) ak
 have go:¬(d=0/\(bG s0.w n).isEmpty=ae)->∀(H2 H3:Hp)(N:ao),a7 H1 H2->H1 N=ab->H3=H2->IL H3 N (nz (n::bG s0.w n))->vk t [.ref W,.ref N] H3 (λ_ H4=>∃ys,H4 q=aa (.lst ys)/\ys.length=(bG s0.w n).length/\∀r,H4 r=ab->Q (.ref r) (upd H4 r (.lst [.int (1+((bG s0.w n).length:Nat))]))) E:=λz H2 H3 N s2 nN e3 hN=>by
  rw[aw z]at k;subst e3;have u? :=s1.trans s2;have nq2:q≠N:=aL hq nN;generalize JK:i8 (i8 ro N .ln) q .ln=nF;have k2:Kp (λ_=>True) H ro H3 nF:=λb o e _=>⟨u? b o e,by rw[<-JK,fI (aL e nq),fI (aL e (s1.free nN))]⟩;have rq:nF q= .ln:=by rw[<-JK,fm]
  have rN:nF N= .ln:=by rw[<-JK,fI (a8 nq2),fm]
  have k7:∀x∈n::bG s0.w n,a_ s0.w x=ac:=λx hx=>by
   rcases aF.mp hx with rfl|hx
   ·exact hn
   ·exact ok.w.tree.lj hx
  refine⟨W,N,n::bG s0.w n,nF,s0.w,_,s0.cache,Z,WR.kp hS k2,⟨hN,rN⟩,ok.w.tree.L7 n,k7,yw ok.i,ok.c,λH4 HQ abP k4=>?_⟩;rw[Ua k7]at abP;refine⟨_,(k4 q _ (s2 _ _ hq) (by rw[rq];exact⟨(gw (.inl Z)).1,nofun⟩)).1,by rw[af,af],λr hr=>?_⟩;refine k _ HQ r ((mI abP).same (a7.upd hr)) (((k2.mono λ_ _=>trivial).trans (k4.mono λx q=>⟨(gw q).1,(gw q).2.1⟩)).fin hr (a7.upd hr)) ?_;show upd _ _ _ _=_;rw[ak,show(1:Int)+((bG s0.w n).length:Nat)=(((bG s0.w n).length+1:Nat):Int) by lia];rfl
 refine⟨_,Z,Z,_,Z,?_⟩;have aai:∀p p2,H1 p=ab->(upd H1 p (.lst [nI n])) p2=ab->IL (upd (upd H1 p (.lst [nI n])) p2 (.lst ([nI n]++(nz (bG s0.w n)).map V.int))) p2 (nz (n::bG s0.w n)):=λp p2 _ _=>by
  show upd _ _ _ _=_;rw[ak];rfl
 rw[show decide (nI d=V.int 0)=_ from pI d];by_cases h0:d=0
 ·rw[aI h0];refine cI ⟨_,Z,_,_,Z,.inl (bQ.of hq),_,_,Z,Z,_,Z,?_⟩;rw[af,af];by_cases K3:(bG s0.w n).isEmpty=ae
  ·have NU:0<(bG s0.w n).length:=M5.mpr (λz=>by rw[z]at K3;cases K3);rw[aI (show(0:Int)<((bG s0.w n).length:Nat) by lia)];exact cI ⟨_,Z,(by show 1<=aE;decide),λp hp=>refuse ⟨h0,K3⟩ p hp⟩
  ·have hz:(bG s0.w n).length=0:=by
    cases hi:bG s0.w n with
    |nil=>rfl
    |cons b l=>rw[hi]at K3;exact absurd Z K3
   rw[ay (show¬(0:Int)<((bG s0.w n).length:Nat) by lia)];refine cy ⟨_,Z,_,_,_,Z,s1 _ _ X.obj,Z,_,Z,(by show 1<=aE;decide),λp hp=>⟨_,Z,p,q,_,_,Z,Z,ak,ups (aL hq hp) hq,?_,λp2 l9=>?_⟩⟩
   ·rw[af,af];show 1+_<=aE;exact aB (m:=201) om dk
   ·obtain⟨y1,y2,y3,y4,y5,y6,y7,h1,h2,h3,h4,h5,h6,h7,h8⟩:=go (λz=>K3 z.2) _ _ p2 ((a7.upd hp).up l9) ((a7.upd hp).free l9) Z (aai p p2 hp l9);refine⟨y1,y2,y3,y4,y5,y6,y7,h1,h2,h3,h4,h5,h6,h7,λH4 HQ b1 b2=>?_⟩;obtain⟨ys,hy,hl,fin⟩:=h8 H4 HQ b1 b2;refine⟨_,Z,_,_,Z,.inl (bQ.of hy),_,_,Z,Z,(by show 1<=aE;decide),λr hr=>?_⟩;rw[hl];exact fin r hr
 ·rw[ay h0];refine cy (cy ⟨_,Z,_,_,_,Z,s1 _ _ X.obj,Z,_,Z,(by show 1<=aE;decide),λp hp=>⟨_,Z,p,q,_,_,Z,Z,ak,ups (aL hq hp) hq,?_,λp2 l9=>?_⟩⟩)
  ·rw[af,af];show 1+_<=aE;exact aB (m:=201) om dk
  ·obtain⟨y1,y2,y3,y4,y5,y6,y7,h1,h2,h3,h4,h5,h6,h7,h8⟩:=go (λz=>h0 z.1) _ _ p2 ((a7.upd hp).up l9) ((a7.upd hp).free l9) Z (aai p p2 hp l9);refine⟨y1,y2,y3,y4,y5,y6,y7,h1,h2,h3,h4,h5,h6,h7,λH4 HQ b1 b2=>?_⟩;obtain⟨ys,hy,hl,fin⟩:=h8 H4 HQ b1 b2;refine⟨_,Z,_,_,Z,.inl (bQ.of hy),_,_,Z,Z,(by show 1<=aE;decide),λr hr=>?_⟩;rw[hl];exact fin r hr
theorem F0(T:Txt K mg t):(4<*55) ["world","arguments"] (gm t 10):=by
 refine T.f.G55.F.ok2 ["world","arguments","number","holder"] ?_;obtain⟨W,A0,ro,s0,a,rfl,hS,ok,hA,hg,k⟩;refine⟨_,(ap (bM (i:=2) nd (cu bP (pv 1) aN (λ_ _=>rfl)))
  (ap (bM (i:=3) nd (cu bP (pv 1) aN (λ_ _=>rfl)))
  (ap (de (oo (hJ (cZ (pv 0) T.bj T.m.G82.me (kZ T) (hr.mono dk) T.m.G82.b .nil dD (ah (pv 3) ax)))) (aH (bo (cn (ah (jJ gU aN) ax)))) bS)
  (ap (de (PW.pt (LS (bR fZ (pv 3) (pv 2) (bU _)) (FP (bR uM (pv 3) (j9 (uN T) (hr.mono dk) Z T.f.G34 (ah (bb (pv 0) Z) (ah (pv 2) ax))) (by with_unfolding_all rfl))))) (aH (bo (cn (ah (jJ gU aN) ax)))) bS)
  (ap (cv (cZ (pv 0) T.bj T.m.G88.me (Dl T) (hr.mono dk) T.m.G88.b .nil dD (ah (pv 2) (ah (pv 3) ax))))
  (aH (bo (cn (ah aN ax))))))))),?_⟩
 obtain⟨n,p,rfl,hn,he⟩:=Xv hg;rw[he]at k;obtain⟨dx,kd,td,il,ca,X⟩:=id hS;refine⟨_,Z,_,_,_,_,Z,Z,bQ.of hA.1,sR,_,Z,_,_,_,_,Z,Z,bQ.of hA.1,at_of (j:=1) Z Z,_,Z,_,_,_,Z,X.obj,Z,_,Z,W,p,ro,id,s0.w,_,s0.cache,Z,hS,.inl Z,_,Z,?_⟩;by_cases z:p≠0/\a_ s0.w p=ae
 ·rw[show(decide (p=0)||a_ s0.w p)=ae by simp[z.1,z.2]];rw[aC z]at k;exact cI ⟨_,Z,(by show 1<=aE;decide),λp hp=>dr hS k _ p (a7.upd hp) hp ak⟩
 ·rw[show(decide (p=0)||a_ s0.w p)=ac by
   by_cases z0:p=0
   ·simp[z0]
   ·cases hq:a_ s0.w p with
    |true=>simp
    |false=>exact absurd ⟨z0,hq⟩ z]
  rw[aw z]at k;refine cy ⟨_,Z,_,Z,Z,_,Z,?_⟩;rw[show decide (V.int (p:Int)=V.int (n:Int))=_ from v? p n];by_cases Ul:p=n
  ·rw[aI Ul];rw[aC (.inl Ul)]at k;exact cI (cI ⟨_,Z,(by show 1<=aE;decide),λp hp=>dr hS k _ p (a7.upd hp) hp ak⟩)
  ·rw[ay Ul];refine cy ⟨_,Z,_,Z,_,_,_,_,_,Z,X.obj,T.bj,T.bT,Z,_,Z,td,n,ro,s0.w,Z,X.ts,ok.w,λH1 q s1 nq hq=>⟨_,_,Z,.inl (bQ.of hq),Z,mO _,_,Z,?_⟩⟩;have e:DA (nI p) ((nz (bG s0.w n)).map V.int)=(bG s0.w n).contains p:=uk _ _;rw[e];have ON:=hS.same s1
   cases hb:(bG s0.w n).contains p with
   |true=>
    rw[aC (.inr hb)]at k;exact cI ⟨_,Z,(by show 1<=aE;decide),λp hp=>dr hS k _ p (s1.up hp) (s1.free hp) ak⟩
   |false=>
    rw[aw (by rintro(h|h);exact Ul h;rw[hb]at h;cases h)]at k;refine cy ⟨_,Z,_,_,_,Z,s1 _ _ X.obj,Z,_,Z,_,Z,W,n,p,ro,s0.w,_,s0.cache,Z,ON,hn,ok.c,λH2 nF GZ k2=>⟨(by show 1<=aE;decide),λr hr=>?_⟩⟩;rw[<-T_ (p:=p) hn]at GZ;refine k _ nF r ((mI GZ).same (a7.upd hr)) (((Kp.same s1).trans (k2.mono λx q=>⟨(gw q).1,(gw q).2.2.2.2.1 n (b? hn).1⟩)).fin hr (a7.upd hr)) ak
theorem Pl{W dx kd td il ca:ao}(X:WA t H ro W dx kd td il ca id wd L c)(hn:a_ wd n=ac)(dg:m_ H td (nI n) (aa (.ref ta)))
 (te:H ta=aa (.ins t.Thing zl (pV (nI (bh wd n).kind) (nI (bh wd n).holder) (.ref d))))(rd:ro d= .own n)(xr:DR (upd H d o) d (f (bh wd n).own))(abE:∃Se:Nat->ao,Se n=ta/\aeK t H ro td id wd Se):WA t (upd H d o) ro W dx kd td il ca id (rK wd n f) L c:=by
 have k1:Kp (· ≠.own n) H ro (upd H d o) ro:=Kp.put rd;obtain⟨Se,e0,Am,Aa,yD⟩:=abE;obtain⟨e1,r1⟩:=k1 W _ X.obj (by rw[X.vn];exact nofun);refine⟨?_,X.vn,X.ks.kp k1 nofun nofun λ_=>nofun,⟨Se,?_,Aa,λm hm=>?_⟩,X.ix.kp k1 nofun nofun (λ_=>nofun) (λ_=>nofun),X.ca.kp k1 nofun nofun nofun nofun⟩
 ·rw[k?];exact e1
 ·have:aM (rK wd n f)=aM wd:=by
   unfold aM;rw[k?];apply jD;intro x _;exact jf hn x
  rw[this];exact(k1 _ _ Am (by rw[Aa];exact nofun)).1
 ·rw[jf hn]at hm;rw[yp hn (b? hm).1];by_cases rV:m=n
  ·subst rV;rw[aC Z,e0];obtain⟨dxt',d',YT,acE,_,abu⟩:=yD m hm;rw[e0]at YT acE;rw[te]at YT;injection YT with YT
   injection YT with _ i2 i3
   have:V.ref d=V.ref d':=by simp[pV]at i3;rw[i3]
   refine⟨zl,d,(k1 _ _ te (by rw[acE];exact nofun)).1,acE,xr,rd⟩
  ·rw[aw rV];exact(yD m hm).kp k1 nofun (λz=>rV (Tag.own.inj z))
theorem Ig(T:Txt K mg t):(7<*52) ["world","arguments"] (gm t 7):=by
 refine T.f.G52.F.ok2 ["world","arguments","number","attribute"] ?_;obtain⟨W,A0,ro,s0,a,rfl,hS,ok,hA,hg,k⟩;refine⟨_,(ap (bM (i:=2) nd (cu bP (pv 1) aN (λ_ _=>rfl)))
  (ap (bM (i:=3) nd (cu bP (pv 1) aN (λ_ _=>rfl)))
  (ap (w9 hu (bb (fW hu (bb (pv 0) Z) (pv 2) (λ_ _=>rfl)) Z) (pv 3) (cu bP (pv 1) aN (λ_ _=>rfl)) Z)
  (ap (cv (cZ (pv 0) T.bj T.m.G84.me (m7 T) (hr.mono dk) T.m.G84.b .nil dD (ah (pv 2) (ah (pv 3) ax))))
  (aH (bo (cn (ah aN ax)))))))),?_⟩
 obtain⟨n,b,x,rfl,hn,hb,he⟩:=aaF hg;have GV:=rE ok hg.ranged (by intro q hq;cases hq);rw[he]at k GV;obtain⟨dx,kd,td,il,ca,X⟩:=id hS;obtain⟨Se,Am,Aa,yD⟩:=id X.ts;obtain⟨zl,d,te,rt,⟨kvs,hd,KE,hv⟩,rd⟩:=yD n hn;have c6:=Lb KE hv (ok.w.own n hn);have dg:m_ H td (nI n) (aa (.ref (Se n))):=l3 (.inl Am) (cw.mpr hn);refine⟨_,Z,_,_,_,_,Z,Z,bQ.of hA.1,sR,_,Z,_,_,_,_,Z,Z,bQ.of hA.1,at_of (j:=1) Z Z,_,Z,_,_,_,_,Z,Z,bQ.of hA.1,at_of (j:=2) Z Z,_,Z,_,_,_,_,_,Z,X.obj,T.bj,T.bT,Z,_,Z,_,_,Z,dg,_,_,_,_,_,Z,te,T.ip,T.jN,Z,_,Z,_,_,Z,GA.k (k:=.inl (b:Int)) hd (aX c6 dk),?_⟩;have X1:=Pl (f:=lu b x) (o:=.dK (putK kvs (.inl (b:Int)) (.int x))) X hn dg te rd ⟨_,ak,F6 _ KE,Rz hv b x⟩ ⟨Se,Z,Am,Aa,yD⟩;have hh:a_ (rK s0.w n (lu b x)) n=ac:=by rw[jf hn];exact hn
 refine⟨_,Z,_,_,_,Z,X1.obj,Z,_,Z,_,Z,W,n,b,ro,_,_,s0.cache,Z,⟨dx,kd,td,il,ca,X1⟩,GV.w,hh,yw ok.i,ok.c,λH2 nF GZ k2=>⟨(by show 1<=aE;decide),λr hr=>?_⟩⟩;rw[Mb hn (λc hc=>by rw[t_,aw hc])]at GZ;exact k _ nF r ((mI GZ).same (a7.upd hr)) ((((Kp.put rd).mono λx q=>(gw q).2.2.2.2.2.1 n).trans (k2.mono λx q=>(gw q).1)).fin hr (a7.upd hr)) ak
theorem Df(T:Txt K mg t):(7<*53) ["world","arguments"] (gm t 8):=by
 refine T.f.G53.F.ok2 ["world","arguments","number","attribute","own"] ?_;obtain⟨W,A0,ro,s0,a,rfl,hS,ok,hA,hg,k⟩;refine⟨_,(ap (bM (i:=2) nd (cu bP (pv 1) aN (λ_ _=>rfl)))
  (ap (bM (i:=3) nd (cu bP (pv 1) aN (λ_ _=>rfl)))
  (ap (bM (i:=4) nd (bb (fW hu (bb (pv 0) Z) (pv 2) (λ_ _=>rfl)) Z))
  (ap (de (yn (qB hu (pv 3) (pv 4))) (aH (bo (cn (ah (jJ gU aN) ax)))) bS)
  (ap (cv (Ba (pv 4) (pv 3) ⟨Z,Z,Z,Z⟩))
  (ap (cv (cZ (pv 0) T.bj T.m.G84.me (m7 T) (hr.mono dk) T.m.G84.b .nil dD (ah (pv 2) (ah (pv 3) ax))))
  (aH (bo (cn (ah aN ax)))))))))),?_⟩
 obtain⟨n,b,rfl,hn,hb,he⟩:=Uz hg;have GV:=rE ok hg.ranged (by intro q hq;cases hq);rw[he]at k GV;obtain⟨dx,kd,td,il,ca,X⟩:=id hS;obtain⟨Se,Am,Aa,yD⟩:=id X.ts;obtain⟨zl,d,te,rt,Ut,rd⟩:=yD n hn;obtain⟨kvs,hd,KE,hv⟩:=id Ut;have dg:m_ H td (nI n) (aa (.ref (Se n))):=l3 (.inl Am) (cw.mpr hn);refine⟨_,Z,_,_,_,_,Z,Z,bQ.of hA.1,sR,_,Z,_,_,_,_,Z,Z,bQ.of hA.1,at_of (j:=1) Z Z,_,Z,_,_,_,_,_,Z,X.obj,T.bj,T.bT,Z,_,Z,_,_,Z,dg,_,_,_,_,_,Z,te,T.ip,T.jN,Z,_,Z,_,Z,_,_,Z,r8 Ut b,_,Z,?_⟩;rw[iu]
 cases hp:cK b (bh s0.w n).own with
 |none=>
  rw[hp,aC (show(ab:Option Int).isNone=ac from Z)]at k;exact cI ⟨_,Z,(by show 1<=aE;decide),λp hp=>dr hS k _ p (a7.upd hp) hp ak⟩
 |some x=>
  rw[hp,aw (by simp)]at k GV;have W8:eY kvs (.inl (b:Int))=aa (.int x):=by rw[hv,yJ,hp];rfl
  refine cy ⟨_,Z,d,Z,.inl ⟨_,.inl hd⟩,_,Z,kvs,.inl (b:Int),_,hd,Z,W8,?_⟩;have X1:=Pl (f:=rh b) (o:=.dK (ik kvs (.inl (b:Int)))) X hn dg te rd ⟨_,ak,uc KE,MA hv b⟩ ⟨Se,Z,Am,Aa,yD⟩;have hh:a_ (rK s0.w n (rh b)) n=ac:=by rw[jf hn];exact hn
  refine⟨_,Z,_,_,_,Z,X1.obj,Z,_,Z,_,Z,W,n,b,ro,_,_,s0.cache,Z,⟨dx,kd,td,il,ca,X1⟩,GV.w,hh,yw ok.i,ok.c,λH2 nF GZ k2=>⟨(by show 1<=aE;decide),λr hr=>?_⟩⟩;rw[Mb hn (λc hc=>by rw[uL,aw hc])]at GZ;exact k _ nF r ((mI GZ).same (a7.upd hr)) ((((Kp.put rd).mono λx q=>(gw q).2.2.2.2.2.1 n).trans (k2.mono λx q=>(gw q).1)).fin hr (a7.upd hr)) ak
theorem Pn{W dx kd td il ca:ao}(X:WA t H ro W dx kd td il ca id wd L c)(h1:1<=n)(h2:n<=wd.kinds.length)  
 (JL:H kd=aa (.dK (eS Ue ((cF wd.kinds.length).map (· +1)))))(Vo:ro kd= .kinds)(yD:∀k,1<=k->k<=wd.kinds.length->EZ t H ro k (Ue k) (cS wd k))
 (te:H (Ue n)=aa (.ins t.Kind UH (Rt (.ref od) (.ref d))))(rt:ro (Ue n)= .ln)(ho:IM H ro od (nz (cS wd n).order))(rd:ro d= .Gq n)(xr:DR (upd H d o) d (f (cS wd n).defaults)):WA t (upd H d o) ro W dx kd td il ca id (pX wd n f) L c:=by
 have k1:Kp (· ≠.Gq n) H ro (upd H d o) ro:=Kp.put rd;obtain⟨e1,r1⟩:=k1 W _ X.obj (by rw[X.vn];exact nofun);refine⟨e1,X.vn,⟨Ue,?_,Vo,λm hm BG=>?_⟩,X.ts.kp k1 nofun (λ_ _=>nofun) (λ_ _=>nofun),X.ix.kp k1 nofun nofun (λ_=>nofun) (λ_=>nofun),X.ca.kp k1 nofun nofun nofun nofun⟩
 ·rw[Tw.kind_len];exact(k1 _ _ JL (by rw[Vo];exact nofun)).1
 ·rw[Tw.kind_len]at BG;rw[Gp h1 h2 hm];by_cases rV:m=n
  ·subst rV;rw[aC Z];exact⟨UH,od,d,(k1 _ _ te (by rw[rt];exact nofun)).1,rt,ho.kp k1 nofun,xr,rd⟩
  ·rw[aw rV];obtain⟨YI,o',d',z1,z2,z3,z4,z5⟩:=yD m hm BG;obtain⟨z4',z5'⟩:=z4.kp k1 (by rw[z5];exact λq=>rV (Tag.Gq.inj q));exact⟨YI,o',d',(k1 _ _ z1 (by rw[z2];exact nofun)).1,z2,z3.kp k1 nofun,z4',z5⟩
theorem zL(T:Txt K mg t):(7<*48) ["world","arguments"] (gm t 3):=by
 refine T.f.G48.F.ok2 ["world","arguments","kind","attribute"] ?_;obtain⟨W,A0,ro,s0,a,rfl,hS,ok,hA,hg,k⟩;refine⟨_,(ap (bM (i:=2) nd (cu bP (pv 1) aN (λ_ _=>rfl)))
  (ap (bM (i:=3) nd (cu bP (pv 1) aN (λ_ _=>rfl)))
  (ap (w9 hu (bb (fW hu (bb (pv 0) Z) (pv 2) (λ_ _=>rfl)) Z) (pv 3) (cu bP (pv 1) aN (λ_ _=>rfl)) Z)
  (ap (cv (cZ (pv 0) T.bj T.m.G85.me (kI T) (hr.mono dk) T.m.G85.b .nil dD (ah (pv 2) (ah (pv 3) ax))))
  (aH (bo (cn (ah aN ax)))))))),?_⟩
 obtain⟨n,b,x,rfl,h1,h2,hb,he⟩:=N5 hg;have GV:=rE ok hg.ranged (by intro q hq;cases hq);rw[he]at k GV;obtain⟨dx,kd,td,il,ca,X⟩:=id hS;obtain⟨Ue,JL,Vo,yD⟩:=id X.ks;obtain⟨UH,od,d,te,rt,ho,⟨kvs,hd,KE,hv⟩,rd⟩:=yD n h1 h2;have c6:=Lb KE hv (ok.w.Gq n h1 h2);have dg:m_ H kd (nI n) (aa (.ref (Ue n))):=l3 (.inl JL) (uf.mpr ⟨h1,h2⟩);refine⟨_,Z,_,_,_,_,Z,Z,bQ.of hA.1,sR,_,Z,_,_,_,_,Z,Z,bQ.of hA.1,at_of (j:=1) Z Z,_,Z,_,_,_,_,Z,Z,bQ.of hA.1,at_of (j:=2) Z Z,_,Z,_,_,_,_,_,Z,X.obj,T.bj,T.c?,Z,_,Z,_,_,Z,dg,_,_,_,_,_,Z,te,T.pZ,T.jg,Z,_,Z,_,_,Z,GA.k (k:=.inl (b:Int)) hd (aX c6 dk),?_⟩;have X1:=Pn (f:=lu b x) (o:=.dK (putK kvs (.inl (b:Int)) (.int x))) X h1 h2 JL Vo yD te rt ho rd ⟨_,ak,F6 _ KE,Rz hv b x⟩;refine⟨_,Z,_,_,_,Z,X1.obj,Z,_,Z,_,Z,W,n,b,ro,_,_,s0.cache,Z,⟨dx,kd,td,il,ca,X1⟩,GV.w,yw ok.i,ok.c,λH2 nF GZ k2=>⟨(by show 1<=aE;decide),λr hr=>?_⟩⟩;rw[Mc ok.w h1 h2 (λc hc=>by rw[t_,aw hc])]at GZ;exact k _ nF r ((mI GZ).same (a7.upd hr)) ((((Kp.put rd).mono λx q=>(gw q).2.2.2.2.2.2.1 n).trans (k2.mono λx q=>⟨(gw q).1,(gw q).2.1⟩)).fin hr (a7.upd hr)) ak
theorem xh(T:Txt K mg t):(7<*49) ["world","arguments"] (gm t 4):=by
 refine T.f.G49.F.ok2 ["world","arguments","kind","attribute","defaults"] ?_;obtain⟨W,A0,ro,s0,a,rfl,hS,ok,hA,hg,k⟩;refine⟨_,(ap (bM (i:=2) nd (cu bP (pv 1) aN (λ_ _=>rfl)))
  (ap (bM (i:=3) nd (cu bP (pv 1) aN (λ_ _=>rfl)))
  (ap (bM (i:=4) nd (bb (fW hu (bb (pv 0) Z) (pv 2) (λ_ _=>rfl)) Z))
  (ap (de (yn (qB hu (pv 3) (pv 4))) (aH (bo (cn (ah (jJ gU aN) ax)))) bS)
  (ap (cv (Ba (pv 4) (pv 3) ⟨Z,Z,Z,Z⟩))
  (ap (cv (cZ (pv 0) T.bj T.m.G85.me (kI T) (hr.mono dk) T.m.G85.b .nil dD (ah (pv 2) (ah (pv 3) ax))))
  (aH (bo (cn (ah aN ax)))))))))),?_⟩
 obtain⟨n,b,rfl,h1,h2,hb,he⟩:=I0 hg;have GV:=rE ok hg.ranged (by intro q hq;cases hq);rw[he]at k GV;obtain⟨dx,kd,td,il,ca,X⟩:=id hS;obtain⟨Ue,JL,Vo,yD⟩:=id X.ks;obtain⟨UH,od,d,te,rt,ho,Ut,rd⟩:=yD n h1 h2;obtain⟨kvs,hd,KE,hv⟩:=id Ut;have dg:m_ H kd (nI n) (aa (.ref (Ue n))):=l3 (.inl JL) (uf.mpr ⟨h1,h2⟩);refine⟨_,Z,_,_,_,_,Z,Z,bQ.of hA.1,sR,_,Z,_,_,_,_,Z,Z,bQ.of hA.1,at_of (j:=1) Z Z,_,Z,_,_,_,_,_,Z,X.obj,T.bj,T.c?,Z,_,Z,_,_,Z,dg,_,_,_,_,_,Z,te,T.pZ,T.jg,Z,_,Z,_,Z,_,_,Z,r8 Ut b,_,Z,?_⟩;rw[iu]
 cases hp:cK b (cS s0.w n).defaults with
 |none=>
  rw[hp,aC (show(ab:Option Int).isNone=ac from Z)]at k;exact cI ⟨_,Z,(by show 1<=aE;decide),λp hp=>dr hS k _ p (a7.upd hp) hp ak⟩
 |some x=>
  rw[hp,aw (by simp)]at k GV;have W8:eY kvs (.inl (b:Int))=aa (.int x):=by rw[hv,yJ,hp];rfl
  refine cy ⟨_,Z,d,Z,.inl ⟨_,.inl hd⟩,_,Z,kvs,.inl (b:Int),_,hd,Z,W8,?_⟩;have X1:=Pn (f:=rh b) (o:=.dK (ik kvs (.inl (b:Int)))) X h1 h2 JL Vo yD te rt ho rd ⟨_,ak,uc KE,MA hv b⟩;refine⟨_,Z,_,_,_,Z,X1.obj,Z,_,Z,_,Z,W,n,b,ro,_,_,s0.cache,Z,⟨dx,kd,td,il,ca,X1⟩,GV.w,yw ok.i,ok.c,λH2 nF GZ k2=>⟨(by show 1<=aE;decide),λr hr=>?_⟩⟩;rw[Mc ok.w h1 h2 (λc hc=>by rw[uL,aw hc])]at GZ;exact k _ nF r ((mI GZ).same (a7.upd hr)) ((((Kp.put rd).mono λx q=>(gw q).2.2.2.2.2.2.1 n).trans (k2.mono λx q=>⟨(gw q).1,(gw q).2.1⟩)).fin hr (a7.upd hr)) ak
theorem zI(T:Txt K mg t):(1<*60) ["world","arguments"] (gm t 15):=by
 refine T.f.G60.F.ok2 ["world","arguments"] ?_;obtain⟨W,A0,ro,s0,a,rfl,hS,ok,hA,hg,k⟩;refine⟨_,(ap (de (bR Qc (cu bP (pv 1) aN (λ_ _=>rfl)) (bF bq Z T.len a9 (ah (bb (pv 0) Z) ax)) (bU _)) (aH (bo (cn (ah (jJ gU aN) ax)))) bS)
  (ap (cv (jK bp mi mf Bs (bb (pv 0) Z) (ah (cu bP (pv 1) aN (λ_ _=>rfl)) ax)))
  (aH (bo (cn (ah aN ax)))))),?_⟩
 obtain⟨i,rfl,h5,he⟩:=N3 hg;rw[he]at k;obtain⟨dx,kd,td,il,ca,X⟩:=id hS;obtain⟨is,hI⟩:=id X.ix;have c6:is.length=s0.indexes.length:=by
  have:=dY hI.2.2.2;unfold qV at this;rwa[af]at this
 refine⟨_,Z,_,_,_,_,Z,Z,bQ.of hA.1,sR,_,Z,_,_,_,_,_,Z,X.obj,T.bj,T.dw,Z,_,_,Z,.inl (bQ.of hI.1),_,_,Z,Z,_,Z,?_⟩;rw[af,c6];by_cases z:s0.indexes.length<=i
 ·rw[aI (show((s0.indexes.length:Nat):Int)<=(i:Int) by lia)];rw[aC z]at k;exact cI ⟨_,Z,(by show 1<=aE;decide),λp hp=>dr hS k _ p (a7.upd hp) hp ak⟩
 ·rw[ay (show¬((s0.indexes.length:Nat):Int)<=(i:Int) by lia)];rw[aw z]at k;obtain⟨ia,Xi⟩:∃ia,is[i]? =aa ia:=⟨is[i]'om,by simp⟩;refine cy ⟨_,Z,_,_,_,_,_,Z,X.obj,T.bj,T.dw,Z,.inl ⟨Z,_,bQ.of hI.1⟩,_,Z,_,_,_,_,Z,Z,bQ.of hA.1,sR,il,_,_,i,.ref ia,Z,Z,hI.1,om,om,QP Z (by rw[af];lia),by rw[aA,Xi];rfl,(by show 1<=aE;decide),λp hp=>?_⟩;have k1:∀o,Kp (· ≠.indexes) H ro (upd H il o) ro:=λo=>Kp.put hI.2.1;refine k _ ro p (B'.same ⟨dx,kd,td,il,ca,?_⟩ (a7.upd hp)) (((k1 _).mono λx q=>(gw q).2.2.2.1).fin hp (a7.upd hp)) ak;obtain⟨e1,r1⟩:=k1 _ W _ X.obj (by rw[X.vn];exact nofun);refine⟨e1,X.vn,X.ks.kp (k1 _) nofun nofun λ_=>nofun,X.ts.kp (k1 _) nofun (λ_ _=>nofun) (λ_ _=>nofun),⟨is.eraseIdx i,?_,hI.2.1,(J2 _ _).nodup hI.2.2.1,?_⟩,X.ca.kp (k1 _) nofun nofun nofun nofun⟩
  ·rw[ak,qO]
  ·have:qV s0.w (s0.indexes.eraseIdx i)=(qV s0.w s0.indexes).eraseIdx i:=by unfold qV;rw[qO]
   show ci _ _ (qV s0.w (s0.indexes.eraseIdx i));rw[this];exact xb _ (dI (λ_ _ z=>z.kp (k1 _) nofun nofun nofun) hI.2.2.2)
theorem FY(T:Txt K mg t):(1<*61) ["world","arguments"] (gm t 16):=by
 refine T.f.G61.F.ok2 ["world","arguments","index","answer","row"] ?_;obtain⟨W,A0,ro,s0,a,rfl,hS,ok,hA,hg,k⟩;refine⟨_,(ap (de (bR Qc (cu bP (pv 1) aN (λ_ _=>rfl)) (bF bq Z T.len a9 (ah (bb (pv 0) Z) ax)) (bU _)) (aH (bo (cn (ah (jJ gU aN) ax)))) bS)
  (ap (bM (i:=2) nd (cu bP (bb (pv 0) Z) (cu bP (pv 1) aN (λ_ _=>rfl)) (λ_ _=>rfl)))
  (ap (bM (i:=3) nd (cn (ah (bF bq Z T.len a9 (ah (bb (pv 2) Z) ax)) (ah (bF bq Z T.len a9 (ah (bb (pv 2) Z) ax)) ax))))
  (ap (jI bY Z (dH (bb (pv 2) Z)) (cJ (i:=4) nd Z (bi Z))
  (aH (cv (jK bp ej ei li (pv 3) (ah (pv 4) ax)))))
  (aH (bo (pv 3))))))),?_⟩
 obtain⟨i,rfl,h5,he⟩:=Xu hg;rw[he]at k;obtain⟨dx,kd,td,il,ca,X⟩:=id hS;obtain⟨is,hI⟩:=id X.ix;have KZ:ci (λi (x:dP)=>Cb t H ro i x.attrs (kG s0.w x.attrs)) is s0.indexes:=kP hI.2.2.2;have c6:=dY KZ;refine⟨_,Z,_,_,_,_,Z,Z,bQ.of hA.1,sR,_,Z,_,_,_,_,_,Z,X.obj,T.bj,T.dw,Z,_,_,Z,.inl (bQ.of hI.1),_,_,Z,Z,_,Z,?_⟩;rw[af,c6];by_cases z:s0.indexes.length<=i
 ·rw[aI (show((s0.indexes.length:Nat):Int)<=(i:Int) by lia)];rw[cV z]at k;exact cI ⟨_,Z,(by show 1<=aE;decide),λp hp=>dr hS k _ p (a7.upd hp) hp ak⟩
 ·rw[ay (show¬((s0.indexes.length:Nat):Int)<=(i:Int) by lia)];have abG:s0.indexes[i]? =aa (s0.indexes[i]'om):=by simp
  rw[abG]at k;generalize s0.indexes[i]'om=x at abG k;simp only at k;obtain⟨ia,Xi,YG,A1,R,D,kvs,re,rows,Y⟩:=Ku KZ abG;obtain⟨g1,g2,g3,DH⟩:=ok.i.at_ x (aP abG);have vz:rows=x.rows:=Y.Lj.uniq DH;subst vz;have VG:x.rows.length<=201:=qR DH (tX _ _) λn r hr=>(uH ok.w hr).1;have hr4:∀r∈x.rows,r.length<=4:=λr hr=>by
   obtain⟨n,hn⟩:=(DH.mem r).mp hr;have:=(uH ok.w hn).2.1;lia
  have Sq:∀j,(x.rows.take j).flatten.length<=4*j:=λj=>by
   induction j with
   |zero=>simp
   |succ j ih=>
    by_cases hj:j<x.rows.length
    ·rw[take_succ (x:=x.rows[j]) (by simp[hj]),M8,aQ];have:=hr4 x.rows[j] (by simp);rw[show([x.rows[j]]:List xC).flatten=x.rows[j] by simp];lia
    ·rw[ee om];rw[ee om]at ih;lia
  have qg:=dY Y.pd;have hal:(nz x.attrs).length=x.attrs.length:=by rw[af]
  refine cy ⟨_,Z,_,_,_,_,_,Z,X.obj,T.bj,T.dw,Z,_,Z,_,_,_,_,Z,Z,bQ.of hA.1,sR,_,_,_,.ref ia,Z,Z,bQ.of hI.1,at_of Z (by rw[aA,Xi];rfl),_,Z,_,_,_,_,_,Z,Y.obj,T.eC,T.fg,Z,_,_,Z,.inl (bQ.of Y.rws),_,Z,_,_,_,_,_,Z,Y.obj,T.eC,T.eI,Z,_,_,Z,.inl (bQ.of Y.RK.1),(by show 2<=aE;decide),λp hp=>?_⟩;rw[af,af,hal,qg];have s1:a7 H (upd H p (.lst [.int (x.rows.length:Nat),.int (x.attrs.length:Nat)])):=a7.upd hp;have BF:(upd H p (.lst [.int (x.rows.length:Nat),.int (x.attrs.length:Nat)])) p=aa (.lst [.int (x.rows.length:Nat),.int (x.attrs.length:Nat)]):=ak;generalize upd H p (.lst [.int (x.rows.length:Nat),.int (x.attrs.length:Nat)])=H1 at s1 BF;refine⟨_,Z,_,_,_,_,_,Z,s1 _ _ Y.obj,T.eC,T.fg,Z,R,Z,⟨_,bQ.of (s1 _ _ Y.rws)⟩,?_⟩;refine ij (K:=K) (a:=R) (xs:=re.map V.ref) (λj σ H'=>∃v:Option V,σ=[aa (.ref W),aa (.ref A0),aa (.ref ia),aa (.ref p),v]/\a7 H H'/\IL H' p ((x.rows.length:Int)::(x.attrs.length:Int)::(x.rows.take j).flatten))
   ⟨ab,Z,s1,BF⟩ (λj σ H' _ ⟨_,_,s,_⟩=>bQ.of (s _ _ Y.rws)) ?_ ?_
  ·rintro j y σ H2 hy ⟨v,rfl,s2,l9⟩;rw[aA]at hy
   cases Cj:re[j]? with
   |none=>rw[Cj]at hy;cases hy
   |some ra=>
    rw[Cj]at hy
    cases hy;obtain⟨r,um,ZR⟩:=o5 Y.pd Cj;have hj:j<201:=bI (aY.mp um).1 VG;have h4:=hr4 r (aP um);have hf:=Sq j;refine⟨_,Z,.inl ⟨Z,_,bQ.of l9⟩,_,Z,p,ra,_,_,Z,Z,l9,s2 _ _ ZR.1,?_,?_⟩
    ·rw[af,af,aJ,aJ];exact aB (m:=1000) om dk
    ·refine⟨_,Z,s2.tN hp,?_⟩;show upd _ _ _ _=_;rw[ak,take_succ um,M8];simp
  ·rintro σ H2 ⟨v,rfl,s2,l9⟩;rw[af,qg,cB]at l9;exact⟨_,Z,dr hS k H2 p s2 hp l9⟩
theorem zK(T:Txt K mg t):(2<*66) ["world","arguments"] (gm t 21):=by
 refine T.f.G66.F.ok2 ["world","arguments","answer","entry"] ?_;obtain⟨W,A0,ro,s0,a,rfl,hS,ok,hA,hg,k⟩;refine⟨_,(ap (bM (i:=2) nd (cn (ah (bF bq Z T.len a9 (ah (bb (bb (pv 0) Z) Z) ax)) ax)))
  (ap (jI bY Z (dH (bb (bb (pv 0) Z) Z)) (cJ (i:=3) nd Z (bi Z))
  (ap (cv (jK bp ej ei li (pv 2) (ah (j9 (jj T) (hr.mono dk) Z T.f.G42 (ah (bb (bb (pv 3) Z) Z) ax)) ax)))
  (aH (cv (jK bp ej ei li (pv 2) (ah (cn (ah (bb (pv 3) Z) (ah (bb (pv 3) Z) ax))) ax))))))
  (aH (bo (pv 2))))),?_⟩
 obtain rfl:=VS Z hg;obtain⟨dx,kd,td,il,ca,X⟩:=id hS;obtain⟨dc,el,mB,C⟩:=id X.ca;have hl:=dY C.pd;have adI:s0.cache.entries.length<=20:=aB ok.c.len ok.c.most;have Sq:∀j,((s0.cache.entries.take j).flatMap λe=>dG e.asked++[(e.made:Int),e.used]).length<=70*j:=λj=>by
  induction j with
  |zero=>simp
  |succ j ih=>
   by_cases hj:j<s0.cache.entries.length
   ·rw[take_succ (x:=s0.cache.entries[j]) (by simp[hj]),gL,aQ];have:=(ok.c.ent s0.cache.entries[j] (by simp)).ask;simp[dG];simp[dG]at ih;lia
   ·rw[ee om];rw[ee om]at ih;lia
 refine⟨_,Z,_,_,_,_,_,Z,X.obj,T.bj,T.eK,Z,_,_,_,_,_,Z,C.obj,T.cp,T.cT,Z,_,_,Z,.inl (bQ.of C.lst),(by show 1<=aE;decide),λp hp=>?_⟩;rw[af,hl];have s1:a7 H (upd H p (.lst [.int (s0.cache.entries.length:Nat)])):=a7.upd hp;have BF:(upd H p (.lst [.int (s0.cache.entries.length:Nat)])) p=aa (.lst [.int (s0.cache.entries.length:Nat)]):=ak;generalize upd H p (.lst [.int (s0.cache.entries.length:Nat)])=H1 at s1 BF;refine⟨_,Z,_,_,_,_,_,Z,s1 _ _ X.obj,T.bj,T.eK,Z,_,_,_,_,_,Z,s1 _ _ C.obj,T.cp,T.cT,Z,el,Z,⟨_,bQ.of (s1 _ _ C.lst)⟩,?_⟩;refine ij (K:=K) (a:=el) (xs:=mB.map V.ref) (λj σ H'=>∃v:Option V,σ=[aa (.ref W),aa (.ref A0),aa (.ref p),v]/\a7 H H'/\IL H' p ((s0.cache.entries.length:Int)::(s0.cache.entries.take j).flatMap λe=>dG e.asked++[(e.made:Int),e.used]))
  ⟨ab,Z,s1,BF⟩ (λj σ H' _ ⟨_,_,s,_⟩=>bQ.of (s _ _ C.lst)) ?_ ?_
 ·rintro j y σ H2 hy ⟨v,rfl,s2,l9⟩;rw[aA]at hy
  cases adY:mB[j]? with
  |none=>rw[adY]at hy;cases hy
  |some ea=>
   rw[adY]at hy
   cases hy;obtain⟨e,he,hE⟩:=o5 C.pd adY;have hem:=aP he;obtain⟨La,q,A2,qq,dq,N,Cs,Ss,As,h1,h3,h4,h5,_,_⟩:=My hE (ok.c.ent _ hem);have aaB:=(ok.c.ent _ hem).ask;have hj:j<20:=bI (aY.mp he).1 adI;have hf:=Sq j;refine⟨_,Z,.inl ⟨Z,_,bQ.of l9⟩,_,Z,_,_,_,_,_,Z,s2 _ _ h1,T.jU,T.iO,Z,_,_,_,_,_,Z,s2 _ _ h4.obj,T.cO,T.i',Z,N,e.asked,Z,s2 _ _ h4.ns.1,om,λH3 r s3 nr hr=>⟨p,r,_,_,Z,Z,s3 _ _ l9,hr,?_,?_⟩⟩
   ·rw[af,af,aJ,dG,aJ];exact aB (m:=10000) om dk
   ·have hpr:p≠r:=aL l9 nr;have acz:=s2.trans s3;have s4:=acz.tN (o:=.lst (((s0.cache.entries.length:Int)::(s0.cache.entries.take j).flatMap λe=>dG e.asked++[(e.made:Int),e.used]).map V.int++(dG e.asked).map V.int)) hp;refine⟨_,Z,.inl ⟨Z,_,bQ.of ak⟩,_,Z,_,_,_,_,_,Z,s4 _ _ h1,T.jU,T.ud,Z,_,Z,_,_,_,_,_,Z,s4 _ _ h1,T.jU,T.kQ,Z,(by show 2<=aE;decide),λz hz=>⟨p,z,_,_,Z,Z,ups (aL ak hz) ak,ak,?_,?_⟩⟩
    ·rw[aQ,af,af,aJ,dG,aJ];show _+2<=aE;exact aB (m:=10000) om dk
    ·refine⟨_,Z,(s4.up hz).tN hp,?_⟩;show upd _ _ _ _=_;rw[ak,take_succ he,gL];simp
 ·rintro σ H2 ⟨v,rfl,s2,l9⟩;rw[af,hl,cB]at l9;exact⟨_,Z,dr hS k H2 p s2 hp l9⟩
theorem xj:fillsNumberSlot (.type "tuple") "mul"=pure ae:=
 PySem.fillsNumberSlot_seq (id:="tuple.__mul__") (r:=aa (.builtin "tuple.__rmul__")) i7.lookup dK DW.lookup dK
theorem Db:seqRepeat? (.type "tuple")=pure (aa (.builtin "tuple.__mul__")):=by
 unfold seqRepeat?;rw[O3 (T:="tuple") (name:="__mul__") (id:="tuple.__mul__") i7.lookup dK,O3 (T:="tuple") (name:="__rmul__") (id:="tuple.__rmul__") DW.lookup dK];rfl
theorem HR(a:Int)(t:qc)(l:ao)(items:Array ai)(n:Nat)(dd:Option ao)(sl:Array (Option ai)):
  SR (gS.«int.__rmul__» ⟨[.int a t,.ref l],[]⟩) (λ_ R s=>s.heap.get? l=aa {cls:=.type "tuple",dict:=dd,data:=.seq items n,slots:=sl}/\R (.ok (.ret JX)) s):=
 .of_wp λprog w A R s h=>by obtain⟨hp,g,d,tk,os⟩:=s;obtain⟨hl,h⟩:=h;wp_walk;exact⟨_,Z,h⟩
theorem Qo(t:qc)(l:ao)(items:Array ai)(n:Nat)(dd:Option ao)(sl:Array (Option ai)):
  SR (gS.«tuple.__mul__» ⟨[.ref l,.int 1 t],[]⟩) (λ_ R s=>s.heap.get? l=aa {cls:=.type "tuple",dict:=dd,data:=.seq items n,slots:=sl}/\R (.ok (.ret (.ref l))) s):=
 .of_wp λprog w A R s h=>by obtain⟨hp,g,d,tk,os⟩:=s;obtain⟨hl,h⟩:=h;wp_walk;exact⟨_,Z,h⟩
theorem T1(k:Int)(t:qc)(l:ao)(items:Array ai)(n:Nat)(dd:Option ao)(sl:Array (Option ai))(h0:items.isEmpty=ae)(h1:(k==1)=ae)(h2:(decide (k< -(2 ^ 63))||decide (k>=2 ^ 63))=ae)(h3:(decide (k<=0)||items.isEmpty)=ae)(h4:¬(items.size:Int)*k>(2 ^ 63 - 1) / 8)(h5:wA ((items.size:Int)*k)=ae)(h6:((be k.toNat items).foldl (· ++·) #[]).size<=aE):
  SR (gS.«tuple.__mul__» ⟨[.ref l,.int k t],[]⟩) (λ_ R s=>s.heap.get? l=aa {cls:=.type "tuple",dict:=dd,data:=.seq items n,slots:=sl}/\R (.ok (.ret (.ref s.heap.objs.size))) {s with heap:=s.heap.push {cls:=.type "tuple",data:=.seq ((be k.toNat items).foldl (· ++·) #[])}}):=
 .of_wp λprog w A R s h=>by
  obtain⟨hp,g,d,tk,os⟩:=s;obtain⟨hl,h⟩:=h;wp_walk;refine c_ (λz=>absurd z (by rw[h2];decide)) (λ_=>?_);wp_walk;refine c_ (λz=>absurd z (by rw[h3];decide)) (λ_=>?_);refine c_ (λz=>absurd z h4) (λ_=>?_);refine c_ (λz=>absurd z (by rw[h5];decide)) (λ_=>?_);show aU _ _ (newObj (.type "tuple") (.seq ((be k.toNat items).foldl (· ++·) #[]))>>=λv=>ret v) _ _ _;refine ag (cC (hd:=h6) ?_);exact au ⟨_,Z,h⟩
theorem Qp(k:Int)(t:qc)(l:ao)(items:Array ai)(n:Nat)(dd:Option ao)(sl:Array (Option ai))(h0:items.isEmpty=ae)(h1:(k==1)=ae)(h2:(decide (k< -(2 ^ 63))||decide (k>=2 ^ 63))=ae)(h3:(decide (k<=0)||items.isEmpty)=ac):
  SR (gS.«tuple.__mul__» ⟨[.ref l,.int k t],[]⟩) (λ_ R s=>s.heap.get? l=aa {cls:=.type "tuple",dict:=dd,data:=.seq items n,slots:=sl}/\R (.ok (.ret (.ref s.heap.objs.size))) {s with heap:=s.heap.push {cls:=.type "tuple",data:=.seq #[]}}):=
 .of_wp λprog w A R s h=>by
  obtain⟨hp,g,d,tk,os⟩:=s;obtain⟨hl,h⟩:=h;wp_walk;refine c_ (λz=>absurd z (by rw[h2];decide)) (λ_=>?_);wp_walk;refine c_ (λ_=>?_) (λz=>absurd h3 z);wp_walk;exact⟨_,Z,h⟩
inductive Vq(K:aj)(x y:V)(H:Hp)(Q:VK):Prop
 |mk(a:ao)(k:Nat)(xs:V2)(_:x= .ref a)(_:y= .int (k:Int))(_:tE K H a xs)(_:xs≠[])(_:k<=1000)(_:xs.length<=1000)(_:(k=1->Q (.ref a) H))(_:(k≠1->∀p,H p=ab->Q (.ref p) (upd H p (.tup (be k xs).flatten))))
variable{X:Cx}
theorem Ag:wx X (uV .Mult) (Vq X.K):=by
 intro pins s σ H x y v u Q I rx ry h;obtain⟨a,k,xs,rfl,rfl,ha,hx,hk,hz,q1,q2⟩:=h
 cases rx;obtain⟨t,rfl⟩:=ry;obtain⟨its,r,⟨⟨cls,dd,data,sl⟩,ho,hc,n,hd⟩,_⟩:=I.tuple ha;simp only at hc hd;subst hc hd;have iQ:its≠[]:=λz=>hx (r.TU.mp z);have c6:=r.length;refine wpAny_binaryOp_repeat_ref (T:="tuple") (U:="int") dk ⟨_,ho,Z⟩ (λs'=>V0 s' _ t) xj PySem.F.fills_int_mul GK Db PySem.F.slot_int_index.lookup
  (jB GK (V0 s _ t) PySem.F.entry_int_rmul (PySem.F.args_int_rmul_2 _ _) (HR (k:Int) t a its.toArray n dd sl) ⟨ho,Z,⟨_,ho,Z⟩,?_⟩)
 by_cases h1:k=1
 ·subst h1;exact jB i7 ⟨_,ho,Z⟩ qk (pM _ _) (Qo t a its.toArray n dd sl) ⟨ho,⟨.ref a,H,I,Z,q1 Z⟩⟩
 ·have hz1:its.length<=1000:=by rw[<-c6];exact hz
  have xr:s? (λx1 x2=>x1++x2) #[] (be k its.toArray)=(be k its).flatten.toArray:=by
   have:=foldl_rep its k [];rw[ly]at this;exact this
  have hsz:k*its.length<=1000*1000:=Nat.mul_le_mul hk hz1;have hlin:(1000*1000:Nat)<=aE:=dk;by_cases h0:k=0
  ·subst h0;refine jB i7 ⟨_,ho,Z⟩ qk (pM _ _) (Qp ((0:Nat):Int) t a its.toArray n dd sl ?_ dk dk (by simp)) ⟨ho,?_⟩
   ·cases its with
    |nil=>exact absurd Z iQ
    |cons b l=>rfl
   ·refine⟨.ref s.heap.objs.size,_,I.laid (t':=s.toks) (o:=.tup (be 0 xs).flatten) (λb ob q=>az _ q) (aS _) ?_,Z,q2 h1 _ (I.f7.fresh (aS _))⟩;exact⟨by simp,[],.nil,IsTup.new _ _⟩
  ·refine jB i7 ⟨_,ho,Z⟩ qk (pM _ _) (T1 (k:Int) t a its.toArray n dd sl ?_ ?_ ?_ ?_ ?_ ?_ ?_) ⟨ho,?_⟩
   ·cases its with
    |nil=>exact absurd Z iQ
    |cons b l=>rfl
   ·exact beq_eq_false_iff_ne.mpr om
   ·rw[ay om,ay om];rfl
   ·rw[ay om]
    cases its with
    |nil=>exact absurd Z iQ
    |cons b l=>rfl
   ·rw[bm,<-Vc,Nat.mul_comm];lia
   ·unfold wA;rw[bm,<-Vc,Nat.mul_comm];exact ay om
   ·rw[aG,xr,bm,len_rep];lia
   ·rw[aG,xr];refine⟨.ref s.heap.objs.size,_,I.laid (t':=s.toks) (o:=.tup (be k xs).flatten) (λb ob q=>az _ q) (aS _) ?_,Z,q2 h1 _ (I.f7.fresh (aS _))⟩;exact⟨by rw[len_rep,c6];lia,_,r.rep k,IsTup.new _ _⟩
variable{prog:ba}{w:World}{A:cb}{E:ai->aq->Prop}{s:aq}
abbrev RU(h h':bO)(P:ao->Prop):Prop:=∀c o,P c->h.get? c=aa o->h'.get? c=aa o
theorem Hn(uR:jo s.heap it a i)(ht:x8 s.heap a its)(hx:its[i]? =aa x)
 (k:∀h',jo h' it a (i+1)->eG it s.heap h'->Q x {s with heap:=h'}):aU (bg prog w) A (bZ (.ref it)) Q E s:=by
 obtain⟨ob,e1,e2,e3⟩:=id uR;obtain⟨ot,f1,_,m,f3⟩:=ht;unfold bZ;refine ag (dy (name:=al "__next__") uR.typeIs p? (cE p? uR.typeIs SJ ?_ (U0 _)));show aU _ _ (Ov (.ref it) 0>>=_) _ _ s;refine ag (hU e1 e3 (x:=.ref a) Z ?_);refine c_ (λz=>absurd z bf) (λ_=>?_);show aU _ _ (Ov (.ref it) 1>>=_) _ _ s;refine ag (hU e1 e3 (x:=.int i 0) Z ?_);show aU _ _ (uU (.ref a)>>=_) _ _ s;refine ag (eF f1 f3 ?_);simp only[aG,hx];refine ag (gH e1 e3 (by simp) (au ⟨x,Z,au (k _ ?_ (cQ ..))⟩));refine⟨_,cW _ e1 (hZ (dL e3 _)),(mF ..).trans e2,?_⟩;rw[dL e3];simp[fS]
theorem Px(hh:A.handled=ab)(uR:jo s.heap it a i)(ht:x8 s.heap a its)(hx:its[i]? =ab)
 (k:∀h' e,AB it s.heap h'->(∃o,h'.get? e=aa o/\o.cls= .type "StopIteration")->E (.ref e) {s with heap:=h'}):aU (bg prog w) A (bZ (.ref it)) Q E s:=by
 obtain⟨ob,e1,e2,e3⟩:=id uR;obtain⟨ot,f1,_,m,f3⟩:=ht;unfold bZ;refine ag (dy (name:=al "__next__") uR.typeIs p? (cE p? uR.typeIs SJ ?_ (U0 _)));show aU _ _ (Ov (.ref it) 0>>=_) _ _ s;refine ag (hU e1 e3 (x:=.ref a) Z ?_);refine c_ (λz=>absurd z bf) (λ_=>?_);show aU _ _ (Ov (.ref it) 1>>=_) _ _ s;refine ag (hU e1 e3 (x:=.int i 0) Z ?_);show aU _ _ (uU (.ref a)>>=_) _ _ s;refine ag (eF f1 f3 ?_);simp only[aG,hx];refine ag (kR (ag (gH e1 e3 (by simp) ?_)));show aU _ _ (OX (.type "StopIteration") []>>=_) _ _ _;refine ag ?_;simp only[OX,JS];refine ag (cC ?_ (by size_fits));refine ag (m:=jm _ _) (sT (a:=eO) (by first|rfl|(simp only[jm];rfl)) ?_);refine cC ?_ (by size_fits);simp only[SF];refine ag (zV ?_)
 first|rw[show A.in1.handled=ab from hh]|rw[hh]
 refine ag (au (GB ?_));exact k _ _ (((cQ ..).extBut.push _).push _) ⟨_,aT _ Z,Z⟩
theorem Pd{z TI TO i1 i2:ao}{x y a b:ai}{Q:ai->aq->Prop}(d1:TI≠z)(d2:TO≠z)(d3:i1≠z)(d4:i2≠z)(d5:TO≠i1)(d6:TO≠i2)
 (hz:tq s.heap z TI TO .none)(Gh:jp s.heap TI (.ref i1) (.ref i2))(G_:jp s.heap TO a b){P1 P2:bO->Prop}
 (n1:∀(h:bO) (Q':ai->aq->Prop) (E':ai->aq->Prop),RU s.heap h (· ≠z)->(∀h',P1 h'->eG i1 h h'->Q' x {s with heap:=h'})->aU (bg prog w) A (bZ (.ref i1)) Q' E' {s with heap:=h})
 (n2:∀(h:bO) (Q':ai->aq->Prop) (E':ai->aq->Prop),RU s.heap h (λc=>c≠z/\c≠TO/\c≠i1)->(∀h',P2 h'->eG i2 h h'->Q' y {s with heap:=h'})->aU (bg prog w) A (bZ (.ref i2)) Q' E' {s with heap:=h})
 (p1:∀h h',P1 h->(∀o,h.get? i1=aa o->h'.get? i1=aa o)->P1 h')(p2:∀h h',P2 h->(∀o,h.get? i2=aa o->h'.get? i2=aa o)->P2 h')(d7:i1≠i2)
 (k:∀h',tq h' z TI TO (fS s.heap.objs.size)->jp h' TO x y->P1 h'->P2 h'->jp h' s.heap.objs.size x y->RU s.heap h' (λc=>c≠z/\c≠TO/\c≠i1/\c≠i2)->Q (.ref s.heap.objs.size) {s with heap:=h'}):
  aU (bg prog w) A (gS.«zip.__next__» ⟨[.ref z],[]⟩) (λfin s'=>∃v,fin= .done (.ret v)/\Q v s') E s:=by
 show aU _ _ (Ov (.ref z) 2>>=_) _ _ _;refine ag (hU hz Z (x:=.bool ae) Z ?_);show aU _ _ (Ov (.ref z) 3>>=_) _ _ _;refine ag (hU hz Z (x:=.ref TI) Z ?_);refine ag (eF Gh Z ?_);show aU _ _ (gg (.ref z)>>=_) _ _ _;refine ag ?_;unfold gg;refine ag (hU hz Z (x:=.none) Z (au ?_));simp only[if_true];refine ag (kR ?_);refine ag (hU hz Z (x:=.ref TO) Z ?_);refine ag (jz hz (by simp) λg1 z1 b1=>?_)
 replace z1:tq g1 z TI TO .ellipsis:=z1
 refine ag ?_;simp only[List.zipIdx_cons,List.zipIdx_nil,jr,iY];refine ag (ag (zU ?_));show aU _ _ (bZ (.ref i1)>>=_) _ _ _;refine ag (n1 g1 _ _ (λc o q e=>b1.extBut c o q e) λg2 q1 b2=>au ?_);have t2:jp g2 TO a b:=b2.extBut _ _ d5 (b1.extBut _ _ d2 G_);refine ag (eF t2 Z ?_);refine ag (xT t2 λg3 t3 b3=>?_)
 replace t3:jp g3 TO x b:=t3
 refine ag (mQ (au ?_));refine ag (ag (zU ?_));show aU _ _ (bZ (.ref i2)>>=_) _ _ _;refine ag (n2 g3 _ _ (λc o q e=>b3.extBut c o q.2.1 (b2.extBut c o q.2.2 (b1.extBut c o q.1 e))) λg4 q2 b4=>au ?_);have t4:jp g4 TO x b:=b4.extBut _ _ d6 t3;refine ag (eF t4 Z ?_);refine ag (xT t4 λg5 t5 b5=>?_)
 replace t5:jp g5 TO x y:=t5
 refine ag (mQ (au (au ?_)));refine ag (eF t5 Z ?_);refine ag (wpAny_newTuple ?_);have hsz:g5.objs.size=s.heap.objs.size:=by rw[b5.1,b4.1,b3.1,b2.1,b1.1]
 have z5:tq g5 z TI TO .ellipsis:=b5.extBut _ _ (a8 d2) (b4.extBut _ _ (a8 d4) (b3.extBut _ _ (a8 d2) (b2.extBut _ _ (a8 d3) z1)));have r1:P1 g5:=p1 g2 g5 q1 λo e=>b5.extBut _ _ (a8 d5) (b4.extBut _ _ d7 (b3.extBut _ _ (a8 d5) e));have r2:P2 g5:=p2 g4 g5 q2 λo e=>b5.extBut _ _ (a8 d6) e;have zlt:z<g5.objs.size:=aW z5;show aU _ _ (o8 (.ref z) (.ref g5.objs.size)>>=_) _ _ _;refine ag ?_;unfold o8;have z6:tq (g5.push {cls:=.type "tuple",data:=.seq #[x,y]}) z TI TO .ellipsis:=az _ z5;refine ag (jz z6 (by simp) λg7 z7 b7=>?_)
 replace z7:tq g7 z TI TO (fS g5.objs.size):=z7
 refine jz z7 (by simp) λg8 z8 b8=>?_
 replace z8:tq g8 z TI TO (fS g5.objs.size):=z8
 have up:RU g5 g8 (· ≠z):=λc o q e=>b8.extBut _ _ q (b7.extBut _ _ q (az _ e));have t8:jp g8 g5.objs.size x y:=b8.extBut _ _ (iK zlt) (b7.extBut _ _ (iK zlt) (aT _ Z));rw[hsz]at z8 t8;refine au ⟨_,Z,?_⟩;show Q (.ref g5.objs.size) _;rw[hsz];exact k g8 z8 (up _ _ d2 t5) (p1 _ _ r1 λo e=>up _ o d3 e) (p2 _ _ r2 λo e=>up _ o d4 e) t8 λc o q e=>up c o q.1 (b5.extBut _ _ q.2.1 (b4.extBut _ _ q.2.2.2 (b3.extBut _ _ q.2.1 (b2.extBut _ _ q.2.2.1 (b1.extBut _ _ q.1 e)))))
theorem Pe{z TI TO i1 i2:ao}(d1:TI≠z)(d2:TO≠z)(d3:i1≠z)(d4:i2≠z)(d5:TO≠i1)(d6:TO≠i2)
 (hz:tq s.heap z TI TO .none)(Gh:jp s.heap TI (.ref i1) (.ref i2))(G_:jp s.heap TO a b)
  (n:(∀(h:bO) (Q':ai->aq->Prop) (E':ai->aq->Prop),RU s.heap h (· ≠z)->(∀h' e,AB i1 h h'->(∃o,h'.get? e=aa o/\o.cls= .type "StopIteration")->E' (.ref e) {s with heap:=h'})->aU (bg prog w) A (bZ (.ref i1)) Q' E' {s with heap:=h})\/
   ∃x,(∀(h:bO)(Q':ai->aq->Prop)(E':ai->aq->Prop),RU s.heap h (· ≠z)->(∀h',eG i1 h h'->Q' x {s with heap:=h'})->aU (bg prog w) A (bZ (.ref i1)) Q' E' {s with heap:=h})/\
    ∀(h:bO)(Q':ai->aq->Prop)(E':ai->aq->Prop),RU s.heap h (λc=>c≠z/\c≠TO/\c≠i1)->(∀h' e,AB i2 h h'->(∃o,h'.get? e=aa o/\o.cls= .type "StopIteration")->E' (.ref e) {s with heap:=h'})->aU (bg prog w) A (bZ (.ref i2)) Q' E' {s with heap:=h})
  (k:∀h' e,RU s.heap h' (λc=>c≠z/\c≠TO/\c≠i1/\c≠i2)->(∃o,h'.get? e=aa o/\o.cls= .type "StopIteration")->E (.ref e) {s with heap:=h'}):
  aU (bg prog w) A (gS.«zip.__next__» ⟨[.ref z],[]⟩) Q E s:=by
 show aU _ _ (Ov (.ref z) 2>>=_) _ _ _;refine ag (hU hz Z (x:=.bool ae) Z ?_);show aU _ _ (Ov (.ref z) 3>>=_) _ _ _;refine ag (hU hz Z (x:=.ref TI) Z ?_);refine ag (eF Gh Z ?_);show aU _ _ (gg (.ref z)>>=_) _ _ _;refine ag ?_;unfold gg;refine ag (hU hz Z (x:=.none) Z (au ?_));simp only[if_true];refine ag (kR ?_);refine ag (hU hz Z (x:=.ref TO) Z ?_);refine ag (jz hz (by simp) λg1 z1 b1=>?_)
 replace z1:tq g1 z TI TO .ellipsis:=z1
 refine ag ?_;simp only[List.zipIdx_cons,List.zipIdx_nil,jr,iY];refine ag (ag (zU ?_));show aU _ _ (bZ (.ref i1)>>=_) _ _ _;rcases n with n1|⟨x,n1,n2⟩
 ·refine ag (n1 g1 _ _ (λc o q e=>b1.extBut c o q e) λg2 e b2 he=>?_);obtain⟨oe,Xb,VN⟩:=he;have z2:tq g2 z TI TO .ellipsis:=b2 _ _ (a8 d3) z1;have adV:e≠z:=λq=>by
   subst q;rw[z2]at Xb
   cases Xb;simp at VN
  exact jz z2 (by simp) λg3 _ b3=>k g3 e (λc o q u=>b3.extBut _ _ q.1 (b2 _ _ q.2.2.1 (b1.extBut _ _ q.1 u))) ⟨oe,b3.extBut _ _ adV Xb,VN⟩
 ·refine ag (n1 g1 _ _ (λc o q e=>b1.extBut c o q e) λg2 b2=>au ?_);have t2:jp g2 TO a b:=b2.extBut _ _ d5 (b1.extBut _ _ d2 G_);refine ag (eF t2 Z ?_);refine ag (xT t2 λg3 t3 b3=>?_);refine ag (mQ (au ?_));refine ag (ag (zU ?_));show aU _ _ (bZ (.ref i2)>>=_) _ _ _;refine ag (n2 g3 _ _ (λc o q e=>b3.extBut c o q.2.1 (b2.extBut c o q.2.2 (b1.extBut c o q.1 e))) λg4 e b4 he=>?_);obtain⟨oe,Xb,VN⟩:=he;have z4:tq g4 z TI TO .ellipsis:=b4 _ _ (a8 d4) (b3.extBut _ _ (a8 d2) (b2.extBut _ _ (a8 d3) z1));have adV:e≠z:=λq=>by
   subst q;rw[z4]at Xb
   cases Xb;simp at VN
  exact jz z4 (by simp) λg5 _ b5=>k g5 e (λc o q u=>b5.extBut _ _ q.1 (b4 _ _ q.2.2.2 (b3.extBut _ _ q.2.1 (b2.extBut _ _ q.2.2.1 (b1.extBut _ _ q.1 u))))) ⟨oe,b5.extBut _ _ adV Xb,VN⟩
abbrev YQ(h:bO)(l1:ao):bO:=h.push {cls:=.type "tuple_iterator",data:=.fields #[.ref l1,.int 0 0]}
abbrev abd(h:bO)(l1 l2:ao):bO:=(YQ h l1).push {cls:=.type "list_iterator",data:=.fields #[.ref l2,.int 0 0]}
abbrev abc(h:bO)(l1 l2:ao):bO:=(abd h l1 l2).push {cls:=.type "tuple",data:=.seq #[.ref h.objs.size,.ref (YQ h l1).objs.size]}
abbrev abb(h:bO)(l1 l2:ao):bO:=(abc h l1 l2).push {cls:=.type "tuple",data:=.seq #[.none,.none]}
abbrev XY(h:bO)(l1 l2:ao):bO:=(abb h l1 l2).push {cls:=.type "zip",data:=.fields #[.none,.bool ae,.bool ae,.ref (abd h l1 l2).objs.size,.ref (abc h l1 l2).objs.size]}
theorem Pf(l1 l2:ao)(xs ys:Array ai):SR (gS.«zip.__new__» ⟨[.type "zip",.ref l1,.ref l2],[]⟩) (λ_ R s=>x8 s.heap l1 xs/\s.heap.IsList l2 ys/\R (.ok (.ret (.ref (abb s.heap l1 l2).objs.size))) {s with heap:=XY s.heap l1 l2}):=
 .of_wp λprog w A R s h=>by
  obtain⟨hp,g,d,tk,os⟩:=s;obtain⟨nn,qL,h⟩:=h;have DB:=PySem.sub_zip;have hA:x8 (V7 ⟨hp,g,d,tk,os⟩) l1 xs:=nn;have hB:Heap.IsList (V7 ⟨YQ hp l1,g,d,tk,os⟩) l2 ys:=Heap.IsList.push qL _;wp_walk using iter_tuple hA,sS hB;exact⟨_,Z,h⟩
theorem Of(nn:x8 s.heap l1 xs)(qL:s.heap.IsList l2 ys)
  (k:∀h',tq h' (s.heap.objs.size+4) (s.heap.objs.size+2) (s.heap.objs.size+3) .none->jp h' (s.heap.objs.size+2) (.ref s.heap.objs.size) (.ref (s.heap.objs.size+1))->jp h' (s.heap.objs.size+3) .none .none->
   jo h' s.heap.objs.size l1 0->h'.IsListIter (s.heap.objs.size+1) l2 0->RU s.heap h' (λ_=>True)->Q (.ref (s.heap.objs.size+4)) {s with heap:=h'}):
  aU (bg prog w) A (call (.type "zip") [.ref l1,.ref l2]) Q E s:=by
 refine callType_new PySem.F.called_zip dk (PySem.F.typeCall_zip_2 _ _) (PySem.F.newCall_zip_2 _ _) (λob=>PySem.F.args_object_init_3 ob _ _) PySem.F.entry_zip_new (Pf l1 l2 xs ys) ⟨nn,qL,?_⟩;have e1:(YQ s.heap l1).objs.size=s.heap.objs.size+1:=cH ..;have e2:(abd s.heap l1 l2).objs.size=s.heap.objs.size+2:=by rw[cH,e1]
 have e3:(abc s.heap l1 l2).objs.size=s.heap.objs.size+3:=by rw[cH,e2]
 have e4:(abb s.heap l1 l2).objs.size=s.heap.objs.size+4:=by rw[cH,e3]
 have up:∀{h:bO}{c:ao}{o ob:gt},h.get? c=aa o->(h.push ob).get? c=aa o:=λe=>az _ e;have f5:(XY s.heap l1 l2).get? (abb s.heap l1 l2).objs.size=aa _:=aT _ Z;have f4:(XY s.heap l1 l2).get? (abc s.heap l1 l2).objs.size=aa _:=up (aT _ Z);have f3:(XY s.heap l1 l2).get? (abd s.heap l1 l2).objs.size=aa _:=up (up (aT _ Z));have f2:(XY s.heap l1 l2).get? (YQ s.heap l1).objs.size=aa _:=up (up (up (aT _ Z)));have f1:(XY s.heap l1 l2).get? s.heap.objs.size=aa _:=up (up (up (up (aT _ Z))));show _/\_;rw[e2,e3,e4]at f5;rw[e1,e2]at f3;rw[e3]at f4;rw[e1]at f2;rw[e4];exact⟨⟨_,f5,Z⟩,k _ f5 f3 f4 ⟨_,f1,Z,Z⟩ ⟨_,f2,Z,Z⟩ λc o _ e=>up (up (up (up (up e))))⟩
theorem NJ{z TI TO i1 i2 l1 l2:ao}(D:ZipApart z TI TO i1 i2 l1 l2)(hz:tq s.heap z TI TO .none)(Gh:jp s.heap TI (.ref i1) (.ref i2))(G_:jp s.heap TO a b)
 (h1:jo s.heap i1 l1 i)(h2:s.heap.IsListIter i2 l2 i)(nn:x8 s.heap l1 xs)(qL:s.heap.IsList l2 ys)(hx:xs[i]? =aa x)(hy:ys[i]? =aa y)
 (k:∀h',tq h' z TI TO (fS s.heap.objs.size)->jp h' TO x y->jo h' i1 l1 (i+1)->h'.IsListIter i2 l2 (i+1)->jp h' s.heap.objs.size x y->RU s.heap h' (λc=>c≠z/\c≠TO/\c≠i1/\c≠i2)->Q (aa (.ref s.heap.objs.size)) {s with heap:=h'}):
  aU (bg prog w) A (j4 (.ref z)) Q E s:=by
 have hT:s.TypeIs (.ref z) "zip":=⟨_,hz,Z⟩;have YV:∀{h h':bO}{c t:ao}{j:Nat},jo h c t j->(∀o,h.get? c=aa o->h'.get? c=aa o)->jo h' c t j:=λ⟨o,e,r⟩ f=>⟨o,f o e,r⟩;have tt:∀{h h':bO}{c:ao}{v:Array ai},x8 h c v->(∀o,h.get? c=aa o->h'.get? c=aa o)->x8 h' c v:=λ⟨o,e,r⟩ f=>⟨o,f o e,r⟩;unfold j4;refine ag (jV (dy (name:=al "__next__") hT mh (cE mh hT E?
  (Pd D.TIz D.TOz D.i1z D.i2z D.TOi1 D.TOi2 hz Gh G_ (P1:=λh=>jo h i1 l1 (i+1)) (P2:=λh=>h.IsListIter i2 l2 (i+1))
   (λh Q' E' hw q=>Hn (s:={s with heap:=h}) (YV h1 λo e=>hw _ o D.i1z e) (tt nn λo e=>hw _ o D.l1z e) hx q)
   (λh Q' E' hw q=>wpAny_nextOf_list_item (s:={s with heap:=h}) (h2.at λo e=>hw _ o ⟨D.i2z,D.TOi2.symm,D.i12.symm⟩ e) (qL.at λo e=>hw _ o ⟨D.l2z,D.l2TO,D.l2i1⟩ e) hy q)
   (λ_ _ q f=>YV q f) (λ_ _ q f=>q.at f) D.i12 λh' a1 a2 a3 a4 a5 a6=>au (k h' a1 a2 a3 a4 a5 a6)) (DY _))))
theorem Ry{z TI TO i1 i2 l1 l2:ao}(hh:A.handled=ab)(D:ZipApart z TI TO i1 i2 l1 l2)(hz:tq s.heap z TI TO .none)(Gh:jp s.heap TI (.ref i1) (.ref i2))(G_:jp s.heap TO a b)
 (h1:jo s.heap i1 l1 i)(h2:s.heap.IsListIter i2 l2 i)(nn:x8 s.heap l1 xs)(qL:s.heap.IsList l2 ys)(Q9:xs[i]? =ab\/ys[i]? =ab)
 (k:∀h',RU s.heap h' (λc=>c≠z/\c≠TO/\c≠i1/\c≠i2)->Q ab {s with heap:=h'}):aU (bg prog w) A (j4 (.ref z)) Q E s:=by
 have hT:s.TypeIs (.ref z) "zip":=⟨_,hz,Z⟩;have YV:∀{h h':bO}{c t:ao}{j:Nat},jo h c t j->(∀o,h.get? c=aa o->h'.get? c=aa o)->jo h' c t j:=λ⟨o,e,r⟩ f=>⟨o,f o e,r⟩;have tt:∀{h h':bO}{c:ao}{v:Array ai},x8 h c v->(∀o,h.get? c=aa o->h'.get? c=aa o)->x8 h' c v:=λ⟨o,e,r⟩ f=>⟨o,f o e,r⟩;unfold j4;refine ag (jV (dy (name:=al "__next__") hT mh (cE mh hT E?
  (Pe D.TIz D.TOz D.i1z D.i2z D.TOi1 D.TOi2 hz Gh G_ ?_ λh' e hk he=>?_) (DY _))))
 ·cases hx:xs[i]? with
  |none=>exact .inl λh Q' E' hw q=>Px (s:={s with heap:=h}) (by first|exact hh|simpa using hh) (YV h1 λo e=>hw _ o D.i1z e) (tt nn λo e=>hw _ o D.l1z e) hx q
  |some x=>
   have hy:ys[i]? =ab:=by
    rcases Q9 with h|h
    ·rw[hx]at h;cases h
    ·exact h
   exact .inr ⟨x,λh Q' E' hw q=>Hn (s:={s with heap:=h}) (YV h1 λo e=>hw _ o D.i1z e) (tt nn λo e=>hw _ o D.l1z e) hx λh' _ b=>q h' b,
    λh Q' E' hw q=>wpAny_nextOf_list_end (s:={s with heap:=h}) (by first|exact hh|simpa using hh) (h2.at λo e=>hw _ o ⟨D.i2z,D.TOi2.symm,D.i12.symm⟩ e) (qL.at λo e=>hw _ o ⟨D.l2z,D.l2TO,D.l2i1⟩ e) hy q⟩
 ·obtain⟨o,ho,hc⟩:=he;refine ag (h9 (T:="StopIteration") (b:=ac) ⟨o,ho,hc⟩ xX ?_);exact au (k _ hk)
def aa8(K:aj)(a b:ao):It:=
 ⟨λi H=>∃(xs ys:V2)(x y:V),tE K H a xs/\bQ K H b ys/\xs[i]? =aa x/\ys[i]? =aa y,
  λi H v H'=>∃T x y,v= .ref T/\H T=ab/\H'=upd H T (.tup [x,y])/\(∀xs,tE K H a xs->xs[i]? =aa x)/\∀ys,bQ K H b ys->ys[i]? =aa y,
  λi H=>∃xs ys:V2,tE K H a xs/\bQ K H b ys/\(xs.length<=i\/ys.length<=i)⟩
theorem Nh{P:ba}{w:World}{K:aj}{XD:List Expr}{kk:Nat}{Nl:ku}{a b z TI TO i1 i2:ao}(D:ZipApart z TI TO i1 i2 a b):
  Turn P w K (.Tuple XD kk Nl) (aa8 K a b) [z,TI,TO,i1,i2] z (λi h=>tq h z TI TO .none/\jp h TI (.ref i1) (.ref i2)/\(∃x y,jp h TO x y)/\jo h i1 a i/\h.IsListIter i2 b i)where
 mem:=by simp
 obj:=λi h st c hc=>by
  obtain⟨hz,Gh,⟨x,y,G_⟩,⟨o1,e1,_,d1⟩,⟨o2,e2,_,d2⟩⟩:=st;have e':c=z\/c=TI\/c=TO\/c=i1\/c=i2:=by simpa using hc
  rcases e' with q|q|q|q|q
  ·rw[q];exact⟨_,hz,λv q=>nomatch q⟩
  ·rw[q];exact⟨_,Gh,λv q=>nomatch q⟩
  ·rw[q];exact⟨_,G_,λv q=>nomatch q⟩
  ·rw[q];exact⟨o1,e1,λv q=>by rw[d1]at q;cases q⟩
  ·rw[q];exact⟨o2,e2,λv q=>by rw[d2]at q;cases q⟩
 keep:=λi h h' st k=>by
  obtain⟨hz,Gh,⟨x,y,G_⟩,⟨o1,e1,r1⟩,h2⟩:=st;exact⟨k z (by simp) _ hz,k TI (by simp) _ Gh,⟨x,y,k TO (by simp) _ G_⟩,⟨o1,k i1 (by simp) o1 e1,r1⟩,h2.at λo q=>k i2 (by simp) o q⟩
 item:=by
  intro X hP hw hK hc i pins s σ H E I hf st hg;subst hP hw hK;obtain⟨hz,Gh,⟨x0,y0,G_⟩,h1,h2⟩:=st;obtain⟨xs,ys,x,y,Yj,Yi,hx,hy⟩:=hg;obtain⟨its,rv,p,_⟩:=I.tuple Yj;obtain⟨zQ,abr,p2,_⟩:=I.list Yi;obtain⟨u,hu,ru⟩:=rv.get hx;obtain⟨u2,ZN,acD⟩:=abr.get hy;have hzl:z<s.heap.objs.size:=aW hz;refine NJ D hz Gh G_ h1 h2 p p2.isList (x:=u) (y:=u2) (by simpa using hu) (by simpa using ZN) λh' z' TO' VR VQ hT hk=>?_;refine⟨_,Z,wpAny_letOwnedTupleGo_zip (s:={s with heap:=h'}) z' λabX z'' sb=>?_⟩;have hT2:abX.get? s.heap.objs.size=aa {cls:=.type "tuple",data:=.seq #[u,u2]}:=(sb.2 _ (iK hzl)).trans hT;have new:ji X.prog X.w (upd H s.heap.objs.size (.tup [x,y])) abX s.heap.objs.size (.tup [x,y]):=
   ⟨by show 2<=aE;decide,[u,u2],.cons ru (.cons acD .nil),⟨_,hT2,Z,_,Z⟩⟩
  have I1:Inv X pins σ (upd H s.heap.objs.size (.tup [x,y])) {s with heap:=abX}:=
   I.Ng (t':=s.toks) (ch:=[z,TI,TO,i1,i2]) (λc o hb q=>(sb.2 c (λq'=>hb (by simp[q']))).trans (hk c o ⟨(λq'=>hb (by simp[q'])),(λq'=>hb (by simp[q'])),(λq'=>hb (by simp[q'])),(λq'=>hb (by simp[q']))⟩ q)) hf (aS _) new
  refine⟨.ref s.heap.objs.size,_,I1,Z,⟨_,x,y,Z,I.f7.fresh (aS _),Z,λl hl=>by rw[I.Nk hl Yj];exact hx,λl hl=>by rw[I.Iz hl Yi];exact hy⟩,⟨z'',?_,⟨u,u2,?_⟩,?_,?_⟩,λc abO=>?_⟩
  ·exact(sb.2 _ D.TIz).trans (hk _ _ ⟨D.TIz,D.TITO,D.TIi1,D.TIi2⟩ Gh)
  ·exact(sb.2 _ D.TOz).trans TO'
  ·obtain⟨o1,e1,r1⟩:=VR;exact⟨o1,(sb.2 _ D.i1z).trans e1,r1⟩
  ·exact VQ.at λo q=>(sb.2 _ D.i2z).trans q
  ·have gO:c<s.heap.objs.size:=by
    have e':c=z\/c=TI\/c=TO\/c=i1\/c=i2:=by simpa using abO
    rcases e' with q|q|q|q|q
    ·rw[q];exact hzl
    ·rw[q];exact aW Gh
    ·rw[q];exact aW G_
    ·rw[q];obtain⟨_,e1,_⟩:=h1;exact aW e1
    ·rw[q];obtain⟨_,e2,_⟩:=h2;exact aW e2
   rw[aZ (bL gO)];exact(hf c abO).1
 done:=by
  intro X hP hw hK hc i pins s σ H E I hf st hg;subst hP hw hK;obtain⟨hz,Gh,⟨x0,y0,G_⟩,h1,h2⟩:=st;obtain⟨xs,ys,Yj,Yi,Q9⟩:=hg;obtain⟨its,rv,p,_⟩:=I.tuple Yj;obtain⟨zQ,abr,p2,_⟩:=I.list Yi;have l1:=rv.length;have l2:=abr.length;have he:its.toArray[i]? =ab\/zQ.toArray[i]? =ab:=by
   rcases Q9 with q|q
   ·exact .inl (by simp;lia)
   ·exact .inr (by simp;lia)
  exact Ry (I.ok.hd hc) D hz Gh G_ h1 h2 p p2.isList he λh' hk=>⟨Z,I.Te (t':=s.toks) (ch:=[z,TI,TO,i1,i2]) (λc o hb q=>
   hk c o ⟨(λq'=>hb (by simp[q'])),(λq'=>hb (by simp[q'])),(λq'=>hb (by simp[q'])),(λq'=>hb (by simp[q']))⟩ q) hf⟩
 self:=λA i s Q E st h=>wpAny_pyIter_zip st.1 h
inductive afs(K:aj)(R:It->Hp->Prop)(vs:V2)(H1:Hp):Prop
 |mk(a b xs ys:_)(_:vs=[.ref a,.ref b])(_:tE K H1 a xs)(_:bQ K H1 b ys)(_:R (aa8 K a b) H1)
def ZD(K:aj)(ta:TA):TI:=λσ H R=>ta σ H (afs K R)
theorem H0{X:Cx}(hg:Gl X "zip")(hm:X.mg "zip"=ab)(ha:PA X [e,e2] ta)
 (hs:bX [e,e2] X.env=(ae,eval e X.env)::bX [e2] X.env:=by rfl)(qg:(jC pos (bX [e2] X.env)).any (·.1)=ae:=by rfl):
  PI X (.Tuple XD kk Nl) (.Call (.Name "zip" p) [e,e2] [] pos) (ZD X.K ta):=by
 intro pins s σ H R I h;refine Call_ (nk I hg hm Oh (dz (ga (ha pos pins s σ H _ I h) λus s1 ⟨vs,H1,I1,r1,q1⟩=>?_) hs qg));obtain⟨a,b,xs,ys,ex,Yj,Yi,q⟩:=q1;subst ex
 cases r1 with
 |cons r rr=>
  cases rr with
  |cons r' rr=>
   cases rr
   cases r
   cases r';obtain⟨its,rv,p1,_⟩:=I1.tuple Yj;obtain⟨zQ,abr,p2,_⟩:=I1.list Yi;have la:a<s1.heap.objs.size:=by obtain⟨o,e,_⟩:=p1;exact aW e
   have lb:b<s1.heap.objs.size:=p2.lt;refine Of p1 p2.isList λh' hz Gh G_ h1 h2 hk=>wpAny_pyIter_zip hz ?_;have I2:Inv X pins σ H1 {s1 with heap:=h'}:=I1.kept (t':=s1.toks) λc o e=>hk c o trivial e;refine⟨s1.heap.objs.size+4,[s1.heap.objs.size+4,s1.heap.objs.size+2,s1.heap.objs.size+3,s1.heap.objs.size,s1.heap.objs.size+1],_,_,H1,Z,I2,Nh (PySem.W.ktu_apart s1.heap.objs.size a b la lb),⟨hz,Gh,⟨_,_,G_⟩,h1,h2⟩,λc abO=>?_,q⟩;have e':c=s1.heap.objs.size+4\/c=s1.heap.objs.size+2\/c=s1.heap.objs.size+3\/c=s1.heap.objs.size\/c=s1.heap.objs.size+1:=by simpa using abO
   have my:s1.heap.objs.size<=c:=by
    rcases e' with z|z|z|z|z
    ·rw[z];exact sJ _ _
    ·rw[z];exact sJ _ _
    ·rw[z];exact sJ _ _
    ·rw[z];exact aS _
    ·rw[z];exact sJ _ _
   exact I1.Rj my (I1.f7.fresh my)
def ae1:List bV:=["list of parents","list of attributes","list of a question","kind","thing","thing or world","holder","attribute","value","index","deep","rule","most kept","kind or any","place","most told","conditions","relation","sortings","downwards"]
def jM(c:Nat):bV:=ae1.getD c (al "")
abbrev Ch(cs:V9):V2:=cs.map λc=>V.str (jM c)
inductive KGet(P:ba)(w:br)(K:aj)(g:ao)(x:bV)(v:V):Prop
 |mk(o es ep u:_)(_:K.lookup g=aa o)(_:o.ExactDict)(_:o.data= .dict es ep)(_:PySem.KeysOf (fh P w) es)(_:findBy (fh P w).is es (.inr x)=aa u)(_:RelV v u)
inductive afo(P:ba)(w:br)(K:aj)(Q:VK)(x y:V)(H2:Hp):Prop
 |mk(g nm v:_)(_:x= .ref g)(_:y= .str nm)(_:KGet P w K g nm v)(_:Q v H2)
def Y4(P:ba)(w:br)(K:aj)(td ty:TE):TE:=λσ H Q=>td σ H λx H1=>ty σ H1 (afo P w K Q x)
theorem LY{X:Cx}{P:ba}{w:br}{K:aj}{o i:Expr}{td ty:TE}{pos:ku}(hP:X.prog=P)(hw:X.w=w)(hK:X.K=K)(ho:PE X o td)(hi:PE X i ty)(hs:XS i):PE X (.Subscript o i pos) (Y4 P w K td ty):=by
 subst hP hw hK;intros;refine LI Cd.lookup hs (ga (ho pins s σ H _ I h) λu s1 ⟨x,H1,I1,rx,q1⟩=>ga (hi pins s1 σ H1 _ I1 q1) λiv s2 ⟨y,H2,I2,ry,g,nm,v,ex,ey,hg,q2⟩=>?_);subst ex ey;obtain rfl:u=bn g:=rx;obtain⟨ob,es,ep,u',e1,e2,e3,e4,e5,e6⟩:=hg;have EE:=I2.IE g ob e1;refine⟨⟨ob,EE,e2.1⟩,?_⟩;exact wpAny_getItem_of (k:=.inr nm) (uj (k:=.inr nm) ry) (f:=λk=>findBy (fh X.prog X.w).is es k) ⟨ob,es,ep,EE,e2,e3,e4,λ_=>rfl⟩ e5 ⟨v,H2,I2.tok _,e6,q2⟩
theorem TC{X:Cx}{K:aj}{es:List Expr}{k:Nat}{t:VX}{n:Nat}{pos:ku}(hK:X.K=K)(hc:X.calm=ac)(h:aa5 X es t)(hn:(rj es X.env).length=n:=by rfl)(uQ:(rj es X.env).findIdx? (·.1)=ab:=by rfl):PG X (.Tuple es k pos) (aaJ K n t):=hK▸P8 hc h hn uQ
structure Tb(P:ba)(w:br)(K:aj)(t:eP):Prop where
 pG:∃fa:Nat->ao,(∀H,tE K H (t.g 1) ((cF 24).map λi=>V.ref (fa i)))/\∀i,i<24->∀H,tE K H (fa i) (Ch (bJ i))
 qh:∀H,tE K H (t.g 2) (Ch [13,14,10,15,16])
 Vn:∀c,3<=c->c<20->∃a,KGet P w K (t.g 0) (jM c) (.ref a)/\∀H,tE K H a [.int (dN c).1,.int (dN c).2]
theorem Qk:∀c,c<20->E9 (jM c) (al "list of")=decide (c<3):=by decide+kernel
theorem WV:∀c,c<20->∀d,d<20->jM c=jM d->c=d:=by decide+kernel
theorem BR:∀n,n<24->∀c∈bJ n,c<20:=by decide+kernel
theorem N8:∀n,n<24->((decide ((bJ n).length=1)&&decide ((bJ n).headD 9<3))=gl (bJ n)):=by decide+kernel
theorem Rm:∀n,n<24->(bJ n).length<=3:=by decide+kernel
section
variable{α:Type}{J:It}{g:TG}{te:TE}{vs:V9}{σ:L2.St}{H1:Hp}{D:ao}{Qd:Hp->Prop}
theorem QG{l:List α}{Ri:Hp->V->α->Prop}(f:α->V)
 (hD:H1 D=ab)(ul:∀H,a7 H1 H->J.stop l.length H)(Mq:∀i H,i<l.length->a7 H1 H->J.go i H)(KW:∀i H x H',i<l.length->a7 H1 H->J.CJ i H x H'->a7 H H'/\∃a,l[i]? =aa a/\Ri H' x a)(hz:l.length<aE)
 (hs:∀(i:Nat) (x:α) (y:V) (H:Hp) (Kt:V->Hp->Prop),l[i]? =aa x->Ri H y x->a7 H1 H->(∀H4,a7 H H4->Kt (f x) H4)->g y (wipe σ vs) H λgh H2=>wipe gh vs=wipe σ vs/\te gh H2 Kt)
 (hd:∀H',a7 H1 H'->H' D=aa (.lst (l.map f))->Qd H'):
  tLc_2 g Fl te vs σ Qd J H1 D:=by
 refine QI (n:=l.length) (λi H=>a7 H1 H/\H D=aa (.lst ((l.take i).map f))) ⟨a7.tN (a7.refl H1) hD,ak⟩ (λH p=>ul H p.1) (λi H hi p=>Mq i H hi p.1) ?_ ?_
 ·rintro i H y H' hi ⟨s,fF⟩ hy;obtain⟨s',x,hx,hr⟩:=KW i H y H' hi s hy;rw[Pg Z];refine hs i x y H' _ hx hr (s.trans s') λH4 s4=>?_;refine⟨_,(s'.trans s4) _ _ fF,?_,((s.trans s').trans s4).tN hD,?_⟩
  ·rw[af,ck];exact aX (kx _ _) hz
  ·rw[ak,take_succ hx,bz];rfl
 ·rintro H ⟨s,fF⟩;rw[cB]at fF;exact hd H s fF
end
inductive Hr(K:aj)(vs:V2)(H:Hp)(Q:VK)(E:XK):Prop
 |mk(F:ao)(n:Nat)(_:vs=[.ref F])(_:n<24)(_:tE K H F (Ch (bJ n)))(_:Q (.bl (gl (bJ n))) H)
theorem y_(T:Txt K mg t):(1<*9) ["form"] (Hr K):=by
 refine T.f.G9.F.ok2 ["form"] ?_;obtain⟨F,n,rfl,hn,hF,k⟩;refine⟨_,(aH (bo (Bb (gJ fZ (bF bq Z T.len a9 (ah (pv 0) ax)) aN (bU _)) (yo (Zq PySem.F.slot_str_startswith PySem.F.type_str_startswith Dv (cu v7 (pv 0) aN (λ_ _=>rfl)) kX))))),?_⟩;have Sq:=N8 n hn;have abF:=BR n hn;refine⟨_,Z,_,_,Z,.inr hF,Z,_,Z,?_⟩;rw[af,show decide (V.int ((bJ n).length:Nat)=V.int 1)=_ from mV _ 1 (z:=1) Z];rw[<-Sq]at k
 cases hc:bJ n with
 |nil=>
  rw[hc]at k;exact cy k
 |cons c r=>
  rw[hc]at k hF abF
  cases r with
  |nil=>
   have Yv:=Qk c (abF c (by simp));refine cI ⟨_,Z,_,_,_,V.str (jM c),Z,Z,hF,sR,⟨_,Z⟩,_,_,Z,Z,?_⟩;rw[Yv];exact k
  |cons d r=>
   rw[show decide ((c::d::r).length=1)=ae by simp]at k ⊢;exact cy k
inductive Wu(K:aj)(vs:V2)(H:Hp)(Q:VK)(E:XK):Prop
 |mk(F A0:ao)(cs:V9)(a:xC)(_:vs=[.ref F,.ref A0])(_:tE K H F (Ch cs))(_:IL H A0 a)(_:(∀c∈cs,3<=c/\c<20))(_:cs.length<=1000)(_:∀H',a7 H H'->Q (.bl (kh cs a)) H')
theorem vZ(T:Txt K mg t)(R:Tb P w K t):(1<*12) ["names","numbers"] (Wu K):=by
 refine T.f.G12.F.ok2 ["names","numbers","name","number"] ?_;obtain⟨F,A0,cs,a,rfl,hF,hA,Yv,hl,k⟩;refine⟨_,(aH (bo (bF (RH Z) Z T.all boot_all (ah (mr (own:=[("name",2),("number",3)]) Z nd (H0 Z T.zip (ah (pv 0) (ah (pv 1) ax))) (eE (N:=["names","numbers","name","number"]) (sc:=cj Vm) dK) (λ_ _ _ _ _=>TC (K:=K) (n:=2) Z Z (w_ (cJ (i:=2) nd Z (bi Z)) (w_ (cJ (i:=3) nd Z (bi Z)) LW))) (λ_ _ _ _ _=>i9) (λ_ _ _ _ _=>(H? vt vt (cu (Mj (K:=K) Z) (LY (P:=P) (w:=w) (K:=K) Z Z Z (kH Z T.g.RX) (pv 2) (λ_ _=>rfl)) aN (λ_ _=>rfl)) (pv 3) (cu (Mj (K:=K) Z) (LY (P:=P) (w:=w) (K:=K) Z Z Z (kH Z T.g.RX) (pv 2) (λ_ _=>rfl)) aN (λ_ _=>rfl))))) ax)))),?_⟩;refine⟨_,Z,_,Z,F,A0,_,_,Z,hF,bQ.of hA,λD hD=>QG (l:=cs.zip a) (Ri:=λH y x=>∃T,y=V.ref T/\H T=aa (.tup [V.str (jM x.1),.int x.2])) (λx=>V.bl (decide ((dN x.1).1<=x.2)&&decide (x.2<=(dN x.1).2))) hD ?_ ?_ ?_ ?_ ?_ ?_⟩
 ·intro H2 s2;refine⟨_,_,s2.Sf hF,bQ.of (s2 _ _ hA),?_⟩;rw[af,af,fk];lia
 ·intro i H2 hi s2;rw[fk]at hi;obtain⟨K2,DF⟩:=Ff.mp hi;exact⟨_,_,V.str (jM (cs[i]'K2)),.int (a[i]'DF),s2.Sf hF,bQ.of (s2 _ _ hA),by rw[aA,aR K2];rfl,by rw[aA,aR DF];rfl⟩
 ·intro i H2 x H3 hi s2 hy;obtain⟨T,x1,y1,rfl,nT,rfl,e1,e2⟩:=hy;have zj:=hi;rw[fk]at zj;have aaQ:=e1 _ (s2.Sf hF);have aaP:=e2 _ (bQ.of (s2 _ _ hA));obtain⟨K2,DF⟩:=Ff.mp zj;rw[aA,aR K2]at aaQ;rw[aA,aR DF]at aaP
  cases aaQ
  cases aaP;exact⟨a7.upd nT,(cs[i]'K2,a[i]'DF),by rw[aR hi];simp,T,Z,ak⟩
 ·rw[fk];exact aX (aB (Nat.min_le_left _ _) hl) dk
 ·intro i x y H2 Kt hx hR s2 ht;obtain⟨T',rfl,hT⟩:=hR;have W7:x.1∈cs:=(nM (aP hx)).1;obtain⟨h3,aef⟩:=Yv _ W7;obtain⟨ra,Cj,hrt⟩:=R.Vn x.1 h3 aef;refine⟨T',_,Z,.inl (.inl hT),Z,_,_,Z,_,_,Z,Z,Z,_,Z,_,_,_,Z,Z,Cj,_,_,_,_,Z,Z,hrt _,sR,_,Z,_,_,Z,Z,_,Z,?_⟩;by_cases h1:(dN x.1).1<=x.2
  ·rw[aI h1];refine cI ⟨_,Z,_,_,_,Z,Z,Cj,_,_,_,_,Z,Z,hrt _,at_of (j:=1) Z Z,_,_,Z,Z,?_⟩;have:=ht _ (a7.refl H2);rw[aI h1,gq]at this;exact this
  ·rw[ay h1];have:=ht _ (a7.refl H2);rw[ay h1,fQ]at this;exact cy this
 ·intro H2 s2 e2;refine⟨D,(cs.zip a).map λx=>decide ((dN x.1).1<=x.2)&&decide (x.2<=(dN x.1).2),Z,bQ.of (by rw[bv];exact e2),?_⟩;have:((cs.zip a).map λx=>decide ((dN x.1).1<=x.2)&&decide (x.2<=(dN x.1).2)).all id=kh cs a:=by rw[JH];rfl
  rw[this];exact k H2 s2
theorem UL(a b:Nat):decide (V.int (a:Int)=V.int (b:Int))=decide (a=b):=v? a b
theorem xw{H:Hp}{fa:Nat->ao}{n:Nat}(hn:n<24):Ol ((cF 24).map λi=>V.ref (fa i)) (n:Int)=aa (V.ref (fa n)):=by
 refine at_of Z ?_;rw[aA,List.getElem?_range hn];rfl
inductive Fo(vs:V2)(H:Hp)(Q:VK)(E:XK):Prop
 |mk(Rw:ao)(l:xC)(_:vs=[.ref Rw])(_:IL H Rw l)(_:Q (.bl (ja l)) H)
theorem FX(T:Txt K mg t)(R:Tb P w K t):(2<*10) ["row"] Fo:=by
 refine T.f.G10.F.ok2 ["row"] ?_;obtain⟨Rw,l,rfl,hl,k⟩;refine⟨_,(ap (de (PW.pt (LS (bR fZ (bF bq Z T.len a9 (ah (pv 0) ax)) aN (bU _)) (FP (oo (HV vt Bh aN (cu bP (pv 0) aN (λ_ _=>rfl)) (bF bq Z T.len a9 (ah (kH Z T.g.Jt) ax))))))) (aH (bo t7)) bS)
  (ap (de (hJ (j9 (y_ T) (hr.mono dk) Z T.f.G9 (ah (cu v7 (kH Z T.g.Jt) (cu bP (pv 0) aN (λ_ _=>rfl)) (λ_ _=>rfl)) ax))) (aH (bo (Bb (gJ y8 (bF bq Z T.len a9 (ah (pv 0) ax)) aN (bU _)) (yo (gJ fZ (cu bP (pv 0) aN (λ_ _=>rfl)) (fY Kx (bF bq Z T.len a9 (ah (pv 0) ax)) aN) (bU _)))))) bS)
  (aH (bo (gJ fZ (bF bq Z T.len a9 (ah (pv 0) ax)) (fY j_ (bF bq Z T.len a9 (ah (cu v7 (kH Z T.g.Jt) (cu bP (pv 0) aN (λ_ _=>rfl)) (λ_ _=>rfl)) ax)) aN) (bU _)))))),?_⟩
 obtain⟨fa,hF,hf⟩:=R.pG;refine⟨_,Z,_,_,Z,.inl (bQ.of hl),Z,_,Z,?_⟩
 cases l with
 |nil=>exact cI (cI k)
 |cons p r=>
  rw[af,show decide (V.int ((p::r).length:Nat)=V.int 0)=ae by rw[show decide (V.int ((p::r).length:Nat)=V.int 0)=_ from pI (p::r).length];simp];have nn:H Rw=aa (.lst (V.int p::r.map V.int)):=hl;have he:ja (p::r)=(decide (0<=p/\p<24)&&(if gl (bJ p.toNat)=ac then Bx r else decide (r.length=(bJ p.toNat).length))):=Z;rw[he]at k;refine cy ⟨_,Z,_,_,_,_,Z,Z,bQ.of nn,sR,_,_,Z,Z,_,Z,?_⟩;by_cases h0:0<=p
  ·rw[aI h0];refine cI ⟨_,_,Z,.inr (hF H),_,_,Z,Z,_,Z,?_⟩;rw[af,fO];by_cases G':p<24
   ·rw[aI (show p<((24:Nat):Int)from G')];obtain⟨n,rfl⟩:∃n:Nat,p=(n:Int):=⟨p.toNat,om⟩;have hn:n<24:=om;rw[aI (show 0<=(n:Int)/\(n:Int)<24 from⟨h0,G'⟩),gq,aG]at k;refine cy ⟨_,Z,_,_,_,_,Z,Z,bQ.of nn,sR,_,_,_,_,Z,Z,hF H,xw (H:=H) hn,_,n,Z,hn,hf n hn H,_,Z,?_⟩
    cases hb:gl (bJ n)with
    |true=>
     rw[hb,aC Z]at k;refine cI ⟨_,Z,_,_,Z,.inl (bQ.of nn),_,_,Z,Z,_,Z,?_⟩
     cases r with
     |nil=>exact cy k
     |cons m r2=>
      have qL:H Rw=aa (.lst (V.int (n:Int)::V.int m::r2.map V.int)):=hl;rw[aI (by simp only[bC,aJ,af];lia)];refine cI ⟨_,Z,_,_,_,_,Z,Z,bQ.of qL,at_of (j:=1) Z Z,_,Z,_,_,Z,.inl (bQ.of qL),_,_,Z,Z,Z,?_⟩;have:decide (V.int m=V.int (((V.int (n:Int)::V.int m::r2.map V.int).length:Nat) - 2:Int))=Bx (m::r2):=by
       rw[pJ];show _=decide (m=(r2.length:Int))
       congr 1
       simp only[aJ,af,eq_iff_iff];lia
      rw[<-this]at k;exact k
    |false=>
     rw[hb,aw (by simp)]at k;refine cy ⟨_,Z,_,_,Z,.inl (bQ.of nn),_,Z,_,_,_,_,Z,Z,bQ.of nn,sR,_,_,_,_,Z,Z,hF H,xw (H:=H) hn,_,_,Z,.inr (hf n hn H),_,_,Z,Z,Z,?_⟩;have:decide (V.int ((V.int (n:Int)::r.map V.int).length:Nat)=V.int (((Ch (bJ n)).length:Nat)+1:Int))=decide (r.length=(bJ n).length):=by
      rw[pJ]
      congr 1
      simp only[aJ,af,eq_iff_iff];lia
     rw[<-this]at k;exact k
   ·rw[ay (show¬p<((24:Nat):Int)from G')];rw[ay (show¬(0<=p/\p<24)from λz=>G' z.2),fQ]at k;exact cI k
  ·rw[ay h0];rw[ay (show¬(0<=p/\p<24)from λz=>h0 z.1),fQ]at k;exact cy ⟨_,Z,cI k⟩
inductive zB(vs:V2)(H:Hp)(Q:VK)(E:XK):Prop
 |mk(Rw:ao)(n:Nat)(r:xC)(_:vs=[.ref Rw])(_:IL H Rw ((n:Int)::r))(_:n<24)(_:∀H' p,a7 H H'->H p=ab->IL H' p (kj ((n:Int)::r))->Q (.ref p) H')
theorem zM(T:Txt K mg t)(R:Tb P w K t):(2<*11) ["row"] zB:=by
 refine T.f.G11.F.ok2 ["row"] ?_;obtain⟨Rw,n,r,rfl,hl,hn,k⟩;refine⟨_,(ap (de (hJ (j9 (y_ T) (hr.mono dk) Z T.f.G9 (ah (cu v7 (kH Z T.g.Jt) (cu bP (pv 0) aN (λ_ _=>rfl)) (λ_ _=>rfl)) ax))) (aH (bo (iM lP (pv 0) (gZ aN) ph))) bS)
  (aH (bo (iM lP (pv 0) (gZ aN) ph)))),?_⟩
 obtain⟨fa,hF,hf⟩:=R.pG;have nn:H Rw=aa (.lst (V.int (n:Int)::r.map V.int)):=hl;have he:kj ((n:Int)::r)=if gl (bJ n)=ac then r.drop 1 else r:=by
  show(if gl (bJ (n:Int).toNat)=ac then r.drop 1 else r)=_;rw[aG]
 rw[he]at k;refine⟨_,Z,_,_,_,_,Z,Z,bQ.of nn,sR,_,_,_,_,Z,Z,hF H,xw (H:=H) hn,_,n,Z,hn,hf n hn H,_,Z,?_⟩
 cases hb:gl (bJ n)with
 |true=>
  rw[hb,aC Z]at k;refine cI ⟨_,Z,_,Z,_,_,Z,bQ.of nn,λp hp=>k _ p (a7.upd hp) hp ?_⟩;show upd _ _ _ _=_;rw[ak,show(2:Int)=((2:Nat):Int)from Z,oJ];simp
 |false=>
  rw[hb,aw (by simp)]at k;refine cy ⟨_,Z,_,Z,_,_,Z,bQ.of nn,λp hp=>k _ p (a7.upd hp) hp ?_⟩;show upd _ _ _ _=_;rw[ak,show(1:Int)=((1:Nat):Int)from Z,oJ];simp
theorem Ab{K:aj}(ha:tE K H a xs)(hx:xs≠[])(hk:k<=1000)(hz:xs.length<=1000)(h:∀b H',a7 H H'->tE K H' b (be k xs).flatten->Q (.ref b) H'):Vq K (.ref a) (.int (k:Int)) H Q:=
 ⟨a,k,xs,Z,Z,ha,hx,hk,hz,λe=>h a H (a7.refl H) (by rw[e];simpa using ha),λ_ p hp=>h p _ (a7.upd hp) (.inl (.inl ak))⟩
theorem Ah(k:Nat)(cs:V9):(be k (Ch cs)).flatten=Ch (be k cs).flatten:=by
 induction k with
 |zero=>rfl
 |succ k ih=>
  rw[cM,d8,ih,cM,d8];show _=U_ _ _;rw[bz]
theorem L_(h:c∈(be k cs).flatten):c∈cs:=by
 obtain⟨l,hl,hc⟩:=List.mem_flatten.mp h;rw[(xM.mp hl).2]at hc;exact hc
theorem IA(k:Nat)(cs:V9):(be k cs).flatten.length=k*cs.length:=len_rep cs k
inductive AL(vs:V2)(H:Hp)(Q:VK)(E:XK):Prop
 |mk(N:ao)(a:xC)(_:vs=[.ref N])(_:IL H N a)(_:∀H',a7 H H'->Q (.bl (Tw.isQ a)) H')
theorem Bk(T:Txt K mg t)(R:Tb P w K t):(2<*13) ["numbers"] AL:=by
 refine T.f.G13.F.ok2 ["numbers","sortings_at","sortings","conditions"] ?_;obtain⟨N,a,rfl,hN,k⟩;refine⟨_,(ap (de (PW.pt (LS (bR Bh (bF bq Z T.len a9 (ah (pv 0) ax)) (bF bq Z T.len a9 (ah (kH Z T.g.vC) ax)) (bU _)) (FP (oo (hJ (j9 (vZ T R) (hr.mono dk) Z T.f.G12 (ah (kH Z T.g.vC) (ah (pv 0) ax)))))))) (aH (bo t7)) bS)
  (ap (bM (i:=1) nd (fY j_ aN (fY FU aN (cu bP (pv 0) aN (λ_ _=>rfl)))))
  (ap (de (PW.pt (LS (bR vt (bF bq Z T.len a9 (ah (pv 0) ax)) (pv 1) (bU _)) (FP (oo (hJ (j9 (vZ T R) (hr.mono dk) Z T.f.G12 (ah (t6 (ah kX ax)) (ah (cn (ah (cu bP (pv 0) (pv 1) (λ_ _=>rfl)) ax)) ax)))))))) (aH (bo t7)) bS)
  (ap (bM (i:=2) nd (iM lP (pv 0) (gZ (fY j_ (pv 1) aN)) ph))
  (ap (de (bR Bg (bF bq Z T.len a9 (ah (pv 2) ax)) (fY FU aN (cu bP (pv 0) (pv 1) (λ_ _=>rfl))) (bU _)) (aH (bo t7)) bS)
  (ap (bM (i:=3) nd (iM lP (pv 0) (gZ aN) (gZ (pv 1))))
  (aH (bo (Bb (j9 (vZ T R) (hr.mono dk) Z T.f.G12 (ah (fY Ag (t6 (ah kX (ah kX (ah kX ax)))) (cu bP (pv 0) aN (λ_ _=>rfl))) (ah (pv 3) ax))) (yo (j9 (vZ T R) (hr.mono dk) Z T.f.G12 (ah (fY Ag (t6 (ah kX (ah kX ax))) (cu bP (pv 0) (pv 1) (λ_ _=>rfl))) (ah (pv 2) ax))))))))))))),?_⟩
 unfold Tw.isQ at k;refine⟨_,Z,_,_,Z,.inl (bQ.of hN),_,_,Z,.inr (R.qh H),_,_,Z,Z,_,Z,?_⟩;rw[af];by_cases h5:a.length<5
 ·rw[aI (show((a.length:Nat):Int)<((Ch [13,14,10,15,16]).length:Nat) by show _<((5:Nat):Int);lia)];rw[aC (.inl h5)]at k;exact cI (cI (k H (a7.refl H)))
 ·rw[ay (show¬((a.length:Nat):Int)<((Ch [13,14,10,15,16]).length:Nat) by show¬_<((5:Nat):Int);lia)];refine cy ⟨_,Z,_,N,[13,14,10,15,16],a,Z,R.qh H,hN,dk,dk,λH1 s1=>⟨_,Z,?_⟩⟩
  cases hf:kh [13,14,10,15,16] a with
  |false=>
   rw[aC (.inr hf)]at k;exact cI (k H1 s1)
  |true=>
   rw[aw (by rintro(z|z);exact h5 z;rw[hf]at z;cases z)]at k;refine cy ?_;obtain⟨m,abI,hmr⟩:∃m:Nat,a[4]? =aa (m:Int)/\m<=6:=by
    match a,h5,hf with
    |[],h5,_=>simp at h5
    |[_],h5,_=>simp at h5
    |[_,_],h5,_=>simp at h5
    |[_,_,_],h5,_=>simp at h5
    |[_,_,_,_],h5,_=>simp at h5
    |x0::x1::x2::x3::x4::r,_,hf=>
     rw[da,da,da,da,da]at hf;simp only[aK]at hf;obtain⟨h1,h2⟩:=eB.mp hf.2.2.2.2.1;have VR:(0:Int)<=x4:=h1;have VQ:x4<=(6:Int):=h2;exact⟨x4.toNat,by simp;lia,om⟩
   have hg4:(a.getD 4 0).toNat=m:=by rw[bD,abI];simp
   rw[hg4]at k;have Sw:=hN.same s1;have aan:Ol (a.map V.int) 4=aa (V.int (m:Int)):=at_of (j:=4) Z (by rw[aA,abI];rfl);simp only at k;refine⟨_,Z,_,_,_,_,Z,Z,bQ.of Sw,aan,_,_,Z,Z,.inl ⟨dk,dk⟩,_,_,Z,Z,?_⟩;have hsa:(5:Int)+3*(m:Int)=((5+3*m:Nat):Int):=om;simp only[hsa];refine⟨_,Z,_,_,Z,.inl (bQ.of Sw),_,Z,_,_,Z,Z,_,Z,?_⟩;rw[af];by_cases my:a.length<=5+3*m
   ·rw[aI (show((a.length:Nat):Int)<=((5+3*m:Nat):Int) by lia)];rw[aC (.inl my)]at k;exact cI (cI (k H1 s1))
   ·rw[ay (show¬((a.length:Nat):Int)<=((5+3*m:Nat):Int) by lia)];have hsv:a[5+3*m]? =aa (a.getD (5+3*m) 0):=by rw[bD,aR om];rfl
    have Uv:Ol (a.map V.int) ((5+3*m:Nat):Int)=aa (V.int (a.getD (5+3*m) 0)):=at_of Z (by rw[aA,hsv];rfl);refine cy ⟨(by show 1<=aE;decide),λp1 BF=>⟨_,Z,_,Z,_,_,_,_,Z,Z,bQ.of (ups (aL Sw BF) Sw),Uv,(by show 1<=aE;decide),λp2 l9=>?_⟩⟩;have s2:=(a7.upd (o:=.tup [V.str (jM 18)]) BF).up (o:=.lst [V.int (a.getD (5+3*m) 0)]) l9;have n12:p1≠p2:=λz=>by rw[<-z,ak]at l9;cases l9
    refine⟨p1,p2,[18],[a.getD (5+3*m) 0],Z,.inl (.inl (ups n12 ak)),ak,dk,dk,λH3 s3=>⟨_,Z,?_⟩⟩;have u_:=s1.trans (s2.trans s3)
    cases aac:kh [18] [a.getD (5+3*m) 0]with
    |false=>
     rw[aC (.inr aac)]at k;exact cI (k H3 u_)
    |true=>
     rw[aw (by rintro(z|z);exact my z;rw[aac]at z;cases z)]at k;obtain⟨sn,hsn,hs4⟩:∃sn:Nat,a.getD (5+3*m) 0=(sn:Int)/\sn<=4:=by
      rw[da]at aac;simp only[aK]at aac;obtain⟨h1,h2⟩:=eB.mp aac.1;have VR:(0:Int)<=a.getD (5+3*m) 0:=h1;have VQ:a.getD (5+3*m) 0<=(4:Int):=h2;exact⟨(a.getD (5+3*m) 0).toNat,om,om⟩
     rw[hsn,aG]at k;rw[hsn]at Uv;have hN3:=hN.same u_;have adc:((5+3*m:Nat):Int)+1=((5+3*m+1:Nat):Int):=om;refine cy ⟨_,Z,_,Z,_,_,Z,Z,_,Z,_,_,Z,bQ.of hN3,λp3 GY=>?_⟩;rw[adc,oJ,<-gn];have s4:a7 H3 (upd H3 p3 (.lst ((a.drop (5+3*m+1)).map V.int))):=a7.upd GY;have Gd:(upd H3 p3 (.lst ((a.drop (5+3*m+1)).map V.int))) p3=aa (.lst ((a.drop (5+3*m+1)).map V.int)):=ak;generalize upd H3 p3 (.lst ((a.drop (5+3*m+1)).map V.int))=H4 at s4 Gd;have X8:=u_.trans s4;have hN4:=hN.same X8;refine⟨_,Z,_,_,Z,.inl (bQ.of Gd),_,Z,_,Z,_,_,_,_,Z,Z,bQ.of hN4,Uv,_,_,Z,Z,.inl ⟨dk,dk⟩,Z,_,Z,?_⟩;have e2:(2:Int)*(sn:Int)=((2*sn:Nat):Int):=om;have e3:decide (V.int (((a.drop (5+3*m+1)).length:Nat):Int)=V.int ((2*sn:Nat):Int))=decide ((a.drop (5+3*m+1)).length=2*sn):=UL _ _;simp only[af,e2];rw[e3];by_cases iQ:(a.drop (5+3*m+1)).length≠2*sn
     ·rw[ay iQ];rw[aC iQ]at k;exact cI (k H4 X8)
     ·rw[aI (by simpa using iQ)];rw[aw iQ]at k;refine cy ⟨_,Z,_,Z,_,Z,_,Z,_,_,Z,bQ.of hN4,λp5 VL=>?_⟩;rw[show(5:Int)=((5:Nat):Int)from Z,xD,<-k_,<-gn,U?];have s5:a7 H4 (upd H4 p5 (.lst (((a.drop 5).take (5+3*m - 5)).map V.int))):=a7.upd VL;have VJ:(upd H4 p5 (.lst (((a.drop 5).take (5+3*m - 5)).map V.int))) p5=aa (.lst (((a.drop 5).take (5+3*m - 5)).map V.int)):=ak;generalize upd H4 p5 (.lst (((a.drop 5).take (5+3*m - 5)).map V.int))=H5 at s5 VJ;have Zd:=X8.trans s5;refine⟨(by show 3<=aE;decide),λp7 hp7=>⟨_,Z,_,_,_,_,Z,Z,bQ.of (a7.upd hp7 _ _ (hN.same Zd)),aan,Ab (xs:=Ch [7,17,8]) (.inl (.inl ak)) (by simp) om (by simp) λb7 H7 s7 hb7=>?_⟩⟩;rw[Ah]at hb7;have acx:=(a7.upd hp7).trans s7;refine⟨_,Z,b7,p5,(be m [7,17,8]).flatten,(a.drop 5).take (5+3*m - 5),Z,hb7,acx _ _ VJ,(λc hc=>(show∀c∈[7,17,8],3<=c/\c<20 by decide) c (L_ hc)),by rw[IA];simp;lia,λH8 s8=>⟨_,Z,?_⟩⟩;have acA:=Zd.trans (acx.trans s8)
      cases hf3:kh (be m [7,17,8]).flatten ((a.drop 5).take (5+3*m - 5))with
      |false=>
       rw[hf3,fQ]at k;exact cy (k H8 acA)
      |true=>
       rw[hf3,gq]at k;refine cI ⟨(by show 2<=aE;decide),λp9 hp9=>⟨_,Z,_,Z,_,_,_,_,Z,Z,bQ.of (a7.upd hp9 _ _ (hN.same acA)),Uv,Ab (xs:=Ch [7,19]) (.inl (.inl ak)) (by simp) om (by simp) λb9 H9 s9 hb9=>?_⟩⟩;rw[Ah]at hb9;have s89:=(a7.upd hp9).trans s9;exact⟨_,Z,b9,p3,(be sn [7,19]).flatten,a.drop (5+3*m+1),Z,hb9,(s5.trans (acx.trans (s8.trans s89))) _ _ Gd,(λc hc=>(show∀c∈[7,19],3<=c/\c<20 by decide) c (L_ hc)),by rw[IA];simp;lia,λaeA WB=>k aeA (acA.trans (s89.trans WB))⟩
theorem MD{K:aj} :∀xs:List bV,zn K H (xs.map V.str) (xs.map iG)
 |[]=>.nil
 |x::r=>.cons (.str x) (MD r)
theorem EN{K:aj}{F:ao}(h:tE K H F (Ch cs)):Dp K H (.ref F) (.tuple ((cs.map jM).map iG)):=by
 refine .tup h ?_;have:Ch cs=(cs.map jM).map V.str:=by rw[bv];rfl
 rw[this];exact MD _
theorem uv:∀n,n<24->xY (.tuple (((bJ n).map jM).map iG))=ac:=by decide+kernel
theorem BS:∀n,n<24->∀c,c<3->oO (.tuple (((bJ n).map jM).map iG)) (.tuple [iG (jM c)])=decide (bJ n=[c]):=by decide+kernel
theorem vW:∀c,c<3->xY (.tuple [iG (jM c)])=ac:=by decide+kernel
theorem N7:∀n,n<24->(bJ n=[0]\/bJ n=[1]\/bJ n=[2])\/∀c∈bJ n,3<=c/\c<20:=by decide+kernel
theorem Rl(n:Nat)(hn:n<24)(h0:bJ n≠[0])(h1:bJ n≠[1])(h2:bJ n≠[2]):∀c∈bJ n,3<=c/\c<20:=by
 rcases N7 n hn with(h|h|h)|h
 ·exact absurd h h0
 ·exact absurd h h1
 ·exact absurd h h2
 ·exact h
theorem LQ(k c:Nat):(be k [c]).flatten=be k c:=by
 induction k with
 |zero=>rfl
 |succ k ih=>rw[cM,d8,ih,cM];rfl
theorem KA:∀c,c<20->∀d,d<20->decide (V.str (jM c)=V.str (jM d))=decide (c=d):=λc hc d hd=>by
 by_cases h:c=d
 ·rw[h];simp
 ·rw[ay h,ay (λz=>h (WV c hc d hd (V.str.inj z)))]
inductive AM(K:aj)(vs:V2)(H:Hp)(Q:VK)(E:XK):Prop
 |mk(F A0:ao)(n:Nat)(a:xC)(_:vs=[.ref F,.ref A0])(_:tE K H F (Ch (bJ n)))(_:n<24)(_:IL H A0 a)(_:∀H',a7 H H'->Q (.bl (kO (bJ n) a)) H')
theorem Bl(T:Txt K mg t)(R:Tb P w K t):(3<*14) ["form","arguments"] (AM K):=by
 refine T.f.G14.F.ok2 ["form","arguments"] ?_;obtain⟨F,A0,n,a,rfl,hF,hn,hA,k⟩;refine⟨_,(ap (de (bR (Bi hr.units) (pv 0) (t6 (ah kX ax)) (bU _)) (aH (bo (Bb (gJ vt (bF bq Z T.len a9 (ah (pv 1) ax)) aN (bU _)) (yo (j9 (vZ T R) (hr.mono dk) Z T.f.G12 (ah (fY Ag (t6 (ah kX ax)) (bF bq Z T.len a9 (ah (pv 1) ax))) (ah (pv 1) ax))))))) bS)
  (ap (de (bR (Bi hr.units) (pv 0) (t6 (ah kX ax)) (bU _)) (aH (bo (Bb (H? vt vt aN (bF bq Z T.len a9 (ah (pv 1) ax)) aN) (yo (j9 (vZ T R) (hr.mono dk) Z T.f.G12 (ah (fY Ag (t6 (ah kX ax)) (bF bq Z T.len a9 (ah (pv 1) ax))) (ah (pv 1) ax))))))) bS)
  (ap (de (bR (Bi hr.units) (pv 0) (t6 (ah kX ax)) (bU _)) (aH (bo (j9 (Bk T R) (hr.mono dk) Z T.f.G13 (ah (pv 1) ax)))) bS)
  (aH (bo (j9 (vZ T R) (hr.mono dk) Z T.f.G12 (ah (pv 0) (ah (pv 1) ax)))))))),?_⟩
 unfold kO at k;refine⟨_,Z,(by show 1<=aE;decide),λp1 BF=>?_⟩;have s1:a7 H (upd H p1 (.tup [V.str (al "list of parents")])):=a7.upd BF;have hq1:tE K (upd H p1 (.tup [V.str (al "list of parents")])) p1 (Ch [0]):=.inl (.inl ak);refine⟨_,_,EN (s1.Sf hF),EN hq1,uv n hn,vW 0 dk,_,Z,?_⟩;rw[show oO (.tuple (((bJ n).map jM).map iG)) (.tuple (([0].map jM).map iG))=_ from BS n hn 0 dk];generalize upd H p1 (.tup [V.str (al "list of parents")])=H1 at s1;by_cases c0:bJ n=[0]
 ·rw[aI c0];rw[aC c0]at k;refine cI ⟨_,Z,_,_,Z,.inl (bQ.of (s1 _ _ hA)),_,_,Z,Z,_,Z,?_⟩;rw[af];by_cases h6:a.length<=6
  ·rw[aI (show((a.length:Nat):Int)<=6 by lia)];rw[aI h6,gq]at k;refine cI ⟨(by show 1<=aE;decide),λp2 l9=>⟨_,Z,_,_,Z,.inl (bQ.of (a7.upd l9 _ _ (s1 _ _ hA))),?_⟩⟩;rw[af];refine Ab (xs:=Ch [3]) (.inl (.inl ak)) (by simp) om (by simp) λb H3 s3 hb=>?_;rw[Ah,LQ]at hb;have u_:=s1.trans ((a7.upd l9).trans s3);exact⟨_,Z,b,A0,be a.length 3,a,Z,hb,u_ _ _ hA,(λc hc=>by rw[(xM.mp hc).2];decide),by rw[uE];lia,λH4 s4=>k H4 (u_.trans s4)⟩
  ·rw[ay (show¬((a.length:Nat):Int)<=6 by lia)];rw[ay h6,fQ]at k;exact cy (k H1 s1)
 ·rw[ay c0];rw[aw c0]at k;refine cy ⟨_,Z,(by show 1<=aE;decide),λp2 l9=>?_⟩;have s2:a7 H1 (upd H1 p2 (.tup [V.str (al "list of attributes")])):=a7.upd l9;have hq2:tE K (upd H1 p2 (.tup [V.str (al "list of attributes")])) p2 (Ch [1]):=.inl (.inl ak);have u? :=s1.trans s2;refine⟨_,_,EN (u?.Sf hF),EN hq2,uv n hn,vW 1 dk,_,Z,?_⟩;rw[show oO (.tuple (((bJ n).map jM).map iG)) (.tuple (([1].map jM).map iG))=_ from BS n hn 1 dk];generalize upd H1 p2 (.tup [V.str (al "list of attributes")])=H2 at s2 u?;by_cases c1:bJ n=[1]
  ·rw[aI c1];rw[aC c1]at k;refine cI ⟨_,Z,_,_,Z,.inl (bQ.of (u? _ _ hA)),_,_,Z,Z,_,Z,?_⟩;rw[af];by_cases h1:1<=a.length
   ·rw[aI (show(1:Int)<=((a.length:Nat):Int) by lia)];refine cI ⟨_,_,Z,Z,_,Z,?_⟩;by_cases h3:a.length<=3
    ·rw[aI (show((a.length:Nat):Int)<=3 by lia)];rw[aI (show 1<=a.length/\a.length<=3 from⟨h1,h3⟩),gq]at k;refine cI ⟨(by show 1<=aE;decide),λp3 GY=>⟨_,Z,_,_,Z,.inl (bQ.of (a7.upd GY _ _ (u? _ _ hA))),?_⟩⟩;rw[af];refine Ab (xs:=Ch [7]) (.inl (.inl ak)) (by simp) om (by simp) λb H3 s3 hb=>?_;rw[Ah,LQ]at hb;have u_:=u?.trans ((a7.upd GY).trans s3);exact⟨_,Z,b,A0,be a.length 7,a,Z,hb,u_ _ _ hA,(λc hc=>by rw[(xM.mp hc).2];decide),by rw[uE];lia,λH4 s4=>k H4 (u_.trans s4)⟩
    ·rw[ay (show¬((a.length:Nat):Int)<=3 by lia)];rw[ay (show¬(1<=a.length/\a.length<=3)from λz=>h3 z.2),fQ]at k;exact cy (k H2 u?)
   ·rw[ay (show¬(1:Int)<=((a.length:Nat):Int) by lia)];rw[ay (show¬(1<=a.length/\a.length<=3)from λz=>h1 z.1),fQ]at k;exact cy ⟨_,Z,cy (k H2 u?)⟩
  ·rw[ay c1];rw[aw c1]at k;refine cy ⟨_,Z,(by show 1<=aE;decide),λp3 GY=>?_⟩;have s3:a7 H2 (upd H2 p3 (.tup [V.str (al "list of a question")])):=a7.upd GY;have adi:tE K (upd H2 p3 (.tup [V.str (al "list of a question")])) p3 (Ch [2]):=.inl (.inl ak);have u_:=u?.trans s3;refine⟨_,_,EN (u_.Sf hF),EN adi,uv n hn,vW 2 dk,_,Z,?_⟩;rw[show oO (.tuple (((bJ n).map jM).map iG)) (.tuple (([2].map jM).map iG))=_ from BS n hn 2 dk];generalize upd H2 p3 (.tup [V.str (al "list of a question")])=H3 at s3 u_;by_cases c2:bJ n=[2]
   ·rw[aI c2];rw[aC c2]at k;exact cI ⟨_,Z,A0,a,Z,u_ _ _ hA,λH4 s4=>k H4 (u_.trans s4)⟩
   ·rw[ay c2];rw[aw c2]at k;exact cy ⟨_,Z,_,Z,F,A0,bJ n,a,Z,u_.Sf hF,u_ _ _ hA,Rl n hn c0 c1 c2,by have:=Rm n hn;lia,λH4 s4=>k H4 (u_.trans s4)⟩
def qG(w:aO)(x:Nat×Int):Bool:=(decide (x.1=4)&&!a_ w x.2.toNat)||((decide (x.1=5)&&!(decide (x.2=0)||a_ w x.2.toNat))||(decide (x.1=3)&&decide ((w.kinds.length:Int)<x.2)))
theorem Qq(w:aO)(c:V9)(a:xC):fJ w c a=(c.zip a).any (qG w):=rfl
def MT(c:V9)(a:xC):Prop:=∀x∈c.zip a,(x.1=4->1<=x.2)/\(x.1=5->0<=x.2)/\(x.1=3->1<=x.2)
inductive yb(t:eP)(K:aj)(vs:V2)(H:Hp)(Q:VK)(E:XK):Prop
 |mk(W F A0:ao)(ro:Role)(s:c8)(n:Nat)(a:xC)(_:vs=[.ref W,.ref F,.ref A0])(_:B' t H ro W s)(_:tE K H F (Ch (bJ n)))(_:n<24)(_:IL H A0 a)(_:MT (bJ n) a)(_:∀H',a7 H H'->Q (.bl (fJ s.w (bJ n) a)) H')
theorem yr(T:Txt K mg t):(2<*69) ["world","form","arguments"] (yb t K):=by
 refine T.f.G69.F.ok2 ["world","form","arguments","name","number"] ?_;obtain⟨W,F,A0,ro,s0,n,a,rfl,hS,hF,hn,hA,EE,k⟩;refine⟨_,(ap (jI bY Z (H0 Z T.zip (ah (pv 1) (ah (pv 2) ax))) (P8 Z (w_ (cJ (i:=3) nd Z (bi Z)) (w_ (cJ (i:=4) nd Z (bi Z)) LW)))
  (ap (de (PW.pt (ym (bR fZ (pv 3) kX (bU _)) (uJ (yn (qB hu (pv 4) (bb (pv 0) Z)))))) (aH (bo t7)) bS)
  (ap (de (PW.pt (ym (bR fZ (pv 3) kX (bU _)) (uJ (oo (hJ (cZ (pv 0) T.bj T.m.G82.me (kZ T) (hr.mono dk) T.m.G82.b .nil dD (ah (pv 4) ax))))))) (aH (bo t7)) bS)
  (aH (de (PW.pt (ym (bR fZ (pv 3) kX (bU _)) (uJ (yn (qB hu (pv 4) (bb (pv 0) Z)))))) (aH (bo t7)) bS)))))
  (aH (bo t7))),?_⟩
 rw[Qq]at k;have abF:=BR n hn;refine⟨_,Z,_,Z,F,A0,_,_,Z,hF,bQ.of hA,?_⟩;refine An (n:=((bJ n).zip a).length) (λi σ H'=>∃v u:Option V,σ=[aa (.ref W),aa (.ref F),aa (.ref A0),v,u]/\a7 H H'/\(((bJ n).zip a).take i).any (qG s0.w)=ae)
  ⟨ab,ab,Z,a7.refl H,Z⟩ ?_ ?_ ?_ ?_
 ·rintro σ H2 ⟨v,u,rfl,s2,_⟩;refine⟨_,_,s2.Sf hF,bQ.of (s2 _ _ hA),?_⟩;rw[af,af,fk];lia
 ·rintro i σ H2 hi ⟨v,u,rfl,s2,_⟩;rw[fk]at hi;obtain⟨K2,DF⟩:=Ff.mp hi;exact⟨_,_,V.str (jM ((bJ n)[i]'K2)),.int (a[i]'DF),s2.Sf hF,bQ.of (s2 _ _ hA),by rw[aA,aR K2];rfl,by rw[aA,aR DF];rfl⟩
 ·rintro i σ H2 x H3 hi ⟨v,u,rfl,s2,Gf⟩ hy;obtain⟨T',x1,y1,rfl,nT,rfl,e1,e2⟩:=hy;have zj:=hi;rw[fk]at zj;obtain⟨K2,DF⟩:=Ff.mp zj;have aaQ:=e1 _ (s2.Sf hF);have aaP:=e2 _ (bQ.of (s2 _ _ hA));rw[aA,aR K2]at aaQ;rw[aA,aR DF]at aaP
  cases aaQ
  cases aaP;have hx:((bJ n).zip a)[i]? =aa ((bJ n)[i]'K2,a[i]'DF):=by rw[aR hi];simp
  have qK:=aP hx;have Uu:(bJ n)[i]'K2<20:=abF _ (by simp);have Ur:=EE _ qK;generalize (bJ n)[i]'K2=c at hx qK Uu Ur;generalize a[i]'DF=z at hx qK Ur;simp only at Ur;obtain⟨i4,i5,i3⟩:=Ur;have s3:a7 H (upd H2 T' (.tup [V.str (jM c),V.int z])):=s2.up nT;have hT:(upd H2 T' (.tup [V.str (jM c),V.int z])) T'=aa (.tup [V.str (jM c),V.int z]):=ak;have yes:qG s0.w (c,z)=ac->∀H4,a7 H H4->Q (.bl ac) H4:=λhm H4 s4=>by
   have:=k H4 s4;rw[show((bJ n).zip a).any (qG s0.w)=ac from gk.mpr ⟨_,qK,hm⟩]at this;exact this
  have no:qG s0.w (c,z)=ae->(((bJ n).zip a).take (i+1)).any (qG s0.w)=ae:=λhm=>by
   rw[take_succ hx,List.any_append,Gf];simp[hm]
  generalize upd H2 T' (.tup [V.str (jM c),V.int z])=H4 at s3 hT;have Yy:=hS.same s3;obtain⟨dx,kd,td,il,ca,X⟩:=id Yy;refine⟨T',_,Z,.inl (.inl hT),Z,_,_,Z,_,_,Z,Z,?_⟩;refine⟨_,Z,Z,_,Z,?_⟩;rw[show decide (V.str (jM c)=V.str (al "thing"))=_ from KA c Uu 4 dk];by_cases h4:c=4
  ·subst h4;rw[aI Z];have hz:=i4 Z;obtain⟨m,rfl⟩:∃m:Nat,z=(m:Int):=⟨z.toNat,om⟩
   cases hh:a_ s0.w m with
   |true=>
    obtain⟨ta,dg,_⟩:=X.ts.thing (.inl Z) hh;refine cI ⟨_,Z,_,Z,_,_,_,_,_,Z,X.obj,T.bj,T.bT,Z,_,_,Z,dg,_,Z,cy ?_⟩;refine⟨_,Z,Z,_,Z,cy (cy ⟨_,Z,Z,_,Z,cy (cy ⟨_,_,Z,s3,no ?_⟩)⟩)⟩;unfold qG;simp[hh]
   |false=>
    have dg:=X.ts.no (.inl Z) (y:=(m:Int)) λm' e=>by
     have:m'=m:=om;rw[this];exact hh
    refine cI ⟨_,Z,_,Z,_,_,_,_,_,Z,X.obj,T.bj,T.bT,Z,_,_,Z,dg,_,Z,cI (yes ?_ H4 s3)⟩;unfold qG;simp[hh]
  ·rw[ay h4];refine cy (cy ⟨_,Z,Z,_,Z,?_⟩);rw[show decide (V.str (jM c)=V.str (al "thing or world"))=_ from KA c Uu 5 dk];by_cases h5:c=5
   ·subst h5;rw[aI Z];have hz:=i5 Z;obtain⟨m,rfl⟩:∃m:Nat,z=(m:Int):=⟨z.toNat,om⟩;refine cI ⟨_,Z,_,_,_,Z,X.obj,Z,_,Z,W,m,ro,id,s0.w,_,s0.cache,Z,Yy,.inl Z,_,Z,?_⟩
    cases hh:(decide (m=0)||a_ s0.w m)with
    |true=>
     refine cy ⟨_,Z,Z,_,Z,cy (cy ⟨_,_,Z,s3,no ?_⟩)⟩;unfold qG;simp;intro h;simpa[h]using hh
    |false=>
     refine cI (yes ?_ H4 s3);unfold qG;simp;simpa using hh
   ·rw[ay h5];refine cy (cy ⟨_,Z,Z,_,Z,?_⟩);rw[show decide (V.str (jM c)=V.str (al "kind"))=_ from KA c Uu 3 dk];by_cases h3:c=3
    ·subst h3;rw[aI Z];have hz:=i3 Z;obtain⟨m,rfl⟩:∃m:Nat,z=(m:Int):=⟨z.toNat,om⟩;by_cases hm:m<=s0.w.kinds.length
     ·obtain⟨ka,kg,_⟩:=X.ks.kind (k:=m) om hm;refine cI ⟨_,Z,_,Z,_,_,_,_,_,Z,X.obj,T.bj,T.c?,Z,_,_,Z,kg,_,Z,cy ⟨_,_,Z,s3,no ?_⟩⟩;unfold qG;simp;lia
     ·have kg:=X.ks.no (y:=(m:Int)) (.inr om);refine cI ⟨_,Z,_,Z,_,_,_,_,_,Z,X.obj,T.bj,T.c?,Z,_,_,Z,kg,_,Z,cI (yes ?_ H4 s3)⟩;unfold qG;simp;lia
    ·rw[ay h3];refine cy (cy ⟨_,_,Z,s3,no ?_⟩);unfold qG;simp[h3,h4,h5]
 ·rintro σ H2 ⟨v,u,rfl,s2,Gf⟩;rw[cB]at Gf;have:=k H2 s2;rw[Gf]at this;exact this
theorem nP(h:upd (upd H dx o) x o' b=ab):H b=ab:=by
 cases q:H b with
 |none=>rfl
 |some v=>
  by_cases e:b=x
  ·rw[e,ak]at h;cases h
  ·rw[aZ e]at h;by_cases e2:b=dx
   ·rw[e2,ak]at h;cases h
   ·rw[aZ e2,q]at h;cases h
theorem Qx{t:eP}{H H':Hp}{ro:Role}{x dx N Cs Ss As:ao}{l:xC}{q:bu}(nx:H x=ab)(nd:H dx=ab)(hN:IM H ro N l)
 (bt:vE x (upd (upd H dx (.own x)) x (.ins t.Question dx [])) H')
 (e:H' x=aa (.ins t.Question dx (yI (.ref N) (nI q.kind) (.int q.place) (.int (cx q.deep)) (nI q.limit) (.ref Cs) (.ref Ss) (.ref As))))
 (h1:upd (upd H dx (.own x)) x (.ins t.Question dx []) Cs=ab)(h2:upd (upd H dx (.own x)) x (.ins t.Question dx []) Ss=ab)(h3:upd (upd H dx (.own x)) x (.ins t.Question dx []) As=ab)
 (c1:vd (λb=>upd (upd H dx (.own x)) x (.ins t.Question dx []) b=ab) H' Cs (q.conds.map dO))(c2:vd (λb=>upd (upd H dx (.own x)) x (.ins t.Question dx []) b=ab) H' Ss (q.by_.map sortRow))(c3:IL H' As (nz (gX q))):
  QR t H' (qE H ro) x l q:=by
 have s:=gb nx nd bt;exact⟨dx,N,Cs,Ss,As,e,lU nx,⟨s _ _ hN.1,(Br hN.1).trans hN.2⟩,(c1.mono λ_ z=>nP z).lm (nP h1),(c2.mono λ_ z=>nP z).lm (nP h2),⟨c3,lU (nP h3)⟩⟩
theorem Mw{n:Nat}{s:c8}{a:xC}(h:mX (Tw.mk n a)=(eN a).isSome)(g:Tw.Good n s a):∃q,eN a=aa q:=by
 have:=g.ranged;rw[h]at this;exact iH.mp this
theorem qN(w:aO)(l:List dP)(q:bu):(ir w l q).2=(vo w q l (gP q l)).length:=by
 unfold ir vo;rfl
theorem RR{s:c8}{a:xC}{q:bu}(h:eN a=aa q):gz s (Tw.mk 18 a)=(s,[(Vt (gP q s.indexes):Int),Vs (gP q s.indexes),(vo s.w q s.indexes (gP q s.indexes)).length]):=by
 rw[<-qN];show gz s (.plan a)=_;unfold gz;simp only[h]
 cases e:gP q s.indexes with
 |none=>
  unfold ir;rw[e];rfl
 |some b=>rfl
theorem FZ(T:Txt K mg t):(5<*63) ["world","numbers"] (gm t 18):=by
 refine T.f.G63.F.ok2 ["world","numbers","plan"] ?_;obtain⟨W,A0,ro,s0,a,rfl,hS,ok,hA,hg,k⟩;refine⟨_,(ap (bM (i:=2) nd (j9 (y9 T) (hr.mono dk) Z T.f.G37 (ah (pv 0) (ah (lS T.B? (qD T) (hr.mono dk) Z T.zb T.m.G23.b .nil dD (ah (pv 1) ax)) ax))))
  (aH (bo (cn (ah (bb (pv 2) Z) (ah (bb (pv 2) Z) (ah (bF bq Z T.len a9 (ah (bb (pv 2) Z) ax)) ax))))))),?_⟩
 obtain⟨q,hq⟩:=Mw (s:=s0) Z hg;rw[RR hq]at k;refine⟨_,Z,_,Z,λx dx nx ub OH=>⟨x,dx,A0,a,q,Z,ak,ups (aL hA.1 nx) (ups (aL hA.1 ub) hA.1),hq,λH1 Cs Ss As bt e1 n1 n2 n3 c1 c2 c3=>⟨Z,?_⟩⟩⟩;have s1:=gb nx ub bt;have hQ:=Qx (ro:=ro) nx ub hA bt e1 n1 n2 n3 c1 c2 c3;have k1:Kp (λ_=>True) H ro H1 (qE H ro):=Kp.new s1;have ON:B' t H1 (qE H ro) W s0:=WR.kp hS k1;refine⟨W,x,qE H ro,s0.w,s0.indexes,s0.cache,a,q,Z,ON,ok.w,ok.i,hQ,(uI hq).1,λH2 pl dp la s2 e2 aby DE=>?_⟩;refine⟨_,Z,_,_,_,_,_,Z,e2,T.wb,T.xm,Z,_,Z,_,_,_,_,_,Z,e2,T.wb,T.y?,Z,_,Z,_,_,_,_,_,Z,e2,T.wb,T.mL,Z,_,_,Z,.inl (bQ.of DE),(by show 3<=aE;decide),λp hp=>?_⟩;refine k _ (qE H ro) p ((ON.same s2).same (a7.upd hp)) ((k1.mono λ_ _=>trivial).fin (s2.free hp) (s2.trans (a7.upd hp))) ?_;show upd _ _ _ _=_;rw[ak];simp[nz]
theorem HS(h:eN l=aa q): -1<=q.place:=by
 unfold eN at h;split at h
 ·rename_i k p d n m r;split at h
  ·cases h
  ·rename_i EE;have hp: -1<=p:=by
    have:ma k 0 30=ac/\ma p (-1) 200=ac/\ma d 0 1=ac/\ma n 0 200=ac/\ma m 0 6=ac:=by simpa using EE
    exact(eB.mp this.2.1).1
   split at h
   ·split at h
    ·cases h
    ·split at h
     ·cases h;exact hp
     ·cases h
   ·cases h
 ·cases h
theorem BX :∀{l:List dA}{e:dA},l.Pairwise (λa b=>a.asked≠b.asked)->e∈l->e.asked=a->l.find? (λe=>e.asked==a)=aa e
 |[],e,_,h,_=>nomatch h
 |x::l,e,hp,h,ha=>by
  rw[bc]at hp;rcases aF.mp h with rfl|h
  ·rw[cN,ha];simp
  ·have hx:x.asked≠a:=λz=>hp.1 e h (z.trans ha.symm);rw[cN,show(x.asked==a)=ae by simpa using hx];exact BX hp.2 h ha
theorem find_none{a:xC}{l:List dA}(h:∀e∈l,e.asked≠a):l.find? (λe=>e.asked==a)=ab:=by
 rw[OC];intro e he;simpa using h e he
theorem Rc(ok:p8 wd)(h:Tw.Canon (kG wd i.attrs) i.rows)(hn:i.rows.Nodup):(jX q i).Nodup/\∀n∈jX q i,a_ wd n=ac:=by
 have hl:∀r∈i.rows,∃n:Nat,kG wd i.attrs n=aa r/\(r.getLastD 0).toNat=n:=λr hr=>by
  obtain⟨n,hn⟩:=(h.mem r).mp hr;have:=(uH ok hn).2.2;refine⟨n,hn,?_⟩;rw[List.getLastD_eq_getLast?,this];simp
 rw[BL];have DB:∀{f g:xC->Bool},((i.rows.filter f).filter g).Sublist i.rows:=(M_).trans M_;refine⟨?_,λn hn=>?_⟩
 ·unfold xR;rw[dZ];refine List.Pairwise.imp_of_mem (λ{r r'} h1 h2 iQ z=>?_) (hn.sublist DB);obtain⟨n,e1,e2⟩:=hl r (DB.subset h1);obtain⟨m,e3,e4⟩:=hl r' (DB.subset h2);rw[e2,e4]at z;rw[z,e3]at e1;exact iQ (by injection e1 with e1;exact e1.symm)
 ·obtain⟨r,hr,rfl⟩:=aV.mp hn;obtain⟨n,e1,e2⟩:=hl r (DB.subset hr);rw[e2];unfold kG at e1;split at e1
  ·assumption
  ·cases e1
theorem Jk:∀l:xC,dQ l l=ae
 |[]=>rfl
 |a::l=>by simp[dQ,Jk l]
theorem P7(o:Option (Nat×Nat))(ok:p8 wd)(hi:XU wd l):(vo wd q l o).Nodup/\∀n∈vo wd q l o,a_ wd n=ac:=by
 cases o with
 |none=>exact⟨v1 wd,λn h=>cw.mp h⟩
 |some b=>
  show(jX q (l.getD b.1 {attrs:=[],rows:=[]})).Nodup/\∀n∈jX q (l.getD b.1 {attrs:=[],rows:=[]}),_;rw[bD]
  cases e:l[b.1]? with
  |none=>
   have:jX q {attrs:=[],rows:=[]}=[]:=by rw[BL];rfl
   rw[yS,this];exact⟨gu,λ_ h=>nomatch h⟩
  |some i=>
   have hc:=(hi.at_ i (aP e)).2.2.2;exact Rc ok hc (hc.OG.imp λ{a b} z e=>by rw[e,Jk]at z;cases z)
inductive Ef(t:eP)(vs:V2)(H:Hp)(Q:VK)(E:XK):Prop
 |mk(W q la:ao)(ro:Role)(wd:aO)(L:p_)(c:bw)(l:xC)(qq:bu)(ts:V9)(_:vs=[.ref W,.ref q,.ref la])(_:WR t H ro W id wd L c)(_:p8 wd)(_:QR t H ro q l qq)(_: -1<=qq.place)(_:qq.by_.length<=4)(_:IL H la (nz ts))(_:ts.Nodup)(_:(∀n∈ts,a_ wd n=ac))(_:∀H' p,a7 H H'->H p=ab->IL H' p (nz ((kM wd qq.by_ (ts.filter (jP wd qq))).take qq.limit))->Q (.ref p) H')
theorem Po{W dx kd td il ca:ao}(X:WA t H ro W dx kd td il ca fz wd L c)(k:Kp zo H ro H' ro')(h:DS t H' ro' ca c'):WA t H' ro' W dx kd td il ca fz wd L c':=by
 have n3:∀{x:Tag},x≠.cache->x≠.xA->x≠.entry->zo x:=λa b c=>⟨a,b,c⟩;obtain⟨e1,r1⟩:=k W _ X.obj (by rw[X.vn];exact n3 nofun nofun nofun);exact⟨e1,r1.trans X.vn,X.ks.kp k (n3 nofun nofun nofun) (n3 nofun nofun nofun) (λ_=>n3 nofun nofun nofun),X.ts.kp k (n3 nofun nofun nofun) (λ_ _=>n3 nofun nofun nofun) (λ_ _=>n3 nofun nofun nofun),X.ix.kp k (n3 nofun nofun nofun) (n3 nofun nofun nofun) (λ_=>n3 nofun nofun nofun) (λ_=>n3 nofun nofun nofun),h⟩
theorem BD(h:xI x):zo x:=by
 rcases h with rfl|rfl
 ·exact⟨nofun,nofun,nofun⟩
 ·exact⟨nofun,nofun,nofun⟩
theorem Jp{s:c8}{a:xC}{q:bu}{e:dA}(h:eN a=aa q)(hf:s.cache.entries.find? (λe=>e.asked==a)=aa e):gz s (Tw.mk 17 a)=({s with cache:=U1 s.cache a},1::0::dG (Vbwsad.ints e.answer)):=by
 show gz s (.ask a)=_;unfold gz;simp only[h,hf]
theorem Gx{s:c8}{a:xC}{q:bu}(h:eN a=aa q)(hf:s.cache.entries.find? (λe=>e.asked==a)=ab):gz s (Tw.mk 17 a)=({s with cache:=OY s.cache a q (ir s.w s.indexes q).1},0::((vo s.w q s.indexes (gP q s.indexes)).length:Int)::dG (Vbwsad.ints (ir s.w s.indexes q).1)):=by
 rw[<-qN];show gz s (.ask a)=_;unfold gz;simp only[h,hf]
theorem Rr(w:aO)(l:List dP)(q:bu):(ir w l q).1=(kM w q.by_ ((vo w q l (gP q l)).filter (jP w q))).take q.limit:=by
 unfold ir vo;rfl
theorem Ij(T:Txt K mg t)(hs:(5<*41) ["world","question","looked_at"] (Ef t)):(6<*62) ["world","numbers"] (gm t 17):=by
 refine T.f.G62.F.ok2 ["world","numbers","question","kept","looked_at","found"] ?_;obtain⟨W,A0,ro,s0,a,rfl,hS,ok,hA,hg,k⟩;refine⟨_,(ap (bM (i:=2) nd (lS T.B? (qD T) (hr.mono dk) Z T.zb T.m.G23.b .nil dD (ah (pv 1) ax)))
  (ap (bM (i:=3) nd (cZ (bb (pv 0) Z) T.cp T.m.G2.me (ua T) (hr.mono dk) T.m.G2.b .nil dD (ah (pv 2) ax)))
  (ap (de (bR L3 (pv 3) ou (bU _)) (aH (bo (fY rL (cn (ah aN (ah aN ax))) (j9 (jj T) (hr.mono dk) Z T.f.G42 (ah (pv 3) ax))))) bS)
  (ap (bM (i:=4) nd (bb (j9 (y9 T) (hr.mono dk) Z T.f.G37 (ah (pv 0) (ah (pv 2) ax))) Z))
  (ap (bM (i:=5) nd (j9 hs (hr.mono dk) Z T.f.G41 (ah (pv 0) (ah (pv 2) (ah (pv 4) ax)))))
  (ap (cv (cZ (bb (pv 0) Z) T.cp T.m.G3.me (Dt T) (hr.mono dk) T.m.G3.b .nil dD (ah (pv 2) (ah (pv 5) ax))))
  (aH (bo (fY rL (cn (ah aN (ah (bF bq Z T.len a9 (ah (pv 4) ax)) ax))) (j9 (jj T) (hr.mono dk) Z T.f.G42 (ah (pv 5) ax))))))))))),?_⟩
 obtain⟨q,hq⟩:=Mw (s:=s0) Z hg;refine⟨_,Z,λx dx nx ub OH=>⟨x,dx,A0,a,q,Z,ak,ups (aL hA.1 nx) (ups (aL hA.1 ub) hA.1),hq,λH1 Cs Ss As bt e1 n1 n2 n3 c1 c2 c3=>⟨Z,?_⟩⟩⟩;have s1:=gb nx ub bt;have hQ:=Qx (ro:=ro) nx ub hA bt e1 n1 n2 n3 c1 c2 c3;have k1:Kp (λ_=>True) H ro H1 (qE H ro):=Kp.new s1;have ON:B' t H1 (qE H ro) W s0:=WR.kp hS k1;generalize qE H ro=kr at hQ k1 ON;obtain⟨ab4,kd,td,il,ca,X⟩:=id ON;obtain⟨dc,el,mB,C⟩:=id X.ca;refine⟨_,Z,_,_,_,_,_,Z,X.obj,T.bj,T.eK,Z,_,_,_,Z,C.obj,Z,_,Z,ca,x,kr,s0.cache,a,q,Z,X.ca,ok.c,hQ,?_,?_⟩
 ·intro e H2 A1 he Ra aed k2 N1;rw[Jp hq (BX ok.c.asked he Ra)]at k;have h200:=(ok.c.ent e he).RP;have X2:=Po X k2 aed;refine⟨_,Z,Z,_,Z,cI ⟨(by show 2<=aE;decide),λl hl=>⟨_,Z,A1,nz e.answer,Z,?_,?_,λH3 p s3 np hp=>⟨_,_,_,_,Z,Z,s3 _ _ ak,hp,?_,λr hr=>?_⟩⟩⟩⟩
  ·exact N1.1.same (a7.upd hl)
  ·rw[af];lia
  ·rw[af];unfold dG nz;rw[aJ,af];exact aB (m:=1000) (by simp;lia) dk
  ·have s4:∀o,a7 H2 (upd H3 r o):=λo=>((a7.upd hl).trans s3).trans (a7.upd hr);refine k _ kr r (B'.same ⟨ab4,kd,td,il,ca,X2⟩ (s4 _)) (((k1.mono λ_ _=>trivial).trans (k2.mono λ_ z=>BD z)).fin (((a7.upd hl).trans s3).free hr) (s4 _)) ?_;show upd _ _ _ _=_;rw[ak];rfl
 ·intro Gf H2 aed k2;rw[Gx hq (find_none Gf)]at k;have X2:=Po X k2 aed;have VM:zo .ln:=⟨nofun,nofun,nofun⟩;have ad':=hQ.kp k2 VM;obtain⟨OK,BI⟩:=P7 (q:=q) (gP q s0.indexes) ok.w ok.i;refine⟨_,Z,Z,_,Z,cy ⟨_,Z,_,Z,W,x,kr,s0.w,s0.indexes,_,a,q,Z,⟨ab4,kd,td,il,ca,X2⟩,ok.w,ok.i,ad',(uI hq).1,λH3 pl dp la s3 e3 aby DE=>?_⟩⟩;have hW3:WR t H3 kr W id s0.w (qV s0.w s0.indexes) _:=WR.same ⟨ab4,kd,td,il,ca,X2⟩ s3;refine⟨_,_,_,_,_,Z,e3,T.wb,T.mL,Z,_,Z,_,Z,_,Z,W,x,la,kr,s0.w,_,_,a,q,_,Z,hW3,ok.w,ad'.same s3,HS hq,(uI hq).2,DE,OK,BI,λH4 p s4 np hp=>?_⟩;rw[<-Rr]at hp;have s24:=s3.trans s4;have k4:Kp (λ_=>True) H2 kr H4 (qE H2 kr):=Kp.new s24;have Gd:qE H2 kr p= .ln:=lU (s3.free np);have ZZ:qE H2 kr la= .ln:=lU aby;generalize qE H2 kr=nF at k4 Gd ZZ;have Yy:WR t H4 nF W id s0.w (qV s0.w s0.indexes) _:=WR.kp ⟨ab4,kd,td,il,ca,X2⟩ k4;obtain⟨aeq,Yb,XZ,Yd,XN,X4⟩:=id Yy;obtain⟨dc4,el4,eas4,C4⟩:=id X4.ca;have c6:(ir s0.w s0.indexes q).1.length<=200:=aB (Tw.qN _ _ _) (lQ hq).1;refine⟨_,Z,_,_,_,_,_,Z,X4.obj,T.bj,T.eK,Z,_,_,_,Z,C4.obj,Z,_,Z,_,Z,XN,x,p,nF,_,a,q,(ir s0.w s0.indexes q).1,Z,X4.ca,ok.c.tick,hq,ad'.kp k4 trivial,⟨hp,Gd⟩,λH5 Sg hC5 k5=>?_⟩;have X5:=Po X4 k5 hC5;have adH:IL H5 la (nz (vo s0.w q s0.indexes (gP q s0.indexes))):=(k5 _ _ (s4 _ _ DE) (by rw[ZZ];exact VM)).1;have VL:IL H5 p (nz (ir s0.w s0.indexes q).1):=(k5 _ _ hp (by rw[Gd];exact VM)).1;refine⟨_,Z,_,_,Z,.inl (bQ.of adH),(by show 2<=aE;decide),λl hl=>⟨_,Z,p,nz (ir s0.w s0.indexes q).1,Z,VL.same (a7.upd hl),?_,λH6 p6 s6 np6 VJ=>⟨_,_,_,_,Z,Z,s6 _ _ ak,VJ,?_,λr hr=>?_⟩⟩⟩
  ·rw[af];lia
  ·rw[af];unfold dG nz;rw[aJ,af];exact aB (m:=1000) (by simp;lia) dk
  ·have s7:∀o,a7 H5 (upd H6 r o):=λo=>((a7.upd hl).trans s6).trans (a7.upd hr);have k05:Kp xI H ro H5 Sg:=(((k1.mono λ_ _=>trivial).trans (k2.mono λ_ z=>BD z)).trans (k4.mono λ_ _=>trivial)).trans (k5.mono λ_ z=>BD z);refine k _ Sg r (B'.same ⟨aeq,Yb,XZ,Yd,XN,X5⟩ (s7 _)) (k05.fin (((a7.upd hl).trans s6).free hr) (s7 _)) ?_;show upd _ _ _ _=_;rw[ak];simp[nz,Vbwsad.ints]
inductive R5(P:ba)(w:br)(K:aj)(mg:bV->Option ai)(base:bO)(k:Nat)(f:ao)(sp:Sp):Prop
 |mk(fd ps:_)(_:cD P w K mg base gr k f fd ps sp)(_:lH K (.ref f)=ac)(_:Binds K fd ps [])
inductive afj(P:ba)(w:br)(K:aj)(mg:bV->Option ai)(base:bO)(k:Nat)(E:XK)(t:TA)(σ:L2.St)(Q:VK)(v:V)(H1:Hp):Prop
 |mk(f sp:_)(_:v= .ref f)(_:R5 P w K mg base k f sp)(_:t σ H1 λvs H2=>sp vs H2 Q E)
def Wq(P:ba)(w:br)(K:aj)(mg:bV->Option ai)(base:bO)(k:Nat)(E:XK)(tf:TE)(t:TA):TE:=λσ H Q=>tf σ H (afj P w K mg base k E t σ Q)
section
variable{X:Cx}{k:Nat}{E:XK}{pos:ku}{e fn:Expr}{es:List Expr}{tf:TE}{t:TA}
theorem Qb(hr:kL k X.A)(hx:Passes gr X E)(hf:PE X fn tf)(ha:PA X (e::es) t)
 (hc:eval (.Call fn (e::es) [] pos) X.env=(do callWith pos (<-eval fn X.env) [] (jC pos (bX (e::es) X.env)) (uW pos (mR [] X.env))):=by rfl)
 (he:bX (e::es) X.env=(ae,eval e X.env)::bX es X.env:=by rfl)(qg:(jC pos (bX es X.env)).any (·.1)=ae:=by rfl):
  PE X (.Call fn (e::es) [] pos) (Wq X.prog X.w X.K X.mg X.base k E tf t):=by
 intros;refine PyProof.Rows.Call_ (ga (hf pins s σ H _ I h) λu s1 ⟨v,H1,I1,rv,f,sp,ev,⟨fd,ps,F,hk,hb⟩,q⟩=>?_) hc;subst ev;obtain rfl:u=bn f:=rv;refine nX (h₀:=X.base) I.ok.mod.Ya hk (ga (ha pos pins s1 σ H1 _ I1 q) λus s2 ⟨vs,H2,I2,r,q2⟩=>⟨I2.IE,?_⟩) he qg;exact FO F hr hb .nil hx I2 r (by rw[eQ];exact q2)
end
inductive Cl(P:ba)(w:br)(K:aj)(mg:bV->Option ai)(base:bO)(t:eP):Prop
 |mk(fs:Nat->ao)(_:(∀H,tE K H (t.g 3) ((cF 24).map λi=>V.ref (fs i))))(_:∀n,n<24->R5 P w K mg base 7 (fs n) (gm t n))
theorem Uf(h:kh c a=ac):MT c a:=by
 intro x hx;have:=dC.mp h x hx;have h1:(dN x.1).1<=x.2:=by
  rw[aK]at this;exact i6 this.1
 refine⟨λe=>?_,λe=>?_,λe=>?_⟩<;>· rw[e]at h1;exact h1
theorem KU(h:kO c a=ac):MT c a:=by
 unfold kO at h;have one:∀{z:Nat},z<3->c=[z]->MT c a:=λ{z} hz e x hx=>by
  rw[e]at hx;have:x.1=z:=by
   cases a with
   |nil=>simp at hx
   |cons b r=>simp at hx;rw[hx]
  exact⟨λq=>by lia,λq=>by lia,λq=>by lia⟩
 by_cases h0:c=[0]
 ·exact one dk h0
 ·by_cases h1:c=[1]
  ·exact one dk h1
  ·by_cases h2:c=[2]
   ·exact one dk h2
   ·rw[aw h0,aw h1,aw h2]at h;exact Uf h
inductive AN(t:eP)(vs:V2)(H:Hp)(Q:VK)(E:XK):Prop
 |mk(W Rw:ao)(ro:Role)(s:c8)(l:xC)(_:vs=[.ref W,.ref Rw])(_:B' t H ro W s)(_:wf s)(_:IL H Rw l)(_:MU t H ro W (lw s l) Q)
theorem Bo(T:Txt K mg t)(R:Tb P w K t)(hc:Cl P w K mg base t):(8<*70) ["world","row"] (AN t):=by
 refine T.f.G70.F.ok2 ["world","row","form","arguments"] ?_;obtain⟨W,Rw,ro,s0,l,rfl,hS,ok,hl,k⟩;refine⟨_,(ap (de (oo (hJ (j9 (FX T R) (hr.mono dk) Z T.f.G10 (ah (pv 1) ax)))) (aH (bo (cn (ah (jJ gU aN) ax)))) bS)
  (ap (bM (i:=2) nd (cu v7 (kH Z T.g.Jt) (cu bP (pv 1) aN (λ_ _=>rfl)) (λ_ _=>rfl)))
  (ap (bM (i:=3) nd (j9 (zM T R) (hr.mono dk) Z T.f.G11 (ah (pv 1) ax)))
  (ap (de (oo (hJ (j9 (Bl T R) (hr.mono dk) Z T.f.G14 (ah (pv 2) (ah (pv 3) ax))))) (aH (bo (cn (ah (jJ gU aN) ax)))) bS)
  (ap (de (hJ (j9 (yr T) (hr.mono dk) Z T.f.G69 (ah (pv 0) (ah (pv 2) (ah (pv 3) ax))))) (aH (bo (cn (ah (jJ gU aN) ax)))) bS)
  (aH (bo (Qb (k:=7) (hr.mono dk) dD (cu v7 (kH Z T.g.aa?) (cu bP (pv 1) aN (λ_ _=>rfl)) (λ_ _=>rfl)) (ah (pv 0) (ah (pv 3) ax)))))))))),?_⟩
 rw[MF]at k;refine⟨_,Z,Rw,l,Z,hl,_,Z,?_⟩
 cases Ys:ja l with
 |false=>
  rw[Ys,aC Z]at k;exact cI ⟨_,Z,(by show 1<=aE;decide),λp hp=>dr hS k _ p (a7.upd hp) hp ak⟩
 |true=>
  rw[Ys,aw (by simp)]at k;obtain⟨G',h0,c6⟩:=v8 Ys;obtain⟨fs,hfs,aaj⟩:=hc;obtain⟨fa,hF,hf⟩:=R.pG;obtain⟨n,r,rfl⟩:∃(n:Nat)(r:xC),l=(n:Int)::r:=by
   cases l with
   |nil=>cases Ys
   |cons p r=>exact⟨p.toNat,r,by rw[du (show 0<=p from h0)]⟩
  rw[show(((n:Int)::r).headD 0).toNat=n from aG n]at k G' c6;have nn:H Rw=aa (.lst (V.int (n:Int)::r.map V.int)):=hl;refine cy ⟨_,Z,_,_,_,_,Z,Z,bQ.of nn,sR,_,_,_,_,Z,Z,hF H,xw (H:=H) G',_,Z,Rw,n,r,Z,hl,G',λH1 A1 s1 nA1 N1=>?_⟩;have Z7:Kp (λ_=>True) H ro H1 (qE H ro):=Kp.new s1;have aaA:qE H ro A1= .ln:=lU nA1;generalize qE H ro=kr at Z7 aaA;have ON:B' t H1 kr W s0:=WR.kp hS Z7;generalize kj ((n:Int)::r)=a at k c6 N1;refine⟨_,Z,_,Z,fa n,A1,n,a,Z,hf n G' H1,G',N1,λH2 s2=>⟨_,Z,?_⟩⟩;have kk:∀{r:xC},MU t H ro W (s0,r) Q->∀H' p,a7 H1 H'->H1 p=ab->IL H' p r->Q (.ref p) H':=λk H' p s' h0 hp=>k H' kr p (ON.same s') ((Z7.mono λ_ _=>trivial).fin h0 s') hp
  cases Mn:kO (bJ n) a with
  |false=>
   rw[Mn,aC Z]at k;exact cI ⟨_,Z,(by show 1<=aE;decide),λp hp=>kk k _ p (s2.up hp) (s2.free hp) ak⟩
  |true=>
   rw[Mn,aw (by simp)]at k;refine cy ⟨_,Z,_,Z,_,Z,W,fa n,A1,kr,s0,n,a,Z,ON.same s2,hf n G' H2,G',N1.same s2,KU Mn,λH3 s3=>⟨_,Z,?_⟩⟩;have u_:=s2.trans s3
   cases adx:fJ s0.w (bJ n) a with
   |true=>
    rw[adx,aC Z]at k;exact cI ⟨_,Z,(by show 1<=aE;decide),λp hp=>kk k _ p (u_.up hp) (u_.free hp) ak⟩
   |false=>
    rw[adx,aw (by simp)]at k;refine cy ⟨_,Z,_,_,_,_,Z,Z,bQ.of (u_ _ _ (s1 _ _ nn)),sR,_,_,_,_,Z,Z,hfs H3,xw (H:=H3) G',fs n,gm t n,Z,aaj n G',_,Z,_,Z,W,A1,kr,s0,a,Z,ON.same u_,ok,⟨N1.same u_,aaA⟩,⟨G',c6,Mn,adx⟩,?_⟩;have kA:Kp xI H ro H3 kr:=(Z7.mono λ_ _=>trivial).trans (Kp.same u_);exact λH' ro' p h1 h2 h3=>k H' ro' p h1 ⟨kA.trans h2.1,λo e q=>h2.2 o (kA _ _ e q).1 (by rw[(kA _ _ e q).2];exact q)⟩ h3
open Vbwsad in
theorem Aq :∀{l:List xC},(∀x∈l,x.length<=c)->l.flatten.length<=c*l.length
 |[],_=>by simp
 |x::l,h=>by
  have h1:=h x (by simp);have h2:=Aq λy hy=>h y (aD _ hy);rw[d8,aQ,aJ,Nat.mul_add];lia
theorem Tz(h:DQ l):l.length<=16:=by
 have hn:(l.map (·.1)).Nodup:=by
  unfold xR;rw[dZ];exact h.up.imp λ{a b} z=>by lia
 have:=m8 hn (r:=cF 16) λx hx=>by
  obtain⟨p,hp,rfl⟩:=aV.mp hx;have:=h.le p hp;exact fi.mpr om
 simpa using this
section
open Vbwsad
variable{s:c8}
theorem tQ{t:Int}{k:Nat->c8×xC}(h:∀u,a_ s.w u=ac->(k u).2.length<=5000):(eM s t k).2.length<=5000:=by
 unfold eM;split
 ·simp
 ·rename_i hn;exact h _ (by simpa using hn)
theorem kd_len{t:Int}{k:Nat->c8×xC}(h:t<=s.w.kinds.length->(k t.toNat).2.length<=5000):(jk s t k).2.length<=5000:=by
 unfold jk;split
 ·simp
 ·exact h om
theorem WL(h:(f (ps.map fj)).2.length<=5000):(qZ s ps f).2.length<=5000:=by
 unfold qZ;split
 ·simp
 ·split
  ·simp
  ·exact h
theorem mM(h:l.length<=4000):(dG (Vbwsad.ints l)).length<=5000:=by
 unfold dG Vbwsad.ints;rw[aJ,af];lia
theorem Ed:∀(n:Nat)(ls:List V9),(stuck n ls).length<=ls.length
 |0,ls=>by unfold stuck;simp
 |n+1,ls=>by
  unfold stuck;split
  ·simp
  ·split
   ·exact GO _ _
   ·rename_i x _;refine aB (Ed n _) ?_;unfold e?;exact aB (bx _ _) (by rw[af];exact aS _)
theorem US(h:wf s){x:Vbwsad.Call}(hr:mX x=ac)(c6:∀q,x= .ask q->q.length<=60):(gz s x).2.length<=5000:=by
 have Yf:=rE h hr c6;have pl:=aB (gM s.w) h.w.tl
 cases x with
 |kind ps=>
  simp only[gz,qZ]at Yf ⊢;split
  ·simp
  ·split
   ·simp
   ·split
    ·simp
    ·rename_i h1 h2 h3;rw[aw h1,aw h2,aw h3]at Yf;split
     ·simp
     ·rename_i o e;rw[e]at Yf;have:=Yf.w.Bf (k:=s.w.kinds.length+1) om (by simp);refine mM ?_;unfold cS at this;simp at this;lia
 |order k=>
  refine kd_len λhk=>mM ?_;have Z7:1<=k:=(eB.mp (show ma k 1 30=ac from hr)).1;have:=h.w.Bf (k:=k.toNat) om om;lia
 |why ps=>
  refine WL (mM (aB (Ed _ _) ?_));have hl:ps.length<=6:=by
   have:(decide (ps.length<=6)&&ps.all JT)=ac:=hr;rw[aK]at this;exact i6 this.1
  unfold rowsOfOrders;refine aB (bx _ _) ?_;simp;lia
 |default_ k a x=>exact kd_len λ_=>(by decide:(1:Nat)<=5000)
 |undefault k a=>
  refine kd_len λ_=>?_;split
  ·exact(by decide:(1:Nat)<=5000)
  ·exact(by decide:(1:Nat)<=5000)
 |make k hh=>
  refine kd_len λ_=>?_;split
  ·exact(by decide:(1:Nat)<=5000)
  ·split
   ·exact(by decide:(1:Nat)<=5000)
   ·exact(by decide:(1:Nat)<=5000)
 |drop t d=>
  refine tQ λ_ _=>?_;simp only;split
  ·exact(by decide:(1:Nat)<=5000)
  ·exact(by decide:(1:Nat)<=5000)
 |set t a x=>exact tQ λ_ _=>(by decide:(1:Nat)<=5000)
 |unset t a=>
  refine tQ λ_ _=>?_;split
  ·exact(by decide:(1:Nat)<=5000)
  ·exact(by decide:(1:Nat)<=5000)
 |get t a=>
  refine tQ λ_ _=>?_;simp only;split
  ·exact(by decide:(3:Nat)<=5000)
  ·exact(by decide:(3:Nat)<=5000)
 |move t hh=>
  refine tQ λ_ _=>?_;split
  ·exact(by decide:(1:Nat)<=5000)
  ·split
   ·exact(by decide:(1:Nat)<=5000)
   ·exact(by decide:(1:Nat)<=5000)
 |held t=>
  show(if _ then _ else _:c8×xC).2.length<=5000;split
  ·exact(by decide:(1:Nat)<=5000)
  ·refine mM (aB ?_ (aB pl dk));unfold cf;exact bx _ _
 |inside t=>
  show(if _ then _ else _:c8×xC).2.length<=5000;split
  ·exact(by decide:(1:Nat)<=5000)
  ·exact mM (aB (oF h.w.tree _) (aB h.w.tl dk))
 |holders t=>exact tQ λu hu=>mM (aB (uq h.w.tree hu) (aB h.w.tl dk))
 |index l=>
  show(if _ then _ else _:c8×xC).2.length<=5000;split
  ·exact(by decide:(1:Nat)<=5000)
  ·split
   ·exact(by decide:(1:Nat)<=5000)
   ·exact(by decide:(1:Nat)<=5000)
 |unindex i=>
  show(if _ then _ else _:c8×xC).2.length<=5000;split
  ·exact(by decide:(1:Nat)<=5000)
  ·exact(by decide:(1:Nat)<=5000)
 |rows i=>
  unfold gz;simp only;split
  ·exact(by decide:(1:Nat)<=5000)
  ·rename_i x e;obtain⟨h1,h3,_,hc⟩:=h.i.at_ x (aP e);have VG:x.rows.length<=201:=qR hc (tX _ _) λn r hr=>(uH h.w hr).1;have:=Aq (c:=4) (l:=x.rows) λr hr=>by
    obtain⟨n,hn⟩:=(hc.mem r).mp hr;have:=(uH h.w hn).2.1;lia
   simp only[aJ];lia
 |ask l=>
  unfold gz;simp only;split
  ·exact(by decide:(1:Nat)<=5000)
  ·rename_i q hq;split
   ·rename_i e he;have:=(h.c.ent e (qd he)).RP;simp[dG,Vbwsad.ints];lia
   ·have:=aB (Tw.qN s.w s.indexes q) (lQ hq).1;simp[dG,Vbwsad.ints];lia
 |plan l=>
  unfold gz;simp only;split
  ·exact(by decide:(1:Nat)<=5000)
  ·simp only;split
   ·exact(by decide:(3:Nat)<=5000)
   ·exact(by decide:(3:Nat)<=5000)
 |cache r n=>exact(by decide:(1:Nat)<=5000)
 |stats=>exact(by decide:(5:Nat)<=5000)
 |entries=>
  unfold gz;simp only[aJ];have hl:=aB h.c.len h.c.most;have:=Aq (c:=70) (l:=s.cache.entries.map λe=>dG e.asked++[(e.made:Int),e.used]) λr hr=>by
   obtain⟨e,he,rfl⟩:=aV.mp hr;have:=(h.c.ent e he).ask;simp[dG];lia
  rw[af,<-sh]at this;lia
 |thing t=>
  refine tQ λu hu=>?_;have:=Tz (h.w.own u hu);have h2:=Aq (c:=2) (l:=(bh s.w u).own.map λp=>[(p.1:Int),p.2]) λr hr=>by
   obtain⟨e,he,rfl⟩:=aV.mp hr;simp
  rw[af,<-sh]at h2;simp only[dG,aQ,aJ,tJ];lia
 |isa t k=>exact tQ λ_ _=>kd_len λ_=>(by decide:(1:Nat)<=5000)
end
def c7(rows:List xC):xC:=rows.flatMap λr=>0::(r.length:Int)::r
def toldOf(l:List xC):xC:=l.flatMap λa=>(a.length:Int)::a
theorem UP(l:xC):(kj l).length<=l.length:=by
 unfold kj;split
 ·simp
 ·split
  ·simp only[gj,aJ];lia
  ·simp
theorem WX(e:Tw.mk n a= .ask q):q=a:=by
 by_cases h:n<24
 ·match n,h with
  |17,_=>cases e;rfl
  |0,_|1,_|2,_|3,_|4,_|5,_|6,_|7,_|8,_|9,_|10,_|11,_|12,_|13,_|14,_|15,_|16,_|18,_|19,_|20,_|21,_|22,_|23,_=>rcases a with _|⟨_,_|⟨_,_|⟨_,_|_⟩⟩⟩<;>cases e
 ·obtain⟨k,rfl⟩:∃k,n=k+24:=⟨n - 24,om⟩
  cases e
theorem UJ{s:c8}(h:wf s){l:xC}(hl:l.length<=60):wf (lw s l).1/\(lw s l).2.length<=5000:=by
 rw[MF]
 cases Ys:ja l with
 |false=>rw[aC Z];exact⟨h,by simp⟩
 |true=>
  rw[aw (by simp)];obtain⟨G',h0,c6⟩:=v8 Ys;generalize (l.headD 0).toNat=n at G' c6;have ha:=aB (UP l) hl;generalize kj l=a at c6 ha
  cases Mn:kO (bJ n) a with
  |false=>rw[aC Z];exact⟨h,by simp⟩
  |true=>
   rw[aw (by simp)];split
   ·exact⟨h,by simp⟩
   ·have hr:mX (Tw.mk n a)=ac:=by rw[yl G' c6];exact Mn
    have hq:∀q,Tw.mk n a= .ask q->q.length<=60:=λq e=>by rw[WX e];exact ha
    exact⟨rE h hr hq,US h hr hq⟩
theorem xy(a b:List xC):c7 (a++b)=c7 a++c7 b:=gL
theorem qM(r:xC)(b:List xC):c7 (r::b)=0::(r.length:Int)::(r++c7 b):=by
 unfold c7;rw[gC];rfl
theorem Ar  :(c7 (done++r::rest))[(c7 done).length+1]? =aa (r.length:Int):=by
 rw[xy,jZ om,qM,show(c7 done).length+1 - (c7 done).length=1 by lia];rfl
theorem Rp  :((c7 (done++r::rest)).take ((c7 done).length+2+r.length)).drop ((c7 done).length+2)=r:=by
 rw[xy,qM];have:c7 done++0::(r.length:Int)::(r++c7 rest)=(c7 done++[0,(r.length:Int)])++(r++c7 rest):=by simp
 rw[this];have hl:(c7 done++[0,(r.length:Int)]).length=(c7 done).length+2:=by simp
 rw[<-hl,oP,List.drop_left,U9]
theorem N_  :(c7 (done++[r])).length=(c7 done).length+2+r.length:=by
 rw[xy,aQ,qM];simp[c7];lia
theorem PD{H:Hp}{ro:Role}{W a:ao}{s:c8}{o:HO}(h:B' t H ro W s)(ha:ro a= .thing 0):B' t (upd H a o) ro W s:=by
 have k:Kp (· ≠.thing 0) H ro (upd H a o) ro:=Kp.put ha;obtain⟨dx,kd,td,il,ca,X⟩:=h;obtain⟨e1,r1⟩:=k W _ X.obj (by rw[X.vn];exact nofun);have n0:∀n,a_ s.w n=ac->Tag.thing n≠.thing 0:=λn hn z=>by
  have:=(b? hn).1;injection z with z
  lia
 exact⟨dx,kd,td,il,ca,e1,r1.trans X.vn,X.ks.kp k nofun nofun (λ_=>nofun),X.ts.kp k nofun (λn hn=>n0 n hn) (λ_ _=>nofun),X.ix.kp k nofun nofun (λ_=>nofun) (λ_=>nofun),X.ca.kp k nofun nofun nofun nofun⟩
def Seen(K:aj)(H:Hp)(ro:Role)(C:ao)(xs:V2):Prop:=(∃ob,H C=aa ob/\ro C= .ln/\∀H':Hp,H' C=aa ob->bQ K H' C xs)\/∀H':Hp,bQ K H' C xs
theorem Seen.sq(h:Seen K H ro C xs):bQ K H C xs:=by
 rcases h with⟨ob,e,_,f⟩|h
 ·exact f H e
 ·exact h H
theorem Seen.kp{P:Tag->Prop}(h:Seen K H ro C xs)(k:Kp P H ro H' ro')(q:P .ln):Seen K H' ro' C xs:=by
 rcases h with⟨ob,e,r,f⟩|h
 ·obtain⟨e',r'⟩:=k C ob e (by rw[r];exact q);exact .inl ⟨ob,e',r'.trans r,f⟩
 ·exact .inr h
inductive rC(K:aj)(vs:V2)(H:Hp)(Q:VK)(E:XK):Prop
 |mk(C:ao)(rows:List xC)(_:vs=[.ref C])(_:bQ K H C ((c7 rows).map V.int))(_:(∀r∈rows,r.length<=60))(_:rows.length<=300)(_:∀H' p,IL H' p (toldOf (Cc rows))->Q (.ref p) H')
theorem Kz(T:Txt K mg t)(R:Tb P w K t)(hc:Cl P w K mg base t):(9<*90) ["calls"] (rC K):=by
 refine T.f.G90.F.ok2 ["calls","world","answered","start","end","answer"] ?_;obtain⟨C,rows,rfl,hC,aaB,aaC,k⟩;refine⟨_,(ap (bM (i:=1) nd (P9 T.UV (Dn T) (hr.mono dk) Z T.Qr T.m.G76.b .nil dD))
  (ap (bM (i:=2) nd (cn ax))
  (ap (bM (i:=3) nd aN)
  (ap (qy bY (bR Bh (pv 3) (bF bq Z T.len a9 (ah (pv 0) ax)) (bU _))
  (ap (bM (i:=4) nd (fY j_ (fY j_ (pv 3) aN) (cu bP (pv 0) (fY j_ (pv 3) aN) (λ_ _=>rfl))))
  (ap (bM (i:=5) nd (j9 (Bo T R hc) (hr.mono dk) Z T.f.G70 (ah (pv 1) (ah (iM lP (pv 0) (gZ (fY j_ (pv 3) aN)) (gZ (pv 4))) ax))))
  (ap (cv (jK bp dF dE jS (pv 2) (ah (bF bq Z T.len a9 (ah (pv 5) ax)) ax)))
  (ap (cv (jK bp ej ei li (pv 2) (ah (pv 5) ax)))
  (aH (bM (i:=3) nd (pv 4))))))))
  (aH (bo (pv 2))))))),?_⟩
 refine λx dx nx ub OH=>⟨x,dx,Z,ak,λH1 kr hW bt JK=>⟨Z,?_⟩⟩;have s1:=gb nx ub bt;have Xc:(∃ob,H C=aa ob/\∀H':Hp,H' C=aa ob->bQ K H' C ((c7 rows).map V.int))\/∀H':Hp,bQ K H' C ((c7 rows).map V.int):=by
  rcases hC with(h|⟨o,h⟩)|h
  ·exact .inl ⟨_,h,λH' e=>.inl (.inl e)⟩
  ·exact .inl ⟨_,h,λH' e=>.inl (.inr ⟨o,e⟩)⟩
  ·exact .inr λ_=>.inr h
 have hSe:Seen K H1 kr C ((c7 rows).map V.int):=Xc.imp (λ⟨ob,h,f⟩=>⟨ob,s1 _ _ h,JK C _ (by rw[aZ (aL h nx),aZ (aL h ub)];exact h) (aL h nx),f⟩) id;refine⟨(by show 0<=aE;decide),λAd abW=>?_⟩;have k2:Kp (λ_=>True) H1 kr (upd H1 Ad (.lst [])) (i8 kr Ad (.thing 0)):=λb o e _=>⟨a7.upd abW b o e,fI (aL e abW)⟩;have aaq:B' t (upd H1 Ad (.lst [])) (i8 kr Ad (.thing 0)) x U3:=WR.kp (c:={}) hW λb o e _=>⟨a7.upd abW b o e,fI (aL e abW)⟩;refine⟨λm σ H'=>∃(done rest:List xC)(s:c8)(ro:Role)(acc:xC)(v4 v5:Option V),σ=[aa (.ref C),aa (.ref x),aa (.ref Ad),aa (nI (c7 done).length),v4,v5]/\rows=done++rest/\m=rest.length/\B' t H' ro x s/\wf s/\Seen K H' ro C ((c7 rows).map V.int)/\IL H' Ad acc/\ro Ad= .thing 0/\acc.length<=5001*done.length/\toldOf (Cc rows)=acc++toldOf (oN s rest),
  ⟨_,[],rows,U3,_,[],ab,ab,Z,Z,Z,aaq,Nt,hSe.kp k2 trivial,ak,fm,by simp,Z⟩,?_⟩
 rintro m σ H3 ⟨done,rest,s3,w6,acc,v4,v5,rfl,vz,rfl,hS,ok,hSC,YA,abH,hal,VD⟩;have aay:=hSC.sq;refine⟨_,Z,_,Z,_,_,Z,.inl (aay),_,_,Z,Z,_,Z,?_⟩;rw[af]
 cases rest with
 |nil=>
  rw[eQ]at vz;rw[vz,ay om];refine cy ⟨_,Z,k H3 Ad ?_⟩;rw[VD];simpa[oN,toldOf]using YA
 |cons r rest=>
  have gO:(c7 done).length<(c7 rows).length:=by
   rw[vz,xy,qM,aQ,aJ];lia
  have adf:r.length<=60:=aaB r (by rw[vz];simp);have hdn:done.length<300:=by
   have:rows.length=done.length+(rest.length+1):=by rw[vz,aQ,aJ]
   lia
  obtain⟨ok4,hl4⟩:=UJ ok adf;rw[aI om];refine cI ⟨_,λ_ _ h=>h,_,Z,_,_,Z,Z,_,Z,_,Z,_,_,Z,Z,_,_,_,_,Z,Z,aay,at_of (j:=(c7 done).length+1) om (by rw[aA,vz,Ar];rfl),_,_,Z,Z,?_⟩;refine⟨_,Z,_,Z,_,Z,_,_,Z,Z,_,Z,_,Z,_,Z,_,_,Z,aay,λp hp=>?_⟩;have Xk:qP ((c7 rows).map V.int) (aa (((c7 done).length:Nat)+2:Int)) (aa (((c7 done).length:Nat)+2+(r.length:Nat):Int))=r.map V.int:=by
   rw[show(((c7 done).length:Nat)+2:Int)=(((c7 done).length+2:Nat):Int) by lia,show((((c7 done).length+2:Nat):Int)+(r.length:Nat))=(((c7 done).length+2+r.length:Nat):Int) by lia,xD,<-k_,<-gn,vz,Rp]
  have s4:a7 H3 (upd H3 p (.lst (qP ((c7 rows).map V.int) (aa (((c7 done).length:Nat)+2:Int)) (aa (((c7 done).length:Nat)+2+(r.length:Nat):Int))))):=a7.upd hp;have Gd:IL (upd H3 p (.lst (qP ((c7 rows).map V.int) (aa (((c7 done).length:Nat)+2:Int)) (aa (((c7 done).length:Nat)+2+(r.length:Nat):Int))))) p r:=by
   show upd _ _ _ _=_;rw[ak,Xk]
  refine⟨x,p,w6,s3,r,Z,hS.same s4,ok,Gd,λH5 Sg A5 hS5 k5 hA5=>?_⟩;have kC:xI .ln:=.inl Z;have kA:xI (.thing 0):=.inr Z;have ad8:Seen K H5 Sg C ((c7 rows).map V.int):=(hSC.kp (P:=λ_=>True) (ro':=w6) (Kp.same s4) trivial).kp k5.1 kC;have aaz:IL H5 Ad acc:=(k5.1 _ _ (YA.same s4) (by rw[abH];exact kA)).1;have QY:Sg Ad= .thing 0:=(k5.1 _ _ (YA.same s4) (by rw[abH];exact kA)).2.trans abH;have nA:A5≠Ad:=λz=>k5.2 _ (by rw[z];exact YA.same s4) (by rw[z,abH];exact kA);refine⟨_,Z,.inl ⟨Z,_,bQ.of aaz⟩,_,Z,_,_,Z,.inl (bQ.of hA5),Ad,_,_,Z,Z,aaz,?_,?_⟩
  ·rw[af];exact aX (m:=5001*300) om dk
  ·refine⟨_,Z,.inl ⟨Z,_,bQ.of ak⟩,_,Z,Ad,A5,_,_,Z,Z,ak,ups nA hA5,?_,?_⟩
   ·rw[aQ,af,af];show acc.length+1+_<=aE;exact aB (m:=5001*301) om dk
   ·refine⟨_,Z,rest.length,ky _,done++[r],rest,(lw s3 r).1,Sg,acc++(((lw s3 r).2.length:Int)::(lw s3 r).2),aa (.int (((c7 done).length:Nat)+2+(r.length:Nat):Int)),aa (.ref A5),?_,by rw[vz];simp,Z,PD (PD hS5 QY) QY,ok4,(ad8.kp (Kp.put QY) nofun).kp (Kp.put QY) nofun,?_,QY,?_,?_⟩
    ·have e:(.int (((c7 done).length:Nat)+2+(r.length:Nat):Int):V)=nI (c7 (done++[r])).length:=by
      rw[N_];exact congrArg V.int om
     rw[<-e];rfl
    ·show upd _ _ _ _=_;rw[ak];simp
    ·rw[aQ,aQ,aJ];simp;lia
    ·rw[VD];simp[oN,toldOf]
theorem Vw(h:∀x∈l,0<=x):l=nz (l.map fj):=by
 unfold nz;rw[bv]
 conv=>lhs;rw[<-jY l]
 refine cg λx hx=>?_;exact(du (h x hx)).symm
theorem UC{s:c8}{a:xC}(g:Tw.Good 14 s a):∃at_:V9,a=nz at_/\a.map fj=at_/\1<=at_.length/\at_.length<=3/\∀x∈at_,x<=15:=by
 have hr:mX (.index a)=ac:=g.ranged;unfold mX at hr;simp only[aK,decide_eq_true_eq,dC]at hr;have YD:∀x∈a,0<=x/\x<=15:=λx hx=>eB.mp (hr.2 x hx);refine⟨a.map fj,Vw λx hx=>(YD x hx).1,Z,?_,?_,λx hx=>?_⟩
 ·rw[af];lia
 ·rw[af];lia
 ·obtain⟨y,hy,rfl⟩:=aV.mp hx;have:=YD y hy;lia
inductive lO(vs:V2)(H:Hp)(Q:VK)(E:XK):Prop
 |mk(A0:ao)(l:V9)(_:vs=[.ref A0])(_:IL H A0 (nz l))(_:l.length<=60)(_:∀H',a7 H H'->Q (.bl (!eh l)) H')
theorem Dj(T:Txt K mg t)(ht:(1<*43) ["numbers"] lO):(6<*59) ["world","attributes"] (gm t 14):=by
 refine T.f.G59.F.ok2 ["world","attributes"] ?_;obtain⟨W,A0,ro,s0,a,rfl,hS,ok,hA,hg,k⟩;refine⟨_,(ap (de (hJ (j9 ht (hr.mono dk) Z T.f.G43 (ah (pv 1) ax))) (aH (bo (cn (ah (jJ gU aN) ax)))) bS)
  (ap (de (bR fZ (bF bq Z T.len a9 (ah (bb (pv 0) Z) ax)) (A? Z T.g.Gy) (bU _)) (aH (bo (cn (ah (jJ gU aN) ax)))) bS)
  (ap (cv (cZ (pv 0) T.bj T.m.G89.me (va T) (hr.mono dk) T.m.G89.b .nil dD (ah (pv 1) ax)))
  (aH (bo (cn (ah (fY Kx (bF bq Z T.len a9 (ah (bb (pv 0) Z) ax)) aN) ax))))))),?_⟩
 obtain⟨at_,rfl,hm,h1,h3,YD⟩:=UC hg;obtain⟨dx,kd,td,il,ca,X⟩:=id hS;obtain⟨is,hI⟩:=id X.ix;have c6:is.length=s0.indexes.length:=by
  have:=dY hI.2.2.2;unfold qV at this;rwa[af]at this
 have he:gz s0 (Tw.mk 14 (nz at_))=if eh at_=ae then(s0,[-3])else if 6<=s0.indexes.length then(s0,[-4])
   else({s0 with indexes:=s0.indexes++[{attrs:=at_,rows:=R8 s0.w at_}]},[(s0.indexes.length:Int)]):=by
  show(if eh ((nz at_).map fj)=ae then _ else _)=_;rw[hm];rfl
 rw[he]at k;refine⟨_,Z,A0,at_,Z,hA.1,om,λH1 s1=>⟨_,Z,?_⟩⟩
 cases hd:eh at_ with
 |false=>
  rw[hd,aC Z]at k;exact cI ⟨_,Z,(by show 1<=aE;decide),λp hp=>dr hS k _ p (s1.up hp) (s1.free hp) ak⟩
 |true=>
  rw[hd,aw (by simp)]at k;refine cy ⟨_,Z,_,_,_,_,_,Z,s1 _ _ X.obj,T.bj,T.dw,Z,_,_,Z,.inl (bQ.of (s1 _ _ hI.1)),Z,_,Z,?_⟩;rw[af,c6];have hi6:=ok.i.len;by_cases z:s0.indexes.length=6
  ·rw[aI (show V.int (s0.indexes.length:Nat)=V.int 6 by rw[z];rfl)];rw[aC om]at k;exact cI ⟨_,Z,(by show 1<=aE;decide),λp hp=>dr hS k _ p (s1.up hp) (s1.free hp) ak⟩
  ·rw[ay (show¬V.int (s0.indexes.length:Nat)=V.int 6 from λe=>z (by injection e with e;lia))];rw[aw om]at k;have hLl:(qV s0.w s0.indexes).length=s0.indexes.length:=by unfold qV;rw[af]
   refine cy ⟨_,Z,_,_,_,Z,s1 _ _ X.obj,Z,_,Z,W,A0,at_,ro,s0.w,qV s0.w s0.indexes,s0.cache,Z,hS.same s1,⟨hA.1.same s1,hA.2⟩,ok.w,h3,by rw[hLl];exact hi6,λH2 nF GZ k2=>?_⟩;obtain⟨aer,ZC,td2,il2,ca2,X2⟩:=id GZ;obtain⟨is2,Yz⟩:=id X2.ix;have Q3:is2.length=s0.indexes.length+1:=by
    have:=dY Yz.2.2.2;rw[aQ,hLl]at this;exact this
   refine⟨_,Z,_,_,_,_,_,Z,X2.obj,T.bj,T.dw,Z,_,_,Z,.inl (bQ.of Yz.1),_,_,Z,Z,(by show 1<=aE;decide),λp hp=>?_⟩;have aaq:B' t H2 nF W {s0 with indexes:=s0.indexes++[{attrs:=at_,rows:=R8 s0.w at_}]}:=by
    show WR t H2 nF W id s0.w (qV s0.w (s0.indexes++[_])) s0.cache;unfold qV at GZ ⊢;rw[bz];exact GZ
   refine k _ nF p (aaq.same (a7.upd hp)) (((Kp.same s1).trans (k2.mono λx q=>?_)).fin hp (a7.upd hp)) ?_
   ·rcases q with rfl|rfl
    ·exact⟨λi=>⟨nofun,nofun⟩,nofun,nofun⟩
    ·exact⟨λi=>⟨nofun,nofun⟩,nofun,nofun⟩
   ·show upd _ _ _ _=_;rw[ak,af,Q3];show aa (HO.lst [V.int (((s0.indexes.length+1:Nat):Int) - 1)])=_;rw[show(((s0.indexes.length+1:Nat):Int) - 1)=(s0.indexes.length:Int) by lia];rfl
def w8(wd:aO)(ps:V9):Int:=if ps.any (λp=>decide (wd.kinds.length<p))=ac then -2 else if eh ps=ae then -3 else 0
inductive sN(t:eP)(vs:V2)(H:Hp)(Q:VK)(E:XK):Prop
 |mk(W A0:ao)(ro:Role)(s:c8)(ps:V9)(_:vs=[.ref W,.ref A0])(_:B' t H ro W s)(_:IL H A0 (nz ps))(_:(∀p∈ps,1<=p))(_:ps.length<=6)(_:∀H',a7 H H'->Q (.int (w8 s.w ps)) H')
theorem mw(T:Txt K mg t)(ht:(1<*43) ["numbers"] lO):(2<*44) ["world","parents"] (sN t):=by
 refine T.f.G44.F.ok2 ["world","parents","parent"] ?_;obtain⟨W,A0,ro,s0,ps,rfl,hS,hA,h1,h6,k⟩;refine⟨_,(ap (de (hJ (bF (Lg Z) Z T.any boot_any (ah (mr (own:=[("parent",2)]) Z nd (dH (pv 1)) (eE (N:=["world","parents","parent"]) (sc:=cj m6) dK) (λ_ _ _ _ _=>cJ (i:=2) nd Z (bi Z)) (λ_ _ _ _ _=>i9) (λ_ _ _ _ _=>(Qa (qB hu (pv 2) (nH (K:=K) Z (pv 0) Z))))) ax))) (aH (bo (jJ gU aN))) bS)
  (ap (de (hJ (j9 ht (hr.mono dk) Z T.f.G43 (ah (pv 1) ax))) (aH (bo (jJ gU aN))) bS)
  (aH (bo aN)))),?_⟩
 obtain⟨dx,kd,td,il,ca,X⟩:=id hS;refine⟨_,Z,A0,Z,⟨_,bQ.of hA⟩,λD hD=>mU (K:=K) (l:=ps) (Ri:=λy x=>y=nI x) (λp=>V.bl (decide (s0.w.kinds.length<p))) hD (bQ.of hA) (Bd _) (aX h6 dk) ?_ ?_⟩
 ·intro i p y H2 Kt hx hy hR s2 ht;subst hR;have BF:=h1 p (aP hx);obtain⟨aer,ZC,td2,il2,ca2,X2⟩:=hS.same s2;by_cases hk:p<=s0.w.kinds.length
  ·obtain⟨ka,kg,_⟩:=X2.ks.kind BF hk;refine⟨Z,_,Z,_,Z,_,_,_,_,_,Z,X2.obj,T.bj,T.c?,Z,_,_,Z,kg,?_⟩;rw[ay om]at ht;exact ht _ (a7.refl _)
  ·have kg:=X2.ks.no (y:=(p:Int)) (.inr om);refine⟨Z,_,Z,_,Z,_,_,_,_,_,Z,X2.obj,T.bj,T.c?,Z,_,_,Z,kg,?_⟩;rw[aI om]at ht;exact ht _ (a7.refl _)
 ·intro H1 s1 e1;refine⟨D,ps.map λp=>decide (s0.w.kinds.length<p),Z,bQ.of (by rw[bv];exact e1),_,Z,?_⟩;have Rb:(ps.map λp=>decide (s0.w.kinds.length<p)).any id=ps.any λp=>decide (s0.w.kinds.length<p):=by rw[tj];rfl
  rw[Rb];unfold w8 at k
  cases hb:ps.any λp=>decide (s0.w.kinds.length<p)with
  |true=>
   rw[hb,aC Z]at k;exact cI ⟨_,Z,k H1 s1⟩
  |false=>
   rw[hb,aw (by simp)]at k;refine cy ⟨_,Z,A0,ps,Z,hA.same s1,om,λH2 s2=>⟨_,Z,?_⟩⟩
   cases hd:eh ps with
   |false=>
    rw[hd,aC Z]at k;exact cI ⟨_,Z,k H2 (s1.trans s2)⟩
   |true=>
    rw[hd,aw (by simp)]at k;exact cy (k H2 (s1.trans s2))
theorem EJ{n:Nat}{s:c8}{a:xC}(g:Tw.Good n s a)(hr:∀a,mX (Tw.mk n a)=(decide (a.length<=6)&&a.all Vbwsad.kindIn)):∃ps:V9,a=nz ps/\ps.length<=6/\∀x∈ps,1<=x:=by
 have h:=g.ranged;rw[hr]at h;simp only[aK,decide_eq_true_eq,dC]at h;have YD:∀x∈a,1<=x/\x<=30:=λx hx=>eB.mp (h.2 x hx);refine⟨a.map fj,Vw λx hx=>by have:=YD x hx;lia,by rw[af];exact h.1,λx hx=>?_⟩;obtain⟨y,hy,rfl⟩:=aV.mp hx;have:=YD y hy;lia
theorem WS(ps:V9):(nz ps).map fj=ps:=by
 unfold nz;rw[bv]
 conv=>rhs;rw[<-jY ps]
 exact cg λx _=>aG x
theorem Qg{s:c8}{ps:V9}{f:V9->c8×xC}:qZ s (nz ps) f=if w8 s.w ps=0 then f ps else(s,[w8 s.w ps]):=by
 unfold qZ w8;have Rb:(nz ps).any (λp=>decide ((s.w.kinds.length:Int)<p))=ps.any (λp=>decide (s.w.kinds.length<p)):=by
  unfold nz;rw[tj]
  congr 1
  funext p;show decide ((s.w.kinds.length:Int)<(p:Int))=_;exact decide_eq_decide.mpr om
 rw[Rb,WS]
 cases ps.any (λp=>decide (s.w.kinds.length<p))<;>cases eh ps<;>simp
theorem PY(h:w8 wd ps=0):(∀p∈ps,p<=wd.kinds.length)/\eh ps=ac:=by
 unfold w8 at h;split at h
 ·cases h
 ·rename_i hn;split at h
  ·cases h
  ·rename_i hd;refine⟨λp hp=>?_,by simpa using hd⟩;by_cases z:p<=wd.kinds.length
   ·exact z
   ·exact absurd (gk.mpr ⟨p,hp,aI om⟩) hn
theorem EH:∀{R:List V9},Tw.Full R->R.filterMap (λl=>l.head?)=R.map λl=>l.headD 0
 |[],_=>rfl
 |l::R,h=>by
  have:=EH (R:=R) λx hx=>h x (aD _ hx)
  cases l with
  |nil=>exact absurd Z (h [] (by simp))
  |cons a l=>
   rw[c9,bC,this];rfl
theorem LN:∀(n:Nat)(ls:List V9),(Tw.run n ls).2.length<=ls.length
 |0,ls=>aS _
 |n+1,ls=>by
  unfold Tw.run;split
  ·exact aS _
  ·refine aB (LN n _) ?_;unfold e?;exact aB (bx _ _) (by rw[af];exact aS _)
theorem Ie(T:Txt K mg t)(ht:(1<*43) ["numbers"] lO):(5<*47) ["world","parents"] (gm t 2):=by
 refine T.f.G47.F.ok2 ["world","parents","refusal","row"] ?_;obtain⟨W,A0,ro,s0,a,rfl,hS,ok,hA,hg,k⟩;refine⟨_,(ap (bM (i:=2) nd (j9 (mw T ht) (hr.mono dk) Z T.f.G44 (ah (pv 0) (ah (pv 1) ax))))
  (ap (de (bR Bg (pv 2) aN (bU _)) (aH (bo (cn (ah (pv 2) ax)))) bS)
  (aH (bo (j9 (jj T) (hr.mono dk) Z T.f.G42 (ah (mr (own:=[("row",3)]) Z nd (dH (bb (j9 (qC T) (hr.mono dk) Z T.f.G21 (ah (bb (pv 0) Z) (ah (pv 1) ax))) Z)) (eE (N:=["world","parents","refusal","row"]) (sc:=cj AV) dK) (λ_ _ _ _ _=>cJ (i:=3) nd Z (bi Z)) (λ_ _ _ _ _=>i9) (λ_ _ _ _ _=>(cu (kK (K:=K) Z) (pv 3) aN (λ_ _=>rfl)))) ax)))))),?_⟩
 obtain⟨ps,rfl,h6,h1⟩:=EJ hg λ_=>rfl;rw[show gz s0 (Tw.mk 2 (nz ps))=qZ s0 (nz ps) λl=>let r:=a? s0.w l;(s0,dG (Vbwsad.ints (U2 (Vbwsad.total (r.map λx=>x.length)) r)))from Z,Qg]at k;obtain⟨dx,kd,td,il,ca,X⟩:=id hS;refine⟨_,Z,_,Z,W,A0,ro,s0,ps,Z,hS,hA.1,h1,h6,λH1 s1=>?_⟩;refine⟨_,Z,Z,_,Z,?_⟩;by_cases hz:w8 s0.w ps=0
 ·rw[aC hz]at k;obtain⟨my,adZ⟩:=PY hz;rw[hz];refine cy ⟨_,Z,_,_,_,_,_,Z,s1 _ _ X.obj,T.bj,T.c?,Z,_,Z,kd,A0,ps,ro,s0.w,Z,R3.kp (P:=λ_=>True) X.ks (Kp.same s1) trivial trivial (λ_=>trivial),ok.w,hA.1.same s1,λp hp=>⟨h1 p hp,my p hp⟩,h6,λH2 x2 aer m l s2 Ye hm hl=>?_⟩;have Mr:Tw.Full (a? s0.w ps):=lp _;have uQ:=Ec Mr (aS _);have ade:=HL (n:=Tw.size (a? s0.w ps)) Mr;have VG:(Tw.run (Tw.size (a? s0.w ps)) (a? s0.w ps)).2.length<=7:=by
   refine aB (LN _ _) ?_;unfold a?;refine aB (bx _ _) ?_;simp;lia
  rw[EH ade]at uQ;have IK:U2 (Vbwsad.total ((a? s0.w ps).map λx=>x.length)) (a? s0.w ps)=_:=uQ;simp only[IK]at k;generalize (Tw.run (Tw.size (a? s0.w ps)) (a? s0.w ps)).2=R at hl ade VG k;obtain⟨ys,e,p⟩:=hl.rl;have u? :=s1.trans s2;refine⟨_,_,_,_,_,Z,Ye,T.qT,T.oy,Z,l,Z,⟨_,bQ.of e⟩,λD hD=>mU (K:=K) (a:=l) (xs:=ys) (l:=R) (Ri:=λy x=>RL H2 y (nz x)) (λr=>nI (r.headD 0)) hD (bQ.of e) (kP p) (aX VG dk) ?_ ?_⟩
  ·intro i r y H3 Kt hx hy hR s3 ht;obtain⟨b,rfl,hb⟩:=hR
   cases r with
   |nil=>exact absurd Z (ade [] (aP hx))
   |cons z r=>
    have VO:H3 b=aa (.lst (V.int (z:Int)::(nz r).map V.int)):=s3 _ _ hb;exact⟨Z,_,Z,_,_,_,_,Z,Z,bQ.of VO,sR,ht _ (a7.refl _)⟩
  ·intro H3 s3 e3;have abV:IL H3 D (nz (R.map λl=>l.headD 0)):=by
    show H3 D=_;rw[e3];unfold nz;rw[bv,bv];rfl
   refine⟨D,nz (R.map λl=>l.headD 0),Z,abV,?_,λH4 p4 s4 np4 Gd=>?_⟩
   ·unfold nz;rw[af,af];lia
   ·exact dr hS k H4 p4 ((u?.trans s3).trans s4) ((u?.trans s3).free np4) Gd
 ·rw[aw hz]at k;rw[show(!decide (V.int (w8 s0.w ps)=V.int 0))=ac by simp[hz]];exact cI ⟨_,Z,(by show 1<=aE;decide),λp hp=>dr hS k _ p (s1.up hp) (s1.free hp) ak⟩
theorem RS{s:c8}{ps:V9}:gz s (Tw.mk 0 (nz ps))=if w8 s.w ps=0 then(if 30<=s.w.kinds.length then(s,[-4])else if(Tw.run (Tw.size (a? s.w ps)) (a? s.w ps)).2=[]then({s with w:=ui s.w ps ((s.w.kinds.length+1)::(Tw.run (Tw.size (a? s.w ps)) (a? s.w ps)).1)},dG (nz ((s.w.kinds.length+1)::(Tw.run (Tw.size (a? s.w ps)) (a? s.w ps)).1)))else(s,[-5]))else(s,[w8 s.w ps]):=by
 rw[show gz s (Tw.mk 0 (nz ps))=qZ s (nz ps) (λl=>if GD<=s.w.kinds.length then(s,[-4])else match zW s.w (s.w.kinds.length+1) l with
  |none=>(s,[-5])
  |some o=>({s with w:=ui s.w l o},dG (Vbwsad.ints o)))from Z,Qg]
 by_cases hz:w8 s.w ps=0
 ·rw[aC hz,aC hz];have hm:zW s.w (s.w.kinds.length+1) ps=(Oy (Tw.size (a? s.w ps)) (a? s.w ps)).map λl=>(s.w.kinds.length+1)::l:=Z;rw[uO (ls:=a? s.w ps) (lp _) (aS _)]at hm;simp only[hm];by_cases aaD:30<=s.w.kinds.length
  ·rw[aC aaD,aC (show GD<=_ from aaD)]
  ·rw[aw aaD,aw (show¬GD<=_ from aaD)];by_cases hr:(Tw.run (Tw.size (a? s.w ps)) (a? s.w ps)).2=[]
   ·rw[aC hr,aC hr];rfl
   ·rw[aw hr,aw hr];rfl
 ·rw[aw hz,aw hz]
theorem F2(T:Txt K mg t)(ht:(1<*43) ["numbers"] lO):(5<*45) ["world","parents"] (gm t 0):=by
 refine T.f.G45.F.ok2 ["world","parents","refusal","merging","number"] ?_;obtain⟨W,A0,ro,s0,a,rfl,hS,ok,hA,hg,k⟩;refine⟨_,(ap (bM (i:=2) nd (j9 (mw T ht) (hr.mono dk) Z T.f.G44 (ah (pv 0) (ah (pv 1) ax))))
  (ap (de (bR Bg (pv 2) aN (bU _)) (aH (bo (cn (ah (pv 2) ax)))) bS)
  (ap (de (bR fZ (bF ES Z T.len a9 (ah (bb (pv 0) Z) ax)) (A? Z T.g.Lr) (bU _)) (aH (bo (cn (ah (jJ gU aN) ax)))) bS)
  (ap (bM (i:=3) nd (j9 (qC T) (hr.mono dk) Z T.f.G21 (ah (bb (pv 0) Z) (ah (pv 1) ax))))
  (ap (de (bR y8 (bF bq Z T.len a9 (ah (bb (pv 3) Z) ax)) aN (bU _)) (aH (bo (cn (ah (jJ gU aN) ax)))) bS)
  (ap (bM (i:=4) nd (fY j_ (bF ES Z T.len a9 (ah (bb (pv 0) Z) ax)) aN))
  (ap (w9 hu (bb (pv 0) Z) (pv 4) (lS T.XT (F5 T) (hr.mono dk) Z T.T5 T.m.G15.b .nil dD (ah (fY rL (cn (ah (pv 4) ax)) (bb (pv 3) Z)) ax)) Z)
  (aH (bo (j9 (jj T) (hr.mono dk) Z T.f.G42 (ah (bb (fW hu (bb (pv 0) Z) (pv 4) (λ_ _=>rfl)) Z) ax))))))))))),?_⟩
 obtain⟨ps,rfl,h6,h1⟩:=EJ hg λ_=>rfl;rw[RS]at k;obtain⟨dx,kd,td,il,ca,X⟩:=id hS;obtain⟨ka,JL,Vo,adJ⟩:=id X.ks;refine⟨_,Z,_,Z,W,A0,ro,s0,ps,Z,hS,hA.1,h1,h6,λH1 s1=>?_⟩;refine⟨_,Z,Z,_,Z,?_⟩;by_cases hz:w8 s0.w ps=0
 ·rw[aC hz]at k;obtain⟨my,adZ⟩:=PY hz;rw[hz];have aaD:=ok.w.kl;have Mp:(eS ka ((cF s0.w.kinds.length).map (· +1))).length=s0.w.kinds.length:=by rw[af,af,fO]
  refine cy ⟨_,Z,_,_,_,_,_,Z,s1 _ _ X.obj,T.bj,T.c?,Z,_,_,Z,s1 _ _ JL,Z,_,Z,?_⟩;rw[Mp];by_cases z:s0.w.kinds.length=30
  ·rw[aI (show V.int (s0.w.kinds.length:Nat)=V.int 30 by rw[z];rfl)];rw[aC om]at k;exact cI ⟨_,Z,(by show 1<=aE;decide),λp hp=>dr hS k _ p (s1.up hp) (s1.free hp) ak⟩
  ·rw[ay (show¬V.int (s0.w.kinds.length:Nat)=V.int 30 from λe=>z (by injection e with e;lia))];rw[aw om]at k;refine cy ⟨_,Z,_,_,_,_,_,Z,s1 _ _ X.obj,T.bj,T.c?,Z,_,Z,kd,A0,ps,ro,s0.w,Z,R3.kp (P:=λ_=>True) X.ks (Kp.same s1) trivial trivial (λ_=>trivial),ok.w,hA.1.same s1,λp hp=>⟨h1 p hp,my p hp⟩,h6,λH2 x2 aer m l s2 Ye hm hl=>?_⟩;have u? :=s1.trans s2;have Yf:=λo=>LF (l:=ps) (o:=o) ok.w om (λp hp=>⟨h1 p hp,my p hp⟩);obtain⟨ys,e,p⟩:=hl.rl;have Ui:=dY p;refine⟨_,Z,_,_,_,_,_,Z,Ye,T.qT,T.oy,Z,_,_,Z,.inl (bQ.of e),_,_,Z,Z,_,Z,?_⟩;by_cases hr:(Tw.run (Tw.size (a? s0.w ps)) (a? s0.w ps)).2=[]
   ·rw[aC hr]at k;rw[hr]at Ui;rw[ay (by rw[Ui];decide)];have Yn:=uO (ls:=a? s0.w ps) (lp _) (aS _);rw[aC hr]at Yn;have NV:zW s0.w (s0.w.kinds.length+1) ps=aa ((s0.w.kinds.length+1)::(Tw.run (Tw.size (a? s0.w ps)) (a? s0.w ps)).1):=by
     show(Oy (Tw.size (a? s0.w ps)) (a? s0.w ps)).map _=_;rw[Yn];rfl
    have ok':=Yf _ NV;generalize (Tw.run (Tw.size (a? s0.w ps)) (a? s0.w ps)).1=mo at k hm NV ok';have Yk:((s0.w.kinds.length+1)::mo).length<=30:=by
     have:=ok'.Bf (k:=s0.w.kinds.length+1) om (by show _<=(s0.w.kinds++[_]).length;simp);rw[xq]at this;exact this
    refine cy ⟨_,Z,_,_,_,_,_,Z,u? _ _ X.obj,T.bj,T.c?,Z,_,_,Z,u? _ _ JL,_,_,Z,Z,?_⟩;rw[Mp];refine⟨_,Z,(by show 1<=aE;decide),λl1 nn=>⟨_,Z,_,_,_,_,_,Z,a7.upd nn _ _ Ye,T.qT,T.qF,Z,_,_,_,_,Z,Z,ak,a7.upd nn _ _ hm,?_,λp1 BF=>λxk dk nxk ndk nek=>⟨xk,dk,.ref p1,Z,ak,λH3 d3 bt3 e3 nd3 YF=>⟨Z,?_⟩⟩⟩⟩
    ·rw[af];unfold nz;rw[af];rw[aJ]at Yk;show 1+_<=aE;exact aB (m:=1000) om dk
    ·have qg:([V.int ((s0.w.kinds.length:Nat)+1:Int)]++(nz mo).map V.int)=(nz ((s0.w.kinds.length+1)::mo)).map V.int:=Z;have acy:=(a7.upd (o:=.lst [V.int ((s0.w.kinds.length:Nat)+1:Int)]) nn).up (o:=.lst ([V.int ((s0.w.kinds.length:Nat)+1:Int)]++(nz mo).map V.int)) BF;have s3:=gb nxk ndk bt3;have acz:=acy.trans s3;have acB:=u?.trans acz;have fp1:H2 p1=ab:=(a7.upd nn).free BF;have fxk:H2 xk=ab:=acy.free nxk;have fd3:H2 d3=ab:=acy.free (nP nd3);have GY:IL H3 p1 (nz ((s0.w.kinds.length+1)::mo)):=s3 _ _ ak;have hxd:xk≠d3:=λz=>by rw[<-z,e3]at YF;cases YF
     have adm:p1≠d3:=λz=>by rw[<-z]at YF;rw[GY]at YF;cases YF
     generalize JK:i8 (qE H2 ro) d3 (.Gq (s0.w.kinds.length+1))=w6;have k3:Kp (λ_=>True) H ro H3 w6:=λb o e _=>⟨acB b o e,by rw[<-JK,fI (aL (u? _ _ e) fd3),Br (u? _ _ e)]⟩;have rx:w6 xk= .ln:=by rw[<-JK,fI hxd,lU fxk]
     have rp:w6 p1= .ln:=by rw[<-JK,fI adm,lU fp1]
     have rd:w6 d3= .Gq (s0.w.kinds.length+1):=by rw[<-JK,fm]
     have rk:w6 kd= .kinds:=(k3 _ _ JL trivial).2.trans Vo;have adK:=acB _ _ JL;refine⟨_,rfl,_,_,_,_,_,rfl,acB _ _ X.obj,T.bj,T.c?,rfl,_,rfl,_,_,rfl,GA.k (k:=.inl ((s0.w.kinds.length+1:Nat):Int)) adK (by rw[Mp];exact aX (m:=200) (by lia) (by decide)),?_⟩;rw[QL (by simp)];generalize hka:(λm=>if m=s0.w.kinds.length+1 then xk else ka m)=Vz;have k4:Kp (· ≠.kinds) H3 w6 (upd H3 kd (.dK (eS Vz ((cF s0.w.kinds.length).map (· +1)++[s0.w.kinds.length+1])))) w6:=Kp.put rk;have Xg:(upd H3 kd (.dK (eS Vz ((cF s0.w.kinds.length).map (· +1)++[s0.w.kinds.length+1])))) kd=aa (.dK (eS Vz ((cF s0.w.kinds.length).map (· +1)++[s0.w.kinds.length+1]))):=ak;generalize upd H3 kd (.dK (eS Vz ((cF s0.w.kinds.length).map (· +1)++[s0.w.kinds.length+1])))=H4 at k4 Xg;have Yc:Kp (· ≠.kinds) H ro H4 w6:=(k3.mono λ_ _=>trivial).trans k4;obtain⟨eW,rW⟩:=Yc _ _ X.obj (by rw[X.vn];exact nofun);have ex4:=(k4 _ _ e3 (by rw[rx];exact nofun)).1;have ed4:=(k4 _ _ YF (by rw[rd];exact nofun)).1;have ael:IL H4 p1 (nz ((s0.w.kinds.length+1)::mo)):=(k4 _ _ GY (by rw[rp];exact nofun)).1;have Z6:Vz (s0.w.kinds.length+1)=xk:=by rw[<-hka];simp
     have abN:=l3 (f:=Vz) (n:=s0.w.kinds.length+1) (.inl Xg) (by simp);rw[Z6]at abN;have hL:qV (ui s0.w ps ((s0.w.kinds.length+1)::mo)) s0.indexes=qV s0.w s0.indexes:=by
      unfold qV;refine cg λi _=>?_;rw[show kG (ui s0.w ps ((s0.w.kinds.length+1)::mo)) i.attrs=kG s0.w i.attrs from funext λu=>Mh ok.w i.attrs u]
     have Yy:B' t H4 w6 W {s0 with w:=ui s0.w ps ((s0.w.kinds.length+1)::mo)}:=by
      show WR t H4 w6 W id (ui s0.w ps ((s0.w.kinds.length+1)::mo)) (qV (ui s0.w ps ((s0.w.kinds.length+1)::mo)) s0.indexes) s0.cache;rw[hL];have Yo:(ui s0.w ps ((s0.w.kinds.length+1)::mo)).kinds.length=s0.w.kinds.length+1:=by show(s0.w.kinds++[_]).length=_;simp
      refine⟨dx,kd,td,il,ca,eW,rW.trans X.vn,⟨Vz,?_,rk,λm YC h2m=>?_⟩,X.ts.kp Yc nofun (λ_ _=>nofun) (λ_ _=>nofun),X.ix.kp Yc nofun nofun (λ_=>nofun) (λ_=>nofun),X.ca.kp Yc nofun nofun nofun nofun⟩
      ·rw[Yo,SS,bz];exact Xg
      ·rw[Yo]at h2m;by_cases rV:m=s0.w.kinds.length+1
       ·subst rV;rw[Z6,xq];refine⟨dk,p1,d3,ex4,rx,⟨ael,rp⟩,⟨[],ed4,gu,λq=>?_⟩,rd⟩
        cases q with
        |inl z=>show ab=(if 0<=z then _ else _);split<;>rfl
        |inr z=>rfl
       ·rw[uP YC om,show Vz m=ka m by rw[<-hka];simp[rV]];exact(adJ m YC om).kp Yc nofun nofun
     refine⟨_,Z,_,_,_,_,_,Z,eW,T.bj,T.c?,Z,_,Z,_,_,Z,abN,_,_,_,_,_,Z,ex4,T.pZ,T.lV,Z,p1,_,Z,ael,?_,λH5 q s5 nq hq=>?_⟩
     ·unfold nz;rw[af];lia
     ·exact k _ w6 q (Yy.same s5) ((Yc.mono λx q=>(gw q).2.2.2.2.2.2.2).fin nq s5) hq
   ·rw[aw hr]at k;rw[aI (by
     have:(Tw.run (Tw.size (a? s0.w ps)) (a? s0.w ps)).2.length≠0:=λq=>hr (sf.mp q);unfold nats at Ui;rw[af]at Ui;lia)]
    exact cI ⟨_,Z,(by show 1<=aE;decide),λp hp=>dr hS k _ p (u?.up hp) (u?.free hp) ak⟩
 ·rw[aw hz]at k;rw[show(!decide (V.int (w8 s0.w ps)=V.int 0))=ac by simp[hz]];exact cI ⟨_,Z,(by show 1<=aE;decide),λp hp=>dr hS k _ p (s1.up hp) (s1.free hp) ak⟩
theorem yN:g_ "set"=aa (.type "set"):=by decide+kernel
theorem qJ:∀{ns:xC}{its:X9},Vals (ns.map V.int) its->f9 its ns
 |[],_,h=>by cases h;exact .nil
 |n::ns,_,h=>by
  cases h with
  |cons r rr=>
   obtain⟨k,rfl⟩:=r;exact .cons _ _ (qJ rr)
inductive ae6(K:aj)(Q:VK)(vs:V2)(H1:Hp):Prop
 |mk(a:ao)(ns:xC)(_:vs=[.ref a])(_:bQ K H1 a (ns.map V.int))(_:ns.length<=1000)(_:Q (.int (iW (λi=>ns.getD i 0) ns.length).length) H1)
def Th(K:aj)(ta:TA):TE:=λσ H Q=>ta σ H (ae6 K Q)
theorem ND(hc:X.calm=ac)(hg:Gl X "len")(hm:X.mg "len"=ab)(Yr:Gl X "set")(BG:X.mg "set"=ab)(ha:PA X [e] ta)
 (hs:bX [e] X.env=[(ae,eval e X.env)]:=by rfl)(Sk:bX [.Call (.Name "set" p2) [e] [] A_] X.env=[(ae,eval (.Call (.Name "set" p2) [e] [] A_) X.env)]:=by rfl):
  PE X (.Call (.Name "len" p) [.Call (.Name "set" p2) [e] [] A_] [] pos) (Th X.K ta):=by
 intros;refine dt (nk I hg hm a9 ?_ dk dk);refine lF ?_ Sk Z;rw[Sk];show aU _ _ (Jv ((ae,eval (.Call (.Name "set" p2) [e] [] A_) X.env)::[])) _ _ s;refine dj ?_;refine dt (nk I Yr BG yN ?_ dk dk);refine dz (ga (ha A_ pins s σ H _ I h) λus s1 ⟨vs,H1,I1,r1,q1⟩=>?_) hs Z;obtain⟨a,ns,e1,hq,hn,q⟩:=q1;subst e1
 cases r1 with
 |cons r rr=>
  cases rr
  cases r;obtain⟨its,rv,p',hz⟩:=I1.list hq;have hl:=rv.length;rw[af]at hl;have Xi:f9 its.toArray.toList ns:=qJ rv;refine PySem.call_set_list (I1.ok.hd hc) p'.isList Xi (by rw[bm,<-hl];exact aX (m:=1001) om dk) λh' tk ada hk=>?_;refine e8 ?_;obtain⟨o,es,ep,tb,ho,hex,hd,_,_,hsb,hf,hsz⟩:=ada;refine PySem.call_len_set (a:=s1.heap.objs.size) ho hex hd hf (by
   have:es.size<4096:=hsb;lia) ?_
  rw[hsz,bm,<-hl];exact⟨.int _,H1,I1.kept (h':=h') (λb u eb=>hk b u (aW eb) eb),⟨_,Z⟩,q⟩
theorem VU:∀(l acc:xC),(l.foldl fb acc).length<=acc.length+l.length
 |[],acc=>by simp
 |x::l,acc=>by
  rw[dB];refine aB (VU l _) ?_;unfold fb;split
  ·simp
  ·simp;lia
theorem RF:∀(l acc:xC),(l.foldl fb acc).length<acc.length+l.length↔¬(l.Nodup/\∀x∈l,x∉acc)
 |[],acc=>by simp
 |x::l,acc=>by
  rw[dB];by_cases h:x∈acc
  ·have e:fb acc x=acc:=by
    unfold fb;rw[aC (gk.mpr ⟨x,h,by simp⟩)]
   rw[e];have:=VU l acc;constructor
   ·intro _ q;exact q.2 x (by simp) h
   ·intro _;rw[aJ];lia
  ·have e:fb acc x=acc++[x]:=by
    unfold fb;rw[aw];intro q;obtain⟨y,hy,e⟩:=gk.mp q;rw[beq_iff_eq]at e;exact h (e▸hy)
   rw[e];have ih:=RF l (acc++[x]);rw[aQ,mZ]at ih;rw[aJ,show acc.length+(l.length+1)=acc.length+1+l.length by lia,ih,cc];constructor
   ·intro q z;exact q ⟨z.1.2,λy hy w=>by
     rcases df.mp w with w|w
     ·exact z.2 y (aD _ hy) w
     ·rw[cX]at w;exact z.1.1 (w▸hy)⟩
   ·intro q z;exact q ⟨⟨λw=>z.2 x w (by simp),z.1⟩,λy hy=>by
     rcases aF.mp hy with rfl|hy
     ·exact h
     ·exact λw=>z.2 y hy (vh _ w)⟩
theorem Go:∀{l:V9},eh l=ac↔l.Nodup
 |[]=>by simp[eh]
 |x::l=>by
  rw[cc,<-Go (l:=l)];simp[eh]
theorem Ik :(nz l).Nodup↔l.Nodup:=by
 unfold nz xR;rw[dZ];exact⟨λh=>h.imp λ{a b} z e=>z (by rw[e]),λh=>h.imp λ{a b} z e=>z om⟩
theorem range_getD(l:xC):(cF l.length).map (λi=>l.getD i 0)=l:=by
 refine List.ext_getElem (by simp) λi h1 h2=>?_;simp[bD,h2]
theorem Pw(l:V9):decide ((iW (λi=>(nz l).getD i 0) (nz l).length).length<(nz l).length)= !eh l:=by
 unfold iW;rw[range_getD];have:=RF (nz l) [];rw[tJ,Nat.zero_add]at this
 cases h:eh l with
 |true=>
  have hn:=Ik.mpr (Go.mp h);exact ay λq=>(this.mp q) ⟨hn,λ_ _=>by simp⟩
 |false=>
  refine aI (this.mpr λq=>?_);rw[Go.mpr (Ik.mp q.1)]at h
  cases h
theorem rM(T:Txt K mg t):(1<*43) ["numbers"] lO:=by
 refine T.f.G43.F.ok2 ["numbers"] ?_;obtain⟨A0,l,rfl,hA,aaB,k⟩;refine⟨_,(aH (bo (gJ Bh (ND Z Z T.len Z T.set (ah (pv 0) ax)) (bF bq Z T.len a9 (ah (pv 0) ax)) (bU _)))),?_⟩;have hl:(nz l).length=l.length:=by unfold nz;rw[af]
 refine⟨_,Z,A0,nz l,Z,bQ.of hA,om,_,Z,_,_,Z,.inl (bQ.of hA),_,_,Z,Z,?_⟩;have:=k H (a7.refl H);rw[<-Pw]at this;rw[show decide ((iW (λi=>(nz l).getD i 0) (nz l).length).length<(nz l).length)=decide (((iW (λi=>(nz l).getD i 0) (nz l).length).length:Int)<((((nz l).map V.int).length:Nat):Int))from decide_eq_decide.mpr (by rw[show((nz l).map V.int).length=(nz l).length from af ..];exact Int.ofNat_lt.symm)]at this;exact this
theorem Og(h:JD lE (p::r)=aa (c,q)):∃x,p::r=0::(x.length:Int)::(x++q)/\c=[[0],x]:=by
 unfold JD lE at h;by_cases hp:p=0
 ·subst hp;simp only[if_true]at h;rw[aw om,D7]at h
  cases r with
  |nil=>simp[JC,PyFlat.row]at h
  |cons m r=>
   by_cases hm:0<=m/\m.toNat<=r.length
   ·simp only[JC,PyFlat.row,if_pos hm,g9,CB]at h;obtain⟨rfl,rfl⟩:=h;refine⟨r.take m.toNat,?_,by simp⟩;rw[ck,lG hm.2,g?,du hm.1]
   ·simp only[JC,PyFlat.row,if_neg hm]at h
    cases h
 ·simp only[if_neg hp]at h
  cases h
theorem B7:∀(n:Nat)(l:xC)(cs:List (List xC)),nL lE n l=aa cs->∃rows:List xC,l=c7 rows/\cs=rows.map λx=>[[0],x]
 |n,[],cs,h=>by
  unfold nL at h
  cases h;exact⟨[],Z,Z⟩
 |0,p::r,cs,h=>by unfold nL at h;cases h
 |n+1,p::r,cs,h=>by
  unfold nL at h
  cases hc:JD lE (p::r)with
  |none=>rw[hc]at h;cases h
  |some cq=>
   obtain⟨c,q⟩:=cq;rw[hc]at h;simp only at h
   cases hr:nL lE n q with
   |none=>rw[hr]at h;cases h
   |some cs'=>
    rw[hr]at h
    cases h;obtain⟨x,e,rfl⟩:=Og hc;obtain⟨rows,rfl,rfl⟩:=B7 n q cs' hr;exact⟨x::rows,by rw[e,qM],Z⟩
theorem En:∀(rows:List xC)(s:c8),D5 iI s (rows.map λx=>[x])=oN s rows
 |[],_=>rfl
 |r::rows,s=>by
  have e:iI s [r]=lw s r:=by
   show lw s (r++[])=_;rw[eQ]
  show(iI s [r]).2::D5 iI (iI s [r]).1 (rows.map λx=>[x])=_;rw[e,En rows];rfl
theorem askL{r:xC}(h:VbwsadNeutral.asked1 [r]=true):r.length<=60:=by
 have k:∀p q t,VbwsadNeutral.asked1 [p::q::t]=(decide (1<=(p::q::t).length)&&(decide ((p::q::t).length<=60)&&VbwsadNeutral.wholes (p::q::t))):=λp q t=>match p with
  |.negSucc _=>rfl
  |.ofNat n=>match n with
   |0|1|2|3|4|5|6|7|8|9|10|11|12|13|14|15|16|17|18=>rfl
   |_+19=>rfl
 match r with
 |[]=>simp
 |[_]=>simp
 |p::q::t=>rw[k,Bool.and_eq_true,Bool.and_eq_true]at h;exact of_decide_eq_true h.2.1
theorem Lm(h:DU l=ac):∃rows:List xC,l=c7 rows/\(∀r∈rows,r.length<=60)/\rows.length<=300/\xL l=toldOf (Cc rows):=by
 unfold DU at h;unfold xL;unfold PyVbwsad.calls at h ⊢
 cases hc:nL lE l.length l with
 |none=>rw[hc]at h;cases h
 |some cs=>
  rw[hc]at h;obtain⟨rows,e,rfl⟩:=B7 _ _ _ hc;have hw:(rows.map λx=>[[0],x]).map PyVbwsad.whole=rows.map λx=>[x]:=by
   rw[bv];rfl
  simp only[hw]at h ⊢;unfold VbwsadNeutral.asked at h;simp only[aK,dC,decide_eq_true_eq,af]at h;refine⟨rows,e,λr hr=>?_,h.2.2.2,?_⟩
  ·have:=h.2.1 [r] (aV.mpr ⟨r,hr,Z⟩);exact askL this
  ·show PyFlat.told (D5 iI VbwsadNeutral.start (rows.map λx=>[x]))=_;rw[En];rfl
theorem r_:g_ "sorted"=aa (.builtin "sorted"):=by decide+kernel
theorem D?:∀{as:List ao}{its:X9},Vals (as.map V.ref) its->its=as.map bn
 |[],_,h=>by cases h;rfl
 |a::as,_,h=>by
  cases h with
  |cons r rr=>
   cases r;rw[D? rr];rfl
theorem wH:∀as:List ao,Vals (as.map V.ref) (as.map bn)
 |[]=>.nil
 |a::as=>.cons Z (wH as)
theorem Ez{X:Cx}{pins:List (ao×gt)}{σ:List (Option V)}{H:Hp}{s:aq}{d:Drawn}(I:Inv X pins σ H s):Inv X pins σ H {s with drawn:=d}:=⟨I.ok,I.os,I.bare,I.base,I.loc,I.cell,I.free,I.pF,I.pin,I.f7,I.len⟩
inductive P0(K:aj)(vs:V2)(H:Hp)(Q:VK):Prop
 |mk(a:ao)(as:List ao)(row:ao->xC)(_:vs=[V.ref a])(_:bQ K H a (as.map V.ref))(_:(∀b∈as,bQ K H b ((row b).map V.int)))(_:as.length<=10000)(_:∀(qi:List ao) (p:ao),qi.Perm as->qi.Pairwise (λx y=>dQ (row y) (row x)=ae)->H p=ab->Q (.ref p) (upd H p (.lst (qi.map V.ref))))
inductive afh(K:aj)(Q:VK)(ns:xC)(us:V2)(H2:Hp):Prop
 |mk(b:ao)(ms:xC)(_:us=[.ref b])(_:bQ K H2 b (ms.map V.int))(_:ms.length<=1000)(_:∀(ks:xC) (p:ao),ks.Nodup->(∀x,x∈ks↔x∈ns/\x∈ms)->ks.Pairwise (· <=·)->H2 p=ab->Q (.ref p) (upd H2 p (.lst (ks.map V.int))))
inductive afg(K:aj)(tb:TA)(σ:L2.St)(Q:VK)(vs:V2)(H1:Hp):Prop
 |mk(a:ao)(ns:xC)(_:vs=[.ref a])(_:bQ K H1 a (ns.map V.int))(_:ns.length<=1000)(_:tb σ H1 (afh K Q ns))
def Wp(K:aj)(ta tb:TA):TE:=λσ H Q=>ta σ H (afg K tb σ Q)
theorem Le(hu:X.A.units+64<mS):sF X (.builtin "sorted") (P0 X.K):=by
 intro pins s σ H vs us Q I r h;obtain⟨a,as,row,rfl,ha,IP,c6,q⟩:=h;obtain⟨its,rv,qg,hz⟩:=I.list ha;rw[Vals.Kq r];have hits:=D? rv;subst hits;rw[af]at hz;refine D9 kind_sorted plain_sorted entry_sorted (args_sorted1 _) ?_;unfold gS.«sorted»;refine ag (m:=checkCount "sorted" 1 1 _) (au ?_);refine ag (collect_list qg.isList ?_ (by rw[af];exact hz));refine ag (MW ?_ (by rw[af];exact hz));have z1:((s.heap.push (mE "list" #[] 0)).update s.heap.objs.size (j6 (· ++(as.map bn).toArray))).objs.size=s.heap.objs.size+1:=by rw[Heap.size_update,size_push']
 have hold:∀b o,s.heap.get? b=aa o->(((s.heap.push (mE "list" #[] 0)).update s.heap.objs.size (j6 (· ++(as.map bn).toArray))).push (mE "list" (as.map bn).toArray 0)).get? b=aa o:=λb o e=>
  az _ ((M? _ _ _ _ (bL (aW e))).trans (az _ e))
 have Uo:(((s.heap.push (mE "list" #[] 0)).update s.heap.objs.size (j6 (· ++(as.map bn).toArray))).push (mE "list" (as.map bn).toArray 0)).get? (s.heap.objs.size+1)=aa (mE "list" (as.map bn).toArray 0):=by
  rw[<-z1];exact aT _ Z
 have Vy:∀b∈as,∃xs,s.heap.IsList b xs/\f9 xs.toList (row b):=by
  intro b hb;obtain⟨its,rv,hp,_⟩:=I.list (IP b hb);exact⟨its.toArray,hp.isList,qJ rv⟩
 have adw:s.heap.objs.size+1∉as:=by
  intro hb;obtain⟨xs,⟨o,e,_⟩,_⟩:=Vy _ hb;exact absurd (aW e) (pN.mpr (j7 _))
 rw[z1];refine ag (fu (cE slot_list_sort ⟨_,Uo,Z⟩ entry_list_sort (Bw (row:=row) (by show X.A.units+1+1<mS;lia) Uo adw c6 (λb hb=>?_) λqi p1 p2=>⟨_,Z,?_⟩) (args_list_sort _)))
 ·obtain⟨xs,⟨o,e,r⟩,i⟩:=Vy b hb;exact⟨xs,⟨o,hold b o e,r⟩,i⟩
 ·refine au ⟨_,Z,?_⟩;obtain⟨ep,NY⟩:=sortedHeap_at (vs:=as.map bn) (out:=(qi.map bn).toArray) Uo;have qL:(qi.map V.ref).length<=aE:=by rw[af,p1.length_eq];exact hz
  refine⟨.ref _,upd H (s.heap.objs.size+1) (.lst (qi.map V.ref)),I.laid (t':=s.toks) (λb u e=>?_) (j7 _) ⟨qL,qi.map bn,ep,wH qi,NY⟩,Z,q qi _ p1 p2 (I.f7.fresh (j7 _))⟩;have hb:=aW e;rw[sortedHeap_old (bL (gF hb)) (aW (hold b u e))];exact hold b u e
theorem P?(hc:X.calm=ac)(hg:Gl X "sorted")(hm:X.mg "sorted"=ab)(Yr:Gl X "set")(BG:X.mg "set"=ab)(ha:PA X [e1] ta)(hb:PA X [e2] tb)
 (hs1:bX [e1] X.env=[(ae,eval e1 X.env)]:=by rfl)(Sk:bX [e2] X.env=[(ae,eval e2 X.env)]:=by rfl)
 (ZQ:bX [.BinOp (.Call (.Name "set" p1) [e1] [] q1) .BitAnd (.Call (.Name "set" p2) [e2] [] q2) q3] X.env=[(ae,eval (.BinOp (.Call (.Name "set" p1) [e1] [] q1) .BitAnd (.Call (.Name "set" p2) [e2] [] q2) q3) X.env)]:=by rfl):
  PE X (.Call (.Name "sorted" p) [.BinOp (.Call (.Name "set" p1) [e1] [] q1) .BitAnd (.Call (.Name "set" p2) [e2] [] q2) q3] [] pos) (Wp X.K ta tb):=by
 intros;refine dt (nk I hg hm r_ ?_ dk dk);refine lF ?_ ZQ Z;rw[ZQ];show aU _ _ (Jv ((ae,eval (.BinOp (.Call (.Name "set" p1) [e1] [] q1) .BitAnd (.Call (.Name "set" p2) [e2] [] q2) q3) X.env)::[])) _ _ s;refine dj (wpAny_BinOp ?_);refine dt (nk I Yr BG yN ?_ dk dk);refine dz (ga (ha q1 pins s σ H _ I h) λus s1 ⟨vs,H1,I1,r1,a,ns,ea,hq,hn,k1⟩=>?_) hs1 Z;subst ea;rw[Vals.Kq r1];obtain⟨its,rv,qg,hz⟩:=I1.list hq;have K2:f9 its.toArray.toList ns:=qJ rv;have hsb:(1001:Nat)<h_:=dk;refine Ts.set_list (I1.ok.hd hc) qg.isList K2 om λh2 Wg es2 ep2 t2 l2 S2 qL adA K1=>?_;obtain⟨o2,g2,x2,d2⟩:=S2.obj;have I2:Inv X pins σ H1 {s1 with heap:=h2,toks:=Wg}:=I1.kept K1;have I3:=I2.pinned (fp:=[s1.heap.objs.size]) (λb hb=>by
  rw[cX.mp hb];exact I1.Rj (aS _) (I1.f7.fresh (aS _))) (λb hb=>by
  rw[cX.mp hb];exact⟨o2,g2,λv=>by rw[d2];exact λz=>nomatch z⟩)
 refine dt (nk I3 Yr BG yN ?_ dk dk);refine dz (ga (hb q2 _ _ σ H1 _ I3 k1) λus3 s3 ⟨vs3,H3,I4,r3,b,ms,eb,adi,hn3,k3⟩=>?_) Sk Z;subst eb;rw[Vals.Kq r3];have g3:s3.heap.get? s1.heap.objs.size=aa o2:=(I4.pin (s1.heap.objs.size,o2) (dR _ (dR _ (by
  show(s1.heap.objs.size,o2)∈vU [s1.heap.objs.size] h2;unfold vU;rw[c9,g2];exact .head _)))).1
 have I5:=I4.tP;obtain⟨ac2,rv3,adl,hz3⟩:=I5.list adi;have hi3:f9 ac2.toArray.toList ms:=qJ rv3;refine Ts.set_list (I5.ok.hd hc) adl.isList hi3 om λh4 tk4 es4 ael t4 l4 S4 hl4 abI hk4=>?_;have S2':=S2.keep (h':=h4) λo e=>by rw[g2]at e;cases e;exact hk4 _ _ g3
 refine UR (bL (aW g3)) S2' S4 om om λh5 er pr tr lr k5 S5 hm5=>?_;refine e8 ?_;refine Ke (I5.ok.hd hc) S5 λh6 tk6 d6 p6 out ep6 yu k6 VJ pm pw ia he=>?_;have adJ:∀c o,s3.heap.get? c=aa o->h6.get? c=aa o:=λc o e=>k6 c o (k5 c o (hk4 c o e));have hp:s3.heap.objs.size<=p6:=by
  obtain⟨_,g4,_⟩:=S4.obj;obtain⟨_,g5,_⟩:=S5.obj;exact aB (eX (aW g4)) (aB (eX (aW g5)) VJ)
 have OK:yu.Nodup:=pm.nodup_iff.mpr S5.nodup;have c6:yu.length<4096:=by rw[pm.length_eq,af];exact S5.room
 have qL:(yu.map V.int).length<=aE:=by rw[af];exact aB (eX c6) dk
 refine⟨.ref p6,upd H3 p6 (.lst (yu.map V.int)),Ez (s:={s3 with heap:=h6,toks:=tk6}) (I5.laid (t':=tk6) adJ hp ⟨qL,out.toList,ep6,rB ia,he⟩),Z,k3 yu p6 OK (λx=>?_) pw (I5.f7.fresh hp)⟩;rw[pm.mem_iff,hm5 x,adA x,abI x]
inductive P4(vs:V2)(H:Hp)(Q:VK):Prop
 |mk(a:ao)(kvs:List (Key×V))(ns:xC)(_:vs=[V.ref a])(_:Rd H a (.dK kvs))(_:lY kvs=ns.map V.int)(_:∀(yu:xC) (p:ao),yu.Perm ns->yu.Pairwise (· <=·)->H p=ab->Q (.ref p) (upd H p (.lst (yu.map V.int))))
theorem Lf(hc:X.calm=ac):sF X (.builtin "sorted") P4:=by
 intro pins s σ H xs us Q I r h;obtain⟨a,kvs,ns,rfl,ha,Sm,q⟩:=h;rw[Vals.Kq r];obtain⟨hz,hd,vs,rel,dd⟩:=vA I.f7 ha;obtain⟨ep,ab7⟩:=dd.dictAt;obtain⟨o,es,ho,K5,_⟩:=id ab7;have hn:vs.length<=aE:=by rw[<-rel.length];exact hz
 refine AR (T:="dict") (d:=a) (n:=vs.length) (G:=λP=>P=λi v=>∃k x,vs[i]? =aa (k,x)/\(fh X.prog X.w).is k v=ac) (M:=λl=>l=ns) (I.ok.hd hc) ho K5.1 (aW ho) dk dk hn
  (λ_ _ _ _ hT k=>PySem.W.kdl_hint_dict hT k) (λA E h Q hh k q=>?_) ?_ (λh' tk d1 p out ep ns1 yu hk hp hM a2 a3 a1 he=>?_)
 ·have dh:h.DictAt (fh X.prog X.w) a vs ep:=ab7.at' λo e=>k a o e;refine wpAny_pyIter_dict (s:={s with heap:=h}) hd dh (q _ h.objs.size _ s.drawn Z ⟨_,_,Walks.dictKeys hh h.objs.size a (bL dh.lt_size) vs ep,⟨⟨_,aT _ Z,Z,Z⟩,dh.push _⟩,aS _,λb hb=>?_,λb o e=>az _ e⟩);simp only[aF,gY,or_false]at hb;exact hb.symm.imp id λz=>by rw[z];exact aS _
 ·rintro P acc rfl fF;have hv:Vals (lY kvs) acc.toList:=by
   refine vq (by rw[lY,af];exact rel.length.trans (fF.1.symm.trans (bE ..).symm)) (λi x u hx hu=>?_);unfold lY at hx;rw[aA]at hx
   cases e:kvs[i]? with
   |none=>rw[e]at hx;cases hx
   |some p=>
    rw[e]at hx
    cases hx;obtain⟨k,x',hk,adN⟩:=fF.2 i u (by rw[<-cU];exact hu);obtain⟨u',GX,_⟩:=KR rel (i:=i) (k:=p.1) (v:=p.2) e;rw[hk]at GX
    cases GX;exact A8 adN
  rw[Sm]at hv;exact⟨ns,qJ hv,Z⟩
 ·subst hM;have e1:=congrArg lL Sm;rw[lY,af,af]at e1;have qL:(yu.map V.int).length<=aE:=by rw[af,a2.length_eq,<-e1];exact hz
  exact⟨.ref p,upd H p (.lst (yu.map V.int)),Ez (s:={s with heap:=h',toks:=tk}) (I.laid (t':=tk) hk hp ⟨qL,out.toList,ep,rB a1,he⟩),Z,q yu p a2 a3 (I.f7.fresh hp)⟩
def sy(l:List (Nat×Int)):xC:=l.map λp=>(p.1:Int)
theorem UI(hn:(kvs.map (·.1)).Nodup)(hv:∀k,eY kvs k=dv l k)(ok:DQ l):∃ns:xC,lY kvs=ns.map V.int/\ns.Perm (sy l):=by
 have inl:∀p∈kvs,∃z:Int,p.1= .inl z:=by
  intro p hp
  cases e:p.1 with
  |inl z=>exact⟨z,Z⟩
  |inr x=>
   refine absurd (fV (f:=(·.1)) hp) (tM ?_);rw[hv,e];rfl
 let g:Key->Int:=λk=>match k with| .inl z=>z| .inr _=>0
 have e1:lY kvs=(kvs.map λp=>g p.1).map V.int:=by
  unfold lY;rw[bv];refine cg λp hp=>?_;obtain⟨z,e⟩:=inl p hp;show kV p.1=V.int (g p.1);rw[e];rfl
 refine⟨_,e1,?_⟩;have up:(sy l).Nodup:=by
  refine dZ.mpr (ok.up.imp λ{a b} h e=>?_);lia
 refine(List.perm_ext_iff_of_nodup ?_ up).mpr λz=>?_
 ·have h2:((kvs.map (·.1)).map g).Nodup:=by
   refine dZ.mpr (hn.imp_of_mem λ{a b} ha hb h e=>h ?_);obtain⟨p,hp,rfl⟩:=aV.mp ha;obtain⟨q,hq,rfl⟩:=aV.mp hb;obtain⟨x,ex⟩:=inl p hp;obtain⟨y,ey⟩:=inl q hq;rw[ex,ey]at e ⊢;exact congrArg iJ e
  rw[bv]at h2;exact h2
 ·constructor
  ·intro h;obtain⟨p,hp,rfl⟩:=aV.mp h;obtain⟨z,e⟩:=inl p hp
   cases q:eY kvs (.inl z)with
   |none=>exact absurd (by rw[<-e];exact fV hp) (tM q)
   |some v=>
    rw[hv]at q;have q:(if 0<=z then(cK z.toNat l).map V.int else ab)=aa v:=q;by_cases hz:0<=z
    ·rw[aC hz]at q
     cases e2:cK z.toNat l with
     |none=>rw[e2]at q;cases q
     |some x=>
      refine aV.mpr ⟨_,ok.some e2,?_⟩;show((z.toNat:Nat):Int)=g p.1;rw[e];exact du hz
    ·rw[aw hz]at q;cases q
  ·intro h;obtain⟨p,hp,rfl⟩:=aV.mp h;have q:eY kvs (.inl (p.1:Int))=aa (.int p.2):=by rw[hv,yJ,ok.mem hp];rfl
   obtain⟨r,hr,e⟩:=aV.mp (Tc q);refine aV.mpr ⟨r,hr,?_⟩;show g r.1=_;rw[e]
theorem LX:∀{a b:xC},a.Perm b->a.Pairwise (· <=·)->b.Pairwise (· <=·)->a=b
 |[],b,p,_,_=>(List.nil_perm.mp p).symm
 |x::a,[],p,_,_=>absurd p.length_eq (by simp)
 |x::a,y::b,p,h1,h2=>by
  have hx:x=y:=by
   have hm1:x∈y::b:=p.mem_iff.mp (.head _);have BG:y∈x::a:=p.mem_iff.mpr (.head _);have r1:=bc.mp h1;have r2:=bc.mp h2;rcases aF.mp hm1 with e|e
   ·exact e
   ·rcases aF.mp BG with e'|e'
    ·exact e'.symm
    ·have:=r1.1 y e';have:=r2.1 x e;lia
  subst hx;rw[LX (List.Perm.cons_inv p) (bc.mp h1).2 (bc.mp h2).2]
abbrev pw(p:Nat×Int):xC:=[(p.1:Int),p.2]
theorem Kr:∀l:List (Nat×Int),(l.flatMap pw).length=2*l.length
 |[]=>rfl
 |p::l=>by
  rw[gC,aQ,Kr l];show 2+2*l.length=2*(l.length+1);lia
theorem Dg(T:Txt K mg t):(2<*67) ["world","arguments"] (gm t 22):=by
 refine T.f.G67.F.ok2 ["world","arguments","thing","pairs","attribute"] ?_;obtain⟨W,A0,ro,s0,a,rfl,hS,ok,hA,hg,k⟩;refine⟨_,(ap (bM (i:=2) nd (fW hu (bb (pv 0) Z) (cu bP (pv 1) aN (λ_ _=>rfl)) (λ_ _=>rfl)))
  (ap (bM (i:=3) nd (cn ax))
  (ap (jI bY Z (dH (bF (Lf Z) Z T.sorted r_ (ah (bb (pv 2) Z) ax))) (cJ (i:=4) nd Z (bi Z))
  (aH (cv (jK bp ej ei li (pv 3) (ah (cn (ah (pv 4) (ah (fW hu (bb (pv 2) Z) (pv 4) (λ_ _=>rfl)) ax))) ax)))))
  (aH (bo (fY rL (cn (ah (bb (pv 2) Z) (ah (bb (pv 2) Z) ax))) (j9 (jj T) (hr.mono dk) Z T.f.G42 (ah (pv 3) ax)))))))),?_⟩
 obtain⟨n,rfl,hn,he⟩:=UA hg;rw[he]at k;obtain⟨dx,kd,td,il,ca,X⟩:=id hS;obtain⟨ta,dg,zl,d,te,_,hD,_⟩:=X.ts.thing (.inl Z) hn;have abw:=ok.w.own n hn;generalize bh s0.w n=th at*;obtain⟨kvs,e,KE,hv⟩:=id hD;obtain⟨ns,e2,hp⟩:=UI KE hv abw;have hl16:th.own.length<=16:=by
  have h1:=Lb KE hv abw;have h2:=congrArg lL e2;rw[lY,af,af,hp.length_eq,sy,af]at h2;lia
 refine⟨_,Z,_,_,_,_,_,Z,X.obj,T.bj,T.bT,Z,_,Z,_,_,_,_,Z,Z,bQ.of hA.1,sR,_,_,Z,dg,?_⟩;refine⟨(by show 0<=aE;decide),λr OI=>?_⟩;have abq:a7 H (upd H r (.lst [])):=a7.upd OI;have Mo:(upd H r (.lst [])) r=aa (.lst []):=ak;generalize upd H r (.lst [])=H1 at abq Mo;refine⟨_,Z,_,_,_,_,_,Z,abq _ _ te,T.ip,T.jN,Z,d,kvs,ns,Z,.inl (abq _ _ e),e2,λyu p BF l9 KZ=>?_⟩;have Sm:yu=sy th.own:=LX (BF.trans hp) l9 (dZ (f:=λp:Nat×Int=>(p.1:Int)).mpr (abw.up.imp λ{a b} h=>by show(a.1:Int)<=(b.1:Int);lia));subst Sm;have s1:a7 H1 (upd H1 p (.lst ((sy th.own).map V.int))):=a7.upd KZ;have hrp:r≠p:=aL Mo KZ;have GY:(upd H1 p (.lst ((sy th.own).map V.int))) p=aa (.lst ((sy th.own).map V.int)):=ak;have um:=s1 _ _ Mo;have s2:=abq.trans s1;generalize upd H1 p (.lst ((sy th.own).map V.int))=H2 at s1 s2 GY um;refine⟨p,Z,⟨_,bQ.of GY⟩,?_⟩;refine ij (K:=K) (a:=p) (xs:=(sy th.own).map V.int) (λi σ H'=>∃v:Option V,σ=[aa (.ref W),aa (.ref A0),aa (.ref ta),aa (.ref r),v]/\a7 H H'/\IL H' p (sy th.own)/\IL H' r ((th.own.take i).flatMap pw))
  ⟨ab,Z,s2,GY,um⟩ (λi σ H' _ ⟨_,_,_,hp,_⟩=>bQ.of hp) ?_ ?_
 ·rintro i y σ H3 hy ⟨v,rfl,s3,Gd,Yh⟩;rw[aA,sy,aA]at hy
  cases hx:th.own[i]? with
  |none=>rw[hx]at hy;cases hy
  |some x=>
   rw[hx]at hy
   cases hy;have hi:i<th.own.length:=(aY.mp hx).1;have Mp:((th.own.take i).flatMap pw).length<=32:=by
    rw[Kr,ck];lia
   have abN:m_ H3 d (nI x.1) (aa (.int x.2)):=by
    have:=r8 (hD.kp (P:=λ_=>True) (ro:=ro) (Kp.same s3) trivial).1 x.1;rw[abw.mem (aP hx)]at this;exact this
   refine⟨_,Z,.inl ⟨Z,_,bQ.of Yh⟩,_,Z,_,Z,_,_,_,_,_,Z,s3 _ _ te,T.ip,T.jN,Z,_,Z,_,_,Z,abN,(by show 2<=aE;decide),λz hz=>⟨r,z,_,_,Z,Z,ups (aL Yh hz) Yh,ak,?_,?_⟩⟩
   ·rw[af];exact aB (m:=34) (j8 Mp 2) dk
   ·refine⟨_,Z,(s3.up hz).tN OI,?_,?_⟩
    ·show upd _ _ _ _=_;rw[aZ (a8 hrp)];exact(a7.upd hz) _ _ Gd
    ·show upd _ _ _ _=_;rw[ak,take_succ hx,gL,bz];simp
 ·rintro σ H3 ⟨v,rfl,s3,Gd,Yh⟩;rw[af,sy,af,cB]at Yh;have Mp:(th.own.flatMap pw).length<=32:=by rw[Kr];lia
  refine⟨_,Z,_,_,_,_,_,Z,s3 _ _ te,T.ip,T.rO,Z,_,Z,_,_,_,_,_,Z,s3 _ _ te,T.ip,T.gW,Z,(by show 2<=aE;decide),λl hl=>⟨_,Z,r,_,Z,(a7.upd hl) _ _ Yh,om,λH4 q s4 nq hq=>⟨l,q,_,_,Z,Z,s4 _ _ ak,hq,?_,λz hz=>dr hS k _ z ((s3.up hl).trans (s4.trans (a7.upd hz))) ?_ ?_⟩⟩⟩
  ·have:(dG (th.own.flatMap pw)).length=(th.own.flatMap pw).length+1:=Z;rw[af,this];show 2+_<=_;exact aB (m:=35) om dk
  ·exact((s3.up hl).trans s4).free hz
  ·show upd _ _ _ _=_;rw[ak];rfl
theorem yH(p:Nat->Bool):∀l:V9,l.filterMap (λn=>if p n=ac then aa (nI n)else ab)=(l.filter p).map (V.int∘λ(n:Nat)=>(n:Int))
 |[]=>rfl
 |a::l=>by
  rw[c9,bH];by_cases h:p a=ac
  ·rw[aC h,aC h,bC,yH p l];rfl
  ·rw[aw h,aw h,yH p l]
def fK(H:Hp)(b:ao):xC:=match H b with
 |some (.lst xs)=>xs.map λv=>match v with| .int z=>z|_=>0
 |_=>[]
theorem HP(h:IL H b r):fK H b=r:=by
 unfold fK;have h:H b=aa (.lst (r.map V.int)):=h;rw[h];show(r.map V.int).map _=r;rw[bv];exact jY r
theorem LO :∀{ys:V2}{rs:List xC},ci (RL H) ys rs->∃as:List ao,ys=as.map V.ref/\as.map (fK H)=rs/\∀b∈as,IL H b (fK H b)
 |_,_,.nil=>⟨[],Z,Z,by simp⟩
 |_,_,.cons h t=>by
  obtain⟨a,rfl,ha⟩:=h;obtain⟨as,rfl,e,hr⟩:=LO t;refine⟨a::as,Z,by rw[bC,e,HP ha],λb hb=>?_⟩;rcases aF.mp hb with rfl|hb
  ·rw[HP ha];exact ha
  ·exact hr b hb
theorem Qm(h:∀x∈ks,∃n:Nat,x=(n:Int)):ks=nz (ks.map fj):=by
 unfold nz;rw[bv];refine(jY ks).symm.trans (cg λx hx=>?_);obtain⟨n,rfl⟩:=h x hx;rfl
theorem KH{n:Nat}{l:V9}:(n:Int)∈nz l↔n∈l:=by
 unfold nz;constructor
 ·intro h;obtain⟨m,hm,e⟩:=aV.mp h;have:m=n:=by exact Int.ofNat.inj e
  exact this▸hm
 ·exact λh=>fV h
theorem place_len(ok:p8 wd)(qq:bu):(lc wd qq).length<=wd.things.length:=by
 unfold lc;split
 ·exact gM _
 ·split
  ·exact oF ok.tree _
  ·exact aB (bx _ _) (gM _)
theorem NH(T:Txt K mg t):(5<*41) ["world","question","looked_at"] (Ef t):=by
 refine T.f.G41.F.ok2 ["world","question","looked_at","placed","wanted","rows","number","row"] ?_;obtain⟨W,q,la,ro,wd,L,c,l,qq,ts,rfl,hW,ok,hQ,qg,h4,DE,OK,BI,k⟩;refine⟨_,(ap (bM (i:=3) nd (P? Z Z T.sorted Z T.set (ah (pv 2) ax) (ah (j9 (vX T) (hr.mono dk) Z T.f.G38 (ah (pv 0) (ah (pv 1) ax))) ax)))
  (ap (qz (i:=4) (own:=[("number",6)]) Z nd Z Z (by with_unfolding_all rfl) (dH (pv 3)) (eE (N:=["world","question","looked_at","placed","wanted","rows","number","row"]) (sc:=cj wR) dK) (λ_ _ _ _ _=>cJ (i:=6) nd Z (bi Z)) (λ_ _ _ _ _=>nG (hJ (j9 (FW T) (hr.mono dk) Z T.f.G39 (ah (pv 0) (ah (pv 1) (ah (pv 6) ax)))))) (λ_ _ _ _ _=>(pv 6)))
  (ap (bM (i:=5) nd (bF (Le hr.units) Z T.sorted r_ (ah (mr (own:=[("number",6)]) Z nd (dH (pv 4)) (eE (N:=["world","question","looked_at","placed","wanted","rows","number","row"]) (sc:=cj wR) dK) (λ_ _ _ _ _=>cJ (i:=6) nd Z (bi Z)) (λ_ _ _ _ _=>i9) (λ_ _ _ _ _=>(j9 (Bj T) (hr.mono dk) Z T.f.G40 (ah (pv 0) (ah (pv 1) (ah (pv 6) ax)))))) ax)))
  (aH (bo (mr (own:=[("row",7)]) Z nd (dH (iM lP (pv 5) ph (gZ (bb (pv 1) Z)))) (eE (N:=["world","question","looked_at","placed","wanted","rows","number","row"]) (sc:=cj wR) dK) (λ_ _ _ _ _=>cJ (i:=7) nd Z (bi Z)) (λ_ _ _ _ _=>i9) (λ_ _ _ _ _=>(cu (kK (K:=K) Z) (pv 7) (jJ gU aN) (λ_ _=>rfl))))))))),?_⟩
 obtain⟨dq,N,Cs,Ss,As,Y⟩:=id hQ;have W9:=ok.tl;have htn:ts.length<=200:=aB (m8 OK λx hx=>cw.mpr (BI x hx)) (aB (gM _) W9);have Ul:=aB (place_len ok qq) W9;refine⟨_,Z,la,nz ts,Z,bQ.of DE,by unfold nz;rw[af];lia,_,Z,_,Z,W,q,ro,wd,L,c,l,qq,Z,hW,ok,hQ,qg,λH1 p1 s1 np1 BF=>⟨p1,nz (lc wd qq),Z,bQ.of BF,by unfold nz;rw[af];lia,λks p2 knd ZB ksort l9=>?_⟩⟩;obtain⟨ps,rfl⟩:∃ps:V9,ks=nz ps:=⟨_,Qm λx hx=>by
  obtain⟨n,_,e⟩:=aV.mp ((ZB x).mp hx).1;exact⟨n,e.symm⟩⟩
 have WG:∀n,n∈ps↔n∈ts/\n∈lc wd qq:=λn=>by
  have:=ZB (n:Int);rw[KH,KH,KH]at this;exact this
 have pnd:ps.Nodup:=(dZ.mp knd).imp λ{a b} h e=>h (by rw[e]);have pln:ps.length<=200:=aB (m8 pnd λx hx=>((WG x).mp hx).1) htn;have s2:a7 H1 (upd H1 p2 (.lst ((nz ps).map V.int))):=a7.upd l9;have e2:(upd H1 p2 (.lst ((nz ps).map V.int))) p2=aa (.lst ((nz ps).map V.int)):=ak;generalize upd H1 p2 (.lst ((nz ps).map V.int))=H2 at s2 e2;have u? :=s1.trans s2;refine⟨_,Z,p2,Z,⟨_,bQ.of e2⟩,λD hD=>F9 (K:=K) (l:=ps) (Ri:=λy x=>y=nI x) (λn=>if((qq.kind==0||eJ wd n qq.kind)&&qq.conds.all (iq wd n))=ac then aa (nI n)else ab) hD (bQ.of e2) (Bd _) (aX pln dk) ?_ ?_⟩
 ·intro i x y H3 Kt Kf hx hy hR s3 ht hf;subst hR;have W7:=BI x ((WG x).mp (aP hx)).1;have u_:=u?.trans s3;refine⟨Z,_,Z,_,Z,_,Z,W,q,x,ro,wd,L,c,l,qq,Z,hW.same u_,ok,hQ.same u_,W7,_,Z,?_⟩
  cases hm:((qq.kind==0||eJ wd x qq.kind)&&qq.conds.all (iq wd x))with
  |true=>exact cI ⟨_,Z,ht _ _ (by rw[aC hm]) (a7.refl _)⟩
  |false=>exact cy (hf _ (by rw[hm];rfl) (a7.refl _))
 ·intro H3 s3 e3;generalize abD:(ps.filter λn=>(qq.kind==0||eJ wd n qq.kind)&&qq.conds.all (iq wd n))=ws;have e3:IL H3 D (nz ws):=by
   show H3 D=_;rw[e3,<-abD]
   congr 2
   unfold nz;rw[bv];exact yH _ ps
  have YR:∀n,n∈ws↔n∈ts.filter (jP wd qq):=λn=>by
   rw[<-abD,bB,bB,WG n];unfold jP;constructor
   ·rintro⟨⟨h1,h2⟩,h3⟩;rw[aK]at h3;rw[h3.1,h3.2,(Eo ok.tree qg (BI n h1)).mp h2];exact⟨h1,Z⟩
   ·rintro⟨h1,h2⟩;rw[aK,aK]at h2;rw[h2.1,h2.2.2];exact⟨⟨h1,(Eo ok.tree qg (BI n h1)).mpr h2.2.1⟩,Z⟩
  have wnd:ws.Nodup:=abD▸pnd.filter _;have wln:ws.length<=200:=by rw[<-abD];exact aB (bx _ _) pln
  have u_:=u?.trans s3;refine⟨_,Z,D,Z,⟨_,bQ.of e3⟩,λD2 Xs=>Ak (K:=K) (l:=ws) (Ri:=λy x=>y=nI x) (Ro:=RL) (λn=>Tw.keyOf wd qq.by_ n) (λH H' y b s h=>h.same s) Xs (bQ.of e3) (Bd _) (aX wln dk) ?_ ?_⟩
  ·intro i x y H4 acc Kt hx hy hR s4 fF ht;subst hR;have W7:=BI x (bB.mp ((YR x).mp (aP hx))).1;have X8:=u_.trans s4;refine⟨Z,_,Z,_,Z,_,Z,W,q,x,ro,wd,L,c,l,qq,Z,hW.same X8,ok,hQ.same X8,h4,W7,λH5 b s5 nb hb=>ht _ _ s5 λH6 b6 s6=>⟨b,Z,b6 b _ (aL fF nb).symm hb⟩⟩
  ·intro H4 ys s4 e4 p4;obtain⟨as,rfl,har,IP⟩:=LO p4;have aln:as.length=ws.length:=by
    have:=congrArg lL har;rw[af,af]at this;exact this
   refine⟨D2,as,fK H4,Z,bQ.of e4,λb hb=>bQ.of (IP b hb),om,λqi p5 WI pw VL=>?_⟩;have hR:qi.map (fK H4)=(kM wd qq.by_ (ts.filter (jP wd qq))).map (Tw.keyOf wd qq.by_):=by
    have VI:(qi.map (fK H4)).Perm (ws.map (Tw.keyOf wd qq.by_)):=by
     have:=WI.map (fK H4);rw[har]at this;exact this
    have adu:(qi.map (fK H4)).Nodup:=VI.nodup_iff.mpr (dZ.mpr (wnd.imp λ{a b} h e=>h (Mi e)));refine Nr (T:=ws) (OK.filter _) ?_ (λr=>?_) YR
    ·have h1:(qi.map (fK H4)).Pairwise (λa b=>dQ b a=ae):=dZ.mpr pw;refine(h1.and adu).imp λ{a b} h=>?_
     cases hb:dQ a b with
     |true=>rfl
     |false=>exact absurd (nU hb h.1) h.2
    ·rw[VI.mem_iff,aV]
   have Z0:qi.length=(kM wd qq.by_ (ts.filter (jP wd qq))).length:=by
    have:=congrArg lL hR;rw[af,af]at this;exact this
   have s5:a7 H4 (upd H4 p5 (.lst (qi.map V.ref))):=a7.upd VL;have e5:(upd H4 p5 (.lst (qi.map V.ref))) p5=aa (.lst (qi.map V.ref)):=ak;generalize upd H4 p5 (.lst (qi.map V.ref))=H5 at s5 e5;have Zd:=(u_.trans s4).trans s5;refine⟨_,Z,_,Z,_,_,_,_,_,Z,Zd _ _ Y.obj,T.cO,T.sw,Z,_,Z,p5,_,Z,bQ.of e5,λp6 VJ=>?_⟩;rw[RG];have s6:a7 H5 (upd H5 p6 (.lst ((qi.map V.ref).take qq.limit))):=a7.upd VJ;have e6:(upd H5 p6 (.lst ((qi.map V.ref).take qq.limit))) p6=aa (.lst ((qi.map V.ref).take qq.limit)):=ak;generalize upd H5 p6 (.lst ((qi.map V.ref).take qq.limit))=H6 at s6 e6;have s16:=Zd.trans s6;have adm:ci (λy n=>RL H6 y (Tw.keyOf wd qq.by_ n)) ((qi.map V.ref).take qq.limit) ((kM wd qq.by_ (ts.filter (jP wd qq))).take qq.limit):=by
    refine vq ?_ ?_
    ·rw[ck,ck,af,Z0]
    ·intro i y n hy hn;rw[List.getElem?_take]at hy hn;by_cases hi:i<qq.limit
     ·rw[aC hi]at hy hn;rw[aA]at hy
      cases hb:qi[i]? with
      |none=>rw[hb]at hy;cases hy
      |some b=>
       rw[hb]at hy
       cases hy;have Yg:(qi.map (fK H4))[i]? =((kM wd qq.by_ (ts.filter (jP wd qq))).map (Tw.keyOf wd qq.by_))[i]? :=by rw[hR]
       rw[aA,aA,hb,hn]at Yg;have Yg:fK H4 b=Tw.keyOf wd qq.by_ n:=bN Yg;rw[<-Yg];exact⟨b,Z,(IP b (WI.mem_iff.mp (aP hb))).same (s5.trans s6)⟩
     ·rw[aw hi]at hn;cases hn
   refine⟨p6,Z,⟨_,bQ.of e6⟩,λD3 abV=>mU (K:=K) (l:=(kM wd qq.by_ (ts.filter (jP wd qq))).take qq.limit) (Ri:=λy n=>RL H6 y (Tw.keyOf wd qq.by_ n)) (λn=>nI n) abV (bQ.of e6) adm ?_ ?_ ?_⟩
   ·rw[ck,<-Z0,WI.length_eq,aln];exact aX (kx _ _) (aX wln dk)
   ·intro i x y H7 Kt hx hy hR s7 ht;obtain⟨b,rfl,hb⟩:=hR;refine⟨Z,_,Z,_,Z,_,_,_,nI x,Z,Z,bQ.of (s7 _ _ hb),?_,ht _ (a7.refl _)⟩;unfold Tw.keyOf;rw[bz];exact Jn ..
   ·intro H7 s7 e7;refine k H7 D3 (s16.trans s7) (s16.free abV) ?_;show H7 D3=_;rw[e7];unfold nz;rw[bv];rfl
theorem aaU(T:Txt K mg t)(hC:∀H,tE K H (t.g 3) ((cF 24).map λi=>V.ref (t.f (45+i)))):Cl P w K mg base t:=
 ⟨λi=>t.f (45+i),hC,λn hn=>match n,hn with
  |0,_=>⟨_,_,(F2 T (rM T)).mono dk,T.f.G45.F.kp,T.f.G45.b⟩
  |1,_=>⟨_,_,(Di T).mono dk,T.f.G46.F.kp,T.f.G46.b⟩
  |2,_=>⟨_,_,(Ie T (rM T)).mono dk,T.f.G47.F.kp,T.f.G47.b⟩
  |3,_=>⟨_,_,(zL T).mono dk,T.f.G48.F.kp,T.f.G48.b⟩
  |4,_=>⟨_,_,(xh T).mono dk,T.f.G49.F.kp,T.f.G49.b⟩
  |5,_=>⟨_,_,(F1 T).mono dk,T.f.G50.F.kp,T.f.G50.b⟩
  |6,_=>⟨_,_,(F4 T).mono dk,T.f.G51.F.kp,T.f.G51.b⟩
  |7,_=>⟨_,_,(Ig T).mono dk,T.f.G52.F.kp,T.f.G52.b⟩
  |8,_=>⟨_,_,(Df T).mono dk,T.f.G53.F.kp,T.f.G53.b⟩
  |9,_=>⟨_,_,(Ii T).mono dk,T.f.G54.F.kp,T.f.G54.b⟩
  |10,_=>⟨_,_,(F0 T).mono dk,T.f.G55.F.kp,T.f.G55.b⟩
  |11,_=>⟨_,_,(F3 T).mono dk,T.f.G56.F.kp,T.f.G56.b⟩
  |12,_=>⟨_,_,(Bn T).mono dk,T.f.G57.F.kp,T.f.G57.b⟩
  |13,_=>⟨_,_,(zJ T).mono dk,T.f.G58.F.kp,T.f.G58.b⟩
  |14,_=>⟨_,_,(Dj T (rM T)).mono dk,T.f.G59.F.kp,T.f.G59.b⟩
  |15,_=>⟨_,_,(zI T).mono dk,T.f.G60.F.kp,T.f.G60.b⟩
  |16,_=>⟨_,_,(FY T).mono dk,T.f.G61.F.kp,T.f.G61.b⟩
  |17,_=>⟨_,_,(Ij T (NH T)).mono dk,T.f.G62.F.kp,T.f.G62.b⟩
  |18,_=>⟨_,_,(FZ T).mono dk,T.f.G63.F.kp,T.f.G63.b⟩
  |19,_=>⟨_,_,(Dk T).mono dk,T.f.G64.F.kp,T.f.G64.b⟩
  |20,_=>⟨_,_,(Dh T).mono dk,T.f.G65.F.kp,T.f.G65.b⟩
  |21,_=>⟨_,_,(zK T).mono dk,T.f.G66.F.kp,T.f.G66.b⟩
  |22,_=>⟨_,_,(Dg T).mono dk,T.f.G67.F.kp,T.f.G67.b⟩
  |23,_=>⟨_,_,(Ih T).mono dk,T.f.G68.F.kp,T.f.G68.b⟩
  |n+24,h=>absurd h om⟩
def cA(i:Nat):ao:=[31,95,200,221,272,334,381,661,771].getD i 0
def fA(i:Nat):ao:=[28,49,56,63,68,75,80,85,92,150,157,164,169,176,183,197,218,230,237,242,247,252,257,269,283,288,293,300,307,312,317,331,343,350,357,364,378,390,397,404,411,416,423,430,435,442,449,454,461,468,475,482,489,496,503,510,517,524,531,538,545,552,559,566,573,580,587,594,601,609,616,623,637,644,651,658,679,686,693,700,707,712,719,726,733,740,747,754,761,768,782].getD i 0
def gA(i:Nat):ao:=[100,142,143,602].getD i 0
def fdOf(K:aj)(f:ao):gI:=match K.lookup f with
 |some ⟨_,_,.func fd,_⟩=>fd
 |_=>lJ "" "" (xB (.Pass ⟨0,0,0,0⟩)) (r9 (.Pass ⟨0,0,0,0⟩)) (cj (.Pass ⟨0,0,0,0⟩)) .none .none .none .none ab .none .none
def tA(K:aj):eP:=⟨cA,fA,λi=>fdOf K (fA i),gA⟩
theorem BO{K:aj}{st:cG}(h:∃fd,OP K x qual st f fd):OP K x qual st f (fdOf K f):=by
 obtain⟨fd,F⟩:=h;have e:fdOf K f=fd:=by
  obtain⟨oc,od,kV,doc,pm,an,fC,ct,WM,_,lk,_⟩:=F.ex;unfold fdOf;rw[lk]
 rw[e];exact F
def tupK(K:aj)(a:ao):Option V2:=match K.lookup a with
 |some ⟨.type c,ab,.seq its _,_⟩=>if c="tuple"/\its.size<=1000 then its.toList.mapM Lo else ab
 |_=>ab
def acF:V9:=[313,317,321,325,329,333,338,342,346,350,354,358,363,367,371,375,379]
def acG(p:rA)(i:Nat):lz:={hash:=PyData.keyHash p (jM (3+i)),key:=.str (jM (3+i)) (acF.getD i 0),val:=.ref (101+i)}
def Zh(p:rA):gt:={cls:=.type "dict",data:=.dict ((cF 17).map (acG p)).toArray 17}
structure KG(K:aj)(p:rA):Prop where
 t1:tupK K 142=aa ((cF 24).map λi=>V.ref (118+i))
 t2:((cF 24).all λi=>decide (tupK K (118+i)=aa (Ch (bJ i))))=ac
 t3:tupK K 143=aa (Ch [13,14,10,15,16])
 t4:tupK K 602=aa ((cF 24).map λi=>V.ref (fA (45+i)))
 t5:((cF 17).all λi=>decide (tupK K (101+i)=aa [.int (dN (3+i)).1,.int (dN (3+i)).2]))=ac
 rg:K.lookup 100=aa (Zh p)
 n1:ib K cR "FORMS"=aa (aa (.ref 142))
 n2:ib K cR "RANGES"=aa (aa (.ref 100))
 n3:ib K cR "QUESTION_HEAD"=aa (aa (.ref 143))
 n4:ib K cR "CALLS"=aa (aa (.ref 602))
 n5:ib K cR "MOST_KINDS"=aa (aa (.int 30 810))
 n6:ib K cR "MOST_THINGS"=aa (aa (.int 200 812))
 n7:ib K cR "MOST_INDEXES"=aa (aa (.int 6 814))
theorem lenS{P:X9->Prop}(h:∀a l,l.length=n->P (a::l)):∀us,us.length=n+1->P us
 |a::l,e=>h a l (Nat.succ.inj e)
theorem len0{P:X9->Prop}(h:P []):∀us,us.length=0->P us
 |[],_=>h
section
variable{P:ba}{w:World}{K:aj}{h:bO}{mg:bV->Option ai}
theorem RT(e:Lo u=aa x):RelV x u:=by
 cases u<;>first|(cases e;done)|(cases e;exact rfl)|(cases e;exact⟨_,rfl⟩)
theorem Hj:∀{us:X9}{xs:V2},us.mapM Lo=aa xs->Vals xs us
 |[],xs,e=>by cases e;exact .nil
 |u::us,xs,e=>by
  rw[ml]at e
  cases h1:Lo u with
  |none=>rw[h1]at e;cases e
  |some x=>
   rw[h1]at e
   cases h2:us.mapM Lo with
   |none=>rw[h2]at e;cases e
   |some ys=>
    rw[h2]at e
    cases e;exact .cons (RT h1) (Hj h2)
theorem AF(e:tupK K a=aa xs)(H:Hp):tE K H a xs:=by
 unfold tupK at e;split at e
 ·rename_i c its n sl hl;by_cases hc:c="tuple"/\its.size<=1000
  ·rw[aC hc]at e;refine .inr ⟨_,its,n,hl,by rw[hc.1],Z,aB hc.2 dk,Hj e⟩
  ·rw[aw hc]at e;cases e
 ·cases e
theorem YU{t:eP}(ht:t.g=gA)(G:KG K w.params):Tb P w K t where
 pG:=⟨λi=>118+i,λH=>by rw[ht];exact AF G.t1 H,λi hi H=>AF (i6 (dC.mp G.t2 i (fi.mpr hi))) H⟩
 qh:=λH=>by rw[ht];exact AF G.t3 H
 Vn:=λc h3 aef=>by
  refine⟨98+c,?_,λH=>?_⟩
  ·rw[ht];refine⟨Zh w.params,_,_,.ref (98+c),G.rg,⟨Z,Z,Z⟩,Z,λe he=>?_,?_,Z⟩
   ·rw[List.mem_toArray]at he;obtain⟨i,hi,rfl⟩:=aV.mp he;exact⟨.inr (jM (3+i)),uj (k:=.inr (jM (3+i))) ⟨_,Z⟩,Z⟩
   ·match c,h3,aef with
    |3,_,_|4,_,_|5,_,_|6,_,_|7,_,_|8,_,_|9,_,_|10,_,_|11,_,_|12,_,_|13,_,_|14,_,_|15,_,_|16,_,_|17,_,_|18,_,_|19,_,_=>kernel_rfl
    |n+20,_,h=>exact absurd h om
  ·have:=i6 (dC.mp G.t5 (c - 3) (fi.mpr om));rw[show 101+(c - 3)=98+c by lia,show 3+(c - 3)=c by lia]at this;exact AF this H
theorem tm{st:cG}(F:∃fd,OP K x qual st f fd:=by exact⟨_,⟨⟨_,_,_,_,_,_,_,_,_,rfl,rfl,by kernel_rfl⟩,by kernel_rfl⟩⟩)(a:ef K (.ref C) x=aa (aa (.ref f)):=by kernel_rfl)(i:rm K (.ref f)=ac:=by kernel_rfl)
  (b:∀(kV doc pm:ai) (an:Option ao) (fC ct:ai) (us:X9),us.length=ps.length->SM (lJ x qual (xB st) (r9 st) (cj st) .none kV doc pm an fC ct) ⟨us,[]⟩=pure (ps.zip us):=by
   intro _ _ _ _ _ _;(repeat refine Tp.lenS λ_=>?_);exact Tp.len0 Z):
  gE K C x qual st ps f (fdOf K f):=⟨BO F,(BO F).binds b,⟨a,i,(BO F).kp⟩⟩
theorem td{st:cG}(X:K.In h)(G:h.Ns cR mg)(F:∃fd,OP K x x st f fd:=by exact⟨_,⟨⟨_,_,_,_,_,_,_,_,_,rfl,rfl,by kernel_rfl⟩,by kernel_rfl⟩⟩)(n:ib K cR x=aa (aa (.ref f)):=by kernel_rfl)
  (b:∀(kV doc pm:ai) (an:Option ao) (fC ct:ai) (us:X9),us.length=ps.length->SM (lJ x x (xB st) (r9 st) (cj st) .none kV doc pm an fC ct) ⟨us,[]⟩=pure (ps.zip us):=by
   intro _ _ _ _ _ _;(repeat refine Tp.lenS λ_=>?_);exact Tp.len0 Z):
  fB K mg x st ps f (fdOf K f):=⟨BO F,(BO F).binds b,iA X G n⟩
theorem tc(X:K.In h)(G:h.Ns cR mg)(pg:mD K C Str.empty=ac:=by kernel_rfl)(hd:o6 K C=ac:=by kernel_rfl)(po:wy K C=ac:=by kernel_rfl)
 (sa:ef K (.ref C) "__setattr__"=aa (aa (.builtin "object.__setattr__")):=by kernel_rfl)(mk:zt K C=ac:=by kernel_rfl)(kc:lH K (.ref C)=ac:=by kernel_rfl)(n:ib K cR x=aa (aa (.ref C)):=by kernel_rfl)
 (na:(fs.all λy=>decide (ef K (.ref C) y=aa ab))=ac:=by kernel_rfl)(a:ef K (.ref C) "__init__"=aa (aa (.ref f)):=by kernel_rfl)(i:rm K (.ref f)=ac:=by kernel_rfl):DO K mg x C f fs:=
 ⟨⟨pg,hd,po,sa⟩,iA X G n,⟨mk,a,i,kc⟩,λy hy=>i6 (p:=ef K (.ref C) y=aa ab) (dC.mp na y hy)⟩
theorem tn(X:K.In h)(G:h.Ns cR mg)(e:ib K cR x=aa ab:=by kernel_rfl):mg x=ab:=PySem.W.mg_none_of X G e
theorem tg(X:K.In h)(G:h.Ns cR mg)(g:KG K p):aa0 K mg (tA K):=⟨iA X G g.n1,iA X G g.n2,iA X G g.n3,iA X G g.n4,⟨_,iA X G g.n5⟩,⟨_,iA X G g.n6⟩,⟨_,iA X G g.n7⟩⟩
theorem XR(X:K.In h)(G:h.Ns cR mg)(hfa:mg "answers"=aa (.ref fa))(c:aa2 K mg (tA K))(m:aaZ K mg (tA K))(d:aa1 K mg (tA K))(g:KG K w.params):
  ∃fd:gI,(∀(s:aq)(us:X9),us.length=(["calls"]:List bV).length->JI s fd ⟨us,[]⟩ ((["calls"]:List bV).zip us))/\∀base:bO,K.In base->base.Ns cR mg->cD P w K mg base gr 9 fa fd ["calls"] (rC K):=by
 have e:=hfa.symm.trans d.G90.m
 cases e;have T:Txt K mg (tA K):=⟨c,m,d,tg X G g⟩;refine⟨(tA K).d 90,λs us hu=>?_,λbase _ _=>Kz T (YU Z g) (aaU T λH=>AF g.t4 H)⟩;obtain⟨oc,od,kV,doc,pm,an,fC,ct,WM,efd,lk,Su⟩:=T.f.G90.F.ex;rw[efd];exact match us,hu with|[_],_=>.of_eq Z
end
abbrev rw:PySem.W.OpenSpec:=nY
theorem RM(K:aj)(H:Hp)(xs:V2)(a:PySem.W.Codec.denoteAll rw.args)(Ra:tH rw.args rw.asked a=ac)(hx:qW K H xs (PySem.W.Codec.encAll rw.args a)):
  rC K xs H (λv H'=>Dw K H' v (rw.ret.enc (tH rw.args rw.f a))) λ_ _ _=>False:=by
 cases hx with
 |cons h1 h2=>
  cases h2
  cases h1 with
  |lst hs ha=>
   have e:=L2.Mm a.1 _ ha;subst e;obtain⟨rows,e,aaB,aaC,ad5⟩:=Lm (l:=a.1) Ra;refine⟨_,rows,Z,by rw[<-e];exact hs,aaB,aaC,λH' p hp=>?_⟩;have:rw.ret.enc (tH rw.args rw.f a)= .list ((xL a.1).map PySem.W.WData.int):=Z;rw[this,ad5];exact .lst (bQ.of hp) (L2.Mz _)
end Tp
open PySem PySem.W PyProof.Rows
theorem PySem.Challenge.cw_thingsworld_s01_answers_holds : PySem.Challenge.rw_thingsworld_s01_answers.Holds := by
 w_on;k_headS;(case hw=>exact⟨[.list [.int 0,.int 1,.int 20]],dK,dK⟩)
 k_fillS
 refine L2.J9 (r:=nY) (k:=9) (CX:=L2.gr) (ps:=["calls"]) (sp:=Tp.rC) dK Z Z ⟨Z,dk,dk⟩ (λw h Y=>PySem.W.kIn_of Y) ?F ?S (λ_ _ _ _ z=>z)
 case F=>
  intro w mg fa h Y KX G Yn;exact Tp.XR KX G Yn
   (by constructor<;>first|exact Tp.tc KX G|exact Tp.tn KX G)
   (by constructor<;>exact Tp.tm)
   (by constructor<;>exact Tp.td KX G)
   (by constructor<;>kernel_rfl)
 case S=>
  intro K H xs a hO ac_ Ra hx;exact Tp.RM K H xs a Ra hx

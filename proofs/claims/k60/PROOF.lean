import PyProof.Rows.All
import OpenK.KLine
import KE.KPar
import KE.IntBitsLaws
import PyProof.Fits
import KE.KIsAll
import KE.KItem
import KE.KxBytes
import Wide.FinOn
import PyProof.EqAt
import PyProof.EqKinds
import PyProof.TupleCall
import PyProof.ZipIter
import PyProof.EnumMake
import PyProof.EnumFor
import PyProof.Rows.EnumRows
import PyProof.CompMap
import PyProof.CompUse
import KE.KRevSl
import KE.KRevIter
import PyProof.ListRange
import PyProof.AutoRange
import PyProof.FactsAll.range_2
import PyProof.MaxThree
import KE.RegKTryMore
import PyProof.Rows.SumAny
import KE.KMinBuiltin
import PyProof.Rows.CallKwBuiltin
import PyProof.JoinWalk
import PyProof.StrBlockL
import PyProof.StrCalls2
import PyProof.CallStr
import PyProof.Rows.StrWeight2
import PyProof.FitsInt
import PyProof.FactsAll.range_1
import PyProof.SeqRoads2
import KE.RegKIsAll
import PyProof.ExcArgsOwn
import PyProof.NsDelKeeps
import PyProof.RulesAs
import KE.KIntText
import PyProof.Rows.StrNews2
import PyProof.StrBlockH
import PyProof.Rows.RuleDivmod
import KE.IntTextText
import OpenK.KTop
import Lean
import PySem.Challenge.RW_roundglass_k60_desk_leads
noncomputable section
open PySem.W renaming Frag→OR
open PySem renaming wpAny_bind→OS,wpAny_pure→Pf
open PySem.Heap renaming get?_push_of_some→OT,lt_size→OY,get?_push_size→Pd,size_push→PQ,get?_update_other→Qs,get?_update_self→Qu,get?_none_of_le→RT,get?_push_ne→Sm
open List renaming length_map→OU,mem_cons_of_mem→OW,mem_cons→Pb,getElem?_eq_some_iff→Pc,mem_append_right→Pg,mem_cons_self→Ph,not_mem_nil→Pj,length_append→Pl,mem_of_getElem?→Pn,map_cons→Po,mem_append→Pq,size_toArray→Pr,map_append→Pt,take_succ_eq_append_getElem→Pw,length_filter_le→Px,getElem?_map→Py,length_cons→Pz,mem_singleton→PB,length_take→PC,getElem?_eq_getElem→PH,append_nil→PJ,replicate→PK,getElem?_replicate→PM,take_length→PX,takeWhile_cons_of_pos→PY,map_map→Qb,length_drop→Qc,append_assoc→Qe,take_of_length_le→Qh,length_replicate→Qj,getElem?_take_of_lt→Qk,length→Qn,map_congr_left→Qp,lookup_cons→Qq,mem_map→Qv,dropWhile_cons_of_pos→Qx,mem_append_left→Qy,reverse_reverse→Qz,filterMap_cons→QD,map_inj_right→QH,map→QK,lookup→QL,reverse_cons→QM,getElem?_eq_none→QP,cons_append→QQ,getElem?_append→QR,mem_of_mem_take→QS,range→QT,mem_filter→QV,nodup_cons→QW,reverse_append→Rb,length_take_le→Rc,getD_eq_getElem?_getD→Rh,takeWhile_cons_of_neg→Ri,mem_filterMap→Rj,getElem?_eq_none_iff→Rn,all_cons→Ru,map_reverse→RA,getElem?_set_self→RC,drop_eq_nil_of_le→RE,drop_of_length_le→RF,dropWhile_sublist→RG,of_mem_zip→RH,forIn_cons→RK,take_append_drop→RO,length_nil→RP,find?_cons→RQ,getElem?_set_ne→RU,getElem?_mapIdx→RV,take_take→RW,length_reverse→Sa,map_id→Sb,any_cons→Sd,filter_append→Sh,sum_cons→Sj,getElem?_drop→Sk,foldl_append→Sn,take_add_one→So,zipIdx_cons→Sv,ext_getElem→Sw,getElem_mem→Sx,isEmpty_iff→Sz,all_eq_true→SA,zipIdx_nil→SD,foldl_cons→SJ,forIn_nil→SO,drop_zero→SR,drop_drop→SV,take_zero→SW,map_take→Ta
open Nat renaming lt_of_lt_of_le→OV,le_trans→Pa,le_refl→Pe,pow_le_pow_right→Pp,ne_of_lt→Pu,zero_le→PD,gcd→PN,lt_irrefl→PV,lt_succ_self→Qi,ne_of_gt→Qm,add_le_add→Qr,length_toDigits_le_iff→Qw,mul_lt_mul''→QB,le_add_right→QC,lt_of_le_of_lt→QF,min_eq_left→QJ,le_of_eq→QO,max_le→QU,pow_add→QX,gcd_comm→Rl,lt_trichotomy→Rr,lt_succ_iff_lt_or_eq→Rt,min_le_right→Ry,le_max_right→Rz,le_max_left→RI,mod_lt→RR,log2_lt→RX,pos_iff_ne_zero→RY,eq_zero_or_pos→Se,le_of_lt→Sq,lt_or_ge→Sr,min_eq_right→Sy,mul_ne_zero→SF,two_pow_pos→SH,not_lt_zero→SM
open Int renaming natCast_inj→OX,natAbs_natCast→OZ,natAbs_mul→PR,natAbs_neg→PZ,mul_ne_zero→Qa,toNat_natCast→Ql,natCast_nonneg→QG,emod_lt_of_pos→QI,emod_nonneg→QY,fmod_eq_emod_of_nonneg→Rf,sign_eq_neg_one_of_neg→Rg,natAbs_ediv_le_natAbs→Ro,eq_ofNat_of_zero_le→Rx,sign_eq_one_of_pos→RD,neg_ediv_of_dvd→RZ,natAbs_add_le→Sl,zero_sub→Ss,toNat→SK,natAbs_pos→SQ,gcd→Tb
open Bool renaming false_ne_true→Pk,and_eq_true→PL,or_eq_true→Qg,eq_iff_iff→Qt,and_false→QA,false_eq_true→Rm,not_eq_true'→Rp,noConfusion→RB,true_and→Sf,or_false→Sg,false_and→SN,and_true→SY
open Rat renaming intCast_natCast→Qo,divInt→QE,num_nonneg→QN,natCast_mul→QZ,intCast_mul→Ra,sub_eq_add_neg→Rk,divInt_eq_div→Rq,neg_num→Rv,neg_den→Rw,num_eq_zero→RJ,num_intCast→RL,den_intCast→RN,num_divInt_den→Si,intCast_neg→SE,intCast_add→SG,mkRat_self→SU,lt_iff→SX
open Option renaming map→RS,getD_none→Su
set_option compiler.extract_closed false
set_option Elab.async false
set_option linter.all false
set_option maxRecDepth 100000
namespace PySem.W.Fast
theorem te5243831512834556789:True:=trivial
theorem tw11383049752509538192:True:=⟨⟩
theorem tw15635394921860936926:True:=⟨⟩
theorem tw7168358956130505526:True:=⟨⟩
theorem tw2578142324359617696:True:=⟨⟩
theorem tw13802733972355667021:True:=⟨⟩
theorem tw8034674252597648331:True:=⟨⟩
theorem tw12284786198274180503:True:=⟨⟩
theorem tw1462843015093083005:True:=⟨⟩
theorem tw15415027769373079565:True:=⟨⟩
theorem tw9391726697387890263:True:=⟨⟩
theorem tw9934594652496554026:True:=⟨⟩
theorem tw14674409067856931847:True:=⟨⟩
theorem tw11255007356211598836:True:=⟨⟩
theorem tw679657701852499147:True:=⟨⟩
theorem tw18015024036863908130:True:=⟨⟩
theorem tw10733004234967520534:True:=⟨⟩
theorem tw9498826274287254336:True:=⟨⟩
theorem tw12508401849407969465:True:=⟨⟩
theorem tw747288232599802197:True:=⟨⟩
theorem tw183968741182380135:True:=⟨⟩
theorem tw8382282574431957475:True:=⟨⟩
theorem tw17037038846368125546:True:=⟨⟩
theorem tw16546531078891288974:True:=⟨⟩
theorem tw5926240938623311526:True:=⟨⟩
theorem tw15437243097647469424:True:=⟨⟩
theorem tw17802105795919841372:True:=⟨⟩
theorem tw17896960367019831589:True:=⟨⟩
theorem tw2006163649185822362:True:=⟨⟩
theorem tw14760489578589952116:True:=⟨⟩
theorem tw11876752008799219190:True:=⟨⟩
theorem tw6071185313019323855:True:=⟨⟩
theorem tw14066379097714672715:True:=⟨⟩
theorem tw13386258832052105180:True:=⟨⟩
theorem tw12272936109661128251:True:=⟨⟩
theorem tw8596117735715783943:True:=⟨⟩
theorem tw9368259565449751095:True:=⟨⟩
theorem tw11685348991019891859:True:=⟨⟩
theorem tw10141376689607101482:True:=⟨⟩
theorem tw8847493808245606163:True:=⟨⟩
theorem tw11094654955733724592:True:=⟨⟩
theorem tw3978407704686984547:True:=⟨⟩
theorem tw3548118292666363337:True:=⟨⟩
theorem tw210983445016555390:True:=⟨⟩
theorem tw1333330127678846912:True:=⟨⟩
theorem tw783927785876309675:True:=⟨⟩
theorem tw17283588456263776929:True:=⟨⟩
theorem tw9251977010408773487:True:=⟨⟩
theorem tw4695931610677353193:True:=⟨⟩
theorem tw1109043831497932625:True:=⟨⟩
theorem tw7613016631650888147:True:=⟨⟩
theorem tw10410433879548898026:True:=⟨⟩
theorem tw4761737303883565562:True:=⟨⟩
theorem tw3140384675068791105:True:=⟨⟩
theorem tw14757477713372698724:True:=⟨⟩
theorem tw12995261412499879982:True:=⟨⟩
theorem tw9701477594410631174:True:=⟨⟩
theorem tw9011478660086970861:True:=⟨⟩
theorem tw12008099348128232149:True:=⟨⟩
theorem tw9850426934851143939:True:=⟨⟩
theorem tw8983738326668817742:True:=⟨⟩
theorem tw7012903079048434757:True:=⟨⟩
theorem tw14783950580124405470:True:=⟨⟩
theorem tw2874266031091735128:True:=⟨⟩
theorem tw12548583198593229453:True:=⟨⟩
theorem tw8302531745291795561:True:=⟨⟩
theorem tw270957240467890704:True:=⟨⟩
theorem tw6039041278127551078:True:=⟨⟩
theorem tw12305028114466672782:True:=⟨⟩
theorem tw5773637985970434790:True:=⟨⟩
theorem tw9597988211441988835:True:=⟨⟩
theorem tw669656402328591358:True:=⟨⟩
theorem tw16235782870510788444:True:=⟨⟩
theorem tw5850041280418364337:True:=⟨⟩
theorem tw10252612884281281214:True:=⟨⟩
theorem tw9709243690763229762:True:=⟨⟩
theorem tw1855588133223466577:True:=⟨⟩
theorem tw4976405523144227309:True:=⟨⟩
theorem tw13916907229372056798:True:=⟨⟩
theorem tw6219327113613976178:True:=⟨⟩
theorem tw1570174160488279558:True:=⟨⟩
theorem tw12435859531749999013:True:=⟨⟩
theorem tw8683361994712493131:True:=⟨⟩
theorem tw14193985890277408998:True:=⟨⟩
theorem tw5020355194447041476:True:=⟨⟩
theorem tw9957859246980260416:True:=⟨⟩
theorem tw9668297881518064494:True:=⟨⟩
theorem tw10795743647490444551:True:=⟨⟩
theorem tw6116149086806555544:True:=⟨⟩
theorem tw18193398924017983297:True:=⟨⟩
theorem tw14991403279235570316:True:=⟨⟩
theorem tw3186673005480991794:True:=⟨⟩
theorem tw17983230850756901557:True:=⟨⟩
theorem tw526231861067682198:True:=⟨⟩
theorem tw2065433940037601317:True:=⟨⟩
theorem tw11607687471914429126:True:=⟨⟩
theorem tw14140610628760969963:True:=⟨⟩
theorem tw13986958024608039719:True:=⟨⟩
theorem tw571981629984101355:True:=⟨⟩
theorem tw660649509970402644:True:=⟨⟩
theorem tw11670448478255500927:True:=⟨⟩
theorem tw16775516758507654199:True:=⟨⟩
theorem tw932759073242223530:True:=⟨⟩
theorem tw13498704671729590411:True:=⟨⟩
theorem tw12828147694182850305:True:=⟨⟩
theorem tw4526235006460665184:True:=⟨⟩
theorem tw2250821243652790529:True:=⟨⟩
theorem tw7129071706698373012:True:=⟨⟩
theorem tw9561025574493585967:True:=⟨⟩
theorem tw8168790111973647021:True:=⟨⟩
theorem tw642304476355497432:True:=⟨⟩
theorem tw538585382089601566:True:=⟨⟩
theorem tw16425363456352656744:True:=⟨⟩
theorem tw7253137295539334666:True:=⟨⟩
theorem tw436448079356965481:True:=⟨⟩
theorem tw4596261670332932663:True:=⟨⟩
theorem tw6988710004588597627:True:=⟨⟩
theorem tw16981332486481546386:True:=⟨⟩
theorem tw10685917261446517831:True:=⟨⟩
theorem tw17006385015114050981:True:=⟨⟩
theorem tw945272814670904994:True:=⟨⟩
theorem tw1132246945140572298:True:=⟨⟩
theorem tw12356128036884179375:True:=⟨⟩
theorem tw8255695582616964183:True:=⟨⟩
theorem tw7556285599716103030:True:=⟨⟩
theorem tw1680277853902240768:True:=⟨⟩
theorem tw11169637117193807603:True:=⟨⟩
theorem tw3712364510981881120:True:=⟨⟩
theorem tw1843222919019471875:True:=⟨⟩
theorem tw17967785842555702093:True:=⟨⟩
theorem tw13357485680739944345:True:=⟨⟩
theorem tw12373899085779084809:True:=⟨⟩
theorem tw5523626425868786525:True:=⟨⟩
theorem tw12324750084173230409:True:=⟨⟩
theorem tw16887986101580010997:True:=⟨⟩
theorem tw10836896423893926912:True:=⟨⟩
theorem tw14470158770205820695:True:=⟨⟩
theorem tw17480647273058059830:True:=⟨⟩
theorem tw16371521656569135775:True:=⟨⟩
theorem tw11108892329544879348:True:=⟨⟩
theorem tw5064656289953871701:True:=⟨⟩
theorem tw4642275048464604020:True:=⟨⟩
theorem tw10971709570455022671:True:=⟨⟩
theorem tw2251406967600987248:True:=⟨⟩
theorem tw11071681060237056524:True:=⟨⟩
theorem tw12279601477887747902:True:=⟨⟩
theorem tw4724091733480698346:True:=⟨⟩
theorem tw12354918997486973955:True:=⟨⟩
theorem tw8203292110195936103:True:=⟨⟩
theorem tw17992559604156879702:True:=⟨⟩
theorem tw1632853158983040344:True:=⟨⟩
theorem tw3169682022110914231:True:=⟨⟩
theorem tw9085714966463846637:True:=⟨⟩
theorem tw12574670383356384375:True:=⟨⟩
theorem tw10723284478853242062:True:=⟨⟩
theorem tw12764887823909210784:True:=⟨⟩
theorem tw15291318635857932873:True:=⟨⟩
theorem tw8958375969337079270:True:=⟨⟩
theorem tw3906125929588164713:True:=⟨⟩
theorem tw8165818270007812770:True:=⟨⟩
theorem tw9159577100412893512:True:=⟨⟩
theorem tw6899091023263489129:True:=⟨⟩
theorem tw3651778787060362390:True:=⟨⟩
theorem tw12397744028213344561:True:=⟨⟩
theorem tw15523878413702052561:True:=⟨⟩
theorem tw4307809308112814253:True:=⟨⟩
theorem tw3586412360639648791:True:=⟨⟩
theorem tw6977872186992727767:True:=⟨⟩
theorem tw15373799063584958643:True:=⟨⟩
theorem tw2227284732741089731:True:=⟨⟩
theorem tw1875920893068352610:True:=⟨⟩
theorem tw1787771341297653931:True:=⟨⟩
theorem tw12374126033939184608:True:=⟨⟩
theorem tw10069497848785396654:True:=⟨⟩
theorem tw10422092293346207925:True:=⟨⟩
theorem tw3650765740039962943:True:=⟨⟩
theorem tw1193364317252151426:True:=⟨⟩
theorem tw2148829257105936458:True:=⟨⟩
theorem tw12704099807640522937:True:=⟨⟩
theorem tw14512439681820063330:True:=⟨⟩
theorem tw4296523922794186456:True:=⟨⟩
theorem tw927277863965245247:True:=⟨⟩
theorem tw5717914487878159112:True:=⟨⟩
theorem tw16713651370216533209:True:=⟨⟩
theorem tw12115848858976694077:True:=⟨⟩
theorem tw10845277946922095072:True:=⟨⟩
theorem tw5617426925681845460:True:=⟨⟩
theorem tw16978072955479511627:True:=⟨⟩
theorem tw10124484230217935111:True:=⟨⟩
theorem tw6385608964644463445:True:=⟨⟩
theorem tw918255447078346309:True:=⟨⟩
theorem tw159362804988944355:True:=⟨⟩
theorem tw3455924618963808770:True:=⟨⟩
theorem tw11715936126932815788:True:=⟨⟩
theorem tw13276303812050758207:True:=⟨⟩
theorem tw11446203512896700785:True:=⟨⟩
theorem tw15910456625266962988:True:=⟨⟩
theorem tw8401992225214012194:True:=⟨⟩
theorem tw3692157157476600308:True:=⟨⟩
theorem tw10710038614126713073:True:=⟨⟩
theorem tw11699182203276335852:True:=⟨⟩
theorem tw5884055004721143659:True:=⟨⟩
theorem tw11825105878842393017:True:=⟨⟩
theorem tw6680927334013805105:True:=⟨⟩
theorem tw4624958225173076120:True:=⟨⟩
theorem tw9469759359227974728:True:=⟨⟩
theorem tw18053720727336606778:True:=⟨⟩
theorem tw781746778623586824:True:=⟨⟩
theorem tw1545437911456266550:True:=⟨⟩
theorem tw6804748502375652859:True:=⟨⟩
theorem tw2891979351738783754:True:=⟨⟩
theorem tw5713791271501521205:True:=⟨⟩
theorem tw69306349054894608:True:=⟨⟩
theorem tw13205107548583250457:True:=⟨⟩
theorem tw2172917939461212673:True:=⟨⟩
theorem tw2528476963607875432:True:=⟨⟩
theorem tw5558206597487162734:True:=⟨⟩
theorem tw3567764985818614639:True:=⟨⟩
theorem tw13690492615429995851:True:=⟨⟩
theorem tw11493426174934387695:True:=⟨⟩
theorem tw17250724313395646526:True:=⟨⟩
theorem tw2864403012812923602:True:=⟨⟩
theorem tw1207792218693613699:True:=⟨⟩
theorem tw8642526024093055958:True:=⟨⟩
theorem tw17711497748946254826:True:=⟨⟩
theorem tw13768265019058702274:True:=⟨⟩
theorem tw7694450698596885795:True:=⟨⟩
theorem tw18381037864794337006:True:=⟨⟩
theorem tw4352394013313914402:True:=⟨⟩
theorem tw10088755579314073001:True:=⟨⟩
theorem tw1134859049941961426:True:=⟨⟩
theorem tw14353206113941703918:True:=⟨⟩
theorem tw3305488899151748434:True:=⟨⟩
theorem tw850768633417560129:True:=⟨⟩
theorem tw12701228014983772294:True:=⟨⟩
theorem tw6359693814209094512:True:=⟨⟩
theorem tw16813294695517082186:True:=⟨⟩
theorem tw1068026922801505945:True:=⟨⟩
theorem tw1415212450661416:True:=⟨⟩
theorem tw1105522724135399120:True:=⟨⟩
theorem tw79280763207174919:True:=⟨⟩
theorem tw10747429688061601095:True:=⟨⟩
theorem tw13156903780471285306:True:=⟨⟩
theorem tw17551031634904427822:True:=⟨⟩
theorem tw13373378894158535896:True:=⟨⟩
theorem tw15228707945729416512:True:=⟨⟩
theorem tw578193162134196436:True:=⟨⟩
theorem tw14947376732086891042:True:=⟨⟩
theorem tw7375471501891752604:True:=⟨⟩
theorem tw5160966926533671531:True:=⟨⟩
theorem tw13598277452490001611:True:=⟨⟩
theorem tw1650615720248716472:True:=⟨⟩
theorem tw789892481231095122:True:=⟨⟩
theorem tw4561232833620643729:True:=⟨⟩
theorem tw11858135511187802057:True:=⟨⟩
theorem tw15738410752263466558:True:=⟨⟩
theorem tw16364363620884390773:True:=⟨⟩
theorem tw10424109462816249999:True:=⟨⟩
theorem tw10494243616551587552:True:=⟨⟩
theorem tw3862305285319073379:True:=⟨⟩
theorem tw12230550869409381548:True:=⟨⟩
theorem tw4200802029196326149:True:=⟨⟩
theorem tw2217792126005986272:True:=⟨⟩
theorem tw17063582651070849701:True:=⟨⟩
theorem tw10448176696667011588:True:=⟨⟩
theorem tw13790259671087056990:True:=⟨⟩
theorem tw15054991271037045885:True:=⟨⟩
theorem tw4353114470977653205:True:=⟨⟩
theorem tw6270764341620506903:True:=⟨⟩
theorem tw5502729883929239362:True:=⟨⟩
theorem tw7137874535784891826:True:=⟨⟩
theorem tw8992201818941844825:True:=⟨⟩
theorem tw10597634026589589941:True:=⟨⟩
theorem tw14264582183471431322:True:=⟨⟩
theorem tw7961496594360095205:True:=⟨⟩
theorem tw1616551290949348003:True:=⟨⟩
theorem tw7628779347806133299:True:=⟨⟩
theorem tw6538276524424620626:True:=⟨⟩
theorem tw10818225554282615307:True:=⟨⟩
theorem tw10868777028598840640:True:=⟨⟩
theorem tw2298254498279688947:True:=⟨⟩
theorem tw17454413560901838494:True:=⟨⟩
theorem tw17541195946019879668:True:=⟨⟩
theorem tw14426995078521965965:True:=⟨⟩
theorem tw3931005289396459358:True:=⟨⟩
theorem tw3436020668672547205:True:=⟨⟩
theorem tw15659395987179329270:True:=⟨⟩
theorem tw10956224136827300020:True:=⟨⟩
theorem tw8267122750307576544:True:=⟨⟩
theorem tw5008819538012439118:True:=⟨⟩
theorem tw13688655094255774410:True:=⟨⟩
theorem tw16730973197433893255:True:=⟨⟩
theorem tw10852409235620305542:True:=⟨⟩
theorem tw8380887309002339468:True:=⟨⟩
theorem tw16273847566655170539:True:=⟨⟩
theorem tw4892289608216221601:True:=⟨⟩
theorem tw6295087732648342206:True:=⟨⟩
theorem tw14223788856639955534:True:=⟨⟩
theorem tw17807112815005404749:True:=⟨⟩
theorem tw8911975838309265674:True:=⟨⟩
theorem tw17147804864062493654:True:=⟨⟩
theorem tw1230487987719840125:True:=⟨⟩
theorem tw9743757070582005157:True:=⟨⟩
theorem tw9542694071162681650:True:=⟨⟩
theorem tw14135804307419252078:True:=⟨⟩
theorem tw17293789894641530578:True:=⟨⟩
theorem tw9106827756514978474:True:=⟨⟩
theorem tw16586072507856272918:True:=⟨⟩
theorem tw4355042772013520578:True:=⟨⟩
theorem tw3206067719268095381:True:=⟨⟩
theorem tw15111595221880523074:True:=⟨⟩
theorem tw11854467086142789413:True:=⟨⟩
end PySem.W.Fast
section
open PySem PySem.W PyProof.Rows
set_option maxHeartbeats 0 in
open_top TP for PySem.Challenge.rw_roundglass_k60_desk_leads
end
section
namespace L2
open PySem PySem.Spec PyProof.Rows
noncomputable abbrev Key:=Sum Int Str
noncomputable def EJ:Key→Value→Bool
 | .inl k,v=>Value.isInt k v
 | .inr x,v=>Value.isStrOf x v
noncomputable def LK(w:World):Key→Int
 | .inl k=>hashInt k
 | .inr x=>hashStr w x
theorem y8:∀{k:Key} {v:Value},EJ k v=true→(∃ i t,k=Sum.inl i∧v=Value.int i t)∨(∃ x t,k=Sum.inr x∧v=Value.str x t)
 | .inl i,v,h=>by
  obtain⟨t,e⟩:=Value.isInt_shape (k:=i) (v:=v) h
  exact .inl ⟨i,t,rfl,e⟩
 | .inr x,v,h=>by
  obtain⟨t,e⟩:=Value.isStrOf_shape (x:=x) (v:=v) h
  exact .inr ⟨x,t,rfl,e⟩
theorem Hx(a b:Int):decide ((Sum.inl a:Key)=Sum.inl b)=(a == b):=by
 by_cases e:a=b
 ·subst e;simp
 ·have h:¬ (Sum.inl a:Key)=Sum.inl b:=fun q=>e (Sum.inl.inj q)
  rw[decide_eq_false h]
  exact(beq_eq_false_iff_ne.mpr e).symm
theorem Hu(a b:Str):decide ((Sum.inr a:Key)=Sum.inr b)=decide (a=b):=by
 by_cases e:a=b
 ·subst e;simp
 ·have h:¬ (Sum.inr a:Key)=Sum.inr b:=fun q=>e (Sum.inr.inj q)
  rw[decide_eq_false h,decide_eq_false e]
theorem Hw(a:Int)(b:Str):decide ((Sum.inl a:Key)=Sum.inr b)=false:=decide_eq_false (fun q=>nomatch q)
theorem Hv(a:Str)(b:Int):decide ((Sum.inr a:Key)=Sum.inl b)=false:=decide_eq_false (fun q=>nomatch q)
noncomputable def tw(prog:Program)(w:World):PySem.KeyKind prog w Key where
 is:=EJ
 hash:=LK w
 inj:=fun v a b ha hb=>by
  rcases y8 ha with⟨i,t,rfl,rfl⟩|⟨x,t,rfl,rfl⟩
  ·rcases y8 hb with⟨j,u,rfl,e⟩|⟨y,u,rfl,e⟩
   ·injection e with e1 _;rw[e1]
   ·exact nomatch e
  ·rcases y8 hb with⟨j,u,rfl,e⟩|⟨y,u,rfl,e⟩
   ·exact nomatch e
   ·injection e with e1 _;rw[e1]
 byValue:=fun k v h=>by
  rcases y8 h with⟨i,t,rfl,rfl⟩|⟨x,t,rfl,rfl⟩<;>rfl
 pyHash:=fun hv h=>by
  rcases y8 hv with⟨i,t,rfl,rfl⟩|⟨x,t,rfl,rfl⟩
  ·exact wpAny_pyHash_int h
  ·exact wpAny_pyHash_str h
 eqBool:=fun hu hv h=>by
  rcases y8 hu with⟨i,t,rfl,rfl⟩|⟨x,t,rfl,rfl⟩
  ·rcases y8 hv with⟨j,u,rfl,rfl⟩|⟨y,u,rfl,rfl⟩
   ·rw[Hx]at h;exact wpAny_eqBool_int h
   ·rw[Hw]at h;exact SeqAt.EqAt.int_str i t y u _ _ _ _ h
  ·rcases y8 hv with⟨j,u,rfl,rfl⟩|⟨y,u,rfl,rfl⟩
   ·rw[Hv]at h;exact SeqAt.EqAt.str_int x t j u _ _ _ _ h
   ·rw[Hu]at h;exact wpAny_eqBool_str h
 «strs»:=fun k x t v h=>by
  rcases y8 h with⟨i,u,rfl,e⟩|⟨y,u,rfl,e⟩
  ·exact nomatch e
  ·injection e with e1 _
   subst e1
   cases v<;>rfl
inductive V where
 | non|bl (b:Bool)|int (i:Int)|str (x:Str)|byt (b:Array UInt8)|flt (b:UInt64)|ref (a:Addr)|ty (n:String)
 deriving DecidableEq
noncomputable def o7:V→Value→Prop
 | .non,u=>u=Value.none
 | .bl b,u=>u=Value.bool b
 | .int i,u=>∃ t,u=Value.int i t
 | .str x,u=>∃ t,u=Value.str x t
 | .byt b,u=>∃ t,u=Value.bytes b t
 | .flt b,u=>∃ t,u=Value.float b t
 | .ref a,u=>u=Value.ref a
 | .ty n,u=>u=Value.type n
noncomputable abbrev j8:List V→List Value→Prop:=Paired o7
theorem j8.length{xs:List V}{us:List Value}(r:j8 xs us):xs.length=us.length:=Paired.length r
theorem j8.get:∀{xs:List V} {us:List Value} {i:Nat} {x:V},j8 xs us→xs[i]? = some x→∃ u,us[i]? = some u∧o7 x u
 | _,_,_,_,.nil,e=>by simp at e
 | _,_,0,_,.cons r _,e=>by simp at e;subst e;exact⟨_,rfl,r⟩
 | _,_,i+1,x,.cons _ t,e=>by
  obtain⟨u,h1,h2⟩:=j8.get (i:=i) (x:=x) t (by simpa using e)
  exact⟨u,by simpa using h1,h2⟩
theorem j8.set{x:V}{u:Value}(r:o7 x u):∀{xs:List V} {us:List Value} (i:Nat),j8 xs us→j8 (xs.set i x) (us.set i u)
 | _,_,_,.nil=>.nil
 | _,_,0,.cons _ t=>.cons r t
 | _,_,i+1,.cons q t=>.cons q (j8.set r i t)
theorem j8.append:∀{xs ys:List V} {us ws:List Value},j8 xs us→j8 ys ws→j8 (xs++ys) (us++ws)
 | _,_,_,_,.nil,s=>s
 | _,_,_,_,.cons r t,s=>.cons r (j8.append t s)
theorem j8.take:∀{xs:List V} {us:List Value} (n:Nat),j8 xs us→j8 (xs.take n) (us.take n)
 | _,_,0,_=>.nil
 | _,_,_+1,.nil=>.nil
 | _,_,n+1,.cons r t=>.cons r (j8.take n t)
theorem j8.drop:∀{xs:List V} {us:List Value} (n:Nat),j8 xs us→j8 (xs.drop n) (us.drop n)
 | _,_,0,r=>r
 | _,_,_+1,.nil=>.nil
 | _,_,n+1,.cons _ t=>j8.drop n t
theorem j8.none_of:∀{xs:List V} {us:List Value} {i:Nat},j8 xs us→xs[i]? = none→us[i]? = none:=fun{xs us i} r e=>by
 have h1:=r.length
 have h2:xs.length≤i:=Rn.mp e
 exact Rn.mpr (by omega)
noncomputable def ic:Option V→Option Value→Prop
 | some v,some u=>o7 v u
 | none,none=>True
 | _,_=>False
noncomputable def KV{κ:Type}:List (κ × V)→List (κ × Value)→Prop:=Paired fun(p:κ × V) (q:κ × Value)=>p.1=q.1∧o7 p.2 q.2
noncomputable def kV:Key→V
 | .inl i=>.int i
 | .inr x=>.str x
inductive HO where
 | lst (xs:List V)
 | tup (xs:List V)
 | dK (kvs:List (Key × V))|dT (kvs:List (List Key × V))
 | set (S:Int→Bool) (n:Nat)
 | ins (C dx:Addr) (fs:List (Str × V))
 | own (x:Addr)
 | xd (fs:List (Str × V))
 | met (f x:Addr)
 | rng (lo hi:Int)
 | frz (o:Obj) (u:HO)
 | tbl (ps:Array Value)
 | ext (φ:Heap→Prop)
noncomputable abbrev Hp:=Addr→Option HO
noncomputable def upd(H:Hp)(a:Addr)(o:HO):Hp:=fun b=>if b=a then some o else H b
theorem i6{H:Hp}{a:Addr}{o:HO}:upd H a o a=some o:=by unfold upd;rw[if_pos rfl]
theorem i8{H:Hp}{a b:Addr}{o:HO}(h:b≠a):upd H a o b=H b:=by unfold upd;rw[if_neg h]
theorem G9{H:Hp}{a:Addr}{o u:HO}:upd (upd H a o) a u=upd H a u:=by
 funext b;unfold upd;split<;>rfl
theorem D1{H:Hp}{a b:Addr}{o:HO}(h:H a=some o)(h':H b=none):a≠b:=by
 intro e;subst e;rw[h]at h';cases h'
section
variable (P:Program) (w:World)
noncomputable def C5(H:Hp)(h:Heap)(a:Addr):HO→Prop
 | .lst xs=>xs.length≤sizeLine∧∃(its:List Value) (n:Nat),j8 xs its∧h.get? a=some { cls:=.type "list",data:=.seq its.toArray n }
 | .tup xs=>xs.length≤sizeLine∧∃ its:List Value,j8 xs its∧IsTup h a its.toArray
 | .dK kvs=>kvs.length≤sizeLine∧(a == sysModules)=false∧∃ vs,KV kvs vs∧h.DictOf (tw P w) a vs
 | .dT kvs=>kvs.length≤sizeLine∧(a == sysModules)=false∧∃ xs:List (List Key × Addr × Value),
   Paired (fun(p:List Key × V) (q:List Key × Addr × Value)=>p.1=q.1∧H q.2.1=some (.tup (p.1.map kV))∧o7 p.2 q.2.2) kvs xs ∧
   ∃ o es ep,h.get? a=some o∧o.ExactDict∧o.data = .dict es ep∧es.toList=xs.map (entryOfKey (tupleKind (tw P w)))∧(xs.map (·.1)).Nodup
 | .set S n=>h.SetOf (intKind P w) a S n
 | .ins C dx fs=>H dx=some (.own a)∧fs.length≤1000∧dx≠a∧h.get? a=some (PySem.W.instObj C dx) ∧
   ∃ mA,h.Ns1 dx mA∧(∀ f,ic (fs.lookup f) (mA f))∧PySem.Within mA (fs.map (·.1))
 | .own _=>∃ o,h.get? a=some o
 | .xd fs=>∃ mA,h.Ns1 a mA∧∀ f,ic (fs.lookup f) (mA f)
 | .rng lo hi=>∃ t u v,h.get? a=some { cls:=.type "range",data:=.fields #[.int lo t,.int hi u,.int 1 v] }
 | .frz o u=>h.get? a=some o∧C5 H h a u
 | .tbl ps=>h.get? a=some { cls:=.none,data:=.fields ps }
 | .met f x=>h.get? a=some (PySem.W.methodObj (.ref f) (.ref x))
 | .ext φ=>φ h∧(∃ o,h.get? a=some o)∧∀ h1 h2:Heap,φ h1→(∀ o,h1.get? a=some o→h2.get? a=some o)→φ h2
def HOk(H:Hp)(h:Heap):Prop:=∀ a o,H a=some o→C5 P w H h a o
end
section
variable {P:Program} {w:World} {H H':Hp} {h h':Heap} {a:Addr} {o:HO}
theorem C5.lt(x:C5 P w H h a o):a<h.objs.size:=by
 cases o with
 | lst xs=>obtain⟨_,_,_,_,e⟩:=x;exact OY e
 | tup xs=>obtain⟨_,_,_,p⟩:=x;exact p.lt
 | dK kvs=>obtain⟨_,_,_,_,o,_,_,e,_⟩:=x;exact OY e
 | dT kvs=>obtain⟨_,_,_,_,o,_,_,e,_⟩:=x;exact OY e
 | set S n=>obtain⟨o,_,_,_,e,_⟩:=x;exact OY e
 | ins C dx fs=>obtain⟨_,_,_,e,_⟩:=x;exact OY e
 | own y=>obtain⟨_,e⟩:=x;exact OY e
 | xd fs=>obtain⟨_,⟨_,_,_,e,_⟩,_⟩:=x;exact OY e
 | rng lo hi=>obtain⟨_,_,_,e⟩:=x;exact OY e
 | frz ob u=>obtain⟨e,_⟩:=x;exact OY e
 | tbl ps=>exact OY (show h.get? a=some _ from x)
 | met f y=>exact OY (show h.get? a=some _ from x)
 | ext φ=>obtain⟨_,⟨_,e⟩,_⟩:=x;exact OY e
theorem Paired.mapP{α β:Type}{F G:α→β→Prop}:∀{l₁:List α} {l₂:List β},Paired F l₁ l₂→(∀ a b,F a b→G a b)→Paired G l₁ l₂
 | _,_,.nil,_=>.nil
 | _,_,.cons r t,f=>.cons (f _ _ r) (Paired.mapP t f)
theorem C5.stay(x:C5 P w H h a o)(k:∀ b u,(b=a∨H b=some (.own a))→h.get? b=some u→h'.get? b=some u)
  (ho:∀ b,H b=some (.own a)→H' b=some (.own a)) (ht:∀ b xs,H b=some (.tup xs)→H' b=some (.tup xs)):C5 P w H' h' a o:=by
 induction o with
 | lst xs=>obtain⟨z,its,n,r,e⟩:=x;exact⟨z,its,n,r,k _ _ (.inl rfl) e⟩
 | tup xs=>obtain⟨z,its,r,ob,e,c⟩:=x;exact⟨z,its,r,ob,k _ _ (.inl rfl) e,c⟩
 | dK kvs=>obtain⟨z,y,vs,r,ob,es,ep,e,c⟩:=x;exact⟨z,y,vs,r,ob,es,ep,k _ _ (.inl rfl) e,c⟩
 | dT kvs =>
  obtain⟨z,y,xs,r,ob,es,ep,e,c⟩:=x
  exact⟨z,y,xs,Paired.mapP r fun p q z=>⟨z.1,ht _ _ z.2.1,z.2.2⟩,ob,es,ep,k _ _ (.inl rfl) e,c⟩
 | set S n=>obtain⟨ob,es,ep,t,e,c⟩:=x;exact⟨ob,es,ep,t,k _ _ (.inl rfl) e,c⟩
 | ins C dx fs =>
  obtain⟨d,z,ne,e,mA,⟨od,es,ep,e2,c⟩,r⟩:=x
  exact⟨ho _ d,z,ne,k _ _ (.inl rfl) e,mA,⟨od,es,ep,k _ _ (.inr d) e2,c⟩,r⟩
 | own y=>obtain⟨ob,e⟩:=x;exact⟨ob,k _ _ (.inl rfl) e⟩
 | xd fs=>obtain⟨mA,⟨od,es,ep,e,c⟩,r⟩:=x;exact⟨mA,⟨od,es,ep,k _ _ (.inl rfl) e,c⟩,r⟩
 | rng lo hi=>obtain⟨t,u,v,e⟩:=x;exact⟨t,u,v,k _ _ (.inl rfl) e⟩
 | frz ob u ih=>obtain⟨e,q⟩:=x;exact⟨k _ _ (.inl rfl) e,ih q⟩
 | tbl ps =>
  have e:h.get? a=some { cls:=.none,data:=.fields ps }:=x
  show h'.get? a=some { cls:=.none,data:=.fields ps }
  exact k a _ (.inl rfl) e
 | met f y =>
  have e:h.get? a=some (PySem.W.methodObj (.ref f) (.ref y)):=x
  show h'.get? a=some (PySem.W.methodObj (.ref f) (.ref y))
  exact k a _ (.inl rfl) e
 | ext φ=>obtain⟨p,⟨o,e⟩,st⟩:=x;exact⟨st _ _ p fun o q=>k _ _ (.inl rfl) q,⟨o,k _ _ (.inl rfl) e⟩,st⟩
theorem HOk.lt(x:HOk P w H h)(e:H a=some o):a<h.objs.size:=(x a o e).lt
theorem HOk.fresh(x:HOk P w H h)(e:h.objs.size≤a):H a=none:=by
 cases q:H a with
 | none=>rfl
 | some u=>exact absurd (OV (x.lt q) e) (PV _)
theorem HOk.kept(x:HOk P w H h)(k:∀ b u,h.get? b=some u→h'.get? b=some u):HOk P w H h':=fun a o e =>
 (x a o e).stay (fun b u _ q=>k b u q) (fun _ q=>q) fun _ _ q=>q
theorem HOk.laid(x:HOk P w H h)(k:∀ b u,h.get? b=some u→h'.get? b=some u)(hp:h.objs.size≤a)(new:C5 P w (upd H a o) h' a o):HOk P w (upd H a o) h':=fun b u e=>by
 have hn:=x.fresh hp
 by_cases hb:b=a
 ·subst hb;rw[i6]at e;cases e;exact new
 ·rw[i8 hb]at e
  exact(x b u e).stay (fun c v _ q=>k c v q) (fun c q=>by rw[i8 (D1 q hn)];exact q) fun c xs q=>by rw[i8 (D1 q hn)];exact q
end
def Rd(H:Hp)(a:Addr)(u:HO):Prop:=H a=some u ∨ ∃ o,H a=some (.frz o u)
theorem Rd.of{H:Hp}{a:Addr}{u:HO}(h:H a=some u):Rd H a u:=.inl h
theorem Rd.ok{P:Program}{w:World}{H:Hp}{h:Heap}{a:Addr}{u:HO}(r:Rd H a u)(x:HOk P w H h):C5 P w H h a u:=by
 rcases r with r|⟨o,r⟩
 ·exact x a u r
 ·obtain⟨_,q⟩:=x a _ r
  exact q
noncomputable def Mut:Option HO→Prop
 | some (.lst _)=>True
 | some (.dK _)=>True
 | some (.dT _)=>True
 | some (.set _ _)=>True
 | some (.ins _ _ _)=>True
 | some (.ext _)=>True
 | _=>False
section
variable {P:Program} {w:World} {H:Hp} {h h':Heap} {x e:Addr} {o':HO}
theorem HOk.write(ok:HOk P w H h)(mu:Mut (H x))(he:e=x∨H e=some (.own x))(k:∀ b u,b≠e→h.get? b=some u→h'.get? b=some u)(heo:∃ u,h'.get? e=some u)
  (new:C5 P w (upd H x o') h' x o'):HOk P w (upd H x o') h':=fun b u q=>by
 have nown:∀ c y,H c=some (.own y)→c≠x:=fun c y r z=>by subst z;rw[r]at mu;exact mu
 have ntup:∀ c xs,H c=some (.tup xs)→c≠x:=fun c xs r z=>by subst z;rw[r]at mu;exact mu
 by_cases hb:b=x
 ·subst hb;rw[i6]at q;cases q;exact new
 ·rw[i8 hb]at q
  by_cases hbe:b=e
  ·have q':H b=some (.own x):=by
    rcases he with z|z
    ·exact absurd (hbe.trans z) hb
    ·rw[hbe];exact z
   rw[q]at q';cases q'
   obtain⟨v,hv⟩:=heo
   exact⟨v,by rw[hbe];exact hv⟩
  ·refine(ok b u q).stay (fun c v hc r=>k c v ?_ r) (fun c r=>by rw[i8 (nown c b r)];exact r) fun c xs r=>by rw[i8 (ntup c xs r)];exact r
   rcases hc with rfl|hc
   ·exact hbe
   ·rintro rfl
    rcases he with z|z
    ·exact nown c b hc z
    ·rw[hc]at z;cases z;exact hb rfl
end
structure Un(fs ex:List Addr)(H H':Hp)(h h':Heap):Prop where
 keep:∀ b o,h.get? b=some o→H b=none→b∉fs→b∉ex→h'.get? b=some o
 slot:∀ b o,h.get? b=some o→H b=none→b∈fs→b∉ex→∃ sl,h'.get? b=some { o with slots:=sl }
 free:∀ b o,h.get? b=some o→H b=none→b∉ex→H' b=none
 there:∀ b o,h.get? b=some o→b∉ex→∃ o',h'.get? b=some o'
 tups:∀ b xs,H b=some (.tup xs)→H' b=some (.tup xs)
 frzs:∀ b o u,H b=some (.frz o u)→H' b=some (.frz o u)
 tbls:∀ b ps,H b=some (.tbl ps)→∃ more,H' b=some (.tbl (ps++more))
section
variable {fs fs' ex ex':List Addr} {H H1 H2:Hp} {h h1 h2 h':Heap} {a x e:Addr} {o:HO}
theorem Un.any(u:Un fs ex H H1 h h1){b:Addr}{ob:Obj}(q:h.get? b=some ob)(n:H b=none)(hx:b∉ex):∃ sl,h1.get? b=some { ob with slots:=sl }:=by
 by_cases hb:b∈fs
 ·exact u.slot b ob q n hb hx
 ·exact⟨ob.slots,u.keep b ob q n hb hx⟩
theorem Un.trans(a:Un fs ex H H1 h h1)(b:Un fs ex H1 H2 h1 h2):Un fs ex H H2 h h2 where
 keep:=fun c ob q n hc hx=>b.keep c ob (a.keep c ob q n hc hx) (a.free c ob q n hx) hc hx
 slot:=fun c ob q n hc hx=>by
  obtain⟨sl,e1⟩:=a.slot c ob q n hc hx
  obtain⟨sl',e2⟩:=b.slot c _ e1 (a.free c ob q n hx) hc hx
  exact⟨sl',e2⟩
 free:=fun c ob q n hx=>by
  obtain⟨o',e1⟩:=a.there c ob q hx
  exact b.free c o' e1 (a.free c ob q n hx) hx
 there:=fun c ob q hx=>by
  obtain⟨o',e1⟩:=a.there c ob q hx
  exact b.there c o' e1 hx
 tups:=fun c xs q=>b.tups c xs (a.tups c xs q)
 frzs:=fun c ob xs q=>b.frzs c ob xs (a.frzs c ob xs q)
 tbls:=fun c ps q=>by
  obtain⟨m1,e1⟩:=a.tbls c ps q
  obtain⟨m2,e2⟩:=b.tbls c _ e1
  exact⟨m1++m2,by rw[e2,Array.append_assoc]⟩
theorem Un.kept(k:∀ b u,h.get? b=some u→h'.get? b=some u):Un fs ex H H h h' :=
 ⟨fun b ob q _ _ _=>k b ob q,fun b ob q _ _ _=>⟨ob.slots,k b ob q⟩,fun _ _ _ n _=>n,fun b ob q _=>⟨ob,k b ob q⟩,fun _ _ q=>q,fun _ _ _ q=>q,fun _ ps q=>⟨#[],by rw[q];simp⟩⟩
theorem Un.refl:Un fs ex H H h h:=Un.kept fun _ _ q=>q
theorem Un.laid(k:∀ b u,h.get? b=some u→h'.get? b=some u)(hp:h.objs.size≤a)(hn:H a=none):Un fs ex H (upd H a o) h h' where
 keep:=fun b u q _ _ _=>k b u q
 slot:=fun b u q _ _ _=>⟨u.slots,k b u q⟩
 free:=fun b u q n _=>by rw[i8 (Pu (OV (OY q) hp))];exact n
 there:=fun b u q _=>⟨u,k b u q⟩
 tups:=fun b xs q=>by rw[i8 (D1 q hn)];exact q
 frzs:=fun b u xs q=>by rw[i8 (D1 q hn)];exact q
 tbls:=fun b ps q=>⟨#[],by rw[i8 (D1 q hn),q];simp⟩
theorem Un.write(mu:Mut (H x))(he:e=x∨H e=some (.own x))(k:∀ b u,b≠e→h.get? b=some u→h'.get? b=some u)(heo:∃ u,h'.get? e=some u):Un fs ex H (upd H x o) h h':=by
 have hx:∀ b,H b=none→b≠x:=fun b n z=>by subst z;rw[n]at mu;exact mu
 have hb:∀ b,H b=none→b≠e:=fun b n z=>by
  subst z
  rcases he with r|r
  ·exact hx b n r
  ·rw[n]at r;cases r
 have hm:∀ b u,H b=some u→¬ Mut (some u)→b≠x:=fun b u q nm z=>by subst z;rw[q]at mu;exact nm mu
 refine⟨fun b u q n _ _=>k b u (hb b n) q,fun b u q n _ _=>⟨u.slots,k b u (hb b n) q⟩,fun b u q n _=>by rw[i8 (hx b n)];exact n,fun b u q _=>?_,
  fun b xs q=>by rw[i8 (hm b _ q fun z=>z)];exact q,fun b u xs q=>by rw[i8 (hm b _ q fun z=>z)];exact q,fun b ps q=>⟨#[],by rw[i8 (hm b _ q fun z=>z),q];simp⟩⟩
 by_cases hbe:b=e
 ·subst hbe;exact heo
 ·exact⟨u,k b u hbe q⟩
theorem Un.mono(u:Un fs ex H H1 h h1)(hs:∀ b∈fs,b∈fs')(hx:∀ b∈ex,b∈ex'):Un fs' ex' H H1 h h1 :=
 ⟨fun b ob q n hb he=>u.keep b ob q n (fun z=>hb (hs b z)) fun z=>he (hx b z),fun _ _ q n _ he=>u.any q n fun z=>he (hx _ z),fun b ob q n he=>u.free b ob q n fun z=>he (hx b z),fun b ob q he=>u.there b ob q fun z=>he (hx b z),u.tups,u.frzs,u.tbls⟩
end
noncomputable def trk(h:Heap)(H:Hp):List Addr:=(QT h.objs.size).filter fun a=>(H a).isSome
noncomputable def kM(h:Heap)(H:Hp):Heap:=PySem.W.hideAll h (trk h H)
theorem uV(h:Heap)(H:Hp):(kM h H).objs.size=h.objs.size:=PySem.W.hideAll_size _ _
theorem yR{h:Heap}{H:Hp}{b:Addr}{o:Obj}(e:h.get? b=some o)(n:H b=none):(kM h H).get? b=some o :=
 PySem.W.hideAll_get _ e fun hm=>by
  have q:(H b).isSome=true:=(QV.mp hm).2
  rw[n]at q;simp at q
theorem Ck{h:Heap}{H:Hp}{b:Addr}{o:Obj}(e:(kM h H).get? b=some o):h.get? b=some o∧H b=none:=by
 have e':h.get? b=some o:=PySem.W.of_hideAll (trk h H) e
 refine⟨e',?_⟩
 cases q:H b with
 | none=>rfl
 | some x =>
  have hm:b∈trk h H:=QV.mpr ⟨List.mem_range.mpr (OY e'),by simp[q]⟩
  have z:(kM h H).get? b=none:=PySem.W.hideAll_none (trk h H) hm
  rw[z]at e;cases e
noncomputable def Dg(g h:Heap)(L:Addr):List (Addr × Obj):=(QT h.objs.size).filterMap fun a=>if a=L∨(g.get? a).isSome=true then none else(h.get? a).map fun o=>(a,o)
noncomputable def C9(g h:Heap)(L d:Addr):List (Addr × Obj):=(Dg g h L).filter fun p=>decide (p.1≠d)
structure Mod(K:OR)(mg:Str→Option Value)(base:Heap):Prop where
 kin:K.In base
 glob:base.Ns mainGlobals mg
 blt:∃ mb,base.Ns builtinsNs mb∧∀ x:Str,x ≠ "__name__" → mb x=bootBuiltins x
 nolimit:base.NoLimit
structure Cx where
 prog:Program
 w:World
 K:OR
 mg:Str→Option Value
 base:Heap
 A:Around
 N:List Str
 s₀:Shared
 H₀:Hp
 env:Env
 outer:List Env
 stack:List Env
 ex:List Addr
 fn:Str→Bool
 calm:Bool
 pn:List (Addr × Obj)
 xe:Value→Shared→Prop
noncomputable def frs(l:List Env):List Addr:=l.filterMap (·.frame)
noncomputable abbrev Cx.fs(X:Cx):List Addr:=frs X.outer
def Vis(sc:Scope)(x:Str):Prop:=sc.names.lookup x=some .local∨sc.names.lookup x=some .cell∨sc.names.lookup x=some .free
def Loc(sc:Scope)(x:Str):Prop:=sc.names.lookup x=some .local∨sc.names.lookup x=some .cell
def LW(env:Env)(h:Heap)(m:Str→Option Value)(x:Str)(u:Value):Prop :=
 (env.kindOf x=some .local∧m x=some u)∨((env.kindOf x=some .cell∨env.kindOf x=some .free)∧∃ c,env.cells.lookup x=some c∧h.IsCell c (some u))
structure Cx.Ok(X:Cx):Prop where
 mod:Mod X.K X.mg X.base
 kind:X.env.scope.kind = .function
 glob:X.env.globals=mainGlobals
 blt:X.env.builtins=builtinsNs
 above:X.s₀.heap.objs.size≤X.env.locals
 inj:∀ x y c,X.env.cells.lookup x=some c→X.env.cells.lookup y=some c→x=y
 has:∀ x,(X.env.kindOf x=some .cell∨X.env.kindOf x=some .free)→∃ c,X.env.cells.lookup x=some c
 cab:∀ x c,X.fn x=true→X.env.cells.lookup x=some c→X.s₀.heap.objs.size≤c
 hd:X.calm=true→X.A.handled=none
 frames:X.A.frames=some X.stack
 stk:X.stack=X.outer∨(X.stack=X.env :: X.outer∧X.env.frame=some X.env.locals)
 exf:∀ b∈X.ex,b≠X.env.locals∧∀ x c,X.env.cells.lookup x=some c→c≠b
 bs:∀ b o,X.base.get? b=some o→X.s₀.heap.get? b=some o∧X.H₀ b=none
 bsz:X.base.objs.size≤X.s₀.heap.objs.size
 noex:∀ b o,X.base.get? b=some o→b∉X.ex
 exfs:∀ b∈X.ex,b∉X.fs
 funs:X.s₀.heap.FunFrames X.base X.outer
 frf:∀ b∈X.fs,X.H₀ b=none
structure Inv(X:Cx)(pins:List (Addr × Obj))(σ:List (Option V))(H:Hp)(s:Shared):Prop where
 ok:X.Ok
 os:s.os=X.s₀.os
 bare:AllBare s.gens
 base:Un X.fs X.ex X.H₀ H X.s₀.heap s.heap
 loc:∃ m,s.heap.Ns X.env.locals m∧∀(i:Nat) (x:Str) (v:V),X.N[i]? = some x→σ[i]? = some (some v)→Vis X.env.scope x→∃ u,o7 v u∧LW X.env s.heap m x u
 cell:∀ x c,X.env.cells.lookup x=some c→∃ v,s.heap.IsCell c v
 free:H X.env.locals=none
 freeC:∀ x c,X.env.cells.lookup x=some c→H c=none
 pin:∀ p∈X.pn++pins,s.heap.get? p.1=some p.2∧H p.1=none∧p.1≠X.env.locals∧p.1∉X.fs∧∀ v,p.2.data ≠ .cell v
 hok:HOk X.prog X.w H s.heap
 len:σ.length=X.N.length
section
variable {X:Cx} {pins:List (Addr × Obj)} {σ:List (Option V)} {H H':Hp} {s:Shared} {h':Heap}
theorem Cx.Ok.nofr(ok:X.Ok){b:Addr}{o:Obj}(e:X.base.get? b=some o):b∉X.fs:=fun hb=>by
 have:=(ok.funs.mem hb).1
 rw[e]at this;cases this
theorem Inv.bs(I:Inv X pins σ H s):∀ b o,X.base.get? b=some o→s.heap.get? b=some o∧H b=none:=fun b o e =>
 ⟨I.base.keep b o (I.ok.bs b o e).1 (I.ok.bs b o e).2 (I.ok.nofr e) (I.ok.noex b o e),I.base.free b o (I.ok.bs b o e).1 (I.ok.bs b o e).2 (I.ok.noex b o e)⟩
theorem Inv.bk(I:Inv X pins σ H s):∀ b o,X.base.get? b=some o→s.heap.get? b=some o:=fun b o e=>(I.bs b o e).1
theorem Inv.mod(I:Inv X pins σ H s):Mod X.K X.mg X.base:=I.ok.mod
theorem Inv.kIn(I:Inv X pins σ H s):X.K.In s.heap:=I.ok.mod.kin.keeps I.bk
theorem Inv.nolimit(I:Inv X pins σ H s):s.heap.NoLimit:=I.ok.mod.nolimit.keeps I.bk
theorem Inv.fr(I:Inv X pins σ H s):∃ m,Fr X.base X.env.locals s.heap m :=
 let ⟨m,hn,_⟩:=I.loc
 ⟨m,hn,I.bk,Pa I.ok.bsz I.ok.above⟩
theorem Inv.lt(I:Inv X pins σ H s):X.env.locals<s.heap.objs.size:=let ⟨_,hn,_⟩:=I.loc;hn.lt
theorem Inv.sz(I:Inv X pins σ H s):X.s₀.heap.objs.size≤s.heap.objs.size:=Pa I.ok.above (Sq I.lt)
theorem Inv.nofs(I:Inv X pins σ H s){a:Addr}(h:s.heap.objs.size≤a):a∉X.fs:=fun hb=>by
 obtain⟨_,o,ho,_⟩:=I.ok.funs.mem hb
 exact absurd (OV (OY ho) (Pa I.sz h)) (PV _)
theorem Inv.cne(I:Inv X pins σ H s):∀ x c,X.env.cells.lookup x=some c→c≠X.env.locals:=fun x c e z=>by
 obtain⟨v,o,ho,hd⟩:=I.cell x c e
 obtain⟨m,⟨o',es,ep,ho',hd',_⟩,_⟩:=I.loc
 rw[z,ho']at ho;cases ho;rw[hd']at hd;cases hd
theorem Inv.funs(I:Inv X pins σ H s):s.heap.FunFrames X.base X.outer:=by
 have all:∀(l:List Env),(∀ b∈frs l,b∈X.fs)→X.s₀.heap.FunFrames X.base l→s.heap.FunFrames X.base l:=by
  intro l
  induction l with
  | nil=>intro _ _;trivial
  | cons env r ih =>
   intro hs hl
   obtain⟨hk,⟨L,o,hf,hn,ho,hd⟩,hr⟩:=hl
   have hL:L∈X.fs:=hs L (by unfold frs;rw[QD,hf];exact Ph)
   obtain⟨sl,e⟩:=I.base.slot L o ho (I.ok.frf L hL) hL fun z=>I.ok.exfs L z hL
   exact⟨hk,⟨L,_,hf,hn,e,hd⟩,ih (fun b hb=>hs b (by unfold frs;rw[QD,hf];exact OW _ hb)) hr⟩
 exact all X.outer (fun _ hb=>hb) I.ok.funs
theorem Inv.stack(I:Inv X pins σ H s):s.heap.FunFrames X.base X.stack:=by
 rcases I.ok.stk with e|⟨e,hf⟩
 ·rw[e];exact I.funs
 ·rw[e]
  obtain⟨m,hn,_⟩:=I.loc
  refine .cons (by rw[I.ok.kind];decide) hf hn ?_ I.funs
  exact RT (Pa I.ok.bsz I.ok.above)
theorem Inv.stkSub(I:Inv X pins σ H s):∀ b∈frs X.stack,b∈X.env.locals :: X.fs:=fun b hb=>by
 rcases I.ok.stk with e|⟨e,hf⟩
 ·rw[e]at hb;exact OW _ hb
 ·rw[e]at hb
  unfold frs at hb
  rw[QD,hf]at hb
  exact hb
theorem Inv.stkFree(I:Inv X pins σ H s):∀ b∈frs X.stack,H b=none:=fun b hb=>by
 rcases Pb.mp (I.stkSub b hb)with e|hb
 ·rw[e];exact I.free
 ·obtain⟨_,o,ho,_⟩:=I.ok.funs.mem hb
  exact I.base.free b o ho (I.ok.frf b hb) fun z=>I.ok.exfs b z hb
theorem Inv.step{g':Array GenState}{t':Nat}{d':Drawn}{ch:List Addr}(I:Inv X pins σ H s)
  (hch:∀ b∈ch,(b∈X.ex∨X.s₀.heap.objs.size≤b)∧b≠X.env.locals∧(∀ x c,X.env.cells.lookup x=some c→c≠b)∧∀ p∈X.pn++pins,p.1≠b)
  (keep:∀ b o,b≠X.env.locals→b∉X.fs→b∉ch→s.heap.get? b=some o→H b=none→h'.get? b=some o)
  (slot:∀ b o,b≠X.env.locals→b∈X.fs→b∉ch→s.heap.get? b=some o→H b=none→∃ sl,h'.get? b=some { o with slots:=sl }) (free:∀ b o,b∉ch→s.heap.get? b=some o→H b=none→H' b=none)
  (there:∀ b o,b∉ch→s.heap.get? b=some o→∃ o',h'.get? b=some o')
  (tups:∀ b xs,H b=some (.tup xs)→H' b=some (.tup xs)) (frzs:∀ b o u,H b=some (.frz o u)→H' b=some (.frz o u)) (tbls:∀ b ps,H b=some (.tbl ps)→∃ more,H' b=some (.tbl (ps++more)))
  (ns:∀ m,s.heap.Ns X.env.locals m→h'.Ns X.env.locals m) (hok:HOk X.prog X.w H' h') (hg:AllBare g') :
  Inv X pins σ H' { s with heap:=h',gens:=g',drawn:=d',toks:=t' }:=by
 have neL:∀ b o,X.s₀.heap.get? b=some o→b≠X.env.locals:=fun b o e=>Pu (OV (OY e) I.ok.above)
 have neC:∀ b o,X.s₀.heap.get? b=some o→b∉X.ex→b∉ch:=fun b o e hx hb=>by
  rcases(hch b hb).1 with z|z
  ·exact hx z
  ·exact absurd (OV (OY e) z) (PV _)
 have cellK:∀ x c,X.env.cells.lookup x=some c→∀ v,s.heap.IsCell c v→h'.IsCell c v:=fun x c e v zz=>by
  obtain⟨o,ho,hd⟩:=zz
  have nch:c∉ch:=fun z=>(hch c z).2.2.1 x c e rfl
  by_cases hc:c∈X.fs
  ·obtain⟨sl,q⟩:=slot c o (I.cne x c e) hc nch ho (I.freeC x c e)
   exact⟨_,q,hd⟩
  ·exact⟨o,keep c o (I.cne x c e) hc nch ho (I.freeC x c e),hd⟩
 refine⟨I.ok,I.os,hg,⟨fun b o e n hb hx=>?_,fun b o e n hb hx=>?_,fun b o e n hx=>?_,fun b o e hx=>?_,fun b xs e=>tups b xs (I.base.tups b xs e),fun b o xs e=>frzs b o xs (I.base.frzs b o xs e),fun b ps e=>?_⟩,?_,fun x c e=>?_,?_,fun x c e=>?_,fun p hp=>?_,hok,I.len⟩
 ·exact keep b o (neL b o e) hb (neC b o e hx) (I.base.keep b o e n hb hx) (I.base.free b o e n hx)
 ·obtain⟨sl,e1⟩:=I.base.slot b o e n hb hx
  obtain⟨sl',e2⟩:=slot b _ (neL b o e) hb (neC b o e hx) e1 (I.base.free b o e n hx)
  exact⟨sl',e2⟩
 ·obtain⟨o',e1⟩:=I.base.there b o e hx
  exact free b o' (neC b o e hx) e1 (I.base.free b o e n hx)
 ·obtain⟨o',e1⟩:=I.base.there b o e hx
  exact there b o' (neC b o e hx) e1
 ·obtain⟨m1,e1⟩:=I.base.tbls b ps e
  obtain⟨m2,e2⟩:=tbls b _ e1
  exact⟨m1++m2,by rw[e2,Array.append_assoc]⟩
 ·obtain⟨m,hn,hl⟩:=I.loc
  refine⟨m,ns m hn,fun i x v e1 e2 e3=>?_⟩
  obtain⟨u,r,l⟩:=hl i x v e1 e2 e3
  refine⟨u,r,?_⟩
  rcases l with l|⟨k,c,e,z⟩
  ·exact .inl l
  ·exact .inr ⟨k,c,e,cellK x c e _ z⟩
 ·obtain⟨v,z⟩:=I.cell x c e
  exact⟨v,cellK x c e v z⟩
 ·obtain⟨m,⟨o,_,_,ho,_⟩,_⟩:=I.loc
  exact free _ o (fun z=>(hch _ z).2.1 rfl) ho I.free
 ·obtain⟨v,o,ho,hd⟩:=I.cell x c e
  exact free c o (fun z=>(hch c z).2.2.1 x c e rfl) ho (I.freeC x c e)
 ·obtain⟨e,n,ne,nf,d⟩:=I.pin p hp
  have nch:p.1∉ch:=fun z=>(hch p.1 z).2.2.2 p hp rfl
  exact⟨keep p.1 p.2 ne nf nch e n,free p.1 p.2 nch e n,ne,nf,d⟩
theorem Inv.un{t':Nat}(I:Inv X pins σ H s)(u:Un X.fs [] H H' s.heap h')(hok:HOk X.prog X.w H' h'):Inv X pins σ H' { s with heap:=h',toks:=t' }:=by
 obtain⟨m,⟨o,es,ep,ho,r⟩,_⟩:=id I.loc
 obtain⟨sl,hL⟩:=u.any ho I.free (by simp)
 exact I.step (g':=s.gens) (d':=s.drawn) (ch:=[]) (fun _ z=>nomatch z) (fun b o _ hb _ e n=>u.keep b o e n hb (by simp)) (fun b o _ hb _ e n=>u.slot b o e n hb (by simp)) (fun b o _ e n=>u.free b o e n (by simp)) (fun b o _ e=>u.there b o e (by simp)) u.tups u.frzs u.tbls (fun m' hm=>by
  obtain⟨o',es',ep',ho',r'⟩:=hm
  rw[ho]at ho';cases ho'
  exact⟨_,es',ep',hL,r'⟩) hok I.bare
theorem Inv.call{g':Array GenState}{t':Nat}{d':Drawn}{ch:List Addr}(I:Inv X pins σ H s)(u:Un (frs X.stack) ch H H' s.heap h')(hok:HOk X.prog X.w H' h')(hg:AllBare g')
  (hch:∀ b∈ch,(b∈X.ex∨X.s₀.heap.objs.size≤b)∧b≠X.env.locals∧(∀ x c,X.env.cells.lookup x=some c→c≠b)∧∀ p∈X.pn++pins,p.1≠b) :
  Inv X pins σ H' { s with heap:=h',gens:=g',drawn:=d',toks:=t' }:=by
 obtain⟨m,⟨o,es,ep,ho,r⟩,_⟩:=id I.loc
 obtain⟨sl,hL⟩:=u.any ho I.free fun z=>(hch _ z).2.1 rfl
 exact I.step (ch:=ch) hch (fun b o hL hb hc e n=>u.keep b o e n (fun z=>(Pb.mp (I.stkSub b z)).elim hL hb) hc) (fun b o _ _ hc e n=>u.any e n hc) (fun b o hc e n=>u.free b o e n hc) (fun b o hc e=>u.there b o e hc) u.tups u.frzs u.tbls (fun m' hm=>by
  obtain⟨o',es',ep',ho',r'⟩:=hm
  rw[ho]at ho';cases ho'
  exact⟨_,es',ep',hL,r'⟩) hok hg
theorem Inv.turned{t':Nat}{it:Addr}(I:Inv X pins σ H s)(k:∀ b o,b≠it→s.heap.get? b=some o→h'.get? b=some o)(hn:H it=none)(hL:it≠X.env.locals)
  (h1:it∈X.ex∨X.s₀.heap.objs.size≤it) (h2:∀ x c,X.env.cells.lookup x=some c→c≠it) (h3:∀ p∈X.pn++pins,p.1≠it):Inv X pins σ H { s with heap:=h',toks:=t' }:=by
 have nit:∀ b u,H b=some u→b≠it:=fun b u e z=>by rw[z,hn]at e;cases e
 refine I.step (g':=s.gens) (d':=s.drawn) (ch:=[it]) (fun b hb=>?_) (fun b o _ _ hc e _=>k b o (fun z=>hc (by simp[z])) e) (fun b o _ _ hc e _=>⟨o.slots,k b o (fun z=>hc (by simp[z])) e⟩) (fun _ _ _ _ n=>n)
  (fun b o hc e=>⟨o,k b o (fun z=>hc (by simp[z])) e⟩) (fun _ _ e=>e) (fun _ _ _ e=>e) (fun b ps e=>⟨#[],by rw[e];simp⟩) (fun m hm=>?_) (fun b u e=>?_) I.bare
 ·have e:b=it:=by simpa using hb
  subst e
  exact⟨h1,hL,h2,h3⟩
 ·obtain⟨o,es,ep,ho,r⟩:=hm
  exact⟨o,es,ep,k _ o (Ne.symm hL) ho,r⟩
 ·refine(I.hok b u e).stay (fun c v hc q=>k c v ?_ q) (fun _ q=>q) fun _ _ q=>q
  rcases hc with z|z
  ·rw[z];exact nit b u e
  ·exact nit c _ z
theorem Inv.tok(I:Inv X pins σ H s)(t:Nat):Inv X pins σ H { s with toks:=t }:=I.un (h':=s.heap) (t':=t) Un.refl I.hok
theorem Inv.kept{t':Nat}(I:Inv X pins σ H s)(k:∀ b u,s.heap.get? b=some u→h'.get? b=some u):Inv X pins σ H { s with heap:=h',toks:=t' }:=I.un (Un.kept k) (I.hok.kept k)
theorem Inv.laid{a:Addr}{o:HO}{t':Nat}(I:Inv X pins σ H s)(k:∀ b u,s.heap.get? b=some u→h'.get? b=some u)(hp:s.heap.objs.size≤a)(new:C5 X.prog X.w (upd H a o) h' a o) :
  Inv X pins σ (upd H a o) { s with heap:=h',toks:=t' }:=I.un (Un.laid k hp (I.hok.fresh hp)) (I.hok.laid k hp new)
theorem Inv.write{x e:Addr}{o:HO}{t':Nat}(I:Inv X pins σ H s)(mu:Mut (H x))(he:e=x∨H e=some (.own x))(k:∀ b u,b≠e→s.heap.get? b=some u→h'.get? b=some u)(heo:∃ u,h'.get? e=some u)
  (new:C5 X.prog X.w (upd H x o) h' x o):Inv X pins σ (upd H x o) { s with heap:=h',toks:=t' }:=I.un (Un.write mu he k heo) (I.hok.write mu he k heo new)
theorem Inv.weak{σ':List (Option V)}(I:Inv X pins σ H s)(hl:σ'.length=σ.length)(w:∀(i:Nat) v,σ'[i]? = some (some v)→σ[i]? = some (some v)):Inv X pins σ' H s :=
 ⟨I.ok,I.os,I.bare,I.base,let ⟨m,hn,hl'⟩:=I.loc;⟨m,hn,fun i x v e1 e2 e3=>hl' i x v e1 (w i v e2) e3⟩,I.cell,I.free,I.freeC,I.pin,I.hok,hl.trans I.len⟩
theorem Inv.pins_of{pins':List (Addr × Obj)}(I:Inv X pins σ H s)(h:∀ p∈pins',s.heap.get? p.1=some p.2∧H p.1=none∧p.1≠X.env.locals∧p.1∉X.fs∧∀ v,p.2.data ≠ .cell v):Inv X pins' σ H s :=
 ⟨I.ok,I.os,I.bare,I.base,I.loc,I.cell,I.free,I.freeC,fun p hp=>(Pq.mp hp).elim (fun z=>I.pin p (Qy _ z)) (h p),I.hok,I.len⟩
theorem nB{N:List Str}(hN:N.Nodup){i j:Nat}{x:Str}(a:N[i]? = some x)(b:N[j]? = some x):i=j:=by
 obtain⟨h1,e1⟩:=Pc.mp a
 obtain⟨h2,e2⟩:=Pc.mp b
 exact(List.getElem_inj hN).mp (e1.trans e2.symm)
theorem iV{M:Model}{A:Around}{E:Value→Shared→Prop}{i:Nat}{x:Str}{v:V}{u:Value}{Q:Unit→Shared→Prop}(I:Inv X pins σ H s)(hN:X.N.Nodup)(hi:X.N[i]? = some x)(hx:Loc X.env.scope x)(r:o7 v u)
  (h:∀ s',Inv X pins (σ.set i (some v)) H s'→(∃ a,Heap.SameBut a s.heap s'.heap∧(a=X.env.locals∨X.env.cells.lookup x=some a))→Q () s') (hf:X.fn x=true∨X.env.scope.names.lookup x=some .local:=by first|exact .inl rfl|exact .inr rfl|assumption):wpAny M A (storeName X.env x u) Q E s:=by
 obtain⟨m,hn,hl⟩:=id I.loc
 have hcls:(X.env.scope.kind == .class || (X.env.scope.kind == .module && X.env.locals != X.env.globals))=false:=by rw[I.ok.kind];rfl
 have hiσ:i<σ.length:=by rw[I.len];exact(Pc.mp hi).1
 have cne:=I.cne
 have tracked:∀{a:Addr} {h':Heap},(∃ o,s.heap.get? a=some o∧H a=none)→Heap.SameBut a s.heap h'→HOk X.prog X.w H h':=fun{a h'} ha hs b ob e=>by
  obtain⟨_,_,hfree⟩:=ha
  refine(I.hok b ob e).stay (fun c w' hc q=>(hs.2 c ?_).trans q) (fun _ q=>q) fun _ _ q=>q
  rintro rfl
  rcases hc with rfl|hc
  ·rw[hfree]at e;cases e
  ·rw[hfree]at hc;cases hc
 rcases hx with hk|hk
 ·refine wpAny_storeName_local hk hn (fun h' hn' hs=>?_) hcls
  obtain⟨oL,_,_,hoL,_⟩:=id hn
  refine h _ ⟨I.ok,I.os,I.bare,⟨fun b o e n hb hx=>?_,fun b o e n hb hx=>?_,I.base.free,fun b o e hx=>?_,I.base.tups,I.base.frzs,I.base.tbls⟩,⟨_,hn',fun j y v' e1 e2 e3=>?_⟩,fun y c e=>?_,I.free,I.freeC,fun p hp=>?_,tracked ⟨oL,hoL,I.free⟩ hs,by simpa using I.len⟩ ⟨_,hs,.inl rfl⟩
  ·exact(hs.2 b (Pu (OV (OY e) I.ok.above))).trans (I.base.keep b o e n hb hx)
  ·obtain⟨sl,e1⟩:=I.base.slot b o e n hb hx
   exact⟨sl,(hs.2 b (Pu (OV (OY e) I.ok.above))).trans e1⟩
  ·obtain⟨o',e1⟩:=I.base.there b o e hx
   exact⟨o',(hs.2 b (Pu (OV (OY e) I.ok.above))).trans e1⟩
  ·by_cases hj:j=i
   ·subst hj
    rw[hi]at e1;cases e1
    rw[RC hiσ]at e2
    cases e2
    exact⟨u,r,.inl ⟨hk,by simp⟩⟩
   ·rw[RU (Ne.symm hj)]at e2
    obtain⟨u',r',q⟩:=hl j y v' e1 e2 e3
    refine⟨u',r',?_⟩
    rcases q with⟨k,e⟩|⟨k,c,e,z⟩
    ·refine .inl ⟨k,?_⟩
     have:y≠x:=fun e=>hj (nB hN e1 (e▸hi))
     simp[this,e]
    ·exact .inr ⟨k,c,e,z.sameBut hs (cne y c e)⟩
  ·obtain⟨w',z⟩:=I.cell y c e
   exact⟨w',z.sameBut hs (cne y c e)⟩
  ·obtain⟨e,n,ne,nf,d⟩:=I.pin p hp
   exact⟨(hs.2 p.1 ne).trans e,n,ne,nf,d⟩
 ·have hfn:X.fn x=true:=by
   rcases hf with z|z
   ·exact z
   ·rw[z]at hk;cases hk
  obtain⟨c,hc⟩:=I.ok.has x (.inl hk)
  obtain⟨w',z⟩:=I.cell x c hc
  refine wpAny_storeName_cell I.ok.kind hk hc z (fun h' hc' hs=>?_)
  obtain⟨oc,hoc,hocd⟩:=id z
  refine h { s with heap:=h' } ⟨I.ok,I.os,I.bare,⟨fun b o e n hb hx=>?_,fun b o e n hb hx=>?_,I.base.free,fun b o e hx=>?_,I.base.tups,I.base.frzs,I.base.tbls⟩,⟨m,hn.sameBut hs (Ne.symm (cne x c hc)),fun j y v' e1 e2 e3=>?_⟩,fun y c' e=>?_,I.free,I.freeC,fun p hp=>?_,tracked ⟨oc,hoc,I.freeC x c hc⟩ hs,by simpa using I.len⟩ ⟨c,hs,.inr hc⟩
  ·exact(hs.2 b (Pu (OV (OY e) (I.ok.cab x c hfn hc)))).trans (I.base.keep b o e n hb hx)
  ·obtain⟨sl,e1⟩:=I.base.slot b o e n hb hx
   exact⟨sl,(hs.2 b (Pu (OV (OY e) (I.ok.cab x c hfn hc)))).trans e1⟩
  ·obtain⟨o',e1⟩:=I.base.there b o e hx
   exact⟨o',(hs.2 b (Pu (OV (OY e) (I.ok.cab x c hfn hc)))).trans e1⟩
  ·by_cases hj:j=i
   ·subst hj
    rw[hi]at e1;cases e1
    rw[RC hiσ]at e2
    cases e2
    exact⟨u,r,.inr ⟨.inl hk,c,hc,hc'⟩⟩
   ·rw[RU (Ne.symm hj)]at e2
    obtain⟨u',r',q⟩:=hl j y v' e1 e2 e3
    refine⟨u',r',?_⟩
    rcases q with q|⟨k,c',e,z'⟩
    ·exact .inl q
    ·refine .inr ⟨k,c',e,z'.sameBut hs ?_⟩
     rintro rfl
     exact hj (nB hN e1 (I.ok.inj _ _ _ e hc▸hi))
  ·by_cases hcc:c'=c
   ·subst hcc;exact⟨_,hc'⟩
   ·obtain⟨w2,z2⟩:=I.cell y c' e
    exact⟨w2,z2.sameBut hs hcc⟩
  ·obtain⟨e,n,ne,nf,d⟩:=I.pin p hp
   refine⟨(hs.2 p.1 ?_).trans e,n,ne,nf,d⟩
   intro q
   rw[q,hoc]at e
   have q':oc=p.2:=Option.some.inj e
   exact d w' (by rw[← q'];exact hocd)
theorem aB{M:Model}{A:Around}{E:Value→Shared→Prop}{i:Nat}{x:Str}{v:V}{u:Value}{Q:Unit→Shared→Prop}(I:Inv X pins σ H s)(hN:X.N.Nodup)(hi:X.N[i]? = some x)(hx:Loc X.env.scope x)(r:o7 v u)
  (h:∀ s',Inv X pins (σ.set i (some v)) H s'→Q () s') (hf:X.fn x=true∨X.env.scope.names.lookup x=some .local:=by first|exact .inl rfl|exact .inr rfl|assumption):wpAny M A (storeName X.env x u) Q E s :=
 iV I hN hi hx r (fun s' I' _=>h s' I') hf
theorem Inv.call'{s':Shared}{ch:List Addr}(I:Inv X pins σ H s)(ho:s'.os=s.os)(u:Un (frs X.stack) ch H H' s.heap s'.heap)(hok:HOk X.prog X.w H' s'.heap)(hg:AllBare s'.gens)
  (hch:∀ b∈ch,(b∈X.ex∨X.s₀.heap.objs.size≤b)∧b≠X.env.locals∧(∀ x c,X.env.cells.lookup x=some c→c≠b)∧∀ p∈X.pn++pins,p.1≠b):Inv X pins σ H' s':=by
 obtain⟨h',g',d',t',o'⟩:=s'
 have e:o'=s.os:=ho
 subst e
 exact I.call (g':=g') (t':=t') (d':=d') u hok hg hch
end
noncomputable abbrev XK:=Value→Option Addr→Hp→Prop
noncomputable abbrev St:=List (Option V)
noncomputable abbrev VK:=V→Hp→Prop
noncomputable abbrev TE:=St→Hp→VK→Prop
noncomputable abbrev TT:=St→Hp→(Bool→Hp→Prop)→Prop
noncomputable abbrev TA:=St→Hp→(List V→Hp→Prop)→Prop
structure lj where
 nx:St→Hp→Prop
 rt:VK
 bk:St→Hp→Prop:=fun _ _=>False
 ct:St→Hp→Prop:=fun _ _=>False
noncomputable abbrev TS:=lj→St→Hp→Prop
def EP(X:Cx)(pins:List (Addr × Obj))(σ:St)(Q:VK)(u:Value)(s':Shared):Prop:=∃ v H',Inv X pins σ H' s'∧o7 v u∧Q v H'
def TP(X:Cx)(pins:List (Addr × Obj))(σ:St)(Q:Bool→Hp→Prop)(b:Bool)(s':Shared):Prop:=∃ H',Inv X pins σ H' s'∧Q b H'
def AP(X:Cx)(pins:List (Addr × Obj))(σ:St)(Q:List V→Hp→Prop)(us:List Value)(s':Shared):Prop:=∃ vs H',Inv X pins σ H' s'∧j8 vs us∧Q vs H'
def SP(X:Cx)(pins:List (Addr × Obj))(D:lj)(f:Flow)(s':Shared):Prop :=
 match f with
 | .next=>∃ σ' H',Inv X pins σ' H' s'∧D.nx σ' H'
 | .brk=>∃ σ' H',Inv X pins σ' H' s'∧D.bk σ' H'
 | .cont=>∃ σ' H',Inv X pins σ' H' s'∧D.ct σ' H'
 | .ret u=>∃ v σ' H',Inv X pins σ' H' s'∧o7 v u∧D.rt v H'
def PE(X:Cx)(e:Expr)(t:TE):Prop :=
 ∀(pins:List (Addr × Obj)) (s:Shared) (σ:St) (H:Hp) (Q:VK),Inv X pins σ H s→t σ H Q→wpAny (model X.prog X.w) X.A (eval e X.env) (EP X pins σ Q) X.xe s
def PT(X:Cx)(e:Expr)(t:TT):Prop :=
 ∀(pins:List (Addr × Obj)) (s:Shared) (σ:St) (H:Hp) (Q:Bool→Hp→Prop),Inv X pins σ H s→t σ H Q→wpAny (model X.prog X.w) X.A (isTrue e X.env (eval e X.env)) (TP X pins σ Q) X.xe s
def PW(X:Cx)(e:Expr)(t:TT):Prop :=
 ∀(whole:Sem Value) (pins:List (Addr × Obj)) (s:Shared) (σ:St) (H:Hp) (Q:Bool→Hp→Prop),Inv X pins σ H s→t σ H Q→wpAny (model X.prog X.w) X.A (isTrue e X.env whole) (TP X pins σ Q) X.xe s
theorem PW.pt{X:Cx}{e:Expr}{t:TT}(h:PW X e t):PT X e t:=h _
def PA(X:Cx)(es:List Expr)(t:TA):Prop :=
 ∀(pos:Pos) (pins:List (Addr × Obj)) (s:Shared) (σ:St) (H:Hp) (Q:List V→Hp→Prop),Inv X pins σ H s→t σ H Q→wpAny (model X.prog X.w) X.A (spliced (backTo pos (starEach es X.env))) (AP X pins σ Q) X.xe s
def PS(X:Cx)(st:Stmt)(t:TS):Prop :=
 ∀(pins:List (Addr × Obj)) (s:Shared) (σ:St) (H:Hp) (D:lj),Inv X pins σ H s→t D σ H→wpAny (model X.prog X.w) X.A (exec st X.env) (SP X pins D) X.xe s
def PSs(X:Cx)(st:List Stmt)(t:TS):Prop :=
 ∀(pins:List (Addr × Obj)) (s:Shared) (σ:St) (H:Hp) (D:lj),Inv X pins σ H s→t D σ H→wpAny (model X.prog X.w) X.A (execs st X.env) (SP X pins D) X.xe s
theorem thn{α:Type}{t:Sem α}{Q Q':α→Shared→Prop}{M:Model}{A:Around}{E:Value→Shared→Prop}{s:Shared}(h:wpAny M A t Q E s)(hQ:∀ a s,Q a s→Q' a s):wpAny M A t Q' E s:=wpAny_mono h hQ fun _ _ x=>x
section
variable {X:Cx}
def Ln(i:Nat):TE:=fun σ H Q=>∃ v,σ[i]? = some (some v)∧Q v H
def tC(v:V):TE:=fun _ H Q=>Q v H
theorem GQ{i:Nat}{x:Str}{pos:Pos}(hN:X.N[i]? = some x)(hv:Vis X.env.scope x)(hd:(x == ("__debug__" : Str))=false:=by decide)(hcd:(x == ("__classdict__" : Str))=false:=by decide):PE X (.Name x pos) (Ln i):=by
 intro pins s σ H Q I h
 obtain⟨v,e,h⟩:=h
 obtain⟨m,hn,hl⟩:=I.loc
 obtain⟨u,r,l⟩:=hl i x v hN e hv
 have fin:EP X pins σ Q u s:=⟨v,H,I,r,h⟩
 rcases l with⟨hk,hm⟩|⟨hk,c,hc,hcell⟩
 ·exact wpAny_Name (wpAny_loadName_local I.ok.kind hk hn hm fin) hd
 ·rcases hk with hk|hk
  ·exact wpAny_Name (wpAny_loadName_cell I.ok.kind hk hc hcell fin) hd
  ·exact wpAny_Name (wpAny_loadName_free I.ok.kind hk hc hcell fin hcd) hd
theorem GW{i j pos}:PE X (.Constant (.int i) j pos) (tC (.int i)):=fun _ _ _ H _ I h=>wpAny_Constant_int ⟨.int i,H,I.tok _,⟨_,rfl⟩,h⟩
theorem JV{b j pos}:PE X (.Constant (.bool b) j pos) (tC (.bl b)):=fun _ _ _ H _ I h=>Constant_bool ⟨.bl b,H,I,rfl,h⟩
theorem GV{j pos}:PE X (.Constant .none j pos) (tC .non):=fun _ _ _ H _ I h=>Constant_none ⟨.non,H,I,rfl,h⟩
theorem GR{x j pos}:PE X (.Constant (.str x) j pos) (tC (.str x)):=fun _ _ _ H _ I h=>Calls.Constant_str ⟨.str x,H,I.tok _,⟨_,rfl⟩,h⟩
def Gl(X:Cx)(x:Str):Prop:=X.env.kindOf x=some .globalImplicit
theorem dQ{E:Value→Shared→Prop}{pins:List (Addr × Obj)}{s:Shared}{σ:St}{H:Hp}{x:Str}{u:Value}{pos:Pos}{Q:Value→Shared→Prop}(I:Inv X pins σ H s)(hg:Gl X x)(hm:X.mg x=some u)(h:Q u s)
  (hd:(x == ("__debug__" : Str))=false:=by decide):wpAny (model X.prog X.w) X.A (eval (.Name x pos) X.env) Q E s :=
 Calls.Name_function_global I.ok.kind hg (Calls.loadGlobal_global (by rw[I.ok.glob];exact I.mod.glob.keeps I.bk) hm h) hd
theorem bZ{E:Value→Shared→Prop}{pins:List (Addr × Obj)}{s:Shared}{σ:St}{H:Hp}{x:Str}{u:Value}{pos:Pos}{Q:Value→Shared→Prop}(I:Inv X pins σ H s)(hg:Gl X x)(hm:X.mg x=none)(hv:bootBuiltins x=some u)(h:Q u s)
  (hn:x ≠ "__name__" := by decide) (hd:(x == ("__debug__" : Str))=false:=by decide):wpAny (model X.prog X.w) X.A (eval (.Name x pos) X.env) Q E s:=by
 obtain⟨mb,h1,h2⟩:=I.mod.blt
 exact Calls.Name_function_global I.ok.kind hg (Calls.loadGlobal_builtin (by rw[I.ok.glob];exact I.mod.glob.keeps I.bk) hm (by rw[I.ok.blt];exact h1.keeps I.bk) ((h2 x hn).trans hv) h) hd
theorem kq{x:Str}{v:V}{u:Value}{pos:Pos}(hg:Gl X x)(hm:X.mg x=some u)(r:o7 v u)(hd:(x == ("__debug__" : Str))=false:=by decide):PE X (.Name x pos) (tC v) :=
 fun _ _ _ H _ I h=>dQ I hg hm ⟨v,H,I,r,h⟩ hd
theorem BY{x:Str}{v:V}{u:Value}{pos:Pos}(hg:Gl X x)(hm:X.mg x=none)(hv:bootBuiltins x=some u)(r:o7 v u)(hn:x ≠ "__name__" := by decide)(hd:(x == ("__debug__" : Str))=false:=by decide):PE X (.Name x pos) (tC v) :=
 fun _ _ _ H _ I h=>bZ I hg hm hv ⟨v,H,I,r,h⟩ hn hd
variable {a b:Expr} {ta tb:TE} {pos:Pos}
theorem o7.none_iff{x:V}{v:Value}(r:o7 x v):(v == Value.none)=decide (x = .non):=by
 cases x with
 | non=>cases r;rfl
 | bl _=>cases r;rfl
 | int _=>obtain⟨t,rfl⟩:=r;rfl
 | str _=>obtain⟨t,rfl⟩:=r;rfl
 | byt _=>obtain⟨t,rfl⟩:=r;rfl
 | flt _=>obtain⟨t,rfl⟩:=r;rfl
 | ref _=>cases r;rfl
 | ty _=>cases r;rfl
def tB(t:TE):TT:=fun σ H Q=>t σ H fun x H1=>∃ c,x = .bl c∧Q c H1
theorem GA{e:Expr}{t:TE}(h:PE X e t)(he:∀ whole,isTrue e X.env whole=(do let v ← whole;standAt e.pos;holding [v] (truthy v)):=by intro _;rfl):PT X e (tB t):=by
 intro pins s σ H Q I hw
 refine isTrue_plain (thn (h pins s σ H _ I hw) fun v s1 ⟨x,H1,I1,r1,q1⟩=>?_) (he _)
 obtain⟨d,rfl,q⟩:=q1
 cases r1
 exact wpAny_truthy_bool ⟨H1,I1,q⟩
variable {tA tB':TT} {C9:List Expr}
def Lz(t u:TT):TT:=fun σ H Q=>t σ H fun c H1=>if c=true then u σ H1 Q else Q false H1
def tOr(t u:TT):TT:=fun σ H Q=>t σ H fun c H1=>if c=true then Q true H1 else u σ H1 Q
def Lu(t:TT):TT:=fun σ H Q=>t σ H fun c H1=>Q (!c) H1
theorem BM(ha:PT X a tA):PW X (.BoolOp .And [a] pos) tA:=by
 intro wh pins s σ H Q I h
 refine isTrue_and (thn (ha pins s σ H Q I h) fun c s1 e=>?_)
 cases c with
 | true=>exact isTrue_and_nil e
 | false=>exact e
theorem Gw(ha:PT X a tA):PW X (.BoolOp .Or [a] pos) tA:=by
 intro wh pins s σ H Q I h
 refine isTrue_or (thn (ha pins s σ H Q I h) fun c s1 e=>?_)
 cases c with
 | false=>exact isTrue_or_nil e
 | true=>exact e
theorem Gx(ha:PT X a tA)(hb:PW X (.BoolOp .And (b :: C9) pos) tB'):PW X (.BoolOp .And (a :: b :: C9) pos) (Lz tA tB'):=by
 intro wh pins s σ H Q I h
 refine isTrue_and (thn (ha pins s σ H _ I h) fun c s1 zz=>?_)
 obtain⟨H1,I1,q1⟩:=zz
 cases c with
 | true=>exact hb wh pins s1 σ H1 Q I1 q1
 | false=>exact⟨H1,I1,q1⟩
theorem JN(ha:PT X a tA)(hb:PW X (.BoolOp .Or (b :: C9) pos) tB'):PW X (.BoolOp .Or (a :: b :: C9) pos) (tOr tA tB'):=by
 intro wh pins s σ H Q I h
 refine isTrue_or (thn (ha pins s σ H _ I h) fun c s1 zz=>?_)
 obtain⟨H1,I1,q1⟩:=zz
 cases c with
 | true=>exact⟨H1,I1,q1⟩
 | false=>exact hb wh pins s1 σ H1 Q I1 q1
theorem GB(ha:PT X a tA):PT X (.UnaryOp .Not a pos) (Lu tA):=by
 intro pins s σ H Q I h
 exact isTrue_not (ha pins s σ H (fun c H1=>Q (!c) H1) I h)
def JC(ta tb:TE):TE:=fun σ H Q=>ta σ H fun x H1=>∃ c,x = .bl c∧if c=true then tb σ H1 Q else Q (.bl false) H1
def Ls(ta tb:TE):TE:=fun σ H Q=>ta σ H fun x H1=>∃ c,x = .bl c∧if c=true then Q (.bl true) H1 else tb σ H1 Q
def Jr(ta:TE):TE:=fun σ H Q=>ta σ H fun x H1=>∃ c,x = .bl c∧Q (.bl (!c)) H1
theorem GS{op}{t:TE}(h:PE X a t):PE X (.BoolOp op [a] pos) t:=fun pins s σ H Q I hw=>BoolOp_one (h pins s σ H Q I hw)
theorem GY(ha:PE X a ta)(hb:PE X (.BoolOp .And (b :: C9) pos) tb):PE X (.BoolOp .And (a :: b :: C9) pos) (JC ta tb):=by
 intro pins s σ H Q I h
 refine BoolOp_and (thn (ha pins s σ H _ I h) fun v s1 zz=>?_)
 obtain⟨x,H1,I1,r1,q1⟩:=zz
 obtain⟨c,rfl,q1⟩:=q1
 cases r1
 refine wpAny_truthy_bool ?_
 cases c with
 | true=>exact hb pins s1 σ H1 Q I1 q1
 | false=>exact⟨.bl false,H1,I1,rfl,q1⟩
theorem JR(ha:PE X a ta)(hb:PE X (.BoolOp .Or (b :: C9) pos) tb):PE X (.BoolOp .Or (a :: b :: C9) pos) (Ls ta tb):=by
 intro pins s σ H Q I h
 refine BoolOp_or (thn (ha pins s σ H _ I h) fun v s1 zz=>?_)
 obtain⟨x,H1,I1,r1,q1⟩:=zz
 obtain⟨c,rfl,q1⟩:=q1
 cases r1
 refine wpAny_truthy_bool ?_
 cases c with
 | false=>exact hb pins s1 σ H1 Q I1 q1
 | true=>exact⟨.bl true,H1,I1,rfl,q1⟩
theorem GU(ha:PE X a ta):PE X (.UnaryOp .Not a pos) (Jr ta):=by
 intro pins s σ H Q I h
 refine UnaryOp_ (thn (ha pins s σ H _ I h) fun v s1 zz=>?_)
 obtain⟨x,H1,I1,r1,q1⟩:=zz
 obtain⟨c,rfl,q1⟩:=q1
 cases r1
 exact not_of (wpAny_truthy_bool ⟨.bl (!c),H1,I1,rfl,q1⟩)
def tIf(t:TT)(ta tb:TE):TE:=fun σ H Q=>t σ H fun c H1=>if c=true then ta σ H1 Q else tb σ H1 Q
theorem mT{c:Expr}(hc:PT X c tA)(ha:PE X a ta)(hb:PE X b tb):PE X (.IfExp c a b pos) (tIf tA ta tb):=by
 intro pins s σ H Q I h
 refine wpAny_IfExp (thn (hc pins s σ H _ I h) fun d s1 zz=>?_)
 obtain⟨H1,I1,q1⟩:=zz
 cases d with
 | true=>exact ha pins s1 σ H1 Q I1 q1
 | false=>exact hb pins s1 σ H1 Q I1 q1
end
def SqL(K:OR)(H:Hp)(a:Addr)(xs:List V):Prop :=
 Rd H a (.lst xs) ∨
  ∃(o:Obj) (its:Array Value) (n:Nat),K.lookup a=some o∧o.cls = .type "list" ∧ o.dict=none∧o.data = .seq its n∧its.size≤sizeLine∧j8 xs its.toList
def SqT(K:OR)(H:Hp)(a:Addr)(xs:List V):Prop :=
 Rd H a (.tup xs) ∨
  ∃(o:Obj) (its:Array Value) (n:Nat),K.lookup a=some o∧o.cls = .type "tuple" ∧ o.data = .seq its n∧its.size≤sizeLine∧j8 xs its.toList
noncomputable def LV:Value→Option V
 | .none=>some .non
 | .bool b=>some (.bl b)
 | .int i _=>some (.int i)
 | .str x _=>some (.str x)
 | .bytes b _=>some (.byt b)
 | .float b _=>some (.flt b)
 | .ref a=>some (.ref a)
 | .type n=>some (.ty n)
 | _=>none
theorem o7.abs{x:V}{u:Value}(r:o7 x u):LV u=some x:=by
 cases x with
 | non=>cases r;rfl
 | bl _=>cases r;rfl
 | int _=>obtain⟨t,rfl⟩:=r;rfl
 | str _=>obtain⟨t,rfl⟩:=r;rfl
 | byt _=>obtain⟨t,rfl⟩:=r;rfl
 | flt _=>obtain⟨t,rfl⟩:=r;rfl
 | ref _=>cases r;rfl
 | ty _=>cases r;rfl
theorem o7.inj{x y:V}{u:Value}(r:o7 x u)(q:o7 y u):x=y:=Option.some.inj (r.abs.symm.trans q.abs)
theorem j8.inj:∀{xs ys:List V} {us:List Value},j8 xs us→j8 ys us→xs=ys
 | _,_,_,.nil,.nil=>rfl
 | _,_,_,.cons r t,.cons r' t'=>by rw[r.inj r',j8.inj t t']
section
variable {X:Cx} {pins:List (Addr × Obj)} {σ:St} {H:Hp} {s:Shared} {a:Addr} {xs ys:List V}
theorem SqL.of{K:OR}(h:H a=some (.lst xs)):SqL K H a xs:=.inl (.inl h)
theorem SqT.of{K:OR}(h:H a=some (.tup xs)):SqT K H a xs:=.inl (.inl h)
theorem Inv.list(I:Inv X pins σ H s)(h:SqL X.K H a xs):∃ its:List Value,j8 xs its∧PlainL s.heap a its.toArray∧xs.length≤sizeLine:=by
 rcases h with h|⟨o,its,n,hk,hc,hd,hs,hz,r⟩
 ·obtain⟨z,its,n,r,e⟩:=h.ok I.hok
  exact⟨its,r,⟨_,n,e,rfl,rfl,rfl⟩,z⟩
 ·refine⟨its.toList,r,⟨o,n,I.kIn a o hk,hc,hd,by simpa using hs⟩,?_⟩
  have e:=r.length
  simp only[Array.length_toList]at e
  omega
theorem Inv.tuple(I:Inv X pins σ H s)(h:SqT X.K H a xs):∃ its:List Value,j8 xs its∧IsTup s.heap a its.toArray∧xs.length≤sizeLine:=by
 rcases h with h|⟨o,its,n,hk,hc,hs,hz,r⟩
 ·obtain⟨z,its,r,p⟩:=h.ok I.hok
  exact⟨its,r,p,z⟩
 ·refine⟨its.toList,r,⟨o,I.kIn a o hk,hc,n,by simpa using hs⟩,?_⟩
  have e:=r.length
  simp only[Array.length_toList]at e
  omega
theorem Inv.list_inj(I:Inv X pins σ H s)(h:SqL X.K H a xs)(h':SqL X.K H a ys):xs=ys:=by
 obtain⟨its,r,⟨o,n,e,_,_,d⟩,_⟩:=I.list h
 obtain⟨its',r',⟨o',n',e',_,_,d'⟩,_⟩:=I.list h'
 rw[e]at e';cases e'
 rw[d]at d'
 injection d' with d1 _
 have:its=its':=by simpa using congrArg Array.toList d1
 subst this
 exact r.inj r'
theorem Inv.tuple_inj(I:Inv X pins σ H s)(h:SqT X.K H a xs)(h':SqT X.K H a ys):xs=ys:=by
 obtain⟨its,r,⟨o,e,_,n,d⟩,_⟩:=I.tuple h
 obtain⟨its',r',⟨o',e',_,n',d'⟩,_⟩:=I.tuple h'
 rw[e]at e';cases e'
 rw[d]at d'
 injection d' with d1 _
 have:its=its':=by simpa using congrArg Array.toList d1
 subst this
 exact r.inj r'
end
noncomputable abbrev Cx.wish(X:Cx)(E:Value→Shared→Prop):Cx:={ X with xe:=E }
noncomputable abbrev Cx.nox(X:Cx):Cx:=X.wish fun _ _=>False
theorem Cx.Ok.wish{X:Cx}(ok:X.Ok)(E:Value→Shared→Prop):(X.wish E).Ok :=
 ⟨ok.mod,ok.kind,ok.glob,ok.blt,ok.above,ok.inj,ok.has,ok.cab,ok.hd,ok.frames,ok.stk,ok.exf,ok.bs,ok.bsz,ok.noex,ok.exfs,ok.funs,ok.frf⟩
theorem Cx.Ok.unwish{X:Cx}{E:Value→Shared→Prop}(ok:(X.wish E).Ok):X.Ok :=
 ⟨ok.mod,ok.kind,ok.glob,ok.blt,ok.above,ok.inj,ok.has,ok.cab,ok.hd,ok.frames,ok.stk,ok.exf,ok.bs,ok.bsz,ok.noex,ok.exfs,ok.funs,ok.frf⟩
section
variable {X:Cx} {pins:List (Addr × Obj)} {σ:St} {H:Hp} {s:Shared} {E:Value→Shared→Prop}
theorem Inv.wish(I:Inv X pins σ H s)(E:Value→Shared→Prop):Inv (X.wish E) pins σ H s:=⟨I.ok.wish E,I.os,I.bare,I.base,I.loc,I.cell,I.free,I.freeC,I.pin,I.hok,I.len⟩
theorem Inv.unwish(I:Inv (X.wish E) pins σ H s):Inv X pins σ H s:=⟨I.ok.unwish,I.os,I.bare,I.base,I.loc,I.cell,I.free,I.freeC,I.pin,I.hok,I.len⟩
theorem SP.unwish{D:lj}{f:Flow}{s':Shared}(h:SP (X.wish E) pins D f s'):SP X pins D f s':=by
 cases f with
 | next=>obtain⟨σ',H',I,q⟩:=h;exact⟨σ',H',I.unwish,q⟩
 | brk=>obtain⟨σ',H',I,q⟩:=h;exact⟨σ',H',I.unwish,q⟩
 | cont=>obtain⟨σ',H',I,q⟩:=h;exact⟨σ',H',I.unwish,q⟩
 | ret u=>obtain⟨v,σ',H',I,r,q⟩:=h;exact⟨v,σ',H',I.unwish,r,q⟩
theorem PE.nox{e:Expr}{t:TE}(h:PE X.nox e t):PE X e t:=fun pins s σ H Q I hw =>
 wpAny_mono (h pins s σ H Q (I.wish _) hw) (fun _ _ ⟨v,H',I',r,q⟩=>⟨v,H',I'.unwish,r,q⟩) fun _ _ z=>False.elim z
theorem PT.nox{e:Expr}{t:TT}(h:PT X.nox e t):PT X e t:=fun pins s σ H Q I hw =>
 wpAny_mono (h pins s σ H Q (I.wish _) hw) (fun _ _ ⟨H',I',q⟩=>⟨H',I'.unwish,q⟩) fun _ _ z=>False.elim z
theorem PSs.nox{st:List Stmt}{t:TS}(h:PSs X.nox st t):PSs X st t:=fun pins s σ H D I hw =>
 wpAny_mono (h pins s σ H D (I.wish _) hw) (fun _ _ q=>q.unwish) fun _ _ z=>False.elim z
end
section
variable {X:Cx} {st:Stmt} {C9:List Stmt} {t u:TS} {e:Expr} {te:TE} {pos:Pos}
def Jt:TS:=fun D σ H=>D.nx σ H
def Lp(t u:TS):TS:=fun D σ H=>t { D with nx:=u D } σ H
theorem sS:PSs X [] Jt:=fun _ _ σ H _ I h=>wpAny_execs_nil ⟨σ,H,I,h⟩
theorem fm(h1:PS X st t)(h2:PSs X C9 u):PSs X (st :: C9) (Lp t u):=by
 intro pins s σ H D I h
 refine wpAny_execs_cons (thn (h1 pins s σ H { D with nx:=u D } I h) fun f s1 q=>?_)
 cases f with
 | next =>
  obtain⟨σ',H',I',q⟩:=q
  exact h2 pins s1 σ' H' D I' q
 | ret v=>exact q
 | brk=>exact q
 | cont=>exact q
theorem sR(h1:PS X st t):PSs X [st] t:=by
 intro pins s σ H D I h
 refine wpAny_execs_cons (thn (h1 pins s σ H D I h) fun f s1 q=>?_)
 cases f with
 | next=>exact wpAny_execs_nil q
 | ret v=>exact q
 | brk=>exact q
 | cont=>exact q
theorem Inv.quiet{pins:List (Addr × Obj)}{σ:St}{H:Hp}{s:Shared}(I:Inv X pins σ H s):interactive X.env=false:=by simp[interactive,I.ok.kind]
def Jy(te:TE):TS:=fun D σ H=>te σ H fun _ H1=>D.nx σ H1
theorem BO(he:PE X e te)(hs:swapsWith e none pos.line X.env=pure false:=by rfl):PS X (.Expr e pos) (Jy te):=by
 intro pins s σ H D I h
 exact wpAny_Expr_any (thn (he pins s σ H _ I h) fun v s1 ⟨x,H1,I1,r1,q1⟩=>⟨σ,H1,I1,q1⟩) I.quiet hs
def Lq(te:TE):TS:=fun D σ H=>te σ H D.rt
theorem yc(he:PE X e te):PS X (.Return (some e) pos) (Lq te):=by
 intro pins s σ H D I h
 exact wpAny_Return_some (thn (he pins s σ H _ I h) fun v s1 ⟨x,H1,I1,r1,q1⟩=>⟨x,σ,H1,I1,r1,q1⟩)
def Lw(c:TT)(t u:TS):TS:=fun D σ H=>c σ H fun b H1=>if b=true then t D σ H1 else u D σ H1
theorem EA{c:Expr}{a b:List Stmt}{tc:TT}(hc:PT X c tc)(ha:PSs X a t)(hb:PSs X b u):PS X (.If c a b pos) (Lw tc t u):=by
 intro pins s σ H D I h
 refine wpAny_If (thn (hc pins s σ H _ I h) fun d s1 zz=>?_)
 obtain⟨H1,I1,q1⟩:=zz
 cases d with
 | true=>exact ha pins s1 σ H1 D I1 q1
 | false=>exact hb pins s1 σ H1 D I1 q1
def FV:TS:=fun _ _ _=>False
theorem yd:PS X st FV:=fun _ _ _ _ _ _ h=>h.elim
end
noncomputable abbrev TG:=V→St→Hp→(St→Hp→Prop)→Prop
noncomputable abbrev TGs:=List V→St→Hp→(St→Hp→Prop)→Prop
def PG(X:Cx)(target:Expr)(t:TG):Prop :=
 ∀(pins:List (Addr × Obj)) (s:Shared) (σ:St) (H:Hp) (v:V) (u:Value) (Q:St→Hp→Prop),Inv X pins σ H s→o7 v u→t v σ H Q →
  wpAny (model X.prog X.w) X.A (assign target X.env u) (fun _ s'=>∃ σ' H',Inv X pins σ' H' s'∧Q σ' H') X.xe s
def PGs(X:Cx)(ts:List Expr)(t:TGs):Prop :=
 ∀(pins:List (Addr × Obj)) (s:Shared) (σ:St) (H:Hp) (vs:List V) (us:List Value) (Q:St→Hp→Prop),Inv X pins σ H s→j8 vs us→t vs σ H Q →
  wpAny (model X.prog X.w) X.A (assignInOrder ((assignEach ts X.env).map (·.2)) us) (fun _ s'=>∃ σ' H',Inv X pins σ' H' s'∧Q σ' H') X.xe s
noncomputable abbrev Ir:=V→V→V→Hp→(Hp→Prop)→Prop
def Lh(X:Cx)(t:Ir):Prop :=
 ∀(pins:List (Addr × Obj)) (s:Shared) (σ:St) (H:Hp) (o i v:V) (ov iv u:Value) (Q:Hp→Prop),Inv X pins σ H s→o7 o ov→o7 i iv→o7 v u→t o i v H Q →
  wpAny (model X.prog X.w) X.A (setItem ov iv u) (fun _ s'=>∃ H',Inv X pins σ H' s'∧Q H') X.xe s
section
variable {X:Cx} {pos:Pos}
def yZ(i:Nat):TG:=fun v σ H Q=>Q (σ.set i (some v)) H
theorem BU{i:Nat}{x:Str}(hN:X.N.Nodup)(hi:X.N[i]? = some x)(hx:Loc X.env.scope x)(hf:X.fn x=true∨X.env.scope.names.lookup x=some .local:=by first|exact .inl rfl|exact .inr rfl|assumption):PG X (.Name x pos) (yZ i):=by
 intro pins s σ H v u Q I r h
 exact wpAny_assign_Name (aB I hN hi hx r (fun s' I'=>⟨_,H,I',h⟩) hf)
def LS:TGs:=fun vs σ H Q=>vs=[]∧Q σ H
def Ku(t:TG)(u:TGs):TGs:=fun vs σ H Q=>∃ v r,vs=v :: r∧t v σ H fun σ' H'=>u r σ' H' Q
theorem BS:PGs X [] LS:=by
 intro pins s σ H vs us Q I r h
 obtain⟨e,h⟩:=h
 subst e
 cases r
 exact assignInOrder_nil ⟨σ,H,I,h⟩
theorem yh{e:Expr}{es:List Expr}{t:TG}{u:TGs}(h1:PG X e t)(h2:PGs X es u)
  (hs:(assignEach (e :: es) X.env).map (·.2)=assign e X.env :: (assignEach es X.env).map (·.2):=by rfl):PGs X (e :: es) (Ku t u):=by
 intro pins s σ H vs us Q I r h
 obtain⟨v,vr,e1,h⟩:=h
 subst e1
 cases r with
 | cons r rr =>
  rw[hs]
  refine assignInOrder_cons (thn (h1 pins s σ H _ _ _ I r h) fun _ s1 zz=>?_)
  obtain⟨σ1,H1,I1,q1⟩:=zz
  exact h2 pins s1 σ1 H1 _ _ Q I1 rr q1
def LQ(K:OR)(n:Nat)(t:TGs):TG:=fun v σ H Q=>∃ a xs,v = .ref a∧SqT K H a xs∧xs.length=n∧t xs σ H Q
theorem GK{es:List Expr}{k:Nat}{t:TGs}{n:Nat}(hc:X.calm=true)(h:PGs X es t)
  (hn:(assignEach es X.env).length=n:=by rfl) (hst:(assignEach es X.env).findIdx? (·.1)=none:=by rfl):PG X (.Tuple es k pos) (LQ X.K n t):=by
 intro pins s σ H v u Q I r hw
 obtain⟨a,xs,e1,hq,hl,hw⟩:=hw
 subst e1
 cases r
 obtain⟨its,rv,ht,hz⟩:=I.tuple hq
 refine assign_Tuple_tuple (I.ok.hd hc) ht (by simp[hn,← hl,rv.length]) hst fun h' hx=>?_
 have I1:Inv X pins σ H { s with heap:=h' }:=I.kept (t':=s.toks) fun b o e=>hx b o (Pu (OY e)) e
 exact h pins _ σ H xs _ Q I1 (by simpa using rv) hw
def LR(to ti:TE)(t:Ir):TG:=fun v σ H Q=>to σ H fun o H1=>ti σ H1 fun i H2=>t o i v H2 fun H3=>Q σ H3
theorem GL{o i:Expr}{to ti:TE}{t:Ir}(ho:PE X o to)(hi:PE X i ti)(hs:Lh X t)
  (ha:∀ v,assign (.Subscript o i pos) X.env v=(do
   let ov ← holding [v] (eval o X.env)
   let iv ← holding [v,ov] (eval i X.env)
   standAt pos
   holding [v,ov,iv] (setItem ov iv v)
   release [v,ov,iv] []):=by intro _;rfl):PG X (.Subscript o i pos) (LR to ti t):=by
 intro pins s σ H v u Q I r h
 rw[ha]
 refine OS (wpAny_holding (thn (ho pins s σ H _ I h) fun ov s1 zz=>?_))
 obtain⟨x,H1,I1,r1,q1⟩:=zz
 refine OS (wpAny_holding (thn (hi pins s1 σ H1 _ I1 q1) fun iv s2 zz=>?_))
 obtain⟨y,H2,I2,r2,q2⟩:=zz
 refine OS (wpAny_standAt (OS (wpAny_holding (thn (hs pins s2 σ H2 x y v ov iv u _ I2 r1 r2 r q2) fun _ s3 zz=>?_))))
 obtain⟨H3,I3,q3⟩:=zz
 exact wpAny_release ⟨σ,H3,I3,q3⟩
def FW(te:TE)(g:TG):TS:=fun D σ H=>te σ H fun x H1=>g x σ H1 D.nx
theorem GG{tg e:Expr}{te:TE}{g:TG}(he:PE X e te)(hg:PG X tg g)(hs:swapsWithSole [tg] e pos.line X.env=pure false:=by rfl)(hw:swappedStores [tg] e X.env=pure none:=by rfl)
  (h1:(assignEach [tg] X.env).map (·.2)=[assign tg X.env]:=by rfl):PS X (.Assign [tg] e pos) (FW te g):=by
 intro pins s σ H D I h
 refine wpAny_Assign_stores (thn (he pins s σ H _ I h) fun v s1 ⟨x,H1,I1,r1,q1⟩=>?_) hs hw
 rw[h1]
 exact thn (hg pins s1 σ H1 x v _ I1 r1 q1) fun _ s2 q=>q
theorem yb{i:Nat}{x:Str}{e:Expr}{te:TE}{pos':Pos}(hN:X.N.Nodup)(hi:X.N[i]? = some x)(hx:Loc X.env.scope x)(he:PE X e te)(hs:swapsWith e (some (.Name x pos')) pos.line X.env=pure false:=by rfl)(hf:X.fn x=true∨X.env.scope.names.lookup x=some .local:=by first|exact .inl rfl|exact .inr rfl|assumption) :
  PS X (.Assign [.Name x pos'] e pos) (FW te (yZ i)):=by
 intro pins s σ H D I h
 refine wpAny_Assign_Name (thn (he pins s σ H _ I h) fun v s1 ⟨y,H1,I1,r1,q1⟩=>?_) hs
 exact aB I1 hN hi hx r1 (fun s2 I2=>⟨_,H1,I2,q1⟩) hf
def Lr(i j:Nat)(ta:TA):TS:=fun D σ H=>ta σ H fun vs H1=>∃ v w,vs=[v,w]∧D.nx ((σ.set i (some v)).set j (some w)) H1
theorem GC{i j:Nat}{x y:Str}{a b:Expr}{ta:TA}{px py pt:Pos}{kt k2 pt2}(hc:X.calm=true)(hN:X.N.Nodup)(hi:X.N[i]? = some x)(hj:X.N[j]? = some y)(hij:i≠j)
  (hx:X.env.scope.names.lookup x=some .local) (hy:X.env.scope.names.lookup y=some .local) (ha:PA X [a,b] ta)
  (hw:swappedStores [.Tuple [.Name x px,.Name y py] kt pt] (.Tuple [a,b] k2 pt2) X.env=pure (some [x,y]))
  (hs:swapsWithSole [.Tuple [.Name x px,.Name y py] kt pt] (.Tuple [a,b] k2 pt2) pos.line X.env=pure false:=by rfl) :
  PS X (.Assign [.Tuple [.Name x px,.Name y py] kt pt] (.Tuple [a,b] k2 pt2) pos) (Lr i j ta):=by
 intro pins s σ H D I h
 rw[exec_Assign_arm]
 refine OS (wpAny_standAt ?_)
 rw[hs]
 refine OS (Pf ?_)
 rw[if_neg (by decide)]
 refine OS (Tuple_ (thn (ha _ pins s σ H _ I h) fun us s1 zz=>?_))
 obtain⟨vs,H1,I1,r1,q1⟩:=zz
 obtain⟨v,w,e1,q1⟩:=q1
 subst e1
 obtain⟨u1,u2,rfl,rv,rw'⟩:∃ u1 u2,us=[u1,u2]∧o7 v u1∧o7 w u2:=by
  cases r1 with
  | cons p q =>
   cases q with
   | cons p' q' =>
    cases q'
    exact⟨_,_,rfl,p,p'⟩
 refine wpAny_newObj_type ?_ (by show 2≤sizeLine;decide)
 have I2:Inv X pins σ H1 { s1 with heap:=s1.heap.push { cls:=.type "tuple",data:=.seq [u1,u2].toArray } }:=I1.kept (t':=s1.toks) fun b o e=>OT _ e
 rw[hw]
 refine OS (Pf ?_)
 show wpAny (model X.prog X.w) X.A (do rule "assign.swapped-stores";let items ← unpackItems (.ref s1.heap.objs.size) 2 none;assignInOrder [fun v=>bindName X.env y v,fun v=>bindName X.env x v] items.reverse;pure Flow.next) _ _ _
 refine OS (wpAny_rule (OS (unpackItems_tuple (items:=#[u1,u2]) (I.ok.hd hc) (IsTup.new s1.heap _) fun h' hx'=>?_)))
 have I3:=I2.kept (h':=h') (t':=s1.toks) fun b o e=>hx' b o (Pu (OY e)) e
 show wpAny _ _ (assignInOrder [fun v=>bindName X.env y v,fun v=>bindName X.env x v] [u2,u1] >>= fun _=>pure Flow.next) _ _ _
 refine OS (assignInOrder_cons (wpAny_bindName (aB I3 hN hj (.inl hy) rw' (fun s2 I4=>?_) (.inr hy))))
 refine assignInOrder_cons (wpAny_bindName (aB I4 hN hi (.inl hx) rv (fun s3 I5=>assignInOrder_nil (Pf ?_)) (.inr hx)))
 rw[List.set_comm _ _ (Ne.symm hij)]at I5
 exact⟨_,H1,I5,q1⟩
end
section
variable {X:Cx} {pos:Pos}
def FU(c:TT)(tb:TS):TS:=fun D σ H=>∃ W:Nat→St→Hp→Prop,(∃ m,W m σ H)∧∀ m σ H,W m σ H →
 c σ H fun b H1=>if b=true then ∃ N:St→Hp→Prop,(∀ σ' H',N σ' H'→∃ m',m'<m∧W m' σ' H')∧tb { D with nx:=N,ct:=N,bk:=D.nx } σ H1 else D.nx σ H1
theorem ya{c:Expr}{body:List Stmt}{tc:TT}{tb:TS}(hp:PassesOwn (model X.prog X.w) X.A X.env X.xe)(hc:PT X c tc)(hb:PSs X body tb):PS X (.While c body [] pos) (FU tc tb):=by
 intro pins s σ H D I h
 obtain⟨W,⟨m0,w0⟩,turn⟩:=h
 refine wpAny_While (codeAny_whileLoop (fun n s'=>∃ σ' H',Inv X pins σ' H' s'∧W n σ' H') ?_ m0 ⟨σ,H,I,w0⟩)
 rintro n s1 ⟨σ1,H1,I1,w1⟩
 refine wpAny_passesOwn hp (thn (hc pins s1 σ1 H1 _ I1 (turn n σ1 H1 w1)) fun b s2 zz=>?_)
 obtain⟨H2,I2,q2⟩:=zz
 cases b with
 | true =>
  obtain⟨N,hN,q2⟩:=q2
  rw[if_pos rfl]
  refine wpAny_passesOwn hp (thn (hb pins s2 σ1 H2 _ I2 q2) fun f s3 q3=>?_)
  cases f with
  | next =>
   obtain⟨σ3,H3,I3,n3⟩:=q3
   obtain⟨m',hm,w3⟩:=hN σ3 H3 n3
   exact⟨m',hm,σ3,H3,I3,w3⟩
  | cont =>
   obtain⟨σ3,H3,I3,n3⟩:=q3
   obtain⟨m',hm,w3⟩:=hN σ3 H3 n3
   exact⟨m',hm,σ3,H3,I3,w3⟩
  | brk=>exact q3
  | ret v=>exact q3
 | false =>
  rw[if_neg Pk]
  exact wpAny_execs_nil ⟨σ1,H2,I2,q2⟩
end
structure It where
 go:Nat→Hp→Prop
 yld:Nat→Hp→V→Hp→Prop
 stop:Nat→Hp→Prop
def R5(X:Cx)(pins:List (Addr × Obj))(H:Hp)(b:Addr):Prop :=
 H b=none∧b≠X.env.locals∧b∉X.fs∧(b∈X.ex∨X.s₀.heap.objs.size≤b)∧(∀ x c,X.env.cells.lookup x=some c→c≠b)∧∀ p∈X.pn++pins,p.1≠b
theorem Inv.fpOk{X:Cx}{pins:List (Addr × Obj)}{σ:St}{H H':Hp}{s:Shared}{b:Addr}(I:Inv X pins σ H s)(hb:s.heap.objs.size≤b)(hn:H' b=none):R5 X pins H' b:=by
 refine⟨hn,Qm (OV I.lt hb),I.nofs hb,.inr (Pa I.sz hb),fun x c e z=>?_,fun p hp z=>?_⟩
 ·obtain⟨v,q⟩:=I.cell x c e
  exact absurd (OV q.lt (by rw[z];exact hb)) (PV _)
 ·exact absurd (OV (OY (I.pin p hp).1) (by rw[z];exact hb)) (PV _)
structure la(P:Program)(w:World)(K:OR)(tg:Expr)(J:It)(fp:List Addr)(it:Addr)(tn:Nat→Heap→Prop):Prop where
 mem:it∈fp
 obj:∀ i h,tn i h→∀ b∈fp,∃ o,h.get? b=some o∧∀ v,o.data ≠ .cell v
 keep:∀ i h h',tn i h→(∀ b∈fp,∀ o,h.get? b=some o→h'.get? b=some o)→tn i h'
 item:∀(X:Cx),X.prog=P→X.w=w→X.K=K→X.calm=true→∀(i:Nat) (pins:List (Addr × Obj)) (s:Shared) (σ:St) (H:Hp) (E:Value→Shared→Prop),Inv X pins σ H s→(∀ b∈fp,R5 X pins H b)→tn i s.heap→J.go i H →
  wpAny (model P w) X.A (pyNext (.ref it)) (fun r s1=>∃ u,r=some u ∧
   wpAny (model P w) X.A (letOwnedTupleGo tg (.ref it) u) (fun _ s2=>∃ x H',Inv X pins σ H' s2∧o7 x u∧J.yld i H x H'∧tn (i+1) s2.heap∧∀ b∈fp,H' b=none) E s1) E s
 done:∀(X:Cx),X.prog=P→X.w=w→X.K=K→X.calm=true→∀(i:Nat) (pins:List (Addr × Obj)) (s:Shared) (σ:St) (H:Hp) (E:Value→Shared→Prop),Inv X pins σ H s→(∀ b∈fp,R5 X pins H b)→tn i s.heap→J.stop i H →
  wpAny (model P w) X.A (pyNext (.ref it)) (fun r s1=>r=none∧Inv X pins σ H s1) E s
 self:∀(A:Around) (i:Nat) (s:Shared) (Q:Value→Shared→Prop) (E:Value→Shared→Prop),tn i s.heap→Q (.ref it) s→wpAny (model P w) A (pyIter (.ref it)) Q E s
noncomputable abbrev TI:=St→Hp→(It→Hp→Prop)→Prop
def PIE(X:Cx)(pins:List (Addr × Obj))(σ:St)(tg:Expr)(R:It→Hp→Prop)(itv:Value)(s2:Shared):Prop :=
 ∃(it:Addr) (fp:List Addr) (tn:Nat→Heap→Prop) (J:It) (H':Hp),itv = .ref it∧Inv X pins σ H' s2∧la X.prog X.w X.K tg J fp it tn∧tn 0 s2.heap∧(∀ b∈fp,R5 X pins H' b)∧R J H'
def PI(X:Cx)(tg iter:Expr)(wi:TI):Prop :=
 ∀(pins:List (Addr × Obj)) (s:Shared) (σ:St) (H:Hp) (R:It→Hp→Prop),Inv X pins σ H s→wi σ H R →
  wpAny (model X.prog X.w) X.A (eval iter X.env) (fun v s1=>wpAny (model X.prog X.w) X.A (pyIter v) (PIE X pins σ tg R) X.xe s1) X.xe s
theorem tM{M:Model}{A:Around}{E:Value→Shared→Prop}{s:Shared}{tg:Expr}{it:Addr}{u:Value}{o:Obj}{n:String}{vs:Array Value}{Q:Unit→Shared→Prop}(ho:s.heap.get? it=some o)(hc:o.cls = .type n)(hd:o.data = .fields vs)
  (hn:["enumerate","zip","dict_itemiterator","dict_reverseitemiterator","odict_iterator","itertools.zip_longest","itertools.pairwise"].contains n=false) (hQ:Q () s):wpAny M A (letOwnedTupleGo tg (.ref it) u) Q E s:=by
 unfold letOwnedTupleGo
 cases tg<;>first
  | exact Pf hQ
  | (cases u<;>first
    | exact Pf hQ
    | (refine OS (wpAny_load ho ?_);rw[hc,hd];show wpAny M A (if (["enumerate","zip","dict_itemiterator","dict_reverseitemiterator","odict_iterator","itertools.zip_longest","itertools.pairwise"].contains n && vs[0]? == some (rawInt _))=true then _ else _) Q E s;rw[if_neg (by intro h;rw[hn,SN]at h;cases h)];exact Pf hQ))
noncomputable def Itl(K:OR)(a:Addr):It :=
 ⟨fun i H=>∃ xs x,SqL K H a xs∧xs[i]? = some x,fun i H x H'=>H'=H∧∀ xs,SqL K H a xs→xs[i]? = some x,fun i H=>∃ xs,SqL K H a xs∧xs.length≤i⟩
noncomputable def Itt(K:OR)(a:Addr):It :=
 ⟨fun i H=>∃ xs x,SqT K H a xs∧xs[i]? = some x,fun i H x H'=>H'=H∧∀ xs,SqT K H a xs→xs[i]? = some x,fun i H=>∃ xs,SqT K H a xs∧xs.length≤i⟩
noncomputable def Itr(lo:Int)(n:Nat):It:=⟨fun i _=>i<n,fun i H x H'=>H'=H∧x = .int (lo+i),fun i _=>n≤i⟩
theorem uv{P:Program}{w:World}{K:OR}{tg:Expr}(a it:Addr):la P w K tg (Itl K a) [it] it (fun i h=>h.IsListIter it a i) where
 mem:=by simp
 obj:=fun i h st b hb=>by
  have e:b=it:=by simpa using hb
  subst e
  obtain⟨o,e,c,d⟩:=st
  exact⟨o,e,fun v z=>by rw[d]at z;cases z⟩
 keep:=fun i h h' st k=>st.at fun o e=>k it (by simp) o e
 item:=by
  intro X hP hw hK hc i pins s σ H E I hf st hg
  subst hP hw hK
  obtain⟨xs,x,hq,hx⟩:=hg
  obtain⟨its,rv,p,hz⟩:=I.list hq
  obtain⟨u,hu,ru⟩:=rv.get hx
  obtain⟨f0,f1,f2,f3,f4,f5⟩:=hf it (by simp)
  refine wpAny_pyNext_list_item st p.isList (x:=u) (by simpa using hu) fun h' st' sb=>?_
  have I1:Inv X pins σ H { s with heap:=h' }:=I.turned (t':=s.toks) (fun b o hb e=>(sb.2 b hb).trans e) f0 f1 f3 f4 f5
  obtain⟨o,e,c,d⟩:=id st'
  exact⟨u,rfl,tM (s:={ s with heap:=h' }) e c d (by decide) ⟨x,H,I1,ru,⟨rfl,fun ys hy=>by rw[I.list_inj hy hq];exact hx⟩,st',fun b hb=>(hf b hb).1⟩⟩
 done:=by
  intro X hP hw hK hc i pins s σ H E I hf st hg
  subst hP hw hK
  obtain⟨xs,hq,hx⟩:=hg
  obtain⟨its,rv,p,hz⟩:=I.list hq
  obtain⟨f0,f1,f2,f3,f4,f5⟩:=hf it (by simp)
  have hl:=rv.length
  exact wpAny_pyNext_list_end (I.ok.hd hc) st p.isList (by simp;omega) fun h' eb=>⟨rfl,I.turned (t':=s.toks) (fun b o hb e=>eb b o hb e) f0 f1 f3 f4 f5⟩
 self:=fun _ _ _ _ _ st h=>wpAny_pyIter_listiter st h
theorem oH{P:Program}{w:World}{K:OR}{tg:Expr}(a it:Addr):la P w K tg (Itt K a) [it] it (fun i h=>h.IsTupleIter it a i) where
 mem:=by simp
 obj:=fun i h st b hb=>by
  have e:b=it:=by simpa using hb
  subst e
  obtain⟨o,e,c,d⟩:=st
  exact⟨o,e,fun v z=>by rw[d]at z;cases z⟩
 keep:=fun i h h' st k=>st.at fun o e=>k it (by simp) o e
 item:=by
  intro X hP hw hK hc i pins s σ H E I hf st hg
  subst hP hw hK
  obtain⟨xs,x,hq,hx⟩:=hg
  obtain⟨its,rv,p,hz⟩:=I.tuple hq
  obtain⟨u,hu,ru⟩:=rv.get hx
  obtain⟨f0,f1,f2,f3,f4,f5⟩:=hf it (by simp)
  refine wpAny_pyNext_tuple_item st (show s.heap.IsTuple a its.toArray from p) (x:=u) (by simpa using hu) fun h' st' sb=>?_
  have I1:Inv X pins σ H { s with heap:=h' }:=I.turned (t':=s.toks) (fun b o hb e=>(sb.2 b hb).trans e) f0 f1 f3 f4 f5
  obtain⟨o,e,c,d⟩:=id st'
  exact⟨u,rfl,tM (s:={ s with heap:=h' }) e c d (by decide) ⟨x,H,I1,ru,⟨rfl,fun ys hy=>by rw[I.tuple_inj hy hq];exact hx⟩,st',fun b hb=>(hf b hb).1⟩⟩
 done:=by
  intro X hP hw hK hc i pins s σ H E I hf st hg
  subst hP hw hK
  obtain⟨xs,hq,hx⟩:=hg
  obtain⟨its,rv,p,hz⟩:=I.tuple hq
  obtain⟨f0,f1,f2,f3,f4,f5⟩:=hf it (by simp)
  have hl:=rv.length
  exact wpAny_pyNext_tuple_end (I.ok.hd hc) st (show s.heap.IsTuple a its.toArray from p) (by simp;omega) fun h' eb=>⟨rfl,I.turned (t':=s.toks) (fun b o hb e=>eb b o hb e) f0 f1 f3 f4 f5⟩
 self:=fun _ _ _ _ _ st h=>wpAny_pyIter_tupleiter st h
theorem oI{P:Program}{w:World}{K:OR}{tg:Expr}(it:Addr)(lo:Int)(n:Nat):la P w K tg (Itr lo n) [it] it (fun i h=>IsRangeIter h it (lo+(i:Nat)*1) ((n:Int) - (i:Nat)) 1) where
 mem:=by simp
 obj:=fun i h st b hb=>by
  have e:b=it:=by simpa using hb
  subst e
  exact⟨_,st,fun v z=>by
   have z':Data.fields _=Data.cell v:=z
   cases z'⟩
 keep:=fun i h h' st k=>k it (by simp) _ st
 item:=by
  intro X hP hw hK hc i pins s σ H E I hf st hg
  subst hP hw hK
  obtain⟨f0,f1,f2,f3,f4,f5⟩:=hf it (by simp)
  have W:=Walks.range (prog:=X.prog) (w:=X.w) (I.ok.hd hc) it lo 1 n
  refine W.item i s _ _ hg st fun v h' tk hv st' kk=>?_
  obtain⟨t,rfl⟩:=hv
  have I1:Inv X pins σ H { s with heap:=h',toks:=tk }:=I.turned (fun b o hb e=>kk b o (by simpa using hb) e) f0 f1 f3 f4 f5
  refine⟨_,rfl,tM (s:={ s with heap:=h',toks:=tk }) (n := "range_iterator") st' rfl rfl (by decide) ⟨.int (lo+i),H,I1,⟨t,?_⟩,⟨rfl,rfl⟩,st',fun b hb=>(hf b hb).1⟩⟩
  rw[Int.mul_one]
 done:=by
  intro X hP hw hK hc i pins s σ H E I hf st hg
  subst hP hw hK
  obtain⟨f0,f1,f2,f3,f4,f5⟩:=hf it (by simp)
  exact wpAny_pyNext_range_end (I.ok.hd hc) st (by have:n≤i:=hg;omega) fun h' eb=>⟨rfl,I.turned (t':=s.toks) (fun b o hb e=>eb b o hb e) f0 f1 f3 f4 f5⟩
 self:=fun _ _ _ _ _ st h=>wpAny_pyIter_rangeiter st h
section
variable {X:Cx} {tg:Expr}
theorem xW{pins:List (Addr × Obj)}{σ:St}{H:Hp}{s:Shared}{R:It→Hp→Prop}{E:Value→Shared→Prop}{lo hi:Int}{t u v:Tok}{tk:Nat}(I:Inv X pins σ H s)(h1:-(2 ^ 62)≤lo)(h2:lo<2 ^ 62)(h3:-(2 ^ 62)≤hi)(h4:hi<2 ^ 62)
  (q:R (Itr lo (hi - lo).toNat) H):wpAny (model X.prog X.w) X.A (pyIter (.ref s.heap.objs.size)) (PIE X pins σ tg R) E { s with heap:=s.heap.push { cls:=.type "range",data:=.fields #[.int lo t,.int hi u,.int 1 v] },toks:=tk }:=by
 refine wpAny_pyIter_range (IsRange.new ..) (small_one h1 h2 h3 h4) ?_
 have I1:Inv X pins σ H { s with heap:=s.heap.push { cls:=.type "range",data:=.fields #[.int lo t,.int hi u,.int 1 v] },toks:=tk }:=I.kept fun b o e=>OT _ e
 refine⟨(s.heap.push { cls:=.type "range",data:=.fields #[.int lo t,.int hi u,.int 1 v] }).objs.size,[(s.heap.push { cls:=.type "range",data:=.fields #[.int lo t,.int hi u,.int 1 v] }).objs.size],_,_,H,rfl,
  I1.kept (t':=tk) fun b o e=>OT _ e,oI _ lo (hi - lo).toNat,?_,fun b hb=>?_,q⟩
 ·have e1:lo+((0:Nat):Int)*1=lo:=by simp
  have e2:(((hi - lo).toNat:Nat):Int) - ((0:Nat):Int)=Builtin.Range.rangeSize lo hi 1:=by rw[rangeSize_one];split<;>omega
  show IsRangeIter _ _ (lo+((0:Nat):Int)*1) ((((hi - lo).toNat:Nat):Int) - ((0:Nat):Int)) 1
  rw[e1,e2]
  exact Pd _ rfl
 ·have e:b=(s.heap.push { cls:=.type "range",data:=.fields #[.int lo t,.int hi u,.int 1 v] }).objs.size:=by simpa using hb
  subst e
  exact I1.fpOk (Pe _) (I1.hok.fresh (Pe _))
def Kp(ta:TA):TI:=fun σ H R=>ta σ H fun vs H1=>∃ j:Int,vs=[.int j]∧-(2 ^ 62)≤j∧j<2 ^ 62∧R (Itr 0 j.toNat) H1
theorem uJ{a:Expr}{ta:TA}{p pos:Pos}(hg:Gl X "range")(hm:X.mg "range" = none)(ha:PA X [a] ta)(hs:starEach [a] X.env=[(false,eval a X.env)]:=by rfl):PI X tg (.Call (.Name "range" p) [a] [] pos) (Kp ta):=by
 intro pins s σ H R I h
 refine Call_ (bZ I hg hm boot_range (PyProof.Rows.callWith_type1 (thn (ha pos pins s σ H _ I h) fun us s1 ⟨vs,H1,I1,r1,q1⟩=>?_) hs rfl))
 obtain⟨j,e,q1,q2,q⟩:=q1
 subst e
 cases r1 with
 | cons r rr =>
  cases rr
  obtain⟨t,rfl⟩:=r
  exact call_range_1 (xW I1 (by omega) (by omega) q1 q2 (by simpa using q))
def Lx(wi:TI)(g:TG)(tb:TS):TS:=fun D σ H=>wi σ H fun J H1=>∃ W:Nat→Nat→St→Hp→Prop,(∃ m,W 0 m σ H1)∧∀ i m σ H,W i m σ H →
 (J.stop i H∧D.nx σ H)∨(J.go i H∧∃ N:St→Hp→Prop,(∀ σ' H',N σ' H'→∃ m',m'<m∧W (i+1) m' σ' H')∧∀ x H',J.yld i H x H'→g x σ H' fun σ2 H2=>tb { D with nx:=N,ct:=N,bk:=D.nx } σ2 H2)
noncomputable def ko(fp:List Addr)(h:Heap):List (Addr × Obj):=fp.filterMap fun b=>(h.get? b).map fun o=>(b,o)
theorem y9{fp:List Addr}{h:Heap}{b:Addr}{o:Obj}(hb:b∈fp)(e:h.get? b=some o):(b,o)∈ko fp h:=Rj.mpr ⟨b,hb,by rw[e];rfl⟩
theorem uN{fp:List Addr}{h:Heap}{p:Addr × Obj}(hp:p∈ko fp h):p.1∈fp∧h.get? p.1=some p.2:=by
 obtain⟨b,hb,e⟩:=Rj.mp hp
 cases q:h.get? b with
 | none=>rw[q]at e;cases e
 | some o =>
  rw[q]at e
  have e':(b,o)=p:=Option.some.inj e
  subst e'
  exact⟨hb,q⟩
theorem Inv.pinned{pins:List (Addr × Obj)}{σ:St}{H:Hp}{s:Shared}{fp:List Addr}(I:Inv X pins σ H s)(hf:∀ b∈fp,R5 X pins H b)(ho:∀ b∈fp,∃ o,s.heap.get? b=some o∧∀ v,o.data ≠ .cell v):Inv X (pins++ko fp s.heap) σ H s :=
 I.pins_of fun p hp=>(Pq.mp hp).elim (fun z=>I.pin p (Pg _ z)) fun z=>by
  obtain⟨hb,e⟩:=uN z
  obtain⟨f0,f1,f2,_⟩:=hf p.1 hb
  obtain⟨o,e',d⟩:=ho p.1 hb
  rw[e]at e';cases e'
  exact⟨e,f0,f1,f2,d⟩
theorem Inv.unpinned{pins pl:List (Addr × Obj)}{σ:St}{H:Hp}{s:Shared}(I:Inv X (pins++pl) σ H s):Inv X pins σ H s:=I.pins_of fun p hp=>I.pin p (Pg _ (Qy _ hp))
theorem GD{iter:Expr}{body:List Stmt}{wi:TI}{g:TG}{tb:TS}{pos:Pos}(hp:PassesOwn (model X.prog X.w) X.A X.env X.xe)(hc:X.calm=true)(hi:PI X tg iter wi)(hg:PG X tg g)(hb:PSs X body tb)
  (hs:∀ x,foldedSetIterable iter X.env x=pure x:=by intro _;rfl):PS X (.For tg iter body [] pos) (Lx wi g tb):=by
 intro pins s σ H D I h
 refine wpAny_For (thn (hi pins s σ H _ I h) fun v s1 h1=>thn h1 fun itv s2 h2=>?_) hs
 obtain⟨it,fp,tn,J,H2,e,I2,T,st2,f2,W,⟨m0,w0⟩,turn⟩:=h2
 subst e
 have stat:∀{H':Hp},(∀ b∈fp,H' b=none)→∀ b∈fp,R5 X pins H' b:=fun hn b hb=>⟨hn b hb,(f2 b hb).2⟩
 refine codeAny_forLoop_any (fun n s'=>∃ i σ' H',Inv X pins σ' H' s'∧tn i s'.heap∧(∀ b∈fp,H' b=none)∧W i n σ' H') ?_ m0 ⟨0,σ,H2,I2,st2,fun b hb=>(f2 b hb).1,w0⟩
 rintro n s3 ⟨i,σ3,H3,I3,st3,fr3,w3⟩
 rcases turn i n σ3 H3 w3 with⟨stop,qn⟩|⟨go,N,hN,step⟩
 ·refine wpAny_passesOwn hp (thn (T.done X rfl rfl rfl hc i pins s3 σ3 H3 X.xe I3 (stat fr3) st3 stop) fun r s4 zz=>?_)
  obtain⟨hr,I4⟩:=zz
  subst hr
  exact wpAny_execs_nil ⟨σ3,H3,I4,qn⟩
 ·refine wpAny_passesOwn hp (thn (T.item X rfl rfl rfl hc i pins s3 σ3 H3 X.xe I3 (stat fr3) st3 go) fun r s4 zz=>?_)
  obtain⟨u,hr,h4⟩:=zz
  subst hr
  refine wpAny_passesOwn hp (thn h4 fun _ s5 zz=>?_)
  obtain⟨x,H5,I5,r5,y5,st5,fr5⟩:=zz
  have I5':=I5.pinned (stat fr5) (T.obj _ _ st5)
  refine wpAny_passesOwn hp (thn (hg _ s5 σ3 H5 x u _ I5' r5 (step x H5 y5)) fun _ s6 zz=>?_)
  obtain⟨σ6,H6,I6,q6⟩:=zz
  refine wpAny_passesOwn hp (thn (hb _ s6 σ6 H6 _ I6 q6) fun f s7 q7=>?_)
  have again:∀{σ7:St} {H7:Hp},Inv X (pins++ko fp s5.heap) σ7 H7 s7→N σ7 H7→∃ m,m<n∧∃ i σ' H',Inv X pins σ' H' s7∧tn i s7.heap∧(∀ b∈fp,H' b=none)∧W i m σ' H':=fun{σ7 H7} I7 n7=>by
   obtain⟨m',hm,w7⟩:=hN σ7 H7 n7
   refine⟨m',hm,i+1,σ7,H7,I7.unpinned,T.keep _ _ _ st5 fun b hb o e=>(I7.pin (b,o) (Pg _ (Pg _ (y9 hb e)))).1,fun b hb=>?_,w7⟩
   obtain⟨o,e,d⟩:=T.obj _ _ st5 b hb
   exact(I7.pin (b,o) (Pg _ (Pg _ (y9 hb e)))).2.1
  cases f with
  | next=>obtain⟨σ7,H7,I7,n7⟩:=q7;exact again I7 n7
  | cont=>obtain⟨σ7,H7,I7,n7⟩:=q7;exact again I7 n7
  | brk=>obtain⟨σ7,H7,I7,q7⟩:=q7;exact⟨σ7,H7,I7.unpinned,q7⟩
  | ret v=>obtain⟨x7,σ7,H7,I7,r7,q7⟩:=q7;exact⟨x7,σ7,H7,I7.unpinned,r7,q7⟩
end
noncomputable abbrev R2:=V→V→Hp→VK→Prop
def OpR(X:Cx)(f:Value→Value→Sem Value)(r:R2):Prop :=
 ∀(pins:List (Addr × Obj)) (s:Shared) (σ:St) (H:Hp) (x y:V) (v u:Value) (Q:VK),Inv X pins σ H s→o7 x v→o7 y u→r x y H Q →
  wpAny (model X.prog X.w) X.A (f v u) (EP X pins σ Q) X.xe s
def UnR(X:Cx)(f:Value→Sem Value)(r:V→Hp→VK→Prop):Prop :=
 ∀(pins:List (Addr × Obj)) (s:Shared) (σ:St) (H:Hp) (x:V) (v:Value) (Q:VK),Inv X pins σ H s→o7 x v→r x H Q →
  wpAny (model X.prog X.w) X.A (f v) (EP X pins σ Q) X.xe s
def A3(X:Cx)(f:Value)(r:List V→Hp→VK→Prop):Prop :=
 ∀(pins:List (Addr × Obj)) (s:Shared) (σ:St) (H:Hp) (xs:List V) (us:List Value) (Q:VK),Inv X pins σ H s→j8 xs us→r xs H Q →
  wpAny (model X.prog X.w) X.A (call f us) (EP X pins σ Q) X.xe s
def tOp(r:R2)(ta tb:TE):TE:=fun σ H Q=>ta σ H fun x H1=>tb σ H1 fun y H2=>r x y H2 Q
def tUn(r:V→Hp→VK→Prop)(ta:TE):TE:=fun σ H Q=>ta σ H fun x H1=>r x H1 Q
def rI(C:Int→Int→Prop)(g:Int→Int→V):R2:=fun x y H Q=>∃ i j,x = .int i∧y = .int j∧C i j∧Q (g i j) H
def rI0(g:Int→Int→V):R2:=fun x y H Q=>∃ i j,x = .int i∧y = .int j∧Q (g i j) H
noncomputable def rU(g:Int→V):V→Hp→VK→Prop:=fun x H Q=>∃ i,x = .int i∧Q (g i) H
section
variable {X:Cx} {a b c:Expr} {ta tb tc:TE} {pos:Pos}
theorem CZ(ha:PE X a ta)(hb:PE X b tb){pins:List (Addr × Obj)}{s:Shared}{σ:St}{H:Hp}{R:V→V→Hp→Prop}(I:Inv X pins σ H s)
  (h:ta σ H fun x H1=>tb σ H1 fun y H2=>R x y H2) {Q:Value→Shared→Prop} {f:Value→Value→Sem Value}
  (hf:∀ v u s2 x y H2,Inv X pins σ H2 s2→o7 x v→o7 y u→R x y H2→wpAny (model X.prog X.w) X.A (f v u) Q X.xe s2) :
  wpAny (model X.prog X.w) X.A (eval a X.env) (fun v s₁=>wpAny (model X.prog X.w) X.A (eval b X.env) (fun u s₂=>wpAny (model X.prog X.w) X.A (f v u) Q X.xe s₂) X.xe s₁) X.xe s:=by
 refine thn (ha pins s σ H _ I h) fun v s1 zz=>?_
 obtain⟨x,H1,I1,r1,q1⟩:=zz
 refine thn (hb pins s1 σ H1 _ I1 q1) fun u s2 zz=>?_
 obtain⟨y,H2,I2,r2,q2⟩:=zz
 exact hf v u s2 x y H2 I2 r1 r2 q2
theorem EC{op:Operator}{r:R2}(ho:OpR X (binaryOp op) r)(ha:PE X a ta)(hb:PE X b tb):PE X (.BinOp a op b pos) (tOp r ta tb):=by
 intro pins s σ H Q I h
 exact wpAny_BinOp (CZ ha hb I h fun v u s2 x y H2 I2 rx ry q=>ho pins s2 σ H2 x y v u Q I2 rx ry q)
theorem JQ{op:UnaryOp}{r:V→Hp→VK→Prop}(ho:UnR X (unaryOp op) r)(ha:PE X a ta):PE X (.UnaryOp op a pos) (tUn r ta):=by
 intro pins s σ H Q I h
 exact UnaryOp_ (thn (ha pins s σ H _ I h) fun v s1 ⟨x,H1,I1,r1,q1⟩=>ho pins s1 σ H1 x v Q I1 r1 q1)
theorem opI{f:Value→Value→Sem Value}{C:Int→Int→Prop}{g:Int→Int→Int}
  (rule:∀(i j:Int) (t u:Tok) (s:Shared) (Q:Value→Shared→Prop) (E:Value→Shared→Prop),C i j→Q (.int (g i j) s.toks) { s with toks:=s.toks+1 }→wpAny (model X.prog X.w) X.A (f (.int i t) (.int j u)) Q E s) :
  OpR X f (rI C fun i j=>.int (g i j)):=by
 intro pins s σ H x y v u Q I rx ry h
 obtain⟨i,j,rfl,rfl,hc,q⟩:=h
 obtain⟨t,rfl⟩:=rx
 obtain⟨t',rfl⟩:=ry
 exact rule i j t t' s _ _ hc ⟨.int (g i j),H,I.tok _,⟨_,rfl⟩,q⟩
theorem Kb{f:Value→Value→Sem Value}{g:Int→Int→Int}
  (rule:∀(i j:Int) (t u:Tok) (s:Shared) (Q:Value→Shared→Prop) (E:Value→Shared→Prop),Q (.int (g i j) s.toks) { s with toks:=s.toks+1 }→wpAny (model X.prog X.w) X.A (f (.int i t) (.int j u)) Q E s) :
  OpR X f (rI0 fun i j=>.int (g i j)):=by
 intro pins s σ H x y v u Q I rx ry h
 obtain⟨i,j,rfl,rfl,q⟩:=h
 obtain⟨t,rfl⟩:=rx
 obtain⟨t',rfl⟩:=ry
 exact rule i j t t' s _ _ ⟨.int (g i j),H,I.tok _,⟨_,rfl⟩,q⟩
theorem He{f:Value→Value→Sem Value}{g:Int→Int→Bool}
  (rule:∀(i j:Int) (t u:Tok) (s:Shared) (Q:Value→Shared→Prop) (E:Value→Shared→Prop),Q (.bool (g i j)) s→wpAny (model X.prog X.w) X.A (f (.int i t) (.int j u)) Q E s) :
  OpR X f (rI0 fun i j=>.bl (g i j)):=by
 intro pins s σ H x y v u Q I rx ry h
 obtain⟨i,j,rfl,rfl,q⟩:=h
 obtain⟨t,rfl⟩:=rx
 obtain⟨t',rfl⟩:=ry
 exact rule i j t t' s _ _ ⟨.bl (g i j),H,I,rfl,q⟩
def Am(i j:Int):Prop:=0≤j∧j≤1000000∧i.natAbs<2 ^ 64
theorem Hd:OpR X (binaryOp .Add) (rI0 fun i j=>.int (i+j)):=Kb fun _ _ _ _ _ _ _ q=>add_int q
theorem GZ:OpR X (binaryOp .Sub) (rI0 fun i j=>.int (i - j)):=Kb fun _ _ _ _ _ _ _ q=>sub_int q
theorem Hb:OpR X (binaryOp .Mod) (rI (fun _ j=>0<j) fun i j=>.int (i % j)):=opI fun i j _ _ _ _ _ hc q=>by
 have h1:(0:Int)<j:=hc
 exact mod_int' (by omega) (by rw[Rf i (by omega)];exact q)
theorem Ha:OpR X (binaryOp .Pow) (rI Am fun i j=>.int (i ^ j.toNat)):=opI fun _ _ _ _ _ _ _ hc q=>pow_int_small hc.1 hc.2.1 hc.2.2 q
theorem unI{f:Value→Sem Value}{g:Int→Int}
  (rule:∀(i:Int) (t:Tok) (s:Shared) (Q:Value→Shared→Prop) (E:Value→Shared→Prop),Q (.int (g i) s.toks) { s with toks:=s.toks+1 }→wpAny (model X.prog X.w) X.A (f (.int i t)) Q E s) :
  UnR X f (rU fun i=>.int (g i)):=by
 intro pins s σ H x v Q I rx h
 obtain⟨i,rfl,q⟩:=h
 obtain⟨t,rfl⟩:=rx
 exact rule i t s _ _ ⟨.int (g i),H,I.tok _,⟨_,rfl⟩,q⟩
theorem FP:UnR X (unaryOp .USub) (rU fun i=>.int (-i)):=unI fun _ _ _ _ _ q=>neg_int q
end
noncomputable def JJ:V→V→Bool
 | .non,.non=>true|.non,.int _=>true|.int _,.non=>true|.non,.bl _=>true|.bl _,.non=>true|.non,.str _=>true|.str _,.non=>true
 | .int _,.int _=>true|.bl _,.bl _=>true|.str _,.str _=>true|.byt _,.byt _=>true
 | .int _,.str _=>true|.str _,.int _=>true|.bl _,.str _=>true|.str _,.bl _=>true
 | _,_=>false
def rEq:R2:=fun x y H Q=>JJ x y=true∧Q (.bl (decide (x=y))) H
def rNe:R2:=fun x y H Q=>JJ x y=true∧Q (.bl (!decide (x=y))) H
theorem ud{i j:Int}:decide (V.int i=V.int j)=(i == j):=by
 rw[Qt]
 simp
theorem zy{i j:Bool}:decide (V.bl i=V.bl j)=(i == j):=by
 rw[Qt]
 simp
theorem uc{i j:Str}:decide (V.str i=V.str j)=(i == j):=by
 rw[Qt]
 simp
theorem ue{i j:Array UInt8}:decide (V.byt i=V.byt j)=(i.toList == j.toList):=by
 rw[Qt]
 cases i
 cases j
 simp
section
variable {X:Cx} {a b c:Expr} {ta tb tc:TE} {pos:Pos}
theorem p7{pins:List (Addr × Obj)}{σ:St}{H:Hp}{s:Shared}{Q:VK}{k k':Bool}(I:Inv X pins σ H s)(q:Q (.bl k) H)(e:k=k'):EP X pins σ Q (.bool k') s:=by
 subst e
 exact⟨.bl k,H,I,rfl,q⟩
theorem EG:OpR X (compareOp .Eq) rEq:=by
 intro pins s σ H x y v u Q I rx ry h
 obtain⟨hs,q⟩:=h
 cases x with
 | non =>
  cases rx
  cases y with
  | non=>cases ry;exact PySem.EqNone.eq_none_none (p7 I q (by simp))
  | bl j=>cases ry;exact PySem.EqNone.eq_none_bool (p7 I q (by simp))
  | int j=>obtain⟨t',rfl⟩:=ry;exact PySem.EqNone.eq_none_int (p7 I q (by simp))
  | str j=>obtain⟨t',rfl⟩:=ry;exact PySem.EqNone.eq_none_str (p7 I q (by simp))
  | _=>exact absurd (show false=true from hs) Pk
 | bl i =>
  cases rx
  cases y with
  | non=>cases ry;exact PySem.EqNone.eq_bool_none (p7 I q (by simp))
  | bl j=>cases ry;exact eq_bool (p7 I q zy)
  | str j=>obtain⟨t',rfl⟩:=ry;exact PySem.EqMixed.eq_bool_str (p7 I q (by simp))
  | _=>exact absurd (show false=true from hs) Pk
 | int i =>
  obtain⟨t,rfl⟩:=rx
  cases y with
  | non=>cases ry;exact PySem.EqNone.eq_int_none (p7 I q (by simp))
  | int j=>obtain⟨t',rfl⟩:=ry;exact eq_int (p7 I q ud)
  | str j=>obtain⟨t',rfl⟩:=ry;exact PySem.EqMixed.eq_int_str (p7 I q (by simp))
  | _=>exact absurd (show false=true from hs) Pk
 | str i =>
  obtain⟨t,rfl⟩:=rx
  cases y with
  | non=>cases ry;exact PySem.EqNone.eq_str_none (p7 I q (by simp))
  | bl j=>cases ry;exact PySem.EqMixed.eq_str_bool (p7 I q (by simp))
  | int j=>obtain⟨t',rfl⟩:=ry;exact PySem.EqMixed.eq_str_int (p7 I q (by simp))
  | str j=>obtain⟨t',rfl⟩:=ry;exact eq_str (p7 I q uc)
  | _=>exact absurd (show false=true from hs) Pk
 | byt i =>
  obtain⟨t,rfl⟩:=rx
  cases y with
  | byt j=>obtain⟨t',rfl⟩:=ry;exact PySem.W.eq_bytes (p7 I q ue)
  | _=>exact absurd (show false=true from hs) Pk
 | _=>cases y<;>exact absurd (show false=true from hs) Pk
theorem EF:OpR X (compareOp .NotEq) rNe:=by
 intro pins s σ H x y v u Q I rx ry h
 obtain⟨hs,q⟩:=h
 cases x with
 | non =>
  cases rx
  cases y with
  | non=>cases ry;exact PySem.EqNone.ne_none_none (p7 I q (by simp))
  | bl j=>cases ry;exact PySem.EqNone.ne_none_bool (p7 I q (by simp))
  | int j=>obtain⟨t',rfl⟩:=ry;exact PySem.EqNone.ne_none_int (p7 I q (by simp))
  | str j=>obtain⟨t',rfl⟩:=ry;exact PySem.EqNone.ne_none_str (p7 I q (by simp))
  | _=>exact absurd (show false=true from hs) Pk
 | bl i =>
  cases rx
  cases y with
  | non=>cases ry;exact PySem.EqNone.ne_bool_none (p7 I q (by simp))
  | bl j=>cases ry;exact ne_bool (p7 I q (congrArg not zy))
  | str j=>obtain⟨t',rfl⟩:=ry;exact PySem.EqMixed.ne_bool_str (p7 I q (by simp))
  | _=>exact absurd (show false=true from hs) Pk
 | int i =>
  obtain⟨t,rfl⟩:=rx
  cases y with
  | non=>cases ry;exact PySem.EqNone.ne_int_none (p7 I q (by simp))
  | int j=>obtain⟨t',rfl⟩:=ry;exact ne_int (p7 I q (congrArg not ud))
  | str j=>obtain⟨t',rfl⟩:=ry;exact PySem.EqMixed.ne_int_str (p7 I q (by simp))
  | _=>exact absurd (show false=true from hs) Pk
 | str i =>
  obtain⟨t,rfl⟩:=rx
  cases y with
  | non=>cases ry;exact PySem.EqNone.ne_str_none (p7 I q (by simp))
  | bl j=>cases ry;exact PySem.EqMixed.ne_str_bool (p7 I q (by simp))
  | int j=>obtain⟨t',rfl⟩:=ry;exact PySem.EqMixed.ne_str_int (p7 I q (by simp))
  | str j=>obtain⟨t',rfl⟩:=ry;exact ne_str (p7 I q (congrArg not uc))
  | _=>exact absurd (show false=true from hs) Pk
 | byt i =>
  obtain⟨t,rfl⟩:=rx
  cases y with
  | byt j=>obtain⟨t',rfl⟩:=ry;exact PySem.W.ne_bytes (p7 I q (congrArg not ue))
  | _=>exact absurd (show false=true from hs) Pk
 | _=>cases y<;>exact absurd (show false=true from hs) Pk
theorem JY:OpR X (compareOp .Lt) (rI0 fun i j=>.bl (decide (i<j))):=He fun _ _ _ _ _ _ _ q=>lt_int q
theorem JZ:OpR X (compareOp .Gt) (rI0 fun i j=>.bl (decide (j<i))):=He fun _ _ _ _ _ _ _ q=>gt_int q
theorem Ka:OpR X (compareOp .GtE) (rI0 fun i j=>.bl (decide (j≤i))):=He fun _ _ _ _ _ _ _ q=>ge_int q
theorem kr:OpR X (compareOp .NotIn) (fun x y H Q=>∃ i j,x = .str i∧y = .str j∧Q (.bl (!(!(Builtin.Str.occurrences j i 0 j.length 1).isEmpty))) H):=by
 intro pins s σ H x y v u Q I rx ry h
 obtain⟨i,j,rfl,rfl,q⟩:=h
 obtain⟨t,rfl⟩:=rx
 obtain⟨t',rfl⟩:=ry
 exact notIn_str (p7 I q rfl)
noncomputable def Km:HO→Bool
 | .lst _=>true
 | .ins _ _ _=>true
 | _=>false
theorem X8{pins:List (Addr × Obj)}{s:Shared}{σ:St}{H:Hp}{a:Addr}{o:HO}(I:Inv X pins σ H s)(h:H a=some o)(p:Km o=true):∃ ob,s.heap.get? a=some ob∧ob.cls ≠ .type "tuple" := by
 cases o with
 | lst xs =>
  obtain⟨_,its,n,_,e⟩:xs.length≤sizeLine∧∃(its:List Value) (n:Nat),j8 xs its∧s.heap.get? a=some { cls:=.type "list",data:=.seq its.toArray n }:=I.hok a _ h
  exact⟨_,e,(by show Value.type "list" ≠ .type "tuple";decide +kernel)⟩
 | ins C dx fs =>
  have x:=I.hok a _ h
  obtain⟨_,_,_,e,_⟩:=x
  exact⟨_,e,(by show Value.ref C ≠ .type "tuple";exact fun z=>by cases z)⟩
 | _=>exact absurd (show false=true from p) Pk
theorem OpR.or{f:Value→Value→Sem Value}{r r':R2}(h:OpR X f r)(h':OpR X f r'):OpR X f (fun x y H Q=>r x y H Q∨r' x y H Q):=by
 intro pins s σ H x y v u Q I rx ry q
 rcases q with q|q
 ·exact h pins s σ H x y v u Q I rx ry q
 ·exact h' pins s σ H x y v u Q I rx ry q
theorem yz(b:Expr){op:CmpOp}(h:op ≠ .In:=by decide)(h2:op ≠ .NotIn:=by decide):behindInMarks op b=false:=by
 have e1:(op == CmpOp.In)=false:=by cases op<;>first|rfl|exact absurd rfl h
 have e2:(op == CmpOp.NotIn)=false:=by cases op<;>first|rfl|exact absurd rfl h2
 cases b<;>simp[behindInMarks,e1,e2]
theorem BX{op:CmpOp}{r:R2}(ho:OpR X (compareOp op) r)(ha:PE X a ta)(hb:PE X b tb)(hm:behindInMarks op b=false):PE X (.Compare a [op] [b] pos) (tOp r ta tb):=by
 intro pins s σ H Q I h
 exact wpAny_Compare1 (CZ ha hb I h fun v u s2 x y H2 I2 rx ry q=>ho pins s2 σ H2 x y v u Q I2 rx ry q) hm
def Jp(t:TE):TT:=fun σ H Q=>t σ H fun x H'=>∃ k,x = .bl k∧Q k H'
theorem sQ{op:CmpOp}{r:R2}(ho:OpR X (compareOp op) r)(ha:PE X a ta)(hb:PE X b tb)(hm:behindInMarks op b=false):PT X (.Compare a [op] [b] pos) (Jp (tOp r ta tb)):=by
 intro pins s σ H Q I h
 refine wpAny_isTrue_Compare1 (thn (ha pins s σ H _ I h) fun v s1 ⟨x,H1,I1,r1,q1⟩=>thn (hb pins s1 σ H1 _ I1 q1) fun u s2 ⟨y,H2,I2,r2,q2⟩ =>
  thn (ho pins s2 σ H2 x y v u _ I2 r1 r2 q2) fun c s3 ⟨z,H3,I3,r3,k,e,q3⟩=>?_) hm
 subst e
 cases r3
 exact wpAny_truthy_bool ⟨H3,I3,q3⟩
theorem fO:(sizeLine:Nat)<2 ^ 63:=by rw[sizeLine_eq];decide
theorem pM:OpR X (binaryOp .Add) (fun x y H Q=>∃ i j,x = .str i∧y = .str j∧i.length+j.length≤sizeLine∧Q (.str (i++j)) H):=by
 intro pins s σ H x y v u Q I rx ry h
 obtain⟨i,j,rfl,rfl,hz,q⟩:=h
 obtain⟨t,rfl⟩:=rx
 obtain⟨t',rfl⟩:=ry
 exact add_str (fun t' tk=>⟨.str (i++j),H,I.tok _,⟨_,rfl⟩,q⟩) hz
def ou(b:Expr):Prop:=∀ o i,subscripted b false o i=operate [o,i] (getItem o i)
theorem mS(ha:PE X a ta)(hb:PE X b tb)(hs:ou b) :
  PE X (.Subscript a b pos) (tOp (fun x y H Q=>∃ z i c,x = .str z∧y = .int i∧0≤i∧i<2 ^ 63∧i<z.length∧z.cps[i.toNat]? = some c∧Q (.str ⟨#[c]⟩) H) ta tb):=by
 intro pins s σ H Q I h
 refine Subscript_ (CZ ha hb I h fun v u s2 x y H2 I2 rx ry q=>?_)
 obtain⟨z,i,c,rfl,rfl,h0,h63,h1,hc,q⟩:=q
 obtain⟨t,rfl⟩:=rx
 obtain⟨t',rfl⟩:=ry
 have e:seqIndex? i z.length=some i.toNat:=PySem.StrLaws.seqIndex_nonneg h0 h1
 exact tail_any (typeIs_str s2 z t) slot_str_getitem.lookup (getItem_str (c:=c) (by
  have e1:decide (i < -(2 ^ 63:Int))=false:=decide_eq_false (by omega)
  have e2:decide (i≥2 ^ 63)=false:=decide_eq_false (by omega)
  rw[e1,e2]<;>rfl) (by rw[e];exact hc) ⟨.str ⟨#[c]⟩,H2,I2.tok _,⟨_,rfl⟩,q⟩) (hs _ _)
theorem S5{x:V}{us:List Value}(r:j8 [x] us):∃ u,us=[u]∧o7 x u:=by
 cases r with
 | cons r1 r2=>cases r2;exact⟨_,rfl,r1⟩
theorem mi{x y:V}{us:List Value}(r:j8 [x,y] us):∃ u w',us=[u,w']∧o7 x u∧o7 y w':=by
 cases r with
 | cons r1 r2 =>
  cases r2 with
  | cons r3 r4=>cases r4;exact⟨_,_,rfl,r1,r3⟩
theorem zX:A3 X (.builtin "abs") (fun xs H Q=>∃ i,xs=[.int i]∧Q (.int (if i<0 then -i else i)) H):=by
 intro pins s σ H xs us Q I r h
 obtain⟨i,rfl,q⟩:=h
 obtain⟨u,rfl,t,rfl⟩:=S5 r
 exact call_abs_int fun u tk=>⟨.int (if i<0 then -i else i),H,I.tok _,⟨_,rfl⟩,q⟩
theorem vj(hc:X.calm=true):A3 X (.builtin "max") (fun xs H Q=>∃ i j,xs=[.int i,.int j]∧Q (.int (if j > i then j else i)) H):=by
 intro pins s σ H xs us Q I r h
 obtain⟨i,j,rfl,q⟩:=h
 obtain⟨u,w',rfl,⟨t,rfl⟩,⟨t',rfl⟩⟩:=mi r
 refine max_two_ints (I.ok.hd hc) fun h' tk k=>⟨_,H,I.kept k,?_,q⟩
 by_cases hj:j > i
 ·rw[if_pos hj,if_pos hj];exact⟨_,rfl⟩
 ·rw[if_neg hj,if_neg hj];exact⟨_,rfl⟩
end
structure qt(h:Heap)(x dx C:Addr)(mA:Str→Option Value):Prop where
 obj:h.get? x=some (PySem.W.instObj C dx)
 ns:h.Ns1 dx mA
 ne:dx≠x
theorem uQ{h:Heap}{dx:Addr}{mA:Str→Option Value}(n:h.Ns1 dx mA):∃ od,h.get? dx=some od∧∀ name,PySem.W.lookIn name od=some (mA name):=by
 obtain⟨o,es,ep,ho,hd,hk,_,hm⟩:=n
 refine⟨o,ho,fun name=>?_⟩
 have e:=hm name
 unfold nsFind findBy at e
 rw[← Array.find?_toList]at e
 unfold PySem.W.lookIn
 rw[hd]
 dsimp only
 split
 ·rename_i y q
  rw[q]at e
  exact congrArg some e
 ·rename_i q
  rw[q]at e
  have a:es.toList.any (·.refKey)=false:=by
   rw[List.any_eq_false]
   intro y hy
   obtain⟨z,t,hkey⟩:=hk y (Array.mem_toList_iff.mp hy)
   simp[DictEntry.refKey,hkey]
  have a':¬ es.toList.any (·.refKey)=true:=by rw[a];exact Pk
  rw[if_neg a']
  exact congrArg some e
theorem qt.look{h:Heap}{x dx C:Addr}{mA:Str→Option Value}(I:qt h x dx C mA):∃ od,PySem.W.InstAt h x (PySem.W.instObj C dx) C (some od)∧∀ name,PySem.W.lookIn name od=some (mA name) :=
 let ⟨od,ho,hl⟩:=uQ I.ns
 ⟨od,⟨I.obj,rfl,rfl,ho⟩,hl⟩
section
variable {prog:Program} {w:World} {A:Around} {E:Value→Shared→Prop} {s:Shared} {K:OR} {x dx C f:Addr} {mA:Str→Option Value} {name:Str} {v:Value}
theorem CC{expr:Bool}{Q:Value→Shared→Prop}(X:K.In s.heap)(I:qt s.heap x dx C mA)(hg:PySem.W.plainGet K C name=true)(hh:PySem.W.hasDictIn K C=true)
  (ha:PySem.W.findIn K (.ref C) name=some none) (hv:mA name=some v) (hv':PySem.W.handedIn v=true) (h:Q v { s with toks:=s.toks+1 }) :
  wpAny (model prog w) A (getAttr (.ref x) name expr) Q E s:=by
 obtain⟨od,J,hl⟩:=I.look
 exact PySem.W.get_value X J (PySem.W.plainGet_of hg).1 (PySem.W.findObj_own hh ha rfl (by rw[hl,hv])) hv' h
theorem yW{pl:Sem Bool}{Q:Value × List Value→Shared→Prop}(X:K.In s.heap)(I:qt s.heap x dx C mA)(hg:PySem.W.plainGet K C name=true)
  (hf:PySem.W.findIn K (.ref C) name=some (some (.ref f))) (ht:PySem.W.isFn K (.ref f)=true) (hv:mA name=none) (h:Q (.ref f,[.ref x]) s) :
  wpAny (model prog w) A (getMethod (.ref x) name pl) Q E s:=by
 obtain⟨od,J,hl⟩:=I.look
 exact PySem.W.method_fn X J (PySem.W.plainGet_of hg).1 (PySem.W.plainGet_of hg).2 hf (beq_iff_eq.mp ht) (by show(PySem.W.lookIn name od).map (·.isSome)=some false;rw[hl,hv];rfl) h
theorem Bu{ns:List Str}{Q:Unit→Shared→Prop}(X:K.In s.heap)(I:qt s.heap x dx C mA)
  (hs:PySem.W.findIn K (.ref C) "__setattr__" = some (some (.builtin "object.__setattr__"))) (hp:PySem.W.plainOver K C=true) (ht:PySem.W.takerIn K C name=some none) (hh:PySem.W.hasDictIn K C=true)
  (hw:PySem.Within mA ns) (hsz:ns.length≤sizeLine)
  (h:∀ h',qt h' x dx C (fun y=>if y=name then some v else mA y)→Heap.SameBut dx s.heap h'→Q () { s with heap:=h',toks:=s.toks+2 }) :
  wpAny (model prog w) A (setAttr (.ref x) name v) Q E s:=by
 obtain⟨od,J,hl⟩:=I.look
 refine PySem.W.set_plain X J hs (PySem.W.osa_open (s:={ s with toks:=s.toks+1 }) (r:=none) X J hp ht fun b=>?_)
 obtain⟨cd,hc,hd'⟩:=PySem.W.any_some hh
 have hx:s.heap.get? x=some ⟨.ref C,some dx,.plain,#[]⟩:=I.obj
 refine OS (Pf (OS (OS (wpAny_loadPart hx (OS (PySem.W.Looks.here (s:={ s with toks:=s.toks+1 }) (PySem.W.looks_clsIn X hc) ?_))))))
 rw[hd']
 refine Pf (a:=some dx) (OS (Pf (OS ?_)))
 refine wpAny_nsSet1 (s:={ s with toks:=s.toks+1 }) I.ns fun h' hn2 hs2=>?_
 obtain⟨oD,esD,epD,hoD,hdD,hcD⟩:=hn2.count (PySem.Within.cons name v hw)
 refine OS (wpAny_lookBehind hoD (by rw[hdD];exact pastItsLine_dict (Pa hcD (by rw[Pz];omega))) ?_)
 exact Pf (h _ ⟨(hs2.2 _ (Ne.symm I.ne)).trans I.obj,hn2,I.ne⟩ hs2)
theorem yD{R:Result→Shared→Prop}{vs:List Value}{kw:List (Str × Value)}(X:K.In s.heap)(hm:PySem.W.makesIn K C=true)
  (hi:PySem.W.findIn K (.ref C) "__init__" = some (some (.ref f))) (hf:PySem.W.typeIn K (.ref f)=some (.type "function"))
  (h:codeAny (model prog w) (A.under (.builtin "type.__call__" ⟨.ref C :: vs,kw⟩)) (.call (.ref f) ⟨.ref (s.heap.objs.size+1) :: vs,kw⟩) (PySem.W.InitBack (s.heap.objs.size+1) R)
   { s with heap:=(s.heap.push PySem.W.emptyDict).push (PySem.W.instObj C s.heap.objs.size) }) :
  codeAny (model prog w) A (.call (.ref C) ⟨vs,kw⟩) R s:=by
 obtain⟨hh,g,d,t,os⟩:=s
 exact PySem.W.make_core (PySem.W.makes_of X hm) (PySem.W.looks_findIn X hi) (fun self=>PySem.W.bind_fn X self hf) (.inl rfl) h
end
noncomputable def Q2(f:Str)(v:V):List (Str × V)→List (Str × V)
 | []=>[(f,v)]
 | (g,x) :: r=>if g=f then(g,v) :: r else(g,x) :: Q2 f v r
theorem cK(f g:Str)(v:V):∀ fs:List (Str × V),(Q2 f v fs).lookup g=if g=f then some v else fs.lookup g
 | []=>by
  show QL g [(f,v)]=_
  by_cases h:g=f
  ·have hb:(g == f)=true:=beq_iff_eq.mpr h
   simp only[QL,hb,if_pos h]
  ·have hb:(g == f)=false:=beq_eq_false_iff_ne.mpr h
   simp only[QL,hb,if_neg h]
 | (k,x) :: r=>by
  have ih:=cK f g v r
  rw[show Q2 f v ((k,x) :: r)=(if k=f then(k,v) :: r else(k,x) :: Q2 f v r)from rfl]
  by_cases hk:k=f
  ·rw[if_pos hk]
   by_cases h:g=k
   ·have hb:(g == k)=true:=beq_iff_eq.mpr h
    simp only[QL,hb,if_pos (h.trans hk)]
   ·have hb:(g == k)=false:=beq_eq_false_iff_ne.mpr h
    simp only[QL,hb,if_neg (fun e:g=f=>h (e.trans hk.symm))]
  ·rw[if_neg hk]
   by_cases h:g=k
   ·have hb:(g == k)=true:=beq_iff_eq.mpr h
    simp only[QL,hb,if_neg (fun e:g=f=>hk (h.symm.trans e))]
   ·have hb:(g == k)=false:=beq_eq_false_iff_ne.mpr h
    simp only[QL,hb]
    exact ih
theorem cc(f:Str)(v:V):∀ fs:List (Str × V),f∈(Q2 f v fs).map (·.1)∧∀ g,g∈fs.map (·.1)→g∈(Q2 f v fs).map (·.1)
 | []=>⟨by simp[Q2],fun g h=>by simp at h⟩
 | (k,x) :: r=>by
  obtain⟨i1,i2⟩:=cc f v r
  rw[show Q2 f v ((k,x) :: r)=(if k=f then(k,v) :: r else(k,x) :: Q2 f v r)from rfl]
  by_cases hk:k=f
  ·rw[if_pos hk]
   subst hk
   exact⟨by simp,fun g h=>by simpa using h⟩
  ·rw[if_neg hk]
   refine⟨?_,fun g h=>?_⟩
   ·rw[Po]
    exact OW _ i1
   ·rw[Po]at h ⊢
    rcases Pb.mp h with e|e
    ·exact Pb.mpr (.inl e)
    ·exact OW _ (i2 g e)
theorem cL(f:Str)(v:V):∀ fs:List (Str × V),(Q2 f v fs).length≤fs.length+1
 | []=>by simp[Q2]
 | (k,x) :: r=>by
  have ih:=cL f v r
  rw[show Q2 f v ((k,x) :: r)=(if k=f then(k,v) :: r else(k,x) :: Q2 f v r)from rfl]
  by_cases hk:k=f
  ·rw[if_pos hk,Pz,Pz];omega
  ·rw[if_neg hk,Pz,Pz];omega
theorem ic.some_of{v:V}{o:Option Value}(r:ic (some v) o):∃ u,o=some u∧o7 v u:=by
 cases o with
 | none=>exact(show False from r).elim
 | some u=>exact⟨u,rfl,r⟩
theorem ic.none_of{o:Option Value}(r:ic none o):o=none:=by
 cases o with
 | none=>rfl
 | some u=>exact(show False from r).elim
theorem uW{v:V}{u:Value}(r:o7 v u):PySem.W.handedIn u=true:=by
 cases v with
 | non=>cases(show u=Value.none from r);rfl
 | bl b=>cases(show u=Value.bool b from r);rfl
 | int i=>obtain⟨t,e⟩:=(show ∃ t,u=Value.int i t from r);cases e;rfl
 | str x=>obtain⟨t,e⟩:=(show ∃ t,u=Value.str x t from r);cases e;rfl
 | byt b=>obtain⟨t,e⟩:=(show ∃ t,u=Value.bytes b t from r);cases e;rfl
 | flt b=>obtain⟨t,e⟩:=(show ∃ t,u=Value.float b t from r);cases e;rfl
 | ref a=>cases(show u=Value.ref a from r);rfl
 | ty n=>cases(show u=Value.type n from r);rfl
section
variable {P:Program} {w:World} {H H':Hp} {h h':Heap} {a C dx:Addr} {fs fs':List (Str × V)}
theorem dW(hok:HOk P w H h)(e:H a=some (.ins C dx fs)):∃ mA,qt h a dx C mA∧(∀ f,ic (fs.lookup f) (mA f))∧PySem.Within mA (fs.map (·.1))∧fs.length≤1000∧H dx=some (.own a):=by
 obtain⟨d,z,ne,ob,mA,n,r,q⟩:=(show C5 P w H h a (.ins C dx fs)from hok a _ e)
 exact⟨mA,⟨ob,n,ne⟩,r,q,z,d⟩
end
structure Cls(K:OR)(C:Addr):Prop where
 pg:PySem.W.plainGet K C Str.empty=true
 hd:PySem.W.hasDictIn K C=true
 po:PySem.W.plainOver K C=true
 sa:PySem.W.findIn K (.ref C) "__setattr__" = some (some (.builtin "object.__setattr__"))
theorem Cls.get{K:OR}{C:Addr}(c:Cls K C)(f:Str):PySem.W.plainGet K C f=true:=c.pg
def av(K:OR)(C:Addr)(f:Str):Prop:=PySem.W.findIn K (.ref C) f=some none
theorem av.taker{K:OR}{C:Addr}{f:Str}(n:av K C f):PySem.W.takerIn K C f=some none:=by
 unfold PySem.W.takerIn
 rw[show PySem.W.findIn K (.ref C) f=some none from n]
 rfl
structure Dk(K:OR)(C:Addr)(m:Str)(f:Addr):Prop where
 at_:PySem.W.findIn K (.ref C) m=some (some (.ref f))
 fn:PySem.W.isFn K (.ref f)=true
 kp:PySem.W.keepIn K (.ref f)=true
section
variable {X:Cx} {pins:List (Addr × Obj)} {σ:St} {H:Hp} {s:Shared} {a C dx:Addr} {fs:List (Str × V)} {f:Str} {v:V} {A:Around} {E:Value→Shared→Prop}
theorem qd{b:Bool}{Q:Value→Shared→Prop}(I:Inv X pins σ H s)(e:H a=some (.ins C dx fs))(c:Cls X.K C)(n:av X.K C f)(l:fs.lookup f=some v)
  (h:∀ u s',Inv X pins σ H s'→o7 v u→Q u s'):wpAny (model X.prog X.w) A (getAttr (.ref a) f b) Q E s:=by
 obtain⟨mA,O,r,_,_,_⟩:=dW I.hok e
 obtain⟨u,hu,ru⟩:=ic.some_of (v:=v) (o:=mA f) (by rw[← l];exact r f)
 exact CC I.kIn O (c.get f) c.hd n hu (uW ru) (h u _ (I.tok _) ru)
theorem qc{m:Str}{g:Addr}{pl:Sem Bool}{Q:Value × List Value→Shared→Prop}(I:Inv X pins σ H s)(e:H a=some (.ins C dx fs))(c:Cls X.K C)(k:Dk X.K C m g)(l:fs.lookup m=none)
  (h:Q (.ref g,[.ref a]) s):wpAny (model X.prog X.w) A (getMethod (.ref a) m pl) Q E s:=by
 obtain⟨mA,O,r,_,_,_⟩:=dW I.hok e
 have hn:mA m=none:=ic.none_of (by rw[← l];exact r m)
 exact yW I.kIn O (c.get m) k.at_ k.fn hn h
theorem oO{y:V}{u:Value}{Q:Unit→Shared→Prop}(I:Inv X pins σ H s)(e:H a=some (.ins C dx fs))(c:Cls X.K C)(n:av X.K C f)(hl:fs.length<1000)(ry:o7 y u)
  (h:∀ s',Inv X pins σ (upd H a (.ins C dx (Q2 f y fs))) s'→Q () s'):wpAny (model X.prog X.w) A (setAttr (.ref a) f u) Q E s:=by
 obtain⟨mA,O,r,wi,_,ho⟩:=dW I.hok e
 have hz:(fs.map (·.1)).length≤sizeLine:=by rw[OU,sizeLine_eq];omega
 refine Bu I.kIn O c.sa c.po n.taker c.hd wi hz fun h' O' sb=>h _ ?_
 have hd:∃ o,h'.get? dx=some o:=let ⟨o,_,_,e',_⟩:=O'.ns;⟨o,e'⟩
 refine I.write (x:=a) (e:=dx) (by rw[e];exact True.intro) (.inr ho) (fun b q hb z=>(sb.2 b hb).trans z) hd ?_
 refine⟨by rw[i8 O.ne];exact ho,?_,O.ne,O'.obj,_,O'.ns,fun g=>?_,fun g hg=>?_⟩
 ·have:=cL f y fs;omega
 ·show ic ((Q2 f y fs).lookup g) (if g=f then some u else mA g)
  rw[cK]
  by_cases q:g=f
  ·rw[if_pos q,if_pos q];exact ry
  ·rw[if_neg q,if_neg q];exact r g
 ·by_cases q:g=f
  ·rw[q];exact(cc f y fs).1
  ·refine(cc f y fs).2 g (wi g fun z=>hg ?_)
   show(if g=f then some u else mA g)=none
   rw[if_neg q];exact z
theorem Inv.made(I:Inv X pins σ H s):Inv X pins σ (upd (upd H s.heap.objs.size (.own (s.heap.objs.size+1))) (s.heap.objs.size+1) (.ins C s.heap.objs.size []))
  { s with heap:=(s.heap.push PySem.W.emptyDict).push (PySem.W.instObj C s.heap.objs.size) }:=by
 have e1:(s.heap.push PySem.W.emptyDict).get? s.heap.objs.size=some PySem.W.emptyDict:=Pd s.heap rfl
 have e2:((s.heap.push PySem.W.emptyDict).push (PySem.W.instObj C s.heap.objs.size)).get? (s.heap.objs.size+1)=some (PySem.W.instObj C s.heap.objs.size):=by
  have:=Pd (s.heap.push PySem.W.emptyDict) (o:=PySem.W.instObj C s.heap.objs.size) rfl
  rwa [PQ]at this
 have e3:(s.heap.push PySem.W.emptyDict).Ns s.heap.objs.size (fun _=>none):=⟨PySem.W.emptyDict,#[],_,e1,rfl,(fun e he=>absurd he (by simp)),fun _=>rfl⟩
 have I1:=I.laid (a:=s.heap.objs.size) (o:=.own (s.heap.objs.size+1)) (h':=s.heap.push PySem.W.emptyDict) (t':=s.toks) (fun b u q=>OT _ q) (Pe _) ⟨_,e1⟩
 refine I1.laid (a:=s.heap.objs.size+1) (o:=.ins C s.heap.objs.size []) (t':=s.toks) (fun b u q=>OT _ q) (QO (PQ _ _)) ?_
 have ne:s.heap.objs.size≠s.heap.objs.size+1:=Pu (Qi _)
 refine⟨by rw[i8 ne,i6],PD _,ne,e2,fun _=>none,(Heap.Ns1.of_empty e3).at fun o q=>OT _ q,fun _=>True.intro,fun y hy=>absurd rfl hy⟩
theorem Dc{prog:Program}{w:World}{env:Env}{e:Expr}{f:Str}{pos:Pos}{s:Shared}{Q:Value→Shared→Prop}(hb:attributeBase e f env (eval e env)=eval e env)
  (h:wpAny (model prog w) A (eval e env) (fun o s₁=>wpAny (model prog w) A (getAttr o f true) Q E s₁) E s):wpAny (model prog w) A (eval (.Attribute e f pos) env) Q E s :=
 Attribute_any_ h (by rw[arm_eval_Attribute,hb])
end
def Ly(K:OR)(ta:TE)(f:Str):TE:=fun σ H Q=>ta σ H fun x H1=>∃ a C dx fs v,x = .ref a∧H1 a=some (.ins C dx fs)∧Cls K C∧av K C f∧fs.lookup f=some v∧Q v H1
def LA(K:OR)(ta tv:TE)(f:Str):TS:=fun D σ H=>tv σ H fun y H1=>ta σ H1 fun x H2=>∃ a C dx fs,x = .ref a∧H2 a=some (.ins C dx fs)∧Cls K C∧av K C f∧fs.length<1000 ∧
 D.nx σ (upd H2 a (.ins C dx (Q2 f y fs)))
section
variable {X:Cx} {o e value:Expr} {f:Str} {pos pos' tpos:Pos} {ta tv:TE}
theorem GX(he:PE X e ta)(hb:attributeBase e f X.env (eval e X.env)=eval e X.env):PE X (.Attribute e f pos) (Ly X.K ta f):=by
 intro pins s σ H Q I h
 refine Dc hb (thn (he pins s σ H _ I h) fun u s1 zz=>?_)
 obtain⟨x,H1,I1,rx,a,C,dx,fs,v,ex,ea,c,n,l,q⟩:=zz
 subst ex
 obtain rfl:u=Value.ref a:=rx
 exact qd I1 ea c n l fun u' s2 I2 ru=>⟨v,H1,I2,ru,q⟩
theorem GF(ha:PE X o ta)(hv:PE X value tv)(hs:swapsWith value (some (.Attribute o f pos')) pos.line X.env=pure false):PS X (.Assign [.Attribute o f pos'] value pos) (LA X.K ta tv f):=by
 intro pins s σ H D I h
 refine plainObj_wpAny_Assign_Attribute (thn (hv pins s σ H _ I h) fun u s1 ⟨y,H1,I1,ry,q⟩=>thn (ha pins s1 σ H1 _ I1 q) fun ov s2 ⟨x,H2,I2,rx,a,C,dx,fs,ex,ea,c,n,l,q2⟩=>?_) hs
 subst ex
 obtain rfl:ov=Value.ref a:=rx
 exact oO I2 ea c n l ry fun s3 I3=>⟨σ,_,I3,q2⟩
end
section
variable {X:Cx} {pins:List (Addr × Obj)} {σ:St} {H:Hp} {s:Shared} {A:Around} {E:Value→Shared→Prop} {Q:Value→Shared→Prop} {c:Value} {b:Bool}
inductive cY (K:OR) (H:Hp):V→Value→Prop where
 | non:cY K H .non (.type "NoneType")
 | bl (x:Bool):cY K H (.bl x) (.type "bool")
 | int (i:Int):cY K H (.int i) (.type "int")
 | str (x:Str):cY K H (.str x) (.type "str")
 | flt (x:UInt64):cY K H (.flt x) (.type "float")
 | lst {a:Addr} {xs:List V} (e:H a=some (.lst xs)):cY K H (.ref a) (.type "list")
 | frz {a:Addr} {o:Obj} {xs:List V} (e:H a=some (.frz o (.lst xs))):cY K H (.ref a) (.type "list")
 | tup {a:Addr} {xs:List V} (e:H a=some (.tup xs)):cY K H (.ref a) (.type "tuple")
 | dK {a:Addr} {kvs:List (Key × V)} (e:H a=some (.dK kvs)):cY K H (.ref a) (.type "dict")
 | dT {a:Addr} {kvs:List (List Key × V)} (e:H a=some (.dT kvs)):cY K H (.ref a) (.type "dict")
 | ins {a C dx:Addr} {fs:List (Str × V)} (e:H a=some (.ins C dx fs)) (cl:Cls K C) (ha:PySem.W.findIn K (.ref C) "__class__" = some (some (.builtin "object.__class__")))
   (hn:PySem.W.specialIn K (.builtin "object.__class__") "__get__" = some (some (.builtin "getset_descriptor.__get__"))) (htk:PySem.W.takesIn K (.builtin "object.__class__")=some true)
   (hm:PySem.W.mroIn K C (.type "object")=some true):cY K H (.ref a) (.ref C)
theorem N8{x:V}{u t:Value}(I:Inv X pins σ H s)(rx:o7 x u)(ty:cY X.K H x t)(e:PySem.W.kitOne X.K t c=some b)(h:∀ tk,Q (.bool b) { s with toks:=tk }) :
  wpAny (model X.prog X.w) A (call (.builtin "isinstance") [u,c]) Q E s:=by
 cases ty with
 | non=>cases(show u=Value.none from rx);exact PySem.W.kia_one PySem.W.kitx_none I.kIn True.intro e (fun z=>nomatch z) h
 | bl y=>cases(show u=Value.bool y from rx);exact PySem.W.kia_one PySem.W.kitx_bool I.kIn True.intro e (fun z=>nomatch z) h
 | int i=>obtain⟨t,q⟩:=(show ∃ t,u=Value.int i t from rx);cases q;exact PySem.W.kia_one PySem.W.kitx_int I.kIn True.intro e (fun z=>nomatch z) h
 | str y=>obtain⟨t,q⟩:=(show ∃ t,u=Value.str y t from rx);cases q;exact PySem.W.kia_one PySem.W.kitx_str I.kIn True.intro e (fun z=>nomatch z) h
 | flt y=>obtain⟨t,q⟩:=(show ∃ t,u=Value.float y t from rx);cases q;exact PySem.W.kia_one PySem.W.kitx_float I.kIn True.intro e (fun z=>nomatch z) h
 | @lst a xs ea =>
  cases(show u=Value.ref a from rx)
  obtain⟨_,_,n,_,h1⟩:=(show C5 X.prog X.w H s.heap a (.lst xs)from I.hok a _ ea)
  exact PySem.W.kia_one PySem.W.kitx_list I.kIn ⟨_,h1,rfl⟩ e (fun z=>nomatch z) h
 | @frz a ob xs ea =>
  cases(show u=Value.ref a from rx)
  obtain⟨_,_,_,n,_,h1⟩:=(show C5 X.prog X.w H s.heap a (.frz ob (.lst xs))from I.hok a _ ea)
  exact PySem.W.kia_one PySem.W.kitx_list I.kIn ⟨_,h1,rfl⟩ e (fun z=>nomatch z) h
 | @tup a xs ea =>
  cases(show u=Value.ref a from rx)
  obtain⟨_,_,_,p⟩:=(show C5 X.prog X.w H s.heap a (.tup xs)from I.hok a _ ea)
  obtain⟨o,h1,h2,_⟩:=p
  exact PySem.W.kia_one PySem.W.kitx_tuple I.kIn ⟨o,h1,h2⟩ e (fun z=>nomatch z) h
 | @dK a kvs ea =>
  cases(show u=Value.ref a from rx)
  obtain⟨_,_,vs,_,p⟩:=(show C5 X.prog X.w H s.heap a (.dK kvs)from I.hok a _ ea)
  obtain⟨o,es,ep,h1,h2,_⟩:=p
  exact PySem.W.kia_one PySem.W.kitx_dict I.kIn ⟨o,h1,h2.1⟩ e (fun z=>nomatch z) h
 | @dT a kvs ea =>
  cases(show u=Value.ref a from rx)
  obtain⟨_,_,xs,_,o,es,ep,h1,h2,_⟩:=(show C5 X.prog X.w H s.heap a (.dT kvs)from I.hok a _ ea)
  exact PySem.W.kia_one PySem.W.kitx_dict I.kIn ⟨o,h1,h2.1⟩ e (fun z=>nomatch z) h
 | @ins a C dx fs ea cl ha hn htk hm =>
  cases(show u=Value.ref a from rx)
  obtain⟨mA,O,_⟩:=dW I.hok ea
  obtain⟨od,J,_⟩:=O.look
  exact PySem.W.kia_one (PySem.W.kitx_own (cl.get _) cl.hd ha hn htk hm) I.kIn J e (fun z=>nomatch z) h
end
structure B6(k:Nat)(A:Around):Prop where
 hd:A.handled=none
 dp:A.depth+3*k+5<recursionLimit
 un:A.units+16*k+200<cLine
theorem B6.mono{j k:Nat}{A:Around}(r:B6 k A)(h:j≤k):B6 j A:=⟨r.hd,by have:=r.dp;omega,by have:=r.un;omega⟩
theorem B6.deeper{k:Nat}{A:Around}(r:B6 (k+1) A)(env:Env):B6 k (A.deeper env) :=
 ⟨r.hd,by have:=r.dp;show A.depth+1+3*k+5<_;omega,by have:=r.un;show A.units+3+16*k+200<_;omega⟩
theorem B6.in1{k:Nat}{A:Around}(r:B6 (k+1) A):B6 k A.in1 :=
 ⟨r.hd,by have:=r.dp;show A.depth+3*k+5<_;omega,by have:=r.un;show A.units+1+16*k+200<_;omega⟩
theorem pU{A:Around}{C:Addr}{us:List Value}{kw:List (Str × Value)}:(A.under (.builtin "type.__call__" ⟨.ref C :: us,kw⟩)).depth=A.depth+1:=by
 first|rfl|simp[Around.under,Code.weight,Code.isCreation,Code.isGuard,Code.isCaller,Code.frames,Code.isFrame,guardIds]
theorem pT{A:Around}{C:Addr}{us:List Value}{kw:List (Str × Value)}:(A.under (.builtin "type.__call__" ⟨.ref C :: us,kw⟩)).units=A.units+1:=by
 first|rfl|simp[Around.under,Code.cUnits,Code.frames,Code.isFrame]
theorem B6.make{k:Nat}{A:Around}(r:B6 (k+1) A)(C:Addr)(us:List Value)(kw:List (Str × Value)):B6 k (A.under (.builtin "type.__call__" ⟨.ref C :: us,kw⟩)) :=
 ⟨r.hd,by have:=r.dp;rw[pU];omega,by have:=r.un;rw[pT];omega⟩
theorem B6.depth{k:Nat}{A:Around}(r:B6 k A):A.depth<recursionLimit:=by have:=r.dp;omega
theorem B6.units{k:Nat}{A:Around}(r:B6 k A):A.units+64<cLine:=by have:=r.un;omega
def Js:TA:=fun _ H Q=>Q [] H
def Jz(ta:TE)(tr:TA):TA:=fun σ H Q=>ta σ H fun x H1=>tr σ H1 fun xs H2=>Q (x :: xs) H2
section
variable {X:Cx} {e:Expr} {es:List Expr} {te:TE} {t:TA} {pos:Pos}
theorem fo:PA X [] Js:=fun _ _ _ _ H Q I h=>Calls.spliced_nil ⟨[],H,I,.nil,h⟩
theorem aY(ha:PE X e te)(hr:PA X es t)(hs:starEach (e :: es) X.env=(false,eval e X.env) :: starEach es X.env:=by rfl):PA X (e :: es) (Jz te t):=by
 intro pos pins s σ H Q I h
 rw[hs]
 show wpAny _ _ (spliced ((false,eval e X.env) :: backTo pos (starEach es X.env))) _ _ s
 refine Calls.spliced_cons (thn (ha pins s σ H _ I h) fun u s1 zz=>?_)
 obtain⟨x,H1,I1,r1,q1⟩:=zz
 exact thn (hr pos pins s1 σ H1 _ I1 q1) fun us s2 ⟨xs,H2,I2,r2,q2⟩=>⟨x :: xs,H2,I2,.cons r1 r2,q2⟩
def Lo(t:TA):TE:=fun σ H Q=>t σ H fun xs H1=>xs.length≤sizeLine∧∀ p,H1 p=none→Q (.ref p) (upd H1 p (.tup xs))
def Lv(t:TA):TE:=fun σ H Q=>t σ H fun xs H1=>xs.length≤sizeLine∧∀ p,H1 p=none→Q (.ref p) (upd H1 p (.lst xs))
theorem yi{x1}(h:PA X es t):PE X (.Tuple es x1 pos) (Lo t):=by
 intro pins s σ H Q I hq
 refine wpAny_Tuple_spliced (thn (h pos pins s σ H _ I hq) fun us s1 ⟨xs,H1,I1,r,z,q⟩=>⟨by rw[← r.length];exact z,?_⟩)
 have hf:H1 s1.heap.objs.size=none:=I1.hok.fresh (Pe _)
 refine⟨.ref s1.heap.objs.size,upd H1 s1.heap.objs.size (.tup xs),I1.laid (t':=s1.toks) (fun b u e=>OT _ e) (Pe _) ?_,rfl,q _ hf⟩
 exact⟨z,us,r,⟨_,Pd _ rfl,rfl,_,rfl⟩⟩
theorem pK(h:PA X es t):PE X (.List es pos) (Lv t):=by
 intro pins s σ H Q I hq
 refine wpAny_List_spliced (thn (h pos pins s σ H _ I hq) fun us s1 ⟨xs,H1,I1,r,z,q⟩=>⟨by rw[← r.length];exact z,?_⟩)
 have hf:H1 s1.heap.objs.size=none:=I1.hok.fresh (Pe _)
 refine⟨.ref s1.heap.objs.size,upd H1 s1.heap.objs.size (.lst xs),I1.laid (t':=s1.toks) (fun b u e=>OT _ e) (Pe _) ?_,rfl,q _ hf⟩
 exact⟨z,us,0,r,Pd _ rfl⟩
end
noncomputable abbrev Sp:=List V→Hp→VK→XK→Prop
noncomputable abbrev CXT:=List Env→Hp→Shared→XK→Value→Shared→Prop
structure ig(P:Program)(w:World)(K:OR)(mg:Str→Option Value)(base:Heap)(A:Around)(outer:List Env)(s:Shared)(H:Hp):Prop where
 frames:A.frames=some outer
 mod:Mod K mg base
 bs:∀ b o,base.get? b=some o→s.heap.get? b=some o∧H b=none
 bsz:base.objs.size≤s.heap.objs.size
 funs:s.heap.FunFrames base outer
 frf:∀ b∈frs outer,H b=none
 hok:HOk P w H s.heap
 bare:AllBare s.gens
def CE(outer:List Env)(P:Program)(w:World)(H:Hp)(s:Shared)(Q:VK)(u:Value)(s':Shared):Prop :=
 ∃ v H',s'.os=s.os∧AllBare s'.gens∧Un (frs outer) [] H H' s.heap s'.heap∧HOk P w H' s'.heap∧o7 v u∧Q v H'
def CR(CX:CXT)(outer:List Env)(P:Program)(w:World)(H:Hp)(s:Shared)(Q:VK)(E:XK)(r:Result)(s':Shared):Prop :=
 match r with
 | .ok (.ret u)=>CE outer P w H s Q u s'
 | .ok _=>False
 | .error e=>CX outer H s E e s'
structure K5(P:Program)(w:World)(K:OR)(mg:Str→Option Value)(base:Heap)(CX:CXT)(k:Nat)(f:Addr)(fd:FuncData)(ps:List Str)(sp:Sp):Prop where
 len:∀ vs H Q E,sp vs H Q E→vs.length=ps.length
 run:∀(A:Around) (outer:List Env) (s:Shared) (H:Hp) (args:Args) (us:List Value) (vs:List V) (Q:VK) (E:XK),B6 k A→ig P w K mg base A outer s H→BindsTo s fd args (ps.zip us)→j8 vs us→sp vs H Q E →
  codeAny (model P w) A (.call (.ref f) args) (CR CX outer P w H s Q E) s
theorem K5.mono{P:Program}{w:World}{K:OR}{mg:Str→Option Value}{base:Heap}{CX:CXT}{j k:Nat}{f:Addr}{fd:FuncData}{ps:List Str}{sp:Sp}(F:K5 P w K mg base CX j f fd ps sp)(h:j≤k) :
  K5 P w K mg base CX k f fd ps sp:=⟨F.len,fun A outer s H args us vs Q E hr=>F.run A outer s H args us vs Q E (hr.mono h)⟩
theorem K5.imp{P:Program}{w:World}{K:OR}{mg:Str→Option Value}{base:Heap}{CX:CXT}{k:Nat}{f:Addr}{fd:FuncData}{ps:List Str}{sp sp':Sp}(F:K5 P w K mg base CX k f fd ps sp)
  (h:∀ vs H Q E,sp' vs H Q E→sp vs H Q E):K5 P w K mg base CX k f fd ps sp' :=
 ⟨fun vs H Q E q=>F.len vs H Q E (h _ _ _ _ q),fun A outer s H args us vs Q E hr he hb hv hs=>F.run A outer s H args us vs Q E hr he hb hv (h _ _ _ _ hs)⟩
theorem ig.make{P:Program}{w:World}{K:OR}{mg:Str→Option Value}{base:Heap}{A:Around}{outer:List Env}{s:Shared}{H:Hp}(e:ig P w K mg base A outer s H)(C:Addr)(us:List Value)(kw:List (Str × Value)) :
  ig P w K mg base (A.under (.builtin "type.__call__" ⟨.ref C :: us,kw⟩)) outer s H:=⟨by first|exact e.frames|(simpa[Around.under,Code.envs,Code.isFrame,pushEnvs]using e.frames),e.mod,e.bs,e.bsz,e.funs,e.frf,e.hok,e.bare⟩
theorem ig.in1{P:Program}{w:World}{K:OR}{mg:Str→Option Value}{base:Heap}{A:Around}{outer:List Env}{s:Shared}{H:Hp}(e:ig P w K mg base A outer s H) :
  ig P w K mg base A.in1 outer s H:=⟨e.frames,e.mod,e.bs,e.bsz,e.funs,e.frf,e.hok,e.bare⟩
section
variable {X:Cx} {pins:List (Addr × Obj)} {σ:St} {H:Hp} {s s':Shared}
theorem Inv.env0(I:Inv X pins σ H s):ig X.prog X.w X.K X.mg X.base X.A X.stack s H :=
 ⟨I.ok.frames,I.ok.mod,I.bs,Pa I.ok.bsz I.sz,I.stack,I.stkFree,I.hok,I.bare⟩
theorem Inv.after{Q:VK}{u:Value}(I:Inv X pins σ H s)(h:CE X.stack X.prog X.w H s Q u s'):EP X pins σ Q u s':=by
 obtain⟨v,H',os,bare,un,hok,r,q⟩:=h
 obtain⟨hh,g,d,t,os'⟩:=s'
 obtain rfl:os'=s.os:=os
 exact⟨v,H',I.call (h':=hh) (g':=g) (d':=d) (t':=t) (ch:=[]) un hok bare (fun b z=>absurd z (by simp)),r,q⟩
end
def JB(sp:Sp)(dvs:List V)(E:XK)(t:TA):TE:=fun σ H Q=>t σ H fun vs H1=>sp (vs++dvs) H1 Q E
def Ju(C:Addr)(m:Str)(sp:Sp)(dvs:List V)(E:XK)(ta:TE)(t:TA):TE:=fun σ H Q=>ta σ H fun x H1=>∃ a dx fs,x = .ref a∧H1 a=some (.ins C dx fs)∧fs.lookup m=none ∧
 t σ H1 fun vs H2=>sp (x :: (vs++dvs)) H2 Q E
def Jv(C:Addr)(sp:Sp)(dvs:List V)(E:XK)(t:TA):TE:=fun σ H Q=>t σ H fun vs H1=>∀ x dx,H1 x=none→H1 dx=none→dx≠x →
 sp (.ref x :: (vs++dvs)) (upd (upd H1 dx (.own x)) x (.ins C dx [])) (fun v H2=>v = .non∧Q (.ref x) H2) E
def O2(K:OR)(fd:FuncData)(ps:List Str)(ds:List Value):Prop :=
 ∀(s:Shared) (us:List Value),K.In s.heap→(us++ds).length=ps.length→BindsTo s fd ⟨us,[]⟩ (ps.zip (us++ds))
theorem O2.all{K:OR}{fd:FuncData}{ps:List Str}(h:∀ us:List Value,us.length=ps.length→bindArgs fd ⟨us,[]⟩=pure (ps.zip us)):O2 K fd ps []:=fun s us _ hl=>by
 rw[PJ]at hl ⊢
 exact .of_eq (h us hl)
def V8(CX:CXT)(X:Cx)(E:XK):Prop:=∀(pins:List (Addr × Obj)) (σ:St) (H:Hp) (s:Shared) (e:Value) (s':Shared),Inv X pins σ H s→CX X.stack H s E e s'→X.xe e s'
section
variable {X:Cx} {CX:CXT} {k:Nat} {f C:Addr} {fd:FuncData} {ps:List Str} {sp:Sp} {dvs:List V} {ds:List Value} {E:XK} {x m:Str} {p pos apos:Pos} {e o:Expr} {es:List Expr} {ta:TE} {t:TA}
theorem xO{pins:List (Addr × Obj)}{σ:St}{H:Hp}{s:Shared}{Q:VK}{us:List Value}{vs:List V}(F:K5 X.prog X.w X.K X.mg X.base CX k f fd ps sp)(hr:B6 k X.A)(hb:O2 X.K fd ps ds)(hd:j8 dvs ds)(hx:V8 CX X E)
  (I:Inv X pins σ H s) (r:j8 vs us) (h:sp (vs++dvs) H Q E):wpAny (model X.prog X.w) X.A (call (.ref f) us) (EP X pins σ Q) X.xe s:=by
 have r2:j8 (vs++dvs) (us++ds):=r.append hd
 have hl:(us++ds).length=ps.length:=by rw[← r2.length];exact F.len _ _ _ _ h
 refine wpAny_call (codeAny_mono (F.run X.A X.stack s H ⟨us,[]⟩ (us++ds) (vs++dvs) Q E hr I.env0 (hb s us I.kIn hl) r2 h) fun r s' hq=>?_)
 cases r with
 | error e=>exact hx pins σ H s e s' I hq
 | ok fl =>
  cases fl with
  | ret u=>exact I.after hq
  | next=>exact False.elim hq
  | brk=>exact False.elim hq
  | cont=>exact False.elim hq
theorem sU(F:K5 X.prog X.w X.K X.mg X.base CX k f fd ps sp)(hr:B6 k X.A)(hg:Gl X x)(hm:X.mg x=some (.ref f))(hk:PySem.W.keepIn X.K (.ref f)=true)(hb:O2 X.K fd ps ds)(hd:j8 dvs ds)(hx:V8 CX X E)
  (ha:PA X (e :: es) t) (hdb:(x == ("__debug__" : Str))=false:=by decide) (he:starEach (e :: es) X.env=(false,eval e X.env) :: starEach es X.env:=by rfl) (hpl:(backTo pos (starEach es X.env)).any (·.1)=false:=by rfl) :
  PE X (.Call (.Name x p) (e :: es) [] pos) (JB sp dvs E t):=by
 intro pins s σ H Q I h
 refine wpAny_Call_Name_kw (dQ I hg hm ?_ hdb)
 refine PySem.W.callWith_K (h₀:=X.base) I.ok.mod.kin hk (thn (ha pos pins s σ H _ I h) fun us s1 ⟨vs,H1,I1,r,q⟩=>⟨I1.kIn,?_⟩) he hpl
 exact xO F hr hb hd hx I1 r q
theorem BV{pl:Sem Bool}(he:PE X o ta)(c:Cls X.K C)(hm:Dk X.K C m f)(F:K5 X.prog X.w X.K X.mg X.base CX k f fd ps sp)(hr:B6 k X.A)(hb:O2 X.K fd ps ds)(hd:j8 dvs ds)(hx:V8 CX X E)(ha:PA X (e :: es) t)
  (hst:starEach (e :: es) X.env=(false,eval e X.env) :: starEach es X.env:=by rfl) (hpl:(backTo pos (starEach es X.env)).any (·.1)=false:=by rfl)
  (ht:eval (.Call (.Attribute o m apos) (e :: es) [] pos) X.env=(do
   let ov ← eval o X.env
   standAt apos.atName
   let (f,first) ← holding [ov] (getMethod ov m pl)
   callWith pos f first (backTo pos (starEach (e :: es) X.env)) (backToKw pos (keywordEach [] X.env))):=by rfl) :
  PE X (.Call (.Attribute o m apos) (e :: es) [] pos) (Ju C m sp dvs E ta t):=by
 intro pins s σ H Q I h
 refine PySem.W.methodCall_KW (pl:=pl) (thn (he pins s σ H _ I h) fun u s1 ⟨x,H1,I1,rx,a,dx,fs,ex,ea,l,q⟩=>?_) ht
 subst ex
 obtain rfl:u=Value.ref a:=rx
 refine qc I1 ea c hm l ?_
 refine PySem.W.callWith_K (first:=[.ref a]) (h₀:=X.base) I.ok.mod.kin hm.kp (thn (ha pos pins s1 σ H1 _ I1 q) fun us s2 ⟨vs,H2,I2,r,q2⟩=>⟨I2.kIn,?_⟩) hst hpl
 exact xO (us:=.ref a :: us) (vs:=.ref a :: vs) F hr hb hd hx I2 (.cons rfl r) q2
structure Mk(K:OR)(C f:Addr):Prop where
 makes:PySem.W.makesIn K C=true
 init:PySem.W.findIn K (.ref C) "__init__" = some (some (.ref f))
 fn:PySem.W.isFn K (.ref f)=true
 kp:PySem.W.keepIn K (.ref C)=true
theorem xM{pins:List (Addr × Obj)}{σ:St}{H:Hp}{s:Shared}{Q:VK}{us:List Value}{vs:List V}(M:Mk X.K C f)(F:K5 X.prog X.w X.K X.mg X.base CX k f fd ps sp)(hr:B6 (k+1) X.A)(hb:O2 X.K fd ps ds)(hd:j8 dvs ds)
  (hx:V8 CX X E) (I:Inv X pins σ H s) (r:j8 vs us)
  (h:∀ x dx,H x=none→H dx=none→dx≠x→sp (.ref x :: (vs++dvs)) (upd (upd H dx (.own x)) x (.ins C dx [])) (fun v H2=>v = .non∧Q (.ref x) H2) E) :
  wpAny (model X.prog X.w) X.A (call (.ref C) us) (EP X pins σ Q) X.xe s:=by
 have hq:=h (s.heap.objs.size+1) s.heap.objs.size (I.hok.fresh (Nat.le_succ _)) (I.hok.fresh (Pe _)) (Pu (Qi _))
 have I2:=Inv.made (C:=C) I
 have r2:j8 (V.ref (s.heap.objs.size+1) :: (vs++dvs)) (Value.ref (s.heap.objs.size+1) :: (us++ds)):=.cons rfl (r.append hd)
 have hl:(Value.ref (s.heap.objs.size+1) :: us++ds).length=ps.length:=by
  have e:=r2.length
  rw[F.len _ _ _ _ hq]at e
  exact e.symm
 refine wpAny_call (yD (f:=f) I.kIn M.makes M.init (beq_iff_eq.mp M.fn) (codeAny_mono (F.run _ X.stack _ _ ⟨Value.ref (s.heap.objs.size+1) :: us,[]⟩ (Value.ref (s.heap.objs.size+1) :: (us++ds)) _ _ E (hr.make C us [])
  (I2.env0.make C us []) (hb _ (Value.ref (s.heap.objs.size+1) :: us) I2.kIn hl) r2 hq) fun r s' hq'=>?_))
 cases r with
 | error e=>exact hx pins σ _ _ e s' I2 hq'
 | ok fl =>
  cases fl with
  | ret u =>
   obtain⟨v,H',I3,rv,ev,q3⟩:=I2.after hq'
   subst ev
   exact⟨rv,⟨V.ref (s.heap.objs.size+1),H',I3,rfl,q3⟩⟩
  | next=>exact False.elim hq'
  | brk=>exact False.elim hq'
  | cont=>exact False.elim hq'
theorem yj(M:Mk X.K C f)(F:K5 X.prog X.w X.K X.mg X.base CX k f fd ps sp)(hr:B6 (k+1) X.A)(hg:Gl X x)(hm:X.mg x=some (.ref C))(hb:O2 X.K fd ps ds)(hd:j8 dvs ds)(hx:V8 CX X E)
  (hdb:(x == ("__debug__" : Str))=false:=by decide):PE X (.Call (.Name x p) [] [] pos) (Jv C sp dvs E Js):=by
 intro pins s σ H Q I h
 refine wpAny_Call_Name_kw (dQ I hg hm ?_ hdb)
 exact PySem.W.callWith_K0 I.kIn M.kp (xM (us:=[]) M F hr hb hd hx I .nil h)
end
section
variable {X:Cx} {CX:CXT} {k:Nat} {f C:Addr} {fd:FuncData} {ps ks:List Str} {sp:Sp} {E:XK} {x m:Str} {p pos apos kpos:Pos} {e o:Expr} {es:List Expr} {kws:List Keyword} {te ta:TE} {t tk:TA} {nm:Option Str}
variable {g:List Value→List Value→List Value} {gV:List V→List V→List V}
end
structure e6(N P:List Str)(sc:Scope):Prop where
 kind:sc.kind = .function
 co:sc.isCoroutine=false
 gen:sc.isGenerator=false
 nd:N.Nodup
 pre:N.take P.length=P
 par:∀ x∈P,sc.names.lookup x=some .local∨sc.names.lookup x=some .cell
 nofree:∀ y∈sc.names,y.2 ≠ .free
theorem jo{kindOf:Str→Option NameKind}{x:Str}:∀{binds:List (Str × Value)} {m:Str→Option Value},(∀ v,(x,v)∉binds)→bindL kindOf binds m x=m x
 | [],_,_=>rfl
 | (n,v) :: r,m,h=>by
  unfold bindL
  rw[jo fun w hw=>h w (OW _ hw)]
  split
  ·have:x≠n:=by rintro rfl;exact h v Ph
   simp[this]
  ·rfl
theorem jr{kindOf:Str→Option NameKind}{x:Str}:∀{binds:List (Str × Value)} {m:Str→Option Value},(∀ v,(x,v)∉binds)→bindC kindOf binds m x=m x
 | [],_,_=>rfl
 | (n,v) :: r,m,h=>by
  unfold bindC
  rw[jr fun w hw=>h w (OW _ hw)]
  split
  ·rfl
  ·have:x≠n:=by rintro rfl;exact h v Ph
   simp[this]
theorem jq{kindOf:Str→Option NameKind}{x:Str}{v:Value}:∀{P:List Str} {vs:List Value} {i:Nat} {m:Str→Option Value},P.Nodup→P[i]? = some x→vs[i]? = some v→kindOf x=some .local →
  bindL kindOf (P.zip vs) m x=some v
 | [],_,_,_,_,h,_,_=>by simp at h
 | _ :: _,[],_,_,_,_,h,_=>by simp at h
 | p :: P,w :: vs,0,m,nd,h1,h2,hk=>by
  simp at h1 h2;subst h1;subst h2
  show bindL kindOf ((p,w) :: P.zip vs) m p=_
  unfold bindL
  rw[jo fun v hv=>(QW.mp nd).1 (RH hv).1,if_pos hk]
  simp
 | p :: P,w :: vs,i+1,m,nd,h1,h2,hk=>by
  show bindL kindOf ((p,w) :: P.zip vs) m x=_
  unfold bindL
  exact jq (i:=i) (QW.mp nd).2 (by simpa using h1) (by simpa using h2) hk
theorem js{kindOf:Str→Option NameKind}{x:Str}{v:Value}:∀{P:List Str} {vs:List Value} {i:Nat} {m:Str→Option Value},P.Nodup→P[i]? = some x→vs[i]? = some v→kindOf x≠some .local →
  bindC kindOf (P.zip vs) m x=some v
 | [],_,_,_,_,h,_,_=>by simp at h
 | _ :: _,[],_,_,_,_,h,_=>by simp at h
 | p :: P,w :: vs,0,m,nd,h1,h2,hk=>by
  simp at h1 h2;subst h1;subst h2
  show bindC kindOf ((p,w) :: P.zip vs) m p=_
  unfold bindC
  rw[jr fun v hv=>(QW.mp nd).1 (RH hv).1,if_neg hk]
  simp
 | p :: P,w :: vs,i+1,m,nd,h1,h2,hk=>by
  show bindC kindOf ((p,w) :: P.zip vs) m x=_
  unfold bindC
  exact js (i:=i) (QW.mp nd).2 (by simpa using h1) (by simpa using h2) hk
noncomputable def start(N:List Str)(vs:List V):St:=vs.map some++PK (N.length - vs.length) none
noncomputable def F5(CX:CXT)(P:Program)(w:World)(K:OR)(mg:Str→Option Value)(base:Heap)(N:List Str)(qual:Str)(scope:Scope)(f:Addr)(cd:Value)(A:Around)(outer:List Env)(s:Shared)(H:Hp)(E:XK):Cx where
 prog:=P
 w:=w
 K:=K
 mg:=mg
 base:=base
 A:=A.deeper (envOfC qual scope s.heap.objs.size f cd)
 N:=N
 s₀:=s
 H₀:=H
 env:=envOfC qual scope s.heap.objs.size f cd
 outer:=outer
 stack:=envOfC qual scope s.heap.objs.size f cd :: outer
 ex:=[]
 calm:=true
 fn:=fun _=>true
 pn:=[]
 xe:=fun e s'=>wpAny (model P w) (A.deeper (envOfC qual scope s.heap.objs.size f cd)) (leaving (envOfC qual scope s.heap.objs.size f cd) e) (fun _ s''=>CX outer H s E e s'') (fun e' s''=>CX outer H s E e' s'') s'
theorem nY{sc:Scope}{n:Nat}{x:Str}(h:sc.names.lookup x=some .cell):∃ c,(cellsFrom n sc.names []).lookup x=some c:=by
 have q:=PySem.W.cellsFrom_some sc.names n [] (.inl h)
 exact Option.isSome_iff_exists.mp q
theorem uT{CX:CXT}{P:Program}{w:World}{K:OR}{mg:Str→Option Value}{base:Heap}{N ps:List Str}{qual:Str}{scope:Scope}{f:Addr}{cd:Value}{A:Around}{outer:List Env}{s s1:Shared}{H:Hp}{E:XK}{us:List Value}{vs:List V}
  (S:e6 N ps scope) (hd:A.handled=none) (e0:ig P w K mg base A outer s H) (hl:vs.length=ps.length) (r:j8 vs us)
  (x:InCallC s s.heap.objs.size (bindL (envOfC qual scope s.heap.objs.size f cd).kindOf (ps.zip us) fun _=>none) (cellsFrom (s.heap.objs.size+1) scope.names []) (bindC (envOfC qual scope s.heap.objs.size f cd).kindOf (ps.zip us) fun _=>none) s1) :
  Inv (F5 CX P w K mg base N qual scope f cd A outer s H E) [] (start N vs) H s1:=by
 have hpl:ps.length≤N.length:=by have:=congrArg Qn S.pre;rw[PC]at this;omega
 obtain⟨h1,tk,rfl,hk⟩:=x.done
 have noA:∀ b:Addr,b∉(F5 CX P w K mg base N qual scope f cd A outer s H E).ex:=fun b z=>absurd (show b∈([]:List Addr)from z) (by simp)
 refine⟨⟨e0.mod,S.kind,rfl,rfl,Pe _,fun y z c h1 h2=>?_,fun y hy=>?_,fun y c _ h=>?_,fun _=>hd,Around.frames_deeper e0.frames,.inr ⟨rfl,rfl⟩,fun b z=>absurd z (noA b),e0.bs,e0.bsz,fun b _ _=>noA b,fun b z=>absurd z (noA b),e0.funs,e0.frf⟩,
  rfl,e0.bare,Un.kept hk,⟨_,x.toInCall.ns,fun i y v h1 h2 h3=>?_⟩,fun y c h=>⟨_,x.cell y c h⟩,e0.hok.fresh (Pe _),fun y c h=>?_,fun p hp=>absurd (show p∈([]:List (Addr × Obj))from hp) (by simp),e0.hok.kept hk,?_⟩
 ·exact name_of_addr x.apart (PySem.mem_of_lookup h1) (PySem.mem_of_lookup h2)
 ·have hy:scope.names.lookup y=some .cell∨scope.names.lookup y=some .free:=hy
  rcases hy with hy|hy
  ·exact nY hy
  ·exact absurd rfl (S.nofree _ (PySem.mem_of_lookup hy))
 ·exact Sq (x.above y c (PySem.mem_of_lookup h))
 ·have hi:i<vs.length:=by
   unfold start at h2
   by_cases hi:i<vs.length
   ·exact hi
   ·rw[List.getElem?_append_right (by simpa using hi)]at h2
    rw[PM]at h2
    split at h2<;>cases h2
  have ha:vs[i]? = some v:=by
   unfold start at h2
   rw[List.getElem?_append_left (by simpa using hi),Py]at h2
   cases e:vs[i]? with
   | none=>rw[e]at h2;cases h2
   | some a=>rw[e]at h2;cases h2;rfl
  obtain⟨u,hu,rv⟩:=r.get ha
  have hp:ps[i]? = some y:=by
   rw[← S.pre,Qk (by omega)];exact h1
  have ndP:ps.Nodup:=by rw[← S.pre];exact S.nd.sublist (List.take_sublist _ _)
  refine⟨u,rv,?_⟩
  rcases S.par y (Pn hp)with k|k
  ·exact .inl ⟨k,jq ndP hp hu k⟩
  ·obtain⟨c,e⟩:=nY (n:=s.heap.objs.size+1) k
   refine .inr ⟨.inl k,c,e,?_⟩
   have q:=x.cell y c e
   rw[js ndP hp hu (by show scope.names.lookup y≠_;rw[k];decide)]at q
   exact q
 ·exact e0.hok.fresh (Sq (x.above y c (PySem.mem_of_lookup h)))
 ·unfold start
  show _=N.length
  rw[Pl,OU,Qj]
  omega
theorem tR{CX:CXT}{P:Program}{w:World}{K:OR}{mg:Str→Option Value}{base:Heap}{k:Nat}{f:Addr}{name qual:Str}{params:Arguments}{body:List Stmt}{scope:Scope}{dV kV doc pm cdv ct oc:Value}{an od:Option Addr}
  {osl:Array (Option Value)} {N ps:List Str} {sp:Sp} (lk:K.lookup f=some ⟨oc,od,.func (PySem.W.fnOf name qual params body scope dV kV doc pm an cdv ct),osl⟩) (hcd:PySem.W.codeIn K cdv qual=true) (S:e6 N ps scope)
  (len:∀ vs H Q E,sp vs H Q E→vs.length=ps.length)
  (hbody:∀(A:Around) (outer:List Env) (s:Shared) (H:Hp) (vs:List V) (Q:VK) (E:XK),B6 k (A.deeper (envOfC qual scope s.heap.objs.size f cdv))→sp vs H Q E →
   ∃ t,PSs (F5 CX P w K mg base N qual scope f cdv A outer s H E) body t∧t { nx:=fun _ H'=>Q .non H',rt:=Q } (start N vs) H) :
  K5 P w K mg base CX (k+1) f (PySem.W.fnOf name qual params body scope dV kV doc pm an cdv ct) ps sp:=by
 refine⟨len,fun A outer s H args us vs Q E hr e0 hb r hsp=>?_⟩
 have hl:=len _ _ _ _ hsp
 have KX:K.In s.heap:=e0.mod.kin.keeps fun b o e=>(e0.bs b o e).1
 have lim:s.heap.NoLimit:=e0.mod.nolimit.keeps fun b o e=>(e0.bs b o e).1
 have hkind:∀ y∈ps.zip us,scope.names.lookup y.1=some .local∨(scope.names.lookup y.1=some .cell∧((cellsFrom (s.heap.objs.size+1) scope.names []).lookup y.1).isSome=true):=fun⟨n,v⟩ hy=>by
  rcases S.par n (RH hy).1 with q|q
  ·exact .inl q
  ·exact .inr ⟨q,PySem.W.cellsFrom_some _ _ _ (.inl q)⟩
 refine codeAny_call_function hr.depth (KX _ _ lk) rfl S.co S.gen rfl (PySem.W.codeRec_of KX hcd) (hb _ _ _ _ ?_)
 refine wpAny_newFunctionEnv_cells S.kind hkind fun env he s1 x=>?_
 subst he
 refine⟨lim.keeps x.toInCall.keep,codeAny_func ?_⟩
 obtain⟨t,ht,hq⟩:=hbody A outer s H vs Q E (hr.deeper _) hsp
 have I:Inv (F5 CX P w K mg base N qual scope f cdv A outer s H E) [] (start N vs) H s1:=uT S hr.hd e0 hl r x
 refine wpAny_mono (ht [] s1 (start N vs) H _ I hq) (fun fl s' hs=>?_) fun e s' hs=>hs
 have fin:∀{σ':St} {H':Hp} {v:V} {u:Value},Inv (F5 CX P w K mg base N qual scope f cdv A outer s H E) [] σ' H' s'→o7 v u→Q v H'→CE outer P w H s Q u s' :=
  fun{σ' H' v u} J rv q=>⟨v,H',J.os,J.bare,J.base,J.hok,rv,q⟩
 cases fl with
 | ret u =>
  obtain⟨v,σ',H',J,rv,q⟩:=hs
  exact fin J rv q
 | next =>
  obtain⟨σ',H',J,q⟩:=hs
  exact fin (v:=V.non) (u:=Value.none) J rfl q
 | brk =>
  obtain⟨_,_,_,q⟩:=hs
  exact False.elim q
 | cont =>
  obtain⟨_,_,_,q⟩:=hs
  exact False.elim q
section
variable {X:Cx} {x:Str} {p pos:Pos} {e:Expr} {es:List Expr} {t:TA} {id T:String} {r:List V→Hp→VK→Prop}
def tCB(r:List V→Hp→VK→Prop)(t:TA):TE:=fun σ H Q=>t σ H fun vs H1=>r vs H1 Q
theorem ym(hc:A3 X (.builtin id) r)(hg:Gl X x)(hm:X.mg x=none)(hv:bootBuiltins x=some (.builtin id))(ha:PA X (e :: es) t)(hn:x ≠ "__name__" := by decide)(hdb:(x == ("__debug__" : Str))=false:=by decide)
  (he:starEach (e :: es) X.env=(false,eval e X.env) :: starEach es X.env:=by rfl) (hpl:(backTo pos (starEach es X.env)).any (·.1)=false:=by rfl):PE X (.Call (.Name x p) (e :: es) [] pos) (tCB r t):=by
 intro pins s σ H Q I h
 refine wpAny_Call_Name_kw (bZ I hg hm hv ?_ hn hdb)
 exact PyProof.Rows.callWith_builtin1 (thn (ha pos pins s σ H _ I h) fun us s1 ⟨vs,H1,I1,r1,q1⟩=>hc pins s1 σ H1 vs us Q I1 r1 q1) he hpl
theorem iZ(hc:A3 X (.type T) r)(hg:Gl X x)(hm:X.mg x=none)(hv:bootBuiltins x=some (.type T))(ha:PA X (e :: es) t)(hn:x ≠ "__name__" := by decide)(hdb:(x == ("__debug__" : Str))=false:=by decide)
  (he:starEach (e :: es) X.env=(false,eval e X.env) :: starEach es X.env:=by rfl) (hpl:(backTo pos (starEach es X.env)).any (·.1)=false:=by rfl):PE X (.Call (.Name x p) (e :: es) [] pos) (tCB r t):=by
 intro pins s σ H Q I h
 refine wpAny_Call_Name_kw (bZ I hg hm hv ?_ hn hdb)
 exact PyProof.Rows.callWith_type1 (thn (ha pos pins s σ H _ I h) fun us s1 ⟨vs,H1,I1,r1,q1⟩=>hc pins s1 σ H1 vs us Q I1 r1 q1) he hpl
end
end L2
namespace HT
open PySem PyProof.Rows
section
open PySem.SeqAt
open PySem.AutoSeq1 (wpAny_loadPart')
open PySem.MeetsSeq PySem.MeetsSeq2 PySem.MeetsSeq3
end
section
variable {prog:Program} {w:World} {A:Around} {E:Value→Shared→Prop} {s:Shared}
noncomputable def sIx(n d:Nat):Option Int→Nat
 | none=>d
 | some v=>if v<0 then(v+(n:Int)).toNat else min v.toNat n
theorem xG(n d:Nat):sIx n d none=d:=rfl
theorem BA(n d k:Nat):sIx n d (some (k:Int))=min k n:=by
 show(if (k:Int)<0 then((k:Int)+(n:Int)).toNat else min (k:Int).toNat n)=min k n
 rw[if_neg (by omega),Ql]
theorem Gg(n d:Nat)(hd:d≤n)(o:Option Int):sIx n d o≤n:=by
 cases o with
 | none=>exact hd
 | some v =>
  show(if v<0 then(v+(n:Int)).toNat else min v.toNat n)≤n
  by_cases hv:v<0
  ·rw[if_pos hv];omega
  ·rw[if_neg hv];exact Ry _ _
theorem ui(v:Int)(n d:Nat):(if v<0 then max (v+(n:Int)) 0 else min v (n:Int))=((sIx n d (some v):Nat):Int):=by
 show(if v<0 then max (v+(n:Int)) 0 else min v (n:Int))=(((if v<0 then(v+(n:Int)).toNat else min v.toNat n):Nat):Int)
 by_cases hv:v<0
 ·simp only[if_pos hv];omega
 ·simp only[if_neg hv];omega
theorem qq(lo hi:Option Int)(n:Nat):Builtin.Slice.sliceAdjust lo hi 1 (n:Int)=(((sIx n 0 lo:Nat):Int),((sIx n n hi:Nat):Int)):=by
 have h1:¬ ((1:Int)<0):=by omega
 unfold Builtin.Slice.sliceAdjust
 simp only[h1,if_false]
 refine Prod.ext ?_ ?_
 ·cases lo with
  | none=>rfl
  | some v=>exact ui v n 0
 ·cases hi with
  | none=>rfl
  | some v=>exact ui v n n
theorem pJ(i j:Nat):Builtin.Slice.slicePlaces (i:Int) (j:Int) 1=j - i:=by
 unfold Builtin.Slice.slicePlaces
 have h1:(1:Int) > 0:=by omega
 simp only[h1,if_true,Int.ediv_one]
 split<;>omega
theorem eV{v:Value}{o:Option Int}{Q:Option Int→Shared→Prop}(p:IsPart v o)(h:Q o s):wpAny (model prog w) A (Builtin.Slice.slicePartIndex v) Q E s:=by
 cases p with
 | none=>exact slicePart_none h
 | int i t=>exact slicePart_int h
theorem bH{sl:Addr}{vl vu:Value}{lo hi:Option Int}{n:Nat}{Q:Int × Int × Nat→Shared→Prop}(hs:s.heap.IsSliceOf sl vl vu .none)(pl:IsPart vl lo)(pu:IsPart vu hi)
  (h:Q (((sIx n 0 lo:Nat):Int),1,sIx n n hi - sIx n 0 lo) s):wpAny (model prog w) A (Builtin.Slice.sliceApplied (.ref sl) (pure (n:Int))) Q E s:=by
 obtain⟨os,hos,hcs,hds⟩:=id hs
 unfold Builtin.Slice.sliceApplied Builtin.Slice.sliceFields
 refine OS (OS (wpAny_field hos hds (x:=vl) rfl (OS (wpAny_field hos hds (x:=vu) rfl (OS (wpAny_field hos hds (x:=.none) rfl (Pf ?_)))))))
 refine OS (slicePart_none ?_)
 show wpAny _ _ (if ((1:Int) == 0)=true then _ else _) _ _ s
 rw[if_neg (by decide)]
 refine OS (eV pl (OS (eV pu (OS (Pf ?_)))))
 show wpAny _ _ (match Builtin.Slice.sliceAdjust lo hi 1 (n:Int)with|(lo,hi)=>pure (lo,(1:Int),Builtin.Slice.slicePlaces lo hi 1)) _ _ s
 rw[qq lo hi n]
 show wpAny _ _ (pure (((sIx n 0 lo:Nat):Int),(1:Int),Builtin.Slice.slicePlaces ((sIx n 0 lo:Nat):Int) ((sIx n n hi:Nat):Int) 1)) _ _ s
 rw[pJ]
 exact Pf h
theorem yg(xs:Array Value)(i k:Nat):((QT k).filterMap fun(m:Nat)=>xs[((i:Int)+(m:Int)*1).toNat]?).toArray=((xs.toList.drop i).take k).toArray:=by
 have e:(fun(m:Nat)=>xs[((i:Int)+(m:Int)*1).toNat]?)=fun m=>xs[i+m]?:=by
  funext m
  have:((i:Int)+(m:Int)*1).toNat=i+m:=by omega
  rw[this]
 rw[e]
 have:=pick_run xs i k
 rw[List.filterMap_map]at this
 have e2:((fun x=>xs[x]?) ∘ fun x=>i+x)=fun m=>xs[i+m]?:=rfl
 rw[e2]at this
 rw[this]
theorem bh{t sl:Addr}{items:Array Value}{vl vu:Value}{lo hi:Option Int}{Q:Value→Shared→Prop}(ht:IsTup s.heap t items)(hs:s.heap.IsSliceOf sl vl vu .none)(pl:IsPart vl lo)(pu:IsPart vu hi)
  (hw:¬ (sIx items.size 0 lo=0∧sIx items.size items.size hi=items.size))
  (h:Q (.ref s.heap.objs.size) { s with heap:=s.heap.push { cls:=.type "tuple",data:=.seq ((items.toList.drop (sIx items.size 0 lo)).take (sIx items.size items.size hi - sIx items.size 0 lo)).toArray } })
  (hsz:items.size≤sizeLine):wpAny (model prog w) A (getItem (.ref t) (.ref sl)) Q E s:=by
 have htake:sizeOk (.seq ((items.toList.drop (sIx items.size 0 lo)).take (sIx items.size items.size hi - sIx items.size 0 lo)).toArray):=by
  show((items.toList.drop (sIx items.size 0 lo)).take (sIx items.size items.size hi - sIx items.size 0 lo)).toArray.size≤sizeLine
  rw[Pr,PC,Qc,Array.length_toList]
  omega
 have hj:sIx items.size items.size hi≤items.size:=Gg _ _ (Pe _) hi
 obtain⟨os,hos,hcs,hds⟩:=id hs
 have hTs:s.TypeIs (.ref sl) "slice" := ⟨os,hos,hcs⟩
 unfold getItem
 try with_reducible refine wpAny_holding ?_
 first|refine OS (Pf ?_)|skip
 refine OS (wpAny_sequenceKey ht.typeIs (by decide) ?_)
 refine OS (wpAny_callSpecial?_slot (name:=Str.ofString "__getitem__") ht.typeIs PyProof.Rows.slot_tuple_getitem
  (wpAny_call_entry PyProof.Rows.slot_tuple_getitem ht.typeIs entry_tuple_getitem ?_ (args_tuple_getitem _ _)))
 show wpAny _ _ (Builtin.Tuple.tupleItemsOf (.ref t) >>= _) _ _ s
 refine OS (tupleItemsOf_ ht ?_)
 refine OS (wpAny_typeOf hTs ?_)
 rw[if_pos (by decide)]
 refine OS (bH hs pl pu ?_)
 have hno:¬ ((((sIx items.size 0 lo:Nat):Int) == 0 && (1:Int) == 1 && (sIx items.size items.size hi - sIx items.size 0 lo) == items.size)=true):=by
  intro q
  rw[PL,PL]at q
  have q1:((sIx items.size 0 lo:Nat):Int)=0:=eq_of_beq q.1.1
  have q2:sIx items.size items.size hi - sIx items.size 0 lo=items.size:=eq_of_beq q.2
  exact hw ⟨by omega,by omega⟩
 show wpAny _ _ (if (((sIx items.size 0 lo:Nat):Int) == 0 && (1:Int) == 1 && (sIx items.size items.size hi - sIx items.size 0 lo) == items.size)=true then _ else _) _ _ s
 rw[if_neg hno,yg]
 first
  | exact OS (m:=Builtin.Tuple.tupleExact _) (wpAny_newObj_type (Pf ⟨_,rfl,Pf h⟩) htake)
  | exact OS (m:=Builtin.Tuple.tupleExact _) (wpAny_newObj_type (OS (Pf (Pf ⟨_,rfl,Pf h⟩))) htake)
  | exact OS (OS (m:=Builtin.Tuple.tupleExact _) (wpAny_newObj_type (Pf (Pf ⟨_,rfl,Pf h⟩)) htake))
  | exact OS (OS (m:=Builtin.Tuple.tupleExact _) (wpAny_newObj_type (Pf ⟨_,rfl,Pf h⟩) htake))
end
end HT
namespace L2
open PySem PySem.Spec PyProof.Rows
noncomputable abbrev TO:=St→Hp→(Option Int→Hp→Prop)→Prop
def PO(X:Cx)(e:Option Expr)(t:TO):Prop :=
 ∀(pins:List (Addr × Obj)) (s:Shared) (σ:St) (H:Hp) (Q:Option Int→Hp→Prop),Inv X pins σ H s→t σ H Q →
  wpAny (model X.prog X.w) X.A (evalPart e X.env) (fun u s'=>∃ o H',Inv X pins σ H' s'∧IsPart u o∧Q o H') X.xe s
def Br:TO:=fun _ H Q=>Q none H
def Jq(t:TE):TO:=fun σ H Q=>t σ H fun x H1=>∃ i,x = .int i∧Q (some i) H1
section
variable {X:Cx} {e:Expr} {te:TE} {lo hi:Option Expr} {tl th:TO} {pos p2:Pos}
theorem BQ:PO X none Br:=by
 intro pins s σ H Q I h
 rw[evalPart_none]
 exact Pf ⟨none,H,I,.none,h⟩
theorem BP(h:PE X e te):PO X (some e) (Jq te):=by
 intro pins s σ H Q I hw
 rw[evalPart_some]
 refine thn (h pins s σ H _ I hw) fun u s1 zz=>?_
 obtain⟨x,H1,I1,r1,q1⟩:=zz
 obtain⟨i,rfl,q⟩:=q1
 obtain⟨t,rfl⟩:=r1
 exact⟨some i,H1,I1,.int i t,q⟩
def SlR(X:Cx)(r:V→Option Int→Option Int→Hp→VK→Prop):Prop :=
 ∀(pins:List (Addr × Obj)) (s:Shared) (σ:St) (H:Hp) (x:V) (v vl vu:Value) (lo hi:Option Int) (sl:Addr) (Q:VK),Inv X pins σ H s→o7 x v→s.heap.IsSliceOf sl vl vu .none→IsPart vl lo→IsPart vu hi→r x lo hi H Q →
  ∃ T id,typeLookup (.type T) "__getitem__" = pure (some (.builtin id))∧s.TypeIs v T∧wpAny (model X.prog X.w) X.A (getItem v (.ref sl)) (EP X pins σ Q) X.xe s
theorem SlR.or{r r':V→Option Int→Option Int→Hp→VK→Prop}(h:SlR X r)(h':SlR X r'):SlR X (fun x lo hi H Q=>r x lo hi H Q∨r' x lo hi H Q):=by
 intro pins s σ H x v vl vu lo hi sl Q I rx hs pl pu q
 rcases q with q|q
 ·exact h pins s σ H x v vl vu lo hi sl Q I rx hs pl pu q
 ·exact h' pins s σ H x v vl vu lo hi sl Q I rx hs pl pu q
def tSl(r:V→Option Int→Option Int→Hp→VK→Prop)(te:TE)(tl th:TO):TE:=fun σ H Q=>te σ H fun x H1=>tl σ H1 fun l H2=>th σ H2 fun u H3=>r x l u H3 Q
theorem mR{r:V→Option Int→Option Int→Hp→VK→Prop}(hr:SlR X r)(he:PE X e te)(hl:PO X lo tl)(hu:PO X hi th):PE X (.Subscript e (.Slice lo hi none p2) pos) (tSl r te tl th):=by
 intro pins s σ H Q I h
 refine Subscript_ (thn (he pins s σ H _ I h) fun v s1 zz=>?_)
 obtain⟨x,H1,I1,r1,q1⟩:=zz
 refine wpAny_Slice (thn (hl pins s1 σ H1 _ I1 q1) fun vl s2 ⟨l,H2,I2,pl,q2⟩=>thn (hu pins s2 σ H2 _ I2 q2) fun vu s3 zz=>?_)
 obtain⟨u,H3,I3,pu,q3⟩:=zz
 rw[evalPart_none]
 refine Pf ?_
 have I4:Inv X pins σ H3 { s3 with heap:=s3.heap.push { cls:=.type "slice",data:=.fields #[vl,vu,.none] } }:=I3.kept (t':=s3.toks) fun b ob q=>OT _ q
 obtain⟨T,id,hT,ht,hg⟩:=hr pins { s3 with heap:=s3.heap.push { cls:=.type "slice",data:=.fields #[vl,vu,.none] } } σ H3 x v vl vu l u s3.heap.objs.size Q I4 r1 (Heap.IsSliceOf.new ..) pl pu q3
 show wpAny (model X.prog X.w) X.A (subscriptTail e (.Slice lo hi none p2) v (.ref s3.heap.objs.size)) (EP X pins σ Q) X.xe { s3 with heap:=s3.heap.push { cls:=.type "slice",data:=.fields #[vl,vu,.none] } }
 exact tail_any (ops:=[.ref s3.heap.objs.size,v]) ht hT hg (by with_unfolding_all rfl)
noncomputable def nS(xs:List V)(lo hi:Option Int):List V:=(xs.drop (HT.sIx xs.length 0 lo)).take (HT.sIx xs.length xs.length hi - HT.sIx xs.length 0 lo)
theorem cM(xs:List V)(lo hi:Option Int):(nS xs lo hi).length≤xs.length:=by
 unfold nS
 rw[PC,Qc]
 omega
noncomputable def LB(K:OR):V→Option Int→Option Int→Hp→VK→Prop:=fun x lo hi H Q=>∃ a xs,x = .ref a∧SqT K H a xs ∧
 ¬ (HT.sIx xs.length 0 lo=0∧HT.sIx xs.length xs.length hi=xs.length)∧∀ p,H p=none→Q (.ref p) (upd H p (.tup (nS xs lo hi)))
theorem FY:SlR X (LB X.K):=by
 intro pins s σ H x v vl vu lo hi sl Q I rx hs pl pu h
 obtain⟨a,xs,rfl,hx,hw,q⟩:=h
 cases rx
 obtain⟨its,r,ht,hz⟩:=I.tuple hx
 have hlen:its.toArray.size=xs.length:=by rw[Pr];exact r.length.symm
 refine⟨"tuple",_,PyProof.Rows.slot_tuple_getitem.lookup,ht.typeIs,?_⟩
 refine HT.bh ht hs pl pu (by rw[hlen];exact hw) ?_ (by rw[hlen];exact hz)
 rw[hlen]
 refine⟨.ref s.heap.objs.size,_,I.laid (t':=s.toks) (o:=.tup (nS xs lo hi)) (fun b ob q=>OT _ q) (Pe _) ?_,rfl,q _ (I.hok.fresh (Pe _))⟩
 exact⟨Pa (cM xs lo hi) hz,_,(r.drop (HT.sIx xs.length 0 lo)).take (HT.sIx xs.length xs.length hi - HT.sIx xs.length 0 lo),IsTup.new _ _⟩
end
noncomputable def ixN(n:Nat)(i:Int):Option Nat:=if 0≤i then(if i<n then some i.toNat else none)else if -(n:Int)≤i then some (i+n).toNat else none
noncomputable def atI{α:Type}(xs:List α)(i:Int):Option α:=(ixN xs.length i).bind fun j=>xs[j]?
theorem tH{n:Nat}{i:Int}{j:Nat}(h:ixN n i=some j):seqIndex? i n=some j∧j<n∧-(n:Int)≤i∧i<n:=by
 unfold ixN at h
 by_cases h0:0≤i
 ·rw[if_pos h0]at h
  by_cases h1:i<n
  ·rw[if_pos h1]at h
   have e:i.toNat=j:=Option.some.inj h
   exact⟨by rw[seqIndex_of h0 h1,e],by omega,by omega,h1⟩
  ·rw[if_neg h1]at h;cases h
 ·rw[if_neg h0]at h
  by_cases h1:-(n:Int)≤i
  ·rw[if_pos h1]at h
   have e:(i+n).toNat=j:=Option.some.inj h
   exact⟨by rw[seqIndex_neg (by omega) h1,e],by omega,h1,by omega⟩
  ·rw[if_neg h1]at h;cases h
theorem um{α:Type}{xs:List α}{i:Int}{v:α}(h:atI xs i=some v):∃ j,seqIndex? i xs.length=some j∧xs[j]? = some v∧j<xs.length∧-(xs.length:Int)≤i∧i<xs.length:=by
 unfold atI at h
 cases e:ixN xs.length i with
 | none=>rw[e]at h;cases h
 | some j =>
  rw[e]at h
  obtain⟨h1,h2,h3,h4⟩:=tH e
  exact⟨j,h1,h,h2,h3,h4⟩
theorem Dd{α:Type}{xs:List α}{j:Nat}{v:α}(h:xs[j]? = some v):atI xs (j:Int)=some v:=by
 have hj:j<xs.length:=(Pc.mp h).1
 have e:ixN xs.length (j:Int)=some j:=by
  unfold ixN
  rw[if_pos (by omega),if_pos (by omega)];simp
 unfold atI;rw[e];exact h
def dZ(b:Expr):Prop:=∀ o i,subscripted b false o i=operate [o,i] (getItem o i)
def IxR(X:Cx)(r:R2):Prop :=
 ∀(value slice:Expr) (pins:List (Addr × Obj)) (s:Shared) (σ:St) (H:Hp) (x y:V) (v u:Value) (Q:VK),Inv X pins σ H s→o7 x v→o7 y u→r x y H Q →
  subscripted slice false v u=operate [v,u] (getItem v u)→wpAny (model X.prog X.w) X.A (subscriptTail value slice v u) (EP X pins σ Q) X.xe s
def MtR(X:Cx)(id:String)(r:V→List V→Hp→VK→Prop):Prop :=
 ∀(pins:List (Addr × Obj)) (s:Shared) (σ:St) (H:Hp) (x:V) (xs:List V) (v:Value) (us:List Value) (Q:VK),Inv X pins σ H s→o7 x v→j8 xs us→r x xs H Q →
  wpAny (model X.prog X.w) X.A (call (.builtin id) (v :: us)) (EP X pins σ Q) X.xe s
section
variable {X:Cx} {a b:Expr} {ta tb:TE} {pos:Pos}
theorem IxR.or{r r':R2}(h:IxR X r)(h':IxR X r'):IxR X (fun x y H Q=>r x y H Q∨r' x y H Q):=by
 intro value slice pins s σ H x y v u Q I rx ry q hs
 rcases q with q|q
 ·exact h value slice pins s σ H x y v u Q I rx ry q hs
 ·exact h' value slice pins s σ H x y v u Q I rx ry q hs
theorem MtR.or{id:String}{r r':V→List V→Hp→VK→Prop}(h:MtR X id r)(h':MtR X id r'):MtR X id (fun x xs H Q=>r x xs H Q∨r' x xs H Q):=by
 intro pins s σ H x xs v us Q I rx rs q
 rcases q with q|q
 ·exact h pins s σ H x xs v us Q I rx rs q
 ·exact h' pins s σ H x xs v us Q I rx rs q
theorem ED{r:R2}(hr:IxR X r)(ha:PE X a ta)(hb:PE X b tb)(hs:dZ b):PE X (.Subscript a b pos) (tOp r ta tb):=by
 intro pins s σ H Q I h
 exact Subscript_ (CZ ha hb I h fun v u s2 x y H2 I2 rx ry q=>hr a b pins s2 σ H2 x y v u Q I2 rx ry q (hs _ _))
def LF(K:OR):R2:=fun x y H Q=>∃ p xs i v,x = .ref p∧y = .int i∧SqL K H p xs∧atI xs i=some v∧Q v H
def LD(K:OR):R2:=fun x y H Q=>∃ p xs i v,x = .ref p∧y = .int i∧SqT K H p xs∧atI xs i=some v∧Q v H
theorem Cy:IxR X (LF X.K):=by
 intro value slice pins s σ H x y v u Q I rx ry h hs
 obtain⟨p,xs,i,z,rfl,rfl,hq,he,q⟩:=h
 cases rx
 obtain⟨t,rfl⟩:=ry
 obtain⟨its,r,pl,hz⟩:=I.list hq
 obtain⟨j,h1,h2,h3,h4,h5⟩:=um he
 obtain⟨w,ew,rw'⟩:=r.get h2
 have hl:=r.length
 have hn:=fO
 have fin:EP X pins σ Q w s:=⟨z,H,I,rw',q⟩
 by_cases h0:0≤i
 ·have hj:i.toNat=j:=by
   rw[seqIndex_of h0 h5]at h1
   exact Option.some.inj h1
  exact item_listR pl.isList h0 (by omega) (by rw[hj];simpa using ew) fin hs
 ·have hj:(i+(its.toArray.size:Int)).toNat=j:=by
   rw[seqIndex_neg (by omega) h4]at h1
   rw[Pr,← hl]
   exact Option.some.inj h1
  exact subscriptTail_builtinR (x:=w) pl.isList.typeIs slot_list_getitem.lookup
   (wpAny_getItem_list_neg (Q:=fun r s'=>r=w∧EP X pins σ Q r s') pl.isList (by omega) (by rw[Pr]<;>omega) (by omega) (by rw[hj];simpa using ew) ⟨rfl,fin⟩) hs
theorem HF:IxR X (LD X.K):=by
 intro value slice pins s σ H x y v u Q I rx ry h hs
 obtain⟨p,xs,i,z,rfl,rfl,hq,he,q⟩:=h
 cases rx
 obtain⟨t,rfl⟩:=ry
 obtain⟨its,r,pl,hz⟩:=I.tuple hq
 obtain⟨j,h1,h2,h3,h4,h5⟩:=um he
 obtain⟨w,ew,rw'⟩:=r.get h2
 have hl:=r.length
 have hn:=fO
 have fin:EP X pins σ Q w s:=⟨z,H,I,rw',q⟩
 exact subscriptTail_builtinR (x:=w) pl.typeIs slot_tuple_getitem.lookup
  (getItem_tuple (j:=j) (Q:=fun r s'=>r=w∧EP X pins σ Q r s') pl (by omega) (by omega) (by rw[Pr,← hl];exact h1) (by simpa using ew) ⟨rfl,fin⟩) hs
theorem pS(its:List Value)(n j:Nat)(u:Value):Obj.mapSeq (·.setIfInBounds j u) { cls:=.type "list",data:=.seq its.toArray n } = { cls:=.type "list",data:=.seq (its.set j u).toArray n }:=by
 simp[Obj.mapSeq]
theorem Inv.lst{pins:List (Addr × Obj)}{σ:St}{H:Hp}{s:Shared}{p:Addr}{xs:List V}(I:Inv X pins σ H s)(h:H p=some (.lst xs)) :
  ∃(its:List Value) (n:Nat),j8 xs its∧s.heap.get? p=some { cls:=.type "list",data:=.seq its.toArray n }∧xs.length≤sizeLine:=by
 obtain⟨z,its,n,r,e⟩:=I.hok p _ h
 exact⟨its,n,r,e,z⟩
theorem Inv.lstUpd{pins:List (Addr × Obj)}{σ:St}{H:Hp}{s:Shared}{p:Addr}{xs ys:List V}{its its':List Value}{n n':Nat}{f:Obj→Obj}(I:Inv X pins σ H s)(h:H p=some (.lst xs))
  (ho:s.heap.get? p=some { cls:=.type "list",data:=.seq its.toArray n }) (hf:f { cls:=.type "list",data:=.seq its.toArray n } = { cls:=.type "list",data:=.seq its'.toArray n' }) (r:j8 ys its') (hz:ys.length≤sizeLine) (t:Nat) :
  Inv X pins σ (upd H p (.lst ys)) { s with heap:=s.heap.update p f,toks:=t }:=by
 have e:(s.heap.update p f).get? p=some { cls:=.type "list",data:=.seq its'.toArray n' }:=by
  rw[Qu f ho (by rw[hf]<;>rfl),hf]
 refine I.write (x:=p) (e:=p) (by rw[h];trivial) (.inl rfl) (fun b u hb q=>(Qs _ _ (Ne.symm hb)).trans q) ⟨_,e⟩ ?_
 exact⟨hz,its',n',r,e⟩
noncomputable def JM:V→V→V→Hp→(Hp→Prop)→Prop:=fun o i v H Q=>∃ p xs k j,o = .ref p∧i = .int k∧H p=some (.lst xs)∧ixN xs.length k=some j∧Q (upd H p (.lst (xs.set j v)))
theorem xt:Lh X JM:=by
 intro pins s σ H o i v ov iv u Q I ro ri rv h
 obtain⟨p,xs,k,j,rfl,rfl,hp,hj,q⟩:=h
 cases ro
 obtain⟨t,rfl⟩:=ri
 obtain⟨its,n,r,ho,hz⟩:=I.lst hp
 obtain⟨h1,h2,h3,h4⟩:=tH hj
 have hl:=r.length
 have hn:=fO
 have I':Inv X pins σ (upd H p (.lst (xs.set j v))) { s with heap:=s.heap.update p (Obj.mapSeq (·.setIfInBounds j u)) } :=
  I.lstUpd hp ho (pS its n j u) (r.set rv j) (by rw[List.length_set];exact hz) s.toks
 by_cases h0:0≤k
 ·have hk:k.toNat=j:=by
   rw[seqIndex_of h0 h4]at h1
   exact Option.some.inj h1
  exact PySem.W.ki_setAt ho h0 (by omega) (by rw[Pr,← hl];exact h4) (by rw[hk];exact⟨_,I',q⟩)
 ·have hk:(k+(its.toArray.size:Int)).toNat=j:=by
   rw[seqIndex_neg (by omega) h3]at h1
   rw[Pr,← hl]
   exact Option.some.inj h1
  exact PySem.W.ki_setBack ho (by omega) (by rw[Pr,← hl];exact h3) (by omega) (by rw[hk];exact⟨_,I',q⟩)
theorem jE(lo hi:Option Int)(n:Nat):(sliceBounds lo hi none n).1=((HT.sIx n 0 lo:Nat):Int)∧(sliceBounds lo hi none n).2.1=((HT.sIx n n hi:Nat):Int)∧(sliceBounds lo hi none n).2.2=1:=by
 refine⟨?_,?_,rfl⟩
 ·cases lo with
  | none=>simp[sliceBounds,HT.sIx]
  | some i =>
   simp only[sliceBounds,HT.sIx,Su,show(1:Int) > 0 by decide,if_true]
   by_cases h:i<0
   ·simp only[h,if_true]<;>omega
   ·simp only[h,if_false]<;>omega
 ·cases hi with
  | none=>simp[sliceBounds,HT.sIx]
  | some i =>
   simp only[sliceBounds,HT.sIx,Su,show(1:Int) > 0 by decide,if_true]
   by_cases h:i<0
   ·simp only[h,if_true]<;>omega
   ·simp only[h,if_false]<;>omega
theorem gm(its:List Value)(lo hi:Option Int):slicePick its.toArray lo hi none=((its.drop (HT.sIx its.length 0 lo)).take (HT.sIx its.length its.length hi - HT.sIx its.length 0 lo)).toArray:=by
 obtain⟨h1,h2,h3⟩:=jE lo hi its.toArray.size
 unfold slicePick
 rw[h1,h2,h3]
 simp only[sliceRange_one,pick_run,Pr]<;>rfl
noncomputable def LC(K:OR):V→Option Int→Option Int→Hp→VK→Prop:=fun x lo hi H Q=>∃ a xs,x = .ref a∧SqL K H a xs∧∀ p,H p=none→Q (.ref p) (upd H p (.lst (nS xs lo hi)))
theorem Bs:SlR X (LC X.K):=by
 intro pins s σ H x v vl vu lo hi sl Q I rx hs pl pu h
 obtain⟨a,xs,rfl,hx,q⟩:=h
 cases rx
 obtain⟨its,r,ht,hz⟩:=I.list hx
 have hlen:=r.length
 refine⟨"list",_,slot_list_getitem.lookup,ht.isList.typeIs,?_⟩
 refine wpAny_getItem_list_slice ht.isList hs pl pu .none (by simp) ?_ (by rw[Pr]<;>omega)
 rw[gm,← hlen]
 refine⟨.ref s.heap.objs.size,_,I.laid (t':=s.toks) (o:=.lst (nS xs lo hi)) (fun b ob q=>OT _ q) (Pe _) ?_,rfl,q _ (I.hok.fresh (Pe _))⟩
 exact⟨Pa (cM xs lo hi) hz,_,0,(r.drop (HT.sIx xs.length 0 lo)).take (HT.sIx xs.length xs.length hi - HT.sIx xs.length 0 lo),Pd _ rfl⟩
noncomputable def Y8:V→Bool
 | .non=>true
 | .bl _=>true
 | .int _=>true
 | .str _=>true
 | _=>false
noncomputable def eqV:V→V→Bool
 | .non,.non=>true
 | .bl a,.bl b=>a == b
 | .bl a,.int b=>(if a then 1 else 0) == b
 | .int a,.bl b=>a == (if b then 1 else 0)
 | .int a,.int b=>a == b
 | .str a,.str b=>a == b
 | _,_=>false
theorem HR{A:Around}{s:Shared}{y x:V}{u v:Value}(ry:o7 y u)(rx:o7 x v)(fy:Y8 y=true)(fx:Y8 x=true):SeqAt.EqAt A s u v (eqV y x):=by
 cases y with
 | non =>
  cases ry
  cases x with
  | non=>cases rx;exact SeqAt.EqAt.same _
  | bl b=>cases rx;exact SeqAt.EqAt.none_bool b
  | int b=>obtain⟨t,rfl⟩:=rx;exact SeqAt.EqAt.none_int b t
  | str b=>obtain⟨t,rfl⟩:=rx;exact SeqAt.EqAt.none_str b t
  | _=>exact absurd (show false=true from fx) Pk
 | bl a =>
  cases ry
  cases x with
  | non=>cases rx;exact SeqAt.EqAt.bool_none a
  | bl b=>cases rx;exact SeqAt.EqAt.bool_bool a b
  | int b=>obtain⟨t,rfl⟩:=rx;exact SeqAt.EqAt.bool_int a b t
  | str b=>obtain⟨t,rfl⟩:=rx;exact SeqAt.EqAt.bool_str a b t
  | _=>exact absurd (show false=true from fx) Pk
 | int a =>
  obtain⟨t',rfl⟩:=ry
  cases x with
  | non=>cases rx;exact SeqAt.EqAt.int_none a t'
  | bl b=>cases rx;exact SeqAt.EqAt.int_bool a t' b
  | int b=>obtain⟨t,rfl⟩:=rx;exact SeqAt.EqAt.int_int a t' b t
  | str b=>obtain⟨t,rfl⟩:=rx;exact SeqAt.EqAt.int_str a t' b t
  | _=>exact absurd (show false=true from fx) Pk
 | str a =>
  obtain⟨t',rfl⟩:=ry
  cases x with
  | non=>cases rx;exact SeqAt.EqAt.str_none a t'
  | bl b=>cases rx;exact SeqAt.EqAt.str_bool a t' b
  | int b=>obtain⟨t,rfl⟩:=rx;exact SeqAt.EqAt.str_int a t' b t
  | str b=>obtain⟨t,rfl⟩:=rx;exact SeqAt.EqAt.str_str a t' b t
  | _=>exact absurd (show false=true from fx) Pk
 | _=>exact absurd (show false=true from fy) Pk
noncomputable def eqU(x:V)(u:Value):Bool:=match u with
 | .none=>eqV .non x
 | .bool b=>eqV (.bl b) x
 | .int i _=>eqV (.int i) x
 | .str z _=>eqV (.str z) x
 | _=>false
theorem zm{x y:V}{u:Value}(r:o7 y u)(f:Y8 y=true):eqU x u=eqV y x:=by
 cases y with
 | non=>cases r;rfl
 | bl b=>cases r;rfl
 | int i=>obtain⟨t,rfl⟩:=r;rfl
 | str z=>obtain⟨t,rfl⟩:=r;rfl
 | _=>exact absurd (show false=true from f) Pk
theorem bq{x:V}:∀{xs:List V} {us:List Value},j8 xs us→xs.all Y8=true→us.any (eqU x)=xs.any fun y=>eqV y x
 | _,_,.nil,_=>rfl
 | y :: xs,u :: us,.cons r t,f=>by
  rw[Ru,PL]at f
  rw[Sd,Sd,zm r f.1,bq t f.2]
theorem V0{A:Around}{s:Shared}{x:V}{v:Value}(rx:o7 x v)(fx:Y8 x=true):∀{xs:List V} {us:List Value},j8 xs us→xs.all Y8=true→∀ u∈us,SeqAt.EqAt A s u v (eqU x u)
 | _,_,.nil,_=>fun u hu=>by cases hu
 | y :: xs,u :: us,.cons r t,f=>fun u' hu=>by
  rw[Ru,PL]at f
  rcases Pb.mp hu with rfl|hu
  ·rw[zm r f.1];exact HR r rx f.1 fx
  ·exact V0 rx fx t f.2 u' hu
noncomputable def inV(x:V)(xs:List V):Bool:=xs.any fun y=>eqV y x
def rIn(K:OR)(neg:Bool):R2:=fun x y H Q=>∃ p xs,y = .ref p∧(SqL K H p xs∨SqT K H p xs)∧Y8 x=true∧xs.all Y8=true∧Q (.bl (if neg then !inV x xs else inV x xs)) H
theorem uL:OpR X (compareOp .In) (rIn X.K false):=by
 intro pins s σ H x y v u Q I rx ry h
 obtain⟨p,xs,rfl,hq,fx,fs,q⟩:=h
 cases ry
 rcases hq with hq|hq
 ·obtain⟨its,r,pl,hz⟩:=I.list hq
  refine SeqAt.in_listAt (eqU x) pl.isList (fun w hw=>V0 rx fx r fs w (by simpa using hw)) ⟨.bl _,H,I,rfl,?_⟩
  rw[show its.toArray.any (eqU x)=its.any (eqU x)by simp,bq r fs]
  exact q
 ·obtain⟨its,r,pl,hz⟩:=I.tuple hq
  refine SeqAt.in_tupleAt (eqU x) pl (fun w hw=>V0 rx fx r fs w (by simpa using hw)) ⟨.bl _,H,I,rfl,?_⟩
  rw[show its.toArray.any (eqU x)=its.any (eqU x)by simp,bq r fs]
  exact q
theorem ku:OpR X (compareOp .NotIn) (rIn X.K true):=by
 intro pins s σ H x y v u Q I rx ry h
 obtain⟨p,xs,rfl,hq,fx,fs,q⟩:=h
 cases ry
 rcases hq with hq|hq
 ·obtain⟨its,r,pl,hz⟩:=I.list hq
  refine SeqAt.notIn_listAt (eqU x) pl.isList (fun w hw=>V0 rx fx r fs w (by simpa using hw)) ⟨.bl _,H,I,rfl,?_⟩
  rw[show its.toArray.any (eqU x)=its.any (eqU x)by simp,bq r fs]
  exact q
 ·obtain⟨its,r,pl,hz⟩:=I.tuple hq
  refine SeqAt.notIn_tupleAt (eqU x) pl (fun w hw=>V0 rx fx r fs w (by simpa using hw)) ⟨.bl _,H,I,rfl,?_⟩
  rw[show its.toArray.any (eqU x)=its.any (eqU x)by simp,bq r fs]
  exact q
theorem kW:A3 X (.builtin "len") (fun xs H Q=>∃ p ys,xs=[.ref p]∧(SqL X.K H p ys∨SqT X.K H p ys)∧Q (.int ys.length) H):=by
 intro pins s σ H xs us Q I r h
 obtain⟨p,ys,rfl,hq,q⟩:=h
 obtain⟨u,rfl,rx⟩:=S5 r
 cases rx
 have hn:=fO
 rcases hq with hq|hq
 ·obtain⟨its,r',pl,hz⟩:=I.list hq
  have hlen:=r'.length
  exact Calls.call_len_list pl.isList (by simp only[Pr]<;>omega) ⟨.int ys.length,H,I.tok _,⟨s.toks+1,by rw[Pr,hlen]⟩,q⟩
 ·obtain⟨its,r',pl,hz⟩:=I.tuple hq
  have hlen:=r'.length
  exact len_tuple pl (by simp only[Pr]<;>omega) ⟨.int ys.length,H,I.tok _,⟨s.toks+1,by rw[Pr,hlen]⟩,q⟩
theorem kU:A3 X (.builtin "len") (fun xs H Q=>∃ z,xs=[.str z]∧z.length≤sizeLine∧Q (.int z.length) H):=by
 intro pins s σ H xs us Q I r h
 obtain⟨z,rfl,hz,q⟩:=h
 obtain⟨u,rfl,t,rfl⟩:=S5 r
 have hn:=fO
 exact len_str (by omega) ⟨.int z.length,H,I.tok _,⟨_,rfl⟩,q⟩
theorem A3.or{f:Value}{r r':List V→Hp→VK→Prop}(h:A3 X f r)(h':A3 X f r'):A3 X f (fun xs H Q=>r xs H Q∨r' xs H Q):=by
 intro pins s σ H xs us Q I rs q
 rcases q with q|q
 ·exact h pins s σ H xs us Q I rs q
 ·exact h' pins s σ H xs us Q I rs q
def tyV(K:OR)(T:String)(x:V)(H:Hp):Prop:=match x with
 | .str _=>T = "str"
 | .int _=>T = "int"
 | .ref p=>(T = "list" ∧ ∃ xs,SqL K H p xs)∨(T = "tuple" ∧ ∃ o,K.lookup p=some o∧o.cls = .type "tuple" ∧ o.dict=none) ∨
   (T = "dict" ∧ ((∃ kvs,H p=some (.dK kvs)) ∨ ∃ kvs,H p=some (.dT kvs)))∨(T = "set" ∧ ∃ S n,H p=some (.set S n))
 | _=>False
theorem FQ{pins:List (Addr × Obj)}{σ:St}{H:Hp}{s:Shared}{T:String}{x:V}{v:Value}(I:Inv X pins σ H s)(r:o7 x v)(ty:tyV X.K T x H) :
  s.TypeIs v T∧∀ a,v = .ref a→∃ ob,s.heap.get? a=some ob∧ob.dict=none:=by
 cases x with
 | str z =>
  obtain⟨t,rfl⟩:=r
  cases(show T = "str" from ty)
  exact⟨typeIs_str s z t,fun _ e=>nomatch e⟩
 | int i =>
  obtain⟨t,rfl⟩:=r
  cases(show T = "int" from ty)
  exact⟨typeIs_int s i t,fun _ e=>nomatch e⟩
 | ref p =>
  cases r
  rcases ty with⟨rfl,xs,hq⟩|⟨rfl,o,hk,hc,hd⟩|⟨rfl,hk⟩|⟨rfl,S,n,hk⟩
  ·obtain⟨its,_,pl,_⟩:=I.list hq
   refine⟨pl.isList.typeIs,fun a e=>?_⟩
   cases e
   obtain⟨o,n,e,c,hd,_⟩:=pl
   exact⟨o,e,hd⟩
  ·refine⟨⟨o,I.kIn p o hk,hc⟩,fun a e=>?_⟩
   cases e
   exact⟨o,I.kIn _ o hk,hd⟩
  ·have z:∃ o,s.heap.get? p=some o∧o.ExactDict:=by
    rcases hk with⟨kvs,hk⟩|⟨kvs,hk⟩
    ·obtain⟨_,_,_,_,o,_,_,e,ex,_⟩:=I.hok p _ hk
     exact⟨o,e,ex⟩
    ·obtain⟨_,_,_,_,o,_,_,e,ex,_⟩:=I.hok p _ hk
     exact⟨o,e,ex⟩
   obtain⟨o,e,ex⟩:=z
   refine⟨⟨o,e,ex.1⟩,fun a e2=>?_⟩
   cases e2
   exact⟨o,e,ex.2.1⟩
  ·obtain⟨o,_,_,_,e,ex,_⟩:=I.hok p _ hk
   refine⟨⟨o,e,ex.1⟩,fun a e2=>?_⟩
   cases e2
   exact⟨o,e,ex.2.1⟩
 | _=>exact False.elim ty
def tBM(K:OR)(T:String)(r:V→List V→Hp→VK→Prop)(to:TE)(t:TA):TE:=fun σ H Q=>to σ H fun x H1=>tyV K T x H1∧t σ H1 fun xs H2=>r x xs H2 Q
variable {o e:Expr} {es:List Expr} {to:TE} {t:TA} {name:Str} {apos cpos:Pos} {T id:String} {r:V→List V→Hp→VK→Prop}
theorem mV(pa:PlainAttrs T)(slot:Slot T name id)(hty:typeOf (.builtin id)=pure (.type "method_descriptor"))(hm:MtR X id r)(ho:PE X o to)(ha:PA X (e :: es) t)
  (hbase:attributeBase o name X.env (eval o X.env)=eval o X.env:=by rfl)
  (hfew:((backTo cpos (starEach (e :: es) X.env)).all (fun x=>!x.1) && (backToKw cpos (keywordEach [] X.env)).all (fun x=>x.1.isSome)
   && decide ((e :: es).length+([]:List Keyword).length+(if ([]:List Keyword).isEmpty then 0 else 1)<30))=true:=by rfl)
  (hline:(apos.endLine == cpos.line)=true:=by rfl) (hs:starEach (e :: es) X.env=(false,eval e X.env) :: starEach es X.env:=by rfl) (hplain:(backTo cpos (starEach es X.env)).any (·.1)=false:=by rfl) :
  PE X (.Call (.Attribute o name apos) (e :: es) [] cpos) (tBM X.K T r to t):=by
 intro pins s σ H Q I h
 refine wpAny_Call_method_late hbase hfew hline rfl (thn (ho pins s σ H _ I h) fun v s1 zz=>?_)
 obtain⟨x,H1,I1,r1,ty,q1⟩:=zz
 obtain⟨h1,h2⟩:=FQ I1 r1 ty
 refine⟨T,id,pa,slot,hty,h1,h2,?_⟩
 have hA:=ha cpos pins s1 σ H1 _ I1 q1
 rw[hs]at hA ⊢
 refine Calls.callWith_builtin (by show(false || (backTo cpos (starEach es X.env)).any (·.1))=false;rw[hplain]<;>rfl) (Calls.evalArgs_plain ?_)
 exact thn hA fun us s2 ⟨vs,H2,I2,r2,q2⟩=>hm pins s2 σ H2 x vs v us Q I2 r1 r2 q2
end
def MtM(X:Cx)(id:String)(r:V→List V→Hp→VK→Prop):Prop :=
 ∀(pins:List (Addr × Obj)) (s:Shared) (σ:St) (H:Hp) (x:V) (xs:List V) (v:Value) (us:List Value) (Q:VK),Inv X pins σ H s→o7 x v→j8 xs us→r x xs H Q →
  wpAny (model X.prog X.w) X.A (call (.builtin id) (v :: us)) (EP X pins σ Q) X.xe s
theorem j8.one{x:V}{us:List Value}(h:j8 [x] us):∃ u,us=[u]∧o7 x u:=by
 cases h with|cons r t=>cases t;exact⟨_,rfl,r⟩
theorem j8.two{x y:V}{us:List Value}(h:j8 [x,y] us):∃ u v,us=[u,v]∧o7 x u∧o7 y v:=by
 cases h with|cons r t=>cases t with|cons q t2=>cases t2;exact⟨_,_,rfl,r,q⟩
theorem j8.zero:∀{us:List Value},j8 [] us→us=[]
 | _,.nil=>rfl
theorem j8.reverse{xs:List V}{us:List Value}(h:j8 xs us):j8 xs.reverse us.reverse:=by
 induction h with
 | nil=>exact .nil
 | cons r t ih=>rw[QM,QM];exact j8.append ih (.cons r .nil)
section
variable {X:Cx} {pins:List (Addr × Obj)} {σ:St} {H:Hp} {s:Shared} {l b:Addr} {xs ys zs:List V}
theorem Inv.lset{its its':List Value}{n:Nat}{f:Array Value→Array Value}{t':Nat}(I:Inv X pins σ H s)(hH:H l=some (.lst xs))
  (e:s.heap.get? l=some { cls:=.type "list",data:=.seq its.toArray n }) (hf:f its.toArray=its'.toArray) (hv:j8 ys its') (hz:ys.length≤sizeLine) :
  Inv X pins σ (upd H l (.lst ys)) { s with heap:=s.heap.update l (Obj.mapSeq f),toks:=t' }:=by
 have q:=PySem.IsL.update e f
 rw[hf]at q
 refine I.write (x:=l) (e:=l) (by rw[hH];exact trivial) (.inl rfl) (fun b' u hb hu=>(Qs s.heap (Obj.mapSeq f) (Ne.symm hb)).trans hu) ⟨_,q⟩ ?_
 exact⟨hz,its',_,hv,q⟩
theorem Inv.lnew{its:List Value}{t':Nat}(I:Inv X pins σ H s)(hv:j8 ys its)(hz:ys.length≤sizeLine) :
  Inv X pins σ (upd H s.heap.objs.size (.lst ys)) { s with heap:=s.heap.push { cls:=.type "list",data:=.seq its.toArray },toks:=t' } :=
 I.laid (fun _ _ q=>OT _ q) (Pe _) ⟨hz,its,0,hv,Pd _ rfl⟩
theorem Inv.fresh(I:Inv X pins σ H s):H s.heap.objs.size=none:=I.hok.fresh (Pe _)
theorem Inv.lstM(I:Inv X pins σ H s)(hH:H l=some (.lst xs)):xs.length≤sizeLine∧∃(its:List Value) (n:Nat),j8 xs its∧xs.length=its.length∧s.heap.get? l=some { cls:=.type "list",data:=.seq its.toArray n }:=by
 obtain⟨z,its,n,r,e⟩:=I.hok l _ hH
 exact⟨z,its,n,r,r.length,e⟩
end
section
variable {X:Cx}
noncomputable def sP:V→List V→Hp→VK→Prop:=fun x vs H Q=>∃ l xs y,x = .ref l∧vs=[y]∧H l=some (.lst xs)∧xs.length<sizeLine∧Q .non (upd H l (.lst (xs++[y])))
theorem bY:MtM X "list.append" sP:=by
 intro pins s σ H x vs v us Q I rx rv h
 obtain⟨l,xs,y,rfl,rfl,hH,hz,q⟩:=h
 cases rx
 obtain⟨u,rfl,ru⟩:=rv.one
 obtain⟨z,its,n,r,hl,e⟩:=I.lstM hH
 refine call_meets F.slot_list_append ⟨_,e,rfl⟩ F.entry_list_append (F.args_list_append_2 _ _) (PySem.list_append l its.toArray n u (by rw[Pr];omega)) ⟨e,?_⟩
 refine⟨.non,_,I.lset (its':=its++[u]) hH e (by simp) (r.append (.cons ru .nil)) ?_,rfl,q⟩
 rw[Pl,List.length_singleton]
 omega
end
section
variable {prog:Program} {w:World} {A:Around} {E:Value→Shared→Prop} {s:Shared}
end
section
variable {X:Cx}
end
end L2
namespace Att
open PySem PySem.W PySem.Calls PyProof.Rows
theorem cW{P:Params}{h:Heap}:∀(ns:List Int) (vs:List Value),WellAll P h vs (ns.map WData.int)→IntsAre vs ns:=by
 intro ns
 induction ns with
 | nil =>
  intro vs w
  rw[List.map_nil]at w
  cases w
  exact .nil
 | cons n ns ih =>
  intro vs w
  rw[Po]at w
  cases w with
  | cons a b =>
   cases a
   exact .cons _ _ (ih _ b)
theorem uA{l:OpenLaw}{n:Nat}(hn:l.most=some n){P:Params}{h:Heap}{args:List WData}{vals:List Value}
  (hpre:l.row.toRowW.claim.pre args=true) (hwl:WellAll P h vals args) :
  ∃ a vs ns,vals=[Value.ref a]∧args=[WData.list (ns.map WData.int)]∧h.get? a=some { cls:=.type "list",data:=.seq vs.toArray }∧IntsAre vs ns∧ns.length≤n:=by
 have hsh:WShape.hasAll [] args [.list .int]=true:=(pre_splitW hpre).1
 have hc:l.pre.holds [] { args:=args } = true:=(pre_splitW hpre).2
 obtain⟨d,r,rfl,h1,h2⟩:=hasAllW_cons hsh
 obtain rfl:=hasAllW_nil h2
 obtain⟨xs,rfl,h3⟩:=hasW_list h1
 obtain⟨ns,rfl⟩:=items_int h3
 have hlen:ns.length≤n:=by
  unfold OpenLaw.pre at hc
  have h4:(WTm.not (.lt (.lit (.int (n:Int))) (.len (.arg 0)))).holds [] { args:=[.list (ns.map .int)] } = true:=by
   have h4:=(holds_andW hc).1
   rw[hn]at h4
   exact h4
  have h5:=condW_of h4 (w_not (w_lt w_lit (w_len_list (w_arg rfl))))
  rw[OU]at h5
  refine Nat.le_of_not_lt fun q=>?_
  have q':(n:Int)<((ns.length:Nat):Int):=by omega
  first
   | (rw[decide_eq_true q']at h5;exact absurd h5 (by decide))
   | (simp at h5;omega)
 cases hwl with
 | cons w1 w2 =>
  cases w2
  cases w1 with
  | list ho hall=>exact⟨_,_,ns,rfl,rfl,ho,cW ns _ hall,hlen⟩
theorem uI(l:OpenLaw)(args:List WData):l.row.toRowW.claim.post args (.bool true) args=true :=
 postW_of (r:=l.row.toRowW) (X:=(true == true))
  (show WShape.has [] (.bool true) .bool=true by first|rfl|decide|simp[WShape.has,WShape.arms,WShape.armsAll])
  (show(WTm.eq .res (.lit (.bool true))).value [] { args:=args,res:=some (.bool true),after:=args } = some (.bool (true == true))from w_eq_bool (w_res rfl) w_lit) rfl
theorem om{l:OpenLaw}{n:Nat}{q:Program}{loose:List Str}{XP:(Str→Option Value)→Heap→Prop}{YP:World→Heap→Prop}{d:DefRec}
  (hn:l.most=some n) (hdf:d.params.defaults=[])
  (call:∀(w:World) (s₀ s₁:Shared) (mg mb:Str→Option Value) (fa:Addr) (o:Obj) (pm cd doc:Value) (a:Addr) (vs:List Value) (ns:List Int),
   Ground q loose [] XP w s₀ mg mb s₁.heap→YP w s₁.heap →
   s₁.heap.get? fa=some o→o.data = .func (docDef d.name d.params d.body d.scope pm cd doc)→s₁.heap.CodeRec cd d.name→mg d.name=some (.ref fa) →
   s₁.heap.get? a=some { cls:=.type "list",data:=.seq vs.toArray }→IntsAre vs ns→ns.length≤n→s₁.gens = #[] →
   codeAny (model l.prog w) callerA (.call (.ref fa) ⟨[.ref a],[]⟩) (fun r s'=>r = .ok (.ret (.bool true))∧OldK s₁.heap s'.heap∧s'.os=s₁.os∧AllBare s'.gens) s₁) :
  WalkO q loose XP YP l.row.toRowW d [] (fun f vs=>PySem.call f vs):=by
 intro w s₀ s₁ mg mb G Y fa o pm cd doc dV kV ho hd hcd hD hmg hg args vals as hpre hlay hrd hwl hlo
 obtain rfl:dV = .none:=Dflts.none hD hdf
 obtain rfl:kV = .none:=Dflts.noKw hD
 obtain⟨a,vs,ns,rfl,rfl,hobj,hints,hlen⟩:=uA hn hpre hwl
 refine enter_call (codeAny_mono (call w s₀ s₁ mg mb fa o pm cd doc a vs ns G Y ho (fd_plain hd) hcd hmg hobj hints hlen hg) fun r s' hq=>?_)
 obtain⟨rfl,h2,h3,h4⟩:=hq
 exact⟨.inl ⟨.bool true,.bool true,[],rfl,fun _=>rfl,.bool true,uI l _,fun _=>⟨List.Pairwise.nil,fun _ hm=>(nomatch hm)⟩⟩,h2,h3,h4⟩
section
variable {prog:Program} {w:World} {A:Around} {E:Value→Shared→Prop} {s:Shared} {K:Frag}
end
end Att
namespace L2
open PySem PySem.Spec PyProof.Rows
theorem iU:∀{vs:List Value} {ns:List Int},IntsAre vs ns→j8 (ns.map V.int) vs
 | _,_,.nil=>.nil
 | _,_,.cons n t h=>.cons ⟨t,rfl⟩ (iU h)
def vp(H:Hp):Prop:=∀ b,H b=none ∨ ∃ o xs,H b=some (.frz o (.lst xs))
theorem yE{P:Program}{w:World}{K:OR}{mg mb:Str→Option Value}{CX:CXT}{k:Nat}{fa a:Addr}{fd:FuncData}{x:Str}{sp:Sp}{s₁:Shared}{vs:List Value}{ns:List Int}
  (KX:K.In s₁.heap) (hns:s₁.heap.Ns mainGlobals mg) (hb:s₁.heap.Ns builtinsNs mb) (hbb:∀ x:Str,x ≠ "__name__" → mb x=bootBuiltins x) (hlim:s₁.heap.NoLimit) (hg:s₁.gens = #[])
  (ha:s₁.heap.get? a=some { cls:=.type "list",data:=.seq vs.toArray }) (hi:IntsAre vs ns) (hl:ns.length≤sizeLine) (hr:B6 k callerA)
  (F:∀ base:Heap,K.In base→base.Ns mainGlobals mg→K5 P w K mg base CX k fa fd [x] sp) (hbind:∀(s:Shared) (u:Value),BindsTo s fd ⟨[u],[]⟩ [(x,u)])
  (hsp:∀ H:Hp,vp H→SqL K H a (ns.map V.int)→sp [.ref a] H (fun v _=>v = .bl true) fun _ _ _=>False)
  (hCX:∀ H e s',CX [] H s₁ (fun _ _ _=>False) e s'→False) :
  codeAny (model P w) callerA (.call (.ref fa) ⟨[.ref a],[]⟩) (fun r s'=>r = .ok (.ret (.bool true))∧OldK s₁.heap s'.heap∧s'.os=s₁.os∧AllBare s'.gens) s₁:=by
 have rv:=iU hi
 have lenV:=hi.length
 have core:∀ H:Hp,vp H→SqL K H a (ns.map V.int)→HOk P w H s₁.heap→(∀ b,H b≠none→b=a)→(H a≠none→K.lookup a=none) →
   codeAny (model P w) callerA (.call (.ref fa) ⟨[.ref a],[]⟩) (fun r s'=>r = .ok (.ret (.bool true))∧OldK s₁.heap s'.heap∧s'.os=s₁.os∧AllBare s'.gens) s₁:=by
  intro H hO hS hok hA hK
  have base_of:∀{b:Addr} {o:Obj},s₁.heap.get? b=some o→H b=none→(kM s₁.heap H).get? b=some o:=fun e n=>yR e n
  have noA:∀{b:Addr} {o:Obj} {es:Array DictEntry} {ep:Nat},s₁.heap.get? b=some o→o.data = .dict es ep→H b=none:=fun{b o es ep} e d=>by
   cases q:H b with
   | none=>rfl
   | some u =>
    have e':b=a:=hA b (by rw[q];simp)
    subst e'
    rw[ha]at e;cases e
    have d':Data.seq vs.toArray _=Data.dict es ep:=d
    cases d'
  have nsK:∀{b:Addr} {m:Str→Option Value},s₁.heap.Ns b m→(kM s₁.heap H).Ns b m:=fun{b m} ⟨o,es,ep,e,d,r⟩=>⟨o,es,ep,base_of e (noA e d),d,r⟩
  have hKb:K.In (kM s₁.heap H):=fun b o e=>base_of (KX b o e) (by
   cases q:H b with
   | none=>rfl
   | some u =>
    have e':b=a:=hA b (by rw[q];simp)
    subst e'
    rw[hK (by rw[q];simp)]at e;cases e)
  have hM:Mod K mg (kM s₁.heap H):=⟨hKb,nsK hns,⟨mb,nsK hb,hbb⟩,let ⟨mc,h1,h2⟩:=hlim;⟨mc,nsK h1,h2⟩⟩
  have e0:ig P w K mg (kM s₁.heap H) callerA [] s₁ H:=⟨rfl,hM,fun b o e=>Ck e,QO (uV _ _),trivial,fun b hb=>absurd (show b∈([]:List Addr)from hb) (by simp),hok,.of_eq hg⟩
  refine codeAny_mono ((F _ hKb (nsK hns)).run callerA [] s₁ H ⟨[.ref a],[]⟩ [.ref a] [.ref a] _ _ hr e0 (hbind s₁ (.ref a)) (.cons rfl .nil) (hsp H hO hS)) fun r s' h=>?_
  cases r with
  | error e=>exact(hCX H e s' h).elim
  | ok fl =>
   cases fl with
   | next=>exact False.elim h
   | brk=>exact False.elim h
   | cont=>exact False.elim h
   | ret u =>
    obtain⟨v,H',os,bare,un,hok',r',q⟩:=h
    have q':v = .bl true:=q
    subst q'
    obtain rfl:u=Value.bool true:=r'
    refine⟨rfl,OldK.of_keep fun b o e=>?_,os,bare⟩
    cases q:H b with
    | none=>exact un.keep b o e q (by intro z;exact absurd (show b∈([]:List Addr)from z) (by simp)) (by simp)
    | some u =>
     rcases hO b with z|⟨ob,xs,z⟩
     ·rw[q]at z;cases z
     ·have z2:=un.frzs b ob _ z
      obtain⟨e1,_⟩:=hok b _ z
      obtain⟨e2,_⟩:=hok' b _ z2
      rw[e]at e1;cases e1
      exact e2
 cases hk:K.lookup a with
 | some o =>
  have e:=KX a o hk
  rw[ha]at e
  cases e
  refine core (fun _=>none) (fun _=>.inl rfl) (.inr ⟨_,vs.toArray,_,hk,rfl,rfl,rfl,by rw[Pr,lenV];exact hl,by simpa using rv⟩) (fun b u z=>by have z':(none:Option HO)=some u:=z;cases z') (fun b z=>absurd rfl z) fun z=>absurd rfl z
 | none =>
  refine core (fun b=>if b=a then some (.frz { cls:=.type "list",data:=.seq vs.toArray } (.lst (ns.map V.int)))else none) (fun b=>?_) (.inl (.inr ⟨{ cls:=.type "list",data:=.seq vs.toArray },if_pos rfl⟩)) (fun b u z=>?_) (fun b z=>?_) fun _=>hk
  ·by_cases hb:b=a
   ·exact .inr ⟨_,_,if_pos hb⟩
   ·exact .inl (if_neg hb)
  ·by_cases hb:b=a
   ·have z':=(if_pos hb).symm.trans z
    cases z'
    subst hb
    exact⟨ha,by rw[OU];exact hl,vs,_,rv,ha⟩
   ·have z':=(if_neg hb).symm.trans z
    cases z'
  ·by_cases hb:b=a
   ·exact hb
   ·exact absurd (if_neg hb) z
theorem Bm{l:PySem.W.OpenLaw}{n k:Nat}{q:Program}{loose:List Str}{XP:(Str→Option Value)→Heap→Prop}{YP:World→Heap→Prop}{d:DefRec}{K:Params→OR}{CX:World→CXT}{sp:World→Sp}{x:Str}
  (hn:l.most=some n) (hn2:n≤sizeLine) (hdf:d.params.defaults=[]) (hr:B6 k callerA)
  (hY:∀(w:World) (h:Heap),YP w h→(K w.params).In h)
  (F:∀(w:World) (mg:Str→Option Value) (fa:Addr) (h:Heap),(K w.params).In h→h.Ns mainGlobals mg→mg d.name=some (.ref fa) →
   ∃ fd:FuncData,(∀(s:Shared) (u:Value),BindsTo s fd ⟨[u],[]⟩ [(x,u)]) ∧
    ∀ base:Heap,(K w.params).In base→base.Ns mainGlobals mg→K5 l.prog w (K w.params) mg base (CX w) k fa fd [x] (sp w))
  (hsp:∀(w:World) (H:Hp) (a:Addr) (ns:List Int),ns.length≤n→vp H→SqL (K w.params) H a (ns.map V.int)→sp w [.ref a] H (fun v _=>v = .bl true) fun _ _ _=>False)
  (hCX:∀(w:World) (H:Hp) (s:Shared) (e:Value) (s':Shared),CX w [] H s (fun _ _ _=>False) e s'→False) :
  PySem.W.WalkO q loose XP YP l.row.toRowW d [] (fun f vs=>PySem.call f vs):=by
 refine Att.om hn hdf fun w s₀ s₁ mg mb fa o pm cd doc a vs ns G Y ho hd hcd hmg hobj hints hlen hg=>?_
 have KX:=hY w _ Y
 obtain⟨fd,hb,hF⟩:=F w mg fa _ KX G.T.g hmg
 exact yE KX G.T.g G.T.b G.T.builtins G.T.nolimit hg hobj hints (Pa hlen hn2) hr hF hb (fun H hO hS=>hsp w H a ns hlen hO hS) fun H e s'=>hCX w H s₁ e s'
theorem xf{l:PySem.W.OpenLaw}{n k:Nat}{q:Program}{loose:List Str}{XP:(Str→Option Value)→Heap→Prop}{YP:World→Heap→Prop}{d:DefRec}{K:Params→OR}{CX:CXT}{sp:OR→Sp}{x:Str}
  (hn:l.most=some n) (hn2:n≤sizeLine) (hdf:d.params.defaults=[]) (hr:B6 k callerA)
  (hY:∀(w:World) (h:Heap),YP w h→(K w.params).In h)
  (F:∀(w:World) (mg:Str→Option Value) (fa:Addr) (h:Heap),(K w.params).In h→h.Ns mainGlobals mg→mg d.name=some (.ref fa) →
   ∃ fd:FuncData,(∀(s:Shared) (u:Value),BindsTo s fd ⟨[u],[]⟩ [(x,u)]) ∧
    ∀ base:Heap,(K w.params).In base→base.Ns mainGlobals mg→K5 l.prog w (K w.params) mg base CX k fa fd [x] (sp (K w.params)))
  (hsp:∀(K:OR) (H:Hp) (a:Addr) (ns:List Int),ns.length≤n→vp H→SqL K H a (ns.map V.int)→sp K [.ref a] H (fun v _=>v = .bl true) fun _ _ _=>False)
  (hCX:∀(H:Hp) (s:Shared) (e:Value) (s':Shared),CX [] H s (fun _ _ _=>False) e s'→False) :
  PySem.W.WalkO q loose XP YP l.row.toRowW d [] (fun f vs=>PySem.call f vs) :=
 Bm (K:=K) (CX:=fun _=>CX) (sp:=fun w=>sp (K w.params)) hn hn2 hdf hr hY F (fun w H a ns h1 h2 h3=>hsp (K w.params) H a ns h1 h2 h3) fun _ H s e s'=>hCX H s e s'
noncomputable def tL(s:Stmt)(j:Nat):Stmt:=match s with
 | .ClassDef _ _ _ body _ _ _ _ _ _ _=>body.getD j (.Pass ⟨0,0,0,0⟩)
 | _=>.Pass ⟨0,0,0,0⟩
noncomputable def F8(s:Stmt):Arguments:=match s with
 | .FunctionDef _ a _ _ _ _ _ _ _ _=>a
 | _=>{ posonlyargs:=[],args:=[],vararg:=none,kwonlyargs:=[],kw_defaults:=[],kwarg:=none,defaults:=[] }
noncomputable def A9(s:Stmt):List Stmt:=match s with
 | .FunctionDef _ _ b _ _ _ _ _ _ _=>b
 | _=>[]
noncomputable def d7(s:Stmt):Scope:=match s with
 | .FunctionDef _ _ _ _ _ _ sc _ _ _=>sc
 | _=>{ kind:=.function,names:=[],isGenerator:=false,isCoroutine:=false }
abbrev CX0:CXT:=fun _ _ _ _ _ _=>False
abbrev E0:XK:=fun _ _ _=>False
theorem yo{X:Cx}:V8 CX0 X E0:=fun _ _ _ _ _ _ _ h=>h.elim
section
variable {P:Program} {w:World} {K:OR} {mg:Str→Option Value} {base:Heap}
end
section
variable {X:Cx}
end
theorem Kl{A B:Prop}(h:B):if false=true then A else B:=by
 rw[if_neg Pk]
 exact h
end L2
end
namespace RM
open Rat
noncomputable def bl(n:Nat):Nat:=n.log2+1
theorem bf(n:Nat):n<2 ^ bl n:=Nat.lt_log2_self
theorem V6{n k:Nat}(h:n<2 ^ k)(hk:0<k):bl n≤k:=by
 unfold bl
 rcases Se n with h0|h0
 ·subst h0;rw[Nat.log2_zero];omega
 ·have:=(RX (RY.mp h0)).mpr h
  omega
theorem Ac(n:Nat):0<bl n:=Nat.succ_pos _
theorem kY{m n:Nat}(h:m≤n):bl m≤bl n:=V6 (QF h (bf n)) (Ac n)
theorem R3(m n:Nat):bl (m*n)≤bl m+bl n:=by
 refine V6 ?_ (Nat.add_pos_left (Ac m) _)
 rw[QX]
 exact QB (bf m) (bf n)
theorem Il(m n:Nat):bl (m+n)≤max (bl m) (bl n)+1:=by
 refine V6 ?_ (Nat.succ_pos _)
 have h1:=bf m
 have h2:=bf n
 have e1:2 ^ bl m≤2 ^ max (bl m) (bl n):=Pp (by decide) (RI _ _)
 have e2:2 ^ bl n≤2 ^ max (bl m) (bl n):=Pp (by decide) (Rz _ _)
 rw[Nat.pow_succ]
 omega
noncomputable def sz(q:Rat):Nat:=max (bl q.num.natAbs) (bl q.den)
theorem L4(q:Rat):bl q.num.natAbs≤sz q:=RI _ _
theorem E2(q:Rat):bl q.den≤sz q:=Rz _ _
theorem Eu{q:Rat}{n:Nat}(h1:bl q.num.natAbs≤n)(h2:bl q.den≤n):sz q≤n:=QU.mpr ⟨h1,h2⟩
theorem Hm(a b:Int):(divInt a b).num.natAbs≤a.natAbs:=by
 rw[num_divInt]
 rcases Int.lt_trichotomy b 0 with h|h|h
 ·rw[Rg h]
  refine Pa (Ro _ _) ?_
  simp
 ·subst h;simp
 ·rw[RD h,Int.one_mul]
  exact Ro _ _
theorem HW(a b:Int)(hb:b≠0):(divInt a b).den≤b.natAbs:=by
 rw[den_divInt,if_neg hb]
 exact Nat.div_le_self _ _
theorem J4(a b:Int)(hb:b≠0):sz (divInt a b)≤max (bl a.natAbs) (bl b.natAbs) :=
 Eu (Pa (kY (Hm a b)) (RI _ _)) (Pa (kY (HW a b hb)) (Rz _ _))
theorem A8(q:Rat):(q.den:Int)≠0:=by have:=q.den_nz;omega
theorem kZ(q r:Rat):q+r=divInt (q.num*r.den+r.num*q.den) (q.den*r.den):=by
 conv=>lhs;rw[← num_divInt_den q,← num_divInt_den r]
 rw[divInt_add_divInt _ _ (A8 q) (A8 r)]
theorem pQ(q r:Rat):q*r=divInt (q.num*r.num) (q.den*r.den):=by
 conv=>lhs;rw[← num_divInt_den q,← num_divInt_den r]
 rw[divInt_mul_divInt]
theorem zt(q r:Rat):q / r=divInt (q.num*r.den) (q.den*r.num):=by
 rw[div_def]
 conv=>lhs;rw[← num_divInt_den q,← num_divInt_den r]
 rw[inv_divInt,divInt_mul_divInt]
theorem fN(a b:Int):(a+b).natAbs≤a.natAbs+b.natAbs:=Sl a b
theorem bB(q r:Rat):sz (q+r)≤sz q+sz r+1:=by
 rw[kZ]
 have hb:((q.den:Int)*(r.den:Int))≠0:=Qa (A8 q) (A8 r)
 refine Pa (J4 _ _ hb) (QU.mpr ⟨?_,?_⟩)
 ·refine Pa (kY (fN _ _)) (Pa (Il _ _) ?_)
  rw[PR,PR]
  have h1:=R3 q.num.natAbs (r.den:Int).natAbs
  have h2:=R3 r.num.natAbs (q.den:Int).natAbs
  have a1:=L4 q
  have a2:=L4 r
  have a3:=E2 q
  have a4:=E2 r
  simp only[OZ]at h1 h2 ⊢
  omega
 ·rw[PR]
  have h1:=R3 (q.den:Int).natAbs (r.den:Int).natAbs
  have a3:=E2 q
  have a4:=E2 r
  simp only[OZ]at h1 ⊢
  omega
theorem bA(q r:Rat):sz (q*r)≤sz q+sz r:=by
 rw[pQ]
 have hb:((q.den:Int)*(r.den:Int))≠0:=Qa (A8 q) (A8 r)
 refine Pa (J4 _ _ hb) (QU.mpr ⟨?_,?_⟩)
 ·rw[PR]
  have h1:=R3 q.num.natAbs r.num.natAbs
  have a1:=L4 q
  have a2:=L4 r
  omega
 ·rw[PR]
  have h1:=R3 (q.den:Int).natAbs (r.den:Int).natAbs
  have a3:=E2 q
  have a4:=E2 r
  simp only[OZ]at h1 ⊢
  omega
theorem E1(q:Rat):sz (-q)=sz q:=by
 unfold sz
 rw[Rv,Rw,PZ]
theorem eQ(q r:Rat):sz (q - r)≤sz q+sz r+1:=by
 rw[Rk]
 have:=bB q (-r)
 rw[E1]at this
 exact this
theorem eR(q r:Rat)(hr:r≠0):sz (q / r)≤sz q+sz r:=by
 rw[zt]
 have hn:r.num≠0:=fun h=>hr (RJ.mp h)
 have hb:((q.den:Int)*r.num)≠0:=Qa (A8 q) hn
 refine Pa (J4 _ _ hb) (QU.mpr ⟨?_,?_⟩)
 ·rw[PR]
  have h1:=R3 q.num.natAbs (r.den:Int).natAbs
  have a1:=L4 q
  have a4:=E2 r
  simp only[OZ]at h1 ⊢
  omega
 ·rw[PR]
  have h1:=R3 (q.den:Int).natAbs r.num.natAbs
  have a3:=E2 q
  have a2:=L4 r
  simp only[OZ]at h1 ⊢
  omega
theorem xn(q:Rat){n:Nat}(hn:0<n)(h1:q.num.natAbs<2 ^ n)(h2:q.den<2 ^ n):sz q≤n:=Eu (V6 h1 hn) (V6 h2 hn)
theorem D9:sz 0=1:=by decide
theorem L3:sz 1=1:=by decide
theorem nJ(a b:Nat)(h:b≠0):PN a b=PN b (a % b):=by
 rw[Rl,Nat.gcd_rec,Rl]
theorem Q8{a g:Int}(h:g ∣ a):a.fdiv g=a / g:=by
 obtain⟨c,rfl⟩:=h
 by_cases hg:g=0
 ·subst hg;simp
 ·rw[Int.mul_fdiv_cancel_left _ hg,Int.mul_ediv_cancel_left _ hg]
theorem Hr(a b:Int)(hb:b≠0)(share:Int)(hs:share=if b<0 then -((PN a.natAbs b.natAbs:Nat):Int)else((PN a.natAbs b.natAbs:Nat):Int)) :
  a.fdiv share=(divInt a b).num∧b.fdiv share=((divInt a b).den:Int):=by
 have hg:PN a.natAbs b.natAbs=Tb b a:=by unfold Tb;exact Rl _ _
 have da:((Tb b a:Nat):Int) ∣ a:=Int.gcd_dvd_right b a
 have db:((Tb b a:Nat):Int) ∣ b:=Int.gcd_dvd_left b a
 rw[hg]at hs
 rw[num_divInt,den_divInt,if_neg hb]
 by_cases h:b<0
 ·rw[if_pos h]at hs
  subst hs
  rw[Q8 (Int.neg_dvd.mpr da),Q8 (Int.neg_dvd.mpr db),Rg h]
  refine⟨?_,?_⟩
  ·rw[Int.ediv_neg,Int.neg_one_mul,RZ da]
  ·rw[Int.ediv_neg,← RZ db]
   have e:-b=((b.natAbs:Nat):Int):=by omega
   rw[e]
   norm_cast
 ·rw[if_neg h]at hs
  subst hs
  have hp:0<b:=by omega
  rw[Q8 da,Q8 db,RD hp,Int.one_mul]
  refine⟨rfl,?_⟩
  have e:b=((b.natAbs:Nat):Int):=by omega
  conv=>lhs;rw[e]
  norm_cast
theorem Kg(q r:Rat):decide (q.num*(r.den:Int)<r.num*(q.den:Int))=decide (q<r):=by
 by_cases h:q<r
 ·rw[decide_eq_true h,decide_eq_true ((SX q r).mp h)]
 ·rw[decide_eq_false h,decide_eq_false (fun z=>h ((SX q r).mpr z))]
end RM
namespace L2
open PySem PySem.Spec PyProof.Rows
section
variable {prog:Program} {w:World} {A:Around} {R:Result→Shared→Prop} {s:Shared}
noncomputable def sA(ifs:List Expr)(env:Env):Sem Bool:=forIn ifs true fun c r=>if r=true then do let ok ← isTrue c env (eval c env);pure (ForInStep.yield ok)else pure (ForInStep.yield r)
theorem bp{elt target iter:Expr}{ifs:List Expr}{scope:Scope}{pos:Pos}{it acc:Value}{env:Env}(I:Nat→Shared→Prop)
  (turn:∀ n s,I n s→wpAny (model prog w) A (pyNext it) (fun r s₁=>match r with
   | none=>R (.ok .next) s₁
   | some v=>wpAny (model prog w) A (letOwnedTupleGo target it v) (fun _ s₁'=>wpAny (model prog w) A (assign target env v) (fun _ s₂=>wpAny (model prog w) A (sA ifs env) (fun ok s₂'=>if ok=true then wpAny (model prog w) A (eval elt env) (fun x s₃ =>
     wpAny (model prog w) A (call (.builtin "list.append") [acc,x]) (fun _ s₄=>∃ m,m<n∧I m s₄) (notedBy (model prog w) A env fun e s'=>R (.error e) s') s₃)
     (notedBy (model prog w) A env fun e s'=>R (.error e) s') s₂' else ∃ m,m<n∧I m s₂') (notedBy (model prog w) A env fun e s'=>R (.error e) s') s₂) (notedBy (model prog w) A env fun e s'=>R (.error e) s') s₁') (notedBy (model prog w) A env fun e s'=>R (.error e) s') s₁) (notedBy (model prog w) A env fun e s'=>R (.error e) s') s)
  (n:Nat) (h:I n s) :
  codeAny (model prog w) A (.compLoop (.ListComp elt [⟨target,iter,ifs,0⟩] scope pos) 0 it acc env) R s:=by
 refine codeAny_loop rfl I (fun n s hI=>?_) n h
 show wpAny _ _ ((compTurn (.ListComp elt [⟨target,iter,ifs,0⟩] scope pos) 0 it acc env).onRaise (fun x=>do noteFrame x env;theTreesLotGoes x)) _ _ s
 refine wpAny_noted ?_
 rw[compTurn_list]
 refine OS (wpAny_standAt (OS (wpAny_mono (turn n s hI) (fun r s₁ h₁=>?_) fun _ _ h'=>h')))
 cases r with
 | none=>exact Pf h₁
 | some v =>
  refine OS (wpAny_mono h₁ (fun _ s₁' h₁'=>?_) fun _ _ h'=>h')
  refine OS (wpAny_mono h₁' (fun _ s₂ h₂=>OS (wpAny_mono h₂ (fun ok s₂' h₃=>?_) fun _ _ h'=>h')) fun _ _ h'=>h')
  cases ok with
  | true =>
   refine OS (OS (wpAny_mono h₃ (fun x s₃ h₄=>OS (wpAny_mono h₄ (fun _ s₄ h₅=>Pf (Pf ⟨rfl,h₅⟩)) fun _ _ h'=>h')) fun _ _ h'=>h'))
  | false=>exact OS (Pf (Pf ⟨rfl,h₃⟩))
end
def Y6(X:Cx)(ifs:List Expr)(t:TT):Prop :=
 ∀(pins:List (Addr × Obj)) (s:Shared) (σ:St) (H:Hp) (Q:Bool→Hp→Prop),Inv X pins σ H s→t σ H Q→wpAny (model X.prog X.w) X.A (sA ifs X.env) (TP X pins σ Q) X.xe s
def Lm:TT:=fun _ H Q=>Q true H
theorem yf{X:Cx}:Y6 X [] Lm:=fun pins s σ H Q I q=>Pf ⟨H,I,q⟩
theorem ye{X:Cx}{c:Expr}{t:TT}(h:PT X c t):Y6 X [c] t:=fun pins s σ H Q I q=>wpAny_tests_one (h pins s σ H Q I q)
noncomputable def G2(cells:List (Str × Addr)):List (Str × NameKind)→List (Str × Addr)→List (Str × Addr)
 | [],acc=>acc
 | (n,k) :: r,acc=>if k == .free then G2 cells r ((n,(cells.lookup n).getD 0) :: acc)else G2 cells r acc
theorem ar{env:Env}:∀(names:List (Str × NameKind)) (acc:List (Str × Addr)),(∀ n,(n,NameKind.free)∈names→∃ c,env.cells.lookup n=some c) →
  (forIn names acc (fun(x:Str × NameKind) (cs:List (Str × Addr))=>if (x.2 == NameKind.free)=true then(do let a ← cellOf env x.1;pure (ForInStep.yield ((x.1,a) :: cs)))else pure (ForInStep.yield cs)):Sem (List (Str × Addr)))=pure (G2 env.cells names acc)
 | [],acc,_=>rfl
 | (n,k) :: r,acc,h=>by
  rw[RK]
  unfold G2
  by_cases hk:(k == NameKind.free)=true
  ·have e:k = .free:=by cases k<;>first|rfl|(exact absurd hk (by decide))
   subst e
   obtain⟨c,hc⟩:=h n Ph
   rw[if_pos hk,if_pos hk]
   have e1:cellOf env n=pure c:=by unfold cellOf;rw[hc]
   rw[e1,pure_bind,pure_bind,hc]
   exact ar r _ fun m hm=>h m (OW _ hm)
  ·rw[if_neg hk,if_neg hk,pure_bind]
   exact ar r _ fun m hm=>h m (OW _ hm)
theorem cN{scope:Scope}{env:Env}(h:∀ n,(n,NameKind.free)∈scope.names→∃ c,env.cells.lookup n=some c):closureFor scope env=pure (G2 env.cells scope.names []):=by
 have:=ar (env:=env) scope.names [] h
 unfold closureFor
 first
  | (simp only[]at this ⊢;rw[← this];simp only[bind_pure];rfl)
  | (rw[← this];rfl)
  | (simp only[bind_pure,pure_bind];exact this)
theorem F6{cells:List (Str × Addr)}{x:Str}{c:Addr}:∀(names:List (Str × NameKind)) (acc:List (Str × Addr)),(∀ n,(n,NameKind.free)∈names→∃ c,cells.lookup n=some c)→(∀ y d,acc.lookup y=some d→cells.lookup y=some d)→(G2 cells names acc).lookup x=some c→cells.lookup x=some c
 | [],acc,_,ha,h=>ha x c h
 | (n,k) :: r,acc,hn,ha,h=>by
  unfold G2 at h
  by_cases hk:(k == NameKind.free)=true
  ·rw[if_pos hk]at h
   have e:k = .free:=by cases k<;>first|rfl|(exact absurd hk (by decide))
   subst e
   obtain⟨d,hd⟩:=hn n Ph
   refine F6 r _ (fun m hm=>hn m (OW _ hm)) (fun y e hy=>?_) h
   rw[Qq]at hy
   split at hy
   ·rename_i hz
    have hz':y=n:=by simpa using hz
    subst hz'
    rw[hd]at hy ⊢
    cases hy;rfl
   ·exact ha y e hy
  ·rw[if_neg hk]at h
   exact F6 r _ (fun m hm=>hn m (OW _ hm)) ha h
theorem J6{cells:List (Str × Addr)}{x:Str}:∀(names:List (Str × NameKind)) (acc:List (Str × Addr)),((x,NameKind.free)∈names ∨ ∃ c,acc.lookup x=some c)→∃ c,(G2 cells names acc).lookup x=some c
 | [],acc,h=>by
  rcases h with h|h
  ·cases h
  ·exact h
 | (n,k) :: r,acc,h=>by
  unfold G2
  by_cases hk:(k == NameKind.free)=true
  ·rw[if_pos hk]
   refine J6 r _ ?_
   by_cases hx:x=n
   ·right;rw[Qq];simp[hx]
   ·rcases h with h|⟨c,h⟩
    ·rcases Pb.mp h with z|z
     ·injection z with z1 _;exact absurd z1 hx
     ·exact .inl z
    ·right
     refine⟨c,?_⟩
     rw[Qq]
     have:(x == n)=false:=by simpa using hx
     rw[this];exact h
  ·rw[if_neg hk]
   refine J6 r _ ?_
   rcases h with h|h
   ·rcases Pb.mp h with z|z
    ·injection z with _ z2
     subst z2
     exact absurd rfl hk
    ·exact .inl z
   ·exact .inr h
theorem K7{scope:Scope}{env:Env}{x:Str}{k:NameKind}(h:(relabel scope env).names.lookup x=some k)(hk:k = .cell∨k = .free)(hcell:∀ y∈scope.names,y.2 ≠ .cell):(x,NameKind.free)∈scope.names:=by
 have go:∀(l:List (Str × NameKind)),(∀ y∈l,y.2 ≠ .cell)→(l.map fun(n,k)=>if (k == NameKind.free && env.scope.kind == .function && env.kindOf n == some .cell)=true then(n,NameKind.cell)else(n,k)).lookup x=some k→(x,NameKind.free)∈l:=by
  intro l
  induction l with
  | nil=>intro _ h;cases h
  | cons p r ih =>
   intro hl h
   obtain⟨n,j⟩:=p
   rw[Po,Qq]at h
   by_cases hj:j = .free
   ·subst hj
    by_cases hx:x=n
    ·subst hx;exact Ph
    ·refine OW _ (ih (fun y hy=>hl y (OW _ hy)) ?_)
     have e:∀ b:Bool,(x == (if b=true then(n,NameKind.cell)else(n,NameKind.free)).1)=false:=fun b=>by cases b<;>simpa using hx
     dsimp only at h
     rw[e]at h
     exact h
   ·have e:(j == NameKind.free)=false:=by simpa using hj
    have hc:=hl (n,j) Ph
    dsimp only at h
    rw[e]at h
    simp only[SN,Rm,if_false]at h
    by_cases hx:x=n
    ·have:(x == n)=true:=by simpa using hx
     rw[this]at h
     have h':j=k:=by simpa using h
     subst h'
     rcases hk with z|z
     ·exact absurd z hc
     ·exact absurd z hj
    ·have:(x == n)=false:=by simpa using hx
     rw[this]at h
     exact OW _ (ih (fun y hy=>hl y (OW _ hy)) h)
 exact go scope.names hcell h
noncomputable def cxF(X:Cx)(scope:Scope)(cl:List (Str × Addr))(N':List Str)(s3:Shared)(H3:Hp)(C:Addr)(fp:List Addr)(pins:List (Addr × Obj)):Cx :=
 { X with N:=N',s₀:=s3,H₀:=H3,env:=compEnvC scope cl C X.env,outer:=X.stack,ex:=fp,fn:=fun _=>false,pn:=X.pn++pins,xe:=fun _ _=>False }
noncomputable def gf(n:Nat)(caps:List Nat)(σ:St):St:=PK n none++caps.map fun i=>(σ[i]?).getD none
def eP(n:Nat)(caps:List Nat)(wi:TI)(g:TG)(tc:TT)(te:TE):TE:=fun σ H Q=>wi σ H fun J H1=>∀ D,H1 D=none→∃ W:Nat→Nat→Hp→Prop,(∃ m,W 0 m (upd H1 D (.lst [])))∧∀ i m H,W i m H →
 (J.stop i H∧Q (.ref D) H)∨(J.go i H∧∀ x H',J.yld i H x H'→g x (gf n caps σ) H' fun σ2 H2=>tc σ2 H2 fun b H2'=>if b=true then te σ2 H2' fun v H3=>∃ ys,H3 D=some (.lst ys)∧ys.length<sizeLine∧∃ m',m'<m∧W (i+1) m' (upd H3 D (.lst (ys++[v])))else ∃ m',m'<m∧W (i+1) m' H2')
section
variable {X:Cx} {elt tg iter:Expr} {scope:Scope} {cl:List (Str × Addr)} {tgs cps:List Str} {caps:List Nat} {wi:TI} {g:TG} {tc:TT} {te:TE} {pos:Pos} {ifs:List Expr}
def oz(s3:Shared)(H3:Hp)(fp:List Addr)(cl:List (Str × Addr))(x:Str)(v:V):Prop :=
 ∃(u:Value) (c:Addr) (o:Obj),o7 v u∧cl.lookup x=some c∧s3.heap.get? c=some o∧o.data = .cell (some u)∧H3 c=none∧c∉fp
theorem Inv.reset{pins pins':List (Addr × Obj)}{σ0 σ':St}{H3 H':Hp}{s3 s':Shared}{fp:List Addr}{C:Addr}(I:Inv (cxF X scope cl (tgs++cps) s3 H3 C fp pins) pins' σ' H' s')
  (hsc:∀ x∈cps,(relabel scope X.env).names.lookup x=some .cell∨(relabel scope X.env).names.lookup x=some .free) (hl:caps.length=cps.length)
  (hc:∀(j:Nat) (x:Str) (v:V),cps[j]? = some x→(caps.map fun i=>(σ0[i]?).getD none)[j]? = some (some v)→oz s3 H3 fp cl x v) :
  Inv (cxF X scope cl (tgs++cps) s3 H3 C fp pins) pins' (gf tgs.length caps σ0) H' s':=by
 obtain⟨m,hn,_⟩:=I.loc
 refine⟨I.ok,I.os,I.bare,I.base,⟨m,hn,fun i x v e1 e2 e3=>?_⟩,I.cell,I.free,I.freeC,I.pin,I.hok,by simp[gf,cxF,hl]⟩
 have e1:(tgs++cps)[i]? = some x:=e1
 unfold gf at e2
 rw[QR]at e1 e2
 rw[Qj]at e2
 by_cases hi:i<tgs.length
 ·rw[if_pos hi]at e2
  rw[PM]at e2
  split at e2<;>cases e2
 ·rw[if_neg hi]at e1 e2
  obtain⟨u,c,o,r,h1,h2,h3,h4,h5⟩:=hc (i - tgs.length) x v e1 e2
  obtain⟨sl,k⟩:=I.base.any h2 h4 h5
  refine⟨u,r,.inr ⟨?_,c,h1,_,k,h3⟩⟩
  rcases hsc x (Pn e1)with z|z
  ·exact .inl z
  ·exact .inr z
theorem nW{pins:List (Addr × Obj)}{σ0:St}{σ:St}{H3:Hp}{s3:Shared}{fp:List Addr}{it D C:Addr}{tn:Nat→Heap→Prop}{J:It}{h₁:Heap}{tk:Nat}{m:Str→Option Value}{R:Result→Shared→Prop}{Qd:Hp→Prop}
  (hc:X.calm=true) (hcell:∀ x∈scope.names,x.2 ≠ .cell) (hkind:scope.kind = .function)
  (hcl:∀ x c,cl.lookup x=some c→X.env.cells.lookup x=some c) (hhas:∀ x,(x,NameKind.free)∈scope.names→∃ c,cl.lookup x=some c)
  (hsc:∀ x∈cps,(relabel scope X.env).names.lookup x=some .cell∨(relabel scope X.env).names.lookup x=some .free) (hl:caps.length=cps.length)
  (hcap:∀(j:Nat) (x:Str) (v:V),cps[j]? = some x→(caps.map fun i=>(σ0[i]?).getD none)[j]? = some (some v)→oz s3 H3 fp cl x v)
  (hg:∀ cl s3 H3 C fp pins,PG (cxF X scope cl (tgs++cps) s3 H3 C fp pins) tg g) (hq:∀ cl s3 H3 C fp pins,Y6 (cxF X scope cl (tgs++cps) s3 H3 C fp pins) ifs tc) (he:∀ cl s3 H3 C fp pins,PE (cxF X scope cl (tgs++cps) s3 H3 C fp pins) elt te)
  (I3:Inv X pins σ H3 s3) (T:la X.prog X.w X.K tg J fp it tn) (st3:tn 0 s3.heap) (f3:∀ b∈fp,R5 X pins H3 b) (hC:C=s3.heap.objs.size) (hn:h₁.Ns C m) (hk:∀ b o,s3.heap.get? b=some o→h₁.get? b=some o)
  (W:Nat→Nat→Hp→Prop) (m0:Nat) (w0:W 0 m0 H3)
  (turn:∀ i m H,W i m H→(J.stop i H∧Qd H)∨(J.go i H∧∀ x H',J.yld i H x H'→g x (gf tgs.length caps σ0) H' fun σ2 H2=>tc σ2 H2 fun b H2'=>if b=true then te σ2 H2' fun v H3=>∃ ys,H3 D=some (.lst ys)∧ys.length<sizeLine∧∃ m',m'<m∧W (i+1) m' (upd H3 D (.lst (ys++[v])))else ∃ m',m'<m∧W (i+1) m' H2'))
  (hR:∀ s' H' σ',Inv (cxF X scope cl (tgs++cps) s3 H3 C fp pins) [] σ' H' s'→Qd H'→R (.ok .next) s') :
  codeAny (model X.prog X.w) X.A (.compStart (.ListComp elt [⟨tg,iter,ifs,0⟩] scope pos) 0 (.ref it) (.ref D) (compEnvC scope cl C X.env)) R { s3 with heap:=h₁,toks:=tk }:=by
 have lt3:∀ b∈fp,b<s3.heap.objs.size:=fun b hb=>by
  obtain⟨o,e,_⟩:=T.obj 0 _ st3 b hb
  exact OY e
 have ok':(cxF X scope cl (tgs++cps) s3 H3 C fp pins).Ok:={
  mod:=I3.ok.mod
  kind:=hkind
  glob:=I3.ok.glob
  blt:=I3.ok.blt
  above:=QO hC.symm
  inj:=fun x y c e e'=>I3.ok.inj x y c (hcl x c e) (hcl y c e')
  has:=fun x h=>by
   rcases h with h|h
   ·exact hhas x (K7 h (.inl rfl) hcell)
   ·exact hhas x (K7 h (.inr rfl) hcell)
  cab:=fun x c h=>by cases h
  hd:=fun _=>I3.ok.hd hc
  frames:=I3.ok.frames
  stk:=.inl rfl
  exf:=fun b hb=>⟨fun z=>by
   have z':b=C:=z
   have h1:=lt3 b hb
   rw[z',hC]at h1
   exact PV _ h1,fun x c e=>(f3 b hb).2.2.2.2.1 x c (hcl x c e)⟩
  bs:=fun b o e=>I3.bs b o e
  bsz:=Pa I3.ok.bsz I3.sz
  noex:=fun b o e hb=>by
   obtain⟨_,_,_,q,_⟩:=f3 b hb
   rcases q with q|q
   ·exact I3.ok.noex b o e q
   ·have h1:=OY e
    exact absurd (OV (OV h1 I3.ok.bsz) q) (PV _)
  exfs:=fun b hb z=>by
   obtain⟨_,q1,q2,_⟩:=f3 b hb
   rcases Pb.mp (I3.stkSub b z)with y|y
   ·exact q1 y
   ·exact q2 y
  funs:=I3.stack
  frf:=I3.stkFree }
 have J0:Inv (cxF X scope cl (tgs++cps) s3 H3 C fp pins) [] (PK (tgs++cps).length none) H3 { s3 with heap:=h₁,toks:=tk }:={
  ok:=ok'
  os:=rfl
  bare:=I3.bare
  base:=Un.kept hk
  loc:=⟨m,hn,fun i x v _ e _=>by
   rw[PM]at e
   split at e<;>cases e⟩
  cell:=fun x c e=>by
   obtain⟨v,o,ho,hd⟩:=I3.cell x c (hcl x c e)
   exact⟨v,o,hk c o ho,hd⟩
  free:=I3.hok.fresh (QO hC.symm)
  freeC:=fun x c e=>I3.freeC x c (hcl x c e)
  pin:=fun p hp=>by
   have hp':p∈X.pn++pins:=by simpa[cxF]using hp
   obtain⟨a1,a2,a3,a4,a5⟩:=I3.pin p hp'
   refine⟨hk _ _ a1,a2,fun z=>?_,fun z=>?_,a5⟩
   ·have z':p.1=C:=z
    have h1:=OY a1
    rw[z',hC]at h1
    exact PV _ h1
   ·rcases Pb.mp (I3.stkSub _ z)with y|y
    ·exact a3 y
    ·exact a4 y
  hok:=I3.hok.kept hk
  len:=by simp[cxF] }
 have stat:∀{H':Hp},(∀ b∈fp,H' b=none)→∀ b∈fp,R5 (cxF X scope cl (tgs++cps) s3 H3 C fp pins) [] H' b:=fun hn b hb=>by
  obtain⟨_,_,_,_,_,q⟩:=f3 b hb
  exact⟨hn b hb,(ok'.exf b hb).1,ok'.exfs b hb,.inl hb,(ok'.exf b hb).2,fun p hp=>q p (by simpa[cxF]using hp)⟩
 have loop:codeAny (model X.prog X.w) X.A (.compLoop (.ListComp elt [⟨tg,iter,ifs,0⟩] scope pos) 0 (.ref it) (.ref D) (compEnvC scope cl C X.env)) R { s3 with heap:=h₁,toks:=tk }:=by
  refine bp (fun n s'=>∃ i σ' H',Inv (cxF X scope cl (tgs++cps) s3 H3 C fp pins) [] σ' H' s'∧tn i s'.heap∧(∀ b∈fp,H' b=none)∧W i n H') ?_ m0
   ⟨0,_,H3,J0,T.keep _ _ _ st3 fun b hb o e=>hk b o e,fun b hb=>(f3 b hb).1,w0⟩
  rintro n s4 ⟨i,σ4,H4,I4,st4,fr4,w4⟩
  rcases turn i n H4 w4 with⟨stop,qn⟩|⟨go,step⟩
  ·refine thn (T.done (cxF X scope cl (tgs++cps) s3 H3 C fp pins) rfl rfl rfl hc i [] s4 σ4 H4 _ I4 (stat fr4) st4 stop) fun r s5 zz=>?_
   obtain⟨hr,I5⟩:=zz
   subst hr
   exact hR s5 H4 σ4 I5 qn
  ·refine thn (T.item (cxF X scope cl (tgs++cps) s3 H3 C fp pins) rfl rfl rfl hc i [] s4 σ4 H4 _ I4 (stat fr4) st4 go) fun r s5 zz=>?_
   obtain⟨u,hr,h5⟩:=zz
   subst hr
   refine thn h5 fun _ s6 zz=>?_
   obtain⟨x,H6,I6,r6,y6,st6,fr6⟩:=zz
   have I6w:=I6.reset hsc hl hcap
   have I6':=I6w.pinned (stat fr6) (T.obj _ _ st6)
   refine wpAny_mono (hg cl s3 H3 C fp pins _ s6 _ H6 x u _ I6' r6 (step x H6 y6)) (fun _ s7 ⟨σ7,H7,I7,q7⟩=>?_) fun _ _ z=>z.elim
   refine wpAny_mono (hq cl s3 H3 C fp pins _ s7 σ7 H7 _ I7 q7) (fun b s7' ⟨H7',I7',q7'⟩=>?_) fun _ _ z=>z.elim
   cases b with
   | false =>
    obtain⟨m',hm,w8⟩:=q7'
    refine⟨m',hm,i+1,σ7,H7',I7'.unpinned,T.keep _ _ _ st6 fun b hb o e=>(I7'.pin (b,o) (Pg _ (Pg _ (y9 hb e)))).1,fun b hb=>?_,w8⟩
    obtain⟨o,e,d⟩:=T.obj _ _ st6 b hb
    exact(I7'.pin (b,o) (Pg _ (Pg _ (y9 hb e)))).2.1
   | true =>
    refine wpAny_mono (he cl s3 H3 C fp pins _ s7' σ7 H7' _ I7' q7') (fun v s8 ⟨y,H8,I8,r8,q8⟩=>?_) fun _ _ z=>z.elim
    obtain⟨ys,hy,hz,m',hm,w8⟩:=q8
    refine wpAny_mono (bY (X:=cxF X scope cl (tgs++cps) s3 H3 C fp pins) _ s8 σ7 H8 (.ref D) [y] (.ref D) [v] (fun _ H9=>W (i+1) m' H9) I8 rfl (.cons r8 .nil) ⟨D,ys,y,rfl,rfl,hy,hz,w8⟩) (fun _ s9 ⟨_,H9,I9,_,w9⟩=>?_) fun _ _ z=>z.elim
    refine⟨m',hm,i+1,σ7,H9,I9.unpinned,T.keep _ _ _ st6 fun b hb o e=>(I9.pin (b,o) (Pg _ (Pg _ (y9 hb e)))).1,fun b hb=>?_,w9⟩
    obtain⟨o,e,d⟩:=T.obj _ _ st6 b hb
    exact(I9.pin (b,o) (Pg _ (Pg _ (y9 hb e)))).2.1
 exact codeAny_compStart_list loop (T.self _ 0 _ _ _ (T.keep _ _ _ st3 fun b hb o e=>hk b o e) loop)
theorem jj(hc:X.calm=true)(hcell:∀ x∈scope.names,x.2 ≠ .cell)(hkind:scope.kind = .function)(hnames:∀ x∈scope.names,x.2 = .local→scope.names.lookup x.1=some .local)
  (hfr:∀ x∈scope.names,x.2 = .free→x.1∈cps) (hN:caps.map (fun i=>X.N[i]?)=cps.map some) (hX:∀ x∈cps,X.env.scope.names.lookup x=some .cell∧scope.names.lookup x=some .free)
  (hsc:∀ x∈cps,(relabel scope X.env).names.lookup x=some .cell∨(relabel scope X.env).names.lookup x=some .free)
  (hi:PI X tg iter wi) (hg:∀ cl s3 H3 C fp pins,PG (cxF X scope cl (tgs++cps) s3 H3 C fp pins) tg g) (hq:∀ cl s3 H3 C fp pins,Y6 (cxF X scope cl (tgs++cps) s3 H3 C fp pins) ifs tc) (he:∀ cl s3 H3 C fp pins,PE (cxF X scope cl (tgs++cps) s3 H3 C fp pins) elt te)
  (hs:∀ x,foldedSetIterable iter X.env x=pure x) {use:Option (Value→Sem Unit)} {Qf:Value→Shared→Prop} {pins:List (Addr × Obj)} {s:Shared} {σ:St} {H:Hp} {Q:VK} (I:Inv X pins σ H s) (h:eP tgs.length caps wi g tc te σ H Q)
  (hU:∀(D C:Addr) (s':Shared) (H4:Hp) (m4:Str→Option Value),s'.heap.Ns C m4→R5 X pins H4 C→(∀ h',Heap.SameBut C s'.heap h'→Inv X pins σ H4 { s' with heap:=h' })→Q (.ref D) H4→compPost (model X.prog X.w) X.A X.xe use Qf (.ref D) C (.ok .next) s') :
  wpAny (model X.prog X.w) X.A (comprehension (.ListComp elt [⟨tg,iter,ifs,0⟩] scope pos) scope X.env (firstIterPos [⟨tg,iter,ifs,0⟩] pos) (newList []) false (eval iter X.env) use) Qf X.xe s:=by
 have hl:caps.length=cps.length:=by
  have:=congrArg Qn hN
  simpa using this
 have hcells:∀ n,(n,NameKind.free)∈scope.names→∃ c,X.env.cells.lookup n=some c:=fun n hn=>I.ok.has n (.inl (hX n (hfr _ hn rfl)).1)
 refine wpAny_comprehension_free (use:=use) rfl hs (cN hcells) hkind hnames (thn (hi pins s σ H _ I h) fun v s1 h1=>thn h1 fun itv s2 h2=>?_)
 obtain⟨it,fp,tn,J,H',e,I2,T,st2,f2,hW⟩:=h2
 subst e
 refine wpAny_newObj_type (hd:=by size_fits) (wpAny_newFunctionEnv hcell (by intro y hy;simp at hy) (fun h₁ hns₁ hsb₁=>?_) hkind)
 dsimp only at hns₁ hsb₁ ⊢
 have I3:=I2.lnew (ys:=[]) (its:=[]) (t':=s2.toks) .nil (PD _)
 obtain⟨W,⟨m0,w0⟩,turn⟩:=hW _ I2.fresh
 have st3:tn 0 (s2.heap.push { cls:=.type "list",data:=.seq ([]:List Value).toArray }):=T.keep _ _ _ st2 fun b hb o e=>OT _ e
 have f3:∀ b∈fp,R5 X pins (upd H' s2.heap.objs.size (.lst [])) b:=fun b hb=>by
  obtain⟨q0,q⟩:=f2 b hb
  obtain⟨o,e,_⟩:=T.obj 0 _ st2 b hb
  exact⟨by rw[i8 (Pu (OY e))];exact q0,q⟩
 have old:∀ b o,(s2.heap.push { cls:=.type "list",data:=.seq ([]:List Value).toArray }).get? b=some o→h₁.get? b=some o:=fun b o e =>
  hsb₁.extBut b o (Pu (OY e)) (OT _ e)
 have hcap:∀(j:Nat) (x:Str) (v:V),cps[j]? = some x→(caps.map fun i=>(σ[i]?).getD none)[j]? = some (some v) →
   oz { s2 with heap:=s2.heap.push { cls:=.type "list",data:=.seq ([]:List Value).toArray },toks:=s2.toks } (upd H' s2.heap.objs.size (.lst [])) fp (G2 X.env.cells scope.names []) x v:=fun j x v ex ev=>by
  have hx:=hX x (Pn ex)
  have hj:(caps.map (fun i=>X.N[i]?))[j]? = some (some x):=by rw[hN,Py,ex];rfl
  rw[Py]at ev hj
  cases hcj:caps[j]? with
  | none=>rw[hcj]at ev;cases ev
  | some i =>
   rw[hcj]at ev hj
   have ev':(σ[i]?).getD none=some v:=by simpa using ev
   have hj':X.N[i]? = some x:=by simpa using hj
   have es:σ[i]? = some (some v):=by
    cases q:σ[i]? with
    | none=>rw[q]at ev';cases ev'
    | some w=>rw[q]at ev';rw[show w=some v by simpa using ev']
   obtain⟨m,hn,hlook⟩:=I3.loc
   obtain⟨u,ru,lk⟩:=hlook i x v hj' es (.inr (.inl hx.1))
   rcases lk with⟨k1,_⟩|⟨_,c,hc1,o,ho,hd⟩
   ·have k1':X.env.scope.names.lookup x=some .local:=k1
    rw[hx.1]at k1';cases k1'
   ·have hmem:(x,NameKind.free)∈scope.names:=by
     have hlk:=hx.2
     have go:∀ l:List (Str × NameKind),l.lookup x=some .free→(x,NameKind.free)∈l:=by
      intro l
      induction l with
      | nil=>intro z;cases z
      | cons p r ih =>
       intro z
       obtain⟨n,k⟩:=p
       rw[Qq]at z
       split at z
       ·rename_i q;have q':x=n:=by simpa using q
        have z':k = .free:=by simpa using z
        rw[q',z'];exact Ph
       ·exact OW _ (ih z)
     exact go _ hlk
    obtain⟨c',hc'⟩:=J6 (cells:=X.env.cells) scope.names [] (.inl hmem)
    have:=F6 scope.names [] hcells (fun y d z=>by cases z) hc'
    rw[hc1]at this
    cases this
    refine⟨u,c,o,ru,hc',ho,hd,I3.freeC x c hc1,fun hb=>?_⟩
    exact(f3 c hb).2.2.2.2.1 x c hc1 rfl
 refine nW (s3:={ s2 with heap:=s2.heap.push { cls:=.type "list",data:=.seq ([]:List Value).toArray },toks:=s2.toks }) (Qd:=fun H=>Q (.ref s2.heap.objs.size) H) (tk:=s2.toks+([]:List (Str × Value)).length) (cl:=G2 X.env.cells scope.names [])
  hc hcell hkind (fun x c z=>F6 scope.names [] hcells (fun y d z=>by cases z) z) (fun x z=>J6 scope.names [] (.inl z)) hsc hl hcap hg hq he I3 T st3 f3 rfl hns₁ old W m0 w0 turn fun s' H4 σ4 I4 q4=>?_
 obtain⟨m4,hn4,_⟩:=I4.loc
 have hCfree:H4 _=none:=I4.free
 have nC:∀ b u,H4 b=some u→b≠(s2.heap.push { cls:=.type "list",data:=.seq ([]:List Value).toArray }).objs.size:=fun b u e z=>by
  rw[z]at e
  have:=e.symm.trans hCfree
  cases this
 have lt:∀ b o,(s2.heap.push { cls:=.type "list",data:=.seq ([]:List Value).toArray }).get? b=some o→b≠(s2.heap.push { cls:=.type "list",data:=.seq ([]:List Value).toArray }).objs.size:=fun b o e=>Pu (OY e)
 have ub:=I4.base
 have fC:R5 X pins H4 (s2.heap.push { cls:=.type "list",data:=.seq ([]:List Value).toArray }).objs.size:=I3.fpOk (Pe _) hCfree
 refine hU _ _ s' H4 m4 hn4 fC (fun h' hsb=>?_) q4
 have un:Un (frs X.stack) fp (upd H' s2.heap.objs.size (.lst [])) H4 (s2.heap.push { cls:=.type "list",data:=.seq ([]:List Value).toArray }) h':={
  keep:=fun b o e n x y=>(hsb.2 b (lt b o e)).trans (ub.keep b o e n x y)
  slot:=fun b o e n x y=>let ⟨q,z⟩:=ub.slot b o e n x y;⟨q,(hsb.2 b (lt b o e)).trans z⟩
  free:=ub.free
  there:=fun b o e y=>let ⟨q,z⟩:=ub.there b o e y;⟨q,(hsb.2 b (lt b o e)).trans z⟩
  tups:=ub.tups
  frzs:=ub.frzs
  tbls:=ub.tbls }
 refine I3.call' (s':={ s' with heap:=h' }) I4.os un (fun b u e=>?_) I4.bare fun b hb=>?_
 ·refine(I4.hok b u e).stay (fun c v hcv q=>(hsb.2 c ?_).trans q) (fun _ q=>q) fun _ _ q=>q
  rcases hcv with z|z
  ·rw[z];exact nC b u e
  ·exact nC c _ z
 ·obtain⟨q0,q1,q2,q3,q4,q5⟩:=f3 b hb
  exact⟨q3,q1,q4,q5⟩
theorem mU(hc:X.calm=true)(hcell:∀ x∈scope.names,x.2 ≠ .cell)(hkind:scope.kind = .function)(hnames:∀ x∈scope.names,x.2 = .local→scope.names.lookup x.1=some .local)
  (hfr:∀ x∈scope.names,x.2 = .free→x.1∈cps) (hN:caps.map (fun i=>X.N[i]?)=cps.map some) (hX:∀ x∈cps,X.env.scope.names.lookup x=some .cell∧scope.names.lookup x=some .free)
  (hsc:∀ x∈cps,(relabel scope X.env).names.lookup x=some .cell∨(relabel scope X.env).names.lookup x=some .free)
  (hi:PI X tg iter wi) (hg:∀ cl s3 H3 C fp pins,PG (cxF X scope cl (tgs++cps) s3 H3 C fp pins) tg g) (hq:∀ cl s3 H3 C fp pins,Y6 (cxF X scope cl (tgs++cps) s3 H3 C fp pins) ifs tc) (he:∀ cl s3 H3 C fp pins,PE (cxF X scope cl (tgs++cps) s3 H3 C fp pins) elt te)
  (hs:∀ x,foldedSetIterable iter X.env x=pure x:=by intro _;rfl):PE X (.ListComp elt [⟨tg,iter,ifs,0⟩] scope pos) (eP tgs.length caps wi g tc te):=by
 intro pins s σ H Q I h
 rw[eval_ListComp]
 exact jj hc hcell hkind hnames hfr hN hX hsc hi hg hq he hs I h fun D C s' H4 m4 hn4 fC hI q4=>⟨m4,hn4,fun h' hsb=>⟨.ref D,H4,hI h' hsb,rfl,q4⟩⟩
def PU(X:Cx)(i:Nat)(x:Str)(pos':Pos)(e:Expr)(te:TE):Prop:=∀(pins:List (Addr × Obj)) (s:Shared) (σ:St) (H:Hp) (Q:VK),Inv X pins σ H s→te σ H Q →
 wpAny (model X.prog X.w) X.A (evalThenUse e X.env (assign (.Name x pos') X.env)) (fun _ s'=>∃ v H',Inv X pins (σ.set i (some v)) H' s'∧Q v H') X.xe s
theorem PU.imp{X:Cx}{i:Nat}{x:Str}{pos':Pos}{e:Expr}{t t':TE}(h:PU X i x pos' e t)(f:∀ σ H Q,t' σ H Q→t σ H Q):PU X i x pos' e t':=fun pins s σ H Q I q=>h pins s σ H Q I (f σ H Q q)
theorem BN{i:Nat}{x:Str}{pos' pos:Pos}{e:Expr}{te:TE}(h:PU X i x pos' e te)(hs:swapsWith e (some (.Name x pos')) pos.line X.env=pure true):PS X (.Assign [.Name x pos'] e pos) (FW te (yZ i)):=by
 intro pins s σ H D I q
 rw[exec_Assign_Name_used _ _ _ _ hs]
 refine OS (wpAny_standAt (OS (thn (h pins s σ H _ I q) fun _ s1 ⟨v,H1,I1,q1⟩=>Pf ?_)))
 exact⟨_,H1,I1,q1⟩
theorem xZ(hc:X.calm=true)(hcell:∀ x∈scope.names,x.2 ≠ .cell)(hkind:scope.kind = .function)(hnames:∀ x∈scope.names,x.2 = .local→scope.names.lookup x.1=some .local)
  (hfr:∀ x∈scope.names,x.2 = .free→x.1∈cps) (hN:caps.map (fun i=>X.N[i]?)=cps.map some) (hX:∀ x∈cps,X.env.scope.names.lookup x=some .cell∧scope.names.lookup x=some .free)
  (hsc:∀ x∈cps,(relabel scope X.env).names.lookup x=some .cell∨(relabel scope X.env).names.lookup x=some .free)
  (hi:PI X tg iter wi) (hg:∀ cl s3 H3 C fp pins,PG (cxF X scope cl (tgs++cps) s3 H3 C fp pins) tg g) (hq:∀ cl s3 H3 C fp pins,Y6 (cxF X scope cl (tgs++cps) s3 H3 C fp pins) ifs tc) (he:∀ cl s3 H3 C fp pins,PE (cxF X scope cl (tgs++cps) s3 H3 C fp pins) elt te)
  {i:Nat} {x:Str} {pos':Pos} (hNd:X.N.Nodup) (hxi:X.N[i]? = some x) (hx:Loc X.env.scope x) (hf:X.fn x=true∨X.env.scope.names.lookup x=some .local)
  (hs:∀ x,foldedSetIterable iter X.env x=pure x:=by intro _;rfl):PU X i x pos' (.ListComp elt [⟨tg,iter,ifs,0⟩] scope pos) (eP tgs.length caps wi g tc te):=by
 intro pins s σ H Q I h
 refine OS (thn (jj (use:=some (assign (.Name x pos') X.env)) (Qf:=fun _ s'=>∃ v H',Inv X pins (σ.set i (some v)) H' s'∧Q v H') hc hcell hkind hnames hfr hN hX hsc hi hg hq he hs I h fun D C s' H4 m4 hn4 fC hI q4=>?_) fun _ s1 z=>Pf z)
 have I4:Inv X pins σ H4 s':=hI s'.heap (Heap.SameBut.refl _ _)
 show wpAny _ _ (assign (.Name x pos') X.env (.ref D)) _ _ s'
 refine wpAny_assign_Name (iV (v:=.ref D) I4 hNd hxi hx rfl (fun s2 I2 ⟨a,hsb,ha⟩=>?_) hf)
 have hac:C≠a:=by
  rcases ha with ha|ha
  ·rw[ha];exact fC.2.1
  ·exact Ne.symm (fC.2.2.2.2.1 x a ha)
 refine⟨m4,hn4.sameBut hsb hac,fun h' hs'=>⟨.ref D,H4,?_,q4⟩⟩
 exact I2.turned (t':=s2.toks) (fun b o hb e=>hs'.extBut b o hb e) fC.1 fC.2.1 fC.2.2.2.1 fC.2.2.2.2.1 fC.2.2.2.2.2
end
end L2
namespace L2
open PySem
noncomputable def SI:Bool→Heap→Addr→Addr→Nat→Prop
 | true,h,it,a,i=>h.IsListIter it a i
 | false,h,it,a,i=>h.IsTupleIter it a i
noncomputable def SS:Bool→Heap→Addr→Array Value→Prop
 | true,h,a,xs=>h.IsList a xs
 | false,h,a,xs=>h.IsTuple a xs
theorem SI.at{k:Bool}{h h':Heap}{it a:Addr}{i:Nat}(x:SI k h it a i)(f:∀ o,h.get? it=some o→h'.get? it=some o):SI k h' it a i:=by
 cases k<;>(obtain⟨o,e,r⟩:=x;exact⟨o,f o e,r⟩)
theorem SS.at{k:Bool}{h h':Heap}{a:Addr}{xs:Array Value}(x:SS k h a xs)(f:∀ o,h.get? a=some o→h'.get? a=some o):SS k h' a xs:=by
 cases k<;>(obtain⟨o,e,r⟩:=x;exact⟨o,f o e,r⟩)
theorem SI.obj{k:Bool}{h:Heap}{it a:Addr}{i:Nat}(x:SI k h it a i):∃ o,h.get? it=some o∧∀ v,o.data ≠ .cell v:=by
 cases k<;>(obtain⟨o,e,c,d⟩:=x;exact⟨o,e,fun v z=>by rw[d]at z;cases z⟩)
theorem SS.obj{k:Bool}{h:Heap}{a:Addr}{xs:Array Value}(x:SS k h a xs):∃ o,h.get? a=some o:=by
 cases k<;>(obtain⟨o,e,_⟩:=x;exact⟨o,e⟩)
section
variable {prog:Program} {w:World} {A:Around} {E:Value→Shared→Prop} {s:Shared}
theorem ux{p t:Addr}{n:Nat}{xs:Array Value}{v:Value}{Q:Value→Shared→Prop}(hp:s.heap.IsTupleIter p t n)(ht:s.heap.IsTuple t xs)(hv:xs[n]? = some v)
  (q:∀ h',h'.IsTupleIter p t (n+1)→Heap.SameBut p s.heap h'→Q v { s with heap:=h' }):wpAny (model prog w) A (Builtin.SmallTypes.nextOf (.ref p)) Q E s:=by
 obtain⟨ob,e1,e2,e3⟩:=id hp
 obtain⟨ot,f1,_,cap,f2⟩:=ht
 unfold Builtin.SmallTypes.nextOf
 refine OS (wpAny_callSpecial?_slot (name:=Str.ofString "__next__") hp.typeIs F.slot_tuple_iterator_next (wpAny_call_entry F.slot_tuple_iterator_next hp.typeIs F.entry_tuple_iterator_next ?_ (F.args_tuple_iterator_next_1 _)))
 show wpAny _ _ (field (.ref p) 0 >>= _) _ _ s
 refine OS (wpAny_field e1 e3 (x:=.ref t) rfl ?_)
 show wpAny _ _ (if (Value.ref t == Value.none)=true then _ else _) _ _ s
 rw[if_neg (fun z:(Value.ref t == Value.none)=true=>nomatch z)]
 show wpAny _ _ (field (.ref p) 1 >>= _) _ _ s
 refine OS (wpAny_field e1 e3 (x:=.int n 0) rfl ?_)
 show wpAny _ _ (seqItems? (.ref t) >>= _) _ _ s
 refine OS (wpAny_seqItems f1 f2 ?_)
 simp only[Ql,hv]
 refine OS (wpAny_setField e1 e3 (by simp) (Pf ⟨v,rfl,Pf (q _ ⟨_,Qu _ e1 (Obj.isFreed_of_fields (Obj.data_mapFields e3 _)),(Obj.cls_mapFields ..).trans e2,?_⟩ (Heap.SameBut.update ..))⟩))
 rw[Obj.data_mapFields e3];simp[rawInt]
theorem xl{p t:Addr}{n:Nat}{xs:Array Value}{Q:Value→Shared→Prop}(hA:A.handled=none)(hp:s.heap.IsTupleIter p t n)(ht:s.heap.IsTuple t xs)(hv:xs[n]? = none)
  (q:∀ h' e,Heap.ExtBut p s.heap h'→(∃ o,h'.get? e=some o∧o.cls = .type "StopIteration")→E (.ref e) { s with heap:=h' }):wpAny (model prog w) A (Builtin.SmallTypes.nextOf (.ref p)) Q E s:=by
 obtain⟨ob,e1,e2,e3⟩:=id hp
 obtain⟨ot,f1,_,cap,f2⟩:=ht
 unfold Builtin.SmallTypes.nextOf
 refine OS (wpAny_callSpecial?_slot (name:=Str.ofString "__next__") hp.typeIs F.slot_tuple_iterator_next (wpAny_call_entry F.slot_tuple_iterator_next hp.typeIs F.entry_tuple_iterator_next ?_ (F.args_tuple_iterator_next_1 _)))
 show wpAny _ _ (field (.ref p) 0 >>= _) _ _ s
 refine OS (wpAny_field e1 e3 (x:=.ref t) rfl ?_)
 show wpAny _ _ (if (Value.ref t == Value.none)=true then _ else _) _ _ s
 rw[if_neg (fun z:(Value.ref t == Value.none)=true=>nomatch z)]
 show wpAny _ _ (field (.ref p) 1 >>= _) _ _ s
 refine OS (wpAny_field e1 e3 (x:=.int n 0) rfl ?_)
 show wpAny _ _ (seqItems? (.ref t) >>= _) _ _ s
 refine OS (wpAny_seqItems f1 f2 ?_)
 simp only[Ql,hv]
 refine OS (wpAny_rule (OS (wpAny_setField e1 e3 (by simp) ?_)))
 show wpAny _ _ (newExc (.type "StopIteration") [] >>= _) _ _ _
 refine OS ?_;simp only[newExc,newTuple]
 refine OS (wpAny_newObj_type ?_ (by size_fits));refine OS (m:=firstArgMember _ _) (wpAny_of_eq (a:=Value.none) (by first|rfl|(simp only[firstArgMember];rfl)) ?_)
 refine wpAny_newObj_type ?_ (by size_fits);simp only[raiseNew];refine OS (wpAny_handled ?_)
 first|rw[show A.in1.handled=none from hA]|rw[hA]
 refine OS (Pf (wpAny_throw (q _ _ (((Heap.SameBut.update ..).extBut.push _).push _) ⟨_,Pd _ rfl,rfl⟩)))
theorem dg{k:Bool}{p a:Addr}{n:Nat}{xs:Array Value}{v:Value}{Q:Value→Shared→Prop}(hp:SI k s.heap p a n)(ha:SS k s.heap a xs)(hv:xs[n]? = some v)
  (q:∀ h',SI k h' p a (n+1)→Heap.SameBut p s.heap h'→Q v { s with heap:=h' }):wpAny (model prog w) A (Builtin.SmallTypes.nextOf (.ref p)) Q E s:=by
 cases k with
 | true=>exact wpAny_nextOf_list_item hp ha hv q
 | false=>exact ux hp ha hv q
theorem oP{k:Bool}{p a:Addr}{n:Nat}{xs:Array Value}{Q:Value→Shared→Prop}(hA:A.handled=none)(hp:SI k s.heap p a n)(ha:SS k s.heap a xs)(hv:xs[n]? = none)
  (q:∀ h' e,Heap.ExtBut p s.heap h'→(∃ o,h'.get? e=some o∧o.cls = .type "StopIteration")→E (.ref e) { s with heap:=h' }):wpAny (model prog w) A (Builtin.SmallTypes.nextOf (.ref p)) Q E s:=by
 cases k with
 | true=>exact wpAny_nextOf_list_end hA hp ha hv q
 | false=>exact xl hA hp ha hv q
theorem SI.but{k:Bool}{h h':Heap}{it a b:Addr}{i:Nat}(x:SI k h it a i)(e:Heap.ExtBut b h h')(n:it≠b):SI k h' it a i:=x.at fun o z=>e it o n z
theorem SS.but{k:Bool}{h h':Heap}{a b:Addr}{xs:Array Value}(x:SS k h a xs)(e:Heap.ExtBut b h h')(n:a≠b):SS k h' a xs:=x.at fun o z=>e a o n z
theorem Ao{z TI TO p1 p2 l1 l2:Addr}{c1 c2:Bool}{n1 n2:Nat}{xs ys:Array Value}{v1 v2 u1 u2:Value}{Q:Option Value→Shared→Prop}(D:ZipApart z TI TO p1 p2 l1 l2)
  (iz:IsZip s.heap z TI TO .none) (iI:IsPair s.heap TI (.ref p1) (.ref p2)) (iO:IsPair s.heap TO u1 u2) (g1:SI c1 s.heap p1 l1 n1) (g2:SI c2 s.heap p2 l2 n2) (m1:SS c1 s.heap l1 xs) (m2:SS c2 s.heap l2 ys) (w1:xs[n1]? = some v1) (w2:ys[n2]? = some v2)
  (q:∀ h',IsZip h' z TI TO (rawInt s.heap.objs.size)→IsPair h' TO v1 v2→SI c1 h' p1 l1 (n1+1)→SI c2 h' p2 l2 (n2+1)→IsPair h' s.heap.objs.size v1 v2→h'.objs.size=s.heap.objs.size+1 →
   (∀ b o,b≠z→b≠TO→b≠p1→b≠p2→s.heap.get? b=some o→h'.get? b=some o)→Q (some (.ref s.heap.objs.size)) { s with heap:=h' }):wpAny (model prog w) A (pyNext (.ref z)) Q E s:=by
 have ty:s.TypeIs (.ref z) "zip" := ⟨_,iz,rfl⟩
 unfold pyNext
 refine OS (wpAny_attempt (wpAny_callSpecial?_slot (name:=Str.ofString "__next__") ty F.slot_zip_next (wpAny_call_entry F.slot_zip_next ty F.entry_zip_next ?_ (F.args_zip_next_1 _))))
 show wpAny _ _ (field (.ref z) 2 >>= _) _ _ _
 refine OS (wpAny_field iz rfl (x:=.bool false) rfl ?_)
 show wpAny _ _ (field (.ref z) 3 >>= _) _ _ _
 refine OS (wpAny_field iz rfl (x:=.ref TI) rfl (OS (wpAny_seqItems iI rfl ?_)))
 show wpAny _ _ (Builtin.SmallTypes.ownedTupleIsFree (.ref z) >>= _) _ _ _
 refine OS ?_;unfold Builtin.SmallTypes.ownedTupleIsFree
 refine OS (wpAny_field iz rfl (x:=.none) rfl (Pf ?_));simp only[if_true]
 refine OS (wpAny_rule (OS (wpAny_field iz rfl (x:=.ref TO) rfl (OS (wpAny_setField_rec iz (by simp) fun ha za sa=>?_)))))
 replace za:IsZip ha z TI TO .ellipsis:=za
 refine OS ?_;simp only[Sv,SD,RK,SO]
 refine OS (OS (wpAny_onRaise ?_))
 show wpAny _ _ (Builtin.SmallTypes.nextOf (.ref p1) >>= _) _ _ _
 refine OS (dg (g1.but sa.extBut D.i1z) (m1.but sa.extBut D.l1z) w1 fun hb gb sb=>Pf ?_)
 have oB:IsPair hb TO u1 u2:=sb.extBut _ _ D.TOi1 (sa.extBut _ _ D.TOz iO)
 refine OS (wpAny_seqItems oB rfl (OS (wpAny_updateSeq_pair oB fun hc oC sc=>?_)))
 replace oC:IsPair hc TO v1 u2:=oC
 refine OS (wpAny_letGo (Pf (OS (OS (wpAny_onRaise ?_)))))
 show wpAny _ _ (Builtin.SmallTypes.nextOf (.ref p2) >>= _) _ _ _
 refine OS (dg (((g2.but sa.extBut D.i2z).but sb.extBut D.i12.symm).but sc.extBut D.TOi2.symm) (((m2.but sa.extBut D.l2z).but sb.extBut D.l2i1).but sc.extBut D.l2TO) w2 fun hd gd sd=>Pf ?_)
 have oD:IsPair hd TO v1 u2:=sd.extBut _ _ D.TOi2 oC
 refine OS (wpAny_seqItems oD rfl (OS (wpAny_updateSeq_pair oD fun he oE se=>?_)))
 replace oE:IsPair he TO v1 v2:=oE
 refine OS (wpAny_letGo (Pf (Pf (OS (wpAny_seqItems oE rfl (OS (wpAny_newTuple ?_)))))))
 have zs:he.objs.size=s.heap.objs.size:=by rw[se.1,sd.1,sc.1,sb.1,sa.1]
 have zE:IsZip he z TI TO .ellipsis:=se.extBut _ _ D.TOz.symm (sd.extBut _ _ D.i2z.symm (sc.extBut _ _ D.TOz.symm (sb.extBut _ _ D.i1z.symm za)))
 have kE:∀ b o,b≠z→b≠TO→b≠p1→b≠p2→s.heap.get? b=some o→he.get? b=some o:=fun b o b1 b2 b3 b4 e=>se.extBut _ _ b2 (sd.extBut _ _ b4 (sc.extBut _ _ b2 (sb.extBut _ _ b3 (sa.extBut _ _ b1 e))))
 have gE1:SI c1 he p1 l1 (n1+1):=((gb.but sc.extBut D.TOi1.symm).but sd.extBut D.i12).but se.extBut D.TOi1.symm
 have gE2:SI c2 he p2 l2 (n2+1):=gd.but se.extBut D.TOi2.symm
 have ltz:z<he.objs.size:=OY zE
 show wpAny _ _ (Builtin.SmallTypes.ownedTupleHandOut (.ref z) (.ref he.objs.size) >>= _) _ _ _
 refine OS ?_;unfold Builtin.SmallTypes.ownedTupleHandOut
 refine OS (wpAny_setField_rec (OT _ zE) (by simp) fun hf zf sf=>?_)
 replace zf:IsZip hf z TI TO (rawInt he.objs.size):=zf
 refine wpAny_setField_rec zf (by simp) fun hg zg sg=>?_
 replace zg:IsZip hg z TI TO (rawInt he.objs.size):=zg
 have lift:∀ b o,b≠z→he.get? b=some o→hg.get? b=some o:=fun b o b1 e=>sg.extBut _ _ b1 (sf.extBut _ _ b1 (OT _ e))
 have tG:IsPair hg he.objs.size v1 v2:=sg.extBut _ _ (Qm ltz) (sf.extBut _ _ (Qm ltz) (Pd _ rfl))
 have zz:hg.objs.size=he.objs.size+1:=by rw[sg.1,sf.1,PQ]
 rw[zs]at zg tG zz
 refine Pf ⟨_,rfl,Pf ?_⟩
 show Q (some (.ref he.objs.size)) _
 rw[zs]
 exact q hg zg (lift _ _ D.TOz oE) (gE1.at fun o e=>lift _ o D.i1z e) (gE2.at fun o e=>lift _ o D.i2z e) tG zz fun b o b1 b2 b3 b4 e=>lift b o b1 (kE b o b1 b2 b3 b4 e)
theorem FA{z TI TO p1 p2 l1 l2:Addr}{c1 c2:Bool}{n1 n2:Nat}{xs ys:Array Value}{u1 u2:Value}{Q:Option Value→Shared→Prop}(hA:A.handled=none)(D:ZipApart z TI TO p1 p2 l1 l2)
  (iz:IsZip s.heap z TI TO .none) (iI:IsPair s.heap TI (.ref p1) (.ref p2)) (iO:IsPair s.heap TO u1 u2) (g1:SI c1 s.heap p1 l1 n1) (g2:SI c2 s.heap p2 l2 n2) (m1:SS c1 s.heap l1 xs) (m2:SS c2 s.heap l2 ys) (fin:xs[n1]? = none∨ys[n2]? = none)
  (q:∀ h',(∀ b o,b≠z→b≠TO→b≠p1→b≠p2→s.heap.get? b=some o→h'.get? b=some o)→Q none { s with heap:=h' }):wpAny (model prog w) A (pyNext (.ref z)) Q E s:=by
 have ty:s.TypeIs (.ref z) "zip" := ⟨_,iz,rfl⟩
 unfold pyNext
 have out:∀(h':Heap) (e:Addr),(∀ b o,b≠z→b≠TO→b≠p1→b≠p2→s.heap.get? b=some o→h'.get? b=some o)→(∃ o,h'.get? e=some o∧o.cls = .type "StopIteration") →
   wpAny (model prog w) A (do if ← isInstance (.ref e) (.type "StopIteration")then pure none else throw (.ref e):Sem (Option Value)) Q E { s with heap:=h' }:=fun h' e k ⟨o,e1,e2⟩ =>
  OS (wpAny_isInstance (T := "StopIteration") (b:=true) ⟨o,e1,e2⟩ isSubtype_stop (Pf (q h' k)))
 refine OS (wpAny_attempt (wpAny_callSpecial?_slot (name:=Str.ofString "__next__") ty F.slot_zip_next (wpAny_call_entry F.slot_zip_next ty F.entry_zip_next ?_ (F.args_zip_next_1 _))))
 show wpAny _ _ (field (.ref z) 2 >>= _) _ _ _
 refine OS (wpAny_field iz rfl (x:=.bool false) rfl ?_)
 show wpAny _ _ (field (.ref z) 3 >>= _) _ _ _
 refine OS (wpAny_field iz rfl (x:=.ref TI) rfl (OS (wpAny_seqItems iI rfl ?_)))
 show wpAny _ _ (Builtin.SmallTypes.ownedTupleIsFree (.ref z) >>= _) _ _ _
 refine OS ?_;unfold Builtin.SmallTypes.ownedTupleIsFree
 refine OS (wpAny_field iz rfl (x:=.none) rfl (Pf ?_));simp only[if_true]
 refine OS (wpAny_rule (OS (wpAny_field iz rfl (x:=.ref TO) rfl (OS (wpAny_setField_rec iz (by simp) fun ha za sa=>?_)))))
 replace za:IsZip ha z TI TO .ellipsis:=za
 refine OS ?_;simp only[Sv,SD,RK,SO]
 refine OS (OS (wpAny_onRaise ?_))
 show wpAny _ _ (Builtin.SmallTypes.nextOf (.ref p1) >>= _) _ _ _
 cases w1:xs[n1]? with
 | none =>
  refine OS (oP hA (g1.but sa.extBut D.i1z) (m1.but sa.extBut D.l1z) w1 fun hb e sb zz=>?_)
  obtain⟨oe,oe1,oe2⟩:=zz
  have zb:IsZip hb z TI TO .ellipsis:=sb _ _ D.i1z.symm za
  have nz:e≠z:=fun y=>by subst y;rw[zb]at oe1;cases oe1;simp at oe2
  refine wpAny_setField_rec zb (by simp) fun hc _ sc=>out hc e (fun b o b1 _ b3 _ y=>sc.extBut _ _ b1 (sb _ _ b3 (sa.extBut _ _ b1 y))) ⟨oe,sc.extBut _ _ nz oe1,oe2⟩
 | some v1 =>
  have w2:ys[n2]? = none:=fin.resolve_left (by rw[w1];exact fun y=>nomatch y)
  refine OS (dg (g1.but sa.extBut D.i1z) (m1.but sa.extBut D.l1z) w1 fun hb gb sb=>Pf ?_)
  have oB:IsPair hb TO u1 u2:=sb.extBut _ _ D.TOi1 (sa.extBut _ _ D.TOz iO)
  refine OS (wpAny_seqItems oB rfl (OS (wpAny_updateSeq_pair oB fun hc oC sc=>?_)))
  refine OS (wpAny_letGo (Pf (OS (OS (wpAny_onRaise ?_)))))
  show wpAny _ _ (Builtin.SmallTypes.nextOf (.ref p2) >>= _) _ _ _
  refine OS (oP hA (((g2.but sa.extBut D.i2z).but sb.extBut D.i12.symm).but sc.extBut D.TOi2.symm) (((m2.but sa.extBut D.l2z).but sb.extBut D.l2i1).but sc.extBut D.l2TO) w2 fun hd e sd zz=>?_)
  obtain⟨oe,oe1,oe2⟩:=zz
  have zd:IsZip hd z TI TO .ellipsis:=sd _ _ D.i2z.symm (sc.extBut _ _ D.TOz.symm (sb.extBut _ _ D.i1z.symm za))
  have nz:e≠z:=fun y=>by subst y;rw[zd]at oe1;cases oe1;simp at oe2
  refine wpAny_setField_rec zd (by simp) fun he _ se=>out he e (fun b o b1 b2 b3 b4 y=>se.extBut _ _ b1 (sd _ _ b4 (sc.extBut _ _ b2 (sb.extBut _ _ b3 (sa.extBut _ _ b1 y))))) ⟨oe,se.extBut _ _ nz oe1,oe2⟩
end
noncomputable abbrev itO(k:Bool)(a:Addr):Obj:={ cls:=.type (if k then "list_iterator" else "tuple_iterator"),data:=.fields #[.ref a,.int 0 0] }
noncomputable abbrev zA(k1:Bool)(h:Heap)(l1:Addr):Heap:=h.push (itO k1 l1)
noncomputable abbrev zB(k1 k2:Bool)(h:Heap)(l1 l2:Addr):Heap:=(zA k1 h l1).push (itO k2 l2)
noncomputable abbrev zC(k1 k2:Bool)(h:Heap)(l1 l2:Addr):Heap:=(zB k1 k2 h l1 l2).push { cls:=.type "tuple",data:=.seq #[.ref h.objs.size,.ref (zA k1 h l1).objs.size] }
noncomputable abbrev zD(k1 k2:Bool)(h:Heap)(l1 l2:Addr):Heap:=(zC k1 k2 h l1 l2).push { cls:=.type "tuple",data:=.seq #[.none,.none] }
noncomputable abbrev zE(k1 k2:Bool)(h:Heap)(l1 l2:Addr):Heap:=(zD k1 k2 h l1 l2).push { cls:=.type "zip",data:=.fields #[.none,.bool false,.bool false,.ref (zB k1 k2 h l1 l2).objs.size,.ref (zC k1 k2 h l1 l2).objs.size] }
set_option maxHeartbeats 2000000 in
theorem Fz(k1 k2:Bool)(l1 l2:Addr)(xs ys:Array Value) :
  Meets (Builtin.«zip.__new__» ⟨[.type "zip",.ref l1,.ref l2],[]⟩) (fun _ R s=>SS k1 s.heap l1 xs∧SS k2 s.heap l2 ys∧R (.ok (.ret (.ref (zD k1 k2 s.heap l1 l2).objs.size))) { s with heap:=zE k1 k2 s.heap l1 l2 }) :=
 .of_wp fun prog w A R s h=>by
  obtain⟨hp,g,d,tk,os⟩:=s
  obtain⟨ha,hb,h⟩:=h
  have hsub:=sub_zip
  cases k1 with
  | true =>
   have a1:Heap.IsList (Shared.heap ⟨hp,g,d,tk,os⟩) l1 xs:=ha
   cases k2 with
   | true =>
    have a2:Heap.IsList (Shared.heap ⟨hp.push { cls:=.type "list_iterator",data:=.fields #[.ref l1,.int 0 0] },g,d,tk,os⟩) l2 ys:=Heap.IsList.push hb _
    wp_walk using wpAny_pyIter_list a1,wpAny_pyIter_list a2
    exact⟨_,rfl,h⟩
   | false =>
    have a2:Heap.IsTuple (Shared.heap ⟨hp.push { cls:=.type "list_iterator",data:=.fields #[.ref l1,.int 0 0] },g,d,tk,os⟩) l2 ys:=Heap.IsTuple.push hb _
    wp_walk using wpAny_pyIter_list a1,wpAny_pyIter_tuple a2
    exact⟨_,rfl,h⟩
  | false =>
   have a1:Heap.IsTuple (Shared.heap ⟨hp,g,d,tk,os⟩) l1 xs:=ha
   cases k2 with
   | true =>
    have a2:Heap.IsList (Shared.heap ⟨hp.push { cls:=.type "tuple_iterator",data:=.fields #[.ref l1,.int 0 0] },g,d,tk,os⟩) l2 ys:=Heap.IsList.push hb _
    wp_walk using wpAny_pyIter_tuple a1,wpAny_pyIter_list a2
    exact⟨_,rfl,h⟩
   | false =>
    have a2:Heap.IsTuple (Shared.heap ⟨hp.push { cls:=.type "tuple_iterator",data:=.fields #[.ref l1,.int 0 0] },g,d,tk,os⟩) l2 ys:=Heap.IsTuple.push hb _
    wp_walk using wpAny_pyIter_tuple a1,wpAny_pyIter_tuple a2
    exact⟨_,rfl,h⟩
section
variable {prog:Program} {w:World} {A:Around} {E:Value→Shared→Prop} {s:Shared}
theorem CW{k1 k2:Bool}{l1 l2:Addr}{xs ys:Array Value}{Q:Value→Shared→Prop}(ha:SS k1 s.heap l1 xs)(hb:SS k2 s.heap l2 ys)
  (q:∀ h',IsZip h' (s.heap.objs.size+4) (s.heap.objs.size+2) (s.heap.objs.size+3) .none→IsPair h' (s.heap.objs.size+2) (.ref s.heap.objs.size) (.ref (s.heap.objs.size+1))→IsPair h' (s.heap.objs.size+3) .none .none →
   SI k1 h' s.heap.objs.size l1 0→SI k2 h' (s.heap.objs.size+1) l2 0→h'.objs.size=s.heap.objs.size+5→(∀ b o,s.heap.get? b=some o→h'.get? b=some o)→Q (.ref (s.heap.objs.size+4)) { s with heap:=h' }) :
  wpAny (model prog w) A (call (.type "zip") [.ref l1,.ref l2]) Q E s:=by
 refine callType_new F.called_zip (by decide) (F.typeCall_zip_2 _ _) (F.newCall_zip_2 _ _) (fun obj=>F.args_object_init_3 obj _ _) F.entry_zip_new (Fz k1 k2 l1 l2 xs ys) ⟨ha,hb,?_⟩
 have s1:(zA k1 s.heap l1).objs.size=s.heap.objs.size+1:=PQ ..
 have s2:(zB k1 k2 s.heap l1 l2).objs.size=s.heap.objs.size+2:=(PQ ..).trans (by rw[s1])
 have s3:(zC k1 k2 s.heap l1 l2).objs.size=s.heap.objs.size+3:=(PQ ..).trans (by rw[s2])
 have s4:(zD k1 k2 s.heap l1 l2).objs.size=s.heap.objs.size+4:=(PQ ..).trans (by rw[s3])
 have s5:(zE k1 k2 s.heap l1 l2).objs.size=s.heap.objs.size+5:=(PQ ..).trans (by rw[s4])
 have o5:(zE k1 k2 s.heap l1 l2).get? (zD k1 k2 s.heap l1 l2).objs.size=some _:=Pd _ rfl
 have up1:∀ b o,(zD k1 k2 s.heap l1 l2).get? b=some o→(zE k1 k2 s.heap l1 l2).get? b=some o:=fun b o e=>OT _ e
 have o4:(zE k1 k2 s.heap l1 l2).get? (zC k1 k2 s.heap l1 l2).objs.size=some _:=up1 _ _ (Pd _ rfl)
 have up2:∀ b o,(zC k1 k2 s.heap l1 l2).get? b=some o→(zE k1 k2 s.heap l1 l2).get? b=some o:=fun b o e=>up1 b o (OT _ e)
 have o3:(zE k1 k2 s.heap l1 l2).get? (zB k1 k2 s.heap l1 l2).objs.size=some _:=up2 _ _ (Pd _ rfl)
 have up3:∀ b o,(zB k1 k2 s.heap l1 l2).get? b=some o→(zE k1 k2 s.heap l1 l2).get? b=some o:=fun b o e=>up2 b o (OT _ e)
 have o2:(zE k1 k2 s.heap l1 l2).get? (zA k1 s.heap l1).objs.size=some (itO k2 l2):=up3 _ _ (Pd _ rfl)
 have up4:∀ b o,(zA k1 s.heap l1).get? b=some o→(zE k1 k2 s.heap l1 l2).get? b=some o:=fun b o e=>up3 b o (OT _ e)
 have o1:(zE k1 k2 s.heap l1 l2).get? s.heap.objs.size=some (itO k1 l1):=up4 _ _ (Pd _ rfl)
 have mk:∀(k:Bool) (b a:Addr),(zE k1 k2 s.heap l1 l2).get? b=some (itO k a)→SI k (zE k1 k2 s.heap l1 l2) b a 0:=fun k b a e=>by cases k<;>exact⟨_,e,rfl,rfl⟩
 show _∧_
 rw[s2,s3,s4]at o5
 rw[s1,s2]at o3
 rw[s3]at o4
 rw[s1]at o2
 rw[s4]
 exact⟨⟨_,o5,rfl⟩,q _ o5 o3 o4 (mk _ _ _ o1) (mk _ _ _ o2) s5 fun b o e=>up4 b o (OT _ e)⟩
end
end L2
namespace L2
open PySem PySem.Spec PyProof.Rows
section
variable {X:Cx} {pins:List (Addr × Obj)} {σ:St} {H:Hp} {s:Shared} {h':Heap}
theorem Inv.turnedN{t':Nat}{ch:List Addr}(I:Inv X pins σ H s)(k:∀ b o,b∉ch→s.heap.get? b=some o→h'.get? b=some o)(hf:∀ b∈ch,R5 X pins H b):Inv X pins σ H { s with heap:=h',toks:=t' }:=by
 have nit:∀ b u,H b=some u→b∉ch:=fun b u e z=>by rw[(hf b z).1]at e;cases e
 refine I.step (g':=s.gens) (d':=s.drawn) (ch:=ch) (fun b hb=>?_) (fun b o _ _ hc e _=>k b o hc e) (fun b o _ _ hc e _=>⟨o.slots,k b o hc e⟩) (fun _ _ _ _ n=>n)
  (fun b o hc e=>⟨o,k b o hc e⟩) (fun _ _ e=>e) (fun _ _ _ e=>e) (fun b ps e=>⟨#[],by rw[e];simp⟩) (fun m hm=>?_) (fun b u e=>?_) I.bare
 ·obtain⟨_,q1,_,q3,q4,q5⟩:=hf b hb
  exact⟨q3,q1,q4,q5⟩
 ·obtain⟨o,es,ep,ho,r⟩:=hm
  exact⟨o,es,ep,k _ o (fun z=>(hf _ z).2.1 rfl) ho,r⟩
 ·refine(I.hok b u e).stay (fun c v hc q=>k c v ?_ q) (fun _ q=>q) fun _ _ q=>q
  rcases hc with z|z
  ·rw[z];exact nit b u e
  ·exact nit c _ z
end
def SqK(K:OR)(k:Bool)(H:Hp)(a:Addr)(xs:List V):Prop:=if k=true then SqL K H a xs else SqT K H a xs
theorem Inv.sqk{X:Cx}{pins:List (Addr × Obj)}{σ:St}{H:Hp}{s:Shared}(I:Inv X pins σ H s){k:Bool}{a:Addr}{xs:List V}(h:SqK X.K k H a xs):∃ its:List Value,j8 xs its∧SS k s.heap a its.toArray:=by
 cases k with
 | true =>
  obtain⟨its,r,p,_⟩:=I.list (show SqL X.K H a xs from h)
  exact⟨its,r,p.isList⟩
 | false =>
  obtain⟨its,r,p,_⟩:=I.tuple (show SqT X.K H a xs from h)
  exact⟨its,r,p⟩
theorem Inv.sqk_inj{X:Cx}{pins:List (Addr × Obj)}{σ:St}{H:Hp}{s:Shared}(I:Inv X pins σ H s){k:Bool}{a:Addr}{xs ys:List V}(h:SqK X.K k H a xs)(h2:SqK X.K k H a ys):xs=ys:=by
 cases k with
 | true=>exact I.list_inj (show SqL X.K H a xs from h) (show SqL X.K H a ys from h2)
 | false=>exact I.tuple_inj (show SqT X.K H a xs from h) (show SqT X.K H a ys from h2)
noncomputable def Itz(K:OR)(k1 k2:Bool)(l1 l2:Addr):It :=
 ⟨fun i H=>∃ xs ys x y,SqK K k1 H l1 xs∧SqK K k2 H l2 ys∧xs[i]? = some x∧ys[i]? = some y,
  fun i H v H'=>∃ T x y,H T=none∧v = .ref T∧H'=upd H T (.tup [x,y])∧(∀ xs,SqK K k1 H l1 xs→xs[i]? = some x)∧∀ ys,SqK K k2 H l2 ys→ys[i]? = some y,
  fun i H=>∃ xs ys,SqK K k1 H l1 xs∧SqK K k2 H l2 ys∧(xs.length≤i∨ys.length≤i)⟩
def Lc(k1 k2:Bool)(z TI TO p1 p2 l1 l2:Addr)(i:Nat)(h:Heap):Prop:=IsZip h z TI TO .none∧IsPair h TI (.ref p1) (.ref p2)∧(∃ a b,IsPair h TO a b)∧SI k1 h p1 l1 i∧SI k2 h p2 l2 i
theorem xk{P:Program}{w:World}{K:OR}{elts:List Expr}{kx:Nat}{tp:Pos}{k1 k2:Bool}{z TI TO p1 p2 l1 l2:Addr}(D:ZipApart z TI TO p1 p2 l1 l2) :
  la P w K (.Tuple elts kx tp) (Itz K k1 k2 l1 l2) [z,TI,TO,p1,p2] z (Lc k1 k2 z TI TO p1 p2 l1 l2) where
 mem:=by simp
 obj:=fun i h ⟨iz,iI,⟨a,b,iO⟩,g1,g2⟩ c hc=>by
  simp only[Pb,Pj,or_false]at hc
  rcases hc with rfl|rfl|rfl|rfl|rfl
  ·exact⟨_,iz,fun v e=>by cases e⟩
  ·exact⟨_,iI,fun v e=>by cases e⟩
  ·exact⟨_,iO,fun v e=>by cases e⟩
  ·exact g1.obj
  ·exact g2.obj
 keep:=fun i h h' ⟨iz,iI,⟨a,b,iO⟩,g1,g2⟩ k=>⟨k z (by simp) _ iz,k TI (by simp) _ iI,⟨a,b,k TO (by simp) _ iO⟩,g1.at fun o e=>k p1 (by simp) o e,g2.at fun o e=>k p2 (by simp) o e⟩
 item:=by
  intro X hP hw hK hc i pins s σ H E I hf st hg
  subst hP hw hK
  obtain⟨iz,iI,⟨a,b,iO⟩,g1,g2⟩:=st
  obtain⟨xs,ys,x,y,q1,q2,hx,hy⟩:=hg
  obtain⟨is1,r1,m1⟩:=I.sqk q1
  obtain⟨is2,r2,m2⟩:=I.sqk q2
  obtain⟨u1,hu1,ru1⟩:=r1.get hx
  obtain⟨u2,hu2,ru2⟩:=r2.get hy
  refine Ao D iz iI iO g1 g2 m1 m2 (v1:=u1) (v2:=u2) (by simpa using hu1) (by simpa using hu2) fun h' a1 a2 a3 a4 a5 a6 kk=>?_
  refine⟨_,rfl,?_⟩
  refine wpAny_letOwnedTupleGo_zip (s:={ s with heap:=h' }) a1 fun h2 b1 b2=>?_
  have lt:∀{c o},s.heap.get? c=some o→c≠s.heap.objs.size:=fun e=>Pu (OY e)
  have nz:s.heap.objs.size≠z:=Ne.symm (lt iz)
  have I1:Inv X pins σ (upd H s.heap.objs.size (.tup [x,y])) { s with heap:=s.heap.push { cls:=.type "tuple",data:=.seq #[u1,u2] },toks:=s.toks } :=
   I.laid (o:=.tup [x,y]) (fun b ob q=>OT _ q) (Pe _) ⟨(show 2≤sizeLine by decide),[u1,u2],.cons ru1 (.cons ru2 .nil),IsTup.new _ _⟩
  have nfp:∀ c∈[z,TI,TO,p1,p2],c≠s.heap.objs.size:=fun c hc=>by
   simp only[Pb,Pj,or_false]at hc
   rcases hc with rfl|rfl|rfl|rfl|rfl
   ·exact lt iz
   ·exact lt iI
   ·exact lt iO
   ·obtain⟨o,e,_⟩:=g1.obj;exact lt e
   ·obtain⟨o,e,_⟩:=g2.obj;exact lt e
  have hf':∀ c∈[z,TI,TO,p1,p2],R5 X pins (upd H s.heap.objs.size (.tup [x,y])) c:=fun c hc=>by
   obtain⟨f0,f1⟩:=hf c hc
   exact⟨by rw[i8 (nfp c hc)];exact f0,f1⟩
  have I2:Inv X pins σ (upd H s.heap.objs.size (.tup [x,y])) { s with heap:=h2,toks:=s.toks }:=by
   refine Inv.turnedN (s:={ s with heap:=s.heap.push { cls:=.type "tuple",data:=.seq #[u1,u2] },toks:=s.toks }) (t':=s.toks) (h':=h2) (ch:=[z,TI,TO,p1,p2]) I1 (fun c o hcn e=>?_) hf'
   simp only[Pb,Pj,or_false,not_or]at hcn
   obtain⟨n1,n2,n3,n4,n5⟩:=hcn
   refine b2.extBut c o n1 ?_
   by_cases hcs:c=s.heap.objs.size
   ·subst hcs
    have e':(s.heap.push { cls:=.type "tuple",data:=.seq #[u1,u2] }).get? s.heap.objs.size=some o:=e
    rw[Pd _ rfl]at e'
    cases e'
    exact a5
   ·have e':(s.heap.push { cls:=.type "tuple",data:=.seq #[u1,u2] }).get? c=some o:=e
    have hlt:c<s.heap.objs.size:=by
     have:=OY e'
     rw[PQ]at this
     exact Nat.lt_of_le_of_ne (Nat.le_of_lt_succ this) hcs
    have hold:s.heap.get? c=some o:=by
     have:∃ o',s.heap.get? c=some o':=by
      cases q:s.heap.get? c with
      | some o'=>exact⟨o',rfl⟩
      | none=>exact absurd e' (by rw[Sm _ _ _ hcs];rw[q];exact fun z=>nomatch z)
     obtain⟨o',ho'⟩:=this
     have:=OT { cls:=.type "tuple",data:=.seq #[u1,u2] } ho'
     rw[e']at this
     cases this;exact ho'
    exact kk c o n1 n3 n4 n5 hold
  refine⟨.ref s.heap.objs.size,_,I2,rfl,⟨_,x,y,I.hok.fresh (Pe _),rfl,rfl,fun zs hz=>by rw[I.sqk_inj hz q1];exact hx,fun zs hz=>by rw[I.sqk_inj hz q2];exact hy⟩,?_,fun c hc=>(hf' c hc).1⟩
  have lift:∀ c o,c≠z→h'.get? c=some o→h2.get? c=some o:=fun c o n e=>b2.extBut c o n e
  exact⟨b1,lift _ _ D.TIz (kk _ _ D.TIz D.TITO D.TIi1 D.TIi2 iI),⟨_,_,lift _ _ D.TOz a2⟩,a3.at fun o e=>lift _ o D.i1z e,a4.at fun o e=>lift _ o D.i2z e⟩
 done:=by
  intro X hP hw hK hc i pins s σ H E I hf st hg
  subst hP hw hK
  obtain⟨iz,iI,⟨a,b,iO⟩,g1,g2⟩:=st
  obtain⟨xs,ys,q1,q2,hx⟩:=hg
  obtain⟨is1,r1,m1⟩:=I.sqk q1
  obtain⟨is2,r2,m2⟩:=I.sqk q2
  have e1:=r1.length
  have e2:=r2.length
  refine FA (I.ok.hd hc) D iz iI iO g1 g2 m1 m2 (hx.elim (fun h=>.inl (by simp;omega)) fun h=>.inr (by simp;omega)) fun h' kk=>⟨rfl,?_⟩
  refine I.turnedN (t':=s.toks) (ch:=[z,TI,TO,p1,p2]) (fun c o hcn e=>?_) hf
  simp only[Pb,Pj,or_false,not_or]at hcn
  obtain⟨n1,n2,n3,n4,n5⟩:=hcn
  exact kk c o n1 n3 n4 n5 e
 self:=fun _ _ _ _ _ st h=>wpAny_pyIter_zip st.1 h
def LN(K:OR)(ta:TA):TI:=fun σ H R=>ta σ H fun vs H1=>∃ k1 k2 l1 l2,vs=[.ref l1,.ref l2]∧(∃ xs,SqK K k1 H1 l1 xs)∧(∃ ys,SqK K k2 H1 l2 ys)∧R (Itz K k1 k2 l1 l2) H1
theorem GH{X:Cx}{elts:List Expr}{kx:Nat}{tp:Pos}{a b:Expr}{ta:TA}{p pos:Pos}(hg:Gl X "zip")(hm:X.mg "zip" = none)(ha:PA X [a,b] ta)
  (hs:starEach [a,b] X.env=[(false,eval a X.env),(false,eval b X.env)]:=by rfl) (hs2:starEach [b] X.env=[(false,eval b X.env)]:=by rfl):PI X (.Tuple elts kx tp) (.Call (.Name "zip" p) [a,b] [] pos) (LN X.K ta):=by
 intro pins s σ H R I h
 refine Call_ (bZ I hg hm PyProof.Rows.boot_zip (PyProof.Rows.callWith_type1 (thn (ha pos pins s σ H _ I h) fun us s1 ⟨vs,H1,I1,r1,q1⟩=>?_) (by rw[hs,hs2]) (by rw[hs2];rfl)))
 obtain⟨k1,k2,l1,l2,e,⟨xs,q2⟩,⟨ys,q3⟩,q⟩:=q1
 subst e
 cases r1 with
 | cons r rr =>
  cases rr with
  | cons r' rr =>
   cases rr
   cases r
   cases r'
   obtain⟨is1,_,m1⟩:=I1.sqk q2
   obtain⟨is2,_,m2⟩:=I1.sqk q3
   have lt1:l1<s1.heap.objs.size:=by obtain⟨o,e⟩:=m1.obj;exact OY e
   have lt2:l2<s1.heap.objs.size:=by obtain⟨o,e⟩:=m2.obj;exact OY e
   refine CW m1 m2 fun h' a1 a2 a3 a4 a5 a6 kk=>?_
   refine wpAny_pyIter_zip (s:={ s1 with heap:=h' }) a1 ?_
   have D:ZipApart (s1.heap.objs.size+4) (s1.heap.objs.size+2) (s1.heap.objs.size+3) s1.heap.objs.size (s1.heap.objs.size+1) l1 l2:=PyProof.Rows.zipApart_new lt1 lt2
   refine⟨s1.heap.objs.size+4,_,_,_,H1,rfl,I1.kept (t':=s1.toks) kk,xk D,⟨a1,a2,⟨_,_,a3⟩,a4,a5⟩,fun c hc=>?_,q⟩
   have hge:s1.heap.objs.size≤c:=by
    simp only[Pb,Pj,or_false]at hc
    rcases hc with rfl|rfl|rfl|rfl|rfl
    ·exact QC _ _
    ·exact QC _ _
    ·exact QC _ _
    ·exact Pe _
    ·exact QC _ _
   exact I1.fpOk hge (I1.hok.fresh hge)
section
variable {X:Cx} {pins:List (Addr × Obj)} {σ:St} {H:Hp} {s:Shared} {p:Addr}
theorem Inv.swap{a b:HO}(I:Inv X pins σ H s)(hp:H p=some a)(ha:(∀ x,a ≠ .own x)∧∀ xs,a ≠ .tup xs)(h1:∀ xs,X.H₀ p≠some (.tup xs))(h2:∀ o u,X.H₀ p≠some (.frz o u))(h3:∀ ps,X.H₀ p≠some (.tbl ps))
  (new:C5 X.prog X.w H s.heap p b):Inv X pins σ (upd H p b) s:=by
 have ne:∀{c:Addr},H c=none→c≠p:=fun{c} q z=>by subst z;rw[hp]at q;cases q
 have st:∀{c:Addr} {o:HO},C5 X.prog X.w H s.heap c o→C5 X.prog X.w (upd H p b) s.heap c o:=fun{c o} x =>
  x.stay (fun _ _ _ q=>q) (fun d q=>by
   have:d≠p:=by intro z;subst z;rw[hp]at q;cases q;exact ha.1 _ rfl
   rw[i8 this];exact q) fun d xs q=>by
   have:d≠p:=by intro z;subst z;rw[hp]at q;cases q;exact ha.2 _ rfl
   rw[i8 this];exact q
 refine⟨I.ok,I.os,I.bare,⟨I.base.keep,I.base.slot,fun c o e n x=>?_,I.base.there,fun c xs q=>?_,fun c o u q=>?_,fun c ps q=>?_⟩,I.loc,I.cell,?_,fun x c e=>?_,fun q hq=>?_,fun c o q=>?_,I.len⟩
 ·have:=I.base.free c o e n x
  rw[i8 (ne this)];exact this
 ·have:c≠p:=by intro z;subst z;exact h1 xs q
  rw[i8 this];exact I.base.tups c xs q
 ·have:c≠p:=by intro z;subst z;exact h2 o u q
  rw[i8 this];exact I.base.frzs c o u q
 ·have:c≠p:=by intro z;subst z;exact h3 ps q
  rw[i8 this];exact I.base.tbls c ps q
 ·rw[i8 (ne I.free)];exact I.free
 ·rw[i8 (ne (I.freeC x c e))];exact I.freeC x c e
 ·obtain⟨a1,a2,a3,a4,a5⟩:=I.pin q hq
  exact⟨a1,by rw[i8 (ne a2)];exact a2,a3,a4,a5⟩
 ·by_cases z:c=p
  ·subst z;rw[i6]at q;cases q;exact st new
  ·rw[i8 z]at q;exact st (I.hok c o q)
theorem Inv.freeze{xs:List V}(I:Inv X pins σ H s)(hp:H p=some (.lst xs)):∃ o,Inv X pins σ (upd H p (.frz o (.lst xs))) s:=by
 have k:=I.hok p _ hp
 obtain⟨z,its,n,r,e⟩:=id k
 refine⟨_,I.swap hp ⟨fun _ q=>(nomatch q),fun _ q=>(nomatch q)⟩ (fun ys q=>?_) (fun o u q=>?_) (fun ps q=>?_) ⟨e,k⟩⟩
 ·rw[I.base.tups p ys q]at hp;cases hp
 ·rw[I.base.frzs p o u q]at hp;cases hp
 ·obtain⟨more,q⟩:=I.base.tbls p ps q;rw[q]at hp;cases hp
structure Fw(X:Cx)(p:Addr):Prop where
 t:∀ xs,X.H₀ p≠some (.tup xs)
 f:∀ o u,X.H₀ p≠some (.frz o u)
 b:∀ ps,X.H₀ p≠some (.tbl ps)
theorem Inv.loose{xs:List V}(I:Inv X pins σ H s)(hp:H p=some (.lst xs)):Fw X p :=
 ⟨fun ys q=>(by rw[I.base.tups p ys q]at hp;cases hp),fun o u q=>(by rw[I.base.frzs p o u q]at hp;cases hp),fun ps q=>(by obtain⟨more,q⟩:=I.base.tbls p ps q;rw[q]at hp;cases hp)⟩
def Jx(t:TE):TE:=fun σ H Q=>t σ H fun v H1=>∃ p xs,v = .ref p∧H1 p=some (.lst xs)∧∀ o,Q v (upd H1 p (.frz o (.lst xs)))
theorem bT{x:Expr}{t:TE}(h:PE X x t):PE X x (Jx t):=fun pins s σ H Q I q =>
 wpAny_mono (h pins s σ H _ I q) (fun u s1 zz=>by
  obtain⟨v,H1,I1,r,p,xs,e,hp,q1⟩:=zz
  obtain⟨o,I2⟩:=I1.freeze hp
  exact⟨v,_,I2,r,q1 o⟩) fun _ _ z=>z
theorem Gy{i:Nat}{y:Str}{pos':Pos}{x:Expr}{t:TE}(h:PU X i y pos' x t):PU X i y pos' x (Jx t):=fun pins s σ H Q I q =>
 wpAny_mono (h pins s σ H _ I q) (fun u s1 zz=>by
  obtain⟨v,H1,I1,p,xs,e,hp,q1⟩:=zz
  obtain⟨o,I2⟩:=I1.freeze hp
  exact⟨v,_,I2,q1 o⟩) fun _ _ z=>z
def Jw(t:TE):TE:=fun σ H Q=>t σ H fun v H1=>(∃ p xs,v = .ref p∧H1 p=some (.lst xs)∧∀ o,Q v (upd H1 p (.frz o (.lst xs))))∨Q v H1
theorem BW{x:Expr}{t:TE}(h:PE X x t):PE X x (Jw t):=fun pins s σ H Q I q =>
 wpAny_mono (h pins s σ H _ I q) (fun u s1 zz=>by
  obtain⟨v,H1,I1,r,z⟩:=zz
  rcases z with⟨p,xs,e,hp,q1⟩|q1
  ·obtain⟨o,I2⟩:=I1.freeze hp
   exact⟨v,_,I2,r,q1 o⟩
  ·exact⟨v,H1,I1,r,q1⟩) fun _ _ z=>z
noncomputable def N9(p:Addr)(xs:List V):HO:=.ext fun h=>xs.length≤sizeLine∧∃(its:List Value) (n:Nat),j8 xs its∧h.get? p=some { cls:=.type "list",data:=.seq its.toArray n }
theorem Inv.hide{xs:List V}(I:Inv X pins σ H s)(hp:H p=some (.lst xs)):Inv X pins σ (upd H p (N9 p xs)) s:=by
 have k:=I.hok p _ hp
 have l:=I.loose hp
 obtain⟨z,its,n,r,e⟩:=id k
 exact I.swap hp ⟨fun _ q=>(nomatch q),fun _ q=>(nomatch q)⟩ l.t l.f l.b ⟨⟨z,its,n,r,e⟩,⟨_,e⟩,fun h1 h2 ⟨z,its,n,r,e⟩ k=>⟨z,its,n,r,k _ e⟩⟩
theorem Inv.show'{xs:List V}(I:Inv X pins σ H s)(l:Fw X p)(hp:H p=some (N9 p xs)):Inv X pins σ (upd H p (.lst xs)) s:=by
 obtain⟨k,_,_⟩:=I.hok p _ hp
 exact I.swap hp ⟨fun _ q=>(nomatch q),fun _ q=>(nomatch q)⟩ l.t l.f l.b k
def mn(p:Addr)(t:TE):TE:=fun σ H Q=>∃ xs,H p=some (.lst xs)∧t σ (upd H p (N9 p xs)) fun v H1=>H1 p=some (N9 p xs)∧Q v (upd H1 p (.lst xs))
theorem dN{x:Expr}{t:TE}(h:PE X x t):PE X x fun σ H Q=>∃ p,mn p t σ H Q:=fun pins s σ H Q I ⟨p,xs,hp,q⟩ =>
 wpAny_mono (h pins s σ _ _ (I.hide hp) q) (fun u s1 ⟨v,H1,I2,r,hp1,q1⟩=>⟨v,_,I2.show' (I.loose hp) hp1,r,q1⟩) fun _ _ z=>z
def oJ(p:Addr)(t:TT):TT:=fun σ H Q=>∃ xs,H p=some (.lst xs)∧t σ (upd H p (N9 p xs)) fun v H1=>H1 p=some (N9 p xs)∧Q v (upd H1 p (.lst xs))
theorem X7{ifs:List Expr}{t:TT}(h:Y6 X ifs t):Y6 X ifs fun σ H Q=>∃ p,oJ p t σ H Q:=fun pins s σ H Q I ⟨p,xs,hp,q⟩ =>
 wpAny_mono (h pins s σ _ _ (I.hide hp) q) (fun u s1 ⟨H1,I2,hp1,q1⟩=>⟨_,I2.show' (I.loose hp) hp1,q1⟩) fun _ _ z=>z
def oK(p:Addr)(g:TG):TG:=fun v σ H Q=>∃ xs,H p=some (.lst xs)∧g v σ (upd H p (N9 p xs)) fun σ1 H1=>H1 p=some (N9 p xs)∧Q σ1 (upd H1 p (.lst xs))
theorem dM{tg:Expr}{g:TG}(h:PG X tg g):PG X tg fun v σ H Q=>∃ p,oK p g v σ H Q:=fun pins s σ H v u Q I r ⟨p,xs,hp,q⟩ =>
 wpAny_mono (h pins s σ _ v u _ (I.hide hp) r q) (fun u s1 ⟨σ1,H1,I2,hp1,q1⟩=>⟨σ1,_,I2.show' (I.loose hp) hp1,q1⟩) fun _ _ z=>z
end
section
variable {X:Cx} {pos:Pos}
end
section
variable {X:Cx} {e:Expr} {te:TE} {st:Expr} {ts:TO} {pos p2:Pos}
end
theorem uP:typeLookup (.type "list_reverseiterator") "__len__" = pure none:=by rw[typeLookup_type,builtinLookup_eq_fast];kernel_rfl
theorem pV:typeLookup (.type "list_reverseiterator") "__length_hint__" = pure (some (.builtin "list_reverseiterator.__length_hint__")):=by rw[typeLookup_type,builtinLookup_eq_fast];kernel_rfl
section
variable {prog:Program} {w:World} {A:Around} {E:Value→Shared→Prop} {s:Shared}
theorem xU{it l:Addr}{i:Int}{Q:Bool→Shared→Prop}(hit:s.heap.IsRevIter it l i)(h:Q false s):wpAny (model prog w) A (Builtin.List.listLengthHint (.ref it)) Q E s:=by
 have hT:=hit.typeIs
 unfold Builtin.List.listLengthHint
 refine OS (wpAny_specialOf hT uP ?_)
 show wpAny _ A (specialOf (Value.ref it) (Str.ofString "__length_hint__") >>= _) Q E s
 refine OS (wpAny_specialOf hT pV ?_)
 generalize hv:("list_reverseiterator.__length_hint__" : String)=nm
 wp_delta
 rw[show splitId nm=some ("list_reverseiterator","__length_hint__")by subst hv;decide +kernel]
 subst hv
 refine OS (wpAny_isInstance (T := "list_reverseiterator") (b:=true) hT (by rw[isSubtype_type];kernel_rfl) ?_)
 refine wpAny_ite_split (fun z=>absurd z (by decide)) (fun _=>?_)
 refine wpAny_ite_split (fun _=>?_) (fun z=>absurd (by decide +kernel) z)
 refine wpAny_ite_split (fun z=>absurd z (by decide)) (fun _=>?_)
 exact Pf h
noncomputable abbrev uq(items:Array Value):Nat→Value→Prop:=fun j x=>items[items.size - 1 - j]? = some x
noncomputable abbrev LZ(prog:Program)(w:World)(A:Around)(R:Result→Shared→Prop):Fin→Shared→Prop:=fun z s'=>match z with|.done f=>R (.ok f) s'|.again c'=>c'.quiet=true∧codeAny (model prog w) A c' R s'
end
section
variable {X:Cx}
noncomputable def BG(p a:Addr)(n:Nat):Heap→Prop:=fun h=>h.get? p=some (revObj a ((n:Int) - 1))
noncomputable def ji(H:Hp)(a:Addr):Hp:=fun b=>if b=a then none else H b
theorem G1{H:Hp}{a b:Addr}(h:b≠a):ji H a b=H b:=if_neg h
theorem fX{H:Hp}{a:Addr}:ji H a a=none:=if_pos rfl
theorem nU:A3 X (.type "reversed") (fun xs H Q=>∃ a ys,xs=[.ref a]∧SqL X.K H a ys∧∀ p,H p=none→p≠a→X.s₀.heap.objs.size≤p→Q (.ref p) (upd H p (.ext (BG p a ys.length)))):=by
 intro pins s σ H xs us Q I rv h
 obtain⟨a,ys,rfl,sq,q⟩:=h
 obtain⟨u,rfl,ru⟩:=rv.one
 cases ru
 obtain⟨its,r,ht,hz⟩:=I.list sq
 have hl:=r.length
 obtain⟨o,ho,_⟩:=id ht.isList
 refine call_reversed_list ht.isList ⟨.ref s.heap.objs.size,_,I.laid (t':=s.toks) (o:=.ext (BG s.heap.objs.size a ys.length)) (fun b u e=>OT _ e) (Pe _) ?_,rfl,q _ I.fresh (Qm (OY ho)) I.sz⟩
 have e:(s.heap.push (revObj a ((its.toArray.size:Int) - 1))).get? s.heap.objs.size=some (revObj a ((ys.length:Int) - 1)):=by
  rw[Pd _ rfl,hl];rfl
 exact⟨e,⟨_,e⟩,fun h1 h2 z k=>k _ z⟩
theorem uF{items:Array Value}{acc:Array Value}(h:ItemsOf (uq items) acc items.size):acc.toList=items.toList.reverse:=by
 obtain⟨h1,h2⟩:=h
 apply Sw
 ·rw[Sa,Array.length_toList,Array.length_toList,h1]
 ·intro j g1 g2
  rw[Array.length_toList]at g1
  have e:=h2 j acc[j] (Array.getElem?_eq_getElem g1)
  have e2:items.size - 1 - j<items.size:=by omega
  have e3:items[items.size - 1 - j]? = some (items[items.size - 1 - j]'e2):=Array.getElem?_eq_getElem e2
  have e4:items[items.size - 1 - j]'e2=acc[j]:=Option.some.inj (e3.symm.trans e)
  rw[List.getElem_reverse,Array.getElem_toList,Array.getElem_toList,← e4]
  congr 1
end
section
variable {X:Cx}
end
section
variable {prog:Program} {w:World} {A:Around} {E:Value→Shared→Prop} {s:Shared}
end
section
variable {prog:Program} {w:World} {A:Around} {E:Value→Shared→Prop} {s:Shared}
end
section
variable {X:Cx}
end
section
variable {prog:Program} {w:World} {A:Around} {E:Value→Shared→Prop} {s:Shared}
end
section
variable {X:Cx}
end
section
variable {prog:Program} {w:World} {A:Around} {E:Value→Shared→Prop} {s:Shared}
end
section
variable {X:Cx} {pos:Pos}
end
section
variable {X:Cx}
end
section
variable {prog:Program} {w:World} {A:Around} {E:Value→Shared→Prop} {s:Shared}
end
end L2
namespace L2
open PySem
section
variable {prog:Program} {w:World} {A:Around} {E:Value→Shared→Prop} {s:Shared}
theorem zo{k:Bool}{e p l:Addr}{n:Nat}{xs:Array Value}{v old:Value}{Q:Option Value→Shared→Prop}(ie:IsEnum s.heap e p n old)(g:SI k s.heap p l n)(m:SS k s.heap l xs)(hv:xs[n]? = some v)(hne:e≠p)
  (q:∀ h',IsEnumOut h' e p ((n:Int)+1) v s.heap.objs.size→SI k h' p l (n+1)→h'.get? s.heap.objs.size=some { cls:=.type "tuple",data:=.seq #[.int n s.toks,v] }→h'.objs.size=s.heap.objs.size+1 →
   (∀ b o,b≠e→b≠p→s.heap.get? b=some o→h'.get? b=some o)→Q (some (.ref s.heap.objs.size)) { s with heap:=h',toks:=s.toks+1 }):wpAny (model prog w) A (pyNext (.ref e)) Q E s:=by
 have ty:s.TypeIs (.ref e) "enumerate" := ⟨_,ie,rfl⟩
 unfold pyNext
 refine OS (wpAny_attempt (wpAny_callSpecial?_slot (name:=Str.ofString "__next__") ty F.slot_enumerate_next (wpAny_call_entry F.slot_enumerate_next ty F.entry_enumerate_next ?_ (F.args_enumerate_next_1 _))))
 obtain⟨hp,gs,dr,tk,os⟩:=s
 show wpAny _ _ (field (.ref e) 2 >>= _) _ _ _
 refine OS (wpAny_field ie rfl (x:=.ref p) rfl (OS (dg g m hv fun ha ga sa=>?_)))
 replace sa:Heap.SameBut p hp ha:=sa
 have ea:IsEnum ha e p n old:=(sa.2 e hne).trans ie
 show wpAny _ _ (field (.ref e) 3 >>= _) _ _ ⟨ha,gs,dr,tk,os⟩
 refine OS (wpAny_field ea rfl (x:=rawInt n) rfl ?_)
 show wpAny _ _ (field (.ref e) 4 >>= _) _ _ ⟨ha,gs,dr,tk,os⟩
 refine OS (wpAny_field ea rfl (x:=.none) rfl ?_)
 show wpAny _ _ (mkInt n >>= _) _ _ ⟨ha,gs,dr,tk,os⟩
 refine OS (wpAny_mkInt ?_)
 show wpAny _ _ (setField (.ref e) 3 (rawInt ((n:Int)+1)) >>= _) _ _ ⟨ha,gs,dr,tk+1,os⟩
 refine OS (wpAny_setField_rec ea (by simp) fun hb eb sb=>?_)
 replace sb:Heap.SameBut e ha hb:=sb
 replace eb:IsEnum hb e p ((n:Int)+1) old:=eb
 show wpAny _ _ (setField (.ref e) 4 .none >>= _) _ _ ⟨hb,gs,dr,tk+1,os⟩
 refine OS (wpAny_setField_rec eb (by simp) fun hc ec sc=>?_)
 replace sc:Heap.SameBut e hb hc:=sc
 replace ec:IsEnum hc e p ((n:Int)+1) old:=ec
 show wpAny _ _ (newTuple [.int n tk,v] >>= _) _ _ ⟨hc,gs,dr,tk+1,os⟩
 refine OS (wpAny_newTuple ?_)
 have zc:hc.objs.size=hp.objs.size:=by rw[sc.1,sb.1,sa.1]
 have ltE:e<hp.objs.size:=OY ie
 obtain⟨hd,hhd⟩:∃ hd,hd=hc.push { cls:=.type "tuple",data:=.seq #[.int n tk,v] }:=⟨_,rfl⟩
 have ed:IsEnum hd e p ((n:Int)+1) old:=by rw[hhd];exact OT _ ec
 have td:hd.get? hp.objs.size=some { cls:=.type "tuple",data:=.seq #[.int n tk,v] }:=by rw[hhd,← zc];exact Pd _ rfl
 have zd:hd.objs.size=hp.objs.size+1:=by rw[hhd,PQ,zc]
 have kd:∀ b o,b≠e→b≠p→hp.get? b=some o→hd.get? b=some o:=fun b o b1 b2 z=>by rw[hhd];exact OT _ (sc.extBut b o b1 (sb.extBut b o b1 (sa.extBut b o b2 z)))
 have gd:SI k hd p l (n+1):=((ga.but sb.extBut (Ne.symm hne)).but sc.extBut (Ne.symm hne)).at fun o z=>by rw[hhd];exact OT _ z
 show wpAny _ _ (Builtin.SmallTypes.ownedTupleIsFree (.ref e) >>= _) _ _ ⟨hc.push { cls:=.type "tuple",data:=.seq #[.int n tk,v] },gs,dr,tk+1,os⟩
 rw[← hhd,zc]
 refine OS ?_;unfold Builtin.SmallTypes.ownedTupleIsFree
 refine OS (wpAny_field ed rfl (x:=.none) rfl (Pf ?_));simp only[if_true]
 refine OS (wpAny_rule (OS (wpAny_field ed rfl (x:=old) rfl (OS (wpAny_setField_rec ed (by simp) fun hf ef sf=>?_)))))
 replace sf:Heap.SameBut e hd hf:=sf
 replace ef:IsEnum hf e p ((n:Int)+1) v:=ef
 show wpAny _ _ (Builtin.SmallTypes.ownedTupleHandOut (.ref e) (.ref hp.objs.size) >>= _) _ _ ⟨hf,gs,dr,tk+1,os⟩
 refine OS ?_;unfold Builtin.SmallTypes.ownedTupleHandOut
 refine OS (wpAny_setField_rec ef (by simp) fun hg eg sg=>?_)
 replace sg:Heap.SameBut e hf hg:=sg
 replace eg:IsEnumOut hg e p ((n:Int)+1) v hp.objs.size:=eg
 refine wpAny_setField_rec eg (by simp) fun hh eh sh=>?_
 replace sh:Heap.SameBut e hg hh:=sh
 replace eh:IsEnumOut hh e p ((n:Int)+1) v hp.objs.size:=eh
 refine OS (wpAny_letGo (Pf ⟨_,rfl,Pf (q hh eh ?_ ?_ ?_ ?_)⟩))
 ·exact((gd.but sf.extBut (Ne.symm hne)).but sg.extBut (Ne.symm hne)).but sh.extBut (Ne.symm hne)
 ·exact sh.extBut _ _ (Qm ltE) (sg.extBut _ _ (Qm ltE) (sf.extBut _ _ (Qm ltE) td))
 ·show hh.objs.size=hp.objs.size+1
  rw[sh.1,sg.1,sf.1,zd]
 ·exact fun b o b1 b2 z=>sh.extBut b o b1 (sg.extBut b o b1 (sf.extBut b o b1 (kd b o b1 b2 z)))
theorem CK{k:Bool}{e p l:Addr}{n:Nat}{xs:Array Value}{old:Value}{Q:Option Value→Shared→Prop}(hA:A.handled=none)(ie:IsEnum s.heap e p n old)(g:SI k s.heap p l n)(m:SS k s.heap l xs)(hv:xs[n]? = none)
  (q:∀ h',Heap.ExtBut p s.heap h'→Q none { s with heap:=h' }):wpAny (model prog w) A (pyNext (.ref e)) Q E s:=by
 have ty:s.TypeIs (.ref e) "enumerate" := ⟨_,ie,rfl⟩
 unfold pyNext
 refine OS (wpAny_attempt (wpAny_callSpecial?_slot (name:=Str.ofString "__next__") ty F.slot_enumerate_next (wpAny_call_entry F.slot_enumerate_next ty F.entry_enumerate_next ?_ (F.args_enumerate_next_1 _))))
 show wpAny _ _ (field (.ref e) 2 >>= _) _ _ _
 refine OS (wpAny_field ie rfl (x:=.ref p) rfl (OS (oP hA g m hv fun h' x he' zz=>?_)))
 obtain⟨o,ho,hc⟩:=zz
 exact OS (wpAny_isInstance (T := "StopIteration") (b:=true) ⟨o,ho,hc⟩ isSubtype_stop (Pf (q _ he')))
end
set_option maxHeartbeats 2000000 in
theorem zp(l:Addr)(xs:Array Value)(n:Nat)(dct:Option Addr)(sl:Array (Option Value)) :
  Meets (Builtin.«enumerate.__new__» ⟨[.type "enumerate",.ref l],[]⟩) (fun _ R s=>s.heap.get? l=some { cls:=.type "tuple",dict:=dct,data:=.seq xs n,slots:=sl } ∧
   R (.ok (.ret (.ref (zA false s.heap l).objs.size))) { s with heap:=(zA false s.heap l).push { cls:=.type "enumerate",data:=.fields #[.none,.bool false,.ref s.heap.objs.size,rawInt 0,.none,.none] } }) :=
 .of_wp fun prog w A R s h=>by
  obtain⟨hp,g,d,tk,os⟩:=s
  obtain⟨hl,h⟩:=h
  have hsub:=sub_enumerate
  have hT:Heap.IsTuple (Shared.heap ⟨hp,g,d,tk,os⟩) l xs:=⟨_,hl,rfl,n,rfl⟩
  wp_walk using AutoSeq1.wpAny_loadPart' hl
  refine wpAny_stack_any fun st=>Pf ?_
  split
  ·rename_i c _ _ _ _ _
   cases(c == Value.type "enumerate")
   ·wp_walk using AutoSeq1.wpAny_loadPart' hl,wpAny_pyIter_tuple hT
    exact⟨_,rfl,h⟩
   ·wp_walk using AutoSeq1.wpAny_loadPart' hl,wpAny_pyIter_tuple hT
    exact⟨_,rfl,h⟩
  ·wp_walk using AutoSeq1.wpAny_loadPart' hl,wpAny_pyIter_tuple hT
   exact⟨_,rfl,h⟩
section
variable {prog:Program} {w:World} {A:Around} {E:Value→Shared→Prop} {s:Shared}
theorem zY{k:Bool}{l:Addr}{xs:Array Value}{Q:Value→Shared→Prop}(m:SS k s.heap l xs)
  (q:∀ h',IsEnum h' (s.heap.objs.size+1) s.heap.objs.size 0 .none→SI k h' s.heap.objs.size l 0→h'.objs.size=s.heap.objs.size+2→(∀ b o,s.heap.get? b=some o→h'.get? b=some o)→Q (.ref (s.heap.objs.size+1)) { s with heap:=h' }) :
  wpAny (model prog w) A (call (.type "enumerate") [.ref l]) Q E s:=by
 cases k with
 | true=>exact call_enumerate_list m q
 | false =>
  obtain⟨⟨c,dct,dt,sl⟩,hl,hc,n,hd⟩:=m
  simp only at hc hd
  subst hc;subst hd
  refine callType_new F.called_enumerate (by decide) (F.typeCall_enumerate_1 _) (F.newCall_enumerate_1 _) (fun obj=>F.args_object_init_2 obj _) F.entry_enumerate_new (zp l xs n dct sl) ⟨hl,?_⟩
  have s1:(zA false s.heap l).objs.size=s.heap.objs.size+1:=PQ ..
  have o1:((zA false s.heap l).push { cls:=.type "enumerate",data:=.fields #[.none,.bool false,.ref s.heap.objs.size,rawInt 0,.none,.none] }).get? (zA false s.heap l).objs.size=some _:=Pd _ rfl
  show _∧_
  rw[s1]at o1 ⊢
  exact⟨⟨_,o1,rfl⟩,q _ o1 ⟨_,OT _ (Pd _ rfl),rfl,rfl⟩ (by rw[PQ,s1]) fun b o e=>OT _ (OT _ e)⟩
end
end L2
namespace L2
open PySem PySem.Spec PyProof.Rows
noncomputable def Ite(K:OR)(k:Bool)(l:Addr):It :=
 ⟨fun i H=>∃ xs x,SqK K k H l xs∧xs[i]? = some x,
  fun i H v H'=>∃ T x,H T=none∧v = .ref T∧H'=upd H T (.tup [.int i,x])∧∀ xs,SqK K k H l xs→xs[i]? = some x,
  fun i H=>∃ xs,SqK K k H l xs∧xs.length≤i⟩
def IB(k:Bool)(e p l:Addr)(i:Nat)(h:Heap):Prop:=(∃ old,IsEnum h e p i old)∧SI k h p l i
theorem uw{P:Program}{w:World}{K:OR}{elts:List Expr}{kx:Nat}{tp:Pos}{k:Bool}{e p l:Addr}(hne:e≠p):la P w K (.Tuple elts kx tp) (Ite K k l) [e,p] e (IB k e p l) where
 mem:=by simp
 obj:=fun i h ⟨⟨old,ie⟩,g⟩ c hc=>by
  simp only[Pb,Pj,or_false]at hc
  rcases hc with rfl|rfl
  ·exact⟨_,ie,fun v z=>by cases z⟩
  ·exact g.obj
 keep:=fun i h h' ⟨⟨old,ie⟩,g⟩ kk=>⟨⟨old,kk e (by simp) _ ie⟩,g.at fun o z=>kk p (by simp) o z⟩
 item:=by
  intro X hP hw hK hc i pins s σ H E I hf st hg
  subst hP hw hK
  obtain⟨⟨old,ie⟩,g⟩:=st
  obtain⟨xs,x,q1,hx⟩:=hg
  obtain⟨is1,r1,m1⟩:=I.sqk q1
  obtain⟨u1,hu1,ru1⟩:=r1.get hx
  refine zo ie g m1 (v:=u1) (by simpa using hu1) hne fun h' a1 a2 a3 a4 kk=>?_
  refine⟨_,rfl,?_⟩
  refine wpAny_letOwnedTupleGo_enum (s:={ s with heap:=h',toks:=s.toks+1 }) a1 fun h2 b1 b2=>?_
  have lt:∀{c o},s.heap.get? c=some o→c≠s.heap.objs.size:=fun z=>Pu (OY z)
  have I1:Inv X pins σ (upd H s.heap.objs.size (.tup [.int i,x])) { s with heap:=s.heap.push { cls:=.type "tuple",data:=.seq #[.int i s.toks,u1] },toks:=s.toks+1 } :=
   I.laid (o:=.tup [.int i,x]) (fun b ob q=>OT _ q) (Pe _) ⟨(show 2≤sizeLine by decide),[.int i s.toks,u1],.cons ⟨_,rfl⟩ (.cons ru1 .nil),IsTup.new _ _⟩
  have nfp:∀ c∈[e,p],c≠s.heap.objs.size:=fun c hc=>by
   simp only[Pb,Pj,or_false]at hc
   rcases hc with rfl|rfl
   ·exact lt ie
   ·obtain⟨o,z,_⟩:=g.obj;exact lt z
  have hf':∀ c∈[e,p],R5 X pins (upd H s.heap.objs.size (.tup [.int i,x])) c:=fun c hc=>by
   obtain⟨f0,f1⟩:=hf c hc
   exact⟨by rw[i8 (nfp c hc)];exact f0,f1⟩
  have I2:Inv X pins σ (upd H s.heap.objs.size (.tup [.int i,x])) { s with heap:=h2,toks:=s.toks+1 }:=by
   refine Inv.turnedN (s:={ s with heap:=s.heap.push { cls:=.type "tuple",data:=.seq #[.int i s.toks,u1] },toks:=s.toks+1 }) (t':=s.toks+1) (h':=h2) (ch:=[e,p]) I1 (fun c o hcn z=>?_) hf'
   simp only[Pb,Pj,or_false,not_or]at hcn
   obtain⟨n1,n2⟩:=hcn
   refine b2.extBut c o n1 ?_
   have z':(s.heap.push { cls:=.type "tuple",data:=.seq #[.int i s.toks,u1] }).get? c=some o:=z
   by_cases hcs:c=s.heap.objs.size
   ·subst hcs
    rw[Pd _ rfl]at z'
    cases z'
    exact a3
   ·rw[Sm _ _ _ hcs]at z'
    exact kk c o n1 n2 z'
  refine⟨.ref s.heap.objs.size,_,I2,rfl,⟨_,x,I.hok.fresh (Pe _),rfl,rfl,fun zs hz=>by rw[I.sqk_inj hz q1];exact hx⟩,?_,fun c hc=>(hf' c hc).1⟩
  have ec:((i+1:Nat):Int)=(i:Int)+1:=by omega
  exact⟨⟨u1,by rw[ec];exact b1⟩,a2.at fun o z=>b2.extBut p o (Ne.symm hne) z⟩
 done:=by
  intro X hP hw hK hc i pins s σ H E I hf st hg
  subst hP hw hK
  obtain⟨⟨old,ie⟩,g⟩:=st
  obtain⟨xs,q1,hx⟩:=hg
  obtain⟨is1,r1,m1⟩:=I.sqk q1
  have e1:=r1.length
  refine CK (I.ok.hd hc) ie g m1 (by simp;omega) fun h' kk=>⟨rfl,?_⟩
  refine I.turnedN (t':=s.toks) (ch:=[e,p]) (fun c o hcn z=>?_) hf
  simp only[Pb,Pj,or_false,not_or]at hcn
  exact kk c o hcn.2 z
 self:=fun _ _ _ _ _ st h=>let ⟨⟨_,ie⟩,_⟩:=st;wpAny_pyIter_enum ie h
def Kq(K:OR)(ta:TA):TI:=fun σ H R=>ta σ H fun vs H1=>∃ k l,vs=[.ref l]∧(∃ xs,SqK K k H1 l xs)∧R (Ite K k l) H1
theorem BR{X:Cx}{elts:List Expr}{kx:Nat}{tp:Pos}{a:Expr}{ta:TA}{p pos:Pos}(hg:Gl X "enumerate")(hm:X.mg "enumerate" = none)(ha:PA X [a] ta)(hs:starEach [a] X.env=[(false,eval a X.env)]:=by rfl) :
  PI X (.Tuple elts kx tp) (.Call (.Name "enumerate" p) [a] [] pos) (Kq X.K ta):=by
 intro pins s σ H R I h
 refine Call_ (bZ I hg hm PyProof.Rows.boot_enumerate (PyProof.Rows.callWith_type1 (thn (ha pos pins s σ H _ I h) fun us s1 ⟨vs,H1,I1,r1,q1⟩=>?_) hs rfl))
 obtain⟨k,l,e,⟨xs,q2⟩,q⟩:=q1
 subst e
 cases r1 with
 | cons r rr =>
  cases rr
  cases r
  obtain⟨is1,_,m1⟩:=I1.sqk q2
  refine zY m1 fun h' a1 a2 a3 kk=>?_
  refine wpAny_pyIter_enum (s:={ s1 with heap:=h' }) a1 ?_
  refine⟨s1.heap.objs.size+1,_,_,_,H1,rfl,I1.kept (t':=s1.toks) kk,uw (Nat.succ_ne_self _),⟨⟨_,a1⟩,a2⟩,fun c hc=>?_,q⟩
  have hge:s1.heap.objs.size≤c:=by
   simp only[Pb,Pj,or_false]at hc
   rcases hc with rfl|rfl
   ·exact QC _ _
   ·exact Pe _
  exact I1.fpOk hge (I1.hok.fresh hge)
end L2
namespace L2
open PySem
theorem PE.imp{X:Cx}{x:Expr}{t t':TE}(h:PE X x t)(i:∀ σ H Q,t' σ H Q→t σ H Q):PE X x t':=fun pins s σ H Q I q=>h pins s σ H Q I (i σ H Q q)
theorem PT.imp{X:Cx}{x:Expr}{t t':TT}(h:PT X x t)(i:∀ σ H Q,t' σ H Q→t σ H Q):PT X x t':=fun pins s σ H Q I q=>h pins s σ H Q I (i σ H Q q)
theorem PW.imp{X:Cx}{x:Expr}{t t':TT}(h:PW X x t)(i:∀ σ H Q,t' σ H Q→t σ H Q):PW X x t':=fun wh pins s σ H Q I q=>h wh pins s σ H Q I (i σ H Q q)
theorem PA.imp{X:Cx}{x:List Expr}{t t':TA}(h:PA X x t)(i:∀ σ H Q,t' σ H Q→t σ H Q):PA X x t':=fun pos pins s σ H Q I q=>h pos pins s σ H Q I (i σ H Q q)
theorem PS.imp{X:Cx}{x:Stmt}{t t':TS}(h:PS X x t)(i:∀ E σ H,t' E σ H→t E σ H):PS X x t':=fun pins s σ H D I q=>h pins s σ H D I (i D σ H q)
theorem PSs.imp{X:Cx}{x:List Stmt}{t t':TS}(h:PSs X x t)(i:∀ E σ H,t' E σ H→t E σ H):PSs X x t':=fun pins s σ H D I q=>h pins s σ H D I (i D σ H q)
theorem OpR.imp{X:Cx}{f:Value→Value→Sem Value}{r r':R2}(h:OpR X f r)(i:∀ x y H Q,r' x y H Q→r x y H Q):OpR X f r':=fun pins s σ H x y v u Q I rx ry q=>h pins s σ H x y v u Q I rx ry (i x y H Q q)
theorem IxR.imp{X:Cx}{r r':R2}(h:IxR X r)(i:∀ x y H Q,r' x y H Q→r x y H Q):IxR X r':=fun va sl pins s σ H x y v u Q I rx ry q=>h va sl pins s σ H x y v u Q I rx ry (i x y H Q q)
theorem PG.imp{X:Cx}{x:Expr}{t t':TG}(h:PG X x t)(i:∀ v σ H Q,t' v σ H Q→t v σ H Q):PG X x t':=fun pins s σ H v u Q I r q=>h pins s σ H v u Q I r (i v σ H Q q)
theorem PGs.imp{X:Cx}{x:List Expr}{t t':TGs}(h:PGs X x t)(i:∀ v σ H Q,t' v σ H Q→t v σ H Q):PGs X x t':=fun pins s σ H v u Q I r q=>h pins s σ H v u Q I r (i v σ H Q q)
end L2
namespace DL
open PySem PySem.Spec L2
open PyProof.Rows hiding St
inductive D where
 | non|bl (b:Bool)|int (i:Int)|str (x:Str)|ref (a:Addr)|tup (ds:List D)|vl (ds:List D)|ty (n:String)|dic|exc (c:Str)
def KL(K:OR)(a:Addr)(xs:List V):Prop:=∀ H:Hp,SqL K H a xs
mutual
inductive Has (K:OR) (H:Hp):V→D→Prop
 | non:Has K H .non .non
 | bl (b:Bool):Has K H (.bl b) (.bl b)
 | int (i:Int):Has K H (.int i) (.int i)
 | str (x:Str):Has K H (.str x) (.str x)
 | ref (a:Addr):Has K H (.ref a) (.ref a)
 | ty (n:String):Has K H (.ty n) (.ty n)
 | tup {a:Addr} {xs:List V} {ds:List D}:SqT K H a xs→HasL K H xs ds→Has K H (.ref a) (.tup ds)
 | vl {a:Addr} {xs:List V} {ds:List D}:((∃ o,H a=some (.frz o (.lst xs)))∨KL K a xs)→HasL K H xs ds→Has K H (.ref a) (.vl ds)
 | dic {a:Addr}:(∃ o:Obj,H a=some (.frz o (.own 0))∧o.cls = .type "dict")→Has K H (.ref a) .dic
 | exc {a:Addr} {c:Str}:(∃(o:Obj) (C:Addr),H a=some (.frz o (.own 0))∧o.cls = .ref C∧PySem.W.nsIn K mainGlobals c=some (some (.ref C)))→Has K H (.ref a) (.exc c)
inductive HasL (K:OR) (H:Hp):List V→List D→Prop
 | nil:HasL K H [] []
 | cons {v:V} {d:D} {vs:List V} {ds:List D}:Has K H v d→HasL K H vs ds→HasL K H (v :: vs) (d :: ds)
end
structure KT0(H H':Hp):Prop where
 tp:∀ a xs,Rd H a (.tup xs)→Rd H' a (.tup xs)
 fz:∀ a o u,H a=some (.frz o u)→H' a=some (.frz o u)
structure KT(H H':Hp):Prop extends KT0 H H' where
 ex:∀ a φ,H a=some (.ext φ)→H' a=some (.ext φ)
theorem KT.refl(H:Hp):KT H H:=⟨⟨fun _ _ h=>h,fun _ _ _ h=>h⟩,fun _ _ h=>h⟩
theorem KT.trans{H H1 H2:Hp}(a:KT H H1)(b:KT H1 H2):KT H H2:=⟨⟨fun p xs h=>b.tp p xs (a.tp p xs h),fun p o xs h=>b.fz p o xs (a.fz p o xs h)⟩,fun p φ h=>b.ex p φ (a.ex p φ h)⟩
theorem KT0.sq{K:OR}{H H':Hp}(k:KT0 H H'){a:Addr}{xs:List V}(h:SqT K H a xs):SqT K H' a xs:=h.elim (fun z=>.inl (k.tp a xs z)) .inr
theorem KT.sq{K:OR}{H H':Hp}(k:KT H H'){a:Addr}{xs:List V}(h:SqT K H a xs):SqT K H' a xs:=k.toKT0.sq h
theorem KT0.at{H:Hp}{p:Addr}{o:HO}(h1:∀ xs,¬ Rd H p (.tup xs))(h2:∀ q u,H p≠some (.frz q u)):KT0 H (upd H p o) where
 tp:=fun a xs r=>by
  have hn:a≠p:=by intro e;subst e;exact h1 xs r
  rcases r with r|⟨q,r⟩
  ·exact .inl (by rw[i8 hn];exact r)
  ·exact .inr ⟨q,by rw[i8 hn];exact r⟩
 fz:=fun a q xs r=>by
  have hn:a≠p:=by intro e;subst e;exact h2 q xs r
  rw[i8 hn];exact r
theorem KT.at{H:Hp}{p:Addr}{o:HO}(h1:∀ xs,¬ Rd H p (.tup xs))(h2:∀ q u,H p≠some (.frz q u))(h3:∀ φ,H p≠some (.ext φ)):KT H (upd H p o):=⟨KT0.at h1 h2,fun a φ r=>by
  have hn:a≠p:=by intro e;subst e;exact h3 φ r
  rw[i8 hn];exact r⟩
theorem KT.alloc{H:Hp}{p:Addr}{o:HO}(h:H p=none):KT H (upd H p o):=KT.at (fun xs r=>by rcases r with r|⟨_,r⟩<;>(rw[h]at r;cases r)) (fun q xs r=>by rw[h]at r;cases r) fun φ r=>by rw[h]at r;cases r
theorem KT.any{H:Hp}{p:Addr}{xs:List V}{o:HO}(h:H p=some (.lst xs)):KT H (upd H p o):=KT.at (fun xs r=>by rcases r with r|⟨_,r⟩<;>(rw[h]at r;cases r)) (fun q xs r=>by rw[h]at r;cases r) fun φ r=>by rw[h]at r;cases r
theorem KT.write{H:Hp}{p:Addr}{xs ys:List V}(h:H p=some (.lst xs)):KT H (upd H p (.lst ys)):=KT.any h
theorem KT0.ext{H:Hp}{p:Addr}{φ:Heap→Prop}{o:HO}(h:H p=some (.ext φ)):KT0 H (upd H p o):=KT0.at (fun xs r=>by rcases r with r|⟨_,r⟩<;>(rw[h]at r;cases r)) fun q xs r=>by rw[h]at r;cases r
theorem KT.new{H H':Hp}{p:Addr}{o:HO}(k:KT H H')(h:H p=none):KT H (upd H' p o) where
 tp:=fun a xs r=>by
  have hn:a≠p:=by intro e;subst e;rcases r with r|⟨_,r⟩<;>(rw[h]at r;cases r)
  rcases k.tp a xs r with r|⟨q,r⟩
  ·exact .inl (by rw[i8 hn];exact r)
  ·exact .inr ⟨q,by rw[i8 hn];exact r⟩
 fz:=fun a q xs r=>by
  have hn:a≠p:=by intro e;subst e;rw[h]at r;cases r
  rw[i8 hn];exact k.fz a q xs r
 ex:=fun a φ r=>by
  have hn:a≠p:=by intro e;subst e;rw[h]at r;cases r
  rw[i8 hn];exact k.ex a φ r
mutual
theorem Has.mono0{K:OR}{H H':Hp}(k:KT0 H H'):∀{v:V} {d:D},Has K H v d→Has K H' v d
 | _,_,.non=>.non
 | _,_,.bl b=>.bl b
 | _,_,.int i=>.int i
 | _,_,.str x=>.str x
 | _,_,.ref a=>.ref a
 | _,_,.ty n=>.ty n
 | _,_,.tup s l=>.tup (k.sq s) (HasL.mono0 k l)
 | _,_,.vl h l=>.vl (h.elim (fun⟨o,e⟩=>.inl ⟨o,k.fz _ _ _ e⟩) .inr) (HasL.mono0 k l)
 | _,_,.dic h=>.dic (let ⟨o,e,c⟩:=h;⟨o,k.fz _ _ _ e,c⟩)
 | _,_,.exc h=>.exc (let ⟨o,C,e,c⟩:=h;⟨o,C,k.fz _ _ _ e,c⟩)
theorem HasL.mono0{K:OR}{H H':Hp}(k:KT0 H H'):∀{v:List V} {d:List D},HasL K H v d→HasL K H' v d
 | _,_,.nil=>.nil
 | _,_,.cons a b=>.cons (Has.mono0 k a) (HasL.mono0 k b)
end
theorem Has.mono{K:OR}{H H':Hp}(k:KT H H'){v:V}{d:D}(h:Has K H v d):Has K H' v d:=h.mono0 k.toKT0
theorem HasL.mono{K:OR}{H H':Hp}(k:KT H H'){v:List V}{d:List D}(h:HasL K H v d):HasL K H' v d:=h.mono0 k.toKT0
section
variable {K:OR} {H H':Hp}
theorem HasL.length:∀{vs:List V} {ds:List D},HasL K H vs ds→vs.length=ds.length
 | _,_,.nil=>rfl
 | _,_,.cons _ b=>congrArg Nat.succ (HasL.length b)
theorem HasL.get:∀{vs:List V} {ds:List D} {i:Nat} {d:D},HasL K H vs ds→ds[i]? = some d→∃ v,vs[i]? = some v∧Has K H v d
 | _,_,_,_,.nil,e=>by simp at e
 | _,_,0,_,.cons a _,e=>by simp at e;subst e;exact⟨_,rfl,a⟩
 | _,_,i+1,d,.cons _ b,e=>by
  obtain⟨v,h1,h2⟩:=HasL.get (i:=i) (d:=d) b (by simpa using e)
  exact⟨v,by simpa using h1,h2⟩
theorem HasL.getV:∀{vs:List V} {ds:List D} {i:Nat} {v:V},HasL K H vs ds→vs[i]? = some v→∃ d,ds[i]? = some d∧Has K H v d
 | _,_,_,_,.nil,e=>by simp at e
 | _,_,0,_,.cons a _,e=>by simp at e;subst e;exact⟨_,rfl,a⟩
 | _,_,i+1,d,.cons _ b,e=>by
  obtain⟨v,h1,h2⟩:=HasL.getV (i:=i) (v:=d) b (by simpa using e)
  exact⟨v,by simpa using h1,h2⟩
theorem HasL.set{v:V}{d:D}(r:Has K H v d):∀{vs:List V} {ds:List D} (i:Nat),HasL K H vs ds→HasL K H (vs.set i v) (ds.set i d)
 | _,_,_,.nil=>.nil
 | _,_,0,.cons _ t=>.cons r t
 | _,_,i+1,.cons q t=>.cons q (HasL.set r i t)
theorem HasL.append:∀{xs ys:List V} {us ws:List D},HasL K H xs us→HasL K H ys ws→HasL K H (xs++ys) (us++ws)
 | _,_,_,_,.nil,s=>s
 | _,_,_,_,.cons r t,s=>.cons r (HasL.append t s)
theorem HasL.take:∀{xs:List V} {us:List D} (n:Nat),HasL K H xs us→HasL K H (xs.take n) (us.take n)
 | _,_,0,_=>.nil
 | _,_,_+1,.nil=>.nil
 | _,_,n+1,.cons r t=>.cons r (HasL.take n t)
theorem HasL.drop:∀{xs:List V} {us:List D} (n:Nat),HasL K H xs us→HasL K H (xs.drop n) (us.drop n)
 | _,_,0,r=>r
 | _,_,_+1,.nil=>.nil
 | _,_,n+1,.cons _ t=>HasL.drop n t
theorem HasL.ints:∀(ns:List Int),HasL K H (ns.map V.int) (ns.map D.int)
 | []=>.nil
 | n :: r=>.cons (.int n) (HasL.ints r)
end
inductive MO where
 | lst (ds:List D)
 | ins (c:Str) (fs:List (Str × D))
noncomputable abbrev Mem:=Addr→Option MO
noncomputable def q9(M:Mem)(a:Addr)(o:MO):Mem:=fun b=>if b=a then some o else M b
theorem h8{M:Mem}{a:Addr}{o:MO}:q9 M a o a=some o:=by unfold q9;rw[if_pos rfl]
theorem j5{M:Mem}{a b:Addr}{o:MO}(h:b≠a):q9 M a o b=M b:=by unfold q9;rw[if_neg h]
theorem eN{M:Mem}{a:Addr}{o u:MO}:q9 (q9 M a o) a u=q9 M a u:=by
 funext b;unfold q9;by_cases h:b=a<;>simp[h]
structure R4(K:OR)(H:Hp)(ys:List (Str × V))(fs:List (Str × D)):Prop where
 names:ys.map (·.1)=fs.map (·.1)
 has:HasL K H (ys.map (·.2)) (fs.map (·.2))
theorem R4.mono{K:OR}{H H':Hp}(k:KT H H'){ys:List (Str × V)}{fs:List (Str × D)}(h:R4 K H ys fs):R4 K H' ys fs:=⟨h.names,h.has.mono k⟩
theorem R4.mono0{K:OR}{H H':Hp}(k:KT0 H H'){ys:List (Str × V)}{fs:List (Str × D)}(h:R4 K H ys fs):R4 K H' ys fs:=⟨h.names,h.has.mono0 k⟩
noncomputable def MOk(K:OR)(H:Hp)(a:Addr):MO→Prop
 | .lst ds=>∃ xs,H a=some (.lst xs)∧HasL K H xs ds
 | .ins c fs=>∃ C dx ys,H a=some (.ins C dx ys)∧R4 K H ys fs∧PySem.W.nsIn K mainGlobals c=some (some (.ref C))
def m7(K:OR)(H:Hp)(M:Mem):Prop:=∀ a o,M a=some o→MOk K H a o
section
variable {K:OR} {H H':Hp} {M:Mem}
theorem m7.fresh(h:m7 K H M){p:Addr}(e:H p=none):M p=none:=by
 cases q:M p with
 | none=>rfl
 | some o =>
  cases o with
  | lst ds=>obtain⟨xs,z,_⟩:=h p _ q;rw[e]at z;cases z
  | ins C fs=>obtain⟨_,dx,ys,z,_⟩:=h p _ q;rw[e]at z;cases z
theorem m7.alloc(h:m7 K H M){p:Addr}{u:HO}(e:H p=none):m7 K (upd H p u) M:=fun a o m=>by
 have k:KT H (upd H p u):=KT.alloc e
 cases o with
 | lst ds =>
  obtain⟨xs,z,l⟩:=h a _ m
  have hn:a≠p:=D1 z e
  exact⟨xs,by rw[i8 hn];exact z,l.mono k⟩
 | ins C fs =>
  obtain⟨C0,dx,ys,z,l,hc⟩:=h a _ m
  have hn:a≠p:=D1 z e
  exact⟨C0,dx,ys,by rw[i8 hn];exact z,l.mono k,hc⟩
theorem m7.new(h:m7 K H M){p:Addr}{xs:List V}{ds:List D}(e:H p=none)(l:HasL K H xs ds):m7 K (upd H p (.lst xs)) (q9 M p (.lst ds)):=fun a o m=>by
 by_cases q:a=p
 ·subst q
  rw[h8]at m;cases m
  exact⟨xs,i6,l.mono (KT.alloc e)⟩
 ·rw[j5 q]at m
  exact h.alloc e a o m
theorem m7.write(h:m7 K H M){p:Addr}{xs ys:List V}{ds:List D}(e:H p=some (.lst xs))(l:HasL K H ys ds):m7 K (upd H p (.lst ys)) (q9 M p (.lst ds)):=fun a o m=>by
 have k:KT H (upd H p (.lst ys)):=KT.write e
 by_cases q:a=p
 ·subst q
  rw[h8]at m;cases m
  exact⟨ys,i6,l.mono k⟩
 ·rw[j5 q]at m
  cases o with
  | lst es =>
   obtain⟨zs,z,l⟩:=h a _ m
   exact⟨zs,by rw[i8 q];exact z,l.mono k⟩
  | ins C fs =>
   obtain⟨C0,dx,zs,z,l,hc⟩:=h a _ m
   exact⟨C0,dx,zs,by rw[i8 q];exact z,l.mono k,hc⟩
theorem m7.lst(h:m7 K H M){a:Addr}{ds:List D}(m:M a=some (.lst ds)):∃ xs,H a=some (.lst xs)∧HasL K H xs ds:=h a _ m
end
noncomputable abbrev Ev:=List (Option D)
structure v7(K:OR)(H:Hp)(σ:St)(e:Ev):Prop where
 len:σ.length=e.length
 has:∀(i:Nat) (d:D),e[i]? = some (some d)→∃ v,σ[i]? = some (some v)∧Has K H v d
section
variable {K:OR} {H H':Hp} {σ:St} {e:Ev}
theorem v7.mono(k:KT H H')(h:v7 K H σ e):v7 K H' σ e:=⟨h.len,fun i d z=>let ⟨v,a,b⟩:=h.has i d z;⟨v,a,b.mono k⟩⟩
theorem v7.set(h:v7 K H σ e){v:V}{d:D}(r:Has K H v d)(i:Nat):v7 K H (σ.set i (some v)) (e.set i (some d)):=by
 refine⟨by simp[h.len],fun j x z=>?_⟩
 rw[List.getElem?_set]at z ⊢
 by_cases q:i=j
 ·subst q
  rw[if_pos rfl]at z ⊢
  by_cases l:i<e.length
  ·rw[if_pos l]at z
   rw[if_pos (by rw[h.len];exact l)]
   cases z
   exact⟨v,rfl,r⟩
  ·rw[if_neg l]at z;cases z
 ·rw[if_neg q]at z ⊢
  exact h.has j x z
end
noncomputable def F4(N:List Str)(ds:List D):Ev:=ds.map some++PK (N.length - ds.length) none
theorem v7.start0{K:OR}{H:Hp}{N:List Str}{vs:List V}{ds:List D}(h:HasL K H vs ds):v7 K H (L2.start N vs) (F4 N ds):=by
 have hl:=h.length
 refine⟨by simp[L2.start,F4,hl],fun i d z=>?_⟩
 unfold F4 at z
 unfold L2.start
 rw[QR]at z ⊢
 simp only[OU]at z ⊢
 rw[hl]
 by_cases q:i<ds.length
 ·rw[if_pos q]at z ⊢
  rw[Py]at z ⊢
  cases e:ds[i]? with
  | none=>rw[e]at z;cases z
  | some x =>
   rw[e]at z
   have z':x=d:=by simpa using z
   subst z'
   obtain⟨v,a,b⟩:=h.get e
   exact⟨v,by rw[a];rfl,b⟩
 ·rw[if_neg q]at z
  rw[PM]at z
  split at z<;>cases z
noncomputable abbrev DK:=D→Mem→Prop
noncomputable abbrev DTE:=Ev→Mem→DK→Prop
noncomputable abbrev DTT:=Ev→Mem→(Bool→Mem→Prop)→Prop
noncomputable abbrev DTA:=Ev→Mem→(List D→Mem→Prop)→Prop
structure W2 where
 nx:Ev→Mem→Prop
 rt:DK
 bk:Ev→Mem→Prop:=fun _ _=>False
 ct:Ev→Mem→Prop:=fun _ _=>False
noncomputable abbrev DTS:=W2→Ev→Mem→Prop
def cu(K:OR)(H:Hp)(R:DK)(Q:VK):Prop:=∀ d M',R d M'→∀ v H',KT H H'→m7 K H' M'→Has K H' v d→Q v H'
def Aj(K:OR)(H:Hp)(R:Bool→Mem→Prop)(Q:Bool→Hp→Prop):Prop:=∀ b M',R b M'→∀ H',KT H H'→m7 K H' M'→Q b H'
def Dn(K:OR)(H:Hp)(R:List D→Mem→Prop)(Q:List V→Hp→Prop):Prop:=∀ ds M',R ds M'→∀ vs H',KT H H'→m7 K H' M'→HasL K H' vs ds→Q vs H'
def oy(K:OR)(H:Hp)(R:Ev→Mem→Prop)(Q:St→Hp→Prop):Prop:=∀ e M',R e M'→∀ σ H',KT H H'→m7 K H' M'→v7 K H' σ e→Q σ H'
structure Fit(K:OR)(H:Hp)(F:W2)(E:lj):Prop where
 nx:oy K H F.nx E.nx
 rt:cu K H F.rt E.rt
 bk:oy K H F.bk E.bk
 ct:oy K H F.ct E.ct
section
variable {K:OR} {H H':Hp}
theorem cu.mono{R:DK}{Q:VK}(h:cu K H R Q)(k:KT H H'):cu K H' R Q:=fun d M r v H2 k2 a b=>h d M r v H2 (k.trans k2) a b
theorem Aj.mono{R:Bool→Mem→Prop}{Q:Bool→Hp→Prop}(h:Aj K H R Q)(k:KT H H'):Aj K H' R Q:=fun d M r H2 k2 a=>h d M r H2 (k.trans k2) a
theorem Dn.mono{R:List D→Mem→Prop}{Q:List V→Hp→Prop}(h:Dn K H R Q)(k:KT H H'):Dn K H' R Q:=fun d M r v H2 k2 a b=>h d M r v H2 (k.trans k2) a b
theorem oy.mono{R:Ev→Mem→Prop}{Q:St→Hp→Prop}(h:oy K H R Q)(k:KT H H'):oy K H' R Q:=fun d M r v H2 k2 a b=>h d M r v H2 (k.trans k2) a b
theorem Fit.mono{F:W2}{E:lj}(h:Fit K H F E)(k:KT H H'):Fit K H' F E:=⟨h.nx.mono k,h.rt.mono k,h.bk.mono k,h.ct.mono k⟩
end
def up(K:OR)(t:DTE):TE:=fun σ H Q=>∃ e M R,v7 K H σ e∧m7 K H M∧t e M R∧cu K H R Q
def upT(K:OR)(t:DTT):TT:=fun σ H Q=>∃ e M R,v7 K H σ e∧m7 K H M∧t e M R∧Aj K H R Q
def upA(K:OR)(t:DTA):TA:=fun σ H Q=>∃ e M R,v7 K H σ e∧m7 K H M∧t e M R∧Dn K H R Q
def upS(K:OR)(t:DTS):TS:=fun E σ H=>∃ e M F,v7 K H σ e∧m7 K H M∧t F e M∧Fit K H F E
abbrev DPE(X:Cx)(x:Expr)(t:DTE):Prop:=PE X x (up X.K t)
abbrev DPT(X:Cx)(x:Expr)(t:DTT):Prop:=PT X x (upT X.K t)
abbrev DPW(X:Cx)(x:Expr)(t:DTT):Prop:=PW X x (upT X.K t)
abbrev DPA(X:Cx)(x:List Expr)(t:DTA):Prop:=PA X x (upA X.K t)
abbrev DPS(X:Cx)(x:Stmt)(t:DTS):Prop:=PS X x (upS X.K t)
abbrev Ma(X:Cx)(x:List Stmt)(t:DTS):Prop:=PSs X x (upS X.K t)
structure JE(X:Cx)(x:Expr)(t:DTE):Prop where
 out:DPE X x t
structure JT(X:Cx)(x:Expr)(t:DTT):Prop where
 out:DPT X x t
structure JW(X:Cx)(x:Expr)(t:DTT):Prop where
 out:DPW X x t
structure JA(X:Cx)(x:List Expr)(t:DTA):Prop where
 out:DPA X x t
structure JS(X:Cx)(x:Stmt)(t:DTS):Prop where
 out:DPS X x t
structure JSs(X:Cx)(x:List Stmt)(t:DTS):Prop where
 out:Ma X x t
section
variable {X:Cx} {a b c:Expr} {ta tb tc:DTE} {pos:Pos}
def bo(i:Nat):DTE:=fun e M R=>∃ d,e[i]? = some (some d)∧R d M
def dC(d:D):DTE:=fun _ M R=>R d M
theorem a8(i:Nat){x:Str}{pos:Pos}(hN:X.N[i]? = some x:=by rfl)(hv:Vis X.env.scope x:=by first|exact Or.inl rfl|exact Or.inr (Or.inl rfl)|exact Or.inr (Or.inr rfl))(hd:(x == ("__debug__" : Str))=false:=by decide)
  (hcd:(x == ("__classdict__" : Str))=false:=by decide):JE X (.Name x pos) (bo i):=⟨(GQ hN hv hd hcd).imp (by
  rintro σ H Q ⟨e,M,R,ok,am,⟨d,z,r⟩,f⟩
  obtain⟨v,h1,h2⟩:=ok.has i d z
  exact⟨v,h1,f d M r v H (KT.refl H) am h2⟩)⟩
theorem Y2{v:V}{d:D}(h:PE X a (tC v))(r:∀ H,Has X.K H v d):DPE X a (dC d) :=
 h.imp (by rintro σ H Q ⟨e,M,R,ok,am,z,f⟩;exact f d M z v H (KT.refl H) am (r H))
theorem d3{i j pos}:JE X (.Constant (.int i) j pos) (dC (.int i)):=⟨Y2 GW fun _=>.int i⟩
theorem B9{b j pos}:JE X (.Constant (.bool b) j pos) (dC (.bl b)):=⟨Y2 JV fun _=>.bl b⟩
theorem z6{j pos}:JE X (.Constant .none j pos) (dC .non):=⟨Y2 GV fun _=>.non⟩
theorem d8{x j pos}:JE X (.Constant (.str x) j pos) (dC (.str x)):=⟨Y2 GR fun _=>.str x⟩
def Iy(K:OR)(v:V)(d:D):Prop:=∀ H,Has K H v d
theorem HX{x:Str}{v:V}{d:D}{u:Value}{pos:Pos}(hg:Gl X x)(hm:X.mg x=some u)(r:o7 v u)(hk:Iy X.K v d)(hd:(x == ("__debug__" : Str))=false:=by decide):DPE X (.Name x pos) (dC d) :=
 Y2 (kq hg hm r hd) hk
noncomputable abbrev DR2:=D→D→Mem→DK→Prop
def upR(K:OR)(g:DR2):R2:=fun x y H Q=>∃ dx dy M R,Has K H x dx∧Has K H y dy∧m7 K H M∧g dx dy M R∧cu K H R Q
def DOp(X:Cx)(f:Value→Value→Sem Value)(g:DR2):Prop:=OpR X f (upR X.K g)
def dOp(g:DR2)(ta tb:DTE):DTE:=fun e M R=>ta e M fun x M1=>tb e M1 fun y M2=>g x y M2 R
theorem jA{ta tb:DTE}{g:DR2}{σ:St}{H:Hp}{Q:VK}(h:up X.K (dOp g ta tb) σ H Q):tOp (upR X.K g) (up X.K ta) (up X.K tb) σ H Q:=by
 obtain⟨e,M,R,ok,am,t,f⟩:=h
 refine⟨e,M,_,ok,am,t,fun x M1 h1 v H1 k1 a1 r1=>?_⟩
 refine⟨e,M1,_,ok.mono k1,a1,h1,fun y M2 h2 u H2 k2 a2 r2=>?_⟩
 exact⟨x,y,M2,R,r1.mono k2,r2,a2,h2,f.mono (k1.trans k2)⟩
theorem i4{op:Operator}{g:DR2}(ho:DOp X (binaryOp op) g)(ha:JE X a ta)(hb:JE X b tb):JE X (.BinOp a op b pos) (dOp g ta tb):=⟨have ha:=ha.out;have hb:=hb.out;(EC ho ha hb).imp fun _ _ _ h=>jA h⟩
theorem HE{op:CmpOp}{g:DR2}(ho:DOp X (compareOp op) g)(ha:JE X a ta)(hb:JE X b tb)(hm:behindInMarks op b=false):JE X (.Compare a [op] [b] pos) (dOp g ta tb):=⟨have ha:=ha.out;have hb:=hb.out;(BX ho ha hb hm).imp fun _ _ _ h=>jA h⟩
def nQ(t:DTE):DTT:=fun e M R=>t e M fun x M'=>∃ k,x = .bl k∧R k M'
theorem eO{K:OR}{H:Hp}{R:Bool→Mem→Prop}{Q:Bool→Hp→Prop}(f:Aj K H R Q):cu K H (fun x M'=>∃ k,x = .bl k∧R k M') (fun x H'=>∃ k,x = .bl k∧Q k H'):=by
 rintro d M' ⟨k,rfl,r⟩ v H' kt am h
 cases h
 exact⟨k,rfl,f k M' r H' kt am⟩
theorem Cw{op:CmpOp}{g:DR2}(ho:DOp X (compareOp op) g)(ha:JE X a ta)(hb:JE X b tb)(hm:behindInMarks op b=false):JT X (.Compare a [op] [b] pos) (nQ (dOp g ta tb)):=⟨have ha:=ha.out;have hb:=hb.out;(sQ ho ha hb hm).imp (by rintro σ H Q ⟨e,M,R,ok,am,t,f⟩;exact jA (Q:=fun x H'=>∃ k,x = .bl k∧Q k H') ⟨e,M,_,ok,am,t,eO f⟩)⟩
theorem g5{x:Expr}{t:DTE}(h:JE X x t)(he:∀ whole,isTrue x X.env whole=(do let v ← whole;standAt x.pos;holding [v] (truthy v)):=by intro _;rfl):JT X x (nQ t):=⟨have h:=h.out;(GA h he).imp (by rintro σ H Q ⟨e,M,R,ok,am,t,f⟩;exact⟨e,M,_,ok,am,t,eO f⟩)⟩
noncomputable def fI(f:Int→Int→D):D→D→Option D
 | .int i,.int j=>some (f i j)
 | _,_=>none
def gF(f:D→D→Option D):DR2:=fun x y M R=>∃ z,f x y=some z∧R z M
def gI(C:Int→Int→Prop)(f:Int→Int→D):DR2:=fun x y M R=>∃ i j,x = .int i∧y = .int j∧C i j∧R (f i j) M
theorem kO{f:Int→Int→D}{x y z:D}(h:fI f x y=some z):∃ i j,x = .int i∧y = .int j∧z=f i j:=by
 cases x with
 | int i =>
  cases y with
  | int j=>exact⟨i,j,rfl,rfl,(Option.some.inj h).symm⟩
  | _=>cases h
 | _=>cases h
theorem tZ{f:Value→Value→Sem Value}{C:Int→Int→Prop}{g:Int→Int→V}{g':Int→Int→D}(h:OpR X f (rI C g))(hg:∀ i j H,Has X.K H (g i j) (g' i j)):DOp X f (gI C g') :=
 OpR.imp h (by
  rintro x y H Q ⟨dx,dy,M,R,hx,hy,am,⟨i,j,e1,e2,hc,r⟩,f⟩
  subst e1;subst e2
  cases hx;cases hy
  exact⟨i,j,rfl,rfl,hc,f _ M r _ H (KT.refl H) am (hg i j H)⟩)
theorem fY{f:Value→Value→Sem Value}{g:Int→Int→V}{g':Int→Int→D}(h:OpR X f (rI0 g))(hg:∀ i j H,Has X.K H (g i j) (g' i j)):DOp X f (gF (fI g')) :=
 OpR.imp h (by
  rintro x y H Q ⟨dx,dy,M,R,hx,hy,am,⟨z,e,r⟩,f⟩
  obtain⟨i,j,e1,e2,e3⟩:=kO e
  subst e1;subst e2;subst e3
  cases hx;cases hy
  exact⟨i,j,rfl,rfl,f _ M r _ H (KT.refl H) am (hg i j H)⟩)
theorem U9:DOp X (binaryOp .Add) (gF (fI fun i j=>.int (i+j))):=fY Hd fun _ _ _=>.int _
theorem fL:DOp X (binaryOp .Sub) (gF (fI fun i j=>.int (i - j))):=fY GZ fun _ _ _=>.int _
theorem S4:DOp X (compareOp .Lt) (gF (fI fun i j=>.bl (decide (i<j)))):=fY JY fun _ _ _=>.bl _
theorem hZ:DOp X (compareOp .Gt) (gF (fI fun i j=>.bl (decide (j<i)))):=fY JZ fun _ _ _=>.bl _
theorem Co:DOp X (compareOp .GtE) (gF (fI fun i j=>.bl (decide (j≤i)))):=fY Ka fun _ _ _=>.bl _
theorem cJ:DOp X (binaryOp .Mod) (gI (fun _ j=>0<j) fun i j=>.int (i % j)):=tZ Hb fun _ _ _=>.int _
theorem jd:DOp X (binaryOp .Pow) (gI Am fun i j=>.int (i ^ j.toNat)):=tZ Ha fun _ _ _=>.int _
noncomputable def gU(f:Int→D):D→Mem→DK→Prop:=fun x M R=>∃ i,x = .int i∧R (f i) M
def dUn(g:D→Mem→DK→Prop)(ta:DTE):DTE:=fun e M R=>ta e M fun x M1=>g x M1 R
theorem pZ(ha:JE X a ta):JE X (.UnaryOp .USub a pos) (dUn (gU fun i=>.int (-i)) ta):=⟨have ha:=ha.out;(JQ FP ha).imp (by rintro σ H Q ⟨e,M,R,ok,am,t,f⟩;exact⟨e,M,_,ok,am,t,fun x M1 ⟨i,z,r⟩ v H1 k1 a1 r1=>by
  subst z;cases r1;exact⟨i,rfl,f _ M1 r _ H1 k1 a1 (.int _)⟩⟩)⟩
variable {tA tB':DTT} {C9:List Expr}
def KQ(t u:DTT):DTT:=fun e M R=>t e M fun c M1=>if c=true then u e M1 R else R false M1
def dOr(t u:DTT):DTT:=fun e M R=>t e M fun c M1=>if c=true then R true M1 else u e M1 R
def KG(t:DTT):DTT:=fun e M R=>t e M fun c M1=>R (!c) M1
theorem bg(ha:JT X a tA):JW X (.BoolOp .And [a] pos) tA:=⟨have ha:=ha.out;BM ha⟩
theorem o9(ha:JT X a tA):JW X (.BoolOp .Or [a] pos) tA:=⟨have ha:=ha.out;Gw ha⟩
theorem aj(ha:JT X a tA)(hb:JW X (.BoolOp .And (b :: C9) pos) tB'):JW X (.BoolOp .And (a :: b :: C9) pos) (KQ tA tB'):=⟨have ha:=ha.out;have hb:=hb.out;(Gx ha hb).imp (by rintro σ H Q ⟨e,M,R,ok,am,t,f⟩;exact⟨e,M,_,ok,am,t,fun k M1 h1 H1 k1 a1=>by
  cases k with
  | true=>exact⟨e,M1,R,ok.mono k1,a1,h1,f.mono k1⟩
  | false=>exact f false M1 h1 H1 k1 a1⟩)⟩
theorem o8(ha:JT X a tA)(hb:JW X (.BoolOp .Or (b :: C9) pos) tB'):JW X (.BoolOp .Or (a :: b :: C9) pos) (dOr tA tB'):=⟨have ha:=ha.out;have hb:=hb.out;(JN ha hb).imp (by rintro σ H Q ⟨e,M,R,ok,am,t,f⟩;exact⟨e,M,_,ok,am,t,fun k M1 h1 H1 k1 a1=>by
  cases k with
  | true=>exact f true M1 h1 H1 k1 a1
  | false=>exact⟨e,M1,R,ok.mono k1,a1,h1,f.mono k1⟩⟩)⟩
theorem i7(ha:JT X a tA):JT X (.UnaryOp .Not a pos) (KG tA):=⟨have ha:=ha.out;(GB ha).imp (by rintro σ H Q ⟨e,M,R,ok,am,t,f⟩;exact⟨e,M,_,ok,am,t,fun k M1 h1 H1 k1 a1=>f (!k) M1 h1 H1 k1 a1⟩)⟩
theorem t8{x:Expr}{t:DTT}(h:JW X x t):JT X x t:=⟨have h:=h.out;PW.pt h⟩
def Fp(ta tb:DTE):DTE:=fun e M R=>ta e M fun x M1=>∃ c,x = .bl c∧if c=true then tb e M1 R else R (.bl false) M1
def KD(ta tb:DTE):DTE:=fun e M R=>ta e M fun x M1=>∃ c,x = .bl c∧if c=true then R (.bl true) M1 else tb e M1 R
def Fj(ta:DTE):DTE:=fun e M R=>ta e M fun x M1=>∃ c,x = .bl c∧R (.bl (!c)) M1
theorem J1{op}{t:DTE}(h:JE X a t):JE X (.BoolOp op [a] pos) t:=⟨have h:=h.out;GS h⟩
theorem K9(ha:JE X a ta)(hb:JE X (.BoolOp .And (b :: C9) pos) tb):JE X (.BoolOp .And (a :: b :: C9) pos) (Fp ta tb):=⟨have ha:=ha.out;have hb:=hb.out;(GY ha hb).imp (by rintro σ H Q ⟨e,M,R,ok,am,t,f⟩;exact⟨e,M,_,ok,am,t,fun x M1 ⟨k,z,h1⟩ v H1 k1 a1 r1=>by
  subst z;cases r1
  refine⟨k,rfl,?_⟩
  cases k with
  | true=>exact⟨e,M1,R,ok.mono k1,a1,h1,f.mono k1⟩
  | false=>exact f _ M1 h1 _ H1 k1 a1 (.bl _)⟩)⟩
theorem HC(ha:JE X a ta)(hb:JE X (.BoolOp .Or (b :: C9) pos) tb):JE X (.BoolOp .Or (a :: b :: C9) pos) (KD ta tb):=⟨have ha:=ha.out;have hb:=hb.out;(JR ha hb).imp (by rintro σ H Q ⟨e,M,R,ok,am,t,f⟩;exact⟨e,M,_,ok,am,t,fun x M1 ⟨k,z,h1⟩ v H1 k1 a1 r1=>by
  subst z;cases r1
  refine⟨k,rfl,?_⟩
  cases k with
  | true=>exact f _ M1 h1 _ H1 k1 a1 (.bl _)
  | false=>exact⟨e,M1,R,ok.mono k1,a1,h1,f.mono k1⟩⟩)⟩
theorem Q4(ha:JE X a ta):JE X (.UnaryOp .Not a pos) (Fj ta):=⟨have ha:=ha.out;(GU ha).imp (by rintro σ H Q ⟨e,M,R,ok,am,t,f⟩;exact⟨e,M,_,ok,am,t,fun x M1 ⟨k,z,h1⟩ v H1 k1 a1 r1=>by
  subst z;cases r1
  exact⟨k,rfl,f _ M1 h1 _ H1 k1 a1 (.bl _)⟩⟩)⟩
def dIf(t:DTT)(ta tb:DTE):DTE:=fun e M R=>t e M fun c M1=>if c=true then ta e M1 R else tb e M1 R
theorem E5(hc:JT X c tA)(ha:JE X a ta)(hb:JE X b tb):JE X (.IfExp c a b pos) (dIf tA ta tb):=⟨have hc:=hc.out;have ha:=ha.out;have hb:=hb.out;(mT hc ha hb).imp (by rintro σ H Q ⟨e,M,R,ok,am,t,f⟩;exact⟨e,M,_,ok,am,t,fun k M1 h1 H1 k1 a1=>by
  cases k with
  | true=>exact⟨e,M1,R,ok.mono k1,a1,h1,f.mono k1⟩
  | false=>exact⟨e,M1,R,ok.mono k1,a1,h1,f.mono k1⟩⟩)⟩
def Ic:DTA:=fun _ M R=>R [] M
def zN(ta:DTE)(tr:DTA):DTA:=fun e M R=>ta e M fun x M1=>tr e M1 fun xs M2=>R (x :: xs) M2
variable {es:List Expr} {tr:DTA}
theorem a9:JA X [] Ic:=⟨fo.imp (by rintro σ H Q ⟨e,M,R,ok,am,t,f⟩;exact f [] M t [] H (KT.refl H) am .nil)⟩
theorem a7(ha:JE X a ta)(hr:JA X es tr)(hs:starEach (a :: es) X.env=(false,eval a X.env) :: starEach es X.env:=by rfl):JA X (a :: es) (zN ta tr):=⟨have ha:=ha.out;have hr:=hr.out;(aY ha hr hs).imp (by rintro σ H Q ⟨e,M,R,ok,am,t,f⟩;exact⟨e,M,_,ok,am,t,fun x M1 h1 v H1 k1 a1 r1 =>
  ⟨e,M1,_,ok.mono k1,a1,h1,fun xs M2 h2 vs H2 k2 a2 r2=>f _ M2 h2 _ H2 (k1.trans k2) a2 (.cons (r1.mono k2) r2)⟩⟩)⟩
def HZ(t:DTA):DTE:=fun e M R=>t e M fun ds M1=>ds.length≤sizeLine∧R (.tup ds) M1
def KH(t:DTA):DTE:=fun e M R=>t e M fun ds M1=>ds.length≤sizeLine∧∀ p,M1 p=none→R (.ref p) (q9 M1 p (.lst ds))
theorem h7{x1}(h:JA X es tr):JE X (.Tuple es x1 pos) (HZ tr):=⟨have h:=h.out;(yi h).imp (by rintro σ H Q ⟨e,M,R,ok,am,t,f⟩;exact⟨e,M,_,ok,am,t,fun ds M1 ⟨hz,h1⟩ vs H1 k1 a1 r1=>by
  refine⟨by rw[r1.length];exact hz,fun p hp=>?_⟩
  have k2:KT H1 (upd H1 p (.tup vs)):=KT.alloc hp
  exact f _ M1 h1 _ _ (k1.trans k2) (a1.alloc hp) (.tup (SqT.of i6) (r1.mono k2))⟩)⟩
theorem M9(h:JA X es tr):JE X (.List es pos) (KH tr):=⟨have h:=h.out;(pK h).imp (by rintro σ H Q ⟨e,M,R,ok,am,t,f⟩;exact⟨e,M,_,ok,am,t,fun ds M1 ⟨hz,h1⟩ vs H1 k1 a1 r1=>by
  refine⟨by rw[r1.length];exact hz,fun p hp=>?_⟩
  have k2:KT H1 (upd H1 p (.lst vs)):=KT.alloc hp
  exact f _ _ (h1 p (a1.fresh hp)) _ _ (k1.trans k2) (a1.new hp r1) (.ref p)⟩)⟩
theorem HasL.at{K:OR}{H:Hp}{vs:List V}{ds:List D}(h:HasL K H vs ds){i:Int}{z:D}(e:atI ds i=some z):∃ v,atI vs i=some v∧Has K H v z:=by
 unfold atI at e ⊢
 rw[h.length]
 cases q:ixN ds.length i with
 | none=>rw[q]at e;cases e
 | some j =>
  rw[q]at e
  exact h.get e
def DIx(X:Cx)(g:DR2):Prop:=IxR X (upR X.K g)
theorem Ki{g:DR2}(hr:DIx X g)(ha:JE X a ta)(hb:JE X b tb)(hs:dZ b):JE X (.Subscript a b pos) (dOp g ta tb):=⟨have ha:=ha.out;have hb:=hb.out;(ED hr ha hb hs).imp fun _ _ _ h=>jA h⟩
noncomputable abbrev DXK:=Value→Mem→Prop
noncomputable abbrev DSp:=List D→Mem→DK→DXK→Prop
def IA(K:OR)(H:Hp)(Y:DXK)(E:XK):Prop:=∀ c M',Y c M'→∀ o H',KT H H'→m7 K H' M'→E c o H'
noncomputable def jv(K:OR)(sp:DSp):Sp:=fun vs H Q E=>∃ ds M R Y,HasL K H vs ds∧m7 K H M∧sp ds M R Y∧cu K H R Q∧IA K H Y E
def ug(sp:DSp)(dds:List D)(Y:DXK)(t:DTA):DTE:=fun e M R=>t e M fun ds M1=>sp (ds++dds) M1 R Y
end
section
variable {X:Cx} {CX:CXT} {k:Nat} {f C:Addr} {fd:FuncData} {ps:List Str} {sp:DSp} {dvs:List V} {dds:List D} {ds:List Value} {E:XK} {Y:DXK} {x m:Str} {p pos apos:Pos} {e o:Expr} {es:List Expr} {t:DTA}
theorem HY(F:K5 X.prog X.w X.K X.mg X.base CX k f fd ps (jv X.K sp))(hr:B6 k X.A)(hg:Gl X x)(hm:X.mg x=some (.ref f))(hk:PySem.W.keepIn X.K (.ref f)=true)(hb:O2 X.K fd ps ds)(hd:j8 dvs ds)(hdd:∀ H,HasL X.K H dvs dds)(hx:V8 CX X E)(hY:∀ H,IA X.K H Y E)
  (ha:DPA X (e :: es) t) (hdb:(x == ("__debug__" : Str))=false:=by decide) (he:starEach (e :: es) X.env=(false,eval e X.env) :: starEach es X.env:=by rfl) (hpl:(backTo pos (starEach es X.env)).any (·.1)=false:=by rfl) :
  DPE X (.Call (.Name x p) (e :: es) [] pos) (ug sp dds Y t) :=
 (sU F hr hg hm hk hb hd hx ha hdb he hpl).imp (by rintro σ H Q ⟨e,M,R,ok,am,t,f⟩;exact⟨e,M,_,ok,am,t,fun xs M1 h1 vs H1 k1 a1 r1 =>
  ⟨xs++dds,M1,R,Y,r1.append (hdd H1),a1,h1,f.mono k1,hY H1⟩⟩)
end
section
variable {X:Cx} {st:Stmt} {C9:List Stmt} {t u:DTS} {e:Expr} {te:DTE} {pos:Pos}
def zH:DTS:=fun F e M=>F.nx e M
def Ia(t u:DTS):DTS:=fun F e M=>t { F with nx:=u F } e M
theorem d9:JSs X [] zH:=⟨sS.imp (by rintro E σ H ⟨e,M,F,ok,am,t,f⟩;exact f.nx e M t σ H (KT.refl H) am ok)⟩
theorem d0(h1:JS X st t)(h2:JSs X C9 u):JSs X (st :: C9) (Ia t u):=⟨have h1:=h1.out;have h2:=h2.out;(fm h1 h2).imp (by rintro E σ H ⟨e,M,F,ok,am,t,f⟩;exact⟨e,M,{ F with nx:=u F },ok,am,t,⟨fun e' M' h σ' H' k a o=>⟨e',M',F,o,a,h,f.mono k⟩,f.rt,f.bk,f.ct⟩⟩)⟩
theorem d4(h1:JS X st t):JSs X [st] t:=⟨have h1:=h1.out;sR h1⟩
def Fm(te:DTE):DTS:=fun F e M=>te e M fun _ M1=>F.nx e M1
theorem G0(he:JE X e te)(hs:swapsWith e none pos.line X.env=pure false:=by rfl):JS X (.Expr e pos) (Fm te):=⟨have he:=he.out;(BO he hs).imp (by rintro E σ H ⟨e,M,F,ok,am,t,f⟩;exact⟨e,M,_,ok,am,t,fun d M1 h1 v H1 k1 a1 r1=>f.nx e M1 h1 σ H1 k1 a1 (ok.mono k1)⟩)⟩
def Ib(te:DTE):DTS:=fun F e M=>te e M F.rt
theorem d5(he:JE X e te):JS X (.Return (some e) pos) (Ib te):=⟨have he:=he.out;(yc he).imp (by rintro E σ H ⟨e,M,F,ok,am,t,f⟩;exact⟨e,M,_,ok,am,t,f.rt⟩)⟩
def Ig(c:DTT)(t u:DTS):DTS:=fun F e M=>c e M fun b M1=>if b=true then t F e M1 else u F e M1
theorem f8{c:Expr}{a b:List Stmt}{tc:DTT}(hc:JT X c tc)(ha:JSs X a t)(hb:JSs X b u):JS X (.If c a b pos) (Ig tc t u):=⟨have hc:=hc.out;have ha:=ha.out;have hb:=hb.out;(EA hc ha hb).imp (by rintro E σ H ⟨e,M,F,ok,am,t,f⟩;exact⟨e,M,_,ok,am,t,fun k M1 h1 H1 k1 a1=>by
  cases k with
  | true=>exact⟨e,M1,F,ok.mono k1,a1,h1,f.mono k1⟩
  | false=>exact⟨e,M1,F,ok.mono k1,a1,h1,f.mono k1⟩⟩)⟩
def zI:DTS:=fun _ _ _=>False
theorem y4:JS X st zI:=⟨yd.imp (by rintro E σ H ⟨_,_,_,_,_,t,_⟩;exact t)⟩
noncomputable abbrev DTG:=D→Ev→Mem→(Ev→Mem→Prop)→Prop
noncomputable abbrev bt:=List D→Ev→Mem→(Ev→Mem→Prop)→Prop
def upG(K:OR)(g:DTG):TG:=fun v σ H Q=>∃ d e M R,Has K H v d∧v7 K H σ e∧m7 K H M∧g d e M R∧oy K H R Q
def Ll(K:OR)(g:bt):TGs:=fun vs σ H Q=>∃ ds e M R,HasL K H vs ds∧v7 K H σ e∧m7 K H M∧g ds e M R∧oy K H R Q
abbrev DPG(X:Cx)(x:Expr)(g:DTG):Prop:=PG X x (upG X.K g)
abbrev Mb(X:Cx)(x:List Expr)(g:bt):Prop:=PGs X x (Ll X.K g)
structure JG(X:Cx)(x:Expr)(g:DTG):Prop where
 out:DPG X x g
structure JGs(X:Cx)(x:List Expr)(g:bt):Prop where
 out:Mb X x g
def ao(i:Nat):DTG:=fun d e M R=>R (e.set i (some d)) M
theorem yH{i:Nat}{x:Str}(hN:X.N.Nodup)(hi:X.N[i]? = some x)(hx:Loc X.env.scope x)(hf:X.fn x=true∨X.env.scope.names.lookup x=some .local:=by first|exact .inl rfl|exact .inr rfl|assumption):JG X (.Name x pos) (ao i):=⟨PG.imp (BU hN hi hx hf) (by rintro v σ H Q ⟨d,e,M,R,r,ok,am,g,f⟩;exact f _ M g _ H (KT.refl H) am (ok.set r i))⟩
def Fb:bt:=fun ds e M R=>ds=[]∧R e M
def zw(t:DTG)(u:bt):bt:=fun ds e M R=>∃ d r,ds=d :: r∧t d e M fun e' M'=>u r e' M' R
theorem i5:JGs X [] Fb:=⟨PGs.imp BS (by
 rintro v σ H Q ⟨ds,e,M,R,r,ok,am,⟨z,g⟩,f⟩
 subst z;cases r;exact⟨rfl,f e M g σ H (KT.refl H) am ok⟩)⟩
end
section
variable {X:Cx} {st:Stmt} {C9:List Stmt} {t u:DTS} {e:Expr} {te:DTE} {pos:Pos}
theorem d6{x:Expr}{xs:List Expr}{t:DTG}{u:bt}(h1:JG X x t)(h2:JGs X xs u)
  (hs:(assignEach (x :: xs) X.env).map (·.2)=assign x X.env :: (assignEach xs X.env).map (·.2):=by rfl):JGs X (x :: xs) (zw t u):=⟨have h1:=h1.out;have h2:=h2.out;PGs.imp (yh h1 h2 hs) (by
  rintro vs σ H Q ⟨ds,e,M,R,r,ok,am,⟨d,dr,z,g⟩,f⟩
  subst z
  cases r with
  | cons r rr=>exact⟨_,_,rfl,d,e,M,_,r,ok,am,g,fun e1 M1 h1 σ1 H1 k1 a1 ok1=>⟨dr,e1,M1,R,rr.mono k1,ok1,a1,h1,f.mono k1⟩⟩)⟩
def nO(n:Nat)(t:bt):DTG:=fun d e M R=>∃ ds,d = .tup ds∧ds.length=n∧t ds e M R
theorem j3{xs:List Expr}{k:Nat}{t:bt}{n:Nat}(hc:X.calm=true)(h:JGs X xs t)
  (hn:(assignEach xs X.env).length=n:=by rfl) (hst:(assignEach xs X.env).findIdx? (·.1)=none:=by rfl):JG X (.Tuple xs k pos) (nO n t):=⟨have h:=h.out;PG.imp (GK hc h hn hst) (by
  rintro v σ H Q ⟨d,e,M,R,r,ok,am,⟨ds,z,hl,g⟩,f⟩
  subst z
  cases r with
  | tup s l=>exact⟨_,_,rfl,s,by rw[l.length];exact hl,ds,e,M,R,l,ok,am,g,f⟩)⟩
noncomputable abbrev Al:=D→D→D→Mem→(Mem→Prop)→Prop
noncomputable def Kr:Al:=fun o i v M R=>∃ p ds k j,o = .ref p∧i = .int k∧M p=some (.lst ds)∧ixN ds.length k=some j∧R (q9 M p (.lst (ds.set j v)))
def EZ(to ti:DTE)(t:Al):DTG:=fun d e M R=>to e M fun o M1=>ti e M1 fun i M2=>t o i d M2 fun M3=>R e M3
theorem tF{o i:Expr}{to ti:DTE}(ho:JE X o to)(hi:JE X i ti)
  (ha:∀ v,assign (.Subscript o i pos) X.env v=(do
   let ov ← holding [v] (eval o X.env)
   let iv ← holding [v,ov] (eval i X.env)
   standAt pos
   holding [v,ov,iv] (setItem ov iv v)
   release [v,ov,iv] []):=by intro _;rfl):JG X (.Subscript o i pos) (EZ to ti Kr):=⟨have ho:=ho.out;have hi:=hi.out;PG.imp (GL ho hi xt ha) fun v σ H Q ⟨d,e,M,R,r,ok,am,g,f⟩ =>
  ⟨e,M,_,ok,am,g,fun x M1 h1 vo H1 k1 a1 r1=>⟨e,M1,_,ok.mono k1,a1,h1,fun y M2 ⟨p,ds,k,j,e1,e2,e3,e4,h2⟩ vi H2 k2 a2 r2=>by
   subst e1;subst e2
   cases r1;cases r2
   obtain⟨xs,hx,l⟩:=a2.lst e3
   have kt:KT H H2:=k1.trans k2
   have kw:KT H2 (upd H2 p (.lst (xs.set j v))):=KT.write hx
   exact⟨p,xs,k,j,rfl,rfl,hx,by rw[l.length];exact e4,f e _ h2 σ _ (kt.trans kw) (a2.write hx (l.set (r.mono kt) j)) ((ok.mono kt).mono kw)⟩⟩⟩⟩
def vc(te:DTE)(g:DTG):DTS:=fun F e M=>te e M fun x M1=>g x e M1 F.nx
theorem j4{tg x:Expr}{tx:DTE}{g:DTG}(he:JE X x tx)(hg:JG X tg g)(hs:swapsWithSole [tg] x pos.line X.env=pure false:=by rfl)(hw:swappedStores [tg] x X.env=pure none:=by rfl)
  (h1:(assignEach [tg] X.env).map (·.2)=[assign tg X.env]:=by rfl):JS X (.Assign [tg] x pos) (vc tx g):=⟨have he:=he.out;have hg:=hg.out;(GG he hg hs hw h1).imp (by rintro E σ H ⟨e,M,F,ok,am,t,f⟩;exact⟨e,M,_,ok,am,t,fun d M1 h1 v H1 k1 a1 r1=>⟨d,e,M1,F.nx,r1,ok.mono k1,a1,h1,f.nx.mono k1⟩⟩)⟩
theorem Cv{i:Nat}{x:Str}{tx:DTE}{pos':Pos}(hN:X.N.Nodup)(hi:X.N[i]? = some x)(hx:Loc X.env.scope x)(he:JE X e tx)(hs:swapsWith e (some (.Name x pos')) pos.line X.env=pure false:=by rfl)(hf:X.fn x=true∨X.env.scope.names.lookup x=some .local:=by first|exact .inl rfl|exact .inr rfl|assumption):JS X (.Assign [.Name x pos'] e pos) (vc tx (ao i)):=⟨have he:=he.out;(yb hN hi hx he hs hf).imp (by rintro E σ H ⟨e,M,F,ok,am,t,f⟩;exact⟨e,M,_,ok,am,t,fun d M1 h1 v H1 k1 a1 r1=>f.nx _ M1 h1 _ H1 k1 a1 ((ok.mono k1).set r1 i)⟩)⟩
def KC(i j:Nat)(ta:DTA):DTS:=fun F e M=>ta e M fun ds M1=>∃ x y,ds=[x,y]∧F.nx ((e.set i (some x)).set j (some y)) M1
theorem dR{i j:Nat}{x y:Str}{a b:Expr}{ta:DTA}{px py pt:Pos}{kt k2 pt2}(hc:X.calm=true)(hN:X.N.Nodup)(hi:X.N[i]? = some x)(hj:X.N[j]? = some y)(hij:i≠j)
  (hx:X.env.scope.names.lookup x=some .local) (hy:X.env.scope.names.lookup y=some .local) (ha:JA X [a,b] ta)
  (hw:swappedStores [.Tuple [.Name x px,.Name y py] kt pt] (.Tuple [a,b] k2 pt2) X.env=pure (some [x,y]):=by rfl)
  (hs:swapsWithSole [.Tuple [.Name x px,.Name y py] kt pt] (.Tuple [a,b] k2 pt2) pos.line X.env=pure false:=by rfl):JS X (.Assign [.Tuple [.Name x px,.Name y py] kt pt] (.Tuple [a,b] k2 pt2) pos) (KC i j ta):=⟨have ha:=ha.out;(GC hc hN hi hj hij hx hy ha hw hs).imp (by rintro E σ H ⟨e,M,F,ok,am,t,f⟩;exact⟨e,M,_,ok,am,t,fun ds M1 ⟨x,y,z,h1⟩ vs H1 k1 a1 r1=>by
  subst z
  cases r1 with
  | cons r1 rr =>
   cases rr with
   | cons r2 rr =>
    cases rr
    exact⟨_,_,rfl,f.nx _ M1 h1 _ H1 k1 a1 (((ok.mono k1).set r1 i).set r2 j)⟩⟩)⟩
def zF(c:DTT)(tb:DTS):DTS:=fun F e M=>∃ W:Nat→Ev→Mem→Prop,(∃ m,W m e M)∧∀ m e M,W m e M →
 c e M fun b M1=>if b=true then tb { F with nx:=fun e' M'=>∃ m',m'<m∧W m' e' M',ct:=fun e' M'=>∃ m',m'<m∧W m' e' M',bk:=F.nx } e M1 else F.nx e M1
theorem cf{c:Expr}{body:List Stmt}{tc:DTT}{tb:DTS}(hp:PassesOwn (model X.prog X.w) X.A X.env X.xe)(hc:JT X c tc)(hb:JSs X body tb):JS X (.While c body [] pos) (zF tc tb):=⟨have hc:=hc.out;have hb:=hb.out;(ya hp hc hb).imp (by
  rintro E σ H ⟨e,M,F,ok,am,⟨W,⟨m0,w0⟩,turn⟩,f⟩
  refine⟨fun m σ' H'=>∃ e' M',KT H H'∧v7 X.K H' σ' e'∧m7 X.K H' M'∧W m e' M',⟨m0,e,M,KT.refl H,ok,am,w0⟩,?_⟩
  rintro m σ1 H1 ⟨e1,M1,k1,ok1,a1,w1⟩
  refine⟨e1,M1,_,ok1,a1,turn m e1 M1 w1,fun b M2 h2 H2 k2 a2=>?_⟩
  cases b with
  | false=>exact f.nx e1 M2 h2 σ1 H2 (k1.trans k2) a2 (ok1.mono k2)
  | true =>
   refine⟨fun σ' H'=>∃ m',m'<m∧∃ e' M',KT H H'∧v7 X.K H' σ' e'∧m7 X.K H' M'∧W m' e' M',fun σ' H' h=>h,e1,M2,_,ok1.mono k2,a2,h2,?_⟩
   have kk:=k1.trans k2
   exact⟨fun e' M' ⟨m',l,w⟩ σ' H' k' a' o'=>⟨m',l,e',M',kk.trans k',o',a',w⟩,f.rt.mono kk,f.nx.mono kk,fun e' M' ⟨m',l,w⟩ σ' H' k' a' o'=>⟨m',l,e',M',kk.trans k',o',a',w⟩⟩)⟩
noncomputable abbrev DTI:=Ev→Mem→(List D→(Mem→Prop)→Mem→Prop)→Prop
def KN(ti:DTI)(g:DTG)(tb:DTS):DTS:=fun F e M=>ti e M fun ds stay M1=>∃ W:Nat→Ev→Mem→Prop,W 0 e M1∧(∀ i e M,i≤ds.length→W i e M→stay M) ∧
 (∀(i:Nat) (d:D) e M,ds[i]? = some d→W i e M→g d e M fun e2 M2=>tb { F with nx:=W (i+1),ct:=W (i+1),bk:=F.nx } e2 M2)∧∀ e M,W ds.length e M→F.nx e M
noncomputable def U6(lo:Int)(n:Nat):List D:=(QT n).map fun(i:Nat)=>D.int (lo+(i:Int))
theorem C7(lo:Int)(n:Nat):(U6 lo n).length=n:=by simp[U6]
theorem pH{lo:Int}{n i:Nat}(h:i<n):(U6 lo n)[i]? = some (D.int (lo+(i:Int))):=by simp[U6,h]
def EY(ta:DTA):DTI:=fun e M R=>ta e M fun ds M1=>∃ j:Int,ds=[.int j]∧-(2 ^ 62)≤j∧j<2 ^ 62∧R (U6 0 j.toNat) (fun _=>True) M1
theorem zj{K:OR}{H H1 H2:Hp}{F:W2}{E:lj}{W:Nat→Ev→Mem→Prop}{g:DTG}{tb:DTS}{i:Nat}{x:V}{d:D}{σ2:St}{e2:Ev}{M2:Mem}(f:Fit K H F E)(k1:KT H H1)(k2:KT H1 H2)(ok2:v7 K H2 σ2 e2)(a2:m7 K H2 M2)(r:Has K H2 x d)
  (h:g d e2 M2 fun e3 M3=>tb { F with nx:=W (i+1),ct:=W (i+1),bk:=F.nx } e3 M3) :
  upG K g x σ2 H2 fun σ3 H3=>upS K tb { E with nx:=fun σ' H'=>∃ e' M',KT H1 H'∧v7 K H' σ' e'∧m7 K H' M'∧W (i+1) e' M',ct:=fun σ' H'=>∃ e' M',KT H1 H'∧v7 K H' σ' e'∧m7 K H' M'∧W (i+1) e' M',bk:=E.nx } σ3 H3:=by
 refine⟨d,e2,M2,_,r,ok2,a2,h,fun e3 M3 h3 σ3 H3 k3 a3 ok3=>⟨e3,M3,_,ok3,a3,h3,?_⟩⟩
 have kk:KT H H3:=k1.trans (k2.trans k3)
 exact⟨fun e' M' w σ' H' k' a' o'=>⟨e',M',k2.trans (k3.trans k'),o',a',w⟩,f.rt.mono kk,f.nx.mono kk,fun e' M' w σ' H' k' a' o'=>⟨e',M',k2.trans (k3.trans k'),o',a',w⟩⟩
variable {tg iter:Expr} {body:List Stmt} {ti:DTE} {ta:DTA} {g:DTG} {tb:DTS}
theorem Has.il{K:OR}{H:Hp}{v:V}{ds:List D}(h:Has K H v (.vl ds)):∃ a xs,v = .ref a∧SqL K H a xs∧HasL K H xs ds:=by
 cases h with
 | vl h l=>exact⟨_,_,rfl,h.elim (fun⟨o,e⟩=>.inl (.inr ⟨o,e⟩)) (fun k=>k H),l⟩
end
section
variable {P:Program} {w:World} {K:OR} {mg:Str→Option Value} {base:Heap}
end
section
variable {X:Cx} {x:Str} {p pos:Pos} {e:Expr} {es:List Expr} {t:DTA} {id T:String}
noncomputable abbrev DRC:=List D→Mem→DK→Prop
noncomputable def upC(K:OR)(g:DRC):List V→Hp→VK→Prop:=fun xs H Q=>∃ ds M R,HasL K H xs ds∧m7 K H M∧g ds M R∧cu K H R Q
def R9(X:Cx)(f:Value)(g:DRC):Prop:=A3 X f (upC X.K g)
def dCB(g:DRC)(t:DTA):DTE:=fun e M R=>t e M fun ds M1=>g ds M1 R
theorem Fq{g:DRC}{σ:St}{H:Hp}{Q:VK}(h:up X.K (dCB g t) σ H Q):tCB (upC X.K g) (upA X.K t) σ H Q:=by
 obtain⟨e,M,R,ok,am,t,f⟩:=h
 exact⟨e,M,_,ok,am,t,fun ds M1 h1 vs H1 k1 a1 r1=>⟨ds,M1,R,r1,a1,h1,f.mono k1⟩⟩
theorem A3.imp{f:Value}{r r':List V→Hp→VK→Prop}(h:A3 X f r)(i:∀ xs H Q,r' xs H Q→r xs H Q):A3 X f r':=fun pins s σ H xs us Q I rv q=>h pins s σ H xs us Q I rv (i xs H Q q)
theorem HasL.one{K:OR}{H:Hp}{vs:List V}{d:D}(h:HasL K H vs [d]):∃ v,vs=[v]∧Has K H v d:=by
 cases h with
 | cons r rr=>cases rr;exact⟨_,rfl,r⟩
theorem HasL.two{K:OR}{H:Hp}{vs:List V}{d d':D}(h:HasL K H vs [d,d']):∃ v v',vs=[v,v']∧Has K H v d∧Has K H v' d':=by
 cases h with
 | cons r rr=>cases rr with|cons r2 rr=>cases rr;exact⟨_,_,rfl,r,r2⟩
def Kv:DRC:=fun ds M R=>∃ i:Int,ds=[.int i]∧R (.int (i.natAbs:Int)) M
theorem E9:R9 X (.builtin "abs") Kv:=A3.imp zX (by
 rintro xs H Q ⟨ds,M,R,hl,am,⟨i,z,r⟩,f⟩
 subst z
 obtain⟨v,rfl,h⟩:=hl.one
 cases h
 have e:(if i<0 then -i else i)=(i.natAbs:Int):=by split<;>omega
 exact⟨i,rfl,by rw[e];exact f _ M r _ H (KT.refl H) am (.int _)⟩)
def Ks:DRC:=fun ds M R=>∃ i j:Int,ds=[.int i,.int j]∧R (.int (max i j)) M
theorem Fs(hc:X.calm=true):R9 X (.builtin "max") Ks:=A3.imp (vj hc) (by
 rintro xs H Q ⟨ds,M,R,hl,am,⟨i,j,z,r⟩,f⟩
 subst z
 obtain⟨v,v',rfl,h,h'⟩:=hl.two
 cases h;cases h'
 have e:(if j > i then j else i)=max i j:=by
  rw[Int.max_def];split<;>split<;>omega
 exact⟨i,j,rfl,by rw[e];exact f _ M r _ H (KT.refl H) am (.int _)⟩)
noncomputable def Hs(M:Mem):D→Option Nat
 | .tup ds=>some ds.length
 | .ref p=>match M p with
  | some (.lst ds)=>some ds.length
  | _=>none
 | .vl ds=>some ds.length
 | _=>none
def uX:DRC:=fun ds M R=>∃ d n,ds=[d]∧Hs M d=some n∧R (.int (n:Int)) M
theorem C1:R9 X (.builtin "len") uX:=A3.imp kW (by
 rintro xs H Q ⟨ds,M,R,hl,am,⟨d,n,z,hn,r⟩,f⟩
 subst z
 obtain⟨v,rfl,h⟩:=hl.one
 cases d with
 | tup es =>
  cases h with
  | tup s l =>
   cases hn
   exact⟨_,_,rfl,.inr s,by rw[l.length];exact f _ M r _ H (KT.refl H) am (.int _)⟩
 | ref p =>
  cases h
  unfold Hs at hn
  cases q:M p with
  | none=>simp[q]at hn
  | some o =>
   cases o with
   | lst es =>
    simp only[q]at hn
    cases hn
    obtain⟨ys,hy,l⟩:=am.lst q
    exact⟨p,ys,rfl,.inl (SqL.of hy),by rw[l.length];exact f _ M r _ H (KT.refl H) am (.int _)⟩
   | ins C fs=>simp[q]at hn
 | vl es =>
  cases hn
  obtain⟨a,xs,rfl,sq,l⟩:=h.il
  exact⟨a,_,rfl,.inl sq,by rw[l.length];exact f _ M r _ H (KT.refl H) am (.int _)⟩
 | _=>cases hn)
end
theorem B5:bootBuiltins "abs" = some (.builtin "abs"):=by decide +kernel
theorem Ab:bootBuiltins "max" = some (.builtin "max"):=by decide +kernel
theorem u8:bootBuiltins "len" = some (.builtin "len"):=by decide +kernel
theorem e5:bootBuiltins "isinstance" = some (.builtin "isinstance"):=by decide +kernel
theorem N2:bootBuiltins "int" = some (.type "int"):=by decide +kernel
theorem R0:bootBuiltins "bool" = some (.type "bool"):=by decide +kernel
theorem B1:bootBuiltins "tuple" = some (.type "tuple"):=by decide +kernel
theorem CY:bootBuiltins "list" = some (.type "list"):=by decide +kernel
theorem oh:bootBuiltins "reversed" = some (.type "reversed"):=by decide +kernel
theorem B0:bootBuiltins "str" = some (.type "str"):=by decide +kernel
section
variable {X:Cx} {a b c:Expr} {ta tb tc:DTE} {pos:Pos}
theorem Cd:OpR X (binaryOp .Mult) (rI IntMulOk fun i j=>.int (i*j)):=opI fun _ _ _ _ _ _ _ hc q=>mul_int q hc
def CFd(i j:Int):Prop:=j≠0∧j.natAbs.log2<9000
theorem yr:OpR X (binaryOp .FloorDiv) (rI CFd fun i j=>.int (i.fdiv j)):=opI fun _ _ _ _ _ _ _ hc q=>floordiv_int hc.1 q (.inl (PyProof.noPylong_of_log2 hc.2))
theorem D2:DOp X (binaryOp .Mult) (gI IntMulOk fun i j=>.int (i*j)):=tZ Cd fun _ _ _=>.int _
theorem bW:DOp X (binaryOp .FloorDiv) (gI CFd fun i j=>.int (i.fdiv j)):=tZ yr fun _ _ _=>.int _
noncomputable def ixD(M:Mem):D→D→Option D
 | .tup ds,.int i=>atI ds i
 | .ref p,.int i=>match M p with
  | some (.lst ds)=>atI ds i
  | _=>none
 | .vl ds,.int i=>atI ds i
 | _,_=>none
def gIx:DR2:=fun x y M R=>∃ z,ixD M x y=some z∧R z M
theorem IxR.or'{r r':R2}(h:IxR X r)(h':IxR X r'){g:R2}(i:∀ x y H Q,g x y H Q→r x y H Q∨r' x y H Q):IxR X g:=IxR.imp (IxR.or h h') i
theorem Ko:DIx X gIx:=IxR.or' HF Cy (by
 rintro x y H Q ⟨dx,dy,M,R,hx,hy,am,⟨z,e,r⟩,f⟩
 cases dy with
 | int i =>
  cases hy
  cases dx with
  | tup ds =>
   cases hx with
   | tup s l =>
    obtain⟨v,h1,h2⟩:=l.at (show atI ds i=some z from e)
    exact .inl ⟨_,_,i,v,rfl,rfl,s,h1,f z M r v H (KT.refl H) am h2⟩
  | ref p =>
   cases hx
   unfold ixD at e
   cases q:M p with
   | none=>simp[q]at e
   | some o =>
    cases o with
    | lst ds =>
     simp only[q]at e
     obtain⟨xs,h1,h2⟩:=am.lst q
     obtain⟨v,h3,h4⟩:=h2.at e
     exact .inr ⟨_,_,i,v,rfl,rfl,SqL.of h1,h3,f z M r v H (KT.refl H) am h4⟩
    | ins C fs=>simp[q]at e
  | vl ds =>
   obtain⟨a,xs,rfl,sq,l⟩:=hx.il
   obtain⟨v,h1,h2⟩:=l.at (show atI ds i=some z from e)
   exact .inr ⟨_,_,i,v,rfl,rfl,sq,h1,f z M r v H (KT.refl H) am h2⟩
  | _=>simp[ixD]at e
 | _=>cases dx<;>simp[ixD]at e)
theorem X9{M:Mem}{p:Addr}{ds:List D}{i:Int}{z:D}(m:M p=some (.lst ds))(h:atI ds i=some z):ixD M (.ref p) (.int i)=some z:=by
 unfold ixD;simp only[m];exact h
noncomputable def isD:D→D→Option Bool
 | .bl a,.bl b=>some (a == b)
 | .non,.non=>some true
 | .bl _,.non=>some false
 | .int _,.non=>some false
 | .str _,.non=>some false
 | .ref _,.non=>some false
 | .tup _,.non=>some false
 | .vl _,.non=>some false
 | .exc _,.non=>some false
 | _,_=>none
theorem jg{x y:D}{b:Bool}(h:isD x y=some b):(∃ p q,x = .bl p∧y = .bl q∧b=(p == q))∨(y = .non∧((x = .non∧b=true)∨(x ≠ .non∧b=false))):=by
 cases x<;>cases y<;>simp[isD]at h<;>simp[h]
theorem tI{K:OR}{H:Hp}{v:V}{x:D}(h:Has K H v x)(n:x ≠ .non):v ≠ .non:=by
 intro e;subst e;cases h;exact n rfl
def gIs(neg:Bool):DR2:=fun x y M R=>∃ b,isD x y=some b∧R (.bl (neg.xor b)) M
theorem hV:DOp X (compareOp .Is) (gIs false):=by
 intro pins s σ H x y v u Q I rx ry h
 obtain⟨dx,dy,M,R,hx,hy,am,⟨b,e,r⟩,f⟩:=h
 have fin:EP X pins σ Q (.bool b) s:=⟨.bl b,H,I,rfl,by have:=f _ M r (.bl b) H (KT.refl H) am (by simpa using Has.bl (K:=X.K) (H:=H) b);exact this⟩
 rcases jg e with⟨p,q,rfl,rfl,rfl⟩|⟨rfl,hx'⟩
 ·cases hx;cases hy;cases rx;cases ry
  exact is_bool fin
 ·cases hy;cases ry
  refine is_none_gen ?_
  rw[o7.none_iff rx]
  rcases hx' with⟨rfl,rfl⟩|⟨n,rfl⟩
  ·cases hx;exact fin
  ·rw[decide_eq_false (tI hx n)];exact fin
theorem Cn:DOp X (compareOp .IsNot) (gIs true):=by
 intro pins s σ H x y v u Q I rx ry h
 obtain⟨dx,dy,M,R,hx,hy,am,⟨b,e,r⟩,f⟩:=h
 have fin:EP X pins σ Q (.bool (!b)) s:=⟨.bl (!b),H,I,rfl,by have:=f _ M r (.bl (!b)) H (KT.refl H) am (by simpa using Has.bl (K:=X.K) (H:=H) (!b));exact this⟩
 rcases jg e with⟨p,q,rfl,rfl,rfl⟩|⟨rfl,hx'⟩
 ·cases hx;cases hy;cases rx;cases ry
  exact isnot_bool fin
 ·cases hy;cases ry
  refine isnot_none_gen ?_
  rw[o7.none_iff rx]
  rcases hx' with⟨rfl,rfl⟩|⟨n,rfl⟩
  ·cases hx;exact fin
  ·rw[decide_eq_false (tI hx n)];exact fin
mutual
inductive PyR (M:Mem):D→PyData→Prop
 | non:PyR M .non .none
 | bl (b:Bool):PyR M (.bl b) (.bool b)
 | int (i:Int):PyR M (.int i) (.int i)
 | str (x:Str):PyR M (.str x) (.str x)
 | tup {ds:List D} {ps:List PyData}:PyRL M ds ps→PyR M (.tup ds) (.tuple ps)
 | lst {p:Addr} {ds:List D} {ps:List PyData}:M p=some (.lst ds)→PyRL M ds ps→PyR M (.ref p) (.list ps)
 | vl {ds:List D} {ps:List PyData}:PyRL M ds ps→PyR M (.vl ds) (.list ps)
inductive PyRL (M:Mem):List D→List PyData→Prop
 | nil:PyRL M [] []
 | cons {d:D} {p:PyData} {ds:List D} {ps:List PyData}:PyR M d p→PyRL M ds ps→PyRL M (d :: ds) (p :: ps)
end
mutual
theorem U4{pins:List (Addr × Obj)}{s:Shared}{σ:St}{H:Hp}{M:Mem}(I:Inv X pins σ H s)(am:m7 X.K H M):∀{d:D} {p:PyData},PyR M d p→∀{v:V} {u:Value},Has X.K H v d→o7 v u→∃ as,Reads s.heap u p as
 | _,_,.non,_,_,h,r=>by cases h;cases r;exact⟨_,.none⟩
 | _,_,.bl b,_,_,h,r=>by cases h;cases r;exact⟨_,.bool b⟩
 | _,_,.int i,_,_,h,r=>by cases h;obtain⟨t,rfl⟩:=r;exact⟨_,.int i t⟩
 | _,_,.str x,_,_,h,r=>by cases h;obtain⟨t,rfl⟩:=r;exact⟨_,.str x t⟩
 | _,_,.tup l,_,_,h,r=>by
  cases h with
  | tup s' hl =>
   cases r
   obtain⟨its,rv,⟨o,e,hc,n,hd⟩,_⟩:=I.tuple s'
   obtain⟨as,ra⟩:=readsL_of I am l hl rv
   exact⟨as,.tuple e hc hd (by simpa using ra)⟩
 | _,_,.lst m l,_,_,h,r=>by
  cases h
  cases r
  obtain⟨xs,hx,hl⟩:=am.lst m
  obtain⟨its,rv,⟨o,n,e,hc,_,hd⟩,_⟩:=I.list (SqL.of hx)
  obtain⟨as,ra⟩:=readsL_of I am l hl rv
  exact⟨_,.list e hc hd (by simpa using ra)⟩
 | _,_,.vl l,_,_,h,r=>by
  obtain⟨a,xs,rfl,sq,hl⟩:=h.il
  cases r
  obtain⟨its,rv,⟨o,n,e,hc,_,hd⟩,_⟩:=I.list sq
  obtain⟨as,ra⟩:=readsL_of I am l hl rv
  exact⟨_,.list e hc hd (by simpa using ra)⟩
theorem readsL_of{pins:List (Addr × Obj)}{s:Shared}{σ:St}{H:Hp}{M:Mem}(I:Inv X pins σ H s)(am:m7 X.K H M):∀{ds:List D} {ps:List PyData},PyRL M ds ps→∀{vs:List V} {us:List Value},HasL X.K H vs ds→j8 vs us→∃ as,ReadsAll s.heap us ps as
 | _,_,.nil,_,_,h,r=>by cases h;cases r;exact⟨_,.nil⟩
 | _,_,.cons a l,_,_,h,r=>by
  cases h with
  | cons h hl =>
   cases r with
   | cons r rl =>
    obtain⟨as,q⟩:=U4 I am a h r
    obtain⟨bs,q2⟩:=readsL_of I am l hl rl
    exact⟨_,.cons q q2⟩
end
def gEq(neg:Bool):DR2:=fun x y M R=>∃ px py,PyR M x px∧PyR M y py∧SeqAt.shaped px=true∧SeqAt.shaped py=true∧R (.bl (neg.xor (PyData.eqv px py))) M
theorem LH(hu:X.A.units+64<cLine):DOp X (compareOp .Eq) (gEq false):=by
 intro pins s σ H x y v u Q I rx ry h
 obtain⟨dx,dy,M,R,hx,hy,am,⟨px,py,p1,p2,s1,s2,r⟩,f⟩:=h
 obtain⟨as,r1⟩:=U4 I am p1 hx rx
 obtain⟨bs,r2⟩:=U4 I am p2 hy ry
 exact eq_dataH r1 r2 s1 s2 hu ⟨.bl _,H,I,rfl,by have:=f _ M r _ H (KT.refl H) am (.bl _);simpa using this⟩
theorem LG(hu:X.A.units+64<cLine):DOp X (compareOp .NotEq) (gEq true):=by
 intro pins s σ H x y v u Q I rx ry h
 obtain⟨dx,dy,M,R,hx,hy,am,⟨px,py,p1,p2,s1,s2,r⟩,f⟩:=h
 obtain⟨as,r1⟩:=U4 I am p1 hx rx
 obtain⟨bs,r2⟩:=U4 I am p2 hy ry
 exact ne_dataH r1 r2 s1 s2 hu ⟨.bl _,H,I,rfl,by have:=f _ M r _ H (KT.refl H) am (.bl _);simpa using this⟩
mutual
noncomputable def pyD:D→PyData
 | .int i=>.int i
 | .str x=>.str x
 | .bl b=>.bool b
 | .tup ds=>.tuple (pyDL ds)
 | .vl ds=>.list (pyDL ds)
 | _=>.none
noncomputable def pyDL:List D→List PyData
 | []=>[]
 | d :: r=>pyD d :: pyDL r
end
mutual
noncomputable def cl:Nat→D→Bool
 | _,.int _=>true
 | _,.non=>true
 | _,.str x=>PyData.canLay0 (.str x)
 | k+1,.tup ds=>clL k ds
 | k+1,.vl ds=>clL k ds
 | _,_=>false
noncomputable def clL:Nat→List D→Bool
 | _,[]=>true
 | k,d :: r=>cl k d && clL k r
end
mutual
theorem zP{M:Mem}:∀{k:Nat} {d:D},cl k d=true→PyR M d (pyD d)∧(pyD d).canLay0=true∧(pyD d).depth≤k
 | _,.int i,_=>⟨.int i,rfl,PD _⟩
 | _,.non,_=>⟨.non,rfl,PD _⟩
 | 0,.tup ds,h=>by simp[cl]at h
 | k+1,.tup ds,h=>by
  obtain⟨a,b,c⟩:=clL_py (M:=M) (k:=k) (ds:=ds) (by simpa[cl]using h)
  exact⟨.tup a,by simpa[pyD,PyData.canLay0]using b,by simp only[pyD,PyData.depth];omega⟩
 | _,.str x,h=>⟨.str x,by simpa[cl,pyD]using h,PD _⟩
 | _,.bl _,h=>by simp[cl]at h
 | _,.ref _,h=>by simp[cl]at h
 | 0,.vl ds,h=>by simp[cl]at h
 | k+1,.vl ds,h=>by
  obtain⟨a,b,c⟩:=clL_py (M:=M) (k:=k) (ds:=ds) (by simpa[cl]using h)
  exact⟨.vl a,by simpa[pyD,PyData.canLay0]using b,by simp only[pyD,PyData.depth];omega⟩
 | _,.ty _,h=>by simp[cl]at h
theorem clL_py{M:Mem}:∀{k:Nat} {ds:List D},clL k ds=true→PyRL M ds (pyDL ds)∧PyData.canLayAll0 (pyDL ds)=true∧PyData.depthAll (pyDL ds)≤k
 | _,[],_=>⟨.nil,rfl,PD _⟩
 | k,d :: r,h=>by
  have h':cl k d=true∧clL k r=true:=by simpa[clL]using h
  obtain⟨a,b,c⟩:=zP (M:=M) h'.1
  obtain⟨a2,b2,c2⟩:=clL_py (M:=M) h'.2
  exact⟨.cons a a2,by simp[pyDL,PyData.canLayAll0,b,b2],by simp only[pyDL,PyData.depthAll];omega⟩
end
mutual
theorem zQ:∀{k j:Nat} {x y:D},cl k x=true→cl j y=true→(PyData.eqv (pyD x) (pyD y)=true↔x=y)
 | _,_,.int i,.int j,_,_=>by simp[pyD,PyData.eqv]
 | _,_,.int i,.non,_,_=>by simp[pyD,PyData.eqv]
 | _,_,.non,.int i,_,_=>by simp[pyD,PyData.eqv]
 | _,_,.non,.non,_,_=>by simp[pyD,PyData.eqv]
 | _,_,.int i,.tup ds,_,_=>by simp[pyD,PyData.eqv]
 | _,_,.non,.tup ds,_,_=>by simp[pyD,PyData.eqv]
 | _,_,.tup ds,.int i,_,_=>by simp[pyD,PyData.eqv]
 | _,_,.tup ds,.non,_,_=>by simp[pyD,PyData.eqv]
 | k+1,j+1,.tup ds,.tup es,h,h'=>by
  have:=clL_eqv (k:=k) (j:=j) (xs:=ds) (ys:=es) (by simpa[cl]using h) (by simpa[cl]using h')
  simp only[pyD,PyData.eqv,D.tup.injEq]
  exact this
 | 0,_,.tup ds,.tup es,h,_=>by simp[cl]at h
 | _,0,.tup ds,.tup es,_,h=>by simp[cl]at h
 | _,_,.str x,.str y,_,_=>by simp[pyD,PyData.eqv]
 | _,_,.str x,.int i,_,_=>by simp[pyD,PyData.eqv]
 | _,_,.str x,.non,_,_=>by simp[pyD,PyData.eqv]
 | _,_,.str x,.tup ds,_,_=>by simp[pyD,PyData.eqv]
 | _,_,.int i,.str x,_,_=>by simp[pyD,PyData.eqv]
 | _,_,.non,.str x,_,_=>by simp[pyD,PyData.eqv]
 | _,_,.tup ds,.str x,_,_=>by simp[pyD,PyData.eqv]
 | k+1,j+1,.vl ds,.vl es,h,h'=>by
  have:=clL_eqv (k:=k) (j:=j) (xs:=ds) (ys:=es) (by simpa[cl]using h) (by simpa[cl]using h')
  simp only[pyD,PyData.eqv,D.vl.injEq]
  exact this
 | 0,_,.vl ds,.vl es,h,_=>by simp[cl]at h
 | _,0,.vl ds,.vl es,_,h=>by simp[cl]at h
 | _,_,.vl ds,.int i,_,_=>by simp[pyD,PyData.eqv]
 | _,_,.vl ds,.non,_,_=>by simp[pyD,PyData.eqv]
 | _,_,.vl ds,.str x,_,_=>by simp[pyD,PyData.eqv]
 | _,_,.vl ds,.tup es,_,_=>by simp[pyD,PyData.eqv]
 | _,_,.int i,.vl ds,_,_=>by simp[pyD,PyData.eqv]
 | _,_,.non,.vl ds,_,_=>by simp[pyD,PyData.eqv]
 | _,_,.str x,.vl ds,_,_=>by simp[pyD,PyData.eqv]
 | _,_,.tup es,.vl ds,_,_=>by simp[pyD,PyData.eqv]
 | _,_,.bl _,_,h,_=>by simp[cl]at h
 | _,_,.ref _,_,h,_=>by simp[cl]at h
 | _,_,.ty _,_,h,_=>by simp[cl]at h
 | _,_,_,.bl _,_,h=>by simp[cl]at h
 | _,_,_,.ref _,_,h=>by simp[cl]at h
 | _,_,_,.ty _,_,h=>by simp[cl]at h
theorem clL_eqv:∀{k j:Nat} {xs ys:List D},clL k xs=true→clL j ys=true→(PyData.eqvAll (pyDL xs) (pyDL ys)=true↔xs=ys)
 | _,_,[],[],_,_=>by simp[pyDL,PyData.eqvAll]
 | _,_,[],_ :: _,_,_=>by simp[pyDL,PyData.eqvAll]
 | _,_,_ :: _,[],_,_=>by simp[pyDL,PyData.eqvAll]
 | k,j,x :: xs,y :: ys,h,h'=>by
  have h1:cl k x=true∧clL k xs=true:=by simpa[clL]using h
  have h2:cl j y=true∧clL j ys=true:=by simpa[clL]using h'
  have e1:=zQ h1.1 h2.1
  have e2:=clL_eqv h1.2 h2.2
  simp only[pyDL,PyData.eqvAll,PL,e1,e2,List.cons.injEq]
end
open Classical in
theorem ze{neg:Bool}{x y:D}{M:Mem}{R:DK}(h:R (.bl (neg.xor (decide (x=y)))) M)(hx:cl 60 x=true:=by rfl)(hy:cl 60 y=true:=by rfl):gEq neg x y M R:=by
 obtain⟨a,b,c⟩:=zP (M:=M) hx
 obtain⟨a2,b2,c2⟩:=zP (M:=M) hy
 refine⟨_,_,a,a2,?_,?_,?_⟩
 ·simp only[SeqAt.shaped,b,Sf];exact decide_eq_true (by omega)
 ·simp only[SeqAt.shaped,b2,Sf];exact decide_eq_true (by omega)
 ·have e:PyData.eqv (pyD x) (pyD y)=decide (x=y):=by
   have:=zQ hx hy
   by_cases q:x=y
   ·rw[decide_eq_true q];exact this.mpr q
   ·rw[decide_eq_false q]
    cases z:PyData.eqv (pyD x) (pyD y)with
    | false=>rfl
    | true=>exact absurd (this.mp z) q
  rw[e];exact h
noncomputable def tyD(M:Mem):D→Option String
 | .non=>some "NoneType"
 | .bl _=>some "bool"
 | .int _=>some "int"
 | .str _=>some "str"
 | .tup _=>some "tuple"
 | .ref p=>match M p with
  | some (.lst _)=>some "list"
  | _=>none
 | .vl _=>some "list"
 | .ty _=>none
 | .dic=>some "dict"
 | .exc _=>none
noncomputable def oM(t T:String):Option Bool:=if t=T then some true else
 match t,T with
 | "bool","int" => some true
 | _,_=>if (t∈["NoneType","bool","int","str","tuple","list","dict"])∧(T∈["bool","int","str","tuple","list"])then some false else none
def oq(K:OR):Prop:=∀ t T b,oM t T=some b→PySem.W.kitOne K (.type t) (.type T)=some b
theorem p9{x:Str}{n:String}(hg:Gl X x)(hm:X.mg x=none)(hv:bootBuiltins x=some (.type n))(hn:x ≠ "__name__" := by decide)(hd:(x == ("__debug__" : Str))=false:=by decide):JE X (.Name x pos) (dC (.ty n)):=⟨Y2 (v:=.ty n) (BY hg hm hv rfl hn hd) fun _=>.ty n⟩
def A7:DRC:=fun ds M R=>∃ d t T b,ds=[d,.ty T]∧tyD M d=some t∧oM t T=some b∧R (.bl b) M
theorem t9(hk:oq X.K):R9 X (.builtin "isinstance") A7:=by
 intro pins s σ H xs us Q I rv h
 obtain⟨ds,M,R,hl,am,⟨d,t,T,b,rfl,ht,hb,r⟩,f⟩:=h
 obtain⟨v,v',rfl,h1,h2⟩:=hl.two
 cases h2
 obtain⟨u,w',rfl,r1,r2⟩:=mi rv
 cases(show w'=Value.type T from r2)
 have e:=hk t T b hb
 have fin:∀ tk,EP X pins σ Q (.bool b) { s with toks:=tk }:=fun tk=>⟨.bl b,H,I.tok tk,rfl,f _ M r _ H (KT.refl H) am (.bl b)⟩
 cases h1 with
 | non=>cases ht;exact N8 I r1 .non e fin
 | bl q=>cases ht;exact N8 I r1 (.bl q) e fin
 | int q=>cases ht;exact N8 I r1 (.int q) e fin
 | str q=>cases ht;exact N8 I r1 (.str q) e fin
 | ty q=>cases ht
 | ref p =>
  unfold tyD at ht
  cases q:M p with
  | none=>simp[q]at ht
  | some o =>
   cases o with
   | lst es =>
    simp only[q]at ht
    cases ht
    obtain⟨ys,hy,_⟩:=am.lst q
    exact N8 I r1 (.lst hy) e fin
   | ins C fs=>simp[q]at ht
 | tup s' l =>
  cases ht
  cases(show u=Value.ref _ from r1)
  obtain⟨its,_,⟨o,h1,h2,_⟩,_⟩:=I.tuple s'
  exact PySem.W.kia_one PySem.W.kitx_tuple I.kIn ⟨o,h1,h2⟩ e (fun z=>nomatch z) fin
 | vl hq hl' =>
  cases ht
  cases(show u=Value.ref _ from r1)
  obtain⟨_,_,ea,sq,_⟩:=Has.il (.vl hq hl')
  cases ea
  obtain⟨its,_,⟨o,n,h1,h2,_⟩,_⟩:=I.list sq
  exact PySem.W.kia_one PySem.W.kitx_list I.kIn ⟨o,h1,h2⟩ e (fun z=>nomatch z) fin
 | dic hq =>
  cases ht
  cases(show u=Value.ref _ from r1)
  obtain⟨o,g1,g2⟩:=hq
  exact PySem.W.kia_one PySem.W.kitx_dict I.kIn ⟨o,(I.hok _ _ g1).1,g2⟩ e (fun z=>nomatch z) fin
 | exc hq=>cases ht
end
section
variable {X:Cx} {a b c:Expr} {ta tb tc:DTE} {pos:Pos}
def Y0:DXK:=fun _ _=>False
theorem HP{K:OR}{H:Hp}{E:XK}:IA K H Y0 E:=fun _ _ h=>h.elim
structure Dl(K:OR)(x:Str)(st:Stmt)(f:Addr)(fd:FuncData):Prop where
 ex:∃(oc:Value) (od:Option Addr) (dV kV doc pm:Value) (an:Option Addr) (cdv ct:Value) (osl:Array (Option Value)),
  fd=PySem.W.fnOf x x (F8 st) (A9 st) (d7 st) dV kV doc pm an cdv ct∧K.lookup f=some ⟨oc,od,.func fd,osl⟩∧PySem.W.codeIn K cdv x=true
 kp:PySem.W.keepIn K (.ref f)=true
structure Df(K:OR)(mg:Str→Option Value)(x:Str)(st:Stmt)(ps:List Str):Prop where
 ex:∃(f:Addr) (fd:FuncData),Dl K x st f fd∧mg x=some (.ref f)∧O2 K fd ps []
structure DfL(K:OR)(mg:Str→Option Value)(x:Str)(st:Stmt)(ps:List Str):Prop where
 ex:∃(f:Addr) (fd:FuncData),Dl K x st f fd∧mg x=some (.ref f)∧∀ us:List Value,us.length=ps.length→bindArgs fd ⟨us,[]⟩=pure (ps.zip us)
structure Fn(P:Program)(w:World)(K:OR)(mg:Str→Option Value)(base:Heap)(x:Str)(k:Nat)(ps:List Str)(sp:DSp):Prop where
 ex:∃(f:Addr) (fd:FuncData),K5 P w K mg base CX0 k f fd ps (jv K sp)∧mg x=some (.ref f)∧PySem.W.keepIn K (.ref f)=true∧O2 K fd ps []
theorem yM{x:Str}{j:Nat}{ps:List Str}{sp:DSp}{p:Pos}{e:Expr}{es:List Expr}{t:DTA}(G:Fn X.prog X.w X.K X.mg X.base x j ps sp)(hr:B6 j X.A)(hg:Gl X x)(ha:JA X (e :: es) t)
  (hdb:(x == ("__debug__" : Str))=false:=by decide) (he:starEach (e :: es) X.env=(false,eval e X.env) :: starEach es X.env:=by rfl) (hpl:(backTo pos (starEach es X.env)).any (·.1)=false:=by rfl):JE X (.Call (.Name x p) (e :: es) [] pos) (ug sp [] Y0 t):=⟨have ha:=ha.out;by
 obtain⟨f,fd,F,hm,hk,hb⟩:=G.ex
 exact HY F hr hg hm hk hb .nil (fun _=>.nil) yo (fun _=>HP) ha hdb he hpl⟩
end
section
variable {P:Program} {w:World} {K:OR} {mg:Str→Option Value} {base:Heap}
theorem ET{x:Str}{st:Stmt}{f:Addr}{fd:FuncData}{N ps:List Str}{k:Nat}{sp:DSp}(F:Dl K x st f fd)(S:e6 N ps (d7 st))(len:∀ ds M R Y,sp ds M R Y→ds.length=ps.length)
  (hbody:∀(cdv:Value) (A:Around) (outer:List Env) (s:Shared) (H:Hp) (E:XK) (ds:List D) (M:Mem) (R:DK) (Y:DXK),B6 k (A.deeper (envOfC x (d7 st) s.heap.objs.size f cdv))→sp ds M R Y →
   ∃ t,JSs (F5 CX0 P w K mg base N x (d7 st) f cdv A outer s H E).nox (A9 st) t∧t { nx:=fun _ M'=>R .non M',rt:=R } (F4 N ds) M):K5 P w K mg base CX0 (k+1) f fd ps (jv K sp):=by
 obtain⟨oc,od,dV,kV,doc,pm,an,cdv,ct,osl,rfl,lk,hcd⟩:=F.ex
 refine tR lk hcd S (fun vs H Q E ⟨ds,M,R,Y,hl,_,hs,_,_⟩=>by rw[hl.length];exact len ds M R Y hs) fun A outer s H vs Q E hr zz=>?_
 obtain⟨ds,M,R,Y,hl,am,hs,fv,fx⟩:=zz
 obtain⟨t,h1,h2⟩:=hbody cdv A outer s H E ds M R Y hr hs
 refine⟨_,h1.out.nox,F4 N ds,M,_,v7.start0 hl,am,h2,⟨?_,fv,fun _ _ h=>h.elim,fun _ _ h=>h.elim⟩⟩
 exact fun e M' h σ' H' kt a o=>fv .non M' h .non H' kt a .non
theorem j6{x:Str}{st:Stmt}{N ps:List Str}{k:Nat}{sp:DSp}(d:Df K mg x st ps)(S:e6 N ps (d7 st))(len:∀ ds M R Y,sp ds M R Y→ds.length=ps.length)
  (hbody:∀(f:Addr) (cdv:Value) (A:Around) (outer:List Env) (s:Shared) (H:Hp) (E:XK) (ds:List D) (M:Mem) (R:DK) (Y:DXK),B6 k (A.deeper (envOfC x (d7 st) s.heap.objs.size f cdv))→sp ds M R Y →
   ∃ t,JSs (F5 CX0 P w K mg base N x (d7 st) f cdv A outer s H E).nox (A9 st) t∧t { nx:=fun _ M'=>R .non M',rt:=R } (F4 N ds) M):Fn P w K mg base x (k+1) ps sp:=by
 obtain⟨f,fd,F,hm,hb⟩:=d.ex
 exact⟨f,fd,ET F S len (hbody f),hm,F.kp,hb⟩
theorem j0{x:Str}{st:Stmt}{ps:List Str}{h:Heap}{f:Addr}{oc:Value}{od an:Option Addr}{osl:Array (Option Value)}{dV kV doc pm cdv ct:Value}(X:K.In h)(G:h.Ns mainGlobals mg)
  (n:PySem.W.nsIn K mainGlobals x=some (some (.ref f)))
  (l:K.lookup f=some ⟨oc,od,.func (PySem.W.fnOf x x (F8 st) (A9 st) (d7 st) dV kV doc pm an cdv ct),osl⟩)
  (c:PySem.W.codeIn K cdv x=true) (k:PySem.W.keepIn K (.ref f)=true)
  (hb:∀ us:List Value,us.length=ps.length→bindArgs (PySem.W.fnOf x x (F8 st) (A9 st) (d7 st) dV kV doc pm an cdv ct) ⟨us,[]⟩=pure (ps.zip us)):Df K mg x st ps :=
 ⟨f,_,⟨⟨oc,od,dV,kV,doc,pm,an,cdv,ct,osl,rfl,l,c⟩,k⟩,PySem.W.mg_of X G n,.all hb⟩
theorem HU{x:Str}{st:Stmt}{ps:List Str}{h:Heap}{f:Addr}{oc:Value}{od an:Option Addr}{osl:Array (Option Value)}{dV kV doc pm cdv ct:Value}(X:K.In h)(G:h.Ns mainGlobals mg)
  (n:PySem.W.nsIn K mainGlobals x=some (some (.ref f)))
  (l:K.lookup f=some ⟨oc,od,.func (PySem.W.fnOf x x (F8 st) (A9 st) (d7 st) dV kV doc pm an cdv ct),osl⟩)
  (c:PySem.W.codeIn K cdv x=true) (k:PySem.W.keepIn K (.ref f)=true)
  (hb:∀ us:List Value,us.length=ps.length→bindArgs (PySem.W.fnOf x x (F8 st) (A9 st) (d7 st) dV kV doc pm an cdv ct) ⟨us,[]⟩=pure (ps.zip us)):DfL K mg x st ps :=
 ⟨f,_,⟨⟨oc,od,dV,kV,doc,pm,an,cdv,ct,osl,rfl,l,c⟩,k⟩,PySem.W.mg_of X G n,hb⟩
theorem HV{x:Str}{st:Stmt}{ps:List Str}{h:Heap}{f:Addr}{oc:Value}{od an:Option Addr}{osl:Array (Option Value)}{dV kV doc pm cdv ct:Value}(X:K.In h)(G:h.Ns mainGlobals mg)
  (n:PySem.W.nsIn K mainGlobals x=some (some (.ref f)))
  (l:K.lookup f=some ⟨oc,od,.func (PySem.W.fnOf x x (F8 st) (A9 st) (d7 st) dV kV doc pm an cdv ct),osl⟩)
  (c:PySem.W.codeIn K cdv x=true) (k:PySem.W.keepIn K (.ref f)=true)
  (hb:∀ us:List Value,us.length=ps.length→∀ S,PySem.W.peek K S (bindArgs (PySem.W.fnOf x x (F8 st) (A9 st) (d7 st) dV kV doc pm an cdv ct) ⟨us,[]⟩)=some (ps.zip us)):Df K mg x st ps :=
 ⟨f,_,⟨⟨oc,od,dV,kV,doc,pm,an,cdv,ct,osl,rfl,l,c⟩,k⟩,PySem.W.mg_of X G n,fun s us X' hl=>by rw[PJ]at hl ⊢;exact PySem.W.kp_binds X' (hb us hl)⟩
end
section
variable {X:Cx} {x:Str} {p pos:Pos} {e:Expr} {es:List Expr} {t:DTA} {id T:String} {o:Expr} {to:DTE} {a b c:Expr} {ta tb tc:DTE}
theorem f9{g:DRC}(hc:R9 X (.builtin id) g)(hg:Gl X x)(hm:X.mg x=none)(hv:bootBuiltins x=some (.builtin id))(ha:JA X (e :: es) t)
  (hn:x ≠ "__name__" := by decide) (hdb:(x == ("__debug__" : Str))=false:=by decide) (he:starEach (e :: es) X.env=(false,eval e X.env) :: starEach es X.env:=by rfl) (hpl:(backTo pos (starEach es X.env)).any (·.1)=false:=by rfl):JE X (.Call (.Name x p) (e :: es) [] pos) (dCB g t):=⟨have ha:=ha.out;(ym hc hg hm hv ha hn hdb he hpl).imp fun _ _ _ h=>Fq h⟩
theorem J2{g:DRC}(hc:R9 X (.type T) g)(hg:Gl X x)(hm:X.mg x=none)(hv:bootBuiltins x=some (.type T))(ha:JA X (e :: es) t)
  (hn:x ≠ "__name__" := by decide) (hdb:(x == ("__debug__" : Str))=false:=by decide) (he:starEach (e :: es) X.env=(false,eval e X.env) :: starEach es X.env:=by rfl) (hpl:(backTo pos (starEach es X.env)).any (·.1)=false:=by rfl):JE X (.Call (.Name x p) (e :: es) [] pos) (dCB g t):=⟨have ha:=ha.out;(iZ hc hg hm hv ha hn hdb he hpl).imp fun _ _ _ h=>Fq h⟩
theorem sX:OpR X (binaryOp .Add) (fun x y H Q=>∃ l b xs zs,x = .ref l∧y = .ref b∧SqL X.K H l xs∧SqL X.K H b zs∧xs.length+zs.length≤sizeLine∧∀ p,H p=none→Q (.ref p) (upd H p (.lst (xs++zs)))):=by
 intro pins s σ H x y v u Q I rx ry h
 obtain⟨l,b,xs,zs,rfl,rfl,hH,hB,hz,q⟩:=h
 cases rx
 cases ry
 obtain⟨its,r,pl,z1⟩:=I.list hH
 obtain⟨its2,r2,pl2,z2⟩:=I.list hB
 have hl:=r.length
 have hl2:=r2.length
 obtain⟨⟨cls,dd,data,sl⟩,ho,hc,n,hd⟩:=pl.isList
 obtain⟨⟨cls2,dd2,data2,sl2⟩,ho2,hc2,n2,hd2⟩:=pl2.isList
 simp only at hc hd hc2 hd2
 subst hc hd hc2 hd2
 have ea:its.toArray++its2.toArray=(its++its2).toArray:=by simp
 refine concat_meets ⟨_,ho,rfl⟩ ⟨_,ho2,rfl⟩ noFill_list_add seq_list_add PySem.F.slot_list_add PySem.F.entry_list_add (PySem.F.args_list_add_2 _ _) (list_addW l b its.toArray its2.toArray n n2 dd dd2 sl sl2 (by simp only[Pr];omega)) ⟨ho,ho2,?_⟩
 rw[ea]
 exact⟨.ref _,_,I.lnew (t':=s.toks) (r.append r2) (by rw[Pl];omega),rfl,q _ I.fresh⟩
noncomputable def F3(M:Mem):D→Option (List D)
 | .ref p=>match M p with
  | some (.lst ds)=>some ds
  | _=>none
 | .vl ds=>some ds
 | _=>none
theorem C4{K:OR}{H:Hp}{M:Mem}{v:V}{d:D}{ds:List D}(am:m7 K H M)(h:Has K H v d)(e:F3 M d=some ds):∃ a xs,v = .ref a∧SqL K H a xs∧HasL K H xs ds:=by
 cases h with
 | ref p =>
  unfold F3 at e
  cases q:M p with
  | none=>simp[q]at e
  | some o =>
   cases o with
   | lst es =>
    simp only[q]at e
    cases e
    obtain⟨xs,hx,l⟩:=am.lst q
    exact⟨p,xs,rfl,SqL.of hx,l⟩
   | ins C fs=>simp[q]at e
 | vl hq hl =>
  cases e
  exact Has.il (.vl hq hl)
 | _=>cases e
def zi:DR2:=fun x y M R=>∃ xs ys,F3 M x=some xs∧F3 M y=some ys∧xs.length+ys.length≤sizeLine∧∀ p,M p=none→R (.ref p) (q9 M p (.lst (xs++ys)))
theorem EH:DOp X (binaryOp .Add) zi:=OpR.imp sX (by
 rintro x y H Q ⟨dx,dy,M,R,hx,hy,am,⟨xs,ys,e1,e2,hz,r⟩,f⟩
 obtain⟨a,vs,rfl,s1,l1⟩:=C4 am hx e1
 obtain⟨b,ws,rfl,s2,l2⟩:=C4 am hy e2
 refine⟨a,b,vs,ws,rfl,rfl,s1,s2,by rw[l1.length,l2.length];exact hz,fun p hp=>?_⟩
 exact f _ _ (r p (am.fresh hp)) _ _ (KT.alloc hp) (am.new hp (l1.append l2)) (.ref p))
end
theorem sl(n:Nat)(h:n≤1000:=by decide):n≤sizeLine:=Pa h (by decide)
section
variable {X:Cx}
open Classical in
def HL(neg:Bool):DR2:=fun x y M R=>cl 60 x=true∧cl 60 y=true∧R (.bl (neg.xor (decide (x=y)))) M
theorem ny(hu:X.A.units+64<cLine):DOp X (compareOp .Eq) (HL false):=OpR.imp (LH hu) (by rintro _ _ _ _ ⟨dx,dy,M,R,hx,hy,am,⟨h1,h2,h3⟩,f⟩;exact⟨dx,dy,M,R,hx,hy,am,ze h3 h1 h2,f⟩)
theorem Kc(hu:X.A.units+64<cLine):DOp X (compareOp .NotEq) (HL true):=OpR.imp (LG hu) (by rintro _ _ _ _ ⟨dx,dy,M,R,hx,hy,am,⟨h1,h2,h3⟩,f⟩;exact⟨dx,dy,M,R,hx,hy,am,ze h3 h1 h2,f⟩)
theorem F9:DOp X (compareOp .Eq) (gF (fI fun i j=>.bl (decide (i=j)))):=OpR.imp EG (by
 rintro x y H Q ⟨dx,dy,M,R,hx,hy,am,⟨z,e,r⟩,f⟩
 obtain⟨i,j,e1,e2,e3⟩:=kO e
 subst e1;subst e2;subst e3
 cases hx;cases hy
 refine⟨rfl,?_⟩
 have e:decide (V.int i=V.int j)=decide (i=j):=by simp
 rw[e]
 exact f _ M r _ H (KT.refl H) am (.bl _))
theorem K8:DOp X (compareOp .NotEq) (gF (fI fun i j=>.bl (!decide (i=j)))):=OpR.imp EF (by
 rintro x y H Q ⟨dx,dy,M,R,hx,hy,am,⟨z,e,r⟩,f⟩
 obtain⟨i,j,e1,e2,e3⟩:=kO e
 subst e1;subst e2;subst e3
 cases hx;cases hy
 refine⟨rfl,?_⟩
 have e:decide (V.int i=V.int j)=decide (i=j):=by simp
 rw[e]
 exact f _ M r _ H (KT.refl H) am (.bl _))
end
theorem HG{c:Prop}[Decidable c]{A B:Prop}(h1:c→A)(h2:¬ c→B):if decide c=true then A else B:=by
 by_cases h:c
 ·rw[if_pos (decide_eq_true h)];exact h1 h
 ·rw[if_neg (by rw[decide_eq_false h];exact Pk)];exact h2 h
theorem Kk{c:Prop}[Decidable c]{A B:Prop}(h1:¬ c→A)(h2:c→B):if (!decide c)=true then A else B:=by
 by_cases h:c
 ·rw[decide_eq_true h];rw[if_neg (by decide)];exact h2 h
 ·rw[decide_eq_false h];rw[if_pos (by decide)];exact h1 h
theorem ai{n k:Nat}(h:n<2 ^ k)(hk:0<k):n.log2<k:=by
 rcases Se n with h0|h0
 ·subst h0;rw[Nat.log2_zero];exact hk
 ·exact(RX (RY.mp h0)).mpr h
theorem tq{a b:Int}(m n:Nat)(ha:a.natAbs<2 ^ m)(hb:b.natAbs<2 ^ n)(h:m+n≤100000):IntMulOk a b:=by
 have hx:∀(x:Int) (k:Nat),x.natAbs<2 ^ k→Builtin.Int.intBits x≤k:=fun x k hx=>by
  unfold Builtin.Int.intBits
  split
  ·exact PD _
  ·rename_i h0
   have:x.natAbs≠0:=by
    intro z;apply h0
    first|exact(by simpa using Int.natAbs_eq_zero.mp z)|(simp;omega)
   have:=(RX this).mpr hx
   omega
 exact PySem.IntMulOk.of_le (hx a m ha) (hx b n hb) (by omega)
noncomputable def LJ(t T:String):Option Bool:=if PySem.W.kitMeta T=true then(fastBuiltinMro t).map (·.contains (.type T))else none
theorem JD(K:OR):oq K:=by
 intro t T b h
 unfold oM at h
 by_cases e:t=T
 ·subst e
  rw[if_pos rfl]at h
  cases h
  unfold PySem.W.kitOne
  rw[if_pos (beq_self_eq_true _)]
 ·rw[if_neg e]at h
  have hne:¬ (Value.type t == Value.type T)=true:=fun z=>e (by have:=eq_of_beq z;injection this)
  unfold PySem.W.kitOne
  rw[if_neg hne]
  show LJ t T=some b
  split at h
  ·cases h;decide +kernel
  ·split at h
   ·rename_i hh
    obtain⟨ht,hT⟩:=hh
    simp only[Pb,Pj,or_false]at ht hT
    cases h
    rcases ht with rfl|rfl|rfl|rfl|rfl|rfl|rfl<;>rcases hT with rfl|rfl|rfl|rfl|rfl<;>first|exact absurd rfl e|decide +kernel|(exfalso;simp_all)
   ·cases h
theorem qb{K:OR}{H:Hp}{a:Addr}{ns:List Int}(hO:vp H)(hS:SqL K H a (ns.map V.int)):Has K H (.ref a) (.vl (ns.map D.int)):=by
 rcases hS with(h|⟨o,h⟩)|h
 ·rcases hO a with z|⟨o,xs,z⟩
  ·rw[z]at h;cases h
  ·rw[z]at h;cases h
 ·exact .vl (.inl ⟨o,h⟩) (HasL.ints ns)
 ·exact .vl (.inr fun _=>.inr h) (HasL.ints ns)
theorem Ht{K:OR}{H:Hp}{a:Addr}{ns:List Int}{sp:DSp}(hO:vp H)(hS:SqL K H a (ns.map V.int))(h:sp [.vl (ns.map D.int)] (fun _=>none) (fun d _=>d = .bl true) Y0) :
  jv K sp [.ref a] H (fun v _=>v = .bl true) (fun _ _ _=>False) :=
 ⟨[.vl (ns.map D.int)],fun _=>none,fun d _=>d = .bl true,Y0,.cons (qb hO hS) .nil,fun _ _ z=>(by cases z),h,fun d M' e v H' _ _ hv=>by subst e;cases hv;rfl,fun _ _ z=>z.elim⟩
section
variable {X:Cx} {o e:Expr} {es:List Expr} {to:DTE} {t:DTA} {name:Str} {apos cpos:Pos} {id:String}
noncomputable abbrev DRM:=D→List D→Mem→DK→Prop
noncomputable def upM(K:OR)(g:DRM):V→List V→Hp→VK→Prop:=fun x xs H Q=>∃ dx ds M R,Has K H x dx∧HasL K H xs ds∧m7 K H M∧g dx ds M R∧cu K H R Q
def DMt(X:Cx)(id:String)(g:DRM):Prop:=MtR X id (upM X.K g)
theorem MtR.imp{r r':V→List V→Hp→VK→Prop}(h:MtR X id r)(i:∀ x xs H Q,r' x xs H Q→r x xs H Q):MtR X id r':=fun pins s σ H x xs v us Q I rx rv q=>h pins s σ H x xs v us Q I rx rv (i x xs H Q q)
def dLM(g:DRM)(to:DTE)(t:DTA):DTE:=fun e M R=>to e M fun x M1=>(∃ l ds,x = .ref l∧M1 l=some (.lst ds))∧t e M1 fun xs M2=>g x xs M2 R
theorem nF{g:DRM}(slot:Slot "list" name id)(hty:typeOf (.builtin id)=pure (.type "method_descriptor"))(hm:DMt X id g)(ho:JE X o to)(ha:JA X (e :: es) t)
  (hbase:attributeBase o name X.env (eval o X.env)=eval o X.env:=by rfl)
  (hfew:((backTo cpos (starEach (e :: es) X.env)).all (fun x=>!x.1) && (backToKw cpos (keywordEach [] X.env)).all (fun x=>x.1.isSome)
   && decide ((e :: es).length+([]:List Keyword).length+(if ([]:List Keyword).isEmpty then 0 else 1)<30))=true:=by rfl)
  (hline:(apos.endLine == cpos.line)=true:=by rfl) (hs:starEach (e :: es) X.env=(false,eval e X.env) :: starEach es X.env:=by rfl) (hplain:(backTo cpos (starEach es X.env)).any (·.1)=false:=by rfl):JE X (.Call (.Attribute o name apos) (e :: es) [] cpos) (dLM g to t):=⟨have ho:=ho.out;have ha:=ha.out;(mV PySem.F.plainAttrs_list slot hty hm ho ha hbase hfew hline hs hplain).imp (by rintro σ H Q ⟨e,M,R,ok,am,t,f⟩;exact⟨e,M,_,ok,am,t,fun x M1 ⟨⟨l,ds,z,hM⟩,h1⟩ v H1 k1 a1 r1=>by
  subst z
  have r1':=r1
  cases r1
  obtain⟨xs,hx,_⟩:=a1.lst hM
  refine⟨.inl ⟨rfl,xs,SqL.of hx⟩,e,M1,_,ok.mono k1,a1,h1,fun zs M2 h2 vs H2 k2 a2 r2=>?_⟩
  exact⟨_,zs,M2,R,r1'.mono k2,r2,a2,h2,f.mono (k1.trans k2)⟩⟩)⟩
noncomputable def isB(k:Bool):Value→Bool
 | .bool b=>b == k
 | _=>false
theorem eM:∀{bs:List Bool} {us:List Value},j8 (bs.map V.bl) us→us=bs.map Value.bool
 | [],_,r=>by cases r;rfl
 | b :: bs,_,r=>by
  cases r with
  | cons r rr =>
   cases(show _=Value.bool b from r)
   rw[eM rr];rfl
theorem HasL.bools{K:OR}{H:Hp}:∀{bs:List Bool} {vs:List V},HasL K H vs (bs.map D.bl)→vs=bs.map V.bl
 | [],_,r=>by cases r;rfl
 | b :: bs,_,r=>by
  cases r with
  | cons r rr=>cases r;rw[HasL.bools rr];rfl
noncomputable def fB(f:Bool→Bool→D):D→D→Option D
 | .bl i,.bl j=>some (f i j)
 | _,_=>none
end
section
variable {X:Cx}
end
section
variable {X:Cx} {st:Stmt} {C9:List Stmt} {t u:DTS}
def Fg(t u:DTS):DTS:=fun F e M=>∃ P:Ev→Mem→Prop,t { F with nx:=P } e M∧∀ e' M',P e' M'→u F e' M'
theorem N6(h1:JS X st t)(h2:JSs X C9 u):JSs X (st :: C9) (Fg t u):=⟨have h1:=h1.out;have h2:=h2.out;(fm h1 h2).imp (by rintro E σ H ⟨e,M,F,ok,am,⟨P,t,hP⟩,f⟩;exact⟨e,M,{ F with nx:=P },ok,am,t,⟨fun e' M' h σ' H' k a o=>⟨e',M',F,o,a,hP e' M' h,f.mono k⟩,f.rt,f.bk,f.ct⟩⟩)⟩
end
section
variable {X:Cx}
theorem uH(bs:List Bool):(QT bs.length).any (fun i=>bs.getD i true)=bs.any id:=by
 have:(QT bs.length).map (fun i=>bs.getD i true)=bs:=by
  apply Sw (by simp)
  intro i h1 h2
  simp[Rh,h2]
 conv=>rhs;rw[← this]
 rw[List.any_map];rfl
theorem mm{prog:Program}{w:World}{A:Around}(bs:List Bool):TruthOf prog w A (fun i v=>(bs.map Value.bool).toArray[i]? = some v) (fun i=>bs.getD i true):=by
 intro i v s Q E h q
 have h':(bs.map Value.bool)[i]? = some v:=by simpa using h
 rw[Py]at h'
 cases e:bs[i]? with
 | none=>rw[e]at h';cases h'
 | some b =>
  rw[e]at h'
  cases h'
  have q':Q b s:=by simpa[Rh,e]using q
  exact wpAny_truthy_bool q'
theorem vk(hc:X.calm=true):A3 X (.builtin "any") (fun xs H Q=>∃(l:Addr) (bs:List Bool),xs=[.ref l]∧SqL X.K H l (bs.map V.bl)∧Q (.bl (bs.any id)) H):=by
 intro pins s σ H xs us Q I r h
 obtain⟨l,bs,rfl,hS,q⟩:=h
 obtain⟨u,rfl,ru⟩:=S5 r
 cases ru
 obtain⟨its,rv,p,_⟩:=I.list hS
 have hb:=eM rv
 subst hb
 have hl:s.heap.IsList l (bs.map Value.bool).toArray:=p.isList
 have hne:l≠s.heap.objs.size:=by
  obtain⟨o,e,_⟩:=id hl
  exact Pu (OY e)
 refine call_any_walk (wpAny_pyIter_list hl ?_)
 refine⟨s.heap.objs.size,_,_,_,_,_,fun i=>bs.getD i true,rfl,Walks.list (A:=X.A.in1) (I.ok.hd hc) s.heap.objs.size l hne (bs.map Value.bool).toArray,⟨⟨_,Pd _ rfl,rfl,rfl⟩,hl.at fun o e=>OT _ e⟩,mm bs,fun h' tk kk=>?_⟩
 have e:(QT (bs.map Value.bool).toArray.size).any (fun i=>bs.getD i true)=bs.any id:=by
  rw[show(bs.map Value.bool).toArray.size=bs.length by simp];exact uH bs
 rw[e]
 exact⟨.bl (bs.any id),H,I.kept fun b o z=>kk b o (by simp;exact Pu (OY z)) (OT _ z),rfl,q⟩
def HM:DRC:=fun ds M R=>∃(d:D) (bs:List Bool),ds=[d]∧F3 M d=some (bs.map D.bl)∧R (.bl (bs.any id)) M
theorem KW(hc:X.calm=true):R9 X (.builtin "any") HM:=A3.imp (vk hc) (by
 rintro xs H Q ⟨ds,M,R,hl,am,⟨d,bs,z,hM,r⟩,f⟩
 subst z
 obtain⟨v,rfl,hv⟩:=hl.one
 obtain⟨a,vs,rfl,s,l⟩:=C4 am hv hM
 rw[l.bools]at s
 exact⟨a,bs,rfl,s,f _ M r _ H (KT.refl H) am (.bl _)⟩)
end
theorem Ik:bootBuiltins "any" = some (.builtin "any"):=by decide +kernel
structure GlD(K:OR)(mg:Str→Option Value)(x:Str)(d:D):Prop where
 ex:∃(v:V) (u:Value),mg x=some u∧o7 v u∧Iy K v d
theorem e7{X:Cx}{x:Str}{d:D}{pos:Pos}(hg:Gl X x)(g:GlD X.K X.mg x d)(hd:(x == ("__debug__" : Str))=false:=by decide):JE X (.Name x pos) (dC d):=⟨by
 obtain⟨v,u,h1,h2,h3⟩:=g.ex
 exact HX hg h1 h2 h3 hd⟩
theorem tN{K:OR}{mg:Str→Option Value}{h:Heap}{x:Str}{a:Addr}{od:Option Addr}{osl:Array (Option Value)}{i j:Int}{t u:Tok}{cap:Nat}(X:K.In h)(G:h.Ns mainGlobals mg)
  (n:PySem.W.nsIn K mainGlobals x=some (some (.ref a))) (l:K.lookup a=some ⟨.type "tuple",od,.seq #[.int i t,.int j u] cap,osl⟩):GlD K mg x (.tup [.int i,.int j]) :=
 ⟨.ref a,.ref a,PySem.W.mg_of X G n,rfl,fun H=>.tup (xs:=[.int i,.int j]) (.inr ⟨_,_,_,l,rfl,rfl,(show 2≤sizeLine by decide),.cons (show o7 (.int i) (.int i t)from⟨t,rfl⟩) (.cons (show o7 (.int j) (.int j u)from⟨u,rfl⟩) .nil)⟩) (.cons (.int i) (.cons (.int j) .nil))⟩
noncomputable def fS(f:Str→Str→D):D→D→Option D
 | .str i,.str j=>some (f i j)
 | _,_=>none
theorem tX{f:Str→Str→D}{x y z:D}(h:fS f x y=some z):∃ i j,x = .str i∧y = .str j∧z=f i j:=by
 cases x with
 | str i =>
  cases y with
  | str j=>exact⟨i,j,rfl,rfl,(Option.some.inj h).symm⟩
  | _=>cases h
 | _=>cases h
section
variable {X:Cx}
theorem p0:DOp X (compareOp .Eq) (gF (fS fun i j=>.bl (decide (i=j)))):=OpR.imp EG (by
 rintro x y H Q ⟨dx,dy,M,R,hx,hy,am,⟨z,e,r⟩,f⟩
 obtain⟨i,j,e1,e2,e3⟩:=tX e
 subst e1;subst e2;subst e3
 cases hx;cases hy
 refine⟨rfl,?_⟩
 have e:decide (V.str i=V.str j)=decide (i=j):=by simp
 rw[e]
 exact f _ M r _ H (KT.refl H) am (.bl _))
theorem sY:DOp X (compareOp .NotEq) (gF (fS fun i j=>.bl (!decide (i=j)))):=OpR.imp EF (by
 rintro x y H Q ⟨dx,dy,M,R,hx,hy,am,⟨z,e,r⟩,f⟩
 obtain⟨i,j,e1,e2,e3⟩:=tX e
 subst e1;subst e2;subst e3
 cases hx;cases hy
 refine⟨rfl,?_⟩
 have e:decide (V.str i=V.str j)=decide (i=j):=by simp
 rw[e]
 exact f _ M r _ H (KT.refl H) am (.bl _))
end
structure ib(K:OR)(H1:Hp)(J:It)(ds:List D)(stay:Mem→Prop):Prop where
 go:∀ i H' M',i<ds.length→KT H1 H'→m7 K H' M'→stay M'→J.go i H'
 yld:∀ i H' M' x H'',i<ds.length→KT H1 H'→m7 K H' M'→stay M'→J.yld i H' x H''→∃ d,ds[i]? = some d∧KT H' H''∧m7 K H'' M'∧Has K H'' x d
 stop:∀ i H' M',ds.length≤i→KT H1 H'→m7 K H' M'→stay M'→J.stop i H'
 up:∀ M' p o,stay M'→M' p=none→stay (q9 M' p o)
def upI(K:OR)(ti:DTI):TI:=fun σ H R=>∃ e M R',v7 K H σ e∧m7 K H M∧ti e M R'∧∀ ds stay M1,R' ds stay M1→∀ H1,KT H H1→m7 K H1 M1→∀ J,ib K H1 J ds stay→R J H1
def DPI(X:Cx)(tg iter:Expr)(ti:DTI):Prop:=PI X tg iter (upI X.K ti)
structure JI(X:Cx)(tg iter:Expr)(ti:DTI):Prop where
 out:DPI X tg iter ti
theorem PI.imp{X:Cx}{tg iter:Expr}{wi wi':TI}(h:PI X tg iter wi)(i:∀ σ H R,wi' σ H R→wi σ H R):PI X tg iter wi':=fun pins s σ H R I q=>h pins s σ H R I (i σ H R q)
section
variable {X:Cx} {tg iter:Expr} {ti:DTE} {ta:DTA}
theorem wX{K:OR}{H1:Hp}{a:Addr}{xs:List V}{ds:List D}(s:SqT K H1 a xs)(l:HasL K H1 xs ds):ib K H1 (Itt K a) ds (fun _=>True) where
 go:=fun i H' M' hi k _ _=>⟨xs,_,k.sq s,PH (by rw[l.length];exact hi)⟩
 yld:=fun i H' M' x H'' hi k am _ zz=>by
  obtain⟨e,y⟩:=zz
  subst e
  obtain⟨d,hd,r⟩:=l.getV (y xs (k.sq s))
  exact⟨d,hd,KT.refl _,am,r.mono k⟩
 stop:=fun i H' M' hi k _ _=>⟨xs,k.sq s,by rw[l.length];exact hi⟩
 up:=fun _ _ _ _ _=>trivial
theorem xg{K:OR}{H1:Hp}{p:Addr}{ds:List D}:ib K H1 (Itl K p) ds (fun M'=>M' p=some (.lst ds)) where
 go:=fun i H' M' hi k am st=>by
  obtain⟨ys,hy,ly⟩:=am.lst st
  exact⟨ys,_,SqL.of hy,PH (by rw[ly.length];exact hi)⟩
 yld:=fun i H' M' x H'' hi k am st zz=>by
  obtain⟨e,y⟩:=zz
  subst e
  obtain⟨ys,hy,ly⟩:=am.lst st
  obtain⟨d,hd,r⟩:=ly.getV (y ys (SqL.of hy))
  exact⟨d,hd,KT.refl _,am,r⟩
 stop:=fun i H' M' hi k am st=>by
  obtain⟨ys,hy,ly⟩:=am.lst st
  exact⟨ys,SqL.of hy,by rw[ly.length];exact hi⟩
 up:=fun M' q o st hq=>by rw[j5 (by intro e;subst e;rw[hq]at st;cases st)];exact st
theorem wZ{K:OR}{H1:Hp}{lo:Int}{n:Nat}:ib K H1 (Itr lo n) (U6 lo n) (fun _=>True) where
 go:=fun i H' M' hi k am st=>by rw[C7]at hi;exact hi
 yld:=fun i H' M' x H'' hi k am st zz=>by
  obtain⟨e,y⟩:=zz
  subst e;subst y
  rw[C7]at hi
  exact⟨_,pH hi,KT.refl _,am,.int _⟩
 stop:=fun i H' M' hi k am st=>by rw[C7]at hi;exact hi
 up:=fun _ _ _ _ _=>trivial
theorem tE{a:Expr}{p p2:Pos}(hr:Gl X "range")(hm:X.mg "range" = none)(ha:JA X [a] ta)(hs0:starEach [a] X.env=[(false,eval a X.env)]:=by rfl):JI X tg (.Call (.Name "range" p) [a] [] p2) (EY ta):=⟨have ha:=ha.out;PI.imp (uJ hr hm ha hs0) (by rintro σ H R ⟨e,M,R',ok,am,t,f⟩;exact⟨e,M,_,ok,am,t,fun ds M1 ⟨j,z,b1,b2,r⟩ vs H1 k1 a1 r1=>by
  subst z
  obtain⟨v,rfl,hv⟩:=r1.one
  cases hv
  exact⟨j,rfl,b1,b2,f _ _ M1 r H1 k1 a1 _ wZ⟩⟩)⟩
def A4(M:Mem)(x:D)(ds:List D):Prop:=x = .tup ds∨(∃ p,x = .ref p∧M p=some (.lst ds))∨x = .vl ds
noncomputable def jf:D→Bool
 | .tup _=>false
 | _=>true
theorem y7{K:OR}{H:Hp}{M:Mem}{v:V}{x:D}{ds:List D}(h:A4 M x ds)(am:m7 K H M)(r:Has K H v x):∃ a xs,v = .ref a∧SqK K (jf x) H a xs∧HasL K H xs ds:=by
 rcases h with rfl|⟨p,rfl,m⟩|rfl
 rotate_left 2
 ·obtain⟨a,xs,e,sq,l⟩:=r.il
  exact⟨a,xs,e,sq,l⟩
 ·cases r with
  | tup s l=>exact⟨_,_,rfl,s,l⟩
 ·cases r
  obtain⟨xs,hx,l⟩:=am.lst m
  exact⟨p,xs,rfl,SqL.of hx,l⟩
theorem W7{M:Mem}{x:D}{ds:List D}{q:Addr}{o:MO}(h:A4 M x ds)(hq:M q=none):A4 (q9 M q o) x ds:=by
 rcases h with h|⟨p,e,h⟩|h
 ·exact .inl h
 ·exact .inr (.inl ⟨p,e,by rw[j5 (by intro e;subst e;rw[hq]at h;cases h)];exact h⟩)
 ·exact .inr (.inr h)
noncomputable def bu(ds es:List D):List D:=List.zipWith (fun a b=>.tup [a,b]) ds es
theorem cw(ds es:List D):(bu ds es).length=min ds.length es.length:=by simp[bu]
theorem vx{ds es:List D}{i:Nat}{a b:D}(h1:ds[i]? = some a)(h2:es[i]? = some b):(bu ds es)[i]? = some (.tup [a,b]):=by
 unfold bu
 rw[List.getElem?_zipWith,h1,h2]
theorem wW{K:OR}{H1:Hp}{x y:D}{l1 l2:Addr}{ds es:List D}(h1:Has K H1 (.ref l1) x)(h2:Has K H1 (.ref l2) y) :
  ib K H1 (Itz K (jf x) (jf y) l1 l2) (bu ds es) (fun M'=>A4 M' x ds∧A4 M' y es) where
 go:=fun i H' M' hi k am zz=>by
  obtain⟨s1,s2⟩:=zz
  rw[cw]at hi
  obtain⟨a,xs,e1,q1,m1⟩:=y7 s1 am (h1.mono k)
  obtain⟨b,ys,e2,q2,m2⟩:=y7 s2 am (h2.mono k)
  cases e1;cases e2
  exact⟨xs,ys,_,_,q1,q2,PH (by rw[m1.length];omega),PH (by rw[m2.length];omega)⟩
 yld:=fun i H' M' v H'' hi k am ⟨s1,s2⟩ ⟨T,a,b,hT,ev,eH,u1,u2⟩=>by
  subst ev;subst eH
  obtain⟨a',xs,e1,q1,m1⟩:=y7 s1 am (h1.mono k)
  obtain⟨b',ys,e2,q2,m2⟩:=y7 s2 am (h2.mono k)
  cases e1;cases e2
  obtain⟨d1,g1,r1⟩:=m1.getV (u1 xs q1)
  obtain⟨d2,g2,r2⟩:=m2.getV (u2 ys q2)
  have kt:KT H' (upd H' T (.tup [a,b])):=KT.alloc hT
  exact⟨_,vx g1 g2,kt,am.alloc hT,.tup (SqT.of i6) (.cons (r1.mono kt) (.cons (r2.mono kt) .nil))⟩
 stop:=fun i H' M' hi k am zz=>by
  obtain⟨s1,s2⟩:=zz
  rw[cw]at hi
  obtain⟨a,xs,e1,q1,m1⟩:=y7 s1 am (h1.mono k)
  obtain⟨b,ys,e2,q2,m2⟩:=y7 s2 am (h2.mono k)
  cases e1;cases e2
  refine⟨xs,ys,q1,q2,?_⟩
  rw[m1.length,m2.length]
  omega
 up:=fun _ _ _ st hq=>⟨W7 st.1 hq,W7 st.2 hq⟩
def EU(ta:DTA):DTI:=fun e M R=>ta e M fun xs M1=>∃ x y ds es,xs=[x,y]∧A4 M1 x ds∧A4 M1 y es∧R (bu ds es) (fun M'=>A4 M' x ds∧A4 M' y es) M1
theorem Cs{elts:List Expr}{kx:Nat}{tp:Pos}{a b:Expr}{p pos:Pos}(hg:Gl X "zip")(hm:X.mg "zip" = none)(ha:JA X [a,b] ta)
  (hs:starEach [a,b] X.env=[(false,eval a X.env),(false,eval b X.env)]:=by rfl) (hs2:starEach [b] X.env=[(false,eval b X.env)]:=by rfl):JI X (.Tuple elts kx tp) (.Call (.Name "zip" p) [a,b] [] pos) (EU ta):=⟨have ha:=ha.out;PI.imp (GH hg hm ha hs hs2) (by rintro σ H R ⟨e,M,R',ok,am,t,f⟩;exact⟨e,M,_,ok,am,t,fun xs M1 ⟨x,y,ds,es,z,s1,s2,r⟩ vs H1 k1 a1 r1=>by
  subst z
  obtain⟨v,v',rfl,hv,hv'⟩:=r1.two
  obtain⟨a,zs,rfl,q1,m1⟩:=y7 s1 a1 hv
  obtain⟨b,ws,rfl,q2,m2⟩:=y7 s2 a1 hv'
  exact⟨_,_,a,b,rfl,⟨zs,q1⟩,⟨ws,q2⟩,f _ _ M1 r H1 k1 a1 _ (wW hv hv')⟩⟩)⟩
end
section
variable {X:Cx} {tg iter:Expr} {body:List Stmt} {ti:DTI} {g:DTG} {tb:DTS} {pos:Pos}
theorem E4(hp:PassesOwn (model X.prog X.w) X.A X.env X.xe)(hc:X.calm=true)(hi:JI X tg iter ti)(hg:JG X tg g)(hb:JSs X body tb)
  (hs:∀ x,foldedSetIterable iter X.env x=pure x:=by intro _;rfl):JS X (.For tg iter body [] pos) (KN ti g tb):=⟨have hi:=hi.out;have hg:=hg.out;have hb:=hb.out;(GD hp hc hi hg hb hs).imp (by rintro E σ H ⟨e,M,F,ok,am,t,f⟩;exact⟨e,M,_,ok,am,t,fun ds stay M1 ⟨W,w0,hst,step,done⟩ H1 k1 a1 J wk=>by
  refine⟨fun i m σ' H'=>m=ds.length - i∧i≤ds.length∧∃ e' M',KT H1 H'∧v7 X.K H' σ' e'∧m7 X.K H' M'∧W i e' M',⟨ds.length,by simp,PD _,e,M1,KT.refl H1,ok.mono k1,a1,w0⟩,?_⟩
  rintro i m σ2 H2 ⟨rfl,hi,e2,M2,k2,ok2,a2,w2⟩
  have st:=hst i e2 M2 hi w2
  by_cases hlt:i<ds.length
  ·refine .inr ⟨wk.go i H2 M2 hlt k2 a2 st,fun σ' H'=>∃ e' M',KT H1 H'∧v7 X.K H' σ' e'∧m7 X.K H' M'∧W (i+1) e' M',fun σ' H' h=>⟨ds.length - (i+1),by omega,rfl,hlt,h⟩,fun y H' yl=>?_⟩
   obtain⟨d,hd,k3,a3,r⟩:=wk.yld i H2 M2 y H' hlt k2 a2 st yl
   exact zj f k1 (k2.trans k3) (ok2.mono k3) a3 r (step i d e2 M2 hd w2)
  ·have e':i=ds.length:=by omega
   subst e'
   exact .inl ⟨wk.stop _ H2 M2 (Pe _) k2 a2 st,f.nx e2 M2 (done e2 M2 w2) σ2 H2 (k1.trans k2) a2 ok2⟩⟩)⟩
end
noncomputable def cX(n:Nat)(caps:List Nat)(e:Ev):Ev:=PK n none++caps.map fun i=>(e[i]?).getD none
theorem tY{K:OR}{H:Hp}{σ:St}{e:Ev}(n:Nat)(caps:List Nat)(ok:v7 K H σ e):v7 K H (gf n caps σ) (cX n caps e):=by
 refine⟨by simp[gf,cX],fun i d h=>?_⟩
 unfold cX at h
 unfold gf
 rw[QR]at h ⊢
 rw[Qj]at h ⊢
 by_cases hi:i<n
 ·rw[if_pos hi]at h
  rw[PM]at h
  split at h<;>cases h
 ·rw[if_neg hi]at h ⊢
  rw[Py]at h ⊢
  cases hj:caps[i - n]? with
  | none=>rw[hj]at h;cases h
  | some j =>
   rw[hj]at h
   have h':(e[j]?).getD none=some d:=by simpa using h
   have he:e[j]? = some (some d):=by
    cases q:e[j]? with
    | none=>rw[q]at h';cases h'
    | some z=>rw[q]at h';rw[show z=some d by simpa using h']
   obtain⟨v,h1,h2⟩:=ok.has j d he
   exact⟨v,by simp[h1],h2⟩
theorem Lb{p:Str→Prop}{a:Str}(h:p a):∀ x∈[a],p x:=fun x hx=>by
 simp only[Pb,Pj,or_false]at hx
 subst hx;exact h
theorem La{p:Str→Prop}{a b:Str}(h:p a)(h2:p b):∀ x∈[a,b],p x:=fun x hx=>by
 simp only[Pb,Pj,or_false]at hx
 rcases hx with rfl|rfl
 ·exact h
 ·exact h2
noncomputable def sD(t T1 T2:String):Option Bool:=match oM t T1 with
 | some true=>some true
 | some false=>oM t T2
 | none=>none
theorem uz{K:OR}(hk:oq K){t T1 T2:String}{b:Bool}(h:sD t T1 T2=some b):PySem.W.kitAny K (.type t) [.type T1,.type T2]=some b:=by
 unfold sD at h
 unfold PySem.W.kitAny
 cases e:oM t T1 with
 | none=>rw[e]at h;cases h
 | some c =>
  rw[e]at h
  rw[hk t T1 c e]
  cases c with
  | true=>exact h
  | false =>
   dsimp only at h ⊢
   unfold PySem.W.kitAny
   rw[hk t T2 b h]
   cases b<;>rfl
section
variable {X:Cx}
def G8:DRC:=fun ds M R=>∃ d t T1 T2 b,ds=[d,.tup [.ty T1,.ty T2]]∧tyD M d=some t∧sD t T1 T2=some b∧R (.bl b) M
theorem Ii(hk:oq X.K):R9 X (.builtin "isinstance") G8:=by
 intro pins s σ H xs us Q I rv h
 obtain⟨ds,M,R,hl,am,⟨d,t,T1,T2,b,rfl,ht,hb,r⟩,f⟩:=h
 obtain⟨v,v',rfl,h1,h2⟩:=hl.two
 cases h2 with
 | tup sT lT =>
  obtain⟨u,w',rfl,r1,r2⟩:=mi rv
  cases(show w'=Value.ref _ from r2)
  obtain⟨a1,a2,rfl,q1,q2⟩:=lT.two
  cases q1;cases q2
  obtain⟨its,rT,⟨o,e1,e2,n,e3⟩,_⟩:=I.tuple sT
  obtain⟨t1,t2,rfl,w1,w2⟩:=mi rT
  cases(show t1=Value.type T1 from w1)
  cases(show t2=Value.type T2 from w2)
  obtain⟨cls,dd,data,sl⟩:=o
  simp only at e2 e3
  subst e2;subst e3
  have e:=uz hk hb
  have fin:∀ tk,EP X pins σ Q (.bool b) { s with toks:=tk }:=fun tk=>⟨.bl b,H,I.tok tk,rfl,f _ M r _ H (KT.refl H) am (.bl b)⟩
  cases h1 with
  | non=>cases ht;cases(show u=Value.none from r1);exact PySem.W.kia_tup PySem.W.kitx_none I.kIn trivial e1 e (fun z=>nomatch z) fin
  | bl q=>cases ht;cases(show u=Value.bool q from r1);exact PySem.W.kia_tup PySem.W.kitx_bool I.kIn trivial e1 e (fun z=>nomatch z) fin
  | int q=>cases ht;obtain⟨tk,rfl⟩:=r1;exact PySem.W.kia_tup PySem.W.kitx_int I.kIn trivial e1 e (fun z=>nomatch z) fin
  | str q=>cases ht;obtain⟨tk,rfl⟩:=r1;exact PySem.W.kia_tup PySem.W.kitx_str I.kIn trivial e1 e (fun z=>nomatch z) fin
  | ty q=>cases ht
  | ref p =>
   unfold tyD at ht
   cases q:M p with
   | none=>simp[q]at ht
   | some o =>
    cases o with
    | lst es =>
     simp only[q]at ht
     cases ht
     obtain⟨ys,hy,_⟩:=am.lst q
     cases(show u=Value.ref _ from r1)
     obtain⟨its2,_,⟨o2,n2,g1,g2,_⟩,_⟩:=I.list (SqL.of (K:=X.K) hy)
     exact PySem.W.kia_tup PySem.W.kitx_list I.kIn ⟨o2,g1,g2⟩ e1 e (fun z=>nomatch z) fin
    | ins C fs=>simp[q]at ht
  | tup s' l =>
   cases ht
   cases(show u=Value.ref _ from r1)
   obtain⟨its2,_,⟨o2,g1,g2,_⟩,_⟩:=I.tuple s'
   exact PySem.W.kia_tup PySem.W.kitx_tuple I.kIn ⟨o2,g1,g2⟩ e1 e (fun z=>nomatch z) fin
  | vl hq hl' =>
   cases ht
   cases(show u=Value.ref _ from r1)
   obtain⟨_,_,ea,sq,_⟩:=Has.il (.vl hq hl')
   cases ea
   obtain⟨its2,_,⟨o2,n2,g1,g2,_⟩,_⟩:=I.list sq
   exact PySem.W.kia_tup PySem.W.kitx_list I.kIn ⟨o2,g1,g2⟩ e1 e (fun z=>nomatch z) fin
  | dic hq =>
   cases ht
   cases(show u=Value.ref _ from r1)
   obtain⟨o2,g1,g2⟩:=hq
   exact PySem.W.kia_tup PySem.W.kitx_dict I.kIn ⟨o2,(I.hok _ _ g1).1,g2⟩ e1 e (fun z=>nomatch z) fin
  | exc hq=>cases ht
def LP(K:OR)(tl:TE):TI:=fun σ H R=>tl σ H fun x H1=>∃(a:Addr) (k:Bool),x = .ref a∧(∃ xs,SqK K k H1 a xs)∧R (if k=true then Itl K a else Itt K a) H1
theorem GJ{tg l:Expr}{tl:TE}(hl:PE X l tl):PI X tg l (LP X.K tl):=by
 intro pins s σ H R I h
 refine thn (hl pins s σ H _ I h) fun v s1 zz=>?_
 obtain⟨x,H1,I1,r1,q1⟩:=zz
 obtain⟨a,k,e,⟨xs,hq⟩,q⟩:=q1
 subst e
 cases r1
 obtain⟨its,rv,p⟩:=I1.sqk hq
 have nf:∀ b∈[s1.heap.objs.size],R5 X pins H1 b:=fun b hb=>by
  have e:b=s1.heap.objs.size:=by simpa using hb
  subst e
  exact I1.fpOk (Pe _) (I1.hok.fresh (Pe _))
 cases k with
 | true=>exact wpAny_pyIter_list p ⟨s1.heap.objs.size,[s1.heap.objs.size],_,_,H1,rfl,I1.kept (t':=s1.toks) fun b o e=>OT _ e,uv a _,⟨_,Pd _ rfl,rfl,rfl⟩,nf,q⟩
 | false=>exact wpAny_pyIter_tuple p ⟨s1.heap.objs.size,[s1.heap.objs.size],_,_,H1,rfl,I1.kept (t':=s1.toks) fun b o e=>OT _ e,oH a _,⟨_,Pd _ rfl,rfl,rfl⟩,nf,q⟩
def EW(ti:DTE):DTI:=fun e M R=>ti e M fun x M1=>∃ ds,A4 M1 x ds∧R ds (fun M'=>A4 M' x ds) M1
theorem w6{tg iter:Expr}{ti:DTE}(hi:JE X iter ti):JI X tg iter (EW ti):=⟨have hi:=hi.out;PI.imp (GJ hi) (by rintro σ H R ⟨e,M,R',ok,am,t,f⟩;exact⟨e,M,_,ok,am,t,fun x M1 ⟨ds,sq,r⟩ v H1 k1 a1 r1=>by
 have sq':=sq
 rcases sq with rfl|⟨p,rfl,hm⟩|rfl
 rotate_left 2
 ·obtain⟨a,xs,rfl,sq,l⟩:=r1.il
  have wk:ib X.K H1 (Itl X.K a) ds (fun M'=>A4 M' (.vl ds) ds):=⟨fun i H' M' hi k am _=>by
    obtain⟨a',ys,e,sq',l'⟩:=(r1.mono k).il
    cases e
    exact⟨ys,_,sq',PH (by rw[l'.length];exact hi)⟩,
   fun i H' M' x H'' hi k am _ zz=>by
    obtain⟨e,y⟩:=zz
    subst e
    obtain⟨a',ys,e,sq',l'⟩:=(r1.mono k).il
    cases e
    obtain⟨d,hd,r⟩:=l'.getV (y ys sq')
    exact⟨d,hd,KT.refl _,am,r⟩,
   fun i H' M' hi k am _=>by
    obtain⟨a',ys,e,sq',l'⟩:=(r1.mono k).il
    cases e
    exact⟨ys,sq',by rw[l'.length];exact hi⟩,fun _ _ _ st hq=>W7 st hq⟩
  exact⟨a,true,rfl,⟨xs,sq⟩,f ds _ M1 r H1 k1 a1 _ wk⟩
 ·cases r1 with
  | tup s l =>
   refine⟨_,false,rfl,⟨_,s⟩,f ds _ M1 r H1 k1 a1 _ ?_⟩
   have w:=wX (K:=X.K) s l
   exact⟨fun i H' M' a b c _=>w.go i H' M' a b c trivial,fun i H' M' y H2 a b c _ g=>w.yld i H' M' y H2 a b c trivial g,fun i H' M' a b c _=>w.stop i H' M' a b c trivial,fun _ _ _ st hq=>W7 st hq⟩
 ·cases r1
  obtain⟨xs,hx,l⟩:=a1.lst hm
  refine⟨p,true,rfl,⟨xs,SqL.of hx⟩,f ds _ M1 r H1 k1 a1 _ ?_⟩
  have w:=xg (K:=X.K) (H1:=H1) (p:=p) (ds:=ds)
  have cv:∀{M':Mem},A4 M' (.ref p) ds→M' p=some (.lst ds):=fun z=>by
   rcases z with z|⟨p',z,h⟩|z
   ·cases z
   ·cases z;exact h
   ·cases z
  exact⟨fun i H' M' a b c z=>w.go i H' M' a b c (cv z),fun i H' M' y H2 a b c z g=>w.yld i H' M' y H2 a b c (cv z) g,fun i H' M' a b c z=>w.stop i H' M' a b c (cv z),fun _ _ _ st hq=>W7 st hq⟩⟩)⟩
end
theorem yU{K:OR}{mg:Str→Option Value}{h:Heap}{x:Str}{a b c:Addr}{od od1 od2:Option Addr}{osl osl1 osl2:Array (Option Value)}{i j k l:Int}{t1 t2 t3 t4:Tok}{cap cap1 cap2:Nat}(X:K.In h)(G:h.Ns mainGlobals mg)
  (n:PySem.W.nsIn K mainGlobals x=some (some (.ref a))) (l0:K.lookup a=some ⟨.type "tuple",od,.seq #[.ref b,.ref c] cap,osl⟩)
  (l1:K.lookup b=some ⟨.type "tuple",od1,.seq #[.int i t1,.int j t2] cap1,osl1⟩) (l2:K.lookup c=some ⟨.type "tuple",od2,.seq #[.int k t3,.int l t4] cap2,osl2⟩):GlD K mg x (.tup [.tup [.int i,.int j],.tup [.int k,.int l]]):=by
 have two:(2:Nat)≤sizeLine:=by decide
 have p1:∀ H:Hp,Has K H (.ref b) (.tup [.int i,.int j]):=fun H=>.tup (xs:=[.int i,.int j]) (.inr ⟨_,_,_,l1,rfl,rfl,two,.cons (show o7 (.int i) (.int i t1)from⟨t1,rfl⟩) (.cons (show o7 (.int j) (.int j t2)from⟨t2,rfl⟩) .nil)⟩) (.cons (.int i) (.cons (.int j) .nil))
 have p2:∀ H:Hp,Has K H (.ref c) (.tup [.int k,.int l]):=fun H=>.tup (xs:=[.int k,.int l]) (.inr ⟨_,_,_,l2,rfl,rfl,two,.cons (show o7 (.int k) (.int k t3)from⟨t3,rfl⟩) (.cons (show o7 (.int l) (.int l t4)from⟨t4,rfl⟩) .nil)⟩) (.cons (.int k) (.cons (.int l) .nil))
 exact⟨.ref a,.ref a,PySem.W.mg_of X G n,rfl,fun H=>.tup (xs:=[.ref b,.ref c]) (.inr ⟨_,_,_,l0,rfl,rfl,two,.cons (show o7 (.ref b) (.ref b)from rfl) (.cons (show o7 (.ref c) (.ref c)from rfl) .nil)⟩) (.cons (p1 H) (.cons (p2 H) .nil))⟩
theorem yV{K:OR}{mg:Str→Option Value}{h:Heap}{x:Str}{i:Int}{t:Tok}(X:K.In h)(G:h.Ns mainGlobals mg)(n:PySem.W.nsIn K mainGlobals x=some (some (.int i t))):GlD K mg x (.int i) :=
 ⟨.int i,.int i t,PySem.W.mg_of X G n,⟨t,rfl⟩,fun _=>.int i⟩
theorem De{ds:List D}{r:Int}(h0:0≤r)(h1:r<ds.length):∃ d,atI ds r=some d∧d∈ds:=by
 unfold atI ixN
 rw[if_pos h0,if_pos h1]
 have hl:r.toNat<ds.length:=by omega
 exact⟨ds[r.toNat],by simp[hl],Sx hl⟩
section
variable {X:Cx}
end
section
variable {X:Cx}
def kN:DRM:=fun x xs M R=>∃ l ds v,x = .ref l∧xs=[v]∧M l=some (.lst ds)∧ds.length<sizeLine∧R .non (q9 M l (.lst (ds++[v])))
theorem O0:DMt X "list.append" kN:=MtR.imp (r:=sP) bY (by
 rintro x xs H Q ⟨dx,ds,M,R,hx,hl,am,⟨l,es,v,e1,e2,hM,hz,r⟩,f⟩
 subst e1;subst e2
 cases hx
 obtain⟨w,rfl,hw⟩:=hl.one
 obtain⟨ys,hy,ly⟩:=am.lst hM
 exact⟨l,ys,w,rfl,rfl,hy,by rw[ly.length];exact hz,f _ _ r _ _ (KT.write hy) (am.write hy (ly.append (.cons hw .nil))) .non⟩)
end
section
variable {X:Cx}
end
noncomputable abbrev DTO:=Ev→Mem→(Option Int→Mem→Prop)→Prop
def upO(K:OR)(t:DTO):TO:=fun σ H Q=>∃ e M R,v7 K H σ e∧m7 K H M∧t e M R∧∀ o M',R o M'→∀ H',KT H H'→m7 K H' M'→Q o H'
def DPO(X:Cx)(e:Option Expr)(t:DTO):Prop:=PO X e (upO X.K t)
structure JO(X:Cx)(e:Option Expr)(t:DTO):Prop where
 out:DPO X e t
def uf:DTO:=fun _ M R=>R none M
def Fi(t:DTE):DTO:=fun e M R=>t e M fun x M1=>∃ i,x = .int i∧R (some i) M1
theorem PO.imp{X:Cx}{e:Option Expr}{t t':TO}(h:PO X e t)(i:∀ σ H Q,t' σ H Q→t σ H Q):PO X e t':=fun pins s σ H Q I q=>h pins s σ H Q I (i σ H Q q)
section
variable {X:Cx} {e:Expr} {te:DTE} {lo hi:Option Expr} {tl th:DTO} {pos p2:Pos}
theorem D5:JO X none uf:=⟨PO.imp BQ (by rintro σ H Q ⟨e,M,R,ok,am,t,f⟩;exact f none M t H (KT.refl H) am)⟩
theorem D4(h:JE X e te):JO X (some e) (Fi te):=⟨have h:=h.out;PO.imp (BP h) (by rintro σ H Q ⟨e,M,R,ok,am,t,f⟩;exact⟨e,M,_,ok,am,t,fun x M1 ⟨i,z,r⟩ v H1 k1 a1 r1=>by
 subst z;cases r1
 exact⟨i,rfl,f (some i) M1 r H1 k1 a1⟩⟩)⟩
noncomputable def aq(ds:List D)(lo hi:Option Int):List D:=(ds.drop (HT.sIx ds.length 0 lo)).take (HT.sIx ds.length ds.length hi - HT.sIx ds.length 0 lo)
theorem HasL.cut{K:OR}{H:Hp}{xs:List V}{ds:List D}(h:HasL K H xs ds)(lo hi:Option Int):HasL K H (nS xs lo hi) (aq ds lo hi):=by
 unfold nS aq
 rw[h.length]
 exact(h.drop _).take _
end
noncomputable def V4(ds:List D):List D:=ds.mapIdx fun i d=>.tup [.int i,d]
theorem J3(ds:List D):(V4 ds).length=ds.length:=by simp[V4]
theorem uY{ds:List D}{i:Nat}{d:D}(h:ds[i]? = some d):(V4 ds)[i]? = some (.tup [.int i,d]):=by
 unfold V4
 rw[RV,h];rfl
theorem nM{ds:List D}{i:Nat}{x:D}(h:(V4 ds)[i]? = some x):∃ d,ds[i]? = some d∧x = .tup [.int i,d]:=by
 unfold V4 at h
 rw[RV]at h
 cases e:ds[i]? with
 | none=>rw[e]at h;cases h
 | some d=>rw[e]at h;exact⟨d,rfl,(Option.some.inj h).symm⟩
theorem uu{K:OR}{H1:Hp}{x:D}{l:Addr}{ds:List D}(h1:Has K H1 (.ref l) x):ib K H1 (Ite K (jf x) l) (V4 ds) (fun M'=>A4 M' x ds) where
 go:=fun i H' M' hi k am s1=>by
  rw[J3]at hi
  obtain⟨a,xs,e1,q1,m1⟩:=y7 s1 am (h1.mono k)
  cases e1
  exact⟨xs,_,q1,PH (by rw[m1.length];omega)⟩
 yld:=fun i H' M' v H'' hi k am s1 zz=>by
  obtain⟨T,a,hT,ev,eH,u1⟩:=zz
  subst ev;subst eH
  obtain⟨a',xs,e1,q1,m1⟩:=y7 s1 am (h1.mono k)
  cases e1
  obtain⟨d1,g1,r1⟩:=m1.getV (u1 xs q1)
  have kt:KT H' (upd H' T (.tup [.int i,a])):=KT.alloc hT
  exact⟨_,uY g1,kt,am.alloc hT,.tup (SqT.of i6) (.cons (.int _) (.cons (r1.mono kt) .nil))⟩
 stop:=fun i H' M' hi k am s1=>by
  rw[J3]at hi
  obtain⟨a,xs,e1,q1,m1⟩:=y7 s1 am (h1.mono k)
  cases e1
  exact⟨xs,q1,by rw[m1.length];exact hi⟩
 up:=fun _ _ _ st hq=>W7 st hq
section
variable {X:Cx} {ta:DTA}
def zv(ta:DTA):DTI:=fun e M R=>ta e M fun xs M1=>∃ x ds,xs=[x]∧A4 M1 x ds∧R (V4 ds) (fun M'=>A4 M' x ds) M1
theorem nE{elts:List Expr}{kx:Nat}{tp:Pos}{a:Expr}{p pos:Pos}(hg:Gl X "enumerate")(hm:X.mg "enumerate" = none)(ha:JA X [a] ta)(hs:starEach [a] X.env=[(false,eval a X.env)]:=by rfl):JI X (.Tuple elts kx tp) (.Call (.Name "enumerate" p) [a] [] pos) (zv ta):=⟨have ha:=ha.out;PI.imp (BR hg hm ha hs) (by rintro σ H R ⟨e,M,R',ok,am,t,f⟩;exact⟨e,M,_,ok,am,t,fun xs M1 ⟨x,ds,z,s1,r⟩ vs H1 k1 a1 r1=>by
  subst z
  obtain⟨v,rfl,hv⟩:=r1.one
  obtain⟨a,zs,rfl,q1,m1⟩:=y7 s1 a1 hv
  exact⟨_,a,rfl,⟨zs,q1⟩,f _ _ M1 r H1 k1 a1 _ (uu hv)⟩⟩)⟩
end
noncomputable def fZ(M:Mem)(a:Addr):Mem:=fun b=>if b=a then none else M b
theorem kR{M:Mem}{a b:Addr}(h:b≠a):fZ M a b=M b:=by unfold fZ;rw[if_neg h]
theorem nP{M:Mem}{a:Addr}{o:MO}(h:M a=none):fZ (q9 M a o) a=M:=by
 funext b;unfold fZ q9;by_cases e:b=a
 ·rw[if_pos e,e,h]
 ·rw[if_neg e,if_neg e]
section
variable {K:OR} {H:Hp} {M:Mem} {p:Addr}
theorem m7.at{o:HO}(h:m7 K H M)(k:KT0 H (upd H p o))(hp:M p=none):m7 K (upd H p o) M:=fun a u m=>by
 cases u with
 | lst ds =>
  obtain⟨xs,z,l⟩:=h a _ m
  have hn:a≠p:=by intro e;subst e;rw[hp]at m;cases m
  exact⟨xs,by rw[i8 hn];exact z,l.mono0 k⟩
 | ins C fs =>
  obtain⟨C0,dx,ys,z,l,hc⟩:=h a _ m
  have hn:a≠p:=by intro e;subst e;rw[hp]at m;cases m
  exact⟨C0,dx,ys,by rw[i8 hn];exact z,l.mono0 k,hc⟩
theorem m7.del(h:m7 K H M):m7 K H (fZ M p):=fun a u m=>by
 by_cases e:a=p
 ·subst e;unfold fZ at m;rw[if_pos rfl]at m;cases m
 ·rw[kR e]at m;exact h a u m
theorem vb:fZ M p p=none:=by unfold fZ;rw[if_pos rfl]
theorem m7.none_ext{φ:Heap→Prop}(h:m7 K H M)(e:H p=some (.ext φ)):M p=none:=by
 cases q:M p with
 | none=>rfl
 | some o =>
  cases o with
  | lst ds=>obtain⟨xs,z,_⟩:=h p _ q;rw[e]at z;cases z
  | ins C fs=>obtain⟨_,dx,ys,z,_⟩:=h p _ q;rw[e]at z;cases z
end
section
variable {X:Cx} {x:Expr} {t:DTE} {es:List Expr} {tr:DTA} {pos:Pos}
def KJ(t:DTE):DTE:=fun e M R=>t e M fun x M1=>∃ p ds,x = .ref p∧M1 p=some (.lst ds)∧R (.vl ds) (fZ M1 p)
theorem V2(h:JE X x t):JE X x (KJ t):=⟨have h:=h.out;(bT h).imp (by rintro σ H Q ⟨e,M,R,ok,am,t,f⟩;exact⟨e,M,_,ok,am,t,fun d M1 ⟨p,ds,z,hm,r⟩ v H1 k1 a1 r1=>by
 subst z
 cases r1
 obtain⟨xs,hx,lx⟩:=a1.lst hm
 exact⟨p,xs,rfl,hx,fun o=>f _ _ r _ _ (k1.trans (KT.any hx)) (a1.del.at (KT.any hx).toKT0 vb) (.vl (.inl ⟨o,i6⟩) (lx.mono (KT.any hx)))⟩⟩)⟩
def KP(t:DTE):DTE:=fun e M R=>t e M fun x M1=>∃ M2:Mem,(∀ b o,M2 b=some o→M1 b=some o)∧R x M2
theorem yK(h:JE X x t):JE X x (KP t):=⟨have h:=h.out;PE.imp h (by rintro σ H Q ⟨e,M,R,ok,am,t,f⟩;exact⟨e,M,_,ok,am,t,fun d M1 ⟨M2,hs,r⟩ v H1 k1 a1 r1=>f d M2 r v H1 k1 (fun a o q=>a1 a o (hs a o q)) r1⟩)⟩
def zK(t:DTA):DTE:=fun e M R=>t e M fun ds M1=>ds.length≤sizeLine∧R (.vl ds) M1
theorem bj{K:OR}{H0 H:Hp}{M:Mem}{R:DK}{Q:VK}{vs:List V}{ds:List D}(f:cu K H0 R Q)(k:KT H0 H)(am:m7 K H M)(l:HasL K H vs ds)(r:R (.vl ds) M)(p:Addr)(hp:H p=none) :
  ∃ q xs,V.ref p = .ref q∧upd H p (.lst vs) q=some (.lst xs)∧∀ o,Q (.ref p) (upd (upd H p (.lst vs)) q (.frz o (.lst xs))) :=
 ⟨p,vs,rfl,i6,fun o=>by
  rw[G9]
  exact f _ M r _ _ (k.trans (KT.alloc hp)) (am.alloc hp) (.vl (.inl ⟨o,i6⟩) (l.mono (KT.alloc hp)))⟩
theorem A6(h:JA X es tr):JE X (.List es pos) (zK tr):=⟨have h:=h.out;(bT (pK h)).imp (by rintro σ H Q ⟨e,M,R,ok,am,t,f⟩;exact⟨e,M,_,ok,am,t,fun ds M1 ⟨hz,h1⟩ vs H1 k1 a1 r1=>⟨by rw[r1.length];exact hz,fun p hp=>bj f k1 a1 r1 h1 p hp⟩⟩)⟩
def zh(x y:D)(M:Mem)(R:DK):Prop:=∃ xs ys,F3 M x=some xs∧F3 M y=some ys∧xs.length+ys.length≤sizeLine∧R (.vl (xs++ys)) M
def Fo(ta tb:DTE):DTE:=fun e M R=>ta e M fun x M1=>tb e M1 fun y M2=>zh x y M2 R
theorem L0{a b:Expr}{ta tb:DTE}(ha:JE X a ta)(hb:JE X b tb):JE X (.BinOp a .Add b pos) (Fo ta tb):=⟨have ha:=ha.out;have hb:=hb.out;(bT (EC sX ha hb)).imp (by rintro σ H Q ⟨e,M,R,ok,am,t,f⟩;exact⟨e,M,_,ok,am,t,fun x M1 h1 v H1 k1 a1 r1=>⟨e,M1,_,ok.mono k1,a1,h1,fun y M2 ⟨xs,ys,e1,e2,hz,r⟩ u H2 k2 a2 r2=>by
  obtain⟨a,vs,rfl,s1,l1⟩:=C4 a2 (r1.mono k2) e1
  obtain⟨b,ws,rfl,s2,l2⟩:=C4 a2 r2 e2
  exact⟨a,b,vs,ws,rfl,rfl,s1,s2,by rw[l1.length,l2.length];exact hz,fun p hp=>bj f (k1.trans k2) a2 (l1.append l2) r p hp⟩⟩⟩)⟩
def CF(x:D)(lo hi:Option Int)(M:Mem)(R:DK):Prop:=(∃ ds,F3 M x=some ds∧R (.vl (aq ds lo hi)) M) ∨ ∃ ds,x = .tup ds∧¬ (HT.sIx ds.length 0 lo=0∧HT.sIx ds.length ds.length hi=ds.length)∧R (.tup (aq ds lo hi)) M
def Kz(te:DTE)(tl th:DTO):DTE:=fun e M R=>te e M fun x M1=>tl e M1 fun l M2=>th e M2 fun u M3=>CF x l u M3 R
theorem N7{e:Expr}{te:DTE}{lo hi:Option Expr}{tl th:DTO}{p2:Pos}(he:JE X e te)(hl:JO X lo tl)(hu:JO X hi th):JE X (.Subscript e (.Slice lo hi none p2) pos) (Kz te tl th):=⟨have he:=he.out;have hl:=hl.out;have hu:=hu.out;(BW (mR (SlR.or Bs FY) he hl hu)).imp (by rintro σ H Q ⟨e,M,R,ok,am,t,f⟩;exact⟨e,M,_,ok,am,t,fun x M1 h1 v H1 k1 a1 r1=>⟨e,M1,_,ok.mono k1,a1,h1,fun l M2 h2 H2 k2 a2=>⟨e,M2,_,(ok.mono k1).mono k2,a2,h2,fun u M3 h3 H3 k3 a3=>by
  rcases h3 with⟨ds,hi,r⟩|⟨ds,rfl,hw,r⟩
  ·obtain⟨a,xs,rfl,sq,lx⟩:=C4 a3 ((r1.mono k2).mono k3) hi
   exact .inl ⟨a,xs,rfl,sq,fun p hp=>.inl (bj f (k1.trans (k2.trans k3)) a3 (lx.cut l u) r p hp)⟩
  ·cases(r1.mono k2).mono k3 with
   | tup sq lx =>
    exact .inr ⟨_,_,rfl,sq,by rw[lx.length];exact hw,fun p hp=>.inr (f _ M3 r _ _ ((k1.trans (k2.trans k3)).trans (KT.alloc hp)) (a3.alloc hp) (.tup (SqT.of i6) ((lx.cut l u).mono (KT.alloc hp))))⟩⟩⟩⟩)⟩
end
section
variable {X:Cx} {e:Expr} {es:List Expr} {t:DTA} {x:Str} {p pos:Pos}
variable {te:DTE} {pos':Pos}
end
section
variable {X:Cx}
noncomputable def tS:D→Option V
 | .non=>some .non
 | .bl b=>some (.bl b)
 | .int i=>some (.int i)
 | .str x=>some (.str x)
 | _=>none
theorem cj{K:OR}{H:Hp}{v w:V}{d:D}(h:Has K H v d)(e:tS d=some w):v=w∧Y8 w=true:=by
 cases h with
 | non=>cases e;exact⟨rfl,rfl⟩
 | bl b=>cases e;exact⟨rfl,rfl⟩
 | int i=>cases e;exact⟨rfl,rfl⟩
 | str x=>cases e;exact⟨rfl,rfl⟩
 | _=>cases e
theorem ck{K:OR}{H:Hp}:∀{vs ws:List V} {ds:List D},HasL K H vs ds→ds.map tS=ws.map some→vs=ws∧ws.all Y8=true
 | _,[],_,.nil,_=>⟨rfl,rfl⟩
 | _,_ :: _,_,.nil,e=>by cases e
 | _,[],_,.cons _ _,e=>by cases e
 | _,w :: ws,_,.cons h t,e=>by
  rw[Po,Po]at e
  injection e with e1 e2
  obtain⟨rfl,f⟩:=cj h e1
  obtain⟨rfl,f2⟩:=ck t e2
  exact⟨rfl,by rw[Ru,f,f2];rfl⟩
def gIn(neg:Bool):DR2:=fun x y M R=>∃(v:V) (ds:List D) (ws:List V),tS x=some v∧A4 M y ds∧ds.map tS=ws.map some∧R (.bl (if neg then !inV v ws else inV v ws)) M
theorem Kd:DOp X (compareOp .In) (gIn false):=OpR.imp uL (by
 rintro x y H Q ⟨dx,dy,M,R,hx,hy,am,⟨v,ds,ws,e1,sq,e2,r⟩,f⟩
 obtain⟨rfl,fv⟩:=cj hx e1
 obtain⟨a,xs,rfl,q1,m1⟩:=y7 sq am hy
 obtain⟨rfl,fs⟩:=ck m1 e2
 refine⟨a,xs,rfl,?_,fv,fs,f _ M r _ H (KT.refl H) am (.bl _)⟩
 cases hk:jf dy with
 | true=>rw[hk]at q1;exact .inl q1
 | false=>rw[hk]at q1;exact .inr q1)
theorem Cm:DOp X (compareOp .NotIn) (gIn true):=OpR.imp ku (by
 rintro x y H Q ⟨dx,dy,M,R,hx,hy,am,⟨v,ds,ws,e1,sq,e2,r⟩,f⟩
 obtain⟨rfl,fv⟩:=cj hx e1
 obtain⟨a,xs,rfl,q1,m1⟩:=y7 sq am hy
 obtain⟨rfl,fs⟩:=ck m1 e2
 refine⟨a,xs,rfl,?_,fv,fs,f _ M r _ H (KT.refl H) am (.bl _)⟩
 cases hk:jf dy with
 | true=>rw[hk]at q1;exact .inl q1
 | false=>rw[hk]at q1;exact .inr q1)
end
noncomputable abbrev L1:=Ev→Mem→(Bool→Mem→Prop)→Prop
abbrev Lj(X:Cx)(ifs:List Expr)(t:L1):Prop:=Y6 X ifs (upT X.K t)
structure vq(X:Cx)(ifs:List Expr)(t:L1):Prop where
 out:Lj X ifs t
def CM:L1:=fun _ M R=>R true M
theorem Y6.imp{X:Cx}{ifs:List Expr}{t t':TT}(h:Y6 X ifs t)(i:∀ σ H Q,t' σ H Q→t σ H Q):Y6 X ifs t':=fun pins s σ H Q I q=>h pins s σ H Q I (i σ H Q q)
theorem v6{X:Cx}:vq X [] CM:=⟨Y6.imp yf (by rintro σ H Q ⟨e,M,R,ok,am,t,f⟩;exact f true M t H (KT.refl H) am)⟩
theorem uS{X:Cx}{c:Expr}{t:DTT}(h:JT X c t):vq X [c] t:=⟨have h:=h.out;ye h⟩
structure gi(e0:Ev)(g:DTG)(tc:L1)(te:DTE)(ds:List D)(stay:Mem→Prop)(M1:Mem)(E:List D→Mem→Prop)(W:Nat→List D→Mem→Prop):Prop where
 start:W 0 [] M1
 stays:∀ i ys M,i≤ds.length→W i ys M→stay M
 turn:∀(i:Nat) (d:D) ys M,ds[i]? = some d→W i ys M→g d e0 M fun e2 M2=>tc e2 M2 fun b M3=>if b=true then te e2 M3 fun v M4=>ys.length<sizeLine∧W (i+1) (ys++[v]) M4 else W (i+1) ys M3
 done:∀ ys M,W ds.length ys M→E ys M
def Fx(e0:Ev)(g:DTG)(tc:L1)(te:DTE)(ds:List D)(stay:Mem→Prop)(M1:Mem)(R:DK):Prop:=∃ W,gi e0 g tc te ds stay M1 (fun ys M=>R (.vl ys) M) W
def Fy(e0:Ev)(g:DTG)(tc:L1)(te:DTE)(ds:List D)(stay:Mem→Prop)(M1:Mem)(R:DK):Prop:=∃ W,gi e0 g tc te ds stay M1 (fun ys M=>∀ p,M p=none→R (.ref p) (q9 M p (.lst ys))) W
def qj(n:Nat)(caps:List Nat)(ti:DTI)(g:DTG)(tc:L1)(te:DTE):DTE:=fun e M R=>ti e M fun ds stay M1=>Fx (cX n caps e) g tc te ds stay M1 R
def qk(n:Nat)(caps:List Nat)(ti:DTI)(g:DTG)(tc:L1)(te:DTE):DTE:=fun e M R=>ti e M fun ds stay M1=>Fy (cX n caps e) g tc te ds stay M1 R
section
variable {X:Cx} {elt tg iter:Expr} {scope:Scope} {tgs cps:List Str} {caps:List Nat} {ti:DTI} {g:DTG} {tc:L1} {te:DTE} {pos:Pos} {ifs:List Expr}
def CWH(K:OR)(H1:Hp)(D0:Addr)(len:Nat)(W:Nat→List D→Mem→Prop)(i m:Nat)(H':Hp):Prop:=m=len - i∧i≤len∧∃ M' ys xs,KT H1 H'∧m7 K H' M'∧H' D0=some (.lst xs)∧M' D0=none∧HasL K H' xs ys∧W i ys M'
theorem cm{K:OR}{H1:Hp}{J:It}{ds:List D}{stay:Mem→Prop}{M1:Mem}{n:Nat}{caps:List Nat}{σ:St}{e:Ev}{E:List D→Mem→Prop}{W:Nat→List D→Mem→Prop}{D0:Addr}{Qd:Hp→Prop}(ok:v7 K H1 σ e)(a1:m7 K H1 M1)(wk:ib K H1 J ds stay)(hD:H1 D0=none)
  (C:gi (cX n caps e) g tc te ds stay M1 E W) (fin:∀ ys M xs H',KT H1 H'→m7 K H' M→H' D0=some (.lst xs)→M D0=none→HasL K H' xs ys→E ys M→Qd H') (i m:Nat) (H2:Hp) (w:CWH K H1 D0 ds.length W i m H2) :
  (J.stop i H2∧Qd H2)∨(J.go i H2∧∀ x H',J.yld i H2 x H'→(∃ p,oK p (upG K g) x (gf n caps σ) H' fun σ2 H3=>∃ p,oJ p (upT K tc) σ2 H3 fun b H3'=>if b=true then ∃ p,mn p (up K te) σ2 H3' fun v H4 =>
   ∃ ys,H4 D0=some (.lst ys)∧ys.length<sizeLine∧∃ m',m'<m∧CWH K H1 D0 ds.length W (i+1) m' (upd H4 D0 (.lst (ys++[v])))else ∃ m',m'<m∧CWH K H1 D0 ds.length W (i+1) m' H3')):=by
 obtain⟨rfl,hi,M2,ys,xs,k2,a2,hx,hM,lx,w2⟩:=w
 have a2':m7 K H2 (q9 M2 D0 (.lst ys)):=fun a o q=>by
  by_cases e:a=D0
  ·subst e;rw[h8]at q;cases q;exact⟨xs,hx,lx⟩
  ·rw[j5 e]at q;exact a2 a o q
 have st:=wk.up _ D0 (.lst ys) (C.stays i ys M2 hi w2) hM
 by_cases hlt:i<ds.length
 ·refine .inr ⟨wk.go i H2 _ hlt k2 a2' st,fun y H' yl=>?_⟩
  obtain⟨d,hd,k3,a3',r⟩:=wk.yld i H2 _ y H' hlt k2 a2' st yl
  obtain⟨xs',hx',lx'⟩:=a3'.lst h8
  have a3:m7 K H' M2:=fun a o q=>by
   have e:a≠D0:=by intro e;subst e;rw[hM]at q;cases q
   exact a3' a o (by rw[j5 e];exact q)
  have kh:KT H' (upd H' D0 (N9 D0 xs')):=KT.any hx'
  have k1h:=(k2.trans k3).trans kh
  have same:∀{H3:Hp},H3 D0=some (N9 D0 xs')→upd (upd H3 D0 (.lst xs')) D0 (N9 D0 xs')=H3:=fun{H3} q=>by
   rw[G9];funext b;by_cases e:b=D0
   ·subst e;rw[i6,q]
   ·rw[i8 e]
  refine⟨D0,xs',hx',d,cX n caps e,M2,_,r.mono kh,tY n caps (ok.mono k1h),a3.at kh.toKT0 hM,C.turn i d ys M2 hd w2,fun e3 M3 h3 σ3 H3 k4 a4 ok3=>?_⟩
  have q3:H3 D0=some (N9 D0 xs'):=k4.ex D0 _ i6
  refine⟨q3,D0,xs',i6,?_⟩
  rw[same q3]
  refine⟨e3,M3,_,ok3,a4,h3,fun b M4 h4 H4 k5 a5=>?_⟩
  have q4:H4 D0=some (N9 D0 xs'):=k5.ex D0 _ q3
  refine⟨q4,?_⟩
  have kk:=k1h.trans (k4.trans k5)
  cases b with
  | false =>
   have h4':W (i+1) ys M4:=h4
   show ∃ m',m'<ds.length - i∧CWH K H1 D0 ds.length W (i+1) m' (upd H4 D0 (.lst xs'))
   exact⟨ds.length - (i+1),by omega,rfl,hlt,M4,ys,xs',kk.new hD,a5.at (KT0.ext q4) (a5.none_ext q4),i6,a5.none_ext q4,(lx'.mono (kh.trans (k4.trans k5))).mono0 (KT0.ext q4),h4'⟩
  | true =>
   show ∃ p,mn p (up K te) σ3 (upd H4 D0 (.lst xs')) _
   refine⟨D0,xs',i6,?_⟩
   rw[same q4]
   refine⟨e3,M4,_,ok3.mono k5,a5,h4,fun dv M5 ⟨hz,w5⟩ vv H5 k6 a6 r6=>?_⟩
   have q5:H5 D0=some (N9 D0 xs'):=k6.ex D0 _ q4
   refine⟨q5,xs',i6,by rw[lx'.length];exact hz,ds.length - (i+1),by omega,rfl,hlt,M5,ys++[dv],xs'++[vv],?_,?_,i6,a6.none_ext q5,?_,w5⟩
   ·rw[G9];exact(kk.trans k6).new hD
   ·rw[G9];exact a6.at (KT0.ext q5) (a6.none_ext q5)
   ·rw[G9];exact((lx'.mono (kh.trans (k4.trans (k5.trans k6)))).mono0 (KT0.ext q5)).append (.cons (r6.mono0 (KT0.ext q5)) .nil)
 ·have e':i=ds.length:=by omega
  subst e'
  exact .inl ⟨wk.stop _ H2 _ (Pe _) k2 a2' st,fin ys M2 xs H2 k2 a2 hx hM lx (C.done ys M2 w2)⟩
theorem K4(caps:List Nat)(tgs cps:List Str)(hc:X.calm=true)(hcell:∀ x∈scope.names,x.2 ≠ .cell)(hkind:scope.kind = .function)(hnames:∀ x∈scope.names,x.2 = .local→scope.names.lookup x.1=some .local)
  (hfr:∀ x∈scope.names,x.2 = .free→x.1∈cps) (hN:caps.map (fun i=>X.N[i]?)=cps.map some) (hX:∀ x∈cps,X.env.scope.names.lookup x=some .cell∧scope.names.lookup x=some .free)
  (hsc:∀ x∈cps,(relabel scope X.env).names.lookup x=some .cell∨(relabel scope X.env).names.lookup x=some .free)
  (hi:JI X tg iter ti) (hg:∀ cl s3 H3 C fp pins,JG (cxF X scope cl (tgs++cps) s3 H3 C fp pins) tg g) (hq:∀ cl s3 H3 C fp pins,vq (cxF X scope cl (tgs++cps) s3 H3 C fp pins) ifs tc) (he:∀ cl s3 H3 C fp pins,JE (cxF X scope cl (tgs++cps) s3 H3 C fp pins) elt te)
  (hs:∀ x,foldedSetIterable iter X.env x=pure x:=by intro _;rfl):JE X (.ListComp elt [⟨tg,iter,ifs,0⟩] scope pos) (qj tgs.length caps ti g tc te):=⟨have hi:=hi.out;have hg:=fun v0 v1 v2 v3 v4 v5=>(hg v0 v1 v2 v3 v4 v5).out;have hq:=fun v0 v1 v2 v3 v4 v5=>(hq v0 v1 v2 v3 v4 v5).out;have he:=fun v0 v1 v2 v3 v4 v5=>(he v0 v1 v2 v3 v4 v5).out;(bT (mU (tgs:=tgs) (cps:=cps) (caps:=caps) hc hcell hkind hnames hfr hN hX hsc hi (fun cl s3 H3 C fp pins=>dM (hg cl s3 H3 C fp pins)) (fun cl s3 H3 C fp pins=>X7 (hq cl s3 H3 C fp pins)) (fun cl s3 H3 C fp pins=>dN (he cl s3 H3 C fp pins)) hs)).imp (by rintro σ H Q ⟨e,M,R,ok,am,t,f⟩;exact⟨e,M,_,ok,am,t,fun ds stay M1 hW H1 k1 a1 J wk=>by
  intro D0 hD
  obtain⟨W,C⟩:=hW
  refine⟨fun i m H'=>CWH X.K H1 D0 ds.length W i m H',⟨ds.length,by simp,PD _,M1,[],[],KT.alloc hD,a1.alloc hD,i6,a1.fresh hD,.nil,C.start⟩,fun i m H2 w=>cm (Qd:=fun H'=>∃ p xs,V.ref D0 = .ref p∧H' p=some (.lst xs)∧∀ o,Q (.ref D0) (upd H' p (.frz o (.lst xs)))) (ok.mono k1) a1 wk hD C (fun ys M2 xs H' k2 a2 hx hM lx r=>?_) i m H2 w⟩
  exact⟨D0,xs,rfl,hx,fun o=>f _ M2 r _ _ (k1.trans (k2.trans (KT.any hx))) (a2.at (KT.any hx).toKT0 hM) (.vl (.inl ⟨o,i6⟩) (lx.mono (KT.any hx)))⟩⟩)⟩
theorem yL(caps:List Nat)(tgs cps:List Str)(hc:X.calm=true)(hcell:∀ x∈scope.names,x.2 ≠ .cell)(hkind:scope.kind = .function)(hnames:∀ x∈scope.names,x.2 = .local→scope.names.lookup x.1=some .local)
  (hfr:∀ x∈scope.names,x.2 = .free→x.1∈cps) (hN:caps.map (fun i=>X.N[i]?)=cps.map some) (hX:∀ x∈cps,X.env.scope.names.lookup x=some .cell∧scope.names.lookup x=some .free)
  (hsc:∀ x∈cps,(relabel scope X.env).names.lookup x=some .cell∨(relabel scope X.env).names.lookup x=some .free)
  (hi:JI X tg iter ti) (hg:∀ cl s3 H3 C fp pins,JG (cxF X scope cl (tgs++cps) s3 H3 C fp pins) tg g) (hq:∀ cl s3 H3 C fp pins,vq (cxF X scope cl (tgs++cps) s3 H3 C fp pins) ifs tc) (he:∀ cl s3 H3 C fp pins,JE (cxF X scope cl (tgs++cps) s3 H3 C fp pins) elt te)
  (hs:∀ x,foldedSetIterable iter X.env x=pure x:=by intro _;rfl):JE X (.ListComp elt [⟨tg,iter,ifs,0⟩] scope pos) (qk tgs.length caps ti g tc te):=⟨have hi:=hi.out;have hg:=fun v0 v1 v2 v3 v4 v5=>(hg v0 v1 v2 v3 v4 v5).out;have hq:=fun v0 v1 v2 v3 v4 v5=>(hq v0 v1 v2 v3 v4 v5).out;have he:=fun v0 v1 v2 v3 v4 v5=>(he v0 v1 v2 v3 v4 v5).out;(mU (tgs:=tgs) (cps:=cps) (caps:=caps) hc hcell hkind hnames hfr hN hX hsc hi (fun cl s3 H3 C fp pins=>dM (hg cl s3 H3 C fp pins)) (fun cl s3 H3 C fp pins=>X7 (hq cl s3 H3 C fp pins)) (fun cl s3 H3 C fp pins=>dN (he cl s3 H3 C fp pins)) hs).imp (by rintro σ H Q ⟨e,M,R,ok,am,t,f⟩;exact⟨e,M,_,ok,am,t,fun ds stay M1 hW H1 k1 a1 J wk=>by
  intro D0 hD
  obtain⟨W,C⟩:=hW
  refine⟨fun i m H'=>CWH X.K H1 D0 ds.length W i m H',⟨ds.length,by simp,PD _,M1,[],[],KT.alloc hD,a1.alloc hD,i6,a1.fresh hD,.nil,C.start⟩,fun i m H2 w=>cm (ok.mono k1) a1 wk hD C (fun ys M2 xs H' k2 a2 hx hM lx r=>?_) i m H2 w⟩
  refine f _ _ (r D0 hM) _ _ (k1.trans k2) (fun a o q=>?_) (.ref D0)
  by_cases e:a=D0
  ·subst e;rw[h8]at q;cases q;exact⟨xs,hx,lx⟩
  ·rw[j5 e]at q;exact a2 a o q⟩)⟩
theorem kJ{i:Nat}{x:Str}{pos' pos2:Pos}(caps:List Nat)(tgs cps:List Str)(hNd:X.N.Nodup)(hxi:X.N[i]? = some x)(hx:Loc X.env.scope x)(hc:X.calm=true)(hcell:∀ x∈scope.names,x.2 ≠ .cell)(hkind:scope.kind = .function)(hnames:∀ x∈scope.names,x.2 = .local→scope.names.lookup x.1=some .local)
  (hfr:∀ x∈scope.names,x.2 = .free→x.1∈cps) (hN:caps.map (fun i=>X.N[i]?)=cps.map some) (hX:∀ x∈cps,X.env.scope.names.lookup x=some .cell∧scope.names.lookup x=some .free)
  (hsc:∀ x∈cps,(relabel scope X.env).names.lookup x=some .cell∨(relabel scope X.env).names.lookup x=some .free)
  (hi:JI X tg iter ti) (hg:∀ cl s3 H3 C fp pins,JG (cxF X scope cl (tgs++cps) s3 H3 C fp pins) tg g) (hq:∀ cl s3 H3 C fp pins,vq (cxF X scope cl (tgs++cps) s3 H3 C fp pins) ifs tc) (he:∀ cl s3 H3 C fp pins,JE (cxF X scope cl (tgs++cps) s3 H3 C fp pins) elt te)
  (hsw:swapsWith (.ListComp elt [⟨tg,iter,ifs,0⟩] scope pos) (some (.Name x pos')) pos2.line X.env=pure true:=by rfl) (hs:∀ x,foldedSetIterable iter X.env x=pure x:=by intro _;rfl) (hf:X.fn x=true∨X.env.scope.names.lookup x=some .local:=by first|exact .inl rfl|exact .inr rfl|assumption):JS X (.Assign [.Name x pos'] (.ListComp elt [⟨tg,iter,ifs,0⟩] scope pos) pos2) (vc (qj tgs.length caps ti g tc te) (ao i)):=⟨have hi:=hi.out;have hg:=fun v0 v1 v2 v3 v4 v5=>(hg v0 v1 v2 v3 v4 v5).out;have hq:=fun v0 v1 v2 v3 v4 v5=>(hq v0 v1 v2 v3 v4 v5).out;have he:=fun v0 v1 v2 v3 v4 v5=>(he v0 v1 v2 v3 v4 v5).out;(BN (Gy (xZ (tgs:=tgs) (cps:=cps) (caps:=caps) hc hcell hkind hnames hfr hN hX hsc hi (fun cl s3 H3 C fp pins=>dM (hg cl s3 H3 C fp pins)) (fun cl s3 H3 C fp pins=>X7 (hq cl s3 H3 C fp pins)) (fun cl s3 H3 C fp pins=>dN (he cl s3 H3 C fp pins)) hNd hxi hx hf hs)) hsw).imp (by rintro E σ H ⟨e,M,F,ok,am,t,f⟩;exact⟨e,M,_,ok,am,t,fun ds stay M1 hW H1 k1 a1 J wk=>by
  intro D0 hD
  obtain⟨W,C⟩:=hW
  refine⟨fun i m H'=>CWH X.K H1 D0 ds.length W i m H',⟨ds.length,by simp,PD _,M1,[],[],KT.alloc hD,a1.alloc hD,i6,a1.fresh hD,.nil,C.start⟩,fun j m H2 w=>cm (Qd:=fun H'=>∃ p xs,V.ref D0 = .ref p∧H' p=some (.lst xs)∧∀ o,E.nx (σ.set i (some (.ref D0))) (upd H' p (.frz o (.lst xs)))) (ok.mono k1) a1 wk hD C (fun ys M2 xs H' k2 a2 hx hM lx r=>?_) j m H2 w⟩
  exact⟨D0,xs,rfl,hx,fun o=>f.nx _ M2 r _ _ (k1.trans (k2.trans (KT.any hx))) (a2.at (KT.any hx).toKT0 hM) ((ok.mono (k1.trans (k2.trans (KT.any hx)))).set (.vl (.inl ⟨o,i6⟩) (lx.mono (KT.any hx))) i)⟩⟩)⟩
end
section
variable {X:Cx} {e:Expr} {te:DTE} {p1 p2 pos pos2:Pos}
theorem SqL.upd{K:OR}{H:Hp}{a it:Addr}{xs:List V}{o:HO}(h:SqL K H a xs)(ne:a≠it):SqL K (upd H it o) a xs:=h.elim (fun z=>.inl (by unfold Rd at z ⊢;rw[i8 ne];exact z)) .inr
theorem SqK.upd{K:OR}{k:Bool}{H:Hp}{a it:Addr}{xs:List V}{o:HO}(h:SqK K k H a xs)(ne:a≠it):SqK K k (L2.upd H it o) a xs:=by
 cases k with
 | true=>exact SqL.upd (show SqL K H a xs from h) ne
 | false=>exact(show SqT K H a xs from h).elim (fun z=>.inl (by unfold Rd at z ⊢;rw[i8 ne];exact z)) .inr
end
end DL
namespace L2
open PySem PySem.Spec PyProof.Rows
section
variable {X:Cx} {pos:Pos}
end
end L2
namespace DL
open PySem PySem.Spec L2
open PyProof.Rows hiding St
section
variable {X:Cx}
end
section
variable {X:Cx}
end
section
variable {X:Cx} {a b c:Expr} {ta tb tc:DTE} {pos:Pos}
end
structure ow(K:OR)(u:Value)(d:D):Prop where
 ex:∃ v,o7 v u∧Iy K v d
inductive m8 (K:OR):List Value→List D→Prop
 | nil:m8 K [] []
 | cons {u:Value} {d:D} {us:List Value} {ds:List D}:ow K u d→m8 K us ds→m8 K (u :: us) (d :: ds)
section
variable {K:OR}
theorem u4{x:Str}{t:Tok}:ow K (.str x t) (.str x):=⟨.str x,⟨t,rfl⟩,fun _=>.str x⟩
theorem m8.out:∀{us:List Value} {ds:List D},m8 K us ds→∃ vs,j8 vs us∧∀ H,HasL K H vs ds
 | _,_,.nil=>⟨[],.nil,fun _=>.nil⟩
 | _,_,.cons h t=>by
  obtain⟨v,r,k⟩:=h.ex
  obtain⟨vs,rs,ks⟩:=m8.out t
  exact⟨v :: vs,.cons r rs,fun H=>.cons (k H) (ks H)⟩
theorem B4{a:Addr}{od:Option Addr}{osl:Array (Option Value)}{us:List Value}{ds:List D}{cap:Nat}(l:K.lookup a=some ⟨.type "tuple",od,.seq us.toArray cap,osl⟩)(n:decide (us.length≤1000)=true)(h:m8 K us ds):ow K (.ref a) (.tup ds):=by
 obtain⟨vs,r,k⟩:=h.out
 have hn:vs.length≤sizeLine:=Pa (by rw[r.length];exact of_decide_eq_true n) (show 1000≤sizeLine by decide)
 exact⟨.ref a,rfl,fun H=>.tup (xs:=vs) (.inr ⟨_,_,_,l,rfl,rfl,Pa (of_decide_eq_true n) (show 1000≤sizeLine by decide),r⟩) (k H)⟩
theorem cg{mg:Str→Option Value}{h:Heap}{x:Str}{u:Value}{d:D}(X:K.In h)(G:h.Ns mainGlobals mg)(n:PySem.W.nsIn K mainGlobals x=some (some u))(c:ow K u d):GlD K mg x d:=by
 obtain⟨v,r,k⟩:=c.ex
 exact⟨v,u,PySem.W.mg_of X G n,r,k⟩
end
section
variable {X:Cx} {x:Expr} {t:DTE}
end
theorem X8{P:Program}{w:World}{H:Hp}{h:Heap}{a:Addr}{o:HO}(x:C5 P w H h a o):∃ u,h.get? a=some u:=by
 cases o with
 | lst _=>obtain⟨_,_,_,_,e⟩:=x;exact⟨_,e⟩
 | tup _=>obtain⟨_,_,_,o,e,_⟩:=x;exact⟨_,e⟩
 | dK _=>obtain⟨_,_,_,_,o,_,_,e,_⟩:=x;exact⟨_,e⟩
 | dT _=>obtain⟨_,_,_,_,o,_,_,e,_⟩:=x;exact⟨_,e⟩
 | set _ _=>obtain⟨o,_,_,_,e,_⟩:=x;exact⟨_,e⟩
 | ins _ _ _=>obtain⟨_,_,_,e,_⟩:=x;exact⟨_,e⟩
 | own _=>exact x
 | xd _=>obtain⟨_,⟨_,_,_,e,_⟩,_⟩:=x;exact⟨_,e⟩
 | rng _ _=>obtain⟨_,_,_,e⟩:=x;exact⟨_,e⟩
 | frz _ _=>exact⟨_,x.1⟩
 | tbl _=>exact⟨_,show h.get? a=some _ from x⟩
 | met _ _=>exact⟨_,show h.get? a=some _ from x⟩
 | ext _=>exact x.2.1
noncomputable def sZ(X:Cx):St:=PK X.N.length none
theorem yP{X:Cx}{pins:List (Addr × Obj)}{σ:St}{H:Hp}{s:Shared}(I:Inv X pins σ H s):Inv X [] (sZ X) H s:=by
 refine(I.pins_of (pins':=[]) fun p hp=>by cases hp).weak (by rw[sZ,Qj];exact I.len.symm) fun i v h=>?_
 rw[sZ,PM]at h
 split at h
 ·exact absurd (Option.some.inj h) (by intro z;cases z)
 ·cases h
def Cov(B s0:Heap)(H':Hp)(fs:List Addr)(h:Heap):Prop:=∀ b o,h.get? b=some o→((∃ u,H' b=some u) ∨ ∃ o0,s0.get? b=some o0)→b∉fs→B.get? b=some o
def CXr(P:Program)(w:World)(base:Heap):CXT:=fun outer H s E e s'=>∃ a cls a0 H' B,e = .ref a∧s'.os=s.os∧AllBare s'.gens∧Un (frs outer) [] H H' s.heap s'.heap∧HOk P w H' s'.heap∧KT H H' ∧
 base.StaysIn B∧Cov B s.heap H' (frs outer) s'.heap∧Heap.FlyingW B outer a cls a0 s'.heap∧E cls none H'
def Air(B:Heap)(l:List Env)(a:Addr)(cls a0:Value)(h:Heap):Prop:=Heap.FlyingW B l a cls a0 h ∨ ∃ env l' L,l=env :: l'∧env.frame=some L∧Heap.HeldW B l a cls a0 L h
section
variable {M:Model} {A:Around} {E:Value→Shared→Prop} {s:Shared} {B:Heap} {l outer:List Env} {env:Env} {L a:Addr} {cls a0:Value} {Q:Unit→Shared→Prop}
theorem Air.frames{h:Heap}(x:Air B l a cls a0 h):h.FunFrames B l:=by
 rcases x with x|⟨_,_,_,_,_,x⟩
 ·exact x.2.2.1
 ·exact x.2.2.1
theorem Air.base{h:Heap}(x:Air B l a cls a0 h):B.StaysIn h∧B.get? a=none:=by
 rcases x with x|⟨_,_,_,_,_,x⟩
 ·exact⟨x.1,x.2.1⟩
 ·exact⟨x.1,x.2.1⟩
theorem Air.data{h:Heap}(x:Air B l a cls a0 h):∃ oe vs,h.get? a=some oe∧oe.data = .fields vs:=by
 rcases x with⟨_,_,_,oe,vs,_,_,_,h1,_,h2,_⟩|⟨_,_,_,_,_,_,_,_,oe,vs,_,_,_,h1,_,h2,_⟩<;>exact⟨oe,vs,h1,h2⟩
theorem Air.leaves(hfr:A.frames=some (env :: outer))(hf:env.frame=some L)(x:Air B (env :: outer) a cls a0 s.heap)
  (hQ:∀ h',Heap.FlyingW B outer a cls a0 h'→s.heap.UpToSlots h'→Q () { s with heap:=h' }):wpAny M A (leaving env (.ref a)) Q E s:=by
 rcases x with x|⟨_,_,_,e1,e2,x⟩
 ·exact wpAny_leaves_onW hfr hf x hQ
 ·injection e1 with e1 e3
  subst e1 e3
  obtain rfl:=Option.some.inj (hf.symm.trans e2)
  unfold leaving
  refine OS (wpAny_noteFrame_againW hf x.2.2.2 ?_)
  refine wpAny_landsW x fun h' hfl hu=>?_
  obtain⟨k1,k2,⟨_,_,k3⟩,k4⟩:=hfl
  exact hQ h' ⟨k1,k2,k3,k4⟩ hu
theorem jw(h:Heap):h.UpToSlots h:=fun b o hb _=>⟨o.slots,hb⟩
theorem Air.looks(hfr:A.frames=some (env :: outer))(hf:env.frame=some L)(x:Air B (env :: outer) a cls a0 s.heap)
  (hQ:∀ h',Heap.HeldW B (env :: outer) a cls a0 L h'→s.heap.UpToSlots h'→Q () { s with heap:=h' }):wpAny M A (noteFrame (.ref a) env) Q E s:=by
 rcases x with x|⟨_,_,_,e1,e2,x⟩
 ·exact wpAny_looks_onW hfr hf x hQ
 ·injection e1 with e1 e3
  subst e1 e3
  obtain rfl:=Option.some.inj (hf.symm.trans e2)
  exact wpAny_noteFrame_againW hf x.2.2.2 (hQ s.heap x (jw _))
end
theorem oo{P:Program}{w:World}{fs:List Addr}{Hc H':Hp}{h0 h1 h2 B:Heap}{l:List Env}{a:Addr}{cls a0:Value}(hfs:fs=frs l)(fre:∀ b∈fs,H' b=none)
  (un:Un fs [] Hc H' h0 h1) (hok:HOk P w H' h1) (cov:Cov B h0 H' fs h1) (x:Air B l a cls a0 h1) (st:B.StaysIn h2) (ups:h1.UpToSlots h2):Un fs [] Hc H' h0 h2∧HOk P w H' h2∧Cov B h0 H' fs h2:=by
 have trk:∀ b u,H' b=some u→b∉fs:=fun b u q hm=>by rw[fre b hm]at q;cases q
 have keepB:∀ b o,h1.get? b=some o→((∃ u,H' b=some u) ∨ ∃ o0,h0.get? b=some o0)→b∉fs→h2.get? b=some o:=fun b o q c nm=>st b o (cov b o q c nm)
 have slotB:∀ b o,h1.get? b=some o→b∈fs→∃ sl,h2.get? b=some { o with slots:=sl }:=fun b o q hm=>by
  subst hfs
  obtain⟨_,o',ho',hnf⟩:=x.frames.mem hm
  have e:o=o':=Option.some.inj (q.symm.trans ho')
  subst e
  exact ups b o q hnf
 refine⟨⟨fun b o q n hb hx=>keepB b o (un.keep b o q n hb hx) (.inr ⟨o,q⟩) hb,fun b o q n hb hx=>?_,un.free,fun b o q hx=>?_,un.tups,un.frzs,un.tbls⟩,fun b u q=>?_,fun b o q c nm=>?_⟩
 ·obtain⟨sl,z⟩:=un.slot b o q n hb hx
  obtain⟨sl2,z2⟩:=slotB b _ z hb
  exact⟨sl2,z2⟩
 ·obtain⟨o1,z⟩:=un.there b o q hx
  by_cases hm:b∈fs
  ·obtain⟨sl,z2⟩:=slotB b _ z hm;exact⟨_,z2⟩
  ·exact⟨_,keepB b _ z (.inr ⟨o,q⟩) hm⟩
 ·refine(hok b u q).stay (fun c v hc q2=>?_) (fun _ q=>q) fun _ _ q=>q
  rcases hc with rfl|hc
  ·exact keepB c v q2 (.inl ⟨u,q⟩) (trk c u q)
  ·exact keepB c v q2 (.inl ⟨_,hc⟩) (trk c _ hc)
 ·obtain⟨o1,z⟩:∃ o1,h1.get? b=some o1:=by
   rcases c with⟨u,c⟩|⟨o0,c⟩
   ·exact X8 (hok b u c)
   ·exact un.there b o0 c (by simp)
  have e3:=keepB b o1 z c nm
  rw[q]at e3
  cases e3
  exact cov b o z c nm
noncomputable def XP(X:Cx)(mk:Bool)(EX:Value→Hp→Prop):Value→Shared→Prop:=fun e s' =>
 (mk=true∧∃ a cls h vs H',e = .ref a∧EX cls H'∧Heap.MadeExcOf h s'.heap a cls vs∧Inv X [] (sZ X) H' { s' with heap:=h }) ∨
 (∃ pins σ Hc sc a cls a0 H' B,Inv X pins σ Hc sc∧e = .ref a∧s'.os=sc.os∧AllBare s'.gens∧Un (frs X.stack) [] Hc H' sc.heap s'.heap∧HOk X.prog X.w H' s'.heap ∧
  X.base.StaysIn B∧Cov B sc.heap H' (frs X.stack) s'.heap∧Air B X.stack a cls a0 s'.heap∧EX cls H')
theorem yn{X:Cx}{mk:Bool}{EX:Value→Hp→Prop}:V8 (CXr X.prog X.w X.base) (X.wish (XP X mk EX)) (fun cls _ H'=>EX cls H'):=fun pins σ H s e s' I h=>by
 obtain⟨a,cls,a0,H',B,rfl,ho,hg,un,hok,_,hB,cov,fl,hE⟩:=h
 exact .inr ⟨pins,σ,H,s,a,cls,a0,H',B,I.unwish,rfl,ho,hg,un,hok,hB,cov,.inl fl,hE⟩
section
variable {P:Program} {w:World} {K:OR} {mg:Str→Option Value} {base:Heap} {N:List Str} {qual:Str} {scope:Scope} {f:Addr} {cd:Value} {A:Around} {outer:List Env} {s:Shared} {H:Hp} {E:XK}
theorem nK{env:Env}{L:Addr}{outer:List Env}(hf:env.frame=some L):frs (env :: outer)=L :: frs outer:=by unfold frs;rw[QD,hf]
theorem tD{EX:Value→Hp→Prop}(hEX:∀ cls H',EX cls H'→KT H H'∧E cls none H'){e:Value}{s':Shared}
  (h:XP (F5 (CXr P w base) P w K mg base N qual scope f cd A outer s H E) true EX e s'):(F5 (CXr P w base) P w K mg base N qual scope f cd A outer s H E).xe e s':=by
 have hfc:frs (F5 (CXr P w base) P w K mg base N qual scope f cd A outer s H E).stack=s.heap.objs.size :: frs outer:=nK rfl
 have noL:s.heap.get? s.heap.objs.size=none:=RT (Pe _)
 show wpAny (model P w) (A.deeper (envOfC qual scope s.heap.objs.size f cd)) (leaving (envOfC qual scope s.heap.objs.size f cd) e) (fun _ s''=>CXr P w base outer H s E e s'') (fun e' s''=>CXr P w base outer H s E e' s'') s'
 rcases h with⟨_,a,cls,h,vs,H',rfl,hE,mx,I⟩|⟨pins,σ,Hc,sc,a,cls,a0,H',B,I,rfl,ho,hg,un,hok,hB,cov,fl,hE⟩
 ·obtain⟨k0,eE⟩:=hEX cls H' hE
  have hst:=I.stack
  have fre:=I.stkFree
  have hfr:=I.ok.frames
  have inL:∀ b,b∉frs outer→b≠s.heap.objs.size→b∉frs (F5 (CXr P w base) P w K mg base N qual scope f cd A outer s H E).stack:=fun b n1 n2 hm=>by
   rw[hfc]at hm
   rcases Pb.mp hm with z|z
   ·exact n2 z
   ·exact n1 z
  have inO:∀ b,b∈frs outer→b∈frs (F5 (CXr P w base) P w K mg base N qual scope f cd A outer s H E).stack:=fun b hb=>by rw[hfc];exact OW _ hb
  refine wpAny_leaves_madeW (base:=PySem.W.hideAll h (frs (F5 (CXr P w base) P w K mg base N qual scope f cd A outer s H E).stack)) (h:=h) (L:=s.heap.objs.size) (outer:=outer) hfr rfl (fun b o q=>PySem.W.of_hideAll _ q)
   (PySem.W.funFrames_hide hst fun env he b hb=>Rj.mpr ⟨env,he,hb⟩) mx fun h'' t fl _ _ ups=>?_
  have keepB:∀ b o,h.get? b=some o→b∉frs (F5 (CXr P w base) P w K mg base N qual scope f cd A outer s H E).stack→h''.get? b=some o:=fun b o q nm=>fl.1 b o (PySem.W.hideAll_get _ q nm)
  have slotB:∀ b o,h.get? b=some o→b∈frs (F5 (CXr P w base) P w K mg base N qual scope f cd A outer s H E).stack→∃ sl,h''.get? b=some { o with slots:=sl }:=fun b o q hm=>by
   obtain⟨_,o',ho',hnf⟩:=hst.mem hm
   have e:o=o':=Option.some.inj (q.symm.trans ho')
   subst e
   exact ups b o (mx.keeps b o q) hnf
  have trk:∀ b u,H' b=some u→b∉frs (F5 (CXr P w base) P w K mg base N qual scope f cd A outer s H E).stack:=fun b u q hm=>by rw[fre b hm]at q;cases q
  refine⟨a,cls,.ref t,H',_,rfl,I.os,I.bare,⟨fun b o q n hb _=>?_,fun b o q n hb _=>?_,fun b o q n hx=>I.base.free b o q n hx,fun b o q hx=>?_,I.base.tups,I.base.frzs,I.base.tbls⟩,fun b u q=>?_,k0,fun b o q=>?_,fun b o e1 e2 nb=>?_,fl,eE⟩
  ·have z:=I.base.keep b o q n hb (by intro hz;cases hz)
   exact keepB b o z (inL b hb (Pu (OY q)))
  ·obtain⟨sl,z⟩:=I.base.slot b o q n hb (by intro hz;cases hz)
   obtain⟨sl2,z2⟩:=slotB b _ z (inO b hb)
   exact⟨sl2,z2⟩
  ·obtain⟨o1,z⟩:=I.base.there b o q hx
   by_cases hm:b∈frs (F5 (CXr P w base) P w K mg base N qual scope f cd A outer s H E).stack
   ·obtain⟨sl,z2⟩:=slotB b _ z hm;exact⟨_,z2⟩
   ·exact⟨_,keepB b _ z hm⟩
  ·refine(I.hok b u q).stay (fun c v hc q2=>keepB c v q2 ?_) (fun _ q=>q) fun _ _ q=>q
   rcases hc with rfl|hc
   ·exact trk c u q
   ·exact trk c _ hc
  ·exact PySem.W.hideAll_get _ (I.bk b o q) fun hm=>by
    have z:base.get? b=none:=(hst.mem hm).1
    rw[z]at q;cases q
  ·have nL:b≠s.heap.objs.size:=fun z=>by
    subst z
    rcases e2 with⟨u,e2⟩|⟨o0,e2⟩
    ·exact absurd (by rw[hfc];exact Ph) (trk _ u e2)
    ·rw[noL]at e2;cases e2
   have nm:=inL b nb nL
   obtain⟨o1,z⟩:∃ o1,h.get? b=some o1:=by
    rcases e2 with⟨u,e2⟩|⟨o0,e2⟩
    ·exact X8 (I.hok b u e2)
    ·exact I.base.there b o0 e2 (by intro hz;cases hz)
   have e3:=keepB b o1 z nm
   rw[e1]at e3
   cases e3
   exact PySem.W.hideAll_get _ z nm
 ·obtain⟨k0,eE⟩:=hEX cls H' hE
  have hfr:=I.ok.frames
  have fre:∀ b∈frs (F5 (CXr P w base) P w K mg base N qual scope f cd A outer s H E).stack,H' b=none:=fun b hb=>by
   obtain⟨_,o,hob,_⟩:=I.stack.mem hb
   exact un.free b o hob (I.stkFree b hb) (by simp)
  have inL:∀ b,b∉frs outer→b≠s.heap.objs.size→b∉frs (F5 (CXr P w base) P w K mg base N qual scope f cd A outer s H E).stack:=fun b n1 n2 hm=>by
   rw[hfc]at hm
   rcases Pb.mp hm with z|z
   ·exact n2 z
   ·exact n1 z
  have inO:∀ b,b∈frs outer→b∈frs (F5 (CXr P w base) P w K mg base N qual scope f cd A outer s H E).stack:=fun b hb=>by rw[hfc];exact OW _ hb
  refine Air.leaves (L:=s.heap.objs.size) (outer:=outer) hfr rfl fl fun h'' fl2 ups=>?_
  have pre:∀ b o,s.heap.get? b=some o→∃ o1,sc.heap.get? b=some o1:=fun b o q=>I.base.there b o q (by intro hz;cases hz)
  have keepB:∀ b o,s'.heap.get? b=some o→((∃ u,H' b=some u) ∨ ∃ o0,sc.heap.get? b=some o0)→b∉frs (F5 (CXr P w base) P w K mg base N qual scope f cd A outer s H E).stack→h''.get? b=some o:=fun b o q c nm=>fl2.1 b o (cov b o q c nm)
  have slotB:∀ b o,s'.heap.get? b=some o→b∈frs (F5 (CXr P w base) P w K mg base N qual scope f cd A outer s H E).stack→∃ sl,h''.get? b=some { o with slots:=sl }:=fun b o q hm=>by
   obtain⟨_,o',ho',hnf⟩:=fl.frames.mem hm
   have e:o=o':=Option.some.inj (q.symm.trans ho')
   subst e
   exact ups b o q hnf
  have trk:∀ b u,H' b=some u→b∉frs (F5 (CXr P w base) P w K mg base N qual scope f cd A outer s H E).stack:=fun b u q hm=>by rw[fre b hm]at q;cases q
  refine⟨a,cls,a0,H',B,rfl,ho.trans I.os,hg,⟨fun b o q n hb _=>?_,fun b o q n hb _=>?_,fun b o q n hx=>?_,fun b o q hx=>?_,fun b xs q=>un.tups b xs (I.base.tups b xs q),fun b o u q=>un.frzs b o u (I.base.frzs b o u q),fun b ps q=>?_⟩,fun b u q=>?_,k0,hB,fun b o e1 e2 nb=>?_,fl2,eE⟩
  ·have z:=I.base.keep b o q n hb (by intro hz;cases hz)
   have nm:=inL b hb (Pu (OY q))
   have z2:=un.keep b o z (I.base.free b o q n (by intro hz;cases hz)) nm (by simp)
   exact keepB b o z2 (.inr ⟨o,z⟩) nm
  ·obtain⟨sl,z⟩:=I.base.slot b o q n hb (by intro hz;cases hz)
   obtain⟨sl2,z2⟩:=un.slot b _ z (I.base.free b o q n (by intro hz;cases hz)) (inO b hb) (by simp)
   obtain⟨sl3,z3⟩:=slotB b _ z2 (inO b hb)
   exact⟨sl3,z3⟩
  ·obtain⟨o1,z⟩:=pre b o q
   exact un.free b o1 z (I.base.free b o q n (by intro hz;cases hz)) (by simp)
  ·obtain⟨o1,z⟩:=pre b o q
   obtain⟨o2,z2⟩:=un.there b o1 z (by simp)
   by_cases hm:b∈frs (F5 (CXr P w base) P w K mg base N qual scope f cd A outer s H E).stack
   ·obtain⟨sl,z3⟩:=slotB b _ z2 hm;exact⟨_,z3⟩
   ·exact⟨_,keepB b _ z2 (.inr ⟨o1,z⟩) hm⟩
  ·obtain⟨m1,z1⟩:=I.base.tbls b ps q
   obtain⟨m2,z2⟩:=un.tbls b _ z1
   exact⟨m1++m2,by rw[z2,Array.append_assoc]⟩
  ·refine(hok b u q).stay (fun c v hc q2=>?_) (fun _ q=>q) fun _ _ q=>q
   rcases hc with rfl|hc
   ·exact keepB c v q2 (.inl ⟨u,q⟩) (trk c u q)
   ·exact keepB c v q2 (.inl ⟨_,hc⟩) (trk c _ hc)
  ·have nL:b≠s.heap.objs.size:=fun z=>by
    subst z
    rcases e2 with⟨u,e2⟩|⟨o0,e2⟩
    ·exact absurd (by rw[hfc];exact Ph) (trk _ u e2)
    ·rw[noL]at e2;cases e2
   have nm:=inL b nb nL
   have c2:(∃ u,H' b=some u) ∨ ∃ o0,sc.heap.get? b=some o0:=e2.imp id fun⟨o0,z⟩=>pre b o0 z
   obtain⟨o1,z⟩:∃ o1,s'.heap.get? b=some o1:=by
    rcases c2 with⟨u,c2⟩|⟨o0,c2⟩
    ·exact X8 (hok b u c2)
    ·exact un.there b o0 c2 (by simp)
   have e3:=keepB b o1 z c2 nm
   rw[e1]at e3
   cases e3
   exact cov b o z c2 nm
end
noncomputable def xN(x:Str):Value:=.str x 0
noncomputable def vw(X:Cx)(H₀:Hp)(Y:DXK):Value→Hp→Prop:=fun c H'=>KT H₀ H'∧∃(x:Str) (C:Addr) (M':Mem),c = .ref C∧X.mg x=some (.ref C)∧m7 X.K H' M'∧Y (xN x) M'
noncomputable abbrev Cx.ex'(X:Cx)(mk:Bool)(H₀:Hp)(Y:DXK):Cx:=X.wish (XP X mk (vw X H₀ Y))
def Bo(K:OR)(H₀:Hp)(t:DTS):TS:=fun E σ H=>KT H₀ H∧upS K t E σ H
structure JX(X:Cx)(mk:Bool)(H₀:Hp)(Y:DXK)(st:Stmt)(t:DTS):Prop where
 out:PS (Cx.ex' X mk H₀ Y) st (Bo X.K H₀ t)
structure JXs(X:Cx)(mk:Bool)(H₀:Hp)(Y:DXK)(st:List Stmt)(t:DTS):Prop where
 out:PSs (Cx.ex' X mk H₀ Y) st (Bo X.K H₀ t)
section
variable {X:Cx} {mk:Bool} {H₀:Hp} {Y:DXK} {st:Stmt} {C9:List Stmt} {t u:DTS} {pos:Pos}
theorem Dj{pins:List (Addr × Obj)}{D:lj}{E:Value→Shared→Prop}{s':Shared}:∀{f:Flow},SP X pins D f s'→SP (X.wish E) pins D f s'
 | .next,⟨σ',H',I,q⟩=>⟨σ',H',I.wish _,q⟩
 | .brk,⟨σ',H',I,q⟩=>⟨σ',H',I.wish _,q⟩
 | .cont,⟨σ',H',I,q⟩=>⟨σ',H',I.wish _,q⟩
 | .ret _,⟨v,σ',H',I,r,q⟩=>⟨v,σ',H',I.wish _,r,q⟩
theorem Bl{E:Value→Shared→Prop}{t:TS}(h:PS X.nox st t):PS (X.wish E) st t:=fun pins s σ H D I hw =>
 wpAny_mono (h pins s σ H D (I.unwish.wish _) hw) (fun _ _ q=>Dj q.unwish) fun _ _ z=>False.elim z
theorem so{E:Value→Shared→Prop}{e:Expr}{t:TT}(h:PT X.nox e t):PT (X.wish E) e t:=fun pins s σ H Q I hw =>
 wpAny_mono (h pins s σ H Q (I.unwish.wish _) hw) (fun _ _ ⟨H',I',q⟩=>⟨H',I'.unwish.wish _,q⟩) fun _ _ z=>False.elim z
theorem sr{E:Value→Shared→Prop}{es:List Expr}{t:TA}(h:PA X.nox es t):PA (X.wish E) es t:=fun pos pins s σ H Q I hw =>
 wpAny_mono (h pos pins s σ H Q (I.unwish.wish _) hw) (fun _ _ ⟨v,H',I',r,q⟩=>⟨v,H',I'.unwish.wish _,r,q⟩) fun _ _ z=>False.elim z
theorem o6(h:JS X.nox st t):JX X mk H₀ Y st t:=⟨PS.imp (Bl h.out) fun _ _ _ q=>q.2⟩
theorem y0:JXs X mk H₀ Y [] zH:=⟨PSs.imp sS fun E σ H ⟨k,e,M,F,ok,am,t,f⟩=>f.nx e M t σ H (KT.refl H) am ok⟩
theorem j9(h:JX X mk H₀ Y st t):JXs X mk H₀ Y [st] t:=⟨sR h.out⟩
theorem g9(h1:JX X mk H₀ Y st t)(h2:JXs X mk H₀ Y C9 u):JXs X mk H₀ Y (st :: C9) (Ia t u) :=
 ⟨PSs.imp (fm h1.out h2.out) fun E σ H ⟨k,e,M,F,ok,am,tt,f⟩=>⟨k,e,M,_,ok,am,tt,⟨fun e' M' h σ' H' kt a o=>⟨k.trans kt,e',M',F,o,a,h,f.mono kt⟩,f.rt,f.bk,f.ct⟩⟩⟩
theorem D6{c:Expr}{a b:List Stmt}{tc:DTT}(hc:JT X.nox c tc)(ha:JXs X mk H₀ Y a t)(hb:JXs X mk H₀ Y b u):JX X mk H₀ Y (.If c a b pos) (Ig tc t u) :=
 ⟨PS.imp (EA (so hc.out) ha.out hb.out) fun E σ H ⟨k,e,M,F,ok,am,tt,f⟩=>⟨e,M,_,ok,am,tt,fun bb M1 h1 H1 k1 a1=>by
  cases bb with
  | true=>exact⟨k.trans k1,e,M1,F,ok.mono k1,a1,h1,f.mono k1⟩
  | false=>exact⟨k.trans k1,e,M1,F,ok.mono k1,a1,h1,f.mono k1⟩⟩⟩
end
def LY(K:OR)(mg:Str→Option Value)(H:Hp)(Y:DXK)(E:XK):Prop:=∀(x:Str) (C:Addr) (M':Mem),mg x=some (.ref C)→Y (xN x) M'→∀ H',KT H H'→m7 K H' M'→E (.ref C) none H'
noncomputable def Et(K:OR)(mg:Str→Option Value)(sp:DSp):Sp:=fun vs H Q E=>∃ ds M R Y,HasL K H vs ds∧m7 K H M∧sp ds M R Y∧cu K H R Q∧LY K mg H Y E
structure FnX(P:Program)(w:World)(K:OR)(mg:Str→Option Value)(base:Heap)(x:Str)(k:Nat)(ps:List Str)(sp:DSp):Prop where
 ex:∃(f:Addr) (fd:FuncData),K5 P w K mg base (CXr P w base) k f fd ps (Et K mg sp)∧mg x=some (.ref f)∧PySem.W.keepIn K (.ref f)=true∧O2 K fd ps []
section
variable {P:Program} {w:World} {K:OR} {mg:Str→Option Value} {base:Heap}
theorem Q6{x:Str}{st:Stmt}{N ps:List Str}{k:Nat}{sp:DSp}(d:Df K mg x st ps)(S:e6 N ps (d7 st))(len:∀ ds M R Y,sp ds M R Y→ds.length=ps.length)
  (hbody:∀(f:Addr) (cdv:Value) (A:Around) (outer:List Env) (s:Shared) (H:Hp) (E:XK) (ds:List D) (M:Mem) (R:DK) (Y:DXK),B6 k (A.deeper (envOfC x (d7 st) s.heap.objs.size f cdv))→sp ds M R Y →
   ∃ t,JXs (F5 (CXr P w base) P w K mg base N x (d7 st) f cdv A outer s H E) true H Y (A9 st) t∧t { nx:=fun _ M'=>R .non M',rt:=R } (F4 N ds) M):FnX P w K mg base x (k+1) ps sp:=by
 obtain⟨f,fd,F,hm,hb⟩:=d.ex
 refine⟨f,fd,?_,hm,F.kp,hb⟩
 obtain⟨oc,od,dV,kV,doc,pm,an,cdv,ct,osl,rfl,lk,hcd⟩:=F.ex
 refine tR lk hcd S (fun vs H Q E ⟨ds,M,R,Y,hl,_,hs,_,_⟩=>by rw[hl.length];exact len ds M R Y hs) fun A outer s H vs Q E hr ⟨ds,M,R,Y,hl,am,hs,fv,fx⟩=>?_
 obtain⟨t,h1,h2⟩:=hbody f cdv A outer s H E ds M R Y hr hs
 refine⟨Bo K H t,fun pins s1 σ H1 D I hw=>?_,KT.refl H,F4 N ds,M,_,v7.start0 hl,am,h2,⟨?_,fv,fun _ _ h=>h.elim,fun _ _ h=>h.elim⟩⟩
 ·refine wpAny_mono (h1.out pins s1 σ H1 D (I.wish _) hw) (fun _ _ q=>q.unwish) fun e s2 hx=>tD (fun cls H' ⟨k1,x',C,M',e1,e2,e3,e4⟩=>⟨k1,by rw[e1];exact fx x' C M' e2 e4 H' k1 e3⟩) hx
 ·exact fun e M' h σ' H' kt a o=>fv .non M' h .non H' kt a .non
theorem FnX.fn{x:Str}{k:Nat}{ps:List Str}{sp sp':DSp}(G:FnX P w K mg base x k ps sp)(h:∀ ds M R Y,sp' ds M R Y→sp ds M R fun _ _=>False):Fn P w K mg base x k ps sp':=by
 obtain⟨f,fd,F,h1,h2,h3⟩:=G.ex
 refine⟨f,fd,⟨fun vs H Q E ⟨ds,M,R,Y,hl,am,hs,fv,_⟩=>F.len vs H Q (fun _ _ _=>False) ⟨ds,M,R,_,hl,am,h ds M R Y hs,fv,fun _ _ _ _ z=>z.elim⟩,fun A outer s H args us vs Q E hr he hb hv ⟨ds,M,R,Y,hl,am,hs,fv,_⟩=>?_⟩,h1,h2,h3⟩
 refine codeAny_mono (F.run A outer s H args us vs Q (fun _ _ _=>False) hr he hb hv ⟨ds,M,R,_,hl,am,h ds M R Y hs,fv,fun _ _ _ _ z=>z.elim⟩) fun r s' q=>?_
 cases r with
 | error e=>obtain⟨_,_,_,_,_,_,_,_,_,_,_,_,_,_,z⟩:=q;exact z.elim
 | ok fl=>cases fl<;>exact q
end
section
variable {X:Cx} {mk:Bool} {H₀:Hp} {Y:DXK} {pos cpos:Pos} {x:Str} {j:Nat} {ps:List Str} {sp:DSp} {p:Pos} {e:Expr} {es:List Expr} {t:DTA}
def zO(sp:DSp)(Y:DXK)(t:DTA):DTE:=fun e M R=>t e M fun ds M1=>sp (ds++[]) M1 R Y
structure JXE(X:Cx)(mk:Bool)(H₀:Hp)(Y:DXK)(e:Expr)(t:DTE):Prop where
 out:PE (Cx.ex' X mk H₀ Y) e (fun σ H Q=>KT H₀ H∧up X.K t σ H Q)
theorem B8(G:FnX X.prog X.w X.K X.mg X.base x j ps sp)(hr:B6 j X.A)(hg:Gl X x)(ha:JA X.nox (e :: es) t)
  (hdb:(x == ("__debug__" : Str))=false:=by decide) (he:starEach (e :: es) X.env=(false,eval e X.env) :: starEach es X.env:=by rfl) (hpl:(backTo cpos (starEach es X.env)).any (·.1)=false:=by rfl) :
  JXE X mk H₀ Y (.Call (.Name x p) (e :: es) [] cpos) (zO sp Y t):=by
 obtain⟨f,fd,F,hm,hk,hb⟩:=G.ex
 refine⟨PE.imp (sU (X:=Cx.ex' X mk H₀ Y) (ds:=[]) (dvs:=[]) F hr hg hm hk hb .nil yn (sr ha.out) hdb he hpl) fun σ H Q ⟨k,e',M,R,ok,am,tt,ff⟩=>?_⟩
 refine⟨e',M,_,ok,am,tt,fun ds M1 h1 vs H1 k1 a1 r1=>⟨ds++[],M1,R,Y,r1.append .nil,a1,h1,ff.mono k1,fun y C M' hy z H' kt a=>⟨(k.trans k1).trans kt,y,C,M',rfl,hy,a,z⟩⟩⟩
theorem ay{te:DTE}(h:JXE X mk H₀ Y e te):JX X mk H₀ Y (.Return (some e) pos) (Ib te) :=
 ⟨PS.imp (yc h.out) fun E σ H ⟨k,e',M,F,ok,am,tt,f⟩=>⟨k,e',M,_,ok,am,tt,f.rt⟩⟩
end
section
variable {X:Cx} {mk:Bool} {H₀:Hp} {Y:DXK} {pos:Pos} {e:Expr} {te:DTE}
theorem mh{i:Nat}{y:Str}{pos':Pos}(hN:X.N.Nodup)(hi:X.N[i]? = some y)(hx:Loc X.env.scope y)(h:JXE X mk H₀ Y e te)(hs:swapsWith e (some (.Name y pos')) pos.line X.env=pure false:=by rfl)(hf:X.fn y=true∨X.env.scope.names.lookup y=some .local:=by first|exact .inl rfl|exact .inr rfl|assumption) :
  JX X mk H₀ Y (.Assign [.Name y pos'] e pos) (vc te (ao i)) :=
 ⟨PS.imp (yb (X:=Cx.ex' X mk H₀ Y) hN hi hx h.out hs hf) fun E σ H ⟨k,e',M,F,ok,am,tt,f⟩=>⟨k,e',M,_,ok,am,tt,fun d M1 h1 v H1 k1 a1 r1=>f.nx _ M1 h1 _ H1 k1 a1 ((ok.mono k1).set r1 i)⟩⟩
end
section
variable {X:Cx} {mk:Bool} {EX:Value→Hp→Prop}
end
section
variable {X:Cx} {mk:Bool} {H₀:Hp} {Y:DXK} {pos:Pos} {c:Expr} {body:List Stmt} {tc:DTT} {tb:DTS}
end
noncomputable def bmV:List Value:=[.type "ValueError",.type "Exception",.type "BaseException",.type "object"]
structure ExD(K:OR)(mg:Str→Option Value)(x:Str):Prop where
 ex:∃ C,mg x=some (.ref C)∧PySem.W.excIn K C bmV "ValueError.__new__" = true
theorem kP{K:OR}{mg:Str→Option Value}{h:Heap}{x:Str}{C:Addr}(X:K.In h)(G:h.Ns mainGlobals mg)(n:PySem.W.nsIn K mainGlobals x=some (some (.ref C)))(q:PySem.W.excIn K C [.type "ValueError",.type "Exception",.type "BaseException",.type "object"] "ValueError.__new__" = true):ExD K mg x :=
 ⟨C,PySem.W.mg_of X G n,q⟩
theorem CJ{K:OR}{h:Heap}{C:Addr}{bmB:List Value}{newId:String}(X:K.In h)(q:PySem.W.excIn K C bmB newId=true) :
  ∃ bm N nm qn bs hdct sn sub ab col dd k0 k1 k2 k3 k5 mN,h.get? C=some (excClassObj nm qn C N bs bm hdct sn sub ab col dd k0 k1 k2 k3 k5 newId)∧h.Ns N mN∧mN "__init__" = none∧OwnTail h bmB bm:=by
 unfold PySem.W.excIn at q
 cases lk:K.lookup C with
 | none=>rw[lk]at q;cases q
 | some ob =>
  obtain⟨oc,od,dt,sl⟩:=ob
  rw[lk]at q
  cases dt with
  | cls cd =>
   cases oc with
   | type tn =>
    by_cases ht:tn = "type"
    ·subst ht
     simp only at q
     split at q
     ·rename_i C' bm k0 k1 k2 k3 n k5 hm hs
      simp only[PL,beq_iff_eq,Rp]at q
      obtain⟨⟨⟨⟨⟨q1,q2⟩,q3⟩,q4⟩,q5⟩,q6⟩:=q
      subst q1
      subst q2
      obtain⟨nm,bs,mro,ns,qn,hd,sn,sub,ab,col,del⟩:=cd
      dsimp only at hm q3 q5 q6
      subst hm
      subst q3
      have es:sl = #[k0,k1,k2,k3,some (.builtin n),k5]:=by
       cases sl with
       | mk l=>exact congrArg Array.mk hs
      subst es
      exact⟨bm,ns,nm,qn,bs,hd,sn,sub,ab,col,od,k0,k1,k2,k3,k5,_,X _ _ lk,.of_isNs (PySem.W.isNs_of_in X q5),PySem.W.nsMap_none_of_in X q5 q6,PySem.W.tail_of_in X q4⟩
     ·cases q
    ·exfalso
     revert q
     split
     ·rename_i e;cases e;exact absurd rfl ht
     ·intro z;cases z
   | _=>exfalso;simp at q
  | _=>exfalso;revert q;split<;>(intro z;first|cases z|(rename_i e;cases e))
section
variable {X:Cx} {H₀:Hp} {Y:DXK} {pos cpos np:Pos} {x:Str} {e₀:Expr} {te:DTE}
def zG(x:Str)(Y:DXK)(te:DTE):DTS:=fun _ e M=>te e M fun _ M1=>Y (xN x) M1
theorem m9(G:ExD X.K X.mg x)(hc:X.calm=true)(hg:Gl X x)(h0:JE X.nox e₀ te)(hdb:(x == ("__debug__" : Str))=false:=by decide)
  (he:starEach [e₀] X.env=(false,eval e₀ X.env) :: starEach [] X.env:=by rfl) (hp:(backTo cpos (starEach [e₀] X.env)).any (·.1)=false:=by rfl) :
  JX X true H₀ Y (.Raise (some (.Call (.Name x np) [e₀] [] cpos)) none pos) (zG x Y te):=by
 refine⟨fun pins s σ H D I ⟨k,ev,M,F,ok,am,hy,f⟩=>?_⟩
 obtain⟨C,hm,hq⟩:=G.ex
 have I0:Inv X pins σ H s:=I.unwish
 obtain⟨bm,N,nm,qn,bs,hdct,sn,sub,ab,col,dd,k0,k1,k2,k3,k5,mN,hC,hN,hni,T⟩:=CJ I0.mod.kin hq
 refine wpAny_Raise_call_subT (C:=C) (nm:=nm) (q:=qn) (N:=N) (bs:=bs) (bm:=bm) (hdct:=hdct) (sn:=sn) (sub:=sub) (ab:=ab) (col:=col) (dd:=dd) (k0:=k0) (k1:=k1) (k2:=k2) (k3:=k3) (k5:=k5)
  PySem.F.excBase_ValueError (mN:=mN) (T.hasType (by decide)) (I0.ok.hd hc) hp hni (dQ (X:=X) I0 hg hm ⟨rfl,?_⟩ hdb)
 have h1:wpAny (model X.prog X.w) X.A (spliced (backTo cpos (starEach [e₀] X.env))) (AP (Cx.ex' X true H₀ Y) pins σ fun vs H1=>vs.length=1∧vw X H₀ Y (.ref C) H1) (XP X true (vw X H₀ Y)) s :=
  (sr (E:=XP X true (vw X H₀ Y)) (aY h0.out fo he)) cpos pins s σ H _ I ⟨ev,M,_,ok,am,hy,fun d M1 y v H1 k1 a1 _=>⟨rfl,k.trans k1,x,C,M1,rfl,hm,a1,y⟩⟩
 rw[he]at h1 ⊢
 refine Calls.evalArgs_plain (wpAny_mono h1 (fun us s2 ⟨vs,H1,I1,r1,hv,q⟩=>⟨rfl,?_,I1.bk _ _ hC,hN.keeps I1.bk,T.keeps I1.bk,fun h' e2 mx=>?_⟩) fun _ _ z=>z)
 ·show us.length≤sizeLine
  rw[← r1.length,hv];decide
 ·exact .inl ⟨rfl,e2,.ref C,s2.heap,us,H1,rfl,q,mx,yP I1.unwish⟩
end
noncomputable abbrev Cx.pinned(X:Cx)(pn:List (Addr × Obj)):Cx:={ X with pn:=pn }
section
variable {X:Cx} {pins pn:List (Addr × Obj)} {σ:St} {H:Hp} {s:Shared}
end
section
variable {X:Cx} {body suite:List Stmt} {b0:Stmt} {c:Str} {np hpos pos:Pos} {tb:DXK→DTS} {ts:DTS}
end
section
variable {X:Cx} {body suite:List Stmt} {b0:Stmt} {c:Str} {np hpos pos:Pos} {tb:DXK→DTS} {ts:DTS}
end
end DL
namespace DL
open PySem PySem.Spec L2
def BlK(x:D)(M:Mem)(Q:Bool→Mem→Prop):Prop:=∃ k,x = .bl k∧Q k M
def IfK(c:Bool)(A B:Prop):Prop:=if c=true then A else B
def SzK(n:Nat)(A:Prop):Prop:=n≤sizeLine∧A
def Lg(i j:Nat)(ds:List D)(F:W2)(e:Ev)(M:Mem):Prop:=∃ x y,ds=[x,y]∧F.nx ((e.set i (some x)).set j (some y)) M
def Iu(x:D)(M:Mem)(Q:List D→(Mem→Prop)→Mem→Prop):Prop:=∃ ds,A4 M x ds∧Q ds (fun M'=>A4 M' x ds) M
def Ak(xs:List D)(M:Mem)(Q:List D→(Mem→Prop)→Mem→Prop):Prop:=∃ x ds,xs=[x]∧A4 M x ds∧Q (V4 ds) (fun M'=>A4 M' x ds) M
def Af(xs:List D)(M:Mem)(Q:List D→(Mem→Prop)→Mem→Prop):Prop:=∃ x y ds es,xs=[x,y]∧A4 M x ds∧A4 M y es∧Q (bu ds es) (fun M'=>A4 M' x ds∧A4 M' y es) M
def Lf(xs:List D)(M:Mem)(Q:List D→(Mem→Prop)→Mem→Prop):Prop:=∃ j:Int,xs=[.int j]∧-(2 ^ 62)≤j∧j<2 ^ 62∧Q (U6 0 j.toNat) (fun _=>True) M
def cZ(g:DTG)(tb:DTS)(F:W2)(ds:List D)(stay:Mem→Prop)(e:Ev)(M1:Mem):Prop:=∃ W:Nat→Ev→Mem→Prop,W 0 e M1∧(∀ i e M,i≤ds.length→W i e M→stay M) ∧
 (∀(i:Nat) (d:D) e M,ds[i]? = some d→W i e M→g d e M fun e2 M2=>tb { F with nx:=W (i+1),ct:=W (i+1),bk:=F.nx } e2 M2)∧∀ e M,W ds.length e M→F.nx e M
def Dm(x:D)(M1:Mem)(R:DK):Prop:=∃ p ds,x = .ref p∧M1 p=some (.lst ds)∧R (.vl ds) (fZ M1 p)
def Fv(x:D)(M:Mem)(Q:Option Int→Mem→Prop):Prop:=∃ i,x = .int i∧Q (some i) M
def Li(x:D)(M1:Mem)(R:DK):Prop:=∃ M2:Mem,(∀ b o,M2 b=some o→M1 b=some o)∧R x M2
def LMK(x:D)(M:Mem)(A:Prop):Prop:=(∃ l ds,x = .ref l∧M l=some (.lst ds))∧A
end DL
namespace DL
open PySem PySem.Spec L2
open PyProof.Rows hiding St
section
variable {e:Ev} {M:Mem} {R:DK} {F:W2} {ta tb tc:DTE} {tA tB:DTT} {tr:DTA} {t u:DTS}
theorem z_C{d:D}:dC d e M R=R d M:=rfl
theorem Ji{g:DR2}:dOp g ta tb e M R=ta e M fun x M1=>tb e M1 fun y M2=>g x y M2 R:=rfl
theorem Jg{g:D→Mem→DK→Prop}:dUn g ta e M R=ta e M fun x M1=>g x M1 R:=rfl
theorem Je{f:Int→Int→D}{i j:Int}:gF (fI f) (.int i) (.int j) M R=R (f i j) M:=propext ⟨fun zz=>by obtain⟨_,h,r⟩:=zz;cases h;exact r,fun r=>⟨_,rfl,r⟩⟩
theorem Jf{f:Bool→Bool→D}{i j:Bool}:gF (fB f) (.bl i) (.bl j) M R=R (f i j) M:=propext ⟨fun zz=>by obtain⟨_,h,r⟩:=zz;cases h;exact r,fun r=>⟨_,rfl,r⟩⟩
theorem Jd{f:Str→Str→D}{i j:Str}:gF (fS f) (.str i) (.str j) M R=R (f i j) M:=propext ⟨fun zz=>by obtain⟨_,h,r⟩:=zz;cases h;exact r,fun r=>⟨_,rfl,r⟩⟩
theorem Jc{C:Int→Int→Prop}{f:Int→Int→D}{i j:Int}:gI C f (.int i) (.int j) M R=(C i j∧R (f i j) M):=propext ⟨fun zz=>by obtain⟨_,_,h1,h2,c,r⟩:=zz;cases h1;cases h2;exact⟨c,r⟩,fun⟨c,r⟩=>⟨_,_,rfl,rfl,c,r⟩⟩
theorem Jb{f:Int→D}{i:Int}:gU f (.int i) M R=R (f i) M:=propext ⟨fun zz=>by obtain⟨_,h,r⟩:=zz;cases h;exact r,fun r=>⟨_,rfl,r⟩⟩
theorem wg{Q:Bool→Mem→Prop}:nQ ta e M Q=ta e M fun x M'=>BlK x M' Q:=rfl
theorem Em{b:Bool}{Q:Bool→Mem→Prop}:BlK (.bl b) M Q=Q b M:=propext ⟨fun zz=>by obtain⟨_,h,r⟩:=zz;cases h;exact r,fun r=>⟨_,rfl,r⟩⟩
theorem Eo{Q:Bool→Mem→Prop}:KQ tA tB e M Q=tA e M fun c M1=>IfK c (tB e M1 Q) (Q false M1):=rfl
theorem Jh{Q:Bool→Mem→Prop}:dOr tA tB e M Q=tA e M fun c M1=>IfK c (Q true M1) (tB e M1 Q):=rfl
theorem DT{Q:Bool→Mem→Prop}:KG tA e M Q=tA e M fun c M1=>Q (!c) M1:=rfl
theorem wV:Fp ta tb e M R=ta e M fun x M1=>BlK x M1 fun c M1=>IfK c (tb e M1 R) (R (.bl false) M1):=rfl
theorem DS:KD ta tb e M R=ta e M fun x M1=>BlK x M1 fun c M1=>IfK c (R (.bl true) M1) (tb e M1 R):=rfl
theorem wB:Fj ta e M R=ta e M fun x M1=>BlK x M1 fun c M1=>R (.bl (!c)) M1:=rfl
theorem Jk:dIf tA ta tb e M R=tA e M fun c M1=>IfK c (ta e M1 R) (tb e M1 R):=rfl
theorem Ec:Ig tA t u F e M=tA e M fun c M1=>IfK c (t F e M1) (u F e M1):=rfl
theorem DU{Q:List D→Mem→Prop}:Ic e M Q=Q [] M:=rfl
theorem wO{Q:List D→Mem→Prop}:zN ta tr e M Q=ta e M fun x M1=>tr e M1 fun xs M2=>Q (x :: xs) M2:=rfl
theorem DM:HZ tr e M R=tr e M fun ds M1=>SzK ds.length (R (.tup ds) M1):=rfl
theorem DX:KH tr e M R=tr e M fun ds M1=>SzK ds.length (∀ p,M1 p=none→R (.ref p) (q9 M1 p (.lst ds))):=rfl
theorem Y3{x y z:D}(h:ixD M x y=some z):gIx x y M R=R z M:=propext ⟨fun zz=>by obtain⟨_,h',r⟩:=zz;rw[h]at h';cases h';exact r,fun r=>⟨_,h,r⟩⟩
theorem gk{neg:Bool}{x y:D}{b:Bool}(h:isD x y=some b):gIs neg x y M R=R (.bl (neg.xor b)) M:=propext ⟨fun zz=>by obtain⟨_,h',r⟩:=zz;rw[h]at h';cases h';exact r,fun r=>⟨_,h,r⟩⟩
theorem El{neg:Bool}{x y:D}:HL neg x y M R=(cl 60 x=true∧cl 60 y=true∧R (.bl (neg.xor (@decide (x=y) (Classical.propDecidable _)))) M):=rfl
theorem wU{sp:DSp}{dds:List D}{Y:DXK}:ug sp dds Y tr e M R=tr e M fun ds M1=>sp (ds++dds) M1 R Y:=rfl
theorem Jm{g:DRC}:dCB g tr e M R=tr e M fun ds M1=>g ds M1 R:=rfl
theorem wC:zH F e M=F.nx e M:=rfl
theorem DP:Ia t u F e M=t { F with nx:=u F } e M:=rfl
theorem wN:Fm ta F e M=ta e M fun _ M1=>F.nx e M1:=rfl
theorem DQ:Ib ta F e M=ta e M F.rt:=rfl
theorem rR:zI F e M=False:=rfl
variable {Q:Ev→Mem→Prop}
theorem rE{i:Nat}{d:D}:ao i d e M Q=Q (e.set i (some d)) M:=rfl
theorem wb:Fb [] e M Q=Q e M:=propext ⟨fun h=>h.2,fun h=>⟨rfl,h⟩⟩
theorem rF{g:DTG}{gs:bt}{d:D}{ds:List D}:zw g gs (d :: ds) e M Q=g d e M fun e' M'=>gs ds e' M' Q:=propext ⟨fun zz=>by obtain⟨_,_,h,r⟩:=zz;cases h;exact r,fun r=>⟨_,_,rfl,r⟩⟩
theorem eL{n:Nat}{gs:bt}{ds:List D}(h:ds.length=n):nO n gs (.tup ds) e M Q=gs ds e M Q:=propext ⟨fun zz=>by obtain⟨_,h',_,r⟩:=zz;cases h';exact r,fun r=>⟨_,rfl,h,r⟩⟩
theorem vZ{to ti:DTE}{ts:Al}{d:D}:EZ to ti ts d e M Q=to e M fun o M1=>ti e M1 fun i M2=>ts o i d M2 fun M3=>Q e M3:=rfl
theorem En{g:DTG}:vc ta g F e M=ta e M fun x M1=>g x e M1 F.nx:=rfl
theorem DR{i j:Nat}:KC i j tr F e M=tr e M fun ds M1=>Lg i j ds F e M1:=rfl
theorem wA{i j:Nat}{x y:D}:Lg i j [x,y] F e M=F.nx ((e.set i (some x)).set j (some y)) M:=propext ⟨fun zz=>by obtain⟨_,_,h,r⟩:=zz;cases h;exact r,fun r=>⟨_,_,rfl,r⟩⟩
theorem Ep{i:Int}:Kv [.int i] M R=R (.int (i.natAbs:Int)) M:=propext ⟨fun zz=>by obtain⟨_,h,r⟩:=zz;cases h;exact r,fun r=>⟨_,rfl,r⟩⟩
theorem DW{i j:Int}:Ks [.int i,.int j] M R=R (.int (max i j)) M:=propext ⟨fun zz=>by obtain⟨_,_,h,r⟩:=zz;cases h;exact r,fun r=>⟨_,_,rfl,r⟩⟩
theorem rS{d:D}{n:Nat}(h:Hs M d=some n):uX [d] M R=R (.int (n:Int)) M:=propext ⟨fun zz=>by obtain⟨_,_,h',h2,r⟩:=zz;cases h';rw[h]at h2;cases h2;exact r,fun r=>⟨_,_,rfl,h,r⟩⟩
theorem u3{d:D}{ty T:String}{b:Bool}(h1:tyD M d=some ty)(h2:oM ty T=some b):A7 [d,.ty T] M R=R (.bl b) M:=propext ⟨fun zz=>by
 obtain⟨_,_,_,_,h,h1',h2',r⟩:=zz
 injection h with h h';subst h;injection h' with h';injection h' with h';subst h'
 rw[h1]at h1';cases h1';rw[h2]at h2';cases h2';exact r,fun r=>⟨_,_,_,_,rfl,h1,h2,r⟩⟩
theorem D8{d:D}{ty T1 T2:String}{b:Bool}(h1:tyD M d=some ty)(h2:sD ty T1 T2=some b):G8 [d,.tup [.ty T1,.ty T2]] M R=R (.bl b) M:=propext ⟨fun zz=>by
 obtain⟨_,_,_,_,_,h,h1',h2',r⟩:=zz
 injection h with h h';subst h;injection h' with h';injection h' with h';injection h' with h3 h4;injection h3 with h3;injection h4 with h4;injection h4 with h4;subst h3;subst h4
 rw[h1]at h1';cases h1';rw[h2]at h2';cases h2';exact r,fun r=>⟨_,_,_,_,_,rfl,h1,h2,r⟩⟩
theorem Ed{c:Bool}{A B:Prop}:IfK c A B=((c=true→A)∧(c=false→B)):=by cases c<;>simp[IfK]
theorem Eb{A B:Prop}:IfK true A B=A:=by simp[IfK]
theorem Ee{A B:Prop}:IfK false A B=B:=by simp[IfK]
theorem v9{n:Nat}{A:Prop}(h:n≤1000):SzK n A=A:=propext ⟨fun h=>h.2,fun a=>⟨sl n h,a⟩⟩
theorem IP{d:D}{r:Ev}:bo 0 (some d :: r) M R=R d M:=propext ⟨fun zz=>by obtain⟨_,h,q⟩:=zz;cases h;exact q,fun q=>⟨_,rfl,q⟩⟩
theorem Ja{y z:Option D}{r:Ev}:(y :: r:Ev).set 0 z=z :: r:=rfl
theorem IM{x0:Option D}{d:D}{r:Ev}:bo 1 (x0 :: some d :: r) M R=R d M:=propext ⟨fun zz=>by obtain⟨_,h,q⟩:=zz;cases h;exact q,fun q=>⟨_,rfl,q⟩⟩
theorem IZ{x0:Option D}{y z:Option D}{r:Ev}:(x0 :: y :: r:Ev).set 1 z=x0 :: z :: r:=rfl
theorem IL{x0 x1:Option D}{d:D}{r:Ev}:bo 2 (x0 :: x1 :: some d :: r) M R=R d M:=propext ⟨fun zz=>by obtain⟨_,h,q⟩:=zz;cases h;exact q,fun q=>⟨_,rfl,q⟩⟩
theorem IY{x0 x1:Option D}{y z:Option D}{r:Ev}:(x0 :: x1 :: y :: r:Ev).set 2 z=x0 :: x1 :: z :: r:=rfl
theorem IK{x0 x1 x2:Option D}{d:D}{r:Ev}:bo 3 (x0 :: x1 :: x2 :: some d :: r) M R=R d M:=propext ⟨fun zz=>by obtain⟨_,h,q⟩:=zz;cases h;exact q,fun q=>⟨_,rfl,q⟩⟩
theorem IX{x0 x1 x2:Option D}{y z:Option D}{r:Ev}:(x0 :: x1 :: x2 :: y :: r:Ev).set 3 z=x0 :: x1 :: x2 :: z :: r:=rfl
theorem IJ{x0 x1 x2 x3:Option D}{d:D}{r:Ev}:bo 4 (x0 :: x1 :: x2 :: x3 :: some d :: r) M R=R d M:=propext ⟨fun zz=>by obtain⟨_,h,q⟩:=zz;cases h;exact q,fun q=>⟨_,rfl,q⟩⟩
theorem IW{x0 x1 x2 x3:Option D}{y z:Option D}{r:Ev}:(x0 :: x1 :: x2 :: x3 :: y :: r:Ev).set 4 z=x0 :: x1 :: x2 :: x3 :: z :: r:=rfl
theorem II{x0 x1 x2 x3 x4:Option D}{d:D}{r:Ev}:bo 5 (x0 :: x1 :: x2 :: x3 :: x4 :: some d :: r) M R=R d M:=propext ⟨fun zz=>by obtain⟨_,h,q⟩:=zz;cases h;exact q,fun q=>⟨_,rfl,q⟩⟩
theorem IV{x0 x1 x2 x3 x4:Option D}{y z:Option D}{r:Ev}:(x0 :: x1 :: x2 :: x3 :: x4 :: y :: r:Ev).set 5 z=x0 :: x1 :: x2 :: x3 :: x4 :: z :: r:=rfl
theorem IH{x0 x1 x2 x3 x4 x5:Option D}{d:D}{r:Ev}:bo 6 (x0 :: x1 :: x2 :: x3 :: x4 :: x5 :: some d :: r) M R=R d M:=propext ⟨fun zz=>by obtain⟨_,h,q⟩:=zz;cases h;exact q,fun q=>⟨_,rfl,q⟩⟩
theorem IU{x0 x1 x2 x3 x4 x5:Option D}{y z:Option D}{r:Ev}:(x0 :: x1 :: x2 :: x3 :: x4 :: x5 :: y :: r:Ev).set 6 z=x0 :: x1 :: x2 :: x3 :: x4 :: x5 :: z :: r:=rfl
theorem IG{x0 x1 x2 x3 x4 x5 x6:Option D}{d:D}{r:Ev}:bo 7 (x0 :: x1 :: x2 :: x3 :: x4 :: x5 :: x6 :: some d :: r) M R=R d M:=propext ⟨fun zz=>by obtain⟨_,h,q⟩:=zz;cases h;exact q,fun q=>⟨_,rfl,q⟩⟩
theorem IT{x0 x1 x2 x3 x4 x5 x6:Option D}{y z:Option D}{r:Ev}:(x0 :: x1 :: x2 :: x3 :: x4 :: x5 :: x6 :: y :: r:Ev).set 7 z=x0 :: x1 :: x2 :: x3 :: x4 :: x5 :: x6 :: z :: r:=rfl
theorem IF{x0 x1 x2 x3 x4 x5 x6 x7:Option D}{d:D}{r:Ev}:bo 8 (x0 :: x1 :: x2 :: x3 :: x4 :: x5 :: x6 :: x7 :: some d :: r) M R=R d M:=propext ⟨fun zz=>by obtain⟨_,h,q⟩:=zz;cases h;exact q,fun q=>⟨_,rfl,q⟩⟩
theorem IS{x0 x1 x2 x3 x4 x5 x6 x7:Option D}{y z:Option D}{r:Ev}:(x0 :: x1 :: x2 :: x3 :: x4 :: x5 :: x6 :: x7 :: y :: r:Ev).set 8 z=x0 :: x1 :: x2 :: x3 :: x4 :: x5 :: x6 :: x7 :: z :: r:=rfl
theorem IE{x0 x1 x2 x3 x4 x5 x6 x7 x8:Option D}{d:D}{r:Ev}:bo 9 (x0 :: x1 :: x2 :: x3 :: x4 :: x5 :: x6 :: x7 :: x8 :: some d :: r) M R=R d M:=propext ⟨fun zz=>by obtain⟨_,h,q⟩:=zz;cases h;exact q,fun q=>⟨_,rfl,q⟩⟩
theorem IQ{x0 x1 x2 x3 x4 x5 x6 x7 x8:Option D}{y z:Option D}{r:Ev}:(x0 :: x1 :: x2 :: x3 :: x4 :: x5 :: x6 :: x7 :: x8 :: y :: r:Ev).set 9 z=x0 :: x1 :: x2 :: x3 :: x4 :: x5 :: x6 :: x7 :: x8 :: z :: r:=rfl
theorem Du{x0 x1 x2 x3 x4 x5 x6 x7 x8 x9:Option D}{d:D}{r:Ev}:bo 10 (x0 :: x1 :: x2 :: x3 :: x4 :: x5 :: x6 :: x7 :: x8 :: x9 :: some d :: r) M R=R d M:=propext ⟨fun zz=>by obtain⟨_,h,q⟩:=zz;cases h;exact q,fun q=>⟨_,rfl,q⟩⟩
theorem DH{x0 x1 x2 x3 x4 x5 x6 x7 x8 x9:Option D}{y z:Option D}{r:Ev}:(x0 :: x1 :: x2 :: x3 :: x4 :: x5 :: x6 :: x7 :: x8 :: x9 :: y :: r:Ev).set 10 z=x0 :: x1 :: x2 :: x3 :: x4 :: x5 :: x6 :: x7 :: x8 :: x9 :: z :: r:=rfl
theorem Dt{x0 x1 x2 x3 x4 x5 x6 x7 x8 x9 x10:Option D}{d:D}{r:Ev}:bo 11 (x0 :: x1 :: x2 :: x3 :: x4 :: x5 :: x6 :: x7 :: x8 :: x9 :: x10 :: some d :: r) M R=R d M:=propext ⟨fun zz=>by obtain⟨_,h,q⟩:=zz;cases h;exact q,fun q=>⟨_,rfl,q⟩⟩
theorem DG{x0 x1 x2 x3 x4 x5 x6 x7 x8 x9 x10:Option D}{y z:Option D}{r:Ev}:(x0 :: x1 :: x2 :: x3 :: x4 :: x5 :: x6 :: x7 :: x8 :: x9 :: x10 :: y :: r:Ev).set 11 z=x0 :: x1 :: x2 :: x3 :: x4 :: x5 :: x6 :: x7 :: x8 :: x9 :: x10 :: z :: r:=rfl
theorem Ds{x0 x1 x2 x3 x4 x5 x6 x7 x8 x9 x10 x11:Option D}{d:D}{r:Ev}:bo 12 (x0 :: x1 :: x2 :: x3 :: x4 :: x5 :: x6 :: x7 :: x8 :: x9 :: x10 :: x11 :: some d :: r) M R=R d M:=propext ⟨fun zz=>by obtain⟨_,h,q⟩:=zz;cases h;exact q,fun q=>⟨_,rfl,q⟩⟩
theorem DF{x0 x1 x2 x3 x4 x5 x6 x7 x8 x9 x10 x11:Option D}{y z:Option D}{r:Ev}:(x0 :: x1 :: x2 :: x3 :: x4 :: x5 :: x6 :: x7 :: x8 :: x9 :: x10 :: x11 :: y :: r:Ev).set 12 z=x0 :: x1 :: x2 :: x3 :: x4 :: x5 :: x6 :: x7 :: x8 :: x9 :: x10 :: x11 :: z :: r:=rfl
theorem A0{M:Mem}{ds es:List D}:A4 M (.tup ds) es=(es=ds):=by
 apply propext
 constructor
 ·intro h
  rcases h with h|⟨_,h,_⟩|h
  ·injection h with h;exact h.symm
  ·exact absurd h (by intro z;cases z)
  ·exact absurd h (by intro z;cases z)
 ·intro h;exact .inl (by rw[h])
theorem u9{M:Mem}{ds es:List D}:A4 M (.vl ds) es=(es=ds):=by
 apply propext
 constructor
 ·intro h
  rcases h with h|⟨_,h,_⟩|h
  ·exact absurd h (by intro z;cases z)
  ·exact absurd h (by intro z;cases z)
  ·injection h with h;exact h.symm
 ·intro h;exact .inr (.inr (by rw[h]))
theorem z9{ds:List D}{n:Nat}{d:D}(h:ds[n]? = some d):atI ds (n:Int)=some d:=by
 obtain⟨hl,_⟩:=Pc.mp h
 unfold atI ixN
 rw[if_pos (QG n),if_pos (by omega)]
 simpa using h
theorem wH:zK tr e M R=tr e M fun ds M1=>SzK ds.length (R (.vl ds) M1):=rfl
theorem wR:Fo ta tb e M R=ta e M fun x M1=>tb e M1 fun y M2=>zh x y M2 R:=rfl
theorem DN{tl th:DTO}:Kz ta tl th e M R=ta e M fun x M1=>tl e M1 fun l M2=>th e M2 fun u M3=>CF x l u M3 R:=rfl
theorem me{Q:Option Int→Mem→Prop}:uf e M Q=Q none M:=rfl
theorem wz{Q:Option Int→Mem→Prop}:Fi ta e M Q=ta e M fun x M1=>Fv x M1 Q:=rfl
theorem rQ{i:Int}{Q:Option Int→Mem→Prop}:Fv (.int i) M Q=Q (some i) M:=propext ⟨fun zz=>by obtain⟨_,h,r⟩:=zz;cases h;exact r,fun r=>⟨_,rfl,r⟩⟩
theorem lX{xs ys:List D}:zh (.vl xs) (.vl ys) M R=SzK (xs.length+ys.length) (R (.vl (xs++ys)) M):=propext ⟨fun zz=>by obtain⟨_,_,h,h2,z,r⟩:=zz;cases h;cases h2;exact⟨z,r⟩,fun⟨z,r⟩=>⟨_,_,rfl,rfl,z,r⟩⟩
theorem rC{xs:List D}{lo hi:Option Int}:CF (.vl xs) lo hi M R=R (.vl (aq xs lo hi)) M:=propext ⟨fun h=>by
 rcases h with⟨_,h,r⟩|⟨_,h,_⟩
 ·cases h;exact r
 ·exact(nomatch h),fun r=>.inl ⟨_,rfl,r⟩⟩
theorem rB{xs:List D}{lo hi:Option Int}:CF (.tup xs) lo hi M R=(¬ (HT.sIx xs.length 0 lo=0∧HT.sIx xs.length xs.length hi=xs.length)∧R (.tup (aq xs lo hi)) M):=propext ⟨fun h=>by
 rcases h with⟨_,h,r⟩|⟨_,h,hw,r⟩
 ·cases h
 ·cases h;exact⟨hw,r⟩,fun⟨hw,r⟩=>.inr ⟨_,rfl,hw,r⟩⟩
theorem Eh:KJ ta e M R=ta e M fun x M1=>Dm x M1 R:=rfl
theorem rZ{n:Nat}{caps:List Nat}{ti:DTI}{g:DTG}{tc:L1}{te:DTE}:qj n caps ti g tc te e M R=ti e M fun ds stay M1=>Fx (cX n caps e) g tc te ds stay M1 R:=rfl
theorem si{n:Nat}{caps:List Nat}{ti:DTI}{g:DTG}{tc:L1}{te:DTE}:qk n caps ti g tc te e M R=ti e M fun ds stay M1=>Fy (cX n caps e) g tc te ds stay M1 R:=rfl
theorem DJ{Q:Bool→Mem→Prop}:CM e M Q=Q true M:=rfl
section
variable {Q:List D→(Mem→Prop)→Mem→Prop}
theorem rJ:EW ta e M Q=ta e M fun x M1=>Iu x M1 Q:=rfl
theorem wu{ds:List D}:Iu (.tup ds) M Q=Q ds (fun M'=>A4 M' (.tup ds) ds) M:=propext ⟨fun zz=>by obtain⟨_,h,r⟩:=zz;rw[A0]at h;subst h;exact r,fun r=>⟨_,.inl rfl,r⟩⟩
theorem wt{ds:List D}:Iu (.vl ds) M Q=Q ds (fun M'=>A4 M' (.vl ds) ds) M:=propext ⟨fun zz=>by obtain⟨_,h,r⟩:=zz;rw[u9]at h;subst h;exact r,fun r=>⟨_,.inr (.inr rfl),r⟩⟩
theorem lY:zv tr e M Q=tr e M fun xs M1=>Ak xs M1 Q:=rfl
theorem rY{ds:List D}:Ak [.tup ds] M Q=Q (V4 ds) (fun M'=>A4 M' (.tup ds) ds) M:=propext ⟨fun zz=>by obtain⟨_,_,h,h2,r⟩:=zz;cases h;rw[A0]at h2;subst h2;exact r,fun r=>⟨_,_,rfl,.inl rfl,r⟩⟩
theorem rX{ds:List D}:Ak [.vl ds] M Q=Q (V4 ds) (fun M'=>A4 M' (.vl ds) ds) M:=propext ⟨fun zz=>by obtain⟨_,_,h,h2,r⟩:=zz;cases h;rw[u9]at h2;subst h2;exact r,fun r=>⟨_,_,rfl,.inr (.inr rfl),r⟩⟩
theorem rG:EU tr e M Q=tr e M fun xs M1=>Af xs M1 Q:=rfl
theorem rO{ds es:List D}:Af [.tup ds,.tup es] M Q=Q (bu ds es) (fun M'=>A4 M' (.tup ds) ds∧A4 M' (.tup es) es) M:=propext ⟨fun zz=>by obtain⟨_,_,_,_,h,h2,h3,r⟩:=zz;cases h;rw[A0]at h2 h3;subst h2;subst h3;exact r,fun r=>⟨_,_,_,_,rfl,.inl rfl,.inl rfl,r⟩⟩
theorem rL{ds es:List D}:Af [.vl ds,.vl es] M Q=Q (bu ds es) (fun M'=>A4 M' (.vl ds) ds∧A4 M' (.vl es) es) M:=propext ⟨fun zz=>by obtain⟨_,_,_,_,h,h2,h3,r⟩:=zz;cases h;rw[u9]at h2 h3;subst h2;subst h3;exact r,fun r=>⟨_,_,_,_,rfl,.inr (.inr rfl),.inr (.inr rfl),r⟩⟩
theorem rN{ds es:List D}:Af [.tup ds,.vl es] M Q=Q (bu ds es) (fun M'=>A4 M' (.tup ds) ds∧A4 M' (.vl es) es) M:=propext ⟨fun zz=>by obtain⟨_,_,_,_,h,h2,h3,r⟩:=zz;cases h;rw[A0]at h2;rw[u9]at h3;subst h2;subst h3;exact r,fun r=>⟨_,_,_,_,rfl,.inl rfl,.inr (.inr rfl),r⟩⟩
theorem rM{ds es:List D}:Af [.vl ds,.tup es] M Q=Q (bu ds es) (fun M'=>A4 M' (.vl ds) ds∧A4 M' (.tup es) es) M:=propext ⟨fun zz=>by obtain⟨_,_,_,_,h,h2,h3,r⟩:=zz;cases h;rw[u9]at h2;rw[A0]at h3;subst h2;subst h3;exact r,fun r=>⟨_,_,_,_,rfl,.inr (.inr rfl),.inl rfl,r⟩⟩
theorem rK:EY tr e M Q=tr e M fun xs M1=>Lf xs M1 Q:=rfl
theorem wx{j:Int}:Lf [.int j] M Q=((-(2 ^ 62)≤j∧j<2 ^ 62)∧Q (U6 0 j.toNat) (fun _=>True) M):=propext ⟨fun zz=>by obtain⟨_,h,a,b,r⟩:=zz;cases h;exact⟨⟨a,b⟩,r⟩,fun⟨⟨a,b⟩,r⟩=>⟨_,rfl,a,b,r⟩⟩
end
theorem Ei{ti:DTI}{g:DTG}:KN ti g t F e M=ti e M fun ds stay M1=>cZ g t F ds stay e M1:=rfl
theorem cZ.by{g:DTG}{ds:List D}{stay:Mem→Prop}{M1:Mem}(W:Nat→Ev→Mem→Prop)(w0:W 0 e M1)(st:∀ i e M,i≤ds.length→W i e M→stay M)
  (turn:∀(i:Nat) (d:D) e M,ds[i]? = some d→W i e M→g d e M fun e2 M2=>t { F with nx:=W (i+1),ct:=W (i+1),bk:=F.nx } e2 M2) (done:∀ e M,W ds.length e M→F.nx e M):cZ g t F ds stay e M1:=⟨W,w0,st,turn,done⟩
theorem uo{F:W2}(W:Nat→Ev→Mem→Prop)(m:Nat)(w0:W m e M)(turn:∀ m e M,W m e M→tA e M fun b M1=>IfK b (t { F with nx:=fun e' M'=>∃ m',m'<m∧W m' e' M',ct:=fun e' M'=>∃ m',m'<m∧W m' e' M',bk:=F.nx } e M1) (F.nx e M1)):zF tA t F e M:=⟨W,⟨m,w0⟩,turn⟩
theorem W1{F:W2}(P:Ev→Mem→Prop)(h1:t { F with nx:=P } e M)(h2:∀ e' M',P e' M'→u F e' M'):Fg t u F e M:=⟨P,h1,h2⟩
theorem Jj{g:DRM}:dLM g ta tr e M R=ta e M fun x M1=>LMK x M1 (tr e M1 fun xs M2=>g x xs M2 R):=rfl
theorem en{x0:D}{r:List D}:gIx (.tup (x0 :: r)) (.int 0) M R=R x0 M:=Y3 (z9 (n:=0) rfl)
theorem vT{x0:D}{r:List D}:gIx (.vl (x0 :: r)) (.int 0) M R=R x0 M:=Y3 (z9 (n:=0) rfl)
theorem el{x0 x1:D}{r:List D}:gIx (.tup (x0 :: x1 :: r)) (.int 1) M R=R x1 M:=Y3 (z9 (n:=1) rfl)
theorem vS{x0 x1:D}{r:List D}:gIx (.vl (x0 :: x1 :: r)) (.int 1) M R=R x1 M:=Y3 (z9 (n:=1) rfl)
theorem oA{x0 x1 x2:D}{r:List D}:gIx (.tup (x0 :: x1 :: x2 :: r)) (.int 2) M R=R x2 M:=Y3 (z9 (n:=2) rfl)
theorem vR{x0 x1 x2:D}{r:List D}:gIx (.vl (x0 :: x1 :: x2 :: r)) (.int 2) M R=R x2 M:=Y3 (z9 (n:=2) rfl)
theorem vY{x0 x1 x2 x3:D}{r:List D}:gIx (.tup (x0 :: x1 :: x2 :: x3 :: r)) (.int 3) M R=R x3 M:=Y3 (z9 (n:=3) rfl)
theorem vQ{x0 x1 x2 x3:D}{r:List D}:gIx (.vl (x0 :: x1 :: x2 :: x3 :: r)) (.int 3) M R=R x3 M:=Y3 (z9 (n:=3) rfl)
theorem vX{x0 x1 x2 x3 x4:D}{r:List D}:gIx (.tup (x0 :: x1 :: x2 :: x3 :: x4 :: r)) (.int 4) M R=R x4 M:=Y3 (z9 (n:=4) rfl)
theorem vP{x0 x1 x2 x3 x4:D}{r:List D}:gIx (.vl (x0 :: x1 :: x2 :: x3 :: x4 :: r)) (.int 4) M R=R x4 M:=Y3 (z9 (n:=4) rfl)
theorem vW{x0 x1 x2 x3 x4 x5:D}{r:List D}:gIx (.tup (x0 :: x1 :: x2 :: x3 :: x4 :: x5 :: r)) (.int 5) M R=R x5 M:=Y3 (z9 (n:=5) rfl)
theorem vO{x0 x1 x2 x3 x4 x5:D}{r:List D}:gIx (.vl (x0 :: x1 :: x2 :: x3 :: x4 :: x5 :: r)) (.int 5) M R=R x5 M:=Y3 (z9 (n:=5) rfl)
theorem vV{x0 x1 x2 x3 x4 x5 x6:D}{r:List D}:gIx (.tup (x0 :: x1 :: x2 :: x3 :: x4 :: x5 :: x6 :: r)) (.int 6) M R=R x6 M:=Y3 (z9 (n:=6) rfl)
theorem vN{x0 x1 x2 x3 x4 x5 x6:D}{r:List D}:gIx (.vl (x0 :: x1 :: x2 :: x3 :: x4 :: x5 :: x6 :: r)) (.int 6) M R=R x6 M:=Y3 (z9 (n:=6) rfl)
theorem vU{x0 x1 x2 x3 x4 x5 x6 x7:D}{r:List D}:gIx (.tup (x0 :: x1 :: x2 :: x3 :: x4 :: x5 :: x6 :: x7 :: r)) (.int 7) M R=R x7 M:=Y3 (z9 (n:=7) rfl)
theorem vM{x0 x1 x2 x3 x4 x5 x6 x7:D}{r:List D}:gIx (.vl (x0 :: x1 :: x2 :: x3 :: x4 :: x5 :: x6 :: x7 :: r)) (.int 7) M R=R x7 M:=Y3 (z9 (n:=7) rfl)
theorem DE{A:Prop}:SzK (0) A=A:=v9 (by decide)
theorem DD{A:Prop}:SzK (0+1) A=A:=v9 (by decide)
theorem DC{A:Prop}:SzK (0+1+1) A=A:=v9 (by decide)
theorem DB{A:Prop}:SzK (0+1+1+1) A=A:=v9 (by decide)
theorem DA{A:Prop}:SzK (0+1+1+1+1) A=A:=v9 (by decide)
theorem Dz{A:Prop}:SzK (0+1+1+1+1+1) A=A:=v9 (by decide)
theorem Dy{A:Prop}:SzK (0+1+1+1+1+1+1) A=A:=v9 (by decide)
theorem Dx{A:Prop}:SzK (0+1+1+1+1+1+1+1) A=A:=v9 (by decide)
theorem Dw{A:Prop}:SzK (0+1+1+1+1+1+1+1+1) A=A:=v9 (by decide)
theorem Dv{A:Prop}:SzK (0+1+1+1+1+1+1+1+1+1) A=A:=v9 (by decide)
theorem Be{i:Int}:cl 60 (.int i)=true:=rfl
theorem AY:cl 60 .non=true:=rfl
theorem AM{ds:List D}:cl 60 (.tup ds)=clL 59 ds:=rfl
theorem AG{ds:List D}:cl 60 (.vl ds)=clL 59 ds:=rfl
theorem As:clL 59 []=true:=rfl
theorem Az{d:D}{r:List D}:clL 59 (d :: r)=(cl 59 d && clL 59 r):=rfl
theorem Bf{i:Int}:cl 59 (.int i)=true:=rfl
theorem AZ:cl 59 .non=true:=rfl
theorem AN{ds:List D}:cl 59 (.tup ds)=clL 58 ds:=rfl
theorem AH{ds:List D}:cl 59 (.vl ds)=clL 58 ds:=rfl
theorem Au:clL 58 []=true:=rfl
theorem AA{d:D}{r:List D}:clL 58 (d :: r)=(cl 58 d && clL 58 r):=rfl
theorem Bg{i:Int}:cl 58 (.int i)=true:=rfl
theorem Ba:cl 58 .non=true:=rfl
theorem AO{ds:List D}:cl 58 (.tup ds)=clL 57 ds:=rfl
theorem AI{ds:List D}:cl 58 (.vl ds)=clL 57 ds:=rfl
theorem Av:clL 57 []=true:=rfl
theorem AB{d:D}{r:List D}:clL 57 (d :: r)=(cl 57 d && clL 57 r):=rfl
theorem Bh{i:Int}:cl 57 (.int i)=true:=rfl
theorem Bb:cl 57 .non=true:=rfl
theorem AQ{ds:List D}:cl 57 (.tup ds)=clL 56 ds:=rfl
theorem AJ{ds:List D}:cl 57 (.vl ds)=clL 56 ds:=rfl
theorem Aw:clL 56 []=true:=rfl
theorem AD{d:D}{r:List D}:clL 56 (d :: r)=(cl 56 d && clL 56 r):=rfl
theorem Bi{i:Int}:cl 56 (.int i)=true:=rfl
theorem Bc:cl 56 .non=true:=rfl
theorem AR{ds:List D}:cl 56 (.tup ds)=clL 55 ds:=rfl
theorem AK{ds:List D}:cl 56 (.vl ds)=clL 55 ds:=rfl
theorem Ax:clL 55 []=true:=rfl
theorem AE{d:D}{r:List D}:clL 55 (d :: r)=(cl 55 d && clL 55 r):=rfl
theorem Bj{i:Int}:cl 55 (.int i)=true:=rfl
theorem Bd:cl 55 .non=true:=rfl
theorem AS{ds:List D}:cl 55 (.tup ds)=clL 54 ds:=rfl
theorem AL{ds:List D}:cl 55 (.vl ds)=clL 54 ds:=rfl
theorem Ay:clL 54 []=true:=rfl
theorem AF{d:D}{r:List D}:clL 54 (d :: r)=(cl 54 d && clL 54 r):=rfl
theorem wI{xs:List D}:uX [.vl xs] M R=R (.int (xs.length:Int)) M:=rS rfl
theorem wJ{xs:List D}:uX [.tup xs] M R=R (.int (xs.length:Int)) M:=rS rfl
theorem FL{A:Prop}:SzK 1 A=A:=v9 (by decide)
theorem FK{A:Prop}:SzK 2 A=A:=v9 (by decide)
theorem FJ{A:Prop}:SzK 3 A=A:=v9 (by decide)
theorem FI{A:Prop}:SzK 4 A=A:=v9 (by decide)
theorem FH{A:Prop}:SzK 5 A=A:=v9 (by decide)
theorem FG{A:Prop}:SzK 6 A=A:=v9 (by decide)
theorem FF{A:Prop}:SzK 7 A=A:=v9 (by decide)
theorem FE{A:Prop}:SzK 8 A=A:=v9 (by decide)
theorem FD{A:Prop}:SzK 9 A=A:=v9 (by decide)
theorem Ar{A:Prop}:SzK 10 A=A:=v9 (by decide)
theorem Aq{A:Prop}:SzK 11 A=A:=v9 (by decide)
theorem Ap{A:Prop}:SzK 12 A=A:=v9 (by decide)
theorem oF{bs:List Bool}:HM [.vl (bs.map D.bl)] M R=R (.bl (bs.any id)) M:=propext ⟨fun zz=>by
 obtain⟨_,bs',e,h,r⟩:=zz
 cases e
 have e2:bs.map D.bl=bs'.map D.bl:=Option.some.inj h
 have e3:bs=bs':=(QH (fun a b z=>by injection z)).mp e2
 subst e3;exact r,fun r=>⟨_,bs,rfl,rfl,r⟩⟩
theorem rm{ds:List D}:G8 [.tup ds,.tup [.ty "tuple",.ty "list"]] M R=R (.bl true) M:=D8 rfl rfl
theorem rk{ds:List D}:G8 [.vl ds,.tup [.ty "tuple",.ty "list"]] M R=R (.bl true) M:=D8 rfl rfl
theorem rq{i:Int}:G8 [.int i,.tup [.ty "tuple",.ty "list"]] M R=R (.bl false) M:=D8 rfl rfl
theorem rp:G8 [.non,.tup [.ty "tuple",.ty "list"]] M R=R (.bl false) M:=D8 rfl rfl
theorem rn{x:Str}:G8 [.str x,.tup [.ty "tuple",.ty "list"]] M R=R (.bl false) M:=D8 rfl rfl
theorem rA{b:Bool}:G8 [.bl b,.tup [.ty "tuple",.ty "list"]] M R=R (.bl false) M:=D8 rfl rfl
theorem cF:A7 [.dic,.ty "tuple"] M R=R (.bl false) M:=u3 rfl rfl
theorem eG:A7 [.dic,.ty "list"] M R=R (.bl false) M:=u3 rfl rfl
theorem iQ:A7 [.dic,.ty "int"] M R=R (.bl false) M:=u3 rfl rfl
theorem eI:A7 [.dic,.ty "bool"] M R=R (.bl false) M:=u3 rfl rfl
theorem iP:A7 [.dic,.ty "str"] M R=R (.bl false) M:=u3 rfl rfl
theorem rz:G8 [.dic,.tup [.ty "tuple",.ty "list"]] M R=R (.bl false) M:=D8 rfl rfl
theorem qZ{ds:List D}:G8 [.tup ds,.tup [.ty "list",.ty "tuple"]] M R=R (.bl true) M:=D8 rfl rfl
theorem qY{ds:List D}:G8 [.vl ds,.tup [.ty "list",.ty "tuple"]] M R=R (.bl true) M:=D8 rfl rfl
theorem rg{i:Int}:G8 [.int i,.tup [.ty "list",.ty "tuple"]] M R=R (.bl false) M:=D8 rfl rfl
theorem rf:G8 [.non,.tup [.ty "list",.ty "tuple"]] M R=R (.bl false) M:=D8 rfl rfl
theorem rd{x:Str}:G8 [.str x,.tup [.ty "list",.ty "tuple"]] M R=R (.bl false) M:=D8 rfl rfl
theorem rj{b:Bool}:G8 [.bl b,.tup [.ty "list",.ty "tuple"]] M R=R (.bl false) M:=D8 rfl rfl
theorem rh:G8 [.dic,.tup [.ty "list",.ty "tuple"]] M R=R (.bl false) M:=D8 rfl rfl
def Ag(x:D)(A:Prop):Prop:=∃ sk,x = .str sk∧A
theorem wo{x:Str}{A:Prop}:Ag (.str x) A=A:=propext ⟨fun⟨_,_,a⟩=>a,fun a=>⟨_,rfl,a⟩⟩
theorem cB{ds:List D}:A7 [.tup ds,.ty "tuple"] M R=R (.bl true) M:=u3 rfl rfl
theorem et{ds:List D}:A7 [.tup ds,.ty "list"] M R=R (.bl false) M:=u3 rfl rfl
theorem iG{ds:List D}:A7 [.tup ds,.ty "int"] M R=R (.bl false) M:=u3 rfl rfl
theorem eu{ds:List D}:A7 [.tup ds,.ty "bool"] M R=R (.bl false) M:=u3 rfl rfl
theorem iF{ds:List D}:A7 [.tup ds,.ty "str"] M R=R (.bl false) M:=u3 rfl rfl
theorem cA{ds:List D}:A7 [.vl ds,.ty "tuple"] M R=R (.bl false) M:=u3 rfl rfl
theorem eo{ds:List D}:A7 [.vl ds,.ty "list"] M R=R (.bl true) M:=u3 rfl rfl
theorem iE{ds:List D}:A7 [.vl ds,.ty "int"] M R=R (.bl false) M:=u3 rfl rfl
theorem er{ds:List D}:A7 [.vl ds,.ty "bool"] M R=R (.bl false) M:=u3 rfl rfl
theorem iD{ds:List D}:A7 [.vl ds,.ty "str"] M R=R (.bl false) M:=u3 rfl rfl
theorem cE{i:Int}:A7 [.int i,.ty "tuple"] M R=R (.bl false) M:=u3 rfl rfl
theorem eD{i:Int}:A7 [.int i,.ty "list"] M R=R (.bl false) M:=u3 rfl rfl
theorem iN{i:Int}:A7 [.int i,.ty "int"] M R=R (.bl true) M:=u3 rfl rfl
theorem eF{i:Int}:A7 [.int i,.ty "bool"] M R=R (.bl false) M:=u3 rfl rfl
theorem iM{i:Int}:A7 [.int i,.ty "str"] M R=R (.bl false) M:=u3 rfl rfl
theorem cD:A7 [.non,.ty "tuple"] M R=R (.bl false) M:=u3 rfl rfl
theorem eB:A7 [.non,.ty "list"] M R=R (.bl false) M:=u3 rfl rfl
theorem iL:A7 [.non,.ty "int"] M R=R (.bl false) M:=u3 rfl rfl
theorem eC:A7 [.non,.ty "bool"] M R=R (.bl false) M:=u3 rfl rfl
theorem iK:A7 [.non,.ty "str"] M R=R (.bl false) M:=u3 rfl rfl
theorem cC{x:Str}:A7 [.str x,.ty "tuple"] M R=R (.bl false) M:=u3 rfl rfl
theorem ey{x:Str}:A7 [.str x,.ty "list"] M R=R (.bl false) M:=u3 rfl rfl
theorem iJ{x:Str}:A7 [.str x,.ty "int"] M R=R (.bl false) M:=u3 rfl rfl
theorem eA{x:Str}:A7 [.str x,.ty "bool"] M R=R (.bl false) M:=u3 rfl rfl
theorem iH{x:Str}:A7 [.str x,.ty "str"] M R=R (.bl true) M:=u3 rfl rfl
theorem cG{b:Bool}:A7 [.bl b,.ty "tuple"] M R=R (.bl false) M:=u3 rfl rfl
theorem eJ{b:Bool}:A7 [.bl b,.ty "list"] M R=R (.bl false) M:=u3 rfl rfl
theorem iS{b:Bool}:A7 [.bl b,.ty "int"] M R=R (.bl true) M:=u3 rfl rfl
theorem eK{b:Bool}:A7 [.bl b,.ty "bool"] M R=R (.bl true) M:=u3 rfl rfl
theorem iR{b:Bool}:A7 [.bl b,.ty "str"] M R=R (.bl false) M:=u3 rfl rfl
theorem Ek:KP ta e M R=ta e M fun x M1=>Li x M1 R:=rfl
theorem gg{l:Addr}{ds:List D}{A:Prop}(h:M l=some (.lst ds))(a:A):LMK (.ref l) M A:=⟨⟨l,ds,rfl,h⟩,a⟩
theorem lq{l:Addr}{ds:List D}{v:D}(h:M l=some (.lst ds))(hz:ds.length<1000)(r:R .non (q9 M l (.lst (ds++[v])))):kN (.ref l) [v] M R:=⟨l,ds,v,rfl,rfl,h,OV hz (by decide),r⟩
theorem kH{α:Type}{xs ys:List α}(h:xs.map some=ys.map some):xs=ys:=(QH (fun a b z=>Option.some.inj z)).mp h
theorem tK(a b c:Str):inV (.str a) [.str b,.str c]=(b == a || c == a):=by
 show((b == a) || ((c == a) || false))=_
 rw[Sg]
theorem Ea{neg:Bool}{a b c:Str}:gIn neg (.str a) (.vl [.str b,.str c]) M R=R (.bl (if neg then !(b == a || c == a)else(b == a || c == a))) M:=propext ⟨fun zz=>by
 obtain⟨v,ds,ws,e1,sq,e2,r⟩:=zz
 cases e1
 rw[u9]at sq
 subst sq
 have e3:ws=[.str b,.str c]:=(kH (xs:=[V.str b,V.str c]) e2).symm
 subst e3
 rw[tK]at r;exact r,fun r=>⟨.str a,_,[.str b,.str c],rfl,.inr (.inr rfl),rfl,by rw[tK];exact r⟩⟩
theorem aw{p:Addr}{ds:List D}(h:M p=none)(r:R (.vl ds) M):Dm (.ref p) (q9 M p (.lst ds)) R:=⟨p,ds,rfl,h8,by rw[nP h];exact r⟩
theorem qw{x:D}{M1 M2:Mem}(h:∀ b o,M2 b=some o→M1 b=some o)(r:R x M2):Li x M1 R:=⟨M2,h,r⟩
theorem Dr{l:Addr}{ds:List D}{v:D}(h:M l=some (.lst ds))(hz:ds.length<100000)(r:R .non (q9 M l (.lst (ds++[v])))):kN (.ref l) [v] M R:=⟨l,ds,v,rfl,rfl,h,OV hz (show 100000≤sizeLine by decide),r⟩
theorem rP{x:Str}{Y:DXK}{te:DTE}{F:W2}:zG x Y te F e M=te e M fun _ M1=>Y (xN x) M1:=rfl
theorem sj{sp:DSp}{Y:DXK}:zO sp Y tr e M R=tr e M fun ds M1=>sp (ds++[]) M1 R Y:=rfl
end
theorem G3{p:Str→Prop}:∀ x∈([]:List Str),p x:=fun _ h=>nomatch h
section
variable {e0:Ev} {g:DTG} {te:DTE} {tc:L1} {ds:List D} {stay:Mem→Prop} {M1:Mem} {E:List D→Mem→Prop}
theorem J5{α:Type}{xs:List α}{enc:α→D}(f:α→D)(hn:xs.length≤1000)(hst:stay M1)(step:∀ x∈xs,∀ Q:DK,Q (f x) M1→g (enc x) e0 M1 fun e2 M2=>te e2 M2 Q)(h:E (xs.map f) M1):∃ W,gi e0 g CM te (xs.map enc) stay M1 E W:=by
 refine⟨fun i ys M=>M=M1∧ys=(xs.take i).map f,⟨⟨rfl,rfl⟩,fun i ys M _ w=>by rw[w.1];exact hst,fun i d ys M hd w=>?_,fun ys M w=>?_⟩⟩
 ·obtain⟨rfl,rfl⟩:=w
  rw[Py]at hd
  cases hx:xs[i]? with
  | none=>rw[hx]at hd;cases hd
  | some x =>
   rw[hx]at hd
   obtain rfl:enc x=d:=by simpa using hd
   refine step x (Pn hx) _ ⟨?_,rfl,?_⟩
   ·rw[OU,PC]
    exact QF (Pa (Ry _ _) hn) (by decide)
   ·obtain⟨hl,he⟩:=Pc.mp hx
    rw[Pw hl,Pt,he];rfl
 ·obtain⟨rfl,rfl⟩:=w
  rw[OU,PX];exact h
theorem kT{α:Type}{xs:List α}{enc:α→D}(p:α→Bool)(f:α→D)(hn:xs.length≤1000)(hst:stay M1)
  (step:∀ x∈xs,∀(Q:DK) (N:Prop),(p x=true→Q (f x) M1)→(p x=false→N)→g (enc x) e0 M1 fun e2 M2=>tc e2 M2 fun b M3=>IfK b (te e2 M3 Q) (M3=M1∧N)) (h:E ((xs.filter p).map f) M1):∃ W,gi e0 g tc te (xs.map enc) stay M1 E W:=by
 refine⟨fun i ys M=>M=M1∧ys=((xs.take i).filter p).map f,⟨⟨rfl,rfl⟩,fun i ys M _ w=>by rw[w.1];exact hst,fun i d ys M hd w=>?_,fun ys M w=>?_⟩⟩
 ·obtain⟨rfl,rfl⟩:=w
  rw[Py]at hd
  cases hx:xs[i]? with
  | none=>rw[hx]at hd;cases hd
  | some x =>
   rw[hx]at hd
   obtain rfl:enc x=d:=by simpa using hd
   obtain⟨hl,he⟩:=Pc.mp hx
   have hle:(((xs.take i).filter p).map f).length<sizeLine:=by
    rw[OU]
    have h1:=Px p (xs.take i)
    rw[PC]at h1
    exact QF (Pa h1 (Pa (Ry _ _) hn)) (by decide)
   have hs:=step x (Pn hx) (fun v M4=>(((xs.take i).filter p).map f).length<sizeLine∧M4=M∧((xs.take i).filter p).map f++[v]=((xs.take (i+1)).filter p).map f) (((xs.take i).filter p).map f=((xs.take (i+1)).filter p).map f)
    (fun hp=>⟨hle,rfl,by rw[Pw hl,Sh,Pt,he];simp[hp]⟩)
    (fun hp=>by rw[Pw hl,Sh,Pt,he];simp[hp])
   exact hs
 ·obtain⟨rfl,rfl⟩:=w
  rw[OU,PX];exact h
theorem gc{α:Type}(enc:α→D)(ok:α→Prop)(St:Mem→Mem→Prop)(n:Nat)(hl:ds.length=n)(hn:n≤1000)(hst:∀ M,St M1 M→stay M)(s0:St M1 M1)
  (step:∀ d∈ds,∀ M,St M1 M→∀ Q:DK,(∀ x M',ok x→St M1 M'→Q (enc x) M')→g d e0 M fun e2 M2=>te e2 M2 Q) (h:∀(xs:List α) M,xs.length=n→(∀ x∈xs,ok x)→St M1 M→E (xs.map enc) M):∃ W,gi e0 g CM te ds stay M1 E W:=by
 refine⟨fun i ys M=>St M1 M∧∃ xs:List α,xs.length=i∧(∀ x∈xs,ok x)∧ys=xs.map enc,⟨⟨s0,[],rfl,(fun _ z=>nomatch z),rfl⟩,fun i ys M _ w=>hst M w.1,fun i d ys M hd w=>?_,fun ys M w=>?_⟩⟩
 ·obtain⟨sM,xs,hl,hok,rfl⟩:=w
  have hi:i<ds.length:=(Pc.mp hd).1
  refine step d (Pn hd) M sM _ fun x M' hx sM'=>⟨?_,sM',xs++[x],by simp[hl],fun z hz=>?_,by simp⟩
  ·rw[OU,hl];exact OV (OV hi (by omega)) (show 1000≤sizeLine by decide)
  ·rcases Pq.mp hz with z1|z1
   ·exact hok z z1
   ·rw[PB.mp z1];exact hx
 ·obtain⟨sM,xs,hl,hok,rfl⟩:=w
  exact h xs M (by omega) hok sM
end
section
variable {X:Cx} {pos:Pos}
theorem jc{x:Str}{j k:Nat}{ps:List Str}{sp:DSp}{p:Pos}{e:Expr}{es:List Expr}{t:DTA}(G:Fn X.prog X.w X.K X.mg X.base x j ps sp)(hr:B6 k X.A)(ha:JA X (e :: es) t)(hk:j≤k:=by decide)(hg:Gl X x:=by rfl)
  (hdb:(x == ("__debug__" : Str))=false:=by decide) (he:starEach (e :: es) X.env=(false,eval e X.env) :: starEach es X.env:=by rfl) (hpl:(backTo pos (starEach es X.env)).any (·.1)=false:=by rfl):JE X (.Call (.Name x p) (e :: es) [] pos) (ug sp [] Y0 t):=yM G (hr.mono hk) hg ha hdb he hpl
theorem jx{a b:Expr}{ta tb:DTE}(ha:JE X a ta)(hb:JE X b tb)(hs:dZ b:=by exact fun _ _=>rfl):JE X (.Subscript a b pos) (dOp gIx ta tb):=Ki Ko ha hb hs
theorem jst(i:Nat){x:Str}{e:Expr}{tx:DTE}{q:Pos}(hN:X.N.Nodup)(he:JE X e tx)(hi:X.N[i]? = some x:=by rfl)(hx:Loc X.env.scope x:=by first|exact .inl rfl|exact .inr rfl)(hs:swapsWith e (some (.Name x q)) pos.line X.env=pure false:=by rfl)
  (hf:X.fn x=true∨X.env.scope.names.lookup x=some .local:=by first|exact .inl rfl|exact .inr rfl|assumption):JS X (.Assign [.Name x q] e pos) (vc tx (ao i)):=Cv hN hi hx he hs hf
theorem jn(i:Nat){x:Str}(hN:X.N.Nodup)(hi:X.N[i]? = some x:=by rfl)(hx:Loc X.env.scope x:=by first|exact .inl rfl|exact .inr rfl)(hf:X.fn x=true∨X.env.scope.names.lookup x=some .local:=by first|exact .inl rfl|exact .inr rfl|assumption):JG X (.Name x pos) (ao i):=yH hN hi hx hf
theorem jm{op:CmpOp}{g:DR2}{a b:Expr}{ta tb:DTE}(ho:DOp X (compareOp op) g)(ha:JE X a ta)(hb:JE X b tb)(hm:behindInMarks op b=false:=by first|exact yz _|with_unfolding_all rfl):JE X (.Compare a [op] [b] pos) (dOp g ta tb):=HE ho ha hb hm
theorem jtm{op:CmpOp}{g:DR2}{a b:Expr}{ta tb:DTE}(ho:DOp X (compareOp op) g)(ha:JE X a ta)(hb:JE X b tb)(hm:behindInMarks op b=false:=by first|exact yz _|with_unfolding_all rfl):JT X (.Compare a [op] [b] pos) (nQ (dOp g ta tb)):=Cw ho ha hb hm
end
end DL
namespace GM
open PySem PySem.Spec L2 DL
open PyProof.Rows hiding St
noncomputable def e8(q:Rat):D:=.tup [.int q.num,.int (q.den:Int)]
theorem U5{q r:Rat}(h:e8 q=e8 r):q=r:=by
 unfold e8 at h
 injection h with h
 injection h with h1 h2
 injection h1 with h1
 injection h2 with h2 _
 injection h2 with h2
 exact Rat.ext h1 (by omega)
theorem g8{q r:Rat}:e8 q=e8 r↔q=r:=⟨U5,fun h=>by rw[h]⟩
structure B7(M:Mem)(p:Addr):Prop where
 ex:∃ x y z:Int,M p=some (.lst [.int x,.int y,.int z])
def MK(M M':Mem):Prop:=∀ b o,M b=some o→M' b=some o
theorem MK.refl(M:Mem):MK M M:=fun _ _ h=>h
theorem MK.trans{M M1 M2:Mem}(a:MK M M1)(b:MK M1 M2):MK M M2:=fun c o h=>b c o (a c o h)
theorem MK.new{M:Mem}{p:Addr}{o:MO}(h:M p=none):MK M (q9 M p o):=fun b u e=>by
 have:b≠p:=by intro z;subst z;rw[h]at e;cases e
 rw[j5 this];exact e
theorem MK.pool{M M':Mem}(k:MK M M'){p:Addr}(h:B7 M p):B7 M' p:=let ⟨x,y,z,e⟩:=h.ex;⟨x,y,z,k _ _ e⟩
structure A2(p:Addr)(M M':Mem):Prop where
 keep:∀ b o,b≠p→M b=some o→M' b=some o
 pool:B7 M' p
theorem A2.refl{p:Addr}{M:Mem}(h:B7 M p):A2 p M M:=⟨fun _ _ _ h=>h,h⟩
theorem A2.trans{p:Addr}{M M1 M2:Mem}(a:A2 p M M1)(b:A2 p M1 M2):A2 p M M2:=⟨fun c o n h=>b.keep c o n (a.keep c o n h),b.pool⟩
theorem A2.upd{p:Addr}{M:Mem}(x y z:Int):A2 p M (q9 M p (.lst [.int x,.int y,.int z])):=⟨fun b o n h=>by rw[j5 n];exact h,⟨x,y,z,h8⟩⟩
theorem B7.ne{M:Mem}{p l:Addr}(h:B7 M p)(hl:M l=none):l≠p:=by
 intro e;subst e;obtain⟨x,y,z,q⟩:=h.ex;rw[hl]at q;cases q
def oN:DSp:=fun ds M R _=>∃ c:Int,ds=[.int c]∧∀ p M',M p=none→MK M M'→B7 M' p→R (.ref p) M'
def bF:DSp:=fun ds M R _=>∃(p:Addr) (b:Int),ds=[.ref p,.int b]∧B7 M p∧0<b∧b.natAbs.log2<9000∧∀(r:Int) M',0≤r→r<b→A2 p M M'→R (.int r) M'
def Y7:DSp:=fun ds M R _=>∃ a b:Int,ds=[.int a,.int b]∧b≠0∧b.natAbs.log2<9000∧R (e8 (QE a b)) M
def aC:DSp:=fun ds M R _=>∃ p:Addr,ds=[.ref p]∧B7 M p∧∀(q:Rat) M',RM.sz q≤41→A2 p M M'→R (e8 q) M'
theorem KR:Am 10 18:=⟨by decide,by decide,by decide⟩
theorem KS:Am 10 12:=⟨by decide,by decide,by decide⟩
theorem Hq{a b:Int}(h1:-(2 ^ 64)<a)(h2:a<2 ^ 64):IntMulOk a b:=.of_left (intBits_le_64 h1 h2)
theorem LI{x m k b:Int}(hm:0<m)(hm2:m<2 ^ 60)(hk:0≤k)(hk2:k<2 ^ 60):IntMulOk (x % m+k) b:=by
 have h1:=QY x (show m≠0 by omega)
 have h2:=QI x hm
 exact Hq (by omega) (by omega)
theorem Kf{x m b:Int}(hm:0<m)(hm2:m<2 ^ 60):IntMulOk (x % m) b:=by
 have h1:=QY x (show m≠0 by omega)
 have h2:=QI x hm
 exact Hq (by omega) (by omega)
theorem LU{i:Int}:CFd i 8:=⟨by decide,by decide⟩
theorem tO{a b:Int}(hb:b≠0)(h:b.natAbs.log2<9000):((PN a.natAbs b.natAbs:Nat):Int).natAbs.log2<9000:=by
 have hp:0<b.natAbs:=SQ.mpr hb
 have hle:PN a.natAbs b.natAbs≤b.natAbs:=Nat.gcd_le_right _ hp
 have h1:b.natAbs<2 ^ 9000:=(RX (by omega)).mp h
 rw[OZ]
 exact ai (QF hle h1) (by decide)
theorem yX{a b:Int}(hb:b≠0):((PN a.natAbs b.natAbs:Nat):Int)≠0:=by
 have hp:0<b.natAbs:=SQ.mpr hb
 have:=Nat.gcd_pos_of_pos_right a.natAbs hp
 omega
theorem kI{a b s:Int}(hb:b≠0)(hs:s=if b<0 then -((PN a.natAbs b.natAbs:Nat):Int)else((PN a.natAbs b.natAbs:Nat):Int)){M:Mem}{R:DK}(k:R (e8 (QE a b)) M) :
  R (.tup [.int (a.fdiv s),.int (b.fdiv s)]) M:=by
 obtain⟨h1,h2⟩:=RM.Hr a b hb s hs
 rw[h1,h2];exact k
theorem pW{a b:Int}{n:Nat}(hn:0<n)(h1:a.natAbs<2 ^ n)(h2:b.natAbs<2 ^ n)(hb:b≠0):RM.sz (QE a b)≤n :=
 Pa (RM.J4 a b hb) (QU.mpr ⟨RM.V6 h1 hn,RM.V6 h2 hn⟩)
theorem FX{q:Rat}{n:Nat}(h:RM.sz q≤n):q.num.natAbs.log2<n∧q.den.log2<n:=by
 have h1:=RM.L4 q
 have h2:=RM.E2 q
 unfold RM.bl at h1 h2
 omega
end GM
namespace GM
open PySem PySem.Spec L2 DL
def sE:DSp:=fun ds _ R _=>∃ ns:List Int,ds=[.vl (ns.map D.int)]∧ns.length≤63∧∀ M',R (.bl true) M'
end GM
namespace GM
open PySem PySem.Spec L2 DL
open RM (sz)
def W5:DSp:=fun ds M R _=>∃ a b:Nat,ds=[.int (a:Int),.int (b:Int)]∧R (.int ((PN a b:Nat):Int)) M
def cH:DSp:=fun ds M R _=>∃ q:Rat,ds=[e8 q]∧R (e8 (-q)) M
def O4:DSp:=fun ds M R _=>∃ q r:Rat,ds=[e8 q,e8 r]∧sz q+sz r≤8900∧R (e8 (q+r)) M
def F7:DSp:=fun ds M R _=>∃ q r:Rat,ds=[e8 q,e8 r]∧sz q+sz r≤8900∧R (e8 (q - r)) M
def O3:DSp:=fun ds M R _=>∃ q r:Rat,ds=[e8 q,e8 r]∧sz q+sz r≤8900∧R (e8 (q*r)) M
def S9:DSp:=fun ds M R _=>∃ q r:Rat,ds=[e8 q,e8 r]∧r≠0∧sz q+sz r≤8900∧R (e8 (q / r)) M
def bG:DSp:=fun ds M R _=>∃ q r:Rat,ds=[e8 q,e8 r]∧sz q+sz r≤8900∧R (.bl (decide (q<r))) M
theorem kG(q:Rat):q.num.natAbs<2 ^ sz q:=OV (RM.bf _) (Pp (by decide) (RM.L4 q))
theorem kQ(q:Rat):((q.den:Int)).natAbs<2 ^ sz q:=by rw[OZ];exact OV (RM.bf _) (Pp (by decide) (RM.E2 q))
theorem mNN{q r:Rat}(h:sz q+sz r≤8900):IntMulOk q.num r.num:=tq _ _ (kG q) (kG r) (by omega)
theorem mND{q r:Rat}(h:sz q+sz r≤8900):IntMulOk q.num (r.den:Int):=tq _ _ (kG q) (kQ r) (by omega)
theorem mDD{q r:Rat}(h:sz q+sz r≤8900):IntMulOk (q.den:Int) (r.den:Int):=tq _ _ (kQ q) (kQ r) (by omega)
theorem mDN{q r:Rat}(h:sz q+sz r≤8900):IntMulOk (q.den:Int) r.num:=tq _ _ (kQ q) (kG r) (by omega)
theorem lDD{q r:Rat}(h:sz q+sz r≤8900):((q.den:Int)*(r.den:Int)).natAbs.log2<9000:=by
 have h1:=RM.R3 q.den r.den
 have h2:=RM.E2 q
 have h3:=RM.E2 r
 rw[PR,OZ,OZ]
 unfold RM.bl at *
 omega
theorem lDN{q r:Rat}(h:sz q+sz r≤8900):((q.den:Int)*r.num).natAbs.log2<9000:=by
 have h1:=RM.R3 q.den r.num.natAbs
 have h2:=RM.E2 q
 have h3:=RM.L4 r
 rw[PR,OZ]
 unfold RM.bl at *
 omega
theorem Hk{r:Rat}(h:r≠0):r.num≠0:=fun z=>h (RJ.mp z)
noncomputable def N3(q:Rat):Rat:=if 0≤q then q else -q
theorem Di(q:Rat):0≤N3 q:=by
 unfold N3;split
 ·assumption
 ·grind
theorem Ip(q:Rat):e8 (N3 q) = .tup [.int (q.num.natAbs:Int),.int (q.den:Int)]:=by
 unfold N3 e8
 have hz:0≤q↔0≤q.num:=QN.symm
 split
 ·rename_i h
  have:=hz.mp h
  rw[show q.num=(q.num.natAbs:Int)by omega];simp
 ·rename_i h
  have h':¬ 0≤q.num:=fun z=>h (hz.mpr z)
  rw[Rv,Rw,show -q.num=(q.num.natAbs:Int)by omega]
theorem nA(t:Rat):t.num<0↔t<0:=by
 have:=QN (q:=t)
 constructor
 ·intro h;have:¬ 0≤t:=fun z=>by have:=QN.mpr z;omega
  grind
 ·intro h;have h':¬ 0≤t.num:=fun z=>by have:=QN.mp z;grind
  omega
end GM
namespace GM
open RM (sz)
theorem nZ{a:Rat}{A:Int}{D S:Nat}(hS:0<S)(hD:D≠0)(hd:D<2 ^ S)(h:a*(D:Rat)=(A:Rat))(hA:A.natAbs<2 ^ S):sz a≤S:=by
 have hD':(D:Rat)≠0:=by
  intro z;exact hD (by exact_mod_cast z)
 have e:a=QE A (D:Int):=by
  rw[Rq]
  have:a=(A:Rat) / (D:Rat):=by grind
  rw[this];rfl
 rw[e]
 exact Pa (RM.J4 A D (by omega)) (QU.mpr ⟨RM.V6 hA hS,RM.V6 (by rw[OZ];exact hd) hS⟩)
structure CD(S:Nat)(a b c d:Rat):Prop where
 ex:∃(A B C E:Int) (D:Nat),D≠0∧D<2 ^ S∧(A.natAbs<2 ^ S∧B.natAbs<2 ^ S∧C.natAbs<2 ^ S∧E.natAbs<2 ^ S)∧a*(D:Rat)=(A:Rat)∧b*(D:Rat)=(B:Rat)∧c*(D:Rat)=(C:Rat)∧d*(D:Rat)=(E:Rat)
theorem Q3(q:Rat){k:Nat}(h:sz q≤k):q.num.natAbs<2 ^ k:=OV (RM.bf _) (Pp (by decide) (Pa (RM.L4 q) h))
theorem Q9(q:Rat){k:Nat}(h:sz q≤k):q.den<2 ^ k:=OV (RM.bf _) (Pp (by decide) (Pa (RM.E2 q) h))
theorem dP(q:Rat):q*(q.den:Rat)=(q.num:Rat):=by
 have h:(q.den:Rat)≠0:=by
  intro z;exact q.den_nz (by exact_mod_cast z)
 have e:=Si q
 rw[Rq,Qo]at e
 grind
theorem ah{a b m n:Nat}(h1:a<2 ^ m)(h2:b<2 ^ n):a*b<2 ^ (m+n):=by
 rw[QX];exact QB h1 h2
theorem Q5{a b:Int}{m n:Nat}(h1:a.natAbs<2 ^ m)(h2:b.natAbs<2 ^ n):(a*b).natAbs<2 ^ (m+n):=by
 rw[PR];exact ah h1 h2
theorem ak{a b:Int}{m:Nat}(h1:a.natAbs<2 ^ m)(h2:b.natAbs<2 ^ m):(a+b).natAbs<2 ^ (m+1):=by
 have:=Sl a b
 rw[Nat.pow_succ];omega
theorem R6{a m n:Nat}(h:a<2 ^ m)(hn:m≤n):a<2 ^ n:=OV h (Pp (by decide) hn)
theorem CD.one:CD 1 1 0 0 1:=⟨1,0,0,1,1,by decide,by decide,⟨by decide,by decide,by decide,by decide⟩,by grind,by grind,by grind,by grind⟩
theorem CD.neg{S:Nat}{a b c d:Rat}(h:CD S a b c d):CD S (-a) (-b) (-c) (-d):=by
 obtain⟨A,B,C,E,D,h0,hd,⟨h1,h2,h3,h4⟩,e1,e2,e3,e4⟩:=h.ex
 refine⟨-A,-B,-C,-E,D,h0,hd,⟨by rw[PZ];exact h1,by rw[PZ];exact h2,by rw[PZ];exact h3,by rw[PZ];exact h4⟩,?_,?_,?_,?_⟩<;>(rw[SE];grind)
theorem CD.swap{S:Nat}{a b c d:Rat}(h:CD S a b c d):CD S c d a b:=by
 obtain⟨A,B,C,E,D,h0,hd,⟨h1,h2,h3,h4⟩,e1,e2,e3,e4⟩:=h.ex
 exact⟨C,E,A,B,D,h0,hd,⟨h3,h4,h1,h2⟩,e3,e4,e1,e2⟩
theorem CD.step{S k:Nat}{a b c d q:Rat}(h:CD S a b c d)(hq:sz q≤k):CD (S+k+1) (a+q*c) (b+q*d) c d:=by
 obtain⟨A,B,C,E,D,h0,hd,⟨h1,h2,h3,h4⟩,e1,e2,e3,e4⟩:=h.ex
 have hn:=Q3 q hq
 have hm:=Q9 q hq
 have hm':(q.den:Int).natAbs<2 ^ k:=by rw[OZ];exact hm
 have e:=dP q
 have z:∀{X:Int},X.natAbs<2 ^ S→(X*(q.den:Int)).natAbs<2 ^ (S+k):=fun h=>Q5 h hm'
 have z2:∀{X:Int},X.natAbs<2 ^ S→(X*q.num).natAbs<2 ^ (S+k):=fun h=>Q5 h hn
 refine⟨A*(q.den:Int)+C*q.num,B*(q.den:Int)+E*q.num,C*(q.den:Int),E*(q.den:Int),D*q.den,SF h0 q.den_nz,R6 (ah hd hm) (by omega),
  ⟨ak (z h1) (z2 h3),ak (z h2) (z2 h4),R6 (z h3) (by omega),R6 (z h4) (by omega)⟩,?_,?_,?_,?_⟩
 all_goals (simp only[QZ,SG,Ra,Qo];grind)
end GM
namespace GM
open PySem PySem.Spec L2 DL
open RM (sz)
noncomputable abbrev B3(a b c d:Rat):D:=.tup [e8 a,e8 b,e8 c,e8 d]
noncomputable abbrev y3(y u:Rat):D:=.tup [e8 y,e8 u]
structure T4(S:Nat)(a b c d:Rat):Prop where
 a:sz a≤S
 b:sz b≤S
 c:sz c≤S
 d:sz d≤S
structure T2(S:Nat)(y u:Rat):Prop where
 y:sz y≤S
 u:sz u≤S
theorem CD.t4{S:Nat}{a b c d:Rat}(h:CD S a b c d)(hS:0<S:=by omega):T4 S a b c d:=by
 obtain⟨A,B,C,E,D,h0,hd,⟨h1,h2,h3,h4⟩,e1,e2,e3,e4⟩:=h.ex
 exact⟨nZ hS h0 hd e1 h1,nZ hS h0 hd e2 h2,nZ hS h0 hd e3 h3,nZ hS h0 hd e4 h4⟩
def W6:DSp:=fun ds M R _=>∃ a b c d:Rat,ds=[y3 a c,y3 b d]∧R (B3 a b c d) M
theorem CD.mono{S S':Nat}{a b c d:Rat}(h:CD S a b c d)(hs:S≤S'):CD S' a b c d:=by
 obtain⟨A,B,C,E,D,h0,hd,⟨h1,h2,h3,h4⟩,e1,e2,e3,e4⟩:=h.ex
 exact⟨A,B,C,E,D,h0,R6 hd hs,⟨R6 h1 hs,R6 h2 hs,R6 h3 hs,R6 h4 hs⟩,e1,e2,e3,e4⟩
theorem mQ(n:Int):e8 (n:Rat) = .tup [.int n,.int 1]:=by
 unfold e8
 rw[RL,RN];rfl
theorem xo{n:Int}{k:Nat}(hk:0<k)(h:n.natAbs<2 ^ k):sz (n:Rat)≤k:=by
 refine RM.xn _ hk ?_ ?_
 ·rw[RL];exact h
 ·rw[RN];exact Nat.one_lt_two_pow (by omega)
theorem jB(q:Rat):sz (N3 q)=sz q:=by
 unfold N3;split
 ·rfl
 ·exact RM.E1 q
theorem Dh{q:Rat}(h:q≠0):0<N3 q:=by
 unfold N3;split
 ·grind
 ·grind
noncomputable def i0(x:Str × Rat):D:=.tup [.str x.1,e8 x.2]
structure V9(x:Str × Rat):Prop where
 kind:(x.1 = "gap" ∧ 0≤x.2)∨x.1 = "glass" ∨ (x.1 = "stop" ∧ 0<x.2)
 sz:RM.sz x.2≤41
noncomputable def D7(x:Str × Rat)(y u:Rat):Rat × Rat:=if x.1 = "gap" then(y+x.2*u,u)else if x.1 = "glass" then(y,u - x.2*y)else(y,u)
noncomputable def i3(bs:List (Str × Rat))(r:Rat × Rat):Rat × Rat:=bs.foldl (fun r x=>D7 x r.1 r.2) r
noncomputable def FT(bs:List (Str × Rat)):D:=B3 (i3 bs (1,0)).1 (i3 bs (0,1)).1 (i3 bs (1,0)).2 (i3 bs (0,1)).2
theorem CD.led{S:Nat}{x:Str × Rat}{y u:Rat}(h:CD S y 0 u 0)(hx:sz x.2≤41):CD (S+42) (D7 x y u).1 0 (D7 x y u).2 0:=by
 unfold D7
 split
 ·have:=h.step hx
  rw[show(0:Rat)+x.2*0=0 by grind]at this
  exact this
 ·split
  ·have:=(h.swap.step (q:=-x.2) (k:=41) (by rw[RM.E1];exact hx)).swap
   rw[show(0:Rat) + -x.2*0=0 by grind,show u + -x.2*y=u - x.2*y by grind]at this
   exact this
  ·exact h.mono (by omega)
theorem CD.t2{S:Nat}{y u:Rat}(h:CD S y 0 u 0)(hS:0<S:=by omega):T2 S y u:=⟨h.t4.a,h.t4.c⟩
theorem CD.ray{y u:Rat}{k:Nat}(h1:sz y≤k)(h2:sz u≤k):CD (2*k) y 0 u 0:=by
 have n1:=Q3 y h1
 have d1:=Q9 y h1
 have n2:=Q3 u h2
 have d2:=Q9 u h2
 have d1':(y.den:Int).natAbs<2 ^ k:=by rw[OZ];exact d1
 have d2':(u.den:Int).natAbs<2 ^ k:=by rw[OZ];exact d2
 have e1:=dP y
 have e2:=dP u
 refine⟨y.num*(u.den:Int),0,u.num*(y.den:Int),0,y.den*u.den,SF y.den_nz u.den_nz,?_,⟨?_,?_,?_,?_⟩,?_,?_,?_,?_⟩
 ·rw[show 2*k=k+k by omega];exact ah d1 d2
 ·rw[show 2*k=k+k by omega];exact Q5 n1 d2'
 ·exact SH _
 ·rw[show 2*k=k+k by omega];exact Q5 n2 d1'
 ·exact SH _
 all_goals (simp only[QZ,Ra,Qo,Rat.intCast_zero];grind)
theorem U7{bs:List (Str × Rat)}{i:Nat}{x:Str × Rat}(h:bs[i]? = some x)(r:Rat × Rat):i3 (bs.take (i+1)) r=D7 x (i3 (bs.take i) r).1 (i3 (bs.take i) r).2:=by
 obtain⟨hl,he⟩:=Pc.mp h
 unfold i3
 rw[Pw hl,Sn,he]
 rfl
theorem BZ(bs:List (Str × Rat))(y u:Rat):(i3 bs (y,u)).1=(i3 bs (1,0)).1*y+(i3 bs (0,1)).1*u∧(i3 bs (y,u)).2=(i3 bs (1,0)).2*y+(i3 bs (0,1)).2*u:=by
 have gen:∀(bs:List (Str × Rat)) (y u a b c d z w:Rat),z=a*y+b*u→w=c*y+d*u →
   (i3 bs (z,w)).1=(i3 bs (a,c)).1*y+(i3 bs (b,d)).1*u∧(i3 bs (z,w)).2=(i3 bs (a,c)).2*y+(i3 bs (b,d)).2*u:=by
  intro bs
  induction bs with
  | nil=>intro y u a b c d z w h1 h2;exact⟨h1,h2⟩
  | cons x r ih =>
   intro y u a b c d z w h1 h2
   refine ih y u (D7 x a c).1 (D7 x b d).1 (D7 x a c).2 (D7 x b d).2 (D7 x z w).1 (D7 x z w).2 ?_ ?_
   ·unfold D7;split
    ·grind
    ·split<;>grind
   ·unfold D7;split
    ·grind
    ·split<;>grind
 exact gen bs y u 1 0 0 1 y u (by grind) (by grind)
theorem N5{bs:List (Str × Rat)}{i:Nat}{d:D}(h:(bs.map i0)[i]? = some d):∃ x,bs[i]? = some x∧d=i0 x:=by
 rw[Py]at h
 cases e:bs[i]? with
 | none=>rw[e]at h;cases h
 | some x=>rw[e]at h;exact⟨x,rfl,(Option.some.inj h).symm⟩
noncomputable def S1:Option Rat→Rat × Rat
 | none=>(1,0)
 | some q=>(q,1)
def xr:DSp:=fun ds M R _=>∃ q:Rat,ds=[e8 q]∧R (e8 (N3 q)) M
def p6(bs:List (Str × Rat))(r:Rat × Rat)(i:Nat):Prop:=∃ x,bs[i]? = some x∧x.1 = "stop" ∧ x.2<N3 (i3 (bs.take i) r).1
def V7(bs:List (Str × Rat))(r:Rat × Rat)(v:D):Prop:=(∃ i:Nat,p6 bs r i∧(∀ j,j<i→¬ p6 bs r j)∧v = .int i)∨((∀ i,¬ p6 bs r i)∧v = .non)
theorem V7.one{bs:List (Str × Rat)}{r:Rat × Rat}{v v':D}(h:V7 bs r v)(h':V7 bs r v'):v=v':=by
 rcases h with⟨i,a,b,rfl⟩|⟨a,rfl⟩
 ·rcases h' with⟨j,c,d,rfl⟩|⟨c,rfl⟩
  ·rcases Rr i j with z|z|z
   ·exact absurd a (d i z)
   ·rw[z]
   ·exact absurd c (b j z)
  ·exact absurd a (c i)
 ·rcases h' with⟨j,c,d,rfl⟩|⟨c,rfl⟩
  ·exact absurd c (a j)
  ·rfl
theorem tf{bs:List (Str × Rat)}{r:Rat × Rat}(h:∀ j,j<bs.length→¬ p6 bs r j):∀ j,¬ p6 bs r j:=fun j s=>by
 obtain⟨x,e,_⟩:=id s
 exact h j (Pc.mp e).1 s
theorem ja{x y:Str × Rat}(h:i0 x=i0 y):x=y:=by
 unfold i0 at h
 injection h with h
 injection h with h1 h2
 injection h1 with h1
 injection h2 with h2 _
 exact Prod.ext h1 (U5 h2)
theorem g6{x y:Str × Rat}:i0 x=i0 y↔x=y:=⟨ja,fun h=>by rw[h]⟩
theorem f6{xs ys:List (Str × Rat)}:xs.map i0=ys.map i0↔xs=ys:=QH (fun _ _ h=>ja h)
noncomputable def R7(l:Rat × Rat × Rat):D:=.tup [e8 l.1,e8 l.2.1,e8 l.2.2]
theorem je{x y:Rat × Rat × Rat}(h:R7 x=R7 y):x=y:=by
 unfold R7 at h
 injection h with h
 injection h with h1 h2
 injection h2 with h2 h3
 injection h3 with h3 _
 exact Prod.ext (U5 h1) (Prod.ext (U5 h2) (U5 h3))
theorem g7{x y:Rat × Rat × Rat}:R7 x=R7 y↔x=y:=⟨je,fun h=>by rw[h]⟩
theorem f7{xs ys:List (Rat × Rat × Rat)}:xs.map R7=ys.map R7↔xs=ys:=QH (fun _ _ h=>je h)
theorem Gs{p q r:Rat}:D.tup [e8 p,e8 q,e8 r]=R7 (p,q,r):=rfl
theorem qU{gs:bt}{l:Rat × Rat × Rat}{e:Ev}{M:Mem}{Q:Ev→Mem→Prop}:nO 3 gs (R7 l) e M Q=gs [e8 l.1,e8 l.2.1,e8 l.2.2] e M Q:=eL rfl
theorem qX{l:Rat × Rat × Rat}{M:Mem}{R:DK}:gIx (R7 l) (.int 0) M R=R (e8 l.1) M:=en
theorem qW{l:Rat × Rat × Rat}{M:Mem}{R:DK}:gIx (R7 l) (.int 1) M R=R (e8 l.2.1) M:=el
theorem qV{l:Rat × Rat × Rat}{M:Mem}{R:DK}:gIx (R7 l) (.int 2) M R=R (e8 l.2.2) M:=oA
theorem vL{q:Rat}{M:Mem}{R:DK}:gIx (e8 q) (.int 0) M R=R (.int q.num) M:=en
theorem vK{q:Rat}{M:Mem}{R:DK}:gIx (e8 q) (.int 1) M R=R (.int (q.den:Int)) M:=el
theorem vJ{gs:bt}{q:Rat}{e:Ev}{M:Mem}{Q:Ev→Mem→Prop}:nO 2 gs (e8 q) e M Q=gs [.int q.num,.int (q.den:Int)] e M Q:=eL rfl
theorem vI{q:Rat}{M:Mem}{R:DK}:uX [e8 q] M R=R (.int 2) M:=rS rfl
theorem qT{x:Str × Rat}{M:Mem}{R:DK}:gIx (i0 x) (.int 0) M R=R (.str x.1) M:=en
theorem qS{x:Str × Rat}{M:Mem}{R:DK}:gIx (i0 x) (.int 1) M R=R (e8 x.2) M:=el
theorem qR{gs:bt}{x:Str × Rat}{e:Ev}{M:Mem}{Q:Ev→Mem→Prop}:nO 2 gs (i0 x) e M Q=gs [.str x.1,e8 x.2] e M Q:=eL rfl
theorem lV{q:Rat}{M:Mem}{R:DK}:A7 [e8 q,.ty "tuple"] M R=R (.bl true) M:=u3 rfl rfl
theorem iC{x:Str × Rat}{M:Mem}{R:DK}:A7 [i0 x,.ty "tuple"] M R=R (.bl true) M:=u3 rfl rfl
theorem qQ{x:Str × Rat}{M:Mem}{R:DK}:uX [i0 x] M R=R (.int 2) M:=rS rfl
theorem AU{q:Rat}:cl 60 (e8 q)=true:=rfl
theorem AV{q:Rat}:cl 59 (e8 q)=true:=rfl
theorem AW{q:Rat}:cl 58 (e8 q)=true:=rfl
theorem AX{q:Rat}:cl 57 (e8 q)=true:=rfl
theorem r0:D.tup [.int 0,.int 1]=e8 0:=rfl
theorem r1:D.tup [.int 1,.int 1]=e8 1:=rfl
theorem r2:D.tup [.int 2,.int 1]=e8 2:=rfl
theorem r4:D.tup [.int 4,.int 1]=e8 4:=rfl
theorem Ey{q:Rat}:D.tup [.int (q.num.natAbs:Int),.int (q.den:Int)]=e8 (N3 q):=(Ip q).symm
theorem JL{q:Rat}:D.tup [.int (-q.num),.int (q.den:Int)]=e8 (-q):=by unfold e8;rw[Rv,Rw]
theorem Gq{q:Rat}:D.tup [.int q.num,.int (q.den:Int)]=e8 q:=rfl
theorem rm2:D.tup [.int (-2),.int 1]=e8 (-2):=rfl
theorem rm1:D.tup [.int (-1),.int 1]=e8 (-1):=rfl
end GM
local macro_rules|`(tactic| walk_at "inj")=>`(tactic| (rename_i e h;simp only[List.cons.injEq,and_true,true_and,GM.g8,GM.g6,GM.f6,GM.g7,GM.f7,DL.D.tup.injEq,DL.D.ref.injEq,DL.D.int.injEq,DL.D.str.injEq,DL.D.bl.injEq,DL.D.vl.injEq,OX,and_assoc]at e;(repeat(obtain⟨e1,e⟩:=e;subst e1));subst e;exact h))
local macro_rules|`(tactic| walk_at "injs")=>`(tactic| (rename_i e o h;rcases o with o|o<;>(subst o;first|(exfalso;simp only[DL.D.tup.injEq,List.cons.injEq,reduceCtorEq,false_and,and_false]at e;done)|(simp only[List.cons.injEq,and_true,true_and,GM.g8,GM.g6,GM.f6,GM.g7,GM.f7,DL.D.tup.injEq,DL.D.ref.injEq,DL.D.int.injEq,DL.D.str.injEq,DL.D.bl.injEq,DL.D.vl.injEq,OX,and_assoc]at e;(repeat(obtain⟨e1,e⟩:=e;subst e1));subst e;exact h))))
namespace GM
open PySem PySem.Spec L2 DL
open RM (sz)
theorem cx{a b:Nat}{M:Mem}{R:DK}{Y:DXK}:W5 [.int (a:Int),.int (b:Int)] M R Y=(R (.int ((PN a b:Nat):Int)) M):=propext ⟨fun z=>by obtain⟨_,_,_,_⟩:=z;walk_at "inj",fun h=>⟨a,b,rfl,h⟩⟩
theorem qx{q:Rat}{M:Mem}{R:DK}{Y:DXK}:cH [e8 q] M R Y=(R (e8 (-q)) M):=propext ⟨fun z=>by obtain⟨_,_,_⟩:=z;walk_at "inj",fun h=>⟨q,rfl,h⟩⟩
theorem lu{q r:Rat}{M:Mem}{R:DK}{Y:DXK}:O4 [e8 q,e8 r] M R Y=(sz q+sz r≤8900∧R (e8 (q+r)) M):=propext ⟨fun z=>by obtain⟨_,_,_,_⟩:=z;walk_at "inj",fun h=>⟨q,r,rfl,h⟩⟩
theorem ik{q r:Rat}{M:Mem}{R:DK}{Y:DXK}:F7 [e8 q,e8 r] M R Y=(sz q+sz r≤8900∧R (e8 (q - r)) M):=propext ⟨fun z=>by obtain⟨_,_,_,_⟩:=z;walk_at "inj",fun h=>⟨q,r,rfl,h⟩⟩
theorem ij{q r:Rat}{M:Mem}{R:DK}{Y:DXK}:O3 [e8 q,e8 r] M R Y=(sz q+sz r≤8900∧R (e8 (q*r)) M):=propext ⟨fun z=>by obtain⟨_,_,_,_⟩:=z;walk_at "inj",fun h=>⟨q,r,rfl,h⟩⟩
theorem lz{q r:Rat}{M:Mem}{R:DK}{Y:DXK}:S9 [e8 q,e8 r] M R Y=(r≠0∧sz q+sz r≤8900∧R (e8 (q / r)) M):=propext ⟨fun z=>by obtain⟨_,_,_,_⟩:=z;walk_at "inj",fun h=>⟨q,r,rfl,h⟩⟩
theorem lB{q r:Rat}{M:Mem}{R:DK}{Y:DXK}:bG [e8 q,e8 r] M R Y=(sz q+sz r≤8900∧R (.bl (decide (q<r))) M):=propext ⟨fun z=>by obtain⟨_,_,_,_⟩:=z;walk_at "inj",fun h=>⟨q,r,rfl,h⟩⟩
theorem qy{a b:Int}{M:Mem}{R:DK}{Y:DXK}:Y7 [.int a,.int b] M R Y=(b≠0∧b.natAbs.log2<9000∧R (e8 (QE a b)) M):=propext ⟨fun z=>by obtain⟨_,_,_,_⟩:=z;walk_at "inj",fun h=>⟨a,b,rfl,h⟩⟩
theorem lr{c:Int}{M:Mem}{R:DK}{Y:DXK}:oN [.int c] M R Y=(∀ p M',M p=none→MK M M'→B7 M' p→R (.ref p) M'):=propext ⟨fun z=>by obtain⟨_,_,_⟩:=z;walk_at "inj",fun h=>⟨c,rfl,h⟩⟩
theorem lA{p:Addr}{b:Int}{M:Mem}{R:DK}{Y:DXK}:bF [.ref p,.int b] M R Y=(B7 M p∧0<b∧b.natAbs.log2<9000∧∀(r:Int) M',0≤r→r<b→A2 p M M'→R (.int r) M'):=propext ⟨fun z=>by obtain⟨_,_,_,_⟩:=z;walk_at "inj",fun h=>⟨p,b,rfl,h⟩⟩
theorem ei{p:Addr}{M:Mem}{R:DK}{Y:DXK}:aC [.ref p] M R Y=(B7 M p∧∀(q:Rat) M',RM.sz q≤41→A2 p M M'→R (e8 q) M'):=propext ⟨fun z=>by obtain⟨_,_,_⟩:=z;walk_at "inj",fun h=>⟨p,rfl,h⟩⟩
theorem qz{q:Rat}{M:Mem}{R:DK}{Y:DXK}:xr [e8 q] M R Y=(R (e8 (N3 q)) M):=propext ⟨fun z=>by obtain⟨_,_,_⟩:=z;walk_at "inj",fun h=>⟨q,rfl,h⟩⟩
theorem cy{a b c d:Rat}{M:Mem}{R:DK}{Y:DXK}:W6 [y3 a c,y3 b d] M R Y=(R (B3 a b c d) M):=propext ⟨fun z=>by obtain⟨_,_,_,_,_,_⟩:=z;walk_at "inj",fun h=>⟨a,b,c,d,rfl,h⟩⟩
abbrev kg(a b c d y u:Rat)(M:Mem)(R:DK)(Y:DXK):Prop:=sz a+sz y+(sz b+sz u)≤8900∧sz c+sz y+(sz d+sz u)≤8900∧R (y3 (a*y+b*u) (c*y+d*u)) M
def xF:DSp:=fun ds M R Y=>∃(a b c d y u:Rat),ds=[B3 a b c d,y3 y u]∧kg a b c d y u M R Y
theorem vC{a b c d y u:Rat}{M:Mem}{R:DK}{Y:DXK}:xF [B3 a b c d,y3 y u] M R Y=(kg a b c d y u M R Y):=propext ⟨fun z=>by obtain⟨_,_,_,_,_,_,_,_⟩:=z;walk_at "inj",fun h=>⟨a,b,c,d,y,u,rfl,h⟩⟩
abbrev dD(x:Str × Rat)(y u:Rat)(M:Mem)(R:DK)(Y:DXK):Prop:=sz x.2+sz y+sz u≤8900∧R (y3 (D7 x y u).1 (D7 x y u).2) M
def fi:DSp:=fun ds M R Y=>∃(x:Str × Rat) (y u:Rat),ds=[i0 x,y3 y u]∧dD x y u M R Y
theorem qI{x:Str × Rat}{y u:Rat}{M:Mem}{R:DK}{Y:DXK}:fi [i0 x,y3 y u] M R Y=(dD x y u M R Y):=propext ⟨fun z=>by obtain⟨_,_,_,_,_⟩:=z;walk_at "inj",fun h=>⟨x,y,u,rfl,h⟩⟩
theorem CB{xs:List D}(h:∀ x∈xs,∃ n,x=D.int n){i:Nat}{d:D}(hd:xs[i]? = some d):∃ n,d=D.int n:=h d (Pn hd)
theorem uU{ns:List Int}{ms:List D}(h:∀ x∈ms,∃ n,x=D.int n):∀ x∈ms++ns.map D.int,∃ n,x=D.int n:=fun x hx=>by
 rcases Pq.mp hx with z|z
 ·exact h x z
 ·obtain⟨n,_,e⟩:=Qv.mp z;exact⟨n,e.symm⟩
theorem A2.put{p l:Addr}{M M':Mem}{o:MO}(h:A2 p M M')(hl:M l=none)(hp:l≠p):A2 p M (q9 M' l o):=⟨fun b u hb e=>by
  rw[j5 (by intro z;subst z;rw[hl]at e;cases e)];exact h.keep b u hb e,by
  obtain⟨x,y,z,e⟩:=h.pool.ex
  exact⟨x,y,z,by rw[j5 (Ne.symm hp)];exact e⟩⟩
theorem A2.del{p l:Addr}{M M':Mem}(h:A2 p M M')(hl:M l=none)(hp:l≠p):A2 p M (fZ M' l):=⟨fun b u hb e=>by
  rw[kR (by intro z;subst z;rw[hl]at e;cases e)];exact h.keep b u hb e,by
  obtain⟨x,y,z,e⟩:=h.pool.ex
  exact⟨x,y,z,by rw[kR (Ne.symm hp)];exact e⟩⟩
theorem ql{ds:List D}{n:Nat}:aq ds none (some (n:Int))=ds.take n:=by
 unfold aq HT.sIx
 simp only[SR,Nat.sub_zero]
 rw[if_neg (by omega)]
 by_cases h:n≤ds.length
 ·congr 1;omega
 ·rw[Qh (by omega),Qh (by omega)]
theorem CG{xs:List D}{r:Int}{M:Mem}{R:DK}(h0:0≤r)(h1:r<xs.length)(h:∀ d∈xs,R d M):gIx (.vl xs) (.int r) M R:=by
 obtain⟨z,e,hz⟩:=De h0 h1
 exact⟨z,e,h z hz⟩
end GM
set_option maxHeartbeats 1000000
namespace GM
open PySem PySem.Spec L2 DL
open RM (sz)
abbrev di(a b c d a' b' c' d':Rat)(M:Mem)(R:DK)(Y:DXK):Prop:=(sz a'+sz a+(sz b'+sz c)≤8900∧sz a'+sz b+(sz b'+sz d)≤8900∧sz c'+sz a+(sz d'+sz c)≤8900∧sz c'+sz b+(sz d'+sz d)≤8900)∧R (B3 (a'*a+b'*c) (a'*b+b'*d) (c'*a+d'*c) (c'*b+d'*d)) M
def mK:DSp:=fun ds M R Y=>∃(a b c d a' b' c' d':Rat),ds=[B3 a b c d,B3 a' b' c' d']∧di a b c d a' b' c' d' M R Y
theorem qA{a b c d a' b' c' d':Rat}{M:Mem}{R:DK}{Y:DXK}:mK [B3 a b c d,B3 a' b' c' d'] M R Y=(di a b c d a' b' c' d' M R Y):=propext ⟨fun z=>by obtain⟨_,_,_,_,_,_,_,_,_,_⟩:=z;walk_at "inj",fun h=>⟨a,b,c,d,a',b',c',d',rfl,h⟩⟩
theorem CD.ledk{S k:Nat}{x:Str × Rat}{a b c d:Rat}(h:CD S a b c d)(hx:sz x.2≤k):CD (S+(k+1)) (D7 x a c).1 (D7 x b d).1 (D7 x a c).2 (D7 x b d).2:=by
 unfold D7
 by_cases h1:x.1 = "gap"
 ·rw[if_pos h1,if_pos h1];exact h.step hx
 ·rw[if_neg h1,if_neg h1]
  by_cases h2:x.1 = "glass"
  ·rw[if_pos h2,if_pos h2]
   have:=(h.swap.step (q:=-x.2) (k:=k) (by rw[RM.E1];exact hx)).swap
   rw[show c + -x.2*a=c - x.2*a by grind,show d + -x.2*b=d - x.2*b by grind]at this
   exact this
  ·rw[if_neg h2,if_neg h2];exact h.mono (by omega)
theorem CL{x:Str × Rat}{a b c d:Rat}(h:a*d - b*c=1):(D7 x a c).1*(D7 x b d).2 - (D7 x b d).1*(D7 x a c).2=1:=by
 unfold D7
 by_cases h1:x.1 = "gap"
 ·rw[if_pos h1,if_pos h1];grind
 ·rw[if_neg h1,if_neg h1]
  by_cases h2:x.1 = "glass"
  ·rw[if_pos h2,if_pos h2];grind
  ·rw[if_neg h2,if_neg h2];exact h
theorem ua(bs:List (Str × Rat)):(i3 bs (1,0)).1*(i3 bs (0,1)).2 - (i3 bs (0,1)).1*(i3 bs (1,0)).2=1:=by
 have gen:∀(bs:List (Str × Rat)) (a b c d:Rat),a*d - b*c=1→(i3 bs (a,c)).1*(i3 bs (b,d)).2 - (i3 bs (b,d)).1*(i3 bs (a,c)).2=1:=by
  intro bs
  induction bs with
  | nil=>intro a b c d h;exact h
  | cons x r ih=>intro a b c d h;exact ih _ _ _ _ (CL h)
 exact gen bs 1 0 0 1 (by grind)
noncomputable def R8(xs:List (Str × Rat)):List (Str × Rat):=xs.filter fun x=>!decide (x.2=0)
abbrev aV(xs:List (Str × Rat))(M:Mem)(R:DK)(Y:DXK):Prop:=xs.length≤100∧∀ p,M p=none→R (.ref p) (q9 M p (.lst ((R8 xs).map i0)))
def bR:DSp:=fun ds M R Y=>∃(xs:List (Str × Rat)),ds=[.vl (xs.map i0)]∧aV xs M R Y
theorem lR{xs:List (Str × Rat)}{M:Mem}{R:DK}{Y:DXK}:bR [.vl (xs.map i0)] M R Y=(aV xs M R Y):=propext ⟨fun z=>by obtain⟨_,_,_⟩:=z;walk_at "inj",fun h=>⟨xs,rfl,h⟩⟩
abbrev aS(a b c d g:Rat)(M:Mem)(R:DK)(Y:DXK):Prop:=(sz a≤1600∧sz b≤1600∧sz c≤1600∧sz d≤1600∧sz g≤1600)∧R (B3 a (b - a*g) c (d - c*g)) M
def pA:DSp:=fun ds M R Y=>∃(a b c d g:Rat),ds=[B3 a b c d,e8 g]∧aS a b c d g M R Y
theorem lP{a b c d g:Rat}{M:Mem}{R:DK}{Y:DXK}:pA [B3 a b c d,e8 g] M R Y=(aS a b c d g M R Y):=propext ⟨fun z=>by obtain⟨_,_,_,_,_,_,_⟩:=z;walk_at "inj",fun h=>⟨a,b,c,d,g,rfl,h⟩⟩
noncomputable def fu(a b d:Rat):List (Str × Rat):=R8 [("glass",(1 - a) / b),("gap",b),("glass",(1 - d) / b)]
abbrev X5(a b c d:Rat)(M:Mem)(R:DK)(Y:DXK):Prop:=(sz a≤2200∧sz b≤2200∧sz d≤2200∧b≠0)∧∀ p,M p=none→R (.ref p) (q9 M p (.lst ((fu a b d).map i0)))
def ke:DSp:=fun ds M R Y=>∃(a b c d:Rat),ds=[B3 a b c d]∧X5 a b c d M R Y
theorem iA{a b c d:Rat}{M:Mem}{R:DK}{Y:DXK}:ke [B3 a b c d] M R Y=(X5 a b c d M R Y):=propext ⟨fun z=>by obtain⟨_,_,_,_,_,_⟩:=z;walk_at "inj",fun h=>⟨a,b,c,d,rfl,h⟩⟩
theorem qh{q r:Rat}(h:0≤q)(hr:0<r):0≤q / r:=by
 by_cases hh:0≤q / r
 ·exact hh
 ·exfalso
  have h2:q / r<0:=by grind
  have hr0:r≠0:=by grind
  have e:q / r*r=q:=by grind
  have:=(Rat.mul_lt_mul_right (a:=q / r) (b:=0) hr).mpr h2
  grind
noncomputable def mW(a c d:Rat):List (Str × Rat):=R8 [("gap",(d - 1) / c),("glass",-c),("gap",(a - 1) / c)]
noncomputable def t6(a b c d:Rat):Option (Rat × Rat):=if 0<b then some (0,0)else if a<0 then some ((b - 1) / a,0)else if d<0 then some (0,(b - 1) / d)else if 0<c then some ((d+1) / c,1 - b+(d+1) / c*a)else none
noncomputable def yp:Option (Rat × Rat)→D
 | none=>.non
 | some (g,h)=>.tup [e8 g,e8 h]
abbrev X6(a b c d g:Rat)(M:Mem)(R:DK)(Y:DXK):Prop:=(sz a≤1600∧sz b≤2200∧sz c≤1600∧sz d≤2200∧sz g≤2200)∧R (B3 (a - g*c) (b - g*d) c d) M
def kf:DSp:=fun ds M R Y=>∃(a b c d g:Rat),ds=[B3 a b c d,e8 g]∧X6 a b c d g M R Y
theorem iB{a b c d g:Rat}{M:Mem}{R:DK}{Y:DXK}:kf [B3 a b c d,e8 g] M R Y=(X6 a b c d g M R Y):=propext ⟨fun z=>by obtain⟨_,_,_,_,_,_,_⟩:=z;walk_at "inj",fun h=>⟨a,b,c,d,g,rfl,h⟩⟩
abbrev K6(a b c d:Rat)(M:Mem)(R:DK)(Y:DXK):Prop:=(sz a≤1600∧sz b≤1600∧sz c≤1600∧sz d≤1600)∧((c=0∨(d - 1) / c<0∨(a - 1) / c<0)→R .non M)∧(c≠0→¬ (d - 1) / c<0→¬ (a - 1) / c<0→∀ p,M p=none→R (.ref p) (q9 M p (.lst ((mW a c d).map i0))))
def bQ:DSp:=fun ds M R Y=>∃(a b c d:Rat),ds=[B3 a b c d]∧K6 a b c d M R Y
theorem cz{a b c d:Rat}{M:Mem}{R:DK}{Y:DXK}:bQ [B3 a b c d] M R Y=(K6 a b c d M R Y):=propext ⟨fun z=>by obtain⟨_,_,_,_,_,_⟩:=z;walk_at "inj",fun h=>⟨a,b,c,d,rfl,h⟩⟩
abbrev aR(a b c d:Rat)(M:Mem)(R:DK)(Y:DXK):Prop:=(sz a≤1600∧sz b≤1600∧sz c≤1600∧sz d≤1600)∧R (yp (t6 a b c d)) M
def pz:DSp:=fun ds M R Y=>∃(a b c d:Rat),ds=[B3 a b c d]∧aR a b c d M R Y
theorem lO{a b c d:Rat}{M:Mem}{R:DK}{Y:DXK}:pz [B3 a b c d] M R Y=(aR a b c d M R Y):=propext ⟨fun z=>by obtain⟨_,_,_,_,_,_⟩:=z;walk_at "inj",fun h=>⟨a,b,c,d,rfl,h⟩⟩
noncomputable def S7(g h a b c d:Rat):List (Str × Rat):=R8 [("gap",g)]++fu (a - h*c) (b - a*g - h*(d - c*g)) (d - c*g)++R8 [("gap",h)]
structure Fu(a b c d g h:Rat):Prop where
 tg:sz g≤1600
 th:sz h≤2200
 tb:sz (b - a*g)≤2200
 td:sz (d - c*g)≤2200
 ta:sz (a - h*c)≤2200
 tm:sz (b - a*g - h*(d - c*g))≤1600
abbrev aF(a b c d:Rat)(M:Mem)(R:DK)(Y:DXK):Prop:=(sz a≤1600∧sz b≤1600∧sz c≤1600∧sz d≤1600∧a*d - b*c=1∧∀ g h,t6 a b c d=some (g,h)→Fu a b c d g h)∧(t6 a b c d=none→R .non M)∧(∀ g h,t6 a b c d=some (g,h)→∀ p,M p=none→R (.ref p) (q9 M p (.lst ((S7 g h a b c d).map i0))))
def jT:DSp:=fun ds M R Y=>∃(a b c d:Rat),ds=[B3 a b c d]∧aF a b c d M R Y
theorem lC{a b c d:Rat}{M:Mem}{R:DK}{Y:DXK}:jT [B3 a b c d] M R Y=(aF a b c d M R Y):=propext ⟨fun z=>by obtain⟨_,_,_,_,_,_⟩:=z;walk_at "inj",fun h=>⟨a,b,c,d,rfl,h⟩⟩
noncomputable def j7(a b c d:Rat):Rat:=if b=0 then(1 - c) / d else -((1+a) / b)
theorem jb{a b c d g h:Rat}(hd:a*d - b*c=1)(e:t6 a b c d=some (g,h)):0<b - a*g - h*(d - c*g)∧0≤g∧0≤h:=by
 unfold t6 at e
 by_cases h1:0<b
 ·rw[if_pos h1]at e;cases e;exact⟨by grind,by decide,by decide⟩
 ·rw[if_neg h1]at e
  by_cases h2:a<0
  ·rw[if_pos h2]at e;cases e
   have h2':a≠0:=by grind
   have e1:a*((b - 1) / a)=b - 1:=by grind
   refine⟨by grind,?_,by decide⟩
   have:(b - 1) / a=(1 - b) / (-a):=by grind
   rw[this]
   exact qh (by grind) (by grind)
  ·rw[if_neg h2]at e
   by_cases h3:d<0
   ·rw[if_pos h3]at e;cases e
    have h3':d≠0:=by grind
    have e1:(b - 1) / d*d=b - 1:=by grind
    refine⟨by grind,by decide,?_⟩
    have:(b - 1) / d=(1 - b) / (-d):=by grind
    rw[this]
    exact qh (by grind) (by grind)
   ·rw[if_neg h3]at e
    by_cases h4:0<c
    ·rw[if_pos h4]at e;cases e
     have h4':c≠0:=by grind
     have e1:c*((d+1) / c)=d+1:=by grind
     have g0:0≤(d+1) / c:=qh (by grind) (by grind)
     have g1:0≤(d+1) / c*a:=Rat.mul_nonneg g0 (by grind)
     generalize (d+1) / c=g at *
     have e2:d - c*g = -1:=by grind
     rw[e2]
     exact⟨by grind,g0,by grind⟩
    ·rw[if_neg h4]at e;cases e
noncomputable def fV(a b c d:Rat):List (Str × Rat):=if c=0∧a=1∧¬ b<0 then R8 [("gap",b)]else if c≠0∧¬ (d - 1) / c<0∧¬ (a - 1) / c<0 then mW a c d else
 match t6 a b c d with
 | some (g,h)=>S7 g h a b c d
 | none=>match t6 (a+b*j7 a b c d) b (c+d*j7 a b c d) d with
  | some (g,h)=>((Str.ofString "glass"),j7 a b c d) :: S7 g h (a+b*j7 a b c d) b (c+d*j7 a b c d) d
  | none=>[]
theorem pL{a b c d:Rat}(h:t6 a b c d=none):¬ 0<b∧¬ a<0∧¬ d<0∧¬ 0<c:=by
 unfold t6 at h
 by_cases h1:0<b
 ·rw[if_pos h1]at h;cases h
 ·by_cases h2:a<0
  ·rw[if_neg h1,if_pos h2]at h;cases h
  ·by_cases h3:d<0
   ·rw[if_neg h1,if_neg h2,if_pos h3]at h;cases h
   ·by_cases h4:0<c
    ·rw[if_neg h1,if_neg h2,if_neg h3,if_pos h4]at h;cases h
    ·exact⟨h1,h2,h3,h4⟩
noncomputable def G7:List (Str × Rat)→Nat
 | []=>0
 | x :: r=>(sz x.2+1)+G7 r
theorem U3(ys:List (Str × Rat)):∀ xs:List (Str × Rat),G7 (xs++ys)=G7 xs+G7 ys
 | []=>by show G7 ys=0+G7 ys;omega
 | x :: r=>by
  have:=U3 ys r
  show(sz x.2+1)+G7 (r++ys)=(sz x.2+1)+G7 r+G7 ys
  omega
theorem uy(q r:Rat):QE (q.num*(r.den:Int) - r.num*(q.den:Int)) ((q.den:Int)*(r.den:Int))=q - r:=by
 have e:=RM.kZ q (-r)
 rw[Rv,Rw,Int.neg_mul,← Int.sub_eq_add_neg]at e
 rw[Rk,e]
theorem KZ:CD 90 1 0 0 0:=(CD.ray (k:=1) (by decide) (by decide)).mono (by decide)
theorem KY:CD 90 0 0 1 0:=(CD.ray (k:=1) (by decide) (by decide)).mono (by decide)
theorem CD.ledr{S:Nat}{x:Str × Rat}{y u:Rat}(h:CD S y 0 u 0):CD (S+(sz x.2+1)) (D7 x y u).1 0 (D7 x y u).2 0:=by
 unfold D7
 by_cases h1:x.1 = "gap"
 ·rw[if_pos h1];have:=h.step (Pe (sz x.2));rw[Rat.mul_zero,Rat.add_zero]at this;exact this
 ·rw[if_neg h1]
  by_cases h2:x.1 = "glass"
  ·rw[if_pos h2]
   have:=(h.swap.step (q:=-x.2) (k:=sz x.2) (by rw[RM.E1];exact Pe _)).swap
   rw[show u + -x.2*y=u - x.2*y by grind,Rat.mul_zero,Rat.add_zero]at this
   exact this
  ·rw[if_neg h2];exact h.mono (by omega)
theorem V5{S:Nat}:∀{bs:List (Str × Rat)} {y u:Rat},CD S y 0 u 0→CD (S+G7 bs) (i3 bs (y,u)).1 0 (i3 bs (y,u)).2 0
 | [],y,u,h=>h
 | x :: r,y,u,h=>by
  have:=V5 (S:=S+(sz x.2+1)) (bs:=r) (CD.ledr (x:=x) h)
  rw[show S+G7 (x :: r)=S+(sz x.2+1)+G7 r by show S+((sz x.2+1)+G7 r)=_;omega]
  exact this
theorem mq{bs:List (Str × Rat)}{i:Nat}{x:Str × Rat}(h:bs[i]? = some x):G7 (bs.take i)+(sz x.2+1)≤G7 bs:=by
 obtain⟨hi,e⟩:=Pc.mp h
 have e1:bs.take (i+1)=bs.take i++[x]:=by rw[Pw hi,e]
 have e2:=U3 (bs.drop (i+1)) (bs.take (i+1))
 rw[RO,e1,U3]at e2
 have e3:G7 [x]=(sz x.2+1)+0:=rfl
 omega
theorem xp{bs:List (Str × Rat)}(h:∀ x∈bs,sz x.2≤41):G7 bs≤42*bs.length:=by
 induction bs with
 | nil=>exact Pe 0
 | cons x r ih =>
  have h1:=h x Ph
  have h2:=ih fun y hy=>h y (OW _ hy)
  show(sz x.2+1)+G7 r≤42*(r.length+1)
  omega
abbrev aH(bs:List (Str × Rat))(M:Mem)(R:DK)(Y:DXK):Prop:=G7 bs≤4300∧R (FT bs) M
def fg:DSp:=fun ds M R Y=>∃(bs:List (Str × Rat)),ds=[.vl (bs.map i0)]∧aH bs M R Y
theorem lE{bs:List (Str × Rat)}{M:Mem}{R:DK}{Y:DXK}:fg [.vl (bs.map i0)] M R Y=(aH bs M R Y):=propext ⟨fun z=>by obtain⟨_,_,_⟩:=z;walk_at "inj",fun h=>⟨bs,rfl,h⟩⟩
abbrev aG(bs:List (Str × Rat))(y u:Rat)(M:Mem)(R:DK)(Y:DXK):Prop:=(G7 bs≤4300∧bs.length≤100∧CD 90 y 0 u 0)∧R (y3 (i3 bs (y,u)).1 (i3 bs (y,u)).2) M
def pb:DSp:=fun ds M R Y=>∃(bs:List (Str × Rat)) (y u:Rat),ds=[.vl (bs.map i0),y3 y u]∧aG bs y u M R Y
theorem lD{bs:List (Str × Rat)}{y u:Rat}{M:Mem}{R:DK}{Y:DXK}:pb [.vl (bs.map i0),y3 y u] M R Y=(aG bs y u M R Y):=propext ⟨fun z=>by obtain⟨_,_,_,_,_⟩:=z;walk_at "inj",fun h=>⟨bs,y,u,rfl,h⟩⟩
end GM
namespace L2
open PySem PySem.Spec PySem.W PyProof.Rows
section
variable {prog:Program} {w:World} {A:Around} {E:Value→Shared→Prop} {s:Shared} {K:Frag} {a C:Addr}
end
end L2
namespace DL
open PySem PySem.Spec L2
open PyProof.Rows hiding St
section
variable {X:Cx} {pins:List (Addr × Obj)} {σ:St} {H:Hp} {s:Shared}
end
section
variable {X:Cx} {body suite:List Stmt} {b0:Stmt} {c n:Str} {np hpos pos:Pos} {tb:DXK→DTS} {ts:DTS} {i:Nat}
end
end DL
namespace L2
open PySem PySem.Spec PySem.W PyProof.Rows
section
variable {X:Cx}
end
end L2
namespace DL
open PySem PySem.Spec L2
open PyProof.Rows hiding St
section
variable {X:Cx} {e:Expr} {es:List Expr} {te:DTE} {p p2 pos pos2:Pos} {cs:List Str}
end
end DL
namespace GM
open PySem PySem.Spec L2 DL
open RM (sz)
structure Ah(w:Rat):Prop where
 n:w.num.natAbs≤4
 d:w.den≤4
 ne:w≠0
theorem small_one:Ah 1:=⟨by decide,by decide,by decide⟩
theorem Ah.sz{w:Rat}(h:Ah w):RM.sz w≤3:=by
 rw[← Si w]
 exact pW (by decide) (by have:=h.n;omega) (by have:=h.d;omega) (RM.A8 w)
theorem LM{neg:Bool}{M:Mem}{R:DK}:gIs neg .non .non M R=R (.bl (neg.xor true)) M:=gk rfl
theorem LL{neg:Bool}{q:Rat}{M:Mem}{R:DK}:gIs neg (e8 q) .non M R=R (.bl (neg.xor false)) M:=gk rfl
noncomputable def af:Option Rat→D
 | none=>.non
 | some q=>e8 q
theorem V7.succ{bs:List (Str × Rat)}{r:Rat × Rat}{j:Nat}{pt:Str × Rat}(hpt:bs[j]? = some pt){v:D}(h:V7 (bs.take j) r v) :
  (v = .non→pt.1 = "stop" → pt.2<N3 (i3 (bs.take j) r).1→V7 (bs.take (j+1)) r (.int j))∧(¬ (v = .non∧pt.1 = "stop" ∧ pt.2<N3 (i3 (bs.take j) r).1)→V7 (bs.take (j+1)) r v):=by
 have hj:=(Pc.mp hpt).1
 have old:∀{i:Nat},i<j→(p6 (bs.take (j+1)) r i↔p6 (bs.take j) r i):=fun{i} hi=>by
  unfold p6
  rw[Qk (by omega),Qk hi,RW,RW,QJ (by omega),QJ (by omega)]
 have at_:p6 (bs.take (j+1)) r j↔(pt.1 = "stop" ∧ pt.2<N3 (i3 (bs.take j) r).1):=by
  unfold p6
  rw[Qk (by omega),RW,QJ (by omega),hpt]
  exact⟨fun⟨x,e,h⟩=>by cases e;exact h,fun h=>⟨pt,rfl,h⟩⟩
 have out:∀{i:Nat},j<i→¬ p6 (bs.take (j+1)) r i:=fun{i} hi ⟨x,e,_⟩=>by
  rw[QP (by rw[PC];omega)]at e;cases e
 rcases h with⟨i,a,b,rfl⟩|⟨a,rfl⟩
 ·refine⟨fun z=>(by cases z),fun _=>?_⟩
  have hi:i<j:=by
   obtain⟨x,e,_⟩:=id a
   have:=(Pc.mp e).1
   rw[PC]at this;omega
  exact .inl ⟨i,(old hi).mpr a,fun k hk=>fun z=>b k hk ((old (by omega)).mp z),rfl⟩
 ·refine⟨fun _ h1 h2=>.inl ⟨j,at_.mpr ⟨h1,h2⟩,fun k hk z=>a k ((old hk).mp z),rfl⟩,fun hc=>.inr ⟨fun i z=>?_,rfl⟩⟩
  rcases Rr i j with h|h|h
  ·exact a i ((old h).mp z)
  ·rw[h]at z;exact hc ⟨rfl,at_.mp z⟩
  ·exact out h z
noncomputable def axO(y u:Rat):Option Rat:=if u=0 then none else some (-(y / u))
abbrev dI(y u:Rat)(M:Mem)(R:DK)(Y:DXK):Prop:=(sz y+sz u≤8900)∧R (af (axO y u)) M
def xK:DSp:=fun ds M R Y=>∃(y u:Rat),ds=[y3 y u]∧dI y u M R Y
theorem qP{y u:Rat}{M:Mem}{R:DK}{Y:DXK}:xK [y3 y u] M R Y=(dI y u M R Y):=propext ⟨fun z=>by obtain⟨_,_,_,_⟩:=z;walk_at "inj",fun h=>⟨y,u,rfl,h⟩⟩
abbrev fh(x:Rat)(M:Mem)(R:DK)(Y:DXK):Prop:=R (y3 x 1) M
theorem nR{ds:List D}{n:Nat}:aq ds (some (n:Int)) none=ds.drop n:=by
 unfold aq
 rw[HT.BA,HT.xG]
 by_cases h:n≤ds.length
 ·rw[QJ h,Qh (by rw[Qc];omega)]
 ·rw[Sy (by omega),RE (by omega),RE (by omega),List.take_nil]
noncomputable def imP(a b c d:Rat)(o:Option Rat):Option Rat:=axO (a*(S1 o).1+b*(S1 o).2) (c*(S1 o).1+d*(S1 o).2)
noncomputable def shP(c d:Rat)(o:Option Rat):Option Rat:=match o with
 | none=>none
 | some q=>if c*q+d=0 then none else some (1 / (c*q+d))
theorem vD{neg:Bool}{o:Option Rat}{M:Mem}{R:DK}:gIs neg (af o) .non M R=R (.bl (neg.xor o.isNone)) M:=by
 cases o with
 | none=>exact LM
 | some q=>exact LL
theorem Ad{y u:Rat}(h:(axO y u).isNone=true):u=0:=Classical.byContradiction fun z=>by
 rw[show axO y u=some (-(y / u))from if_neg z]at h;cases h
theorem oj{y u:Rat}(h:(axO y u).isNone=false):u≠0:=fun z=>by
 rw[show axO y u=none from if_pos z]at h;cases h
abbrev aP(x:D)(M:Mem)(R:DK)(Y:DXK):Prop:=∃ o:Option Rat,x=af o∧R (y3 (S1 o).1 (S1 o).2) M
def pv:DSp:=fun ds M R Y=>∃(x:D),ds=[x]∧aP x M R Y
theorem lM{x:D}{M:Mem}{R:DK}{Y:DXK}:pv [x] M R Y=(aP x M R Y):=propext ⟨fun z=>by obtain⟨_,_,_⟩:=z;walk_at "inj",fun h=>⟨x,rfl,h⟩⟩
noncomputable def isInt:D→Bool
 | .int _=>true
 | _=>false
noncomputable def fl0:D→Bool
 | .ref _=>false
 | .ty _=>false
 | .exc _=>false
 | _=>true
noncomputable def fl1:D→Bool
 | .ref _=>false
 | .ty _=>false
 | .exc _=>false
 | .tup ds=>ds.all fl0
 | _=>true
noncomputable def fl2:D→Bool
 | .ref _=>false
 | .ty _=>false
 | .exc _=>false
 | .tup ds=>ds.all fl1
 | _=>true
noncomputable def fP:D→Bool
 | .tup [.int n,.int d]=>decide (1≤d) && decide (PN n.natAbs d.natAbs=1)
 | _=>false
theorem qK{i:Int}:isInt (.int i)=true:=rfl
theorem vE{i:Int}:fl0 (.int i)=true:=rfl
theorem nI{d:D}(h:isInt d=true):∃ i,d = .int i:=by
 cases d with
 | int i=>exact⟨i,rfl⟩
 | _=>cases h
theorem nH(q:Rat):fP (e8 q)=true:=by
 show(decide (1≤(q.den:Int)) && decide (PN q.num.natAbs (q.den:Int).natAbs=1))=true
 rw[PL,decide_eq_true_eq,decide_eq_true_eq]
 exact⟨by have:=q.den_pos;omega,q.reduced⟩
theorem CA{a b:D}(h:isInt a=false):fP (.tup [a,b])=false:=by
 cases a with
 | int i=>cases h
 | _=>rfl
theorem Cz{a b:D}(h:isInt b=false):fP (.tup [a,b])=false:=by
 cases b with
 | int i=>cases h
 | _=>cases a<;>rfl
abbrev W8(x:D)(M:Mem)(R:DK)(Y:DXK):Prop:=fl0 x=true∧R (.bl (isInt x)) M
def dh:DSp:=fun ds M R Y=>∃(x:D),ds=[x]∧W8 x M R Y
theorem ip{x:D}{M:Mem}{R:DK}{Y:DXK}:dh [x] M R Y=(W8 x M R Y):=propext ⟨fun z=>by obtain⟨_,_,_⟩:=z;walk_at "inj",fun h=>⟨x,rfl,h⟩⟩
abbrev aT(x:D)(M:Mem)(R:DK)(Y:DXK):Prop:=fl1 x=true∧R (.bl (fP x)) M
def fj:DSp:=fun ds M R Y=>∃(x:D),ds=[x]∧aT x M R Y
theorem lQ{x:D}{M:Mem}{R:DK}{Y:DXK}:fj [x] M R Y=(aT x M R Y):=propext ⟨fun z=>by obtain⟨_,_,_⟩:=z;walk_at "inj",fun h=>⟨x,rfl,h⟩⟩
end GM
namespace L2
open PySem PySem.Spec PyProof.Rows
section
variable {prog:Program} {w:World} {A:Around} {E:Value→Shared→Prop} {s:Shared}
theorem xT{R:Result→Shared→Prop}{it l S:Addr}{rv:Value}{items:Array Value}{c₀:Nat}(hh:A.handled=none)(hit:s.heap.IsRevIter it l ((items.size:Int) - 1))(hl:s.heap.IsList l items)(hne:l≠it)(hi:S≠it)(hj:S≠l)(hz:items.size≤sizeLine)
  (hS:s.heap.get? S=some { cls:=.type "list",data:=.seq #[] c₀ })
  (fin:∀ h' tk acc c1,(∀ b o,b≠S→b≠it→s.heap.get? b=some o→h'.get? b=some o)→h'.get? S=some { cls:=.type "list",dict:=none,data:=.seq acc c1,slots:=#[] }→ItemsOf (uq items) acc items.size→R (.ok (.ret rv)) { s with heap:=h',toks:=tk }) :
  wpAny (model prog w) A.in1 (Builtin.List.listExtendWith (.ref S) (.ref it) rv) (LZ prog w A R) (fun e s'=>R (.error e) s') s:=by
 have V:=(Walks.listRev (prog:=prog) (w:=w) (A:=A.in1) hh it l hne items).toS
 have nf:S∉[it,l]:=fun q=>by
  rcases Pb.mp q with q|q
  ·exact hi q
  ·exact hj (PB.mp q)
 unfold Builtin.List.listExtendWith
 refine OS (wpAny_typeOf hit.typeIs ?_)
 have n1:Builtin.List.listSameRef (.ref S) (.ref it)=false:=by simp[Builtin.List.listSameRef,hi]
 have n2:(Value.type "list_reverseiterator" == Value.type "list")=false:=by decide
 have n3:(Value.type "list_reverseiterator" == Value.type "tuple")=false:=by decide
 simp only[n1,n2,n3,Sg,Rm,if_false]
 refine OS (wpAny_pyIter_revIter hit (OS (wpAny_holding (xU hit ?_))))
 refine wpAny_ite_split (fun z=>absurd z (by decide +kernel)) (fun _=>?_)
 refine Pf ⟨plainId_quiet F.plain_extend_loop _,?_⟩
 have h0:((items.size:Int) - 1 - ((0:Nat):Int))=(items.size:Int) - 1:=by omega
 refine codeAny_extend_loopS V hz S nf rv items.size 0 s #[] c₀ rfl (PD _) ⟨PD _,by rw[h0];exact hit,hl⟩ hS (ItemsOf.nil _) fun s2 acc c1 mv g1 g2=>?_
 rw[Moved.eq_with mv]
 exact fin s2.heap s2.toks acc c1 (fun b o q1 q2 q3=>mv.heap b o (fun q=>(Pb.mp q).elim q1 fun q'=>q2 (PB.mp q')) q3) g1 g2
theorem yQ{R:Result→Shared→Prop}{it l S:Addr}{items:Array Value}{c₀:Nat}(hh:A.handled=none)(hit:s.heap.IsRevIter it l ((items.size:Int) - 1))(hl:s.heap.IsList l items)(hne:l≠it)(hi:S≠it)(hj:S≠l)(hz:items.size≤sizeLine)
  (hS:s.heap.get? S=some { cls:=.type "list",data:=.seq #[] c₀ })
  (fin:∀ h' tk acc c1,(∀ b o,b≠S→b≠it→s.heap.get? b=some o→h'.get? b=some o)→h'.get? S=some { cls:=.type "list",dict:=none,data:=.seq acc c1,slots:=#[] }→ItemsOf (uq items) acc items.size→R (.ok (.ret (.ref S))) { s with heap:=h',toks:=tk }) :
  codeAny (model prog w) A (.builtin "list.__iadd__" ⟨[.ref S,.ref it],[]⟩) R s:=by
 refine codeAny_builtin F.entry_list_iadd ?_
 rw[Around.under_plainId F.plain_list_iadd _]
 exact xT (rv:=.ref S) hh hit hl hne hi hj hz hS fin
theorem nX{it l:Addr}{items:Array Value}{Q:List Value→Shared→Prop}(hh:A.handled=none)(hit:s.heap.IsRevIter it l ((items.size:Int) - 1))(hl:s.heap.IsList l items)(hne:l≠it)(hz:items.size≤sizeLine)
  (fin:∀ h' tk acc,(∀ b o,b≠it→s.heap.get? b=some o→h'.get? b=some o)→ItemsOf (uq items) acc items.size→Q acc.toList { s with heap:=h',toks:=tk }):wpAny (model prog w) A (collect (.ref it)) Q E s:=by
 obtain⟨oi,hoi,_⟩:=id hit
 obtain⟨ol,hol,_⟩:=id hl
 have i1:s.heap.objs.size≠it:=Qm (OY hoi)
 have i2:s.heap.objs.size≠l:=Qm (OY hol)
 unfold collect
 refine OS (wpAny_runValue (codeAny_builtin F.entry_proto_collect ?_));rw[Around.under_plainId F.plain_proto_collect _]
 show wpAny _ A.in1 (newList [] >>= fun S=>again (.builtin "list.__iadd__" ⟨[S,.ref it],[]⟩)) _ _ s
 have up:∀ b o,s.heap.get? b=some o→(s.heap.push { cls:=.type "list",data:=.seq ([]:List Value).toArray }).get? b=some o:=fun b o e=>OT _ e
 have gS:(s.heap.push { cls:=.type "list",data:=.seq ([]:List Value).toArray }).get? s.heap.objs.size=some { cls:=.type "list",data:=.seq #[] }:=Pd _ rfl
 refine OS (wpAny_newObj_type (Pf ⟨plainId_quiet F.plain_list_iadd _,yQ (s:={ s with heap:=s.heap.push { cls:=.type "list",data:=.seq ([]:List Value).toArray } }) hh (hit.at fun o e=>up it o e) (hl.at fun o e=>up l o e) hne i1 i2 hz gS fun h' tk acc c1 q1 q2 q3=>?_⟩))
 show wpAny _ A (load s.heap.objs.size >>= _) _ _ _
 refine OS (wpAny_load q2 (Pf (fin h' tk acc (fun b o b1 e=>q1 b o (Pu (OY e)) b1 (up b o e)) q3)))
theorem ia{it a:Addr}{x:Str}{t:Tok}{items:List (Str × Tok)}{Q:Value→Shared→Prop}(hh:A.handled=none)(hit:s.heap.IsRevIter it a (((strValues items).toArray.size:Int) - 1))(hl:s.heap.IsList a (strValues items).toArray)(hne:a≠it)(hz:(strValues items).toArray.size≤sizeLine)
  (hok:JoinOk x ((items.map (·.1)).reverse)=true)
  (hq:∀ h' t' k,(∀ b o,b≠it→s.heap.get? b=some o→h'.get? b=some o)→Q (.str (Txt.join x ((items.map (·.1)).reverse)) t') { s with heap:=h',toks:=k }) :
  wpAny (model prog w) A (call (.builtin "str.join") [.str x t,.ref it]) Q E s:=by
 refine wpAny_call (codeAny_call_builtin F.slot_str_join.plain F.entry_str_join (F.slot_str_join.check _ _ _ _ _ _ _ _ (typeIs_str _ _ _) (F.args_str_join_2 _ _) ?_));rw[join_tree_other]
 refine OS (wpAny_typeOf hit.typeIs ?_)
 show wpAny _ A.in1 ((pyIter (.ref it)).tryCatch _ >>= fun j=>collect j >>= fun xs=>joinTail x xs) _ _ s
 refine OS (wpAny_tryCatch (wpAny_pyIter_revIter hit ?_))
 refine OS (nX (A:=A.in1) hh hit hl hne hz fun h' tk acc k1 k2=>?_)
 have hacc:acc.toList=(strValues items).reverse:=uF k2
 rw[hacc,show(strValues items).reverse=strValues items.reverse from(RA).symm]
 rw[← RA]at hok hq
 unfold JoinOk at hok
 rw[Rp]at hok
 have g:Gives (joinTail x (strValues items.reverse)) (joinMade x items.reverse):=by
  have g0:=gives_joinTail x items.reverse hok
  generalize items.reverse=ii at *
  match ii with
  | []=>exact g0
  | [_]=>exact g0
  | _ :: _ :: _=>exact g0
 exact g prog w A (wants Q E) { s with heap:=h',toks:=tk } (post_join items.reverse ⟨joinFit_length hok,fun t' k=>hq h' t' k k1⟩)
end
section
variable {X:Cx}
theorem bx:∀{ys:List Str} {us:List Value},j8 (ys.map V.str) us→∃ l:List (Str × Tok),strValues l=us∧l.map (·.1)=ys
 | [],_,h=>by cases h;exact⟨[],rfl,rfl⟩
 | y :: ys,_,h=>by
  cases h with
  | cons r t =>
   obtain⟨k,rfl⟩:=r
   obtain⟨l,e1,e2⟩:=bx t
   exact⟨(y,k) :: l,by rw[← e1];rfl,by rw[← e2];rfl⟩
def cq(x:Str)(ys:List Str):Prop:=(ys.map (·.length)).sum+ys.length≤1048576∧x.length≤16
theorem Cq:MtR X "str.join" (fun x xs H Q=>∃(sep:Str) (a:Addr) (ys:List Str),x = .str sep∧xs=[.ref a]∧SqL X.K H a (ys.map V.str)∧cq sep ys∧Q (.str (Txt.join sep ys)) H):=by
 intro pins s σ H x xs v us Q I rx rv h
 obtain⟨sep,a,ys,rfl,rfl,hS,⟨j1,j2⟩,q⟩:=h
 obtain⟨t,rfl⟩:=rx
 obtain⟨u,rfl,ru⟩:=S5 rv
 cases ru
 obtain⟨its,r,pl,_⟩:=I.list hS
 obtain⟨l,e1,e2⟩:=bx r
 refine SC.join (l:=l) (texts:=ys) (by rw[e1];exact pl.isList) e2 (joinOk_of_weight j1 j2) fun t' k=>⟨.str _,H,I.tok k,⟨t',rfl⟩,q⟩
theorem pR(hc:X.calm=true):MtR X "str.join" (fun x xs H Q=>∃(sep:Str) (it a:Addr) (ys:List Str),x = .str sep∧xs=[.ref it]∧H it=some (.ext (BG it a ys.length))∧SqL X.K H a (ys.map V.str)∧a≠it∧X.s₀.heap.objs.size≤it∧cq sep ys.reverse∧Q (.str (Txt.join sep ys.reverse)) (ji H it)):=by
 intro pins s σ H x xs v us Q I rx rv h
 obtain⟨sep,it,a,ys,rfl,rfl,hit,sq,hne,hge,⟨j1,j2⟩,q⟩:=h
 obtain⟨t,rfl⟩:=rx
 obtain⟨u,rfl,ru⟩:=S5 rv
 cases ru
 obtain⟨its,r,pl,hz⟩:=I.list sq
 obtain⟨l,e1,e2⟩:=bx r
 have hl:its.length=ys.length:=by rw[← e1,← e2];unfold strValues;rw[OU,OU]
 have hob:s.heap.get? it=some (revObj a ((ys.length:Int) - 1)):=(I.hok it _ hit).1
 have hsz:(strValues l).toArray.size=ys.length:=by rw[Pr,e1];exact hl
 rw[OU]at hz
 refine ia (items:=l) (I.ok.hd hc) ⟨_,hob,rfl,by rw[hsz];rfl⟩ (by rw[e1];exact pl.isList) hne (by rw[hsz];exact hz) (by rw[e2];exact joinOk_of_weight j1 j2) fun h' t' k k1=>?_
 rw[e2]
 have nit:∀{b u},H b=some u→u ≠ .ext (BG it a ys.length)→b≠it:=fun{b u} e n z=>by
  rw[z,hit]at e;exact n (Option.some.inj e).symm
 have un:Un (frs X.stack) [it] H (ji H it) s.heap h':={
  keep:=fun b o e n _ hx=>k1 b o (fun z=>hx (by simp[z])) e
  slot:=fun b o e n _ hx=>⟨o.slots,k1 b o (fun z=>hx (by simp[z])) e⟩
  free:=fun b o e n hx=>by rw[G1 (fun z=>hx (by simp[z]))];exact n
  there:=fun b o e hx=>⟨o,k1 b o (fun z=>hx (by simp[z])) e⟩
  tups:=fun b xs e=>by rw[G1 (nit e (by simp))];exact e
  frzs:=fun b o u e=>by rw[G1 (nit e (by simp))];exact e
  tbls:=fun b ps e=>⟨#[],by rw[G1 (nit e (by simp))];simpa using e⟩ }
 have ok:HOk X.prog X.w (ji H it) h':=fun b u e=>by
  have b2:b≠it:=fun z=>by rw[z,fX]at e;cases e
  rw[G1 b2]at e
  refine(I.hok b u e).stay (fun c v hcv z=>k1 c v ?_ z) (fun c z=>?_) fun c xs z=>?_
  ·rcases hcv with z2|z2
   ·rw[z2];exact b2
   ·exact nit z2 (by simp)
  ·rw[G1 (nit z (by simp))];exact z
  ·rw[G1 (nit z (by simp))];exact z
 refine⟨.str _,_,I.call (g':=s.gens) (d':=s.drawn) (t':=k) un ok I.bare (fun b hb=>?_),⟨t',rfl⟩,q⟩
 obtain rfl:b=it:=by simpa using hb
 refine⟨.inr hge,fun z=>?_,fun x c e z=>?_,fun p hp z=>?_⟩
 ·rw[z,I.free]at hit;cases hit
 ·rw[← z,I.freeC x c e]at hit;cases hit
 ·rw[← z,(I.pin p hp).2.1]at hit;cases hit
theorem vd:A3 X (.type "str") (fun xs H Q=>∃ n:Int,xs=[.int n]∧n.natAbs.log2<1920∧Q (.str (toString n)) H):=by
 intro pins s σ H xs us Q I rv h
 obtain⟨n,rfl,hn,q⟩:=h
 obtain⟨u,rfl,ru⟩:=S5 rv
 obtain⟨t,rfl⟩:=ru
 exact P.str_of_int hn ⟨.str _,H,I.tok _,⟨_,rfl⟩,q⟩
end
end L2
namespace DL
open PySem PySem.Spec L2
open PyProof.Rows hiding St
section
variable {X:Cx}
theorem fQ{K:OR}{H:Hp}:∀{ys:List Str} {vs:List V},HasL K H vs (ys.map D.str)→vs=ys.map V.str
 | [],_,r=>by cases r;rfl
 | b :: bs,_,r=>by
  cases r with
  | cons r rr=>cases r;rw[fQ rr];rfl
def EK:DRC:=fun ds M R=>∃ n:Int,ds=[.int n]∧n.natAbs.log2<1920∧R (.str (toString n)) M
theorem cn:R9 X (.type "str") EK:=A3.imp vd fun xs H Q ⟨ds,M,R,hl,am,⟨n,z,hn,r⟩,f⟩=>by
 subst z
 obtain⟨v,rfl,hv⟩:=hl.one
 cases hv
 exact⟨n,rfl,hn,f _ M r _ H (KT.refl H) am (.str _)⟩
def ES:DR2:=fun x y M R=>∃ i j,x = .str i∧y = .str j∧i.length+j.length≤sizeLine∧R (.str (i++j)) M
theorem u7:DOp X (binaryOp .Add) ES:=by
 intro pins s σ H x y v u Q I rx ry h
 obtain⟨dx,dy,M,R,hx,hy,am,⟨i,j,e1,e2,hl,r⟩,f⟩:=h
 subst e1;subst e2
 cases hx;cases hy
 exact pM pins s σ H _ _ v u Q I rx ry ⟨i,j,rfl,rfl,hl,f _ M r _ H (KT.refl H) am (.str _)⟩
def EO(x:D)(xs:List D)(M:Mem)(R:DK):Prop:=∃(sep:Str) (a:D) (ys:List Str),x = .str sep∧xs=[a]∧F3 M a=some (ys.map D.str)∧cq sep ys∧R (.str (Txt.join sep ys)) M
def zL(to:DTE)(t:DTA):DTE:=fun e M R=>to e M fun x M1=>(∃ sep,x = .str sep)∧t e M1 fun xs M2=>EO x xs M2 R
variable {o e:Expr} {to te:DTE} {t:DTA} {apos cpos p2 pos2:Pos}
theorem dU(ho:JE X o to)(ha:JA X [e] t)
  (hbase:attributeBase o "join" X.env (eval o X.env)=eval o X.env:=by rfl)
  (hfew:((backTo cpos (starEach [e] X.env)).all (fun x=>!x.1) && (backToKw cpos (keywordEach [] X.env)).all (fun x=>x.1.isSome)
   && decide ([e].length+([]:List Keyword).length+(if ([]:List Keyword).isEmpty then 0 else 1)<30))=true:=by rfl)
  (hline:(apos.endLine == cpos.line)=true:=by rfl) (hs:starEach [e] X.env=(false,eval e X.env) :: starEach [] X.env:=by rfl) (hplain:(backTo cpos (starEach [] X.env)).any (·.1)=false:=by rfl) :
  JE X (.Call (.Attribute o "join" apos) [e] [] cpos) (zL to t) :=
 ⟨(mV PySem.F.plainAttrs_str PySem.F.slot_str_join PySem.F.type_str_join Cq ho.out ha.out hbase hfew hline hs hplain).imp fun σ H Q ⟨e,M,R,ok,am,t,f⟩=>⟨e,M,_,ok,am,t,fun x M1 ⟨⟨sep,z⟩,h1⟩ v H1 k1 a1 r1=>by
  subst z
  cases r1
  refine⟨rfl,e,M1,_,ok.mono k1,a1,h1,fun zs M2 h2 vs H2 k2 a2 r2=>?_⟩
  obtain⟨sep2,a,ys,e1,e2,hi,hj,r⟩:=h2
  cases e1;subst e2
  obtain⟨v,rfl,hv⟩:=r2.one
  obtain⟨b,xs,rfl,sq,lx⟩:=C4 a2 hv hi
  have:=fQ lx
  subst this
  exact⟨sep,b,ys,rfl,rfl,sq,hj,f _ M2 r _ H2 (k1.trans k2) a2 (.str _)⟩⟩⟩
def qi(to te:DTE):DTE:=fun e M R=>to e M fun x M1=>(∃ sep,x = .str sep)∧te e M1 fun a M2=>∃(sep:Str) (ys:List Str),x = .str sep∧F3 M2 a=some (ys.map D.str)∧cq sep ys.reverse∧R (.str (Txt.join sep ys.reverse)) M2
theorem zr{H:Hp}{it:Addr}{o:HO}(h:H it=none):ji (L2.upd H it o) it=H:=by
 funext b
 by_cases z:b=it
 ·subst z;rw[fX,h]
 ·rw[G1 z,i8 z]
theorem yJ(hc:X.calm=true)(g2:Gl X "reversed")(m2:X.mg "reversed" = none)(v2:bootBuiltins "reversed" = some (.type "reversed"))(ho:JE X o to)(he:JE X e te)
  (h1:starEach [e] X.env=(false,eval e X.env) :: starEach [] X.env:=by rfl) (h2:starEach [.Call (.Name "reversed" p2) [e] [] pos2] X.env=(false,eval (.Call (.Name "reversed" p2) [e] [] pos2) X.env) :: starEach [] X.env:=by rfl)
  (hbase:attributeBase o "join" X.env (eval o X.env)=eval o X.env:=by rfl)
  (hfew:((backTo cpos (starEach [.Call (.Name "reversed" p2) [e] [] pos2] X.env)).all (fun x=>!x.1) && (backToKw cpos (keywordEach [] X.env)).all (fun x=>x.1.isSome)
   && decide ([Expr.Call (.Name "reversed" p2) [e] [] pos2].length+([]:List Keyword).length+(if ([]:List Keyword).isEmpty then 0 else 1)<30))=true:=by rfl)
  (hline:(apos.endLine == cpos.line)=true:=by rfl) (hplain:(backTo cpos (starEach [] X.env)).any (·.1)=false:=by rfl) :
  JE X (.Call (.Attribute o "join" apos) [.Call (.Name "reversed" p2) [e] [] pos2] [] cpos) (qi to te) :=
 ⟨(mV PySem.F.plainAttrs_str PySem.F.slot_str_join PySem.F.type_str_join (pR hc) ho.out (aY (iZ nU g2 m2 v2 (aY he.out fo h1) (by decide) (by decide) h1) fo h2) hbase hfew hline h2 hplain).imp fun σ H Q ⟨e,M,R,ok,am,t,f⟩=>⟨e,M,_,ok,am,t,fun x M1 ⟨⟨sep,z⟩,h1⟩ v H1 k1 a1 r1=>by
  subst z
  cases r1
  refine⟨rfl,e,M1,_,ok.mono k1,a1,h1,fun d M2 h2 v2 H2 k2 a2 r2=>?_⟩
  obtain⟨sep2,ys,e1,hi,hj,r⟩:=h2
  cases e1
  obtain⟨a,xs,rfl,sq,lx⟩:=C4 a2 r2 hi
  have:=fQ lx
  subst this
  refine⟨a,_,rfl,sq,fun it hit hne hge=>⟨sep,it,a,ys,rfl,rfl,by rw[OU];exact i6,SqL.upd sq (Ne.symm hne),Ne.symm hne,hge,hj,?_⟩⟩
  rw[zr hit]
  exact f _ M2 r _ H2 (k1.trans k2) a2 (.str _)⟩⟩
end
section
variable {e:Ev} {M:Mem} {R:DK} {to te:DTE} {t:DTA}
theorem wQ{i j:Str}:ES (.str i) (.str j) M R=(i.length+j.length≤sizeLine∧R (.str (i++j)) M):=propext ⟨fun⟨_,_,a,b,c,r⟩=>by cases a;cases b;exact⟨c,r⟩,fun⟨c,r⟩=>⟨_,_,rfl,rfl,c,r⟩⟩
theorem wq{n:Int}:EK [.int n] M R=(n.natAbs.log2<1920∧R (.str (toString n)) M):=propext ⟨fun⟨_,a,c,r⟩=>by cases a;exact⟨c,r⟩,fun⟨c,r⟩=>⟨_,rfl,c,r⟩⟩
theorem wL:zL to t e M R=to e M fun x M1=>Ag x (t e M1 fun xs M2=>EO x xs M2 R):=by
 unfold zL Ag
 congr 1;funext x M1
 exact propext ⟨fun⟨⟨s,z⟩,h⟩=>⟨s,z,h⟩,fun⟨s,z,h⟩=>⟨⟨s,z⟩,h⟩⟩
theorem rV:qi to te e M R=to e M fun x M1=>Ag x (te e M1 fun a M2=>∃(sep:Str) (ys:List Str),x = .str sep∧F3 M2 a=some (ys.map D.str)∧cq sep ys.reverse∧R (.str (Txt.join sep ys.reverse)) M2):=by
 unfold qi Ag
 congr 1;funext x M1
 exact propext ⟨fun⟨⟨s,z⟩,h⟩=>⟨s,z,h⟩,fun⟨s,z,h⟩=>⟨⟨s,z⟩,h⟩⟩
end
theorem uO{e:Value}{env env':Env}(h:env.frame=env'.frame):noteFrame e env=noteFrame e env':=by
 unfold noteFrame PySem.frameOf;rw[h]
section
variable {M:Model} {A:Around} {E:Value→Shared→Prop} {s:Shared} {B:Heap} {l:List Env} {env:Env} {L a:Addr} {cls a0:Value}
theorem uK{α:Type}{what:String}{Q:α→Shared→Prop}(hf:env.frame=some L)(x:Heap.HeldW B l a cls a0 L s.heap)
  (hQ:∀ h',Heap.HeldW B l a cls a0 L h'→s.heap.UpToSlots h'→E (.ref a) { s with heap:=h' }):wpAny M A (PySem.passOn what (.ref a) env:Sem α) Q E s:=by
 obtain⟨hkb,hen,hl,oe,vs,T,oT,ts,he,hcls,hd,h1,hnT,hTe,hT,hdT,h3⟩:=x
 have hs:3<ts.size:=(Array.getElem?_eq_some_iff.mp h3).1
 unfold PySem.passOn setFlight
 refine OS (wpAny_field he hd h1 ?_)
 rw[if_neg (show ¬ ((Value.ref T == Value.none)=true)from by simp)]
 refine OS (OS (wpAny_field he hd h1 ?_))
 rw[if_pos (show(Value.ref T != Value.none)=true from by simp),hf]
 have oth:∀ b,b≠T→(s.heap.update T (Obj.mapFields (·.setIfInBounds 3 ((some L).elim Value.none fun f=>rawInt f)))).get? b=s.heap.get? b:=fun b hb=>Qs _ _ (Ne.symm hb)
 have nre:∀ b o,s.heap.get? b=some o→(∀ vs,o.data ≠ .fields vs)→b≠T:=fun b o hb hnf q=>by
  subst q
  rw[hT]at hb
  exact hnf ts ((Option.some.inj hb)▸hdT)
 refine wpAny_setField hT hdT hs (wpAny_throw (hQ _ ⟨fun b o hbo=>(oth b ?_).trans (hkb b o hbo),hen,hl.of_keeps fun b o hb hnf=>⟨o,(oth b (nre b o hb hnf)).trans hb,rfl⟩,?_⟩ fun b o hb hnf=>⟨o.slots,(oth b (nre b o hb hnf)).trans hb⟩))
 ·rintro rfl
  rw[hnT]at hbo;cases hbo
 ·exact⟨oe,vs,T,_,_,(oth a (Ne.symm hTe)).trans he,hcls,hd,h1,hnT,hTe,Qu _ hT (Obj.isFreed_of_fields (Obj.data_mapFields hdT _)),Obj.data_mapFields hdT _,by simp[hs]⟩
theorem tU{h h' B B':Heap}:∀{l:List Env},h.FunFrames B l→(∀ b o,b∈frs l→h.get? b=some o→B'.get? b=none∧h'.get? b=some o)→h'.FunFrames B' l
 | [],_,_=>trivial
 | env :: r,⟨k1,⟨L,o,hf,hn,ho,hd⟩,hr⟩,k=>by
  have e:frs (env :: r)=L :: frs r:=nK hf
  obtain⟨q1,q2⟩:=k L o (by rw[e];exact Ph) ho
  exact⟨k1,⟨L,o,hf,q1,q2,hd⟩,tU hr fun b o hb ho=>k b o (by rw[e];exact OW _ hb) ho⟩
theorem yS{h h':Heap}{C:Addr}(x:Heap.HeldW B l a cls a0 L h)(sb:Heap.SameBut C h h')(hC:∃ o,B.get? C=some o) :
  ∃ B',Heap.HeldW B' l a cls a0 L h'∧(∀ b o,h'.get? b=some o→(b=C ∨ ∃ o',B.get? b=some o')→B'.get? b=some o)∧∀ b o,B.get? b=some o→b≠C→B'.get? b=some o:=by
 obtain⟨hkb,hen,hl,oe,vs,T,oT,ts,he,hcls,hd,h1,hnT,hTe,hT,hdT,h3⟩:=x
 obtain⟨oC,hC⟩:=hC
 have nf:C∉frs l:=fun z=>by rw[(hl.mem z).1]at hC;cases hC
 have na:a≠C:=fun z=>by rw[← z,hen]at hC;cases hC
 have nT:T≠C:=fun z=>by rw[← z,hnT]at hC;cases hC
 have inB:∀ b o,B.get? b=some o→b∉(a :: T :: frs l):=fun b o hb hm=>by
  rcases Pb.mp hm with rfl|hm
  ·rw[hen]at hb;cases hb
  ·rcases Pb.mp hm with rfl|hm
   ·rw[hnT]at hb;cases hb
   ·rw[(hl.mem hm).1]at hb;cases hb
 have eqC:∀ b,b≠C→h'.get? b=h.get? b:=fun b hb=>sb.2 b hb
 refine⟨PySem.W.hideAll h' (a :: T :: frs l),⟨fun b o q=>PySem.W.of_hideAll _ q,PySem.W.hideAll_none _ Ph,tU hl fun b o hb ho=>⟨PySem.W.hideAll_none _ (OW _ (OW _ hb)),?_⟩,?_⟩,fun b o hb hc=>?_,fun b o hb hne=>?_⟩
 ·rw[eqC b fun z=>nf (z▸hb)];exact ho
 ·exact⟨oe,vs,T,oT,ts,(eqC a na).trans he,hcls,hd,h1,PySem.W.hideAll_none _ (OW _ Ph),hTe,(eqC T nT).trans hT,hdT,h3⟩
 ·refine PySem.W.hideAll_get _ hb ?_
  rcases hc with rfl|⟨o',hc⟩
  ·exact inB _ oC hC
  ·exact inB b o' hc
 ·exact PySem.W.hideAll_get _ ((eqC b hne).trans (hkb b o hb)) (inB b o hb)
end
section
variable {M:Model} {A:Around} {E:Value→Shared→Prop} {s:Shared} {env:Env}
def CO(M:Model)(A:Around)(E:Value→Shared→Prop)(Q:Value→Shared→Prop)(acc:Value)(cenv:Env)(r:Result)(s':Shared):Prop:=∃ m,s'.heap.Ns cenv.locals m∧∀ h' m',h'.Ns cenv.locals m'→Heap.SameBut cenv.locals s'.heap h'→match r with
 | .ok _=>Q acc { s' with heap:=h' }
 | .error x=>wpAny M A (PySem.passOn "comprehension.variables-let-go" x cenv:Sem Value) (fun _ _=>False) E { s' with heap:=h' }
theorem Ih{e:Expr}{scope:Scope}{pos:Pos}{newAcc first:Sem Value}{g:Comprehension}{gs:List Comprehension}{cl:List (Str × Addr)}{Q:Value→Shared→Prop}
  (k1:clausesOf e=g :: gs) (k2:∀ x,foldedSetIterable g.iter env x=pure x) (k3:closureFor scope env=pure cl) (k4:scope.kind = .function) (k5:∀ x∈scope.names,x.2 = .local→scope.names.lookup x.1=some .local)
  (h:wpAny M A first (fun x s1=>wpAny M A (pyIter x) (fun it s2=>wpAny M A newAcc (fun acc s3=>wpAny M A (newFunctionEnv scope env.globals cl [] env.qual none .none (some env)) (fun cenv s4 =>
    codeAny M A (.compStart e 0 it acc { cenv with scope:=relabel scope env }) (CO M A E Q acc { cenv with scope:=relabel scope env }) s4) E s3) E s2) E s1) E s) :
  wpAny M A (comprehension e scope env pos newAcc false first none) Q E s:=by
 unfold comprehension
 rw[k3,k1]
 refine OS (wpAny_mono h (fun x s1 h1=>?_) fun _ _ z=>z)
 refine OS (wpAny_standAt (OS (wpAny_of_eq (k2 x) ?_)))
 refine OS (wpAny_holding (wpAny_mono h1 (fun it s2 h2=>?_) fun _ _ z=>z))
 refine wpAny_standIf (OS (wpAny_mono h2 (fun acc s3 h3=>?_) fun _ _ z=>z))
 refine OS (Pf (OS (wpAny_mono h3 (fun cenv s4 h4=>?_) fun _ _ z=>z)))
 dsimp only
 have hv:∀ x∈(scope.names.filter fun x=>(x.2 == .local || x.2 == .cell) && x.1 != (".0" : Str)).reverse,x.2 = .local→Env.kindOf { cenv with scope:=relabel scope env } x.1=some .local :=
  fun x hx hl=>lookup_relabel_local (k5 x (QV.mp (List.mem_reverse.mp hx)).1 hl)
 refine wpAny_holding (OS (wpAny_attempt (wpAny_holding (wpAny_run (codeAny_mono h4 fun r s' hr=>?_)))))
 obtain⟨m,hn,hr⟩:=hr
 cases r with
 | ok f=>exact OS (wpAny_holding (wpAny_comp_letGo (cenv:={ cenv with scope:=relabel scope env }) k4 _ s' m hv hn fun h' m' nn sb=>Pf (hr h' m' nn sb)))
 | error x=>exact OS (wpAny_holding (wpAny_comp_letGo (cenv:={ cenv with scope:=relabel scope env }) k4 _ s' m hv hn fun h' m' nn sb=>wpAny_mono (hr h' m' nn sb) (fun _ _ f=>f.elim) fun _ _ y=>y))
end
section
variable {X:Cx} {elt tg iter:Expr} {scope:Scope} {cl:List (Str × Addr)} {tgs cps:List Str} {caps:List Nat} {wi:TI} {g:TG} {tc:TT} {te:TE} {pos:Pos} {ifs:List Expr} {EX:Value→Hp→Prop}
theorem nV{pins:List (Addr × Obj)}{σ0:St}{σ:St}{H3:Hp}{s3:Shared}{fp:List Addr}{it D C:Addr}{tn:Nat→Heap→Prop}{J:It}{h₁:Heap}{tk:Nat}{m:Str→Option Value}{R:Result→Shared→Prop}{Qd:Hp→Prop}
  (hc:X.calm=true) (hcell:∀ x∈scope.names,x.2 ≠ .cell) (hkind:scope.kind = .function)
  (hcl:∀ x c,cl.lookup x=some c→X.env.cells.lookup x=some c) (hhas:∀ x,(x,NameKind.free)∈scope.names→∃ c,cl.lookup x=some c)
  (hsc:∀ x∈cps,(relabel scope X.env).names.lookup x=some .cell∨(relabel scope X.env).names.lookup x=some .free) (hl:caps.length=cps.length)
  (hcap:∀(j:Nat) (x:Str) (v:V),cps[j]? = some x→(caps.map fun i=>(σ0[i]?).getD none)[j]? = some (some v)→oz s3 H3 fp cl x v)
  (hg:∀ cl s3 H3 C fp pins,PG (cxF X scope cl (tgs++cps) s3 H3 C fp pins) tg g) (hq:∀ cl s3 H3 C fp pins,Y6 (cxF X scope cl (tgs++cps) s3 H3 C fp pins) ifs tc) (he:∀ cl s3 H3 C fp pins,PE (Cx.wish (cxF X scope cl (tgs++cps) s3 H3 C fp pins) (XP (cxF X scope cl (tgs++cps) s3 H3 C fp pins) false EX)) elt te)
  (I3:Inv X pins σ H3 s3) (T:la X.prog X.w X.K tg J fp it tn) (st3:tn 0 s3.heap) (f3:∀ b∈fp,R5 X pins H3 b) (hC:C=s3.heap.objs.size) (hn:h₁.Ns C m) (hk:∀ b o,s3.heap.get? b=some o→h₁.get? b=some o)
  (W:Nat→Nat→Hp→Prop) (m0:Nat) (w0:W 0 m0 H3)
  (turn:∀ i m H,W i m H→(J.stop i H∧Qd H)∨(J.go i H∧∀ x H',J.yld i H x H'→g x (gf tgs.length caps σ0) H' fun σ2 H2=>tc σ2 H2 fun b H2'=>if b=true then te σ2 H2' fun v H3=>∃ ys,H3 D=some (.lst ys)∧ys.length<sizeLine∧∃ m',m'<m∧W (i+1) m' (upd H3 D (.lst (ys++[v])))else ∃ m',m'<m∧W (i+1) m' H2'))
  (hE:∀ e s',XP (cxF X scope cl (tgs++cps) s3 H3 C fp pins) false EX e s'→notedBy (model X.prog X.w) X.A (compEnvC scope cl C X.env) (fun e s'=>R (.error e) s') e s')
  (hR:∀ s' H' σ',Inv (cxF X scope cl (tgs++cps) s3 H3 C fp pins) [] σ' H' s'→Qd H'→R (.ok .next) s') :
  codeAny (model X.prog X.w) X.A (.compStart (.ListComp elt [⟨tg,iter,ifs,0⟩] scope pos) 0 (.ref it) (.ref D) (compEnvC scope cl C X.env)) R { s3 with heap:=h₁,toks:=tk }:=by
 have lt3:∀ b∈fp,b<s3.heap.objs.size:=fun b hb=>by
  obtain⟨o,e,_⟩:=T.obj 0 _ st3 b hb
  exact OY e
 have ok':(cxF X scope cl (tgs++cps) s3 H3 C fp pins).Ok:={
  mod:=I3.ok.mod
  kind:=hkind
  glob:=I3.ok.glob
  blt:=I3.ok.blt
  above:=QO hC.symm
  inj:=fun x y c e e'=>I3.ok.inj x y c (hcl x c e) (hcl y c e')
  has:=fun x h=>by
   rcases h with h|h
   ·exact hhas x (K7 h (.inl rfl) hcell)
   ·exact hhas x (K7 h (.inr rfl) hcell)
  cab:=fun x c h=>by cases h
  hd:=fun _=>I3.ok.hd hc
  frames:=I3.ok.frames
  stk:=.inl rfl
  exf:=fun b hb=>⟨fun z=>by
   have z':b=C:=z
   have h1:=lt3 b hb
   rw[z',hC]at h1
   exact PV _ h1,fun x c e=>(f3 b hb).2.2.2.2.1 x c (hcl x c e)⟩
  bs:=fun b o e=>I3.bs b o e
  bsz:=Pa I3.ok.bsz I3.sz
  noex:=fun b o e hb=>by
   obtain⟨_,_,_,q,_⟩:=f3 b hb
   rcases q with q|q
   ·exact I3.ok.noex b o e q
   ·have h1:=OY e
    exact absurd (OV (OV h1 I3.ok.bsz) q) (PV _)
  exfs:=fun b hb z=>by
   obtain⟨_,q1,q2,_⟩:=f3 b hb
   rcases Pb.mp (I3.stkSub b z)with y|y
   ·exact q1 y
   ·exact q2 y
  funs:=I3.stack
  frf:=I3.stkFree }
 have J0:Inv (cxF X scope cl (tgs++cps) s3 H3 C fp pins) [] (PK (tgs++cps).length none) H3 { s3 with heap:=h₁,toks:=tk }:={
  ok:=ok'
  os:=rfl
  bare:=I3.bare
  base:=Un.kept hk
  loc:=⟨m,hn,fun i x v _ e _=>by
   rw[PM]at e
   split at e<;>cases e⟩
  cell:=fun x c e=>by
   obtain⟨v,o,ho,hd⟩:=I3.cell x c (hcl x c e)
   exact⟨v,o,hk c o ho,hd⟩
  free:=I3.hok.fresh (QO hC.symm)
  freeC:=fun x c e=>I3.freeC x c (hcl x c e)
  pin:=fun p hp=>by
   have hp':p∈X.pn++pins:=by simpa[cxF]using hp
   obtain⟨a1,a2,a3,a4,a5⟩:=I3.pin p hp'
   refine⟨hk _ _ a1,a2,fun z=>?_,fun z=>?_,a5⟩
   ·have z':p.1=C:=z
    have h1:=OY a1
    rw[z',hC]at h1
    exact PV _ h1
   ·rcases Pb.mp (I3.stkSub _ z)with y|y
    ·exact a3 y
    ·exact a4 y
  hok:=I3.hok.kept hk
  len:=by simp[cxF] }
 have stat:∀{H':Hp},(∀ b∈fp,H' b=none)→∀ b∈fp,R5 (cxF X scope cl (tgs++cps) s3 H3 C fp pins) [] H' b:=fun hn b hb=>by
  obtain⟨_,_,_,_,_,q⟩:=f3 b hb
  exact⟨hn b hb,(ok'.exf b hb).1,ok'.exfs b hb,.inl hb,(ok'.exf b hb).2,fun p hp=>q p (by simpa[cxF]using hp)⟩
 have loop:codeAny (model X.prog X.w) X.A (.compLoop (.ListComp elt [⟨tg,iter,ifs,0⟩] scope pos) 0 (.ref it) (.ref D) (compEnvC scope cl C X.env)) R { s3 with heap:=h₁,toks:=tk }:=by
  refine bp (fun n s'=>∃ i σ' H',Inv (cxF X scope cl (tgs++cps) s3 H3 C fp pins) [] σ' H' s'∧tn i s'.heap∧(∀ b∈fp,H' b=none)∧W i n H') ?_ m0
   ⟨0,_,H3,J0,T.keep _ _ _ st3 fun b hb o e=>hk b o e,fun b hb=>(f3 b hb).1,w0⟩
  rintro n s4 ⟨i,σ4,H4,I4,st4,fr4,w4⟩
  rcases turn i n H4 w4 with⟨stop,qn⟩|⟨go,step⟩
  ·refine thn (T.done (cxF X scope cl (tgs++cps) s3 H3 C fp pins) rfl rfl rfl hc i [] s4 σ4 H4 _ I4 (stat fr4) st4 stop) fun r s5 ⟨hr,I5⟩=>?_
   subst hr
   exact hR s5 H4 σ4 I5 qn
  ·refine thn (T.item (cxF X scope cl (tgs++cps) s3 H3 C fp pins) rfl rfl rfl hc i [] s4 σ4 H4 _ I4 (stat fr4) st4 go) fun r s5 ⟨u,hr,h5⟩=>?_
   subst hr
   refine thn h5 fun _ s6 ⟨x,H6,I6,r6,y6,st6,fr6⟩=>?_
   have I6w:=I6.reset hsc hl hcap
   have I6':=I6w.pinned (stat fr6) (T.obj _ _ st6)
   refine wpAny_mono (hg cl s3 H3 C fp pins _ s6 _ H6 x u _ I6' r6 (step x H6 y6)) (fun _ s7 ⟨σ7,H7,I7,q7⟩=>?_) fun _ _ z=>z.elim
   refine wpAny_mono (hq cl s3 H3 C fp pins _ s7 σ7 H7 _ I7 q7) (fun b s7' ⟨H7',I7',q7'⟩=>?_) fun _ _ z=>z.elim
   cases b with
   | false =>
    obtain⟨m',hm,w8⟩:=q7'
    refine⟨m',hm,i+1,σ7,H7',I7'.unpinned,T.keep _ _ _ st6 fun b hb o e=>(I7'.pin (b,o) (Pg _ (Pg _ (y9 hb e)))).1,fun b hb=>?_,w8⟩
    obtain⟨o,e,d⟩:=T.obj _ _ st6 b hb
    exact(I7'.pin (b,o) (Pg _ (Pg _ (y9 hb e)))).2.1
   | true =>
    refine wpAny_mono (he cl s3 H3 C fp pins _ s7' σ7 H7' _ (I7'.wish _) q7') (fun v s8 ⟨y,H8,I8',r8,q8⟩=>?_) fun e s' z=>hE e s' z
    have I8:=I8'.unwish
    obtain⟨ys,hy,hz,m',hm,w8⟩:=q8
    refine wpAny_mono (bY (X:=cxF X scope cl (tgs++cps) s3 H3 C fp pins) _ s8 σ7 H8 (.ref D) [y] (.ref D) [v] (fun _ H9=>W (i+1) m' H9) I8 rfl (.cons r8 .nil) ⟨D,ys,y,rfl,rfl,hy,hz,w8⟩) (fun _ s9 ⟨_,H9,I9,_,w9⟩=>?_) fun _ _ z=>z.elim
    refine⟨m',hm,i+1,σ7,H9,I9.unpinned,T.keep _ _ _ st6 fun b hb o e=>(I9.pin (b,o) (Pg _ (Pg _ (y9 hb e)))).1,fun b hb=>?_,w9⟩
    obtain⟨o,e,d⟩:=T.obj _ _ st6 b hb
    exact(I9.pin (b,o) (Pg _ (Pg _ (y9 hb e)))).2.1
 exact codeAny_compStart_list loop (T.self _ 0 _ _ _ (T.keep _ _ _ st3 fun b hb o e=>hk b o e) loop)
theorem vf{mk:Bool}(hst:X.stack=X.env :: X.outer)(hfrm:X.env.frame=some X.env.locals)(hc:X.calm=true)(hcell:∀ x∈scope.names,x.2 ≠ .cell)(hkind:scope.kind = .function)(hnames:∀ x∈scope.names,x.2 = .local→scope.names.lookup x.1=some .local)
  (hfr:∀ x∈scope.names,x.2 = .free→x.1∈cps) (hN:caps.map (fun i=>X.N[i]?)=cps.map some) (hX:∀ x∈cps,X.env.scope.names.lookup x=some .cell∧scope.names.lookup x=some .free)
  (hsc:∀ x∈cps,(relabel scope X.env).names.lookup x=some .cell∨(relabel scope X.env).names.lookup x=some .free)
  (hi:PI X.nox tg iter wi) (hg:∀ cl s3 H3 C fp pins,PG (cxF X scope cl (tgs++cps) s3 H3 C fp pins) tg g) (hq:∀ cl s3 H3 C fp pins,Y6 (cxF X scope cl (tgs++cps) s3 H3 C fp pins) ifs tc) (he:∀ cl s3 H3 C fp pins,PE (Cx.wish (cxF X scope cl (tgs++cps) s3 H3 C fp pins) (XP (cxF X scope cl (tgs++cps) s3 H3 C fp pins) false EX)) elt te)
  (hs:∀ x,foldedSetIterable iter X.env x=pure x) {Qf:Value→Shared→Prop} {pins:List (Addr × Obj)} {s:Shared} {σ:St} {H:Hp} {Q:VK} (I:Inv X pins σ H s) (h:eP tgs.length caps wi g tc te σ H Q)
  (hU:∀(D:Addr) (s':Shared) (H4:Hp),Inv X pins σ H4 s'→Q (.ref D) H4→Qf (.ref D) s') :
  wpAny (model X.prog X.w) X.A (comprehension (.ListComp elt [⟨tg,iter,ifs,0⟩] scope pos) scope X.env (firstIterPos [⟨tg,iter,ifs,0⟩] pos) (newList []) false (eval iter X.env) none) Qf (XP X mk EX) s:=by
 have hl:caps.length=cps.length:=by
  have:=congrArg Qn hN
  simpa using this
 have hcells:∀ n,(n,NameKind.free)∈scope.names→∃ c,X.env.cells.lookup n=some c:=fun n hn=>I.ok.has n (.inl (hX n (hfr _ hn rfl)).1)
 refine Ih rfl hs (cN hcells) hkind hnames (wpAny_mono (hi pins s σ H _ (I.wish _) h) (fun v s1 h1=>wpAny_mono h1 (fun itv s2 h2=>?_) fun _ _ z=>z.elim) fun _ _ z=>z.elim)
 obtain⟨it,fp,tn,J,H',e,I2,T,st2,f2,hW⟩:=h2
 subst e
 have I2:Inv X pins σ H' s2:=I2.unwish
 refine wpAny_newObj_type (hd:=by size_fits) (wpAny_newFunctionEnv hcell (by intro y hy;simp at hy) (fun h₁ hns₁ hsb₁=>?_) hkind)
 dsimp only at hns₁ hsb₁ ⊢
 have I3:=I2.lnew (ys:=[]) (its:=[]) (t':=s2.toks) .nil (PD _)
 obtain⟨W,⟨m0,w0⟩,turn⟩:=hW _ I2.fresh
 have st3:tn 0 (s2.heap.push { cls:=.type "list",data:=.seq ([]:List Value).toArray }):=T.keep _ _ _ st2 fun b hb o e=>OT _ e
 have f3:∀ b∈fp,R5 X pins (upd H' s2.heap.objs.size (.lst [])) b:=fun b hb=>by
  obtain⟨q0,q⟩:=f2 b hb
  obtain⟨o,e,_⟩:=T.obj 0 _ st2 b hb
  exact⟨by rw[i8 (Pu (OY e))];exact q0,q⟩
 have old:∀ b o,(s2.heap.push { cls:=.type "list",data:=.seq ([]:List Value).toArray }).get? b=some o→h₁.get? b=some o:=fun b o e =>
  hsb₁.extBut b o (Pu (OY e)) (OT _ e)
 have hcap:∀(j:Nat) (x:Str) (v:V),cps[j]? = some x→(caps.map fun i=>(σ[i]?).getD none)[j]? = some (some v) →
   oz { s2 with heap:=s2.heap.push { cls:=.type "list",data:=.seq ([]:List Value).toArray },toks:=s2.toks } (upd H' s2.heap.objs.size (.lst [])) fp (G2 X.env.cells scope.names []) x v:=fun j x v ex ev=>by
  have hx:=hX x (Pn ex)
  have hj:(caps.map (fun i=>X.N[i]?))[j]? = some (some x):=by rw[hN,Py,ex];rfl
  rw[Py]at ev hj
  cases hcj:caps[j]? with
  | none=>rw[hcj]at ev;cases ev
  | some i =>
   rw[hcj]at ev hj
   have ev':(σ[i]?).getD none=some v:=by simpa using ev
   have hj':X.N[i]? = some x:=by simpa using hj
   have es:σ[i]? = some (some v):=by
    cases q:σ[i]? with
    | none=>rw[q]at ev';cases ev'
    | some w=>rw[q]at ev';rw[show w=some v by simpa using ev']
   obtain⟨m,hn,hlook⟩:=I3.loc
   obtain⟨u,ru,lk⟩:=hlook i x v hj' es (.inr (.inl hx.1))
   rcases lk with⟨k1,_⟩|⟨_,c,hc1,o,ho,hd⟩
   ·have k1':X.env.scope.names.lookup x=some .local:=k1
    rw[hx.1]at k1';cases k1'
   ·have hmem:(x,NameKind.free)∈scope.names:=by
     have hlk:=hx.2
     have go:∀ l:List (Str × NameKind),l.lookup x=some .free→(x,NameKind.free)∈l:=by
      intro l
      induction l with
      | nil=>intro z;cases z
      | cons p r ih =>
       intro z
       obtain⟨n,k⟩:=p
       rw[Qq]at z
       split at z
       ·rename_i q;have q':x=n:=by simpa using q
        have z':k = .free:=by simpa using z
        rw[q',z'];exact Ph
       ·exact OW _ (ih z)
     exact go _ hlk
    obtain⟨c',hc'⟩:=J6 (cells:=X.env.cells) scope.names [] (.inl hmem)
    have:=F6 scope.names [] hcells (fun y d z=>by cases z) hc'
    rw[hc1]at this
    cases this
    refine⟨u,c,o,ru,hc',ho,hd,I3.freeC x c hc1,fun hb=>?_⟩
    exact(f3 c hb).2.2.2.2.1 x c hc1 rfl
 have outer:∀(pins':List (Addr × Obj)) (σ':St) (H4:Hp) (s':Shared),Inv (cxF X scope (G2 X.env.cells scope.names []) (tgs++cps) { s2 with heap:=s2.heap.push { cls:=.type "list",data:=.seq ([]:List Value).toArray },toks:=s2.toks } (upd H' s2.heap.objs.size (.lst [])) (s2.heap.push { cls:=.type "list",data:=.seq ([]:List Value).toArray }).objs.size fp pins) pins' σ' H4 s' →
   ∀ h',Heap.SameBut (s2.heap.push { cls:=.type "list",data:=.seq ([]:List Value).toArray }).objs.size s'.heap h'→Inv X pins σ H4 { s' with heap:=h' }:=by
  intro pins' σ' H4 s' I4 h' hsb
  have hCfree:H4 _=none:=I4.free
  have nC:∀ b u,H4 b=some u→b≠(s2.heap.push { cls:=.type "list",data:=.seq ([]:List Value).toArray }).objs.size:=fun b u e z=>by
   rw[z]at e
   have:=e.symm.trans hCfree
   cases this
  have lt:∀ b o,(s2.heap.push { cls:=.type "list",data:=.seq ([]:List Value).toArray }).get? b=some o→b≠(s2.heap.push { cls:=.type "list",data:=.seq ([]:List Value).toArray }).objs.size:=fun b o e=>Pu (OY e)
  have ub:=I4.base
  have un:Un (frs X.stack) fp (upd H' s2.heap.objs.size (.lst [])) H4 (s2.heap.push { cls:=.type "list",data:=.seq ([]:List Value).toArray }) h':={
   keep:=fun b o e n x y=>(hsb.2 b (lt b o e)).trans (ub.keep b o e n x y)
   slot:=fun b o e n x y=>let ⟨q,z⟩:=ub.slot b o e n x y;⟨q,(hsb.2 b (lt b o e)).trans z⟩
   free:=ub.free
   there:=fun b o e y=>let ⟨q,z⟩:=ub.there b o e y;⟨q,(hsb.2 b (lt b o e)).trans z⟩
   tups:=ub.tups
   frzs:=ub.frzs
   tbls:=ub.tbls }
  refine I3.call' (s':={ s' with heap:=h' }) I4.os un (fun b u e=>?_) I4.bare fun b hb=>?_
  ·refine(I4.hok b u e).stay (fun c v hcv q=>(hsb.2 c ?_).trans q) (fun _ q=>q) fun _ _ q=>q
   rcases hcv with z|z
   ·rw[z];exact nC b u e
   ·exact nC c _ z
  ·obtain⟨q0,q1,q2,q3,q4,q5⟩:=f3 b hb
   exact⟨q3,q1,q4,q5⟩
 refine nV (s3:={ s2 with heap:=s2.heap.push { cls:=.type "list",data:=.seq ([]:List Value).toArray },toks:=s2.toks }) (Qd:=fun H=>Q (.ref s2.heap.objs.size) H) (tk:=s2.toks+([]:List (Str × Value)).length) (cl:=G2 X.env.cells scope.names [])
  hc hcell hkind (fun x c z=>F6 scope.names [] hcells (fun y d z=>by cases z) z) (fun x z=>J6 scope.names [] (.inl z)) hsc hl hcap hg hq he I3 T st3 f3 rfl hns₁ old W m0 w0 turn ?_ fun s' H4 σ4 I4 q4=>?_
 ·intro e s' hx
  rcases hx with⟨z,_⟩|⟨pins',σ',Hc,sc,a,cls,a0,H4,B,I4,rfl,ho,hgn,un,hok,hB,cov,fl,hEX⟩
  ·cases z
  ·unfold notedBy
   show wpAny _ _ (noteFrame (.ref a) (compEnvC scope (G2 X.env.cells scope.names []) (s2.heap.push { cls:=.type "list",data:=.seq ([]:List Value).toArray }).objs.size X.env)) _ _ _
   rw[uO (e:=.ref a) (env:=compEnvC scope (G2 X.env.cells scope.names []) (s2.heap.push { cls:=.type "list",data:=.seq ([]:List Value).toArray }).objs.size X.env) (env':=X.env) rfl]
   have hfr:X.A.frames=some (X.env :: X.outer):=by rw[← hst];exact I.ok.frames
   have fl':Air B (X.env :: X.outer) a cls a0 s'.heap:=by rw[← hst];exact fl
   have fre:∀ b∈frs X.stack,H4 b=none:=fun b hb=>by
    obtain⟨_,o,hob,_⟩:=I4.stack.mem hb
    exact un.free b o hob (I4.stkFree b hb) (by simp)
   refine Air.looks hfr hfrm fl' fun h1 held ups=>?_
   obtain⟨un2,hok2,cov2⟩:=oo rfl fre un hok cov fl held.1 ups
   rw[← hst]at held
   obtain⟨m,hn,_⟩:=I4.loc
   obtain⟨oC,es,ep,hoC,hdC⟩:=id hn
   have hCH:=I4.free
   let C:Addr:=(s2.heap.push { cls:=.type "list",data:=.seq ([]:List Value).toArray }).objs.size
   have nC:C∉frs X.stack:=fun z=>by
    obtain⟨_,o,hob,_⟩:=I3.stack.mem z
    exact PV _ (OY hob)
   have hoC:sc.heap.get? C=some oC:=hoC
   have hCH:Hc C=none:=hCH
   have h1C:h1.get? C=some oC:=un2.keep C oC hoC hCH nC (by simp)
   have fC:H4 C=none:=un2.free C oC hoC hCH (by simp)
   refine⟨m,⟨oC,es,ep,h1C,hdC⟩,fun h2 m2 nn sb=>?_⟩
   obtain⟨o2,_,_,h2C,_⟩:=id nn
   have h2C:h2.get? C=some o2:=h2C
   have sb:Heap.SameBut C h1 h2:=sb
   obtain⟨B',held',b1,b2⟩:=yS held sb ⟨oC,cov2 C oC h1C (.inr ⟨oC,hoC⟩) nC⟩
   have fz:o2.isFreed=false:=(Heap.get?_some_iff.mp h2C).2
   have scC:(sc.heap.update C fun _=>o2).get? C=some o2:=Qu (fun _=>o2) hoC fz
   have scO:∀ b,b≠C→(sc.heap.update C fun _=>o2).get? b=sc.heap.get? b:=fun b hb=>Qs _ _ (Ne.symm hb)
   have Io:=outer pins' σ' Hc sc I4 _ (Heap.SameBut.update sc.heap C fun _=>o2)
   have unA:Un (frs X.stack) [] Hc H4 (sc.heap.update C fun _=>o2) h2:={
    keep:=fun b o q n nb nx=>by
     by_cases z:b=C
     ·subst z;rw[scC]at q;rw[← q];exact h2C
     ·rw[scO b z]at q;exact(sb.2 b z).trans (un2.keep b o q n nb nx)
    slot:=fun b o q n nb nx=>by
     have z:b≠C:=fun z=>nC (z▸nb)
     rw[scO b z]at q
     obtain⟨sl,k⟩:=un2.slot b o q n nb nx
     exact⟨sl,(sb.2 b z).trans k⟩
    free:=fun b o q n nx=>by
     by_cases z:b=C
     ·subst z;exact fC
     ·rw[scO b z]at q;exact un2.free b o q n nx
    there:=fun b o q nx=>by
     by_cases z:b=C
     ·subst z;exact⟨_,h2C⟩
     ·rw[scO b z]at q
      obtain⟨o',k⟩:=un2.there b o q nx
      exact⟨o',(sb.2 b z).trans k⟩
    tups:=un2.tups
    frzs:=un2.frzs
    tbls:=un2.tbls }
   have neC:∀ b u,H4 b=some u→b≠C:=fun b u q z=>by rw[z,fC]at q;cases q
   have hokA:HOk X.prog X.w H4 h2:=fun b u q=>(hok2 b u q).stay (fun c v hc q2=>(sb.2 c (by
    rcases hc with rfl|hc
    ·exact neC _ u q
    ·exact neC c _ hc)).trans q2) (fun _ q=>q) fun _ _ q=>q
   have covA:Cov B' (sc.heap.update C fun _=>o2) H4 (frs X.stack) h2:=fun b o q c nb=>by
    by_cases z:b=C
    ·exact b1 b o q (.inl z)
    ·have q1:h1.get? b=some o:=(sb.2 b z).symm.trans q
     refine b2 b o (cov2 b o q1 (c.imp id fun⟨o0,k⟩=>⟨o0,?_⟩) nb) z
     rw[scO b z]at k;exact k
   have hBB:X.base.StaysIn B':=fun b o q=>b2 b o (hB b o q) fun z=>by
    have h1:=OY (I3.bk b o q)
    rw[z]at h1
    exact PV _ h1
   refine uK (L:=X.env.locals) (env:=compEnvC scope (G2 X.env.cells scope.names []) C X.env) hfrm held' fun h3 held3 ups3=>?_
   obtain⟨un3,hok3,cov3⟩:=oo rfl fre unA hokA covA (.inr ⟨_,_,_,hst,hfrm,held'⟩) held3.1 ups3
   exact .inr ⟨pins,σ,Hc,_,a,cls,a0,H4,B',Io,rfl,ho,hgn,un3,hok3,hBB,cov3,.inr ⟨_,_,_,hst,hfrm,held3⟩,hEX⟩
 ·obtain⟨m4,hn4,_⟩:=I4.loc
  exact⟨m4,hn4,fun h' _ _ hsb=>hU _ _ H4 (outer [] σ4 H4 s' I4 h' hsb) q4⟩
theorem yk{mk:Bool}(hst:X.stack=X.env :: X.outer)(hfrm:X.env.frame=some X.env.locals)(hc:X.calm=true)(hcell:∀ x∈scope.names,x.2 ≠ .cell)(hkind:scope.kind = .function)(hnames:∀ x∈scope.names,x.2 = .local→scope.names.lookup x.1=some .local)
  (hfr:∀ x∈scope.names,x.2 = .free→x.1∈cps) (hN:caps.map (fun i=>X.N[i]?)=cps.map some) (hX:∀ x∈cps,X.env.scope.names.lookup x=some .cell∧scope.names.lookup x=some .free)
  (hsc:∀ x∈cps,(relabel scope X.env).names.lookup x=some .cell∨(relabel scope X.env).names.lookup x=some .free)
  (hi:PI X.nox tg iter wi) (hg:∀ cl s3 H3 C fp pins,PG (cxF X scope cl (tgs++cps) s3 H3 C fp pins) tg g) (hq:∀ cl s3 H3 C fp pins,Y6 (cxF X scope cl (tgs++cps) s3 H3 C fp pins) ifs tc) (he:∀ cl s3 H3 C fp pins,PE (Cx.wish (cxF X scope cl (tgs++cps) s3 H3 C fp pins) (XP (cxF X scope cl (tgs++cps) s3 H3 C fp pins) false EX)) elt te)
  (hs:∀ x,foldedSetIterable iter X.env x=pure x):PE (X.wish (XP X mk EX)) (.ListComp elt [⟨tg,iter,ifs,0⟩] scope pos) (eP tgs.length caps wi g tc te):=by
 intro pins s σ H Q I h
 rw[eval_ListComp]
 exact vf hst hfrm hc hcell hkind hnames hfr hN hX hsc hi hg hq he hs I.unwish h fun D s' H4 I4 q=>⟨.ref D,H4,I4.wish _,rfl,q⟩
end
section
variable {g:DTG} {tc:L1} {te:DTE}
theorem qo{K:OR}{H₀ H1:Hp}(k0:KT H₀ H1){J:It}{ds:List D}{stay:Mem→Prop}{M1:Mem}{n:Nat}{caps:List Nat}{σ:St}{e:Ev}{E:List D→Mem→Prop}{W:Nat→List D→Mem→Prop}{D0:Addr}{Qd:Hp→Prop}(ok:v7 K H1 σ e)(a1:m7 K H1 M1)(wk:ib K H1 J ds stay)(hD:H1 D0=none)
  (C:gi (cX n caps e) g tc te ds stay M1 E W) (fin:∀ ys M xs H',KT H1 H'→m7 K H' M→H' D0=some (.lst xs)→M D0=none→HasL K H' xs ys→E ys M→Qd H') (i m:Nat) (H2:Hp) (w:CWH K H1 D0 ds.length W i m H2) :
  (J.stop i H2∧Qd H2)∨(J.go i H2∧∀ x H',J.yld i H2 x H'→(∃ p,oK p (upG K g) x (gf n caps σ) H' fun σ2 H3=>∃ p,oJ p (upT K tc) σ2 H3 fun b H3'=>if b=true then ∃ p,mn p (fun σ H Q=>KT H₀ H∧up K te σ H Q) σ2 H3' fun v H4 =>
   ∃ ys,H4 D0=some (.lst ys)∧ys.length<sizeLine∧∃ m',m'<m∧CWH K H1 D0 ds.length W (i+1) m' (upd H4 D0 (.lst (ys++[v])))else ∃ m',m'<m∧CWH K H1 D0 ds.length W (i+1) m' H3')):=by
 obtain⟨rfl,hi,M2,ys,xs,k2,a2,hx,hM,lx,w2⟩:=w
 have a2':m7 K H2 (q9 M2 D0 (.lst ys)):=fun a o q=>by
  by_cases e:a=D0
  ·subst e;rw[h8]at q;cases q;exact⟨xs,hx,lx⟩
  ·rw[j5 e]at q;exact a2 a o q
 have st:=wk.up _ D0 (.lst ys) (C.stays i ys M2 hi w2) hM
 by_cases hlt:i<ds.length
 ·refine .inr ⟨wk.go i H2 _ hlt k2 a2' st,fun y H' yl=>?_⟩
  obtain⟨d,hd,k3,a3',r⟩:=wk.yld i H2 _ y H' hlt k2 a2' st yl
  obtain⟨xs',hx',lx'⟩:=a3'.lst h8
  have a3:m7 K H' M2:=fun a o q=>by
   have e:a≠D0:=by intro e;subst e;rw[hM]at q;cases q
   exact a3' a o (by rw[j5 e];exact q)
  have kh:KT H' (upd H' D0 (N9 D0 xs')):=KT.any hx'
  have k1h:=(k2.trans k3).trans kh
  have same:∀{H3:Hp},H3 D0=some (N9 D0 xs')→upd (upd H3 D0 (.lst xs')) D0 (N9 D0 xs')=H3:=fun{H3} q=>by
   rw[G9];funext b;by_cases e:b=D0
   ·subst e;rw[i6,q]
   ·rw[i8 e]
  refine⟨D0,xs',hx',d,cX n caps e,M2,_,r.mono kh,tY n caps (ok.mono k1h),a3.at kh.toKT0 hM,C.turn i d ys M2 hd w2,fun e3 M3 h3 σ3 H3 k4 a4 ok3=>?_⟩
  have q3:H3 D0=some (N9 D0 xs'):=k4.ex D0 _ i6
  refine⟨q3,D0,xs',i6,?_⟩
  rw[same q3]
  refine⟨e3,M3,_,ok3,a4,h3,fun b M4 h4 H4 k5 a5=>?_⟩
  have q4:H4 D0=some (N9 D0 xs'):=k5.ex D0 _ q3
  refine⟨q4,?_⟩
  have kk:=k1h.trans (k4.trans k5)
  cases b with
  | false =>
   have h4':W (i+1) ys M4:=h4
   show ∃ m',m'<ds.length - i∧CWH K H1 D0 ds.length W (i+1) m' (upd H4 D0 (.lst xs'))
   exact⟨ds.length - (i+1),by omega,rfl,hlt,M4,ys,xs',kk.new hD,a5.at (KT0.ext q4) (a5.none_ext q4),i6,a5.none_ext q4,(lx'.mono (kh.trans (k4.trans k5))).mono0 (KT0.ext q4),h4'⟩
  | true =>
   show ∃ p,mn p (fun σ H Q=>KT H₀ H∧up K te σ H Q) σ3 (upd H4 D0 (.lst xs')) _
   refine⟨D0,xs',i6,?_⟩
   rw[same q4]
   refine⟨k0.trans kk,e3,M4,_,ok3.mono k5,a5,h4,fun dv M5 ⟨hz,w5⟩ vv H5 k6 a6 r6=>?_⟩
   have q5:H5 D0=some (N9 D0 xs'):=k6.ex D0 _ q4
   refine⟨q5,xs',i6,by rw[lx'.length];exact hz,ds.length - (i+1),by omega,rfl,hlt,M5,ys++[dv],xs'++[vv],?_,?_,i6,a6.none_ext q5,?_,w5⟩
   ·rw[G9];exact(kk.trans k6).new hD
   ·rw[G9];exact a6.at (KT0.ext q5) (a6.none_ext q5)
   ·rw[G9];exact((lx'.mono (kh.trans (k4.trans (k5.trans k6)))).mono0 (KT0.ext q5)).append (.cons (r6.mono0 (KT0.ext q5)) .nil)
 ·have e':i=ds.length:=by omega
  subst e'
  exact .inl ⟨wk.stop _ H2 _ (Pe _) k2 a2' st,fin ys M2 xs H2 k2 a2 hx hM lx (C.done ys M2 w2)⟩
end
section
variable {X:Cx} {mk:Bool} {H₀:Hp} {Y:DXK} {elt tg iter:Expr} {scope:Scope} {tgs cps:List Str} {caps:List Nat} {ti:DTI} {g:DTG} {tc:L1} {te:DTE} {pos:Pos} {ifs:List Expr}
theorem W4(caps:List Nat)(tgs cps:List Str)(hst:X.stack=X.env :: X.outer)(hfrm:X.env.frame=some X.env.locals)(hc:X.calm=true)(hcell:∀ x∈scope.names,x.2 ≠ .cell)(hkind:scope.kind = .function)(hnames:∀ x∈scope.names,x.2 = .local→scope.names.lookup x.1=some .local)
  (hfr:∀ x∈scope.names,x.2 = .free→x.1∈cps) (hN:caps.map (fun i=>X.N[i]?)=cps.map some) (hX:∀ x∈cps,X.env.scope.names.lookup x=some .cell∧scope.names.lookup x=some .free)
  (hsc:∀ x∈cps,(relabel scope X.env).names.lookup x=some .cell∨(relabel scope X.env).names.lookup x=some .free)
  (hi:JI X.nox tg iter ti) (hg:∀ cl s3 H3 C fp pins,JG (cxF X scope cl (tgs++cps) s3 H3 C fp pins) tg g) (hq:∀ cl s3 H3 C fp pins,vq (cxF X scope cl (tgs++cps) s3 H3 C fp pins) ifs tc) (he:∀ cl s3 H3 C fp pins,JXE (cxF X scope cl (tgs++cps) s3 H3 C fp pins) false H₀ Y elt te)
  (hs:∀ x,foldedSetIterable iter X.env x=pure x:=by intro _;rfl):JXE X mk H₀ Y (.ListComp elt [⟨tg,iter,ifs,0⟩] scope pos) (qk tgs.length caps ti g tc te) :=
 ⟨PE.imp (yk (tgs:=tgs) (cps:=cps) (caps:=caps) (EX:=vw X H₀ Y) hst hfrm hc hcell hkind hnames hfr hN hX hsc hi.out (fun cl s3 H3 C fp pins=>dM (hg cl s3 H3 C fp pins).out) (fun cl s3 H3 C fp pins=>X7 (hq cl s3 H3 C fp pins).out) (fun cl s3 H3 C fp pins=>dN (show PE (Cx.wish (cxF X scope cl (tgs++cps) s3 H3 C fp pins) (XP (cxF X scope cl (tgs++cps) s3 H3 C fp pins) false (vw X H₀ Y))) elt (fun σ H Q=>KT H₀ H∧up X.K te σ H Q)from(he cl s3 H3 C fp pins).out)) hs) fun σ H Q ⟨k0,e,M,R,ok,am,t,f⟩=>⟨e,M,_,ok,am,t,fun ds stay M1 hW H1 k1 a1 J wk=>by
  intro D0 hD
  obtain⟨W,C⟩:=hW
  refine⟨fun i m H'=>CWH X.K H1 D0 ds.length W i m H',⟨ds.length,by simp,PD _,M1,[],[],KT.alloc hD,a1.alloc hD,i6,a1.fresh hD,.nil,C.start⟩,fun i m H2 w=>qo (k0.trans k1) (ok.mono k1) a1 wk hD C (fun ys M2 xs H' k2 a2 hx hM lx r=>?_) i m H2 w⟩
  refine f _ _ (r D0 hM) _ _ (k1.trans k2) (fun a o q=>?_) (.ref D0)
  by_cases e:a=D0
  ·subst e;rw[h8]at q;cases q;exact⟨xs,hx,lx⟩
  ·rw[j5 e]at q;exact a2 a o q⟩⟩
theorem jt{e:Expr}(h:JE X.nox e te):JXE X mk H₀ Y e te:=⟨fun pins s σ H Q I ⟨k,hw⟩ =>
 wpAny_mono (h.out pins s σ H Q (I.unwish.wish _) hw) (fun _ _ ⟨v,H',I',r,q⟩=>⟨v,H',I'.unwish.wish _,r,q⟩) fun _ _ z=>False.elim z⟩
structure JXA(X:Cx)(mk:Bool)(H₀:Hp)(Y:DXK)(es:List Expr)(t:DTA):Prop where
 out:PA (Cx.ex' X mk H₀ Y) es (fun σ H Q=>KT H₀ H∧upA X.K t σ H Q)
theorem oG:JXA X mk H₀ Y [] Ic:=⟨PA.imp fo fun σ H Q ⟨k,e,M,R,ok,am,t,f⟩=>f [] M t [] H (KT.refl H) am .nil⟩
theorem W3{a:Expr}{es:List Expr}{ta:DTE}{tr:DTA}(ha:JXE X mk H₀ Y a ta)(hr:JXA X mk H₀ Y es tr)(hs:starEach (a :: es) X.env=(false,eval a X.env) :: starEach es X.env:=by rfl):JXA X mk H₀ Y (a :: es) (zN ta tr) :=
 ⟨PA.imp (aY (X:=Cx.ex' X mk H₀ Y) ha.out hr.out hs) fun σ H Q ⟨k,e,M,R,ok,am,t,f⟩=>⟨k,e,M,_,ok,am,t,fun x M1 h1 v H1 k1 a1 r1 =>
  ⟨k.trans k1,e,M1,_,ok.mono k1,a1,h1,fun xs M2 h2 vs H2 k2 a2 r2=>f _ M2 h2 _ H2 (k1.trans k2) a2 (.cons (r1.mono k2) r2)⟩⟩⟩
theorem Er{es:List Expr}{tr:DTA}{x1}(h:JXA X mk H₀ Y es tr):JXE X mk H₀ Y (.Tuple es x1 pos) (HZ tr) :=
 ⟨PE.imp (yi (X:=Cx.ex' X mk H₀ Y) h.out) fun σ H Q ⟨k,e,M,R,ok,am,t,f⟩=>⟨k,e,M,_,ok,am,t,fun ds M1 ⟨hz,h1⟩ vs H1 k1 a1 r1=>by
  refine⟨by rw[r1.length];exact hz,fun p hp=>?_⟩
  have k2:KT H1 (upd H1 p (.tup vs)):=KT.alloc hp
  exact f _ M1 h1 _ _ (k1.trans k2) (a1.alloc hp) (.tup (SqT.of i6) (r1.mono k2))⟩⟩
end
end DL
namespace L2
open PySem PySem.Spec PyProof.Rows
noncomputable def Its(x:Str):It:=⟨fun i _=>i<x.cps.size,fun i H v H'=>H'=H∧∃ c,x.cps[i]? = some c∧v = .str ⟨#[c]⟩,fun i _=>x.cps.size≤i⟩
theorem ml{P:Program}{w:World}{K:OR}{tg:Expr}{x:Str}{t:Tok}(it:Addr)(nm:String)(hn:["enumerate","zip","dict_itemiterator","dict_reverseitemiterator","odict_iterator","itertools.zip_longest","itertools.pairwise"].contains nm=false)
  (hW:∀ A:Around,A.handled=none→Walks P w A it [it] [it] x.cps.size (SignAt x) (fun i h=>h.IsStrIter it nm x t i)) (hS:∀(A:Around) (i:Nat) (s:Shared) (Q:Value→Shared→Prop) (E:Value→Shared→Prop),s.heap.IsStrIter it nm x t i→Q (.ref it) s→wpAny (model P w) A (pyIter (.ref it)) Q E s) :
  la P w K tg (Its x) [it] it (fun i h=>i≤x.cps.size∧h.IsStrIter it nm x t i) where
 mem:=by simp
 obj:=fun i h st b hb=>by
  obtain rfl:b=it:=by simpa using hb
  obtain⟨_,o,e,c,d⟩:=st
  exact⟨o,e,fun v z=>by rw[d]at z;cases z⟩
 keep:=fun i h h2 st k=>⟨st.1,by obtain⟨_,o,e,r⟩:=st;exact⟨o,k it (by simp) o e,r⟩⟩
 item:=by
  intro X hP hw hK hc i pins s σ H E I hf st hg
  subst hP hw hK
  obtain⟨f0,f1,f2,f3,f4,f5⟩:=hf it (by simp)
  refine(hW X.A (I.ok.hd hc)).item i s _ _ hg st.2 fun v h2 tk hv st2 kk=>?_
  obtain⟨c,u,hc1,rfl⟩:=hv
  have I1:Inv X pins σ H { s with heap:=h2,toks:=tk }:=I.turned (fun b o hb e=>kk b o (by simpa using hb) e) f0 f1 f3 f4 f5
  obtain⟨o,e,hcl,hd⟩:=id st2
  exact⟨_,rfl,tM (s:={ s with heap:=h2,toks:=tk }) e hcl hd hn ⟨.str ⟨#[c]⟩,H,I1,⟨u,rfl⟩,⟨rfl,c,hc1,rfl⟩,⟨hg,st2⟩,fun b hb=>(hf b hb).1⟩⟩
 done:=by
  intro X hP hw hK hc i pins s σ H E I hf st hg
  subst hP hw hK
  obtain⟨f0,f1,f2,f3,f4,f5⟩:=hf it (by simp)
  have hi:i=x.cps.size:=Nat.le_antisymm st.1 hg
  have st2:=st.2
  rw[hi]at st2
  exact(hW X.A (I.ok.hd hc)).done s _ _ st2 fun h2 tk kk=>⟨rfl,I.turned (fun b o hb e=>kk b o (by simpa using hb) e) f0 f1 f3 f4 f5⟩
 self:=fun A i s Q E st h=>hS A i s Q E st.2 h
section
variable {X:Cx} {tg:Expr}
def LO(tl:TE):TI:=fun σ H R=>tl σ H fun x H1=>∃ z,x = .str z∧R (Its z) H1
theorem GI{l:Expr}{tl:TE}(hl:PE X l tl):PI X tg l (LO tl):=by
 intro pins s σ H R I h
 refine thn (hl pins s σ H _ I h) fun v s1 ⟨x,H1,I1,r1,q1⟩=>?_
 obtain⟨z,e,q⟩:=q1
 subst e
 obtain⟨t,rfl⟩:=r1
 have fin:∀ b∈[s1.heap.objs.size],R5 X pins H1 b:=fun b hb=>by
  obtain rfl:b=s1.heap.objs.size:=by simpa using hb
  exact I1.fpOk (Pe _) (I1.hok.fresh (Pe _))
 cases ha:z.cps.all (· < 128)
 ·exact wpAny_pyIter_wide ha ⟨s1.heap.objs.size,[s1.heap.objs.size],_,_,H1,rfl,I1.kept (t':=s1.toks) fun b o e=>OT _ e,ml _ "str_iterator" (by decide) (fun A hA=>Walks.strWide hA _ z t) (fun A i s Q E st k=>wpAny_pyIter_striter_wide st k),⟨PD _,_,Pd _ rfl,rfl,rfl⟩,fin,q⟩
 ·exact wpAny_pyIter_ascii ha ⟨s1.heap.objs.size,[s1.heap.objs.size],_,_,H1,rfl,I1.kept (t':=s1.toks) fun b o e=>OT _ e,ml _ "str_ascii_iterator" (by decide) (fun A hA=>Walks.strAscii hA _ z t) (fun A i s Q E st k=>wpAny_pyIter_striter_ascii st k),⟨PD _,_,Pd _ rfl,rfl,rfl⟩,fin,q⟩
theorem FZ:SlR X (fun x lo hi H Q=>∃ z,x = .str z∧z.length≤sizeLine∧Q (.str (Txt.slice z lo hi)) H):=by
 intro pins s σ H x v vl vu lo hi sl Q I rx hs pl pu h
 obtain⟨z,rfl,hz,q⟩:=h
 obtain⟨t,rfl⟩:=rx
 refine⟨"str",_,PySem.F.slot_str_getitem.lookup,typeIs_str _ _ _,?_⟩
 have fin:∀ t2 k,EP X pins σ Q (.str (Txt.slice z lo hi) t2) { s with toks:=k }:=fun t2 k=>⟨.str _,H,I.tok k,⟨t2,rfl⟩,q⟩
 have le:=Pa (Txt.slice_le z lo hi) hz
 cases pl with
 | none=>cases pu with
  | none=>exact wpAny_getItem_str_slice (l:=none) (u:=none) (st:=none) hs rfl (post_val_or_str ⟨le,fin⟩)
  | int j u=>exact wpAny_getItem_str_slice (l:=none) (u:=some (j,u)) (st:=none) hs rfl (post_val_or_str ⟨le,fin⟩)
 | int i u=>cases pu with
  | none=>exact wpAny_getItem_str_slice (l:=some (i,u)) (u:=none) (st:=none) hs rfl (post_val_or_str ⟨le,fin⟩)
  | int j u2=>exact wpAny_getItem_str_slice (l:=some (i,u)) (u:=some (j,u2)) (st:=none) hs rfl (post_val_or_str ⟨le,fin⟩)
theorem Cc:OpR X (binaryOp .Mult) (fun x y H Q=>∃ z n,x = .str z∧y = .int n∧MulOk z n∧Q (.str (Txt.mul z n)) H):=by
 intro pins s σ H x y v u Q I rx ry h
 obtain⟨z,n,rfl,rfl,hk,q⟩:=h
 obtain⟨t,rfl⟩:=rx
 obtain⟨t2,rfl⟩:=ry
 exact SB.mul hk fun t3 k=>⟨.str _,H,I.tok k,⟨t3,rfl⟩,q⟩
theorem qm:A3 X (.type "int") (fun xs H Q=>∃ z n,xs=[.str z]∧PySem.intText? z=some n∧z.length≤640∧Q (.int n) H):=by
 intro pins s σ H xs us Q I rv h
 obtain⟨z,n,rfl,hn,hl,q⟩:=h
 obtain⟨u,rfl,ru⟩:=S5 rv
 obtain⟨t,rfl⟩:=ru
 exact PySem.W.KIN.call_text hn hl ⟨.int n,H,I.tok _,⟨_,rfl⟩,q⟩
theorem Es{a b c:Str}{t u v:Tok}:j8 [.str a,.str b,.str c] [.str a t,.str b u,.str c v]:=.cons ⟨t,rfl⟩ (.cons ⟨u,rfl⟩ (.cons ⟨v,rfl⟩ .nil))
theorem A5:MtR X "str.partition" (fun x xs H Q=>∃ z y,x = .str z∧xs=[.str y]∧(y.length == 0)=false∧z.length≤sizeLine ∧
  ∀ p,H p=none→Q (.ref p) (upd H p (.tup [.str (Txt.partition z y).1,.str (Txt.partition z y).2.1,.str (Txt.partition z y).2.2]))):=by
 intro pins s σ H x xs v us Q I rx rv h
 obtain⟨z,y,rfl,rfl,hy,hz,q⟩:=h
 obtain⟨t,rfl⟩:=rx
 obtain⟨u,rfl,ru⟩:=S5 rv
 obtain⟨t2,rfl⟩:=ru
 refine call_meets F.slot_str_partition (typeIs_str _ _ _) F.entry_str_partition (F.args_str_partition_2 _ _) (meets_str_partition z y t t2 hy hz) ?_
 have q2:=q s.heap.objs.size (I.hok.fresh (Pe _))
 unfold Txt.partition at q2
 revert q2
 cases Builtin.Str.occurrences z y 0 z.length 1 with
 | nil=>exact fun q2=>⟨.ref s.heap.objs.size,_,I.laid (o:=.tup _) (fun b ob q=>OT _ q) (Pe _) ⟨by show 3≤sizeLine;decide,_,Es,IsTup.new _ _⟩,rfl,q2⟩
 | cons i r=>exact fun q2=>⟨.ref s.heap.objs.size,_,I.laid (o:=.tup _) (fun b ob q=>OT _ q) (Pe _) ⟨by show 3≤sizeLine;decide,_,Es,IsTup.new _ _⟩,rfl,q2⟩
theorem az:∀(l:List (Str × Tok)),j8 ((l.map (·.1)).map V.str) (strValues l)
 | []=>.nil
 | p :: r=>.cons ⟨p.2,rfl⟩ (az r)
theorem yB:MtR X "str.zfill" (fun x xs H Q=>∃ z n,x = .str z∧xs=[.int n]∧PadOk n=true∧Q (.str (Txt.zfill z n)) H):=by
 intro pins s σ H x xs v us Q I rx rv h
 obtain⟨z,n,rfl,rfl,hp,q⟩:=h
 obtain⟨t,rfl⟩:=rx
 obtain⟨u,rfl,ru⟩:=S5 rv
 obtain⟨t2,rfl⟩:=ru
 exact SC.zfill hp fun t3 k=>⟨.str _,H,I.tok k,⟨t3,rfl⟩,q⟩
theorem ve:A3 X (.builtin "divmod") (fun xs H Q=>∃ a b:Int,xs=[.int a,.int b]∧b≠0∧b.natAbs.log2<9000∧∀ p,H p=none→Q (.ref p) (upd H p (.tup [.int (a.fdiv b),.int (a.fmod b)]))):=by
 intro pins s σ H xs us Q I rv h
 obtain⟨a,b,rfl,hb,hl,q⟩:=h
 obtain⟨u,v,rfl,⟨t,rfl⟩,⟨t2,rfl⟩⟩:=mi rv
 refine divmod_int hb ?_ (.inl (PyProof.noPylong_of_log2 hl))
 ·exact⟨.ref s.heap.objs.size,_,I.laid (o:=.tup [.int (a.fdiv b),.int (a.fmod b)]) (fun b ob q=>OT _ q) (Pe _) ⟨by show 2≤sizeLine;decide,[.int (a.fdiv b) _,.int (a.fmod b) _],.cons ⟨_,rfl⟩ (.cons ⟨_,rfl⟩ .nil),IsTup.new _ _⟩,rfl,q _ (I.hok.fresh (Pe _))⟩
theorem yC:MtR X "str.split" (fun x xs H Q=>∃ z y,x = .str z∧xs=[.str y]∧(y.length == 0)=false∧z.length+2≤sizeLine∧∀ p,H p=none→Q (.ref p) (upd H p (.lst ((Txt.split z y).map V.str)))):=by
 intro pins s σ H x xs v us Q I rx rv h
 obtain⟨z,y,rfl,rfl,hy,hz,q⟩:=h
 obtain⟨t,rfl⟩:=rx
 obtain⟨u,rfl,ru⟩:=S5 rv
 obtain⟨t2,rfl⟩:=ru
 have q2:=q s.heap.objs.size (I.hok.fresh (Pe _))
 have few:(Builtin.Str.partsBetween z (Builtin.Str.occurrences z y 0 z.length (z.length+1)) y.length).length≤sizeLine:=by
  rw[length_partsBetween]
  have:=StrLaws.occ_length_le z y 0 z.length (z.length+1)
  omega
 have few2:(Txt.split z y).length≤sizeLine:=by
  unfold Txt.split
  split
  ·exact Pa (by decide:1≤2) (by omega)
  ·split
   ·exact Pa (by decide:1≤2) (by omega)
   ·exact few
 have fin:∀(l:List (Str × Tok)) (k:Nat),l.map (·.1)=Txt.split z y→wants (EP X pins σ Q) X.xe (.ok (.ret (.ref s.heap.objs.size))) { s with heap:=s.heap.push { cls:=.type "list",data:=.seq (strValues l).toArray },toks:=k }:=fun l k e=>by
  refine⟨.ref s.heap.objs.size,_,I.laid (o:=.lst ((Txt.split z y).map V.str)) (fun b ob q=>OT _ q) (Pe _) ⟨by rw[OU];exact few2,strValues l,0,by rw[← e];exact az l,Pd _ rfl⟩,rfl,q2⟩
 cases h1:(decide (z.length<y.length) || decide (Builtin.Str.strKind z<Builtin.Str.strKind y))
 ·cases hf:(Builtin.Str.occurrences z y 0 z.length (z.length+1)).isEmpty
  ·refine call_meets F.slot_str_split (typeIs_str _ _ _) F.entry_str_split (F.args_str_split_2 _ _) (meets_str_split_sep z y t t2 h1 hy hf (by omega) few) ?_
   have e:strsFrom s.toks (Builtin.Str.partsBetween z (Builtin.Str.occurrences z y 0 z.length (z.length+1)) y.length)=_:=strsFrom_eq _ _
   have:=fin (numbered s.toks (Builtin.Str.partsBetween z (Builtin.Str.occurrences z y 0 z.length (z.length+1)) y.length)) (s.toks+(Builtin.Str.partsBetween z (Builtin.Str.occurrences z y 0 z.length (z.length+1)) y.length).length) ((numbered_texts _ _).trans (by unfold Txt.split;rw[h1,hf];rfl))
   rw[← e]at this
   exact this
  ·exact call_meets F.slot_str_split (typeIs_str _ _ _) F.entry_str_split (F.args_str_split_2 _ _) (meets_str_split_not_found z y t t2 h1 hy hf) (fin [(z,t)] s.toks (by unfold Txt.split;rw[h1,hf];rfl))
 ·exact call_meets F.slot_str_split (typeIs_str _ _ _) F.entry_str_split (F.args_str_split_2 _ _) (meets_str_split_cannot_occur z y t t2 h1) (fin [(z,t)] s.toks (by unfold Txt.split;rw[h1];rfl))
end
end L2
namespace DL
open PySem PySem.Spec L2
open PyProof.Rows hiding St
section
variable {X:Cx}
def EN:DRC:=fun ds M R=>∃ s:Str,ds=[.str s]∧s.length≤sizeLine∧R (.int (s.length:Int)) M
theorem zZ:R9 X (.builtin "len") EN:=A3.imp kU fun xs H Q ⟨ds,M,R,hl,am,⟨n,z,hn,r⟩,f⟩=>by
 subst z
 obtain⟨v,rfl,hv⟩:=hl.one
 cases hv
 exact⟨n,rfl,hn,f _ M r _ H (KT.refl H) am (.int _)⟩
def ER:DRC:=fun ds M R=>∃(s:Str) (n:Int),ds=[.str s]∧PySem.intText? s=some n∧s.length≤640∧R (.int n) M
theorem qp:R9 X (.type "int") ER:=A3.imp qm fun xs H Q ⟨ds,M,R,hl,am,⟨s,n,z,hn,hk,r⟩,f⟩=>by
 subst z
 obtain⟨v,rfl,hv⟩:=hl.one
 cases hv
 exact⟨s,n,rfl,hn,hk,f _ M r _ H (KT.refl H) am (.int _)⟩
def EM:DR2:=fun x y M R=>∃ i j,x = .str i∧y = .int j∧MulOk i j∧R (.str (Txt.mul i j)) M
theorem Hj:DOp X (binaryOp .Mult) EM:=by
 intro pins s σ H x y v u Q I rx ry h
 obtain⟨dx,dy,M,R,hx,hy,am,⟨i,j,e1,e2,hl,r⟩,f⟩:=h
 subst e1;subst e2
 cases hx;cases hy
 exact Cc pins s σ H _ _ v u Q I rx ry ⟨i,j,rfl,rfl,hl,f _ M r _ H (KT.refl H) am (.str _)⟩
noncomputable def inS(i j:Str):Bool:=!(Builtin.Str.occurrences j i 0 j.length 1).isEmpty
def Kt(neg:Bool):DR2:=fun x y M R=>∃ i j,x = .str i∧y = .str j∧R (.bl (if neg then !inS i j else inS i j)) M
theorem yx:DOp X (compareOp .NotIn) (Kt true):=by
 intro pins s σ H x y v u Q I rx ry h
 obtain⟨dx,dy,M,R,hx,hy,am,⟨i,j,e1,e2,r⟩,f⟩:=h
 subst e1;subst e2
 cases hx;cases hy
 exact kr pins s σ H _ _ v u Q I rx ry ⟨i,j,rfl,rfl,f _ M r _ H (KT.refl H) am (.bl _)⟩
variable {a b:Expr} {ta tb:DTE} {pos p2:Pos}
def HK(x y:D)(M:Mem)(R:DK):Prop:=∃(z:Str) (i:Nat) (c:Nat),x = .str z∧y = .int (i:Int)∧i<2 ^ 62∧z.cps[i]? = some c∧R (.str ⟨#[c]⟩) M
def KI(ta tb:DTE):DTE:=fun e M R=>ta e M fun x M1=>tb e M1 fun y M2=>HK x y M2 R
theorem HD(ha:JE X a ta)(hb:JE X b tb)(hs:ou b:=by intro _ _;with_unfolding_all rfl):JE X (.Subscript a b pos) (KI ta tb) :=
 ⟨(mS ha.out hb.out hs).imp fun σ H Q ⟨e,M,R,ok,am,t,f⟩=>⟨e,M,_,ok,am,t,fun x M1 h1 v H1 k1 a1 r1=>⟨e,M1,_,ok.mono k1,a1,h1,fun y M2 ⟨z,i,c,e1,e2,hi,hc,r⟩ u H2 k2 a2 r2=>by
  subst e1;subst e2
  cases r1;cases r2
  have hl:i<z.cps.size:=by
   rcases Sr i z.cps.size with q|q
   ·exact q
   ·rw[Array.getElem?_eq_none q]at hc;cases hc
  exact⟨z,(i:Int),c,rfl,rfl,QG _,by omega,by show(i:Int)<(z.cps.size:Int);omega,by rw[Ql];exact hc,f _ M2 r _ H2 (k1.trans k2) a2 (.str _)⟩⟩⟩⟩
def HJ(x:D)(lo hi:Option Int)(M:Mem)(R:DK):Prop:=∃ z,x = .str z∧z.length≤sizeLine∧R (.str (Txt.slice z lo hi)) M
def KA(te:DTE)(tl th:DTO):DTE:=fun e M R=>te e M fun x M1=>tl e M1 fun l M2=>th e M2 fun u M3=>HJ x l u M3 R
theorem pY{e:Expr}{te:DTE}{lo hi:Option Expr}{tl th:DTO}(he:JE X e te)(hl:JO X lo tl)(hu:JO X hi th):JE X (.Subscript e (.Slice lo hi none p2) pos) (KA te tl th) :=
 ⟨(mR FZ he.out hl.out hu.out).imp fun σ H Q ⟨e,M,R,ok,am,t,f⟩=>⟨e,M,_,ok,am,t,fun x M1 h1 v H1 k1 a1 r1=>⟨e,M1,_,ok.mono k1,a1,h1,fun l M2 h2 H2 k2 a2=>⟨e,M2,_,(ok.mono k1).mono k2,a2,h2,fun u M3 ⟨z,e1,hz,r⟩ H3 k3 a3=>by
  subst e1
  cases r1
  exact⟨z,rfl,hz,f _ M3 r _ H3 (k1.trans (k2.trans k3)) a3 (.str _)⟩⟩⟩⟩⟩
noncomputable def sgD(x:Str):List D:=x.cps.toList.map fun c=>D.str ⟨#[c]⟩
def EV(ti:DTE):DTI:=fun e M R=>ti e M fun x M1=>∃ z,x = .str z∧R (sgD z) (fun _=>True) M1
theorem wY{K:OR}{H1:Hp}{z:Str}:ib K H1 (Its z) (sgD z) (fun _=>True) where
 go:=fun i H2 M2 hi k am st=>by unfold sgD at hi;rw[OU,Array.length_toList]at hi;exact hi
 yld:=fun i H2 M2 x H3 hi k am st ⟨e,c,hc,hx⟩=>by
  subst e;subst hx
  exact⟨.str ⟨#[c]⟩,by unfold sgD;rw[Py,Array.getElem?_toList,hc];rfl,KT.refl _,am,.str _⟩
 stop:=fun i H2 M2 hi k am st=>by unfold sgD at hi;rw[OU,Array.length_toList]at hi;exact hi
 up:=fun _ _ _ _ _=>trivial
theorem Ct{tg iter:Expr}{ti:DTE}(hi:JE X iter ti):JI X tg iter (EV ti):=⟨PI.imp (GI hi.out) fun σ H R ⟨e,M,R1,ok,am,t,f⟩=>⟨e,M,_,ok,am,t,fun x M1 ⟨z,e1,r⟩ v H1 k1 a1 r1=>by
 subst e1
 cases r1
 exact⟨z,rfl,f _ _ M1 r H1 k1 a1 _ wY⟩⟩⟩
end
section
variable {X:Cx} {o e:Expr} {to:DTE} {t:DTA} {apos cpos:Pos}
def Ie(g:Str→List D→Mem→DK→Prop)(to:DTE)(t:DTA):DTE:=fun e M R=>to e M fun x M1=>∃ z,x = .str z∧t e M1 fun xs M2=>g z xs M2 R
def EL(z:Str)(xs:List D)(M:Mem)(R:DK):Prop:=∃ y:Str,xs=[.str y]∧(y.length == 0)=false∧z.length≤sizeLine∧R (.tup [.str (Txt.partition z y).1,.str (Txt.partition z y).2.1,.str (Txt.partition z y).2.2]) M
def yY(z:Str)(xs:List D)(M:Mem)(R:DK):Prop:=∃ y:Str,xs=[.str y]∧(y.length == 0)=false∧z.length+2≤sizeLine∧R (.vl ((Txt.split z y).map D.str)) M
def Gu(r:V→List V→Hp→VK→Prop)(K:OR)(g:Str→List D→Mem→DK→Prop):Prop:=∀(z:Str) (xs:List D) (M:Mem) (R:DK) (H H0:Hp) (Q:VK) (vs:List V),g z xs M R→m7 K H M→HasL K H vs xs→KT H0 H→cu K H0 R Q→r (.str z) vs H Q
theorem V1{n:Str}{id:String}{r:V→List V→Hp→VK→Prop}{g:Str→List D→Mem→DK→Prop}(slot:PySem.Slot "str" n id)(hty:typeOf (.builtin id)=pure (.type "method_descriptor"))(hm:MtR X id r)(hg:Gu r X.K g)(ho:JE X o to)(ha:JA X [e] t)
  (hbase:attributeBase o n X.env (eval o X.env)=eval o X.env:=by rfl)
  (hfew:((backTo cpos (starEach [e] X.env)).all (fun x=>!x.1) && (backToKw cpos (keywordEach [] X.env)).all (fun x=>x.1.isSome)
   && decide ([e].length+([]:List Keyword).length+(if ([]:List Keyword).isEmpty then 0 else 1)<30))=true:=by rfl)
  (hline:(apos.endLine == cpos.line)=true:=by rfl) (hs:starEach [e] X.env=(false,eval e X.env) :: starEach [] X.env:=by rfl) (hplain:(backTo cpos (starEach [] X.env)).any (·.1)=false:=by rfl) :
  JE X (.Call (.Attribute o n apos) [e] [] cpos) (Ie g to t) :=
 ⟨(mV PySem.F.plainAttrs_str slot hty hm ho.out ha.out hbase hfew hline hs hplain).imp fun σ H Q ⟨e,M,R,ok,am,t,f⟩=>⟨e,M,_,ok,am,t,fun x M1 ⟨z,e1,h1⟩ v H1 k1 a1 r1=>by
  subst e1
  cases r1
  exact⟨rfl,e,M1,_,ok.mono k1,a1,h1,fun zs M2 h2 vs H2 k2 a2 r2=>hg z zs M2 R H2 H Q vs h2 a2 r2 (k1.trans k2) f⟩⟩⟩
theorem C3{K:OR}:Gu (fun x xs H Q=>∃ z y,x = .str z∧xs=[.str y]∧(y.length == 0)=false∧z.length≤sizeLine ∧
  ∀ p,H p=none→Q (.ref p) (L2.upd H p (.tup [.str (Txt.partition z y).1,.str (Txt.partition z y).2.1,.str (Txt.partition z y).2.2]))) K EL:=fun z xs M R H H0 Q vs ⟨y,e,hy,hz,r⟩ am l k f=>by
 subst e
 obtain⟨v,rfl,hv⟩:=l.one
 cases hv
 exact⟨z,y,rfl,rfl,hy,hz,fun p hp=>f _ M r _ _ (k.trans (KT.alloc hp)) (am.alloc hp) (.tup (SqT.of i6) (.cons (.str _) (.cons (.str _) (.cons (.str _) .nil))))⟩
theorem jh{K:OR}{H:Hp}:∀(ys:List Str),HasL K H (ys.map V.str) (ys.map D.str)
 | []=>.nil
 | _ :: ys=>.cons (.str _) (jh ys)
theorem K3{n:Str}(hn:n = "split")(slot:PySem.Slot "str" n "str.split")(ho:JE X o to)(ha:JA X [e] t)
  (hbase:attributeBase o n X.env (eval o X.env)=eval o X.env:=by rfl)
  (hfew:((backTo cpos (starEach [e] X.env)).all (fun x=>!x.1) && (backToKw cpos (keywordEach [] X.env)).all (fun x=>x.1.isSome)
   && decide ([e].length+([]:List Keyword).length+(if ([]:List Keyword).isEmpty then 0 else 1)<30))=true:=by rfl)
  (hline:(apos.endLine == cpos.line)=true:=by rfl) (hs:starEach [e] X.env=(false,eval e X.env) :: starEach [] X.env:=by rfl) (hplain:(backTo cpos (starEach [] X.env)).any (·.1)=false:=by rfl) :
  JE X (.Call (.Attribute o n apos) [e] [] cpos) (Ie yY to t) :=
 ⟨(bT (mV PySem.F.plainAttrs_str slot PySem.F.type_str_split yC ho.out ha.out hbase hfew hline hs hplain)).imp fun σ H Q ⟨e,M,R,ok,am,t,f⟩=>⟨e,M,_,ok,am,t,fun x M1 ⟨z,e1,h1⟩ v H1 k1 a1 r1=>by
  subst e1
  cases r1
  refine⟨rfl,e,M1,_,ok.mono k1,a1,h1,fun zs M2 ⟨y,e2,hy,hz,r⟩ vs H2 k2 a2 r2=>?_⟩
  subst e2
  obtain⟨v,rfl,hv⟩:=r2.one
  cases hv
  exact⟨z,y,rfl,rfl,hy,hz,fun p hp=>bj f (k1.trans k2) a2 (jh _) r p hp⟩⟩⟩
theorem BL{K:OR}:Gu (fun x xs H Q=>∃ z n,x = .str z∧xs=[.int n]∧PadOk n=true∧Q (.str (Txt.zfill z n)) H) K (fun z xs M R=>∃ n:Int,xs=[.int n]∧PadOk n=true∧R (.str (Txt.zfill z n)) M):=fun z xs M R H H0 Q vs ⟨y,e,hp,r⟩ am l k f=>by
 subst e
 obtain⟨v,rfl,hv⟩:=l.one
 cases hv
 exact⟨z,y,rfl,rfl,hp,f _ M r _ H k am (.str _)⟩
theorem vn:bootBuiltins "divmod" = some (.builtin "divmod"):=by decide +kernel
def tP:DRC:=fun ds M R=>∃ a b:Int,ds=[.int a,.int b]∧CFd a b∧R (.tup [.int (a.fdiv b),.int (a.fmod b)]) M
theorem Aa:R9 X (.builtin "divmod") tP:=A3.imp ve fun xs H Q ⟨ds,M,R,hl,am,⟨a,b,z,⟨h0,hn⟩,r⟩,f⟩=>by
 subst z
 obtain⟨v,v2,rfl,hv,hv2⟩:=hl.two
 cases hv;cases hv2
 exact⟨a,b,rfl,h0,hn,fun p hp=>f _ M r _ _ (KT.alloc hp) (am.alloc hp) (.tup (SqT.of i6) (.cons (.int _) (.cons (.int _) .nil)))⟩
end
section
variable {X:Cx} {x:Expr} {t:DTE}
end
section
variable {M:Mem} {R:DK} {e:Ev} {to ta tb:DTE} {t:DTA}
theorem wK{s:Str}:EN [.str s] M R=(s.length≤sizeLine∧R (.int (s.length:Int)) M):=propext ⟨fun⟨_,a,c,r⟩=>by cases a;exact⟨c,r⟩,fun⟨c,r⟩=>⟨_,rfl,c,r⟩⟩
theorem wM{s:Str}:ER [.str s] M R=(∃ n:Int,PySem.intText? s=some n∧s.length≤640∧R (.int n) M):=propext ⟨fun⟨_,n,a,b,c,r⟩=>by cases a;exact⟨n,b,c,r⟩,fun⟨n,b,c,r⟩=>⟨_,n,rfl,b,c,r⟩⟩
theorem wD{i:Str}{j:Int}:EM (.str i) (.int j) M R=(MulOk i j∧R (.str (Txt.mul i j)) M):=propext ⟨fun⟨_,_,a,b,c,r⟩=>by cases a;cases b;exact⟨c,r⟩,fun⟨c,r⟩=>⟨_,_,rfl,rfl,c,r⟩⟩
theorem DZ{neg:Bool}{i j:Str}:Kt neg (.str i) (.str j) M R=R (.bl (neg.xor (inS i j))) M:=propext ⟨fun⟨_,_,a,b,r⟩=>by cases a;cases b;cases neg<;>simpa using r,fun r=>⟨_,_,rfl,rfl,by cases neg<;>simpa using r⟩⟩
theorem DY:KI ta tb e M R=ta e M fun x M1=>tb e M1 fun y M2=>HK x y M2 R:=rfl
theorem CH{z:Str}{i:Int}{c:Nat}(h0:0≤i)(h1:i<1000000)(hc:z.cps[i.toNat]? = some c)(r:R (.str ⟨#[c]⟩) M):HK (.str z) (.int i) M R:=⟨z,i.toNat,c,rfl,by rw[Int.toNat_of_nonneg h0],by omega,hc,r⟩
theorem DO{tl th:DTO}:KA ta tl th e M R=ta e M fun x M1=>tl e M1 fun l M2=>th e M2 fun u M3=>HJ x l u M3 R:=rfl
theorem wa{z:Str}{lo hi:Option Int}:HJ (.str z) lo hi M R=(z.length≤sizeLine∧R (.str (Txt.slice z lo hi)) M):=propext ⟨fun⟨_,a,c,r⟩=>by cases a;exact⟨c,r⟩,fun⟨c,r⟩=>⟨_,rfl,c,r⟩⟩
def Ld(x:D)(M:Mem)(Q:List D→(Mem→Prop)→Mem→Prop):Prop:=∃ z,x = .str z∧Q (sgD z) (fun _=>True) M
theorem wj{z:Str}{Q:List D→(Mem→Prop)→Mem→Prop}:Ld (.str z) M Q=Q (sgD z) (fun _=>True) M:=propext ⟨fun⟨_,a,r⟩=>by cases a;exact r,fun r=>⟨_,rfl,r⟩⟩
theorem rH{Q:List D→(Mem→Prop)→Mem→Prop}:EV ta e M Q=ta e M fun x M1=>Ld x M1 Q:=rfl
def Le(x:D)(P:Str→Prop):Prop:=∃ z,x = .str z∧P z
theorem wm{z:Str}{P:Str→Prop}:Le (.str z) P=P z:=propext ⟨fun⟨_,a,r⟩=>by cases a;exact r,fun r=>⟨_,rfl,r⟩⟩
theorem DV{g:Str→List D→Mem→DK→Prop}:Ie g to t e M R=to e M fun x M1=>Le x fun z=>t e M1 fun xs M2=>g z xs M2 R:=rfl
theorem rD{z y:Str}:EL z [.str y] M R=((y.length == 0)=false∧z.length≤sizeLine∧R (.tup [.str (Txt.partition z y).1,.str (Txt.partition z y).2.1,.str (Txt.partition z y).2.2]) M):=propext ⟨fun⟨_,a,r⟩=>by cases a;exact r,fun r=>⟨_,rfl,r⟩⟩
theorem lW{z y:Str}:yY z [.str y] M R=((y.length == 0)=false∧z.length+2≤sizeLine∧R (.vl ((Txt.split z y).map D.str)) M):=propext ⟨fun⟨_,a,r⟩=>by cases a;exact r,fun r=>⟨_,rfl,r⟩⟩
theorem iT{a b:Int}:tP [.int a,.int b] M R=(CFd a b∧R (.tup [.int (a.fdiv b),.int (a.fmod b)]) M):=propext ⟨fun⟨_,_,z,r⟩=>by cases z;exact r,fun r=>⟨_,_,rfl,r⟩⟩
end
def noX(sp:DSp):DSp:=fun ds M R _=>sp ds M R fun _ _=>False
theorem FnX.nox{P:Program}{w:World}{K:OR}{mg:Str→Option Value}{base:Heap}{x:Str}{k:Nat}{ps:List Str}{sp:DSp}(G:FnX P w K mg base x k ps sp):Fn P w K mg base x k ps (noX sp):=G.fn fun _ _ _ _ h=>h
theorem DI{sp:DSp}{ds:List D}{M:Mem}{R:DK}{Y:DXK}:noX sp ds M R Y=sp ds M R fun _ _=>False:=rfl
end DL
namespace GM
open PySem PySem.Spec L2 DL
open RM (sz)
theorem Hh(a b:String):Str.ofString (a++b)=Str.ofString a++Str.ofString b:=by
 rw[Str.ofString_eq_toList,Str.ofString_eq_toList,Str.ofString_eq_toList]
 show Str.mk _=Str.mk _
 congr 1
 rw[String.toList_append,Pt]
 simp
theorem jD{a b:Str}(h:a.cps=b.cps):a=b:=by cases a;cases b;exact congrArg Str.mk h
theorem uk(a b:Str):(a++b).cps=a.cps++b.cps:=rfl
theorem jk(a b c:Str):a++b++c=a++(b++c):=jD (by simp only[uk,Array.append_assoc])
theorem i9(a b:Str):(a++b).length=a.length+b.length:=by
 show(a.cps++b.cps).size=_
 rw[Array.size_append];rfl
theorem tj(a:Str):Str.ofString "" ++ a=a:=jD (by rw[uk];show #[]++a.cps=a.cps;simp)
noncomputable def tx(n:Int):Str:=Str.ofString (toString n)
theorem G4{n:Int}{k:Nat}(hk:0<k)(h:n.natAbs<10 ^ k):(tx n).length≤k+1:=by
 unfold tx
 rw[ofString_length];exact int_text_length_le10 hk h
theorem jy(n:Int):(if n<0 then Str.ofString "-" else Str.ofString "")++tx (n.natAbs:Int)=tx n:=by
 cases n with
 | ofNat m =>
  rw[if_neg (by show ¬ (m:Int)<0;omega),tj];rfl
 | negSucc m =>
  rw[if_pos (Int.negSucc_lt_zero m)]
  unfold tx
  rw[← Hh];rfl
noncomputable def rtx(q:Rat):Str:=if q.den=1 then tx q.num else tx q.num++Str.ofString "/" ++ tx (q.den:Int)
theorem Ke{q:Rat}(h:sz q≤41):q.num.natAbs<10 ^ 13:=OV (Q3 q h) (by decide)
theorem Ky{q:Rat}(h:sz q≤41):((q.den:Int)).natAbs<10 ^ 13:=by rw[OZ];exact OV (Q9 q h) (by decide)
theorem dJ{q:Rat}(h:sz q≤41):(rtx q).length≤29:=by
 have h1:=G4 (by decide) (Ke h)
 have h2:=G4 (by decide) (Ky h)
 unfold rtx
 split
 ·omega
 ·rw[i9,i9,show(Str.ofString "/").length=1 by decide +kernel];omega
noncomputable def ptx(x:Str × Rat):Str:=x.1++Str.ofString " " ++ rtx x.2
theorem uR(sep:Str){xs:List Str}(h:xs≠[])(y:Str):Txt.join sep (xs++[y])=Txt.join sep xs++sep++y:=by
 cases xs with
 | nil=>exact absurd rfl h
 | cons x xs =>
  refine jD ?_
  show(xs++[y]).foldl (fun acc p=>acc++sep.cps++p.cps) x.cps=(xs.foldl (fun acc p=>acc++sep.cps++p.cps) x.cps++sep.cps)++y.cps
  rw[Sn];rfl
noncomputable def btx(bs:List (Str × Rat)):Str:=if bs=[]then Str.ofString "none" else Txt.join (Str.ofString "; ") (bs.map ptx)
theorem kX:btx []=Str.ofString "none" := if_pos rfl
theorem Ij{bs:List (Str × Rat)}{i:Nat}{x:Str × Rat}(h:bs[i]? = some x):btx (bs.take (i+1))=if i=0 then ptx x else btx (bs.take i)++Str.ofString "; " ++ ptx x:=by
 have tk:bs.take (i+1)=bs.take i++[x]:=by rw[So,h];rfl
 have hi:=(Pc.mp h).1
 unfold btx
 rw[if_neg (by rw[tk];simp),tk,Pt]
 by_cases z:i=0
 ·subst z;rw[if_pos rfl];rfl
 ·have ne:bs.take i≠[]:=fun e=>by
   have:=congrArg Qn e
   rw[PC]at this
   have h0:([]:List (Str × Rat)).length=0:=rfl
   omega
  rw[if_neg z,if_neg ne]
  exact uR _ (fun e=>ne (List.map_eq_nil_iff.mp e)) _
theorem B2:1000000≤sizeLine:=by rw[sizeLine_eq];decide
end GM
namespace GM
open PySem PySem.Spec L2 DL
open RM (sz)
open PySem.NumText
noncomputable def isF(c:Nat):Bool:=decide (48≤c) && decide (c≤57)
noncomputable def N1(cs:List Nat):Bool:=!cs.isEmpty && (cs.drop 300).isEmpty && cs.all isF && (decide (cs=[48]) || decide (cs.head? ≠ some 48))
theorem Q7(cs:List Nat):N1 cs=(decide (cs.length≠0) && decide (cs.length≤300) && cs.all isF && (decide (cs=[48]) || decide (cs.head? ≠ some 48))):=by
 have h1:(!cs.isEmpty)=decide (cs.length≠0):=by cases cs<;>simp
 have h2:(cs.drop 300).isEmpty=decide (cs.length≤300):=by
  rw[Qt,Sz,List.drop_eq_nil_iff,decide_eq_true_eq]
 unfold N1
 rw[h1,h2]
noncomputable def rdW(cs:List Nat):Option Int:=if N1 cs then some (digitsVal cs:Nat)else match cs with
 | 45 :: r=>if N1 r && decide (r≠[48])then some (-((digitsVal r:Nat):Int))else none
 | _=>none
noncomputable def fq:Option Int→D
 | some n=>.int n
 | none=>.non
noncomputable def A1(c:Nat)(cs:List Nat):List Nat × Bool × List Nat:=(cs.takeWhile (· != c),decide (c∈cs),(cs.dropWhile (· != c)).tail)
noncomputable def sx(cs:List Nat):Option (Int × Nat):=match rdW (A1 47 cs).1,(if (A1 47 cs).2.1 then rdW (A1 47 cs).2.2 else some 1)with
 | some n,some d=>if decide (1≤d) && decide (PN n.natAbs d.natAbs=1) && decide ((A1 47 cs).2.2≠[49])then some (n,d.natAbs)else none
 | _,_=>none
noncomputable def rdR(cs:List Nat):Option Rat:=(sx cs).map fun p=>mkRat p.1 p.2
noncomputable abbrev sg(s:Str):List Nat:=s.cps.toList
theorem bI{s t:Str}(h:sg s=sg t):s=t:=by
 cases s;cases t
 exact congrArg Str.mk (Array.toList_inj.mp h)
theorem Ew(cs:List Nat):sg ⟨cs.toArray⟩=cs:=rfl
theorem u6(s:Str):(sg s).length=s.length:=Array.length_toList
theorem HQ(c:Nat):inS ⟨#[c]⟩ (Str.ofString "0123456789")=isF c:=by
 unfold inS
 rw[StrLaws.found_one]
 rw[show(Str.ofString "0123456789").cps.toList=[48,49,50,51,52,53,54,55,56,57]by decide +kernel]
 unfold isF
 rw[← Bool.decide_and]
 refine decide_eq_decide.mpr ⟨fun h=>?_,fun h=>?_⟩
 ·simp only[Pb,Pj,or_false]at h;omega
 ·simp only[Pb,Pj,or_false];omega
theorem dX{cs:List Nat}(h:N1 cs=true):(0<cs.length∧cs.length≤300)∧AllDigits cs∧(cs=[48]∨cs.head? ≠ some 48):=by
 rw[Q7]at h
 simp only[PL,Qg,decide_eq_true_eq]at h
 obtain⟨⟨⟨h1,h2⟩,h3⟩,h4⟩:=h
 refine⟨⟨by omega,h2⟩,fun c hc=>?_,h4⟩
 have:=SA.mp h3 c hc
 unfold isF at this
 simpa using this
theorem tT{s:Str}(h:N1 (sg s)=true):PySem.intText? s=some ((digitsVal (sg s):Nat):Int):=by
 obtain⟨⟨h1,h2⟩,h3,_⟩:=dX h
 exact intText_digits h3 (fun e=>by rw[show sg s=[]from e]at h1;exact absurd h1 (by decide)) (by rw[← u6];omega)
theorem HI(j n:Nat):Builtin.Str.strSliceIndices none (some (j:Int)) 1 n=Builtin.Str.strSliceIndices none (some ((min j n:Nat):Int)) 1 n:=by
 have a:¬ ((j:Int)<0):=by omega
 have b:¬ (((min j n:Nat):Int)<0):=by omega
 have e:max (0:Int) (min (j:Int) n)=max 0 (min ((min j n:Nat):Int) n):=by omega
 unfold Builtin.Str.strSliceIndices
 simp only[if_neg a,if_neg b,show(1:Int) > 0 by decide,if_true,e]
theorem HH(i n:Nat):Builtin.Str.strSliceIndices (some (i:Int)) none 1 n=Builtin.Str.strSliceIndices (some ((min i n:Nat):Int)) none 1 n:=by
 have a:¬ ((i:Int)<0):=by omega
 have b:¬ (((min i n:Nat):Int)<0):=by omega
 have e:max (0:Int) (min (i:Int) n)=max 0 (min ((min i n:Nat):Int) n):=by omega
 unfold Builtin.Str.strSliceIndices
 simp only[if_neg a,if_neg b,show(1:Int) > 0 by decide,if_true,e]
theorem JH(s:Str)(j:Nat):sg (Txt.slice s none (some (j:Int)))=(sg s).take j:=by
 have e:Txt.slice s none (some (j:Int))=StrLaws.sliceText s none (some ((min j s.length:Nat):Int)):=by
  unfold Txt.slice StrLaws.sliceText
  rw[HI]
 have hl:s.cps.toList.length=s.length:=u6 s
 rw[e,StrLaws.sliceText_to ⟨by omega,by omega⟩,Ew,SR,Int.sub_zero,Ql]
 show(sg s).take (min j s.length)=_
 rw[← u6,List.take_eq_take_iff];omega
theorem Bt(s:Str)(i:Nat):sg (Txt.slice s (some (i:Int)) none)=(sg s).drop i:=by
 have e:Txt.slice s (some (i:Int)) none=StrLaws.sliceText s (some ((min i s.length:Nat):Int)) none:=by
  unfold Txt.slice StrLaws.sliceText
  rw[HH]
 have hl:s.cps.toList.length=s.length:=u6 s
 rw[e,StrLaws.sliceText_from ⟨by omega,by omega⟩,Ew,Ql]
 show((sg s).drop (min i s.length)).take _=_
 rw[Qh (by rw[Qc];show(sg s).length - _≤_;rw[u6];omega)]
 rcases Nat.le_total i s.length with h|h
 ·rw[QJ h]
 ·rw[Sy h,← u6,RF (Pe _),RF (by rw[u6];exact h)]
theorem df{n:Nat}(h:n≤100000):n≤sizeLine:=by rw[sizeLine_eq];omega
theorem sO{cs:List Nat}(h:N1 cs=true):rdW cs=some ((digitsVal cs:Nat):Int):=by unfold rdW;rw[if_pos h]
theorem BH{r:List Nat}(h:N1 (45 :: r)=false):rdW (45 :: r)=if N1 r && decide (r≠[48])then some (-((digitsVal r:Nat):Int))else none:=by
 unfold rdW
 rw[if_neg (by rw[h];decide)]
 rfl
theorem Gn{cs:List Nat}(h:N1 cs=false)(h2:cs.take 1≠[45]):rdW cs=none:=by
 unfold rdW
 rw[if_neg (by rw[h];decide)]
 split
 ·exact absurd rfl h2
 ·rfl
theorem Ex{s:Str}{t:Str}:s=t↔sg s=sg t:=⟨fun h=>by rw[h],bI⟩
theorem xm{cs:List Nat}{c:Nat}:cs.take 1=[c] ↔ ∃ r,cs=c :: r:=by
 cases cs with
 | nil=>exact⟨fun h=>(by cases h),fun⟨r,e⟩=>(by cases e)⟩
 | cons a r=>exact⟨fun h=>⟨r,(by cases h;rfl)⟩,fun⟨r',e⟩=>(by cases e;rfl)⟩
abbrev dG(s:Str)(M:Mem)(R:DK)(Y:DXK):Prop:=s.length≤100000∧R (.bl (N1 (sg s))) M
def xI:DSp:=fun ds M R Y=>∃(s:Str),ds=[.str s]∧dG s M R Y
theorem qN{s:Str}{M:Mem}{R:DK}{Y:DXK}:xI [.str s] M R Y=(dG s M R Y):=propext ⟨fun z=>by obtain⟨_,_,_⟩:=z;walk_at "inj",fun h=>⟨s,rfl,h⟩⟩
abbrev aJ(s:Str)(M:Mem)(R:DK)(Y:DXK):Prop:=s.length≤100000∧R (fq (rdW (sg s))) M
def pf:DSp:=fun ds M R Y=>∃(s:Str),ds=[.str s]∧aJ s M R Y
theorem lG{s:Str}{M:Mem}{R:DK}{Y:DXK}:pf [.str s] M R Y=(aJ s M R Y):=propext ⟨fun z=>by obtain⟨_,_,_⟩:=z;walk_at "inj",fun h=>⟨s,rfl,h⟩⟩
theorem sC{c:Nat}:∀{l:List Nat} {i:Nat},l[i]? = some c→(∀ k,k<i→l[k]? ≠ some c)→l.takeWhile (· != c)=l.take i
 | [],i,h,_=>by simp at h
 | k :: r,0,h,_=>by
  have e:k=c:=by simpa using h
  subst e
  rw[Ri (by simp)];rfl
 | k :: r,i+1,h,hn=>by
  have h1:k≠c:=fun e=>hn 0 (by omega) (by simp[e])
  rw[PY (by simp[h1]),sC (l:=r) (i:=i) (by simpa using h) fun j hj=>by have:=hn (j+1) (by omega);simpa using this]
  rfl
theorem bz{c:Nat}:∀{l:List Nat},c∉l→l.takeWhile (· != c)=l
 | [],_=>rfl
 | k :: r,h=>by
  have h1:k≠c:=fun e=>h (e▸Ph ..)
  rw[PY (by simp[h1]),bz fun m=>h (OW _ m)]
theorem sV(x:Str)(c:Nat):sg (Txt.partition x ⟨#[c]⟩).1=(A1 c (sg x)).1∧(Txt.partition x ⟨#[c]⟩).2.1=(if (A1 c (sg x)).2.1 then⟨#[c]⟩else Str.empty)∧sg (Txt.partition x ⟨#[c]⟩).2.2=(A1 c (sg x)).2.2:=by
 unfold Txt.partition A1
 rcases StrLaws.occ_head x ⟨#[c]⟩ 1 (Pe 1)with⟨h0,hn⟩|⟨i,r,h0,hi,hn⟩
 ·have hfree:c∉sg x:=fun hm=>by
   obtain⟨j,hj⟩:=List.getElem?_of_mem hm
   exact hn j ((StrLaws.subAt_one x c j).mpr hj)
  rw[h0]
  refine⟨(bz hfree).symm,?_,?_⟩
  ·show Str.empty=_
   rw[if_neg (by rw[decide_eq_true_eq];exact hfree)]
  ·show[]=_
   rw[PyProof.Rows.dropWhile_none hfree];rfl
 ·rw[h0]
  have hm:=(StrLaws.subAt_one x c i).mp hi
  have hk:∀ k,k<i→(sg x)[k]? ≠ some c:=fun k hk e=>hn k hk ((StrLaws.subAt_one x c k).mpr e)
  refine⟨?_,?_,?_⟩
  ·show(Builtin.Str.strSub x 0 i).cps.toList=_
   rw[StrLaws.strSub_toList,sC hm hk];rfl
  ·show(⟨#[c]⟩:Str)=_
   rw[if_pos (by rw[decide_eq_true_eq];exact Pn hm)]
  ·show(Builtin.Str.strSub x (i+1) x.length).cps.toList=_
   rw[StrLaws.strSub_toList,PyProof.Rows.dropWhile_at hm hk]
   show _=x.cps.toList.drop (i+1)
   exact Qh (by simp[Str.length])
noncomputable def Hi:D→Bool
 | .non=>true
 | .bl _=>true
 | .int _=>true
 | .tup _=>true
 | .vl _=>true
 | _=>false
theorem uh(c:Nat)(cs:List Nat):(A1 c cs).1.length≤cs.length∧(A1 c cs).2.2.length≤cs.length:=by
 refine⟨(List.takeWhile_sublist _).length_le,?_⟩
 have:=(RG (l:=cs) (· != c)).length_le
 unfold A1
 rw[List.length_tail];omega
theorem yO(a b:Option Int):fP (.tup [fq a,fq b])=match a,b with
  | some n,some d=>decide (1≤d) && decide (PN n.natAbs d.natAbs=1)
  | _,_=>false:=by
 cases a<;>cases b<;>rfl
theorem zl(a b:Option Int):fl1 (.tup [fq a,fq b])=true:=by cases a<;>cases b<;>rfl
theorem Gp{n d:Int}(h:(decide (1≤d) && decide (PN n.natAbs d.natAbs=1))=true):D.tup [.int n,.int d]=e8 (mkRat n d.natAbs):=by
 rw[PL,decide_eq_true_eq,decide_eq_true_eq]at h
 obtain⟨k,rfl⟩:=Rx (show 0≤d by omega)
 have h2:PN n.natAbs k=1:=h.2
 have e:mkRat n k = ⟨n,k,by omega,h2⟩:=SU ⟨n,k,by omega,h2⟩
 show _=e8 (mkRat n k)
 rw[e];rfl
abbrev aK(x:D)(M:Mem)(R:DK)(Y:DXK):Prop:=((∃ s,x = .str s∧s.length≤100000∧(∀ q,rdR (sg s)=some q→R (e8 q) M)∧(rdR (sg s)=none→Y (xN "NoText") M))∨(Hi x=true∧Y (xN "NoText") M))
def jX:DSp:=fun ds M R Y=>∃(x:D),ds=[x]∧aK x M R Y
theorem lH{x:D}{M:Mem}{R:DK}{Y:DXK}:jX [x] M R Y=(aK x M R Y):=propext ⟨fun z=>by obtain⟨_,_,_⟩:=z;walk_at "inj",fun h=>⟨x,rfl,h⟩⟩
noncomputable def K2(w:Str)(q:Rat):Bool:=if w=Str.ofString "gap" then decide (0≤q.num)else if w=Str.ofString "stop" then decide (0<q.num)else decide (w=Str.ofString "glass")
noncomputable def rdP(cs:List Nat):Option (Str × Rat):=match rdR (A1 32 cs).2.2 with
 | some q=>if K2 ⟨(A1 32 cs).1.toArray⟩ q then some (⟨(A1 32 cs).1.toArray⟩,q)else none
 | none=>none
noncomputable def mP:List Str→Option (List (Str × Rat))
 | []=>some []
 | s :: ss=>match rdP (sg s),mP ss with
  | some p,some ps=>some (p :: ps)
  | _,_=>none
noncomputable def rdB(n:Nat)(s:Str):Option (List (Str × Rat)):=if s=Str.ofString "none" then some []else if n<(Txt.split s (Str.ofString "; ")).length then none else mP (Txt.split s (Str.ofString "; "))
theorem N4:∀{xs:List Str} {ps:List (Str × Rat)},mP xs=some ps↔xs.map (fun s=>rdP (sg s))=ps.map some
 | [],ps=>by
  unfold mP
  cases ps with
  | nil=>exact⟨fun _=>rfl,fun _=>rfl⟩
  | cons p ps=>exact⟨fun h=>(by cases h),fun h=>(by cases h)⟩
 | x :: xs,ps=>by
  unfold mP
  cases h1:rdP (sg x)with
  | none =>
   refine⟨fun h=>(by cases h),fun h=>?_⟩
   cases ps with
   | nil=>cases h
   | cons p ps=>rw[Po,Po]at h;rw[h1]at h;cases(List.cons.inj h).1
  | some p =>
   cases h2:mP xs with
   | none =>
    refine⟨fun h=>(by cases h),fun h=>?_⟩
    cases ps with
    | nil=>cases h
    | cons p2 ps =>
     rw[Po,Po]at h
     rw[N4.mpr (List.cons.inj h).2]at h2;cases h2
   | some qs =>
    have e:=N4.mp h2
    refine⟨fun h=>?_,fun h=>?_⟩
    ·obtain rfl:p :: qs=ps:=Option.some.inj h
     rw[Po,Po,h1,e]
    ·cases ps with
     | nil=>cases h
     | cons p2 ps =>
      rw[Po,Po,h1]at h
      obtain⟨a,b⟩:=List.cons.inj h
      have:=N4.mpr b
      rw[h2]at this
      cases a;cases this;rfl
theorem uG{xs:List Str}{x:Str}(hx:x∈xs)(h:rdP (sg x)=none):mP xs=none:=by
 cases e:mP xs with
 | none=>rfl
 | some ps =>
  have h2:=N4.mp e
  have h3:rdP (sg x)∈ps.map some:=by rw[← h2];exact Qv.mpr ⟨x,hx,rfl⟩
  rw[h]at h3
  obtain⟨_,_,z⟩:=Qv.mp h3
  cases z
def Exd(M M':Mem):Prop:=∀ a o,M a=some o→M' a=some o
theorem Exd.refl(M:Mem):Exd M M:=fun _ _ h=>h
theorem Exd.upd{M:Mem}{l:Addr}{o:MO}(h:M l=none):Exd M (q9 M l o):=fun a o2 e=>by
 rw[j5 (fun z=>by rw[z,h]at e;cases e)];exact e
abbrev dB(w:Str)(q:Rat)(M:Mem)(R:DK)(Y:DXK):Prop:=R (.bl (K2 w q)) M
def sI:DSp:=fun ds M R Y=>∃(w:Str) (q:Rat),ds=[.str w,e8 q]∧dB w q M R Y
theorem qH{w:Str}{q:Rat}{M:Mem}{R:DK}{Y:DXK}:sI [.str w,e8 q] M R Y=(dB w q M R Y):=propext ⟨fun z=>by obtain⟨_,_,_,_⟩:=z;walk_at "inj",fun h=>⟨w,q,rfl,h⟩⟩
abbrev aU(w:Str)(q:Rat)(M:Mem)(R:DK)(Y:DXK):Prop:=R (.bl (K2 w q)) M
def sJ:DSp:=fun ds M R Y=>∃(w:Str) (q:Rat),ds=[.tup [.str w,e8 q]]∧aU w q M R Y
theorem qJ{w:Str}{q:Rat}{M:Mem}{R:DK}{Y:DXK}:sJ [.tup [.str w,e8 q]] M R Y=(aU w q M R Y):=propext ⟨fun z=>by obtain⟨_,_,_,_⟩:=z;walk_at "inj",fun h=>⟨w,q,rfl,h⟩⟩
abbrev aL(s:Str)(M:Mem)(R:DK)(Y:DXK):Prop:=(s.length≤100000∧(∀ p,rdP (sg s)=some p→R (i0 p) M)∧(rdP (sg s)=none→Y (xN "NoText") M))
def ph:DSp:=fun ds M R Y=>∃(s:Str),ds=[.str s]∧aL s M R Y
theorem lI{s:Str}{M:Mem}{R:DK}{Y:DXK}:ph [.str s] M R Y=(aL s M R Y):=propext ⟨fun z=>by obtain⟨_,_,_⟩:=z;walk_at "inj",fun h=>⟨s,rfl,h⟩⟩
abbrev X0(x:D)(n:Nat)(M:Mem)(R:DK)(Y:DXK):Prop:=((∃ s,x = .str s∧s.length≤100000∧n≤100∧(∀ bs,rdB n s=some bs→∀ l,M l=none→R (.ref l) (q9 M l (.lst (bs.map i0))))∧(rdB n s=none→Y (xN "NoText") M))∨(Hi x=true∧Y (xN "NoText") M))
def du:DSp:=fun ds M R Y=>∃(x:D) (n:Nat),ds=[x,.int (n:Int)]∧X0 x n M R Y
theorem bw{x:D}{n:Nat}{M:Mem}{R:DK}{Y:DXK}:du [x,.int (n:Int)] M R Y=(X0 x n M R Y):=propext ⟨fun z=>by obtain⟨_,_,_,_⟩:=z;walk_at "inj",fun h=>⟨x,n,rfl,h⟩⟩
abbrev aM(x:D)(M:Mem)(R:DK)(Y:DXK):Prop:=((∃ s,x = .str s∧s.length≤100000∧(∀ bs,rdB 12 s=some bs→∀ l,M l=none→R (.ref l) (q9 M l (.lst (bs.map i0))))∧(rdB 12 s=none→Y (xN "NoText") M))∨(Hi x=true∧Y (xN "NoText") M))
def pj:DSp:=fun ds M R Y=>∃(x:D),ds=[x]∧aM x M R Y
theorem lJ{x:D}{M:Mem}{R:DK}{Y:DXK}:pj [x] M R Y=(aM x M R Y):=propext ⟨fun z=>by obtain⟨_,_,_⟩:=z;walk_at "inj",fun h=>⟨x,rfl,h⟩⟩
theorem cI(m:Nat):sg (tx (m:Int))=(Nat.toDigits 10 m).map Char.toNat:=PySem.W.KIN.signs_num m
theorem S6(m:Nat):AllDigits (sg (tx (m:Int))):=fun c hc=>by
 rw[cI]at hc
 obtain⟨ch,hch,e⟩:=Qv.mp hc
 have h:ch.isDigit=true:=Nat.isDigit_of_mem_toDigits (by decide) (by decide) hch
 rw[← e]
 simp only[Char.isDigit,PL,decide_eq_true_eq]at h
 exact⟨by exact_mod_cast h.1,by exact_mod_cast h.2⟩
theorem fW:∀(b a:List Nat),digitsVal (a++b)=digitsVal a*10 ^ b.length+digitsVal b
 | [],a=>by show _=digitsVal a*1+0;rw[PJ];omega
 | c :: b,a=>by
  have h1:=fW b (a++[c])
  have h2:=fW b [c]
  rw[Qe]at h1
  rw[show a++c :: b=a++([c]++b)from rfl,h1,show c :: b=[c]++b from rfl,h2,digitsVal_snoc,show digitsVal [c]=0*10+(c - 48)from rfl,Pl]
  show _=digitsVal a*10 ^ (1+b.length)+_
  rw[QX];grind
theorem vg:∀ x,x<58→(Char.ofNat x).toNat=x:=by decide
theorem au{cs:List Nat}(h:AllDigits cs):(cs.map Char.ofNat).map Char.toNat=cs:=by
 rw[Qb]
 conv=>rhs;rw[← Sb cs]
 exact Qp fun x hx=>vg x (by have:=h x hx;omega)
theorem qg(k:Nat)(b:List Nat):digitsVal (PK k 48++b)=digitsVal b:=by
 induction k with
 | zero=>rfl
 | succ k ih=>rw[List.replicate_succ,QQ,digitsVal_zero,ih]
theorem Y1(m:Nat):digitsVal (sg (tx (m:Int)))=m:=by rw[cI];exact PySem.W.KIN.val_back m
theorem jz{m:Nat}(h:0<m):∃ c r,sg (tx (m:Int))=c :: r∧49≤c:=by
 have h1:=toDigits_all _ (S6 m)
 rw[Y1]at h1
 have h2:=cI m
 rw[h1]at h2
 cases hd:(sg (tx (m:Int))).dropWhile (· == 48)with
 | nil =>
  rw[hd]at h1
  have e:m=digitsVal ((Nat.toDigits 10 m).map Char.toNat):=(PySem.W.KIN.val_back m).symm
  rw[h1]at e
  have:m=0:=e
  omega
 | cons c r =>
  rw[hd]at h2
  have hm:∀ x∈c :: r,48≤x∧x≤57:=fun x hx=>S6 m x ((RG _).subset (by rw[hd];exact hx))
  have e:((c :: r).map Char.ofNat).map Char.toNat=c :: r:=au hm
  refine⟨c,r,?_,?_⟩
  ·rw[h2];exact e
  ·have h3:=hm c Ph
   have h4:(c == 48)=false:=by
    have:=List.head?_dropWhile_not (p:=(· == 48)) (sg (tx (m:Int)))
    rw[hd]at this
    simpa using this
   have:c≠48:=by simpa using h4
   omega
theorem xh{r:Nat}(h:10 ^ 60≤r):tx (r:Int)=tx ((r / 10 ^ 60:Nat):Int)++Txt.zfill (tx ((r % 10 ^ 60:Nat):Int)) 60:=by
 have ha:0<r / 10 ^ 60:=Nat.div_pos h (by decide)
 have hb:r % 10 ^ 60<10 ^ 60:=RR _ (by decide)
 generalize hA:r / 10 ^ 60=a at *
 generalize hB:r % 10 ^ 60=b at *
 have hr:r=a*10 ^ 60+b:=by rw[← hA,← hB];omega
 have lb:(sg (tx (b:Int))).length≤60:=by
  rw[cI,OU]
  exact(Qw (by decide) (by decide)).mpr hb
 have ez:sg (Txt.zfill (tx (b:Int)) 60)=PK (60 - (sg (tx (b:Int))).length) 48++sg (tx (b:Int)):=by
  unfold Txt.zfill
  split
  ·rename_i hl
   have:(sg (tx (b:Int))).length=60:=by rw[u6]at lb ⊢;omega
   rw[this];rfl
  ·unfold zfilled
   have n0:∀ c,(tx (b:Int)).cps[0]? = some c→c≠43∧c≠45:=fun c hc=>by
    have:=S6 b c (by rw[← Array.getElem?_toList]at hc;exact Pn hc)
    omega
   split
   ·rename_i q;exact absurd rfl (n0 _ q).1
   ·rename_i q;exact absurd rfl (n0 _ q).2
   ·show(Array.replicate _ 48++(tx (b:Int)).cps++Array.replicate 0 48).toList=_
    rw[Array.toList_append,Array.toList_append,u6]
    show(Array.replicate _ 48).toList++_++[]=_
    rw[PJ,Array.toList_replicate];rfl
 have ad:AllDigits (sg (tx (a:Int))++(PK (60 - (sg (tx (b:Int))).length) 48++sg (tx (b:Int)))):=fun c hc=>by
  rcases Pq.mp hc with q|q
  ·exact S6 a c q
  ·rcases Pq.mp q with q|q
   ·rw[List.eq_of_mem_replicate q];decide
   ·exact S6 b c q
 have dv:digitsVal (sg (tx (a:Int))++(PK (60 - (sg (tx (b:Int))).length) 48++sg (tx (b:Int))))=r:=by
  rw[fW,qg,Y1,Y1,Pl,Qj,Nat.sub_add_cancel lb,hr]
 obtain⟨c,rr,e1,e2⟩:=jz ha
 refine bI ?_
 rw[show sg (tx (a:Int)++Txt.zfill (tx (b:Int)) 60)=sg (tx (a:Int))++sg (Txt.zfill (tx (b:Int)) 60)from Array.toList_append,ez]
 generalize hcs:sg (tx (a:Int))++(PK (60 - (sg (tx (b:Int))).length) 48++sg (tx (b:Int)))=cs at *
 rw[cI,← dv]
 have hl:∃ r2,cs=c :: r2:=⟨_,by rw[← hcs,e1];rfl⟩
 obtain⟨r2,h2⟩:=hl
 rw[toDigits_digitsVal r2.length cs (by rw[h2];rfl) ad (.inr ⟨c,r2,h2,e2⟩),au ad]
theorem tQ:∀(xs:List Str) (a:Array Nat),(xs.foldl (fun acc p=>acc++(Str.ofString "").cps++p.cps) a).toList=a.toList++(xs.map sg).flatten
 | [],a=>by simp
 | x :: xs,a=>by
  rw[SJ,tQ xs,Po,List.flatten_cons,Array.toList_append,Array.toList_append]
  show(a.toList++[]++_)++_=_
  rw[PJ,Qe]
theorem Cu(xs:List Str):sg (Txt.join (Str.ofString "") xs)=(xs.map sg).flatten:=by
 cases xs with
 | nil=>rfl
 | cons x xs=>exact tQ xs x.cps
theorem yF{ps:List Str}(h:∀ y∈ps,y.length≤60):(ps.map (·.length)).sum≤60*ps.length:=by
 induction ps with
 | nil=>exact PD _
 | cons x xs ih =>
  rw[Po,Sj,Pz]
  have:=ih fun y hy=>h y (OW _ hy)
  have:=h x Ph
  omega
theorem Kx(r k:Nat):(r:Int).fdiv (k:Int)=((r / k:Nat):Int):=by rw[Int.fdiv_eq_ediv_of_nonneg _ (QG k)];rfl
theorem Kw(r k:Nat):(r:Int).fmod (k:Int)=((r % k:Nat):Int):=by rw[Rf _ (QG k)];rfl
theorem Bp:(10:Int) ^ SK 60=((10 ^ 60:Nat):Int):=by decide +kernel
theorem FC{r:Nat}(h:10 ^ 60≤r):(Txt.zfill (tx ((r % 10 ^ 60:Nat):Int)) 60).length+(tx ((r / 10 ^ 60:Nat):Int)).length=(tx (r:Int)).length∧(Txt.zfill (tx ((r % 10 ^ 60:Nat):Int)) 60).length=60:=by
 have e:=congrArg Str.length (xh h)
 rw[i9]at e
 refine⟨by omega,?_⟩
 have lb:(tx ((r % 10 ^ 60:Nat):Int)).length≤60:=by
  rw[← u6,cI,OU]
  exact(Qw (by decide) (by decide)).mpr (RR _ (by decide))
 unfold Txt.zfill
 split
 ·omega
 ·unfold zfilled
  have n0:∀ c,(tx ((r % 10 ^ 60:Nat):Int)).cps[0]? = some c→c≠43∧c≠45:=fun c hc=>by
   have:=S6 (r % 10 ^ 60) c (by rw[← Array.getElem?_toList]at hc;exact Pn hc)
   omega
  split
  ·rename_i q;exact absurd rfl (n0 _ q).1
  ·rename_i q;exact absurd rfl (n0 _ q).2
  ·show(Array.replicate _ 48++(tx ((r % 10 ^ 60:Nat):Int)).cps++Array.replicate 0 48).size=60
   rw[Array.size_append,Array.size_append,Array.size_replicate,Array.size_replicate]
   show(60 - (tx ((r % 10 ^ 60:Nat):Int)).length)+(tx ((r % 10 ^ 60:Nat):Int)).length+0=60
   omega
abbrev jS(n:Int)(M:Mem)(R:DK)(Y:DXK):Prop:=n.natAbs<10 ^ 5000∧R (.str (tx n)) M
def Ge:DSp:=fun ds M R Y=>∃(n:Int),ds=[.int n]∧jS n M R Y
theorem vy{n:Int}{M:Mem}{R:DK}{Y:DXK}:Ge [.int n] M R Y=(jS n M R Y):=propext ⟨fun z=>by obtain⟨_,_,_⟩:=z;walk_at "inj",fun h=>⟨n,rfl,h⟩⟩
abbrev jV(q:Rat)(M:Mem)(R:DK)(Y:DXK):Prop:=(q.num.natAbs<10 ^ 5000∧q.den<10 ^ 5000)∧R (.str (rtx q)) M
def Bz:DSp:=fun ds M R Y=>∃(q:Rat),ds=[e8 q]∧jV q M R Y
theorem vz{q:Rat}{M:Mem}{R:DK}{Y:DXK}:Bz [e8 q] M R Y=(jV q M R Y):=propext ⟨fun z=>by obtain⟨_,_,_⟩:=z;walk_at "inj",fun h=>⟨q,rfl,h⟩⟩
noncomputable def E7(y:List Nat):Nat→List Nat→List Nat→List (List Nat)
 | 0,cs,acc=>[acc.reverse++cs]
 | n+1,cs,acc=>match cs with
  | []=>[acc.reverse]
  | c :: r=>if y.isPrefixOf (c :: r)then acc.reverse :: E7 y n ((c :: r).drop y.length) []else E7 y n r (c :: acc)
noncomputable def mkS(cs:List Nat):Str:=⟨cs.toArray⟩
theorem jC(x:Str)(a b:Nat):sg (Builtin.Str.strSub x a b)=((sg x).drop a).take (b - a):=StrLaws.strSub_toList x a b
theorem Ae{x y:Str}{a:Nat}(hy:1≤y.length):StrLaws.At x y x.length a↔(sg y).isPrefixOf ((sg x).drop a)=true:=by
 rw[List.isPrefixOf_iff_prefix,List.prefix_iff_eq_take]
 unfold StrLaws.At
 have e:Builtin.Str.subAt x y a=true↔((sg x).drop a).take y.length=sg y:=by
  unfold Builtin.Str.subAt
  rw[beq_iff_eq,← Array.toList_inj,Array.toList_extract]
  show List.take (a+y.length - a) (List.drop a (sg x))=sg y↔_
  rw[show a+y.length - a=y.length by omega]
 rw[e,u6]
 refine⟨fun h=>h.2.symm,fun h=>⟨?_,h.symm⟩⟩
 have:=congrArg Qn h
 rw[u6,PC,Qc,u6]at this
 omega
theorem bU{x y:Str}(hy:1≤y.length):∀(n a s:Nat) (cuts:List Nat) (f:Nat),s≤a→a≤x.length→x.length<a+n→StrLaws.ChainG x y x.length a cuts f→(∀ k,f≤k→¬ StrLaws.At x y x.length k) →
  (match cuts with
   | []=>[((sg x).drop s).take (x.length - s)]
   | c :: r=>(((sg x).drop s).take (c - s)) :: (StrLaws.partsFrom x y.length (c+y.length) r).map sg)=E7 (sg y) n ((sg x).drop a) (((sg x).drop s).take (a - s)).reverse
 | 0,a,s,cuts,f,h1,h2,h3,_,_=>by omega
 | n+1,a,s,cuts,f,h1,h2,h3,hc,hf=>by
  have hl:=u6 x
  unfold E7
  cases hcs:(sg x).drop a with
  | nil =>
   have ha:a=x.length:=by have:=congrArg Qn hcs;rw[Qc,hl]at this;simp only[RP]at this;omega
   cases cuts with
   | nil=>rw[Qz,ha]
   | cons c r =>
    have:=hc.2.1.1
    have:=hc.1
    omega
  | cons c0 r0 =>
   have ha:a<x.length:=by have:=congrArg Qn hcs;rw[Qc,hl]at this;simp only[Pz]at this;omega
   have step:((sg x).drop s).take (a+1 - s)=((sg x).drop s).take (a - s)++[c0]:=by
    rw[show a+1 - s=(a - s)+1 by omega,So]
    congr 1
    rw[Sk,show s+(a - s)=a by omega]
    have:(sg x)[a]? = ((sg x).drop a)[0]?:=by rw[Sk];rfl
    rw[this,hcs];rfl
   have nxt:r0=(sg x).drop (a+1):=by
    have:((sg x).drop a).drop 1=(sg x).drop (a+1):=by rw[SV]
    rw[← this,hcs];rfl
   show _=if (sg y).isPrefixOf (c0 :: r0)=true then _ else _
   by_cases hA:StrLaws.At x y x.length a
   ·have hp:=(Ae hy).mp hA
    rw[hcs]at hp
    rw[if_pos hp,Qz]
    cases cuts with
    | nil =>
     have e:f=a:=hc
     exact absurd hA (hf a (by omega))
    | cons c r =>
     obtain⟨q1,q2,q3,q4⟩:=hc
     have e:c=a:=by
      rcases Sr a c with z|z
      ·exact absurd hA (q3 a (Pe _) z)
      ·omega
     subst e
     have hb:=q2.1
     show _ :: _=_ :: _
     congr 1
     have ih:=bU hy n (c+y.length) (c+y.length) r f (Pe _) hb (by omega) q4 hf
     rw[show c+y.length - (c+y.length)=0 by omega]at ih
     rw[show(c0 :: r0).drop (sg y).length=(sg x).drop (c+y.length)by rw[← hcs,SV,u6]]
     rw[show([]:List Nat)=(List.take 0 ((sg x).drop (c+y.length))).reverse by rfl,← ih]
     cases r with
     | nil=>show[sg (Builtin.Str.strSub x _ _)]=_;rw[jC]
     | cons d r=>show sg (Builtin.Str.strSub x _ _) :: _=_;rw[jC]
   ·have hp:¬ (sg y).isPrefixOf (c0 :: r0)=true:=fun z=>hA ((Ae hy).mpr (by rw[hcs];exact z))
    rw[if_neg hp]
    have ih:∀ hc2,_:=fun hc2=>bU (x:=x) hy n (a+1) s cuts (match cuts with|[]=>a+1|_=>f) (by omega) (by omega) (by omega) hc2 (by
     cases cuts with
     | nil =>
      have e:f=a:=hc
      exact fun k hk=>hf k (by have:a+1≤k:=hk;omega)
     | cons c r=>exact hf)
    rw[← nxt,step,Rb]at ih
    refine ih ?_
    cases cuts with
    | nil=>rfl
    | cons c r =>
     obtain⟨q1,q2,q3,q4⟩:=hc
     refine⟨?_,q2,fun k h5 h6=>q3 k (by omega) h6,q4⟩
     rcases Sr a c with z|z
     ·omega
     ·have e:c=a:=by omega
      rw[e]at q2
      exact absurd q2 hA
theorem xq{x y:Str}(hy:1≤y.length)(hk:Builtin.Str.strKind y=1){N:Nat}(hN:x.length<N):(Txt.split x y).map sg=E7 (sg y) N (sg x) []:=by
 obtain⟨f,hc,hf⟩:=StrLaws.occ_tight x y hy
 have h:=bU hy N 0 0 _ f (Pe _) (PD _) (by omega) hc hf
 rw[show(sg x).drop 0=sg x by rfl,Nat.sub_self,SW]at h
 rw[show([]:List Nat)=([]:List Nat).reverse from rfl,← h]
 have one:([x].map sg)=[(sg x).take (x.length - 0)]:=by
  rw[Nat.sub_zero,← u6,PX];rfl
 have kx:1≤Builtin.Str.strKind x:=by
  unfold Builtin.Str.strKind
  split
  ·decide
  ·split<;>decide
 unfold Txt.split
 split
 ·rename_i q
  rw[hk,Qg,decide_eq_true_eq,decide_eq_true_eq]at q
  have:Builtin.Str.occurrences x y 0 x.length (x.length+1)=[]:=by
   cases ho:Builtin.Str.occurrences x y 0 x.length (x.length+1)with
   | nil=>rfl
   | cons c r =>
    rw[ho]at hc
    have:=hc.2.1.1
    omega
  rw[this];exact one
 ·split
  ·rename_i q
   rw[Sz]at q
   rw[q];exact one
  ·rw[StrLaws.partsBetween_eq]
   cases Builtin.Str.occurrences x y 0 x.length (x.length+1)with
   | nil=>show[sg (Builtin.Str.strSub x _ _)]=_;rw[jC];rfl
   | cons c r=>show sg (Builtin.Str.strSub x _ _) :: _=_;rw[jC];rfl
theorem mr{x y:Str}(hy:1≤y.length)(hk:Builtin.Str.strKind y=1){N:Nat}(hN:x.length<N):Txt.split x y=(E7 (sg y) N (sg x) []).map mkS:=by
 rw[← xq hy hk hN,Qb]
 conv=>lhs;rw[← Sb (Txt.split x y)]
 exact Qp fun s _=>by show s=mkS (sg s);rfl
end GM
namespace L2
open PySem PySem.Spec PyProof.Rows
section
variable {X:Cx} {a b:Expr} {ta:TE} {tb:TA} {p2 pos pos2:Pos}
end
end L2
namespace DL
open PySem PySem.Spec L2
open PyProof.Rows hiding St
section
variable {X:Cx} {x:Expr} {t:DTE}
end
section
variable {X:Cx} {a b:Expr} {ta:DTE} {tb:DTA} {p2 pos pos2:Pos}
end
end DL
namespace GM
open PySem PySem.Spec L2 DL
open RM (sz)
open PySem.NumText
noncomputable def bE(n N:Nat)(cs:List Nat):Bool:=!decide (cs=[110,111,110,101]) && (decide (n<(E7 [59,32] N cs []).length) || (E7 [59,32] N cs []).any fun p=>(rdP p).isNone)
noncomputable def hE(N:Nat)(cs:List Nat):Bool:=match E7 [32,124,32] N cs []with
 | [a,b,c]=>(rdR a).isNone || bE 8 N b || (rdR c).isNone
 | _=>true
theorem v8(a b:Str):sg (a++b)=sg a++sg b:=Array.toList_append
theorem Hn{s:Str}{n:Int}(hs:s.length=1)(h0:1≤n)(h1:n≤10000):MulOk s n:=by
 have l:Builtin.Str.tooLong (s.length*n.toNat)=false:=by
  unfold Builtin.Str.tooLong
  rw[hs,sizeLine_eq]
  exact decide_eq_false (by omega)
 refine⟨by rw[decide_eq_false (by omega),decide_eq_false (by omega)];rfl,fun _ _=>?_,fun _ _=>l⟩
 rw[hs]
 have:(1:Int)≤(2 ^ 63 - 1) / n:=by rw[Int.le_ediv_iff_mul_le (by omega)];omega
 omega
theorem Jo{cs:List Nat}(h:AllDigits cs)(h2:∃ c r,cs=c :: r∧49≤c):sg (tx ((digitsVal cs:Nat):Int))=cs:=by
 obtain⟨c,r,e,h3⟩:=h2
 rw[cI,toDigits_digitsVal r.length cs (by rw[e];rfl) h (.inr ⟨c,r,e,h3⟩),au h]
theorem FR{cs:List Nat}(h:N1 cs=true):sg (tx ((digitsVal cs:Nat):Int))=cs:=by
 obtain⟨⟨h1,h2⟩,h3,h4⟩:=dX h
 rcases h4 with e|e
 ·rw[e];decide +kernel
 ·cases cs with
  | nil=>exact absurd h1 (by decide)
  | cons c r =>
   refine Jo h3 ⟨c,r,rfl,?_⟩
   have:=h3 c Ph
   have:c≠48:=fun z=>e (by rw[z];rfl)
   omega
end GM
namespace DL
open PySem PySem.Spec L2
open PyProof.Rows hiding St
section
variable {X:Cx} {name:Str} {id:String} {o:Expr} {to:DTE} {apos cpos:Pos}
end
section
variable {e:Ev} {M:Mem} {R:DK} {to:DTE}
end
section
variable {X:Cx} {x:Expr} {t:DTE}
end
end DL
namespace GM
open PySem PySem.Spec L2 DL
open RM (sz)
open PySem.NumText
theorem bD(y:List Nat)(n c:Nat)(r acc:List Nat):E7 y (n+1) (c :: r) acc=if y.isPrefixOf (c :: r)then acc.reverse :: E7 y n ((c :: r).drop y.length) []else E7 y n r (c :: acc):=rfl
theorem eU(c:Nat):∀(n:Nat) (cs acc:List Nat),cs.length<n→E7 [c] n cs acc=if c∈cs then(acc.reverse++cs.takeWhile (· != c)) :: E7 [c] (n - 1 - (cs.takeWhile (· != c)).length) (cs.dropWhile (· != c)).tail []else[acc.reverse++cs]
 | 0,cs,acc,h=>by omega
 | n+1,[],acc,h=>by unfold E7;simp
 | n+1,c0 :: r,acc,h=>by
  have hr:r.length<n:=by rw[Pz]at h;omega
  rw[bD]
  by_cases e:c=c0
  ·subst e
   have hp:[c].isPrefixOf (c :: r)=true:=by simp
   rw[if_pos hp,if_pos Ph,Ri (by simp),List.dropWhile_cons_of_neg (by simp),PJ,RP]
   show _ :: E7 [c] n r []=_ :: E7 [c] (n+1 - 1 - 0) r []
   rw[show n+1 - 1 - 0=n by omega]
  ·have hp:¬ [c].isPrefixOf (c0 :: r)=true:=by simp[e]
   have e2:(c0 != c)=true:=by simpa using fun z=>e z.symm
   rw[if_neg hp,eU c n r (c0 :: acc) hr,PY (p:=(· != c)) e2,Qx (p:=(· != c)) e2,QM,Qe,Pz]
   simp only[Qe,List.singleton_append]
   by_cases hm:c∈r
   ·rw[if_pos hm,if_pos (OW _ hm)]
    show _ :: E7 [c] (n - 1 - _) _ _=_ :: E7 [c] (n+1 - 1 - (_+1)) _ _
    rw[show n+1 - 1 - ((r.takeWhile (· != c)).length+1)=n - 1 - (r.takeWhile (· != c)).length by omega]
   ·rw[if_neg hm,if_neg (fun z=>by rcases Pb.mp z with z|z;exact e z;exact hm z)]
noncomputable def lfW(cs:List Nat):Option Int:=if N1 cs then some ((digitsVal cs:Nat):Int)else none
theorem zq{r:List Nat}(h:N1 r=true):digitsVal r=1↔r=[49]:=by
 refine⟨fun z=>?_,fun z=>by rw[z];rfl⟩
 have e:=FR h
 rw[z]at e
 exact e.symm.trans (by decide +kernel)
theorem uZ{c:Nat}{cs:List Nat}(h:decide (c∈cs)=false):(cs.dropWhile (· != c)).tail=[]:=by
 rw[PyProof.Rows.dropWhile_none (of_decide_eq_false h)];rfl
theorem BJ{cs:List Nat}{n:Int}(hb:(A1 47 cs).2.1=false)(h:rdW (A1 47 cs).1=some n):rdR cs=some (mkRat n 1):=by
 have h3:(A1 47 cs).2.2=[]:=uZ hb
 unfold rdR sx
 rw[hb,h,h3]
 show RS _ (if (decide ((1:Int)≤1) && decide (PN n.natAbs 1=1) && decide (([]:List Nat)≠[49]))=true then some (n,1)else none)=_
 rw[decide_eq_true (Nat.gcd_one_right _)];rfl
theorem BI{cs:List Nat}{n:Int}(hb:(A1 47 cs).2.1=true)(h:rdW (A1 47 cs).1=some n):rdR cs=match lfW (A1 47 cs).2.2 with
  | some d=>if 2≤d∧PN n.natAbs d.natAbs=1 then some (mkRat n d.natAbs)else none
  | none=>none:=by
 generalize hr:(A1 47 cs).2.2=r
 have hx:rdR cs=(match rdW r with
  | some d=>if (decide (1≤d) && decide (PN n.natAbs d.natAbs=1) && decide (r≠[49]))=true then some (mkRat n d.natAbs)else none
  | none=>none):=by
  unfold rdR sx
  rw[hb,if_pos rfl,h,hr]
  cases rdW r with
  | none=>rfl
  | some d =>
   show RS _ (if _ then _ else _)=if _ then _ else _
   split<;>rfl
 rw[hx]
 unfold lfW
 cases hf:N1 r with
 | true =>
  rw[sO hf]
  show(if _ then _ else _)=(if _ then _ else _)
  have d1:=zq hf
  by_cases h1:r=[49]
  ·rw[decide_eq_false (show ¬ r≠[49]from fun q=>q h1),QA,if_neg (by decide),if_neg (fun q=>by have:=d1.mpr h1;omega)]
  ·rw[decide_eq_true (show r≠[49]from h1),SY]
   have n1:digitsVal r≠1:=fun z=>h1 (d1.mp z)
   by_cases g:1≤((digitsVal r:Nat):Int)∧PN n.natAbs ((digitsVal r:Nat):Int).natAbs=1
   ·rw[if_pos (by rw[decide_eq_true g.1,decide_eq_true g.2];rfl),if_pos ⟨by omega,g.2⟩]
   ·rw[if_neg (fun q=>g (by simpa using q)),if_neg (fun q=>g ⟨by omega,q.2⟩)]
 | false =>
  show _=none
  cases hw:rdW r with
  | none=>rfl
  | some d =>
   have hd:d≤0:=by
    unfold rdW at hw
    rw[if_neg (by rw[hf];decide)]at hw
    split at hw
    ·split at hw
     ·have:=Option.some.inj hw;omega
     ·cases hw
    ·cases hw
   show(if _ then _ else _)=none
   rw[decide_eq_false (show ¬ 1≤d by omega)];rfl
noncomputable def J7(w:Str):Bool:=decide (w=Str.ofString "gap") || decide (w=Str.ofString "glass") || decide (w=Str.ofString "stop")
theorem B7.upd{M:Mem}{p l:Addr}{o:MO}(h:B7 M p)(hl:M l=none):B7 (q9 M l o) p:=by
 have hn:=h.ne hl
 obtain⟨x,y,z,e⟩:=h.ex
 exact⟨x,y,z,by rw[j5 (Ne.symm hn)];exact e⟩
end GM
namespace GM
open PySem PySem.Spec L2 DL PySem.NumText
open RM (sz)
theorem qf{m:Nat}(h:m<10 ^ 300):N1 (sg (tx (m:Int)))=true:=by
 have hl:(sg (tx (m:Int))).length≤300:=by
  rw[cI,OU]
  exact(Qw (by decide) (by decide)).mpr h
 have ha:(sg (tx (m:Int))).all isF=true:=SA.mpr fun c hc=>by
  have:=S6 m c hc
  unfold isF;simp;omega
 rw[Q7,ha,decide_eq_true hl]
 by_cases h0:m=0
 ·subst h0;decide +kernel
 ·obtain⟨c,r,e,hc⟩:=jz (show 0<m by omega)
  rw[e]
  simp
  omega
theorem Bq{m:Nat}(h:0<m):sg (tx (-(m:Int)))=45 :: sg (tx (m:Int)):=by
 have e:=jy (-(m:Int))
 rw[if_pos (by omega),PZ,OZ]at e
 rw[← e,v8]
 rfl
theorem xV{n:Int}(h:n.natAbs<10 ^ 300):rdW (sg (tx n))=some n:=by
 rcases Int.eq_nat_or_neg n with⟨m,e|e⟩
 ·subst e
  rw[OZ]at h
  unfold rdW
  rw[if_pos (qf h),Y1]
 ·by_cases h0:m=0
  ·subst h0;subst e;decide +kernel
  ·subst e
   rw[PZ,OZ]at h
   have f45:N1 (45 :: sg (tx (m:Int)))=false:=by
    rw[Q7]
    have:(45 :: sg (tx (m:Int))).all isF=false:=by rw[Ru];rfl
    rw[this,QA];rfl
   have ne:sg (tx (m:Int))≠[48]:=fun z=>by
    obtain⟨c,r,e,hc⟩:=jz (show 0<m by omega)
    rw[e]at z
    have:=(List.cons.inj z).1
    omega
   rw[Bq (by omega)]
   unfold rdW
   rw[f45]
   show(if (N1 (sg (tx (m:Int))) && decide (sg (tx (m:Int))≠[48]))=true then some (-((digitsVal (sg (tx (m:Int))):Nat):Int))else none)=_
   rw[qf h,decide_eq_true ne,Y1];rfl
theorem aA(n:Int):∀ c∈sg (tx n),c=45∨(48≤c∧c≤57):=fun c hc=>by
 rw[← jy n,v8]at hc
 rcases Pq.mp hc with q|q
 ·split at q
  ·exact .inl (PB.mp q)
  ·cases q
 ·exact .inr (S6 _ c q)
theorem CN{a b:List Nat}(h:47∉a):A1 47 (a++47 :: b)=(a,true,b):=by
 have e1:∀ a:List Nat,47∉a→(a++47 :: b).takeWhile (· != 47)=a∧(a++47 :: b).dropWhile (· != 47)=47 :: b:=fun a=>by
  induction a with
  | nil=>exact fun _=>⟨rfl,rfl⟩
  | cons x a ih =>
   intro hh
   have hx:x≠47:=fun e=>hh (e▸Ph ..)
   obtain⟨i1,i2⟩:=ih fun m=>hh (OW _ m)
   rw[QQ,PY (by simp[hx]),Qx (by simp[hx]),i1,i2]
   exact⟨rfl,rfl⟩
 unfold A1
 rw[(e1 a h).1,(e1 a h).2,decide_eq_true (by simp)];rfl
theorem tu(q:Rat):mkRat q.num q.den=q:=SU q
theorem pG{q:Rat}(h1:q.num.natAbs<10 ^ 300)(h2:q.den<10 ^ 300):rdR (sg (rtx q))=some q:=by
 have n47:∀ n:Int,47∉sg (tx n):=fun n hm=>by
  have:=aA n 47 hm;omega
 unfold rtx
 split
 ·rename_i hd
  have hc:(A1 47 (sg (tx q.num))).1=sg (tx q.num):=bz (n47 _)
  rw[BJ (decide_eq_false (n47 _)) (by rw[hc];exact xV h1),← hd,tu]
 ·rename_i hd
  have e:sg (tx q.num++Str.ofString "/" ++ tx (q.den:Int))=sg (tx q.num)++47 :: sg (tx (q.den:Int)):=by
   rw[v8,v8,show sg (Str.ofString "/")=[47]by decide +kernel,Qe];rfl
  rw[e]
  have c:=CN (b:=sg (tx (q.den:Int))) (n47 q.num)
  have lf:lfW (sg (tx (q.den:Int)))=some (q.den:Int):=by
   unfold lfW
   rw[if_pos (qf h2),Y1]
  rw[BI (n:=q.num) (by rw[c]) (by rw[c];exact xV h1),c]
  show(match lfW (sg (tx (q.den:Int)))with|some d=>_|none=>_)=_
  rw[lf]
  have:=q.den_pos
  have g:=q.reduced
  show(if 2≤(q.den:Int)∧PN q.num.natAbs (Int.natAbs (q.den:Int))=1 then some (mkRat q.num (Int.natAbs (q.den:Int)))else none)=_
  rw[OZ,if_pos ⟨by omega,g⟩,tu]
def Gr(q:Rat):Prop:=q.num.natAbs<10 ^ 300∧q.den<10 ^ 300
theorem fT{q:Rat}(h:sz q≤900):Gr q:=by
 have e:2 ^ 900<10 ^ 300:=by decide +kernel
 exact⟨OV (Q3 q h) (by decide +kernel),OV (Q9 q h) (by decide +kernel)⟩
theorem N0{q:Rat}(h:Gr q):(rtx q).length≤603:=by
 have h1:=G4 (by decide) h.1
 have h2:=G4 (n:=(q.den:Int)) (k:=300) (by decide) (by rw[OZ];exact h.2)
 unfold rtx
 split
 ·omega
 ·rw[i9,i9,show(Str.ofString "/").length=1 by decide +kernel];omega
end GM
namespace DL
open PySem PySem.Spec L2
open PyProof.Rows hiding St
structure IC(K:OR)(c:Str)(C:Addr):Prop where
 nm:PySem.W.nsIn K mainGlobals c=some (some (.ref C))
 cl:Cls K C
structure Dq(K:OR)(c:Str):Prop where
 ex:∃ C,IC K c C
structure NoA(K:OR)(c f:Str):Prop where
 ex:∃ C,PySem.W.nsIn K mainGlobals c=some (some (.ref C))∧av K C f
theorem bX{K:OR}{c:Str}{C C':Addr}(h:PySem.W.nsIn K mainGlobals c=some (some (.ref C)))(h':PySem.W.nsIn K mainGlobals c=some (some (.ref C'))):C=C':=by
 rw[h]at h';injection h' with e;injection e with e;injection e
noncomputable def pI(f:Str)(v:D):List (Str × D)→List (Str × D)
 | []=>[(f,v)]
 | (g,x) :: r=>if g=f then(g,v) :: r else(g,x) :: pI f v r
noncomputable def p5(f:Str):List (Str × D)→Option D
 | []=>none
 | (g,x) :: r=>if g=f then some x else p5 f r
section
variable {K:OR} {H H':Hp}
theorem R4.nil:R4 K H [] []:=⟨rfl,.nil⟩
theorem R4.look{f:Str}{v:D}{ys:List (Str × V)}{fs:List (Str × D)}(hf:R4 K H ys fs)(h:p5 f fs=some v):∃ y,ys.lookup f=some y∧Has K H y v:=by
 induction fs generalizing ys with
 | nil=>cases h
 | cons gx r ih =>
  obtain⟨g,x⟩:=gx
  obtain⟨n,l⟩:=hf
  cases ys with
  | nil=>cases n
  | cons q ys =>
   obtain⟨g',y⟩:=q
   have n1:g'=g:=(List.cons.inj n).1
   have n2:ys.map (·.1)=r.map (·.1):=(List.cons.inj n).2
   cases l with
   | cons l1 l2 =>
    have h:(if g=f then some x else p5 f r)=some v:=h
    by_cases e:g=f
    ·rw[if_pos e]at h
     cases h
     have hb:(f == g')=true:=beq_iff_eq.mpr (e.symm.trans n1.symm)
     exact⟨y,(by show(match f == g' with|true=>some y|false=>ys.lookup f)=some y;rw[hb]),l1⟩
    ·rw[if_neg e]at h
     have hb:(f == g')=false:=beq_eq_false_iff_ne.mpr (fun z=>e (n1.symm.trans z.symm))
     obtain⟨w,e1,e2⟩:=ih (ys:=ys) ⟨n2,l2⟩ h
     exact⟨w,(by show(match f == g' with|true=>some y|false=>ys.lookup f)=some w;rw[hb];exact e1),e2⟩
theorem R4.lookN{f:Str}{ys:List (Str × V)}{fs:List (Str × D)}(hf:R4 K H ys fs)(h:p5 f fs=none):ys.lookup f=none:=by
 induction fs generalizing ys with
 | nil =>
  cases ys with
  | nil=>rfl
  | cons q ys=>cases hf.names
 | cons gx r ih =>
  obtain⟨g,x⟩:=gx
  obtain⟨n,l⟩:=hf
  cases ys with
  | nil=>cases n
  | cons q ys =>
   obtain⟨g',y⟩:=q
   have n1:g'=g:=(List.cons.inj n).1
   have n2:ys.map (·.1)=r.map (·.1):=(List.cons.inj n).2
   cases l with
   | cons l1 l2 =>
    have h:(if g=f then some x else p5 f r)=none:=h
    by_cases e:g=f
    ·rw[if_pos e]at h;cases h
    ·rw[if_neg e]at h
     have hb:(f == g')=false:=beq_eq_false_iff_ne.mpr (fun z=>e (n1.symm.trans z.symm))
     show(match f == g' with|true=>some y|false=>ys.lookup f)=none
     rw[hb]
     exact ih (ys:=ys) ⟨n2,l2⟩ h
theorem R4.put{f:Str}{v:V}{d:D}(hv:Has K H v d){ys:List (Str × V)}{fs:List (Str × D)}(hf:R4 K H ys fs):R4 K H (Q2 f v ys) (pI f d fs):=by
 induction fs generalizing ys with
 | nil =>
  cases ys with
  | nil=>exact⟨rfl,.cons hv .nil⟩
  | cons q ys=>cases hf.names
 | cons gx r ih =>
  obtain⟨g,x⟩:=gx
  obtain⟨n,l⟩:=hf
  cases ys with
  | nil=>cases n
  | cons q ys =>
   obtain⟨g',y⟩:=q
   obtain rfl:g'=g:=(List.cons.inj n).1
   have n2:ys.map (·.1)=r.map (·.1):=(List.cons.inj n).2
   cases l with
   | cons l1 l2 =>
    have ih:=ih (ys:=ys) ⟨n2,l2⟩
    unfold Q2 pI
    by_cases e:g'=f
    ·rw[if_pos e,if_pos e]
     exact⟨by rw[Po,Po,n2],.cons hv l2⟩
    ·rw[if_neg e,if_neg e]
     exact⟨by rw[Po,Po,ih.names],.cons l1 ih.has⟩
theorem R4.len{ys:List (Str × V)}{fs:List (Str × D)}(h:R4 K H ys fs):ys.length=fs.length:=by
 have:=congrArg Qn h.names
 rwa [OU,OU]at this
theorem KT.ins{p C dx:Addr}{ys zs:List (Str × V)}(h:H p=some (.ins C dx ys)):KT H (upd H p (.ins C dx zs)):=KT.at (fun xs r=>by rcases r with r|⟨_,r⟩<;>(rw[h]at r;cases r)) (fun q xs r=>by rw[h]at r;cases r) fun φ r=>by rw[h]at r;cases r
theorem m7.put{M:Mem}{p C dx:Addr}{ys zs:List (Str × V)}{c:Str}{fs:List (Str × D)}(h:m7 K H M)(e:H p=some (.ins C dx ys))(hc:PySem.W.nsIn K mainGlobals c=some (some (.ref C)))(l:R4 K H zs fs) :
  m7 K (upd H p (.ins C dx zs)) (q9 M p (.ins c fs)):=fun a o m=>by
 have k:KT H (upd H p (.ins C dx zs)):=KT.ins e
 by_cases q:a=p
 ·subst q
  rw[h8]at m;cases m
  exact⟨C,dx,zs,i6,l.mono k,hc⟩
 ·rw[j5 q]at m
  cases o with
  | lst es =>
   obtain⟨xs,z,l⟩:=h a _ m
   exact⟨xs,by rw[i8 q];exact z,l.mono k⟩
  | ins c' fs' =>
   obtain⟨C0,dx',xs,z,l,hc'⟩:=h a _ m
   exact⟨C0,dx',xs,by rw[i8 q];exact z,l.mono k,hc'⟩
end
section
variable {X:Cx} {o e value:Expr} {f c:Str} {pos pos':Pos} {ta tv:DTE}
def Iz(c f:Str)(x:D)(M:Mem)(R:DK):Prop:=∃ p fs v,x = .ref p∧M p=some (.ins c fs)∧p5 f fs=some v∧R v M
def KO(c f:Str)(ta:DTE):DTE:=fun e M R=>ta e M fun x M1=>Iz c f x M1 R
theorem kL(T:Dq X.K c)(N:NoA X.K c f)(he:JE X o ta)(hb:attributeBase o f X.env (eval o X.env)=eval o X.env:=by rfl):JE X (.Attribute o f pos) (KO c f ta) :=
 ⟨PE.imp (GX he.out hb) fun σ H Q ⟨e,M,R,ok,am,t,ft⟩=>⟨e,M,_,ok,am,t,fun d M1 ⟨p,fs,v,z,hm,hl,r⟩ v1 H1 k1 a1 r1=>by
  subst z
  cases r1
  obtain⟨C,dx,ys,h1,h2,h3⟩:=a1 p _ hm
  obtain⟨C',hN,hA⟩:=N.ex
  obtain rfl:=bX h3 hN
  obtain⟨C'',hT⟩:=T.ex
  obtain rfl:=bX h3 hT.nm
  obtain⟨y,l1,l2⟩:=h2.look hl
  exact⟨p,C,dx,ys,y,rfl,h1,hT.cl,hA,l1,ft _ _ r _ _ k1 a1 l2⟩⟩⟩
def Iv(c f:Str)(y x:D)(M:Mem)(P:Mem→Prop):Prop:=∃ p fs,x = .ref p∧M p=some (.ins c fs)∧fs.length<1000∧P (q9 M p (.ins c (pI f y fs)))
def Fh(c f:Str)(ta tv:DTE):DTS:=fun F e M=>tv e M fun y M1=>ta e M1 fun x M2=>Iv c f y x M2 (F.nx e)
theorem kK(T:Dq X.K c)(N:NoA X.K c f)(ha:JE X o ta)(hv:JE X value tv)(hs:swapsWith value (some (.Attribute o f pos')) pos.line X.env=pure false:=by rfl):JS X (.Assign [.Attribute o f pos'] value pos) (Fh c f ta tv) :=
 ⟨PS.imp (GF ha.out hv.out hs) fun E σ H ⟨e,M,F,ok,am,t,ft⟩=>⟨e,M,_,ok,am,t,fun y M1 h1 v1 H1 k1 a1 r1=>⟨e,M1,_,ok.mono k1,a1,h1,fun x M2 ⟨p,fs,z,hm,hl,r⟩ v2 H2 k2 a2 r2=>by
  subst z
  cases r2
  obtain⟨C,dx,ys,g1,g2,g3⟩:=a2 p _ hm
  obtain⟨C',hN,hA⟩:=N.ex
  obtain rfl:=bX g3 hN
  obtain⟨C'',hT⟩:=T.ex
  obtain rfl:=bX g3 hT.nm
  have k3:KT H2 (upd H2 p (.ins C dx (Q2 f v1 ys))):=KT.ins g1
  exact⟨p,C,dx,ys,rfl,g1,hT.cl,hA,by rw[g2.len];exact hl,ft.nx _ _ r _ _ ((k1.trans k2).trans k3) (a2.put g1 g3 (g2.put (r1.mono k2))) ((ok.mono (k1.trans k2)).mono k3)⟩⟩⟩⟩
end
structure LX(K:OR)(x q:Str)(st:Stmt)(f:Addr)(fd:FuncData):Prop where
 ex:∃(oc:Value) (od:Option Addr) (dV kV doc pm:Value) (an:Option Addr) (cdv ct:Value) (osl:Array (Option Value)),
  fd=PySem.W.fnOf x q (F8 st) (A9 st) (d7 st) dV kV doc pm an cdv ct∧K.lookup f=some ⟨oc,od,.func fd,osl⟩∧PySem.W.codeIn K cdv q=true
structure DfM(K:OR)(mg:Str→Option Value)(c x q:Str)(st:Stmt)(ps:List Str):Prop where
 ex:∃(C f:Addr) (fd:FuncData),LX K x q st f fd∧mg c=some (.ref C)∧IC K c C∧Dk K C x f∧O2 K fd ps []
structure ox(P:Program)(w:World)(K:OR)(mg:Str→Option Value)(base:Heap)(c x:Str)(k:Nat)(ps:List Str)(CX:CXT)(sp:Sp):Prop where
 ex:∃(C f:Addr) (fd:FuncData),K5 P w K mg base CX k f fd ps sp∧mg c=some (.ref C)∧IC K c C∧Dk K C x f∧O2 K fd ps []
abbrev FnM(P:Program)(w:World)(K:OR)(mg:Str→Option Value)(base:Heap)(c x:Str)(k:Nat)(ps:List Str)(sp:DSp):Prop:=ox P w K mg base c x k ps CX0 (jv K sp)
abbrev vt(P:Program)(w:World)(K:OR)(mg:Str→Option Value)(base:Heap)(c x:Str)(k:Nat)(ps:List Str)(sp:DSp):Prop:=ox P w K mg base c x k ps (CXr P w base) (Et K mg sp)
section
variable {P:Program} {w:World} {K:OR} {mg:Str→Option Value} {base:Heap}
theorem HN{c x q:Str}{st:Stmt}{N ps:List Str}{k:Nat}{sp:DSp}(d:DfM K mg c x q st ps)(S:e6 N ps (d7 st))(len:∀ ds M R Y,sp ds M R Y→ds.length=ps.length)
  (hbody:∀(f:Addr) (cdv:Value) (A:Around) (outer:List Env) (s:Shared) (H:Hp) (E:XK) (ds:List D) (M:Mem) (R:DK) (Y:DXK),B6 k (A.deeper (envOfC q (d7 st) s.heap.objs.size f cdv))→sp ds M R Y →
   ∃ t,JSs (F5 CX0 P w K mg base N q (d7 st) f cdv A outer s H E).nox (A9 st) t∧t { nx:=fun _ M'=>R .non M',rt:=R } (F4 N ds) M):FnM P w K mg base c x (k+1) ps sp:=by
 obtain⟨C,f,fd,F,hm,hc,hf,hb⟩:=d.ex
 refine⟨C,f,fd,?_,hm,hc,hf,hb⟩
 obtain⟨oc,od,dV,kV,doc,pm,an,cdv,ct,osl,rfl,lk,hcd⟩:=F.ex
 refine tR lk hcd S (fun vs H Q E ⟨ds,M,R,Y,hl,_,hs,_,_⟩=>by rw[hl.length];exact len ds M R Y hs) fun A outer s H vs Q E hr ⟨ds,M,R,Y,hl,am,hs,fv,fx⟩=>?_
 obtain⟨t,h1,h2⟩:=hbody f cdv A outer s H E ds M R Y hr hs
 refine⟨_,h1.out.nox,F4 N ds,M,_,v7.start0 hl,am,h2,⟨?_,fv,fun _ _ h=>h.elim,fun _ _ h=>h.elim⟩⟩
 exact fun e M' h σ' H' kt a o=>fv .non M' h .non H' kt a .non
theorem CI{c x q:Str}{st:Stmt}{N ps:List Str}{k:Nat}{sp:DSp}(d:DfM K mg c x q st ps)(S:e6 N ps (d7 st))(len:∀ ds M R Y,sp ds M R Y→ds.length=ps.length)
  (hbody:∀(f:Addr) (cdv:Value) (A:Around) (outer:List Env) (s:Shared) (H:Hp) (E:XK) (ds:List D) (M:Mem) (R:DK) (Y:DXK),B6 k (A.deeper (envOfC q (d7 st) s.heap.objs.size f cdv))→sp ds M R Y →
   ∃ t,JXs (F5 (CXr P w base) P w K mg base N q (d7 st) f cdv A outer s H E) true H Y (A9 st) t∧t { nx:=fun _ M'=>R .non M',rt:=R } (F4 N ds) M):vt P w K mg base c x (k+1) ps sp:=by
 obtain⟨C,f,fd,F,hm,hc,hf,hb⟩:=d.ex
 refine⟨C,f,fd,?_,hm,hc,hf,hb⟩
 obtain⟨oc,od,dV,kV,doc,pm,an,cdv,ct,osl,rfl,lk,hcd⟩:=F.ex
 refine tR lk hcd S (fun vs H Q E ⟨ds,M,R,Y,hl,_,hs,_,_⟩=>by rw[hl.length];exact len ds M R Y hs) fun A outer s H vs Q E hr ⟨ds,M,R,Y,hl,am,hs,fv,fx⟩=>?_
 obtain⟨t,h1,h2⟩:=hbody f cdv A outer s H E ds M R Y hr hs
 refine⟨Bo K H t,fun pins s1 σ H1 D I hw=>?_,KT.refl H,F4 N ds,M,_,v7.start0 hl,am,h2,⟨?_,fv,fun _ _ h=>h.elim,fun _ _ h=>h.elim⟩⟩
 ·refine wpAny_mono (h1.out pins s1 σ H1 D (I.wish _) hw) (fun _ _ q=>q.unwish) fun e s2 hx=>tD (fun cls H' ⟨k1,x',C,M',e1,e2,e3,e4⟩=>⟨k1,by rw[e1];exact fx x' C M' e2 e4 H' k1 e3⟩) hx
 ·exact fun e M' h σ' H' kt a o=>fv .non M' h .non H' kt a .non
theorem ox.fn{c x:Str}{k:Nat}{ps:List Str}{sp sp':DSp}(G:vt P w K mg base c x k ps sp)(h:∀ ds M R Y,sp' ds M R Y→sp ds M R fun _ _=>False):FnM P w K mg base c x k ps sp':=by
 obtain⟨C,f,fd,F,h1,h2,h3,h4⟩:=G.ex
 refine⟨C,f,fd,⟨fun vs H Q E ⟨ds,M,R,Y,hl,am,hs,fv,_⟩=>F.len vs H Q (fun _ _ _=>False) ⟨ds,M,R,_,hl,am,h ds M R Y hs,fv,fun _ _ _ _ z=>z.elim⟩,fun A outer s H args us vs Q E hr he hb hv ⟨ds,M,R,Y,hl,am,hs,fv,_⟩=>?_⟩,h1,h2,h3,h4⟩
 refine codeAny_mono (F.run A outer s H args us vs Q (fun _ _ _=>False) hr he hb hv ⟨ds,M,R,_,hl,am,h ds M R Y hs,fv,fun _ _ _ _ z=>z.elim⟩) fun r s' q=>?_
 cases r with
 | error e=>obtain⟨_,_,_,_,_,_,_,_,_,_,_,_,_,_,z⟩:=q;exact z.elim
 | ok fl=>cases fl<;>exact q
end
section
variable {X:Cx} {mk:Bool} {H₀:Hp} {Y:DXK} {o e:Expr} {es:List Expr} {c m:Str} {pos apos:Pos} {k:Nat} {ps:List Str} {sp:DSp} {to:DTE} {t:DTA}
def Iw(c m:Str)(x:D)(M:Mem)(P:Prop):Prop:=(∃ p fs,x = .ref p∧M p=some (.ins c fs)∧p5 m fs=none)∧P
def zJ(c m:Str)(sp:DSp)(Y:DXK)(to:DTE)(t:DTA):DTE:=fun e M R=>to e M fun x M1=>Iw c m x M1 (t e M1 fun ds M2=>sp (x :: ds) M2 R Y)
theorem Cr{K:OR}{C:Addr}{σ:St}{H:Hp}{Q:VK}{CXs:Sp}{E:XK}{e:Ev}{M:Mem}{R:DK}{dvs:List V}(hc:PySem.W.nsIn K mainGlobals c=some (some (.ref C)))(ok:v7 K H σ e)(am:m7 K H M)(tt:zJ c m sp Y to t e M R)
  (fin:∀(x:D) (ds:List D) (M2:Mem),sp (x :: ds) M2 R Y→∀(v:V) (vs:List V) (H2:Hp),KT H H2→m7 K H2 M2→Has K H2 v x→HasL K H2 vs ds→CXs (v :: (vs++dvs)) H2 Q E) :
  up K to σ H fun v H1=>∃ a dx fs,v = .ref a∧H1 a=some (.ins C dx fs)∧fs.lookup m=none∧upA K t σ H1 fun vs H2=>CXs (v :: (vs++dvs)) H2 Q E:=by
 refine⟨e,M,_,ok,am,tt,fun x M1 ⟨⟨p,fs,z,hm,hn⟩,h1⟩ v H1 k1 a1 r1=>?_⟩
 subst z
 cases r1
 obtain⟨C0,dx,ys,g1,g2,g3⟩:=a1 p _ hm
 obtain rfl:=bX g3 hc
 exact⟨p,dx,ys,rfl,g1,g2.lookN hn,e,M1,_,ok.mono k1,a1,h1,fun ds M2 h2 vs H2 k2 a2 r2=>fin _ ds M2 h2 _ vs H2 (k1.trans k2) a2 (.ref p) r2⟩
theorem dS(G:FnM X.prog X.w X.K X.mg X.base c m k ps sp)(hr:B6 k X.A)(ho:JE X o to)(ha:JA X (e :: es) t){pl:Sem Bool}
  (hst:starEach (e :: es) X.env=(false,eval e X.env) :: starEach es X.env:=by rfl) (hpl:(backTo pos (starEach es X.env)).any (·.1)=false:=by rfl)
  (ht:eval (.Call (.Attribute o m apos) (e :: es) [] pos) X.env=(do
   let ov ← eval o X.env
   standAt apos.atName
   let (f,fst0) ← holding [ov] (getMethod ov m pl)
   callWith pos f fst0 (backTo pos (starEach (e :: es) X.env)) (backToKw pos (keywordEach [] X.env))):=by rfl) :
  JE X (.Call (.Attribute o m apos) (e :: es) [] pos) (zJ c m sp Y0 to t):=by
 obtain⟨C,f,fd,F,h1,h2,h3,h4⟩:=G.ex
 exact⟨PE.imp (BV (ds:=[]) (dvs:=[]) ho.out h2.cl h3 F hr h4 .nil yo ha.out hst hpl ht) fun σ H Q ⟨e,M,R,ok,am,tt,ff⟩=>Cr h2.nm ok am tt fun x ds M2 h v vs H2 k a r1 r2=>⟨x :: ds,M2,R,Y0,by rw[PJ];exact .cons r1 r2,a,h,ff.mono k,HP⟩⟩
end
structure MkD(K:OR)(c:Str):Prop where
 ex:∃ C f,PySem.W.nsIn K mainGlobals c=some (some (.ref C))∧Mk K C f
section
variable {X:Cx} {c:Str} {p pos:Pos} {k:Nat} {ps:List Str} {sp:DSp}
def Fl(c:Str)(sp:DSp):DTE:=fun _ M R=>∀ x,M x=none→sp [.ref x] (q9 M x (.ins c [])) (fun d M2=>d = .non∧R (.ref x) M2) Y0
theorem yI(G:FnM X.prog X.w X.K X.mg X.base c "__init__" k ps sp)(hk:MkD X.K c)(hr:B6 (k+1) X.A)(hg:Gl X c)(hdb:(c == ("__debug__" : Str))=false:=by decide):JE X (.Call (.Name c p) [] [] pos) (Fl c sp):=by
 obtain⟨C,f,fd,F,h1,h2,h3,h4⟩:=G.ex
 obtain⟨C',f',hn,hM⟩:=hk.ex
 obtain rfl:=bX h2.nm hn
 obtain rfl:f=f':=by
  have e:=h3.at_
  rw[hM.init]at e
  injection e with e;injection e with e;injection e with e
  exact e.symm
 refine⟨PE.imp (yj (ds:=[]) (dvs:=[]) hM F hr hg h1 h4 .nil yo hdb) fun σ H Q ⟨e,M,R,ok,am,tt,ff⟩=>?_⟩
 intro x dx hx hdx hne
 have kt:KT H (upd (upd H dx (.own x)) x (.ins C dx [])):=(KT.alloc hdx).trans (KT.alloc (by rw[i8 (Ne.symm hne)];exact hx))
 have a1:m7 X.K (upd (upd H dx (.own x)) x (.ins C dx [])) (q9 M x (.ins c [])):=fun b o m=>by
  by_cases q:b=x
  ·subst q
   rw[h8]at m;cases m
   exact⟨C,dx,[],i6,.nil,hn⟩
  ·rw[j5 q]at m
   exact(am.alloc hdx).alloc (by rw[i8 (Ne.symm hne)];exact hx) b o m
 exact⟨[.ref x],_,_,Y0,.cons (.ref x) .nil,a1,tt x (am.fresh hx),fun d M' ⟨hd,r⟩ v H' k' a' r'=>by
  subst hd
  cases r'
  exact⟨rfl,ff _ _ r _ _ (kt.trans k') a' (.ref x)⟩,HP⟩
end
end DL
namespace L2
open PySem PySem.Spec PyProof.Rows
end L2
namespace DL
open PySem PySem.Spec L2
open PyProof.Rows hiding St
section
variable {X:Cx} {suite:List Stmt} {b0:Stmt} {c n cl m y:Str} {np hpos pos py cpos apos spos:Pos} {ts:DTS} {i j:Nat} {o a0:Expr} {as:List Expr} {to:DTE} {t:DTA} {k:Nat} {ps:List Str} {sp:DSp}
end
inductive dc (K:OR):List DictEntry→List (Str × D)→Prop
 | nil:dc K [] []
 | cons {e:DictEntry} {x:Str} {t:Tok} {d:D} {es:List DictEntry} {fs:List (Str × D)}:e.key = .str x t→ow K e.val d→dc K es fs→dc K (e :: es) ((x,d) :: fs)
theorem u5{K:OR}{x:Str}{t:Tok}{hs:Int}{u:Value}{d:D}{es:List DictEntry}{fs:List (Str × D)}(h:ow K u d)(r:dc K es fs):dc K ((⟨hs,.str x t,u⟩:DictEntry) :: es) ((x,d) :: fs):=.cons rfl h r
structure Dp(K:OR)(P:Params)(mg:Str→Option Value)(x:Str)(tab:List (Str × D)):Prop where
 ex:∃(a:Addr) (es:Array DictEntry) (n:Nat),mg x=some (.ref a)∧K.lookup a=some ⟨.type "dict",none,.dict es n,#[]⟩∧PySem.W.KeysLit P es.toList∧(a == sysModules)=false∧dc K es.toList tab
theorem nN{K:OR}{s:Str}:∀{es:List DictEntry} {tab:List (Str × D)},dc K es tab →
  (es.find? (·.key.isStr s)=none∧p5 s tab=none∧es.any (·.refKey)=false) ∨ ∃ e d,es.find? (·.key.isStr s)=some e∧p5 s tab=some d∧ow K e.val d
 | _,_,.nil=>.inl ⟨rfl,rfl,rfl⟩
 | _,_,.cons (e:=e) (x:=x) (t:=t) (d:=d) (es:=es) (fs:=fs) hk hv r=>by
  by_cases h:x=s
  ·have h1:e.key.isStr s=true:=by rw[hk,h,PySem.W.isStr_of];show(s == s)=true;exact beq_self_eq_true s
   exact .inr ⟨e,d,by rw[RQ,h1],by show(if x=s then some d else p5 s fs)=_;rw[if_pos h],hv⟩
  ·have h1:e.key.isStr s=false:=by
    rw[hk,PySem.W.isStr_of]
    show(x == s)=false
    exact beq_eq_false_iff_ne.mpr h
   have h2:p5 s ((x,d) :: fs)=p5 s fs:=by show(if x=s then some d else p5 s fs)=_;rw[if_neg h]
   have h3:e.refKey=false:=by unfold DictEntry.refKey;rw[hk]
   rcases nN (s:=s) r with⟨a,b,c⟩|⟨e',d',a,b,c⟩
   ·exact .inl ⟨by rw[RQ,h1];exact a,by rw[h2];exact b,by rw[Sd,h3];exact c⟩
   ·exact .inr ⟨e',d',by rw[RQ,h1];exact a,by rw[h2];exact b,c⟩
theorem zu{K:OR}{a:Addr}{es:Array DictEntry}{n:Nat}{tab:List (Str × D)}{s:Str}(hl:K.lookup a=some ⟨.type "dict",none,.dict es n,#[]⟩)(hd:dc K es.toList tab) :
  (PySem.W.nsIn K a s=some none∧p5 s tab=none) ∨ ∃ u d,PySem.W.nsIn K a s=some (some u)∧p5 s tab=some d∧ow K u d:=by
 unfold PySem.W.nsIn
 rw[hl]
 dsimp only
 rcases nN (s:=s) hd with⟨a1,b,c⟩|⟨e,d,a1,b,c⟩
 ·rw[a1]
  exact .inl ⟨by show(if es.toList.any (·.refKey)=true then none else some none)=_;rw[c];rfl,b⟩
 ·rw[a1]
  exact .inr ⟨e.val,d,rfl,b,c⟩
section
variable {X:Cx} {a b:Expr} {x:Str} {p pos:Pos} {tab:List (Str × D)} {ta:DTE}
def qu(tab:List (Str × D))(y:D)(M:Mem)(R:DK):Prop:=∃ s,y = .str s∧R (.bl (p5 s tab).isNone) M
def kS(tab:List (Str × D))(ta:DTE):DTE:=fun e M R=>ta e M fun y M1=>qu tab y M1 R
def Ez(K:OR)(q:Addr)(tab:List (Str × D)):R2:=fun x y H Q=>∃ s,x = .str s∧y = .ref q∧Q (.bl (p5 s tab).isNone) H
theorem Ca{q:Addr}{es:Array DictEntry}{n:Nat}(hl:X.K.lookup q=some ⟨.type "dict",none,.dict es n,#[]⟩)(hk:PySem.W.KeysLit X.w.params es.toList)(lo:(q == sysModules)=false)(hd:dc X.K es.toList tab):OpR X (compareOp .NotIn) (Ez X.K q tab):=by
 intro pins s σ H x y v u Q I rx ry h
 obtain⟨z,rfl,rfl,r⟩:=h
 obtain⟨t,rfl⟩:=rx
 obtain rfl:u=Value.ref q:=ry
 have hm:=PySem.W.mapOf_K (prog:=X.prog) (w:=X.w) I.kIn hl hk
 rcases zu (s:=z) hl hd with⟨e1,e2⟩|⟨u',d,e1,e2,_⟩
 ·rw[e2]at r
  exact wpAny_notIn_of (strKind_is X.prog X.w z t) lo hm (by rw[PySem.W.find_K hl e1];exact⟨.bl true,H,I.tok _,rfl,r⟩)
 ·rw[e2]at r
  exact wpAny_notIn_of (strKind_is X.prog X.w z t) lo hm (by rw[PySem.W.find_K hl e1];exact⟨.bl false,H,I.tok _,rfl,r⟩)
theorem Cp{q:Addr}{σ:St}{H:Hp}{Q:VK}(h:up X.K (kS tab ta) σ H Q):tOp (Ez X.K q tab) (up X.K ta) (tC (.ref q)) σ H Q:=by
 obtain⟨e,M,R,ok,am,t,f⟩:=h
 refine⟨e,M,_,ok,am,t,fun y M1 ⟨s,z,r⟩ v H1 k1 a1 r1=>?_⟩
 subst z
 cases r1
 exact⟨s,rfl,rfl,f _ _ r _ _ k1 a1 (.bl _)⟩
theorem pX(T:Dp X.K X.w.params X.mg x tab)(hg:Gl X x)(ha:JE X a ta)(hdb:(x == ("__debug__" : Str))=false:=by decide):JT X (.Compare a [.NotIn] [.Name x p] pos) (nQ (kS tab ta)):=by
 obtain⟨q,es,n,hm,hl,hk,lo,hd⟩:=T.ex
 exact⟨PT.imp (sQ (Ca hl hk lo hd) ha.out (kq (v:=.ref q) hg hm rfl hdb) rfl) fun σ H Q ⟨e,M,R,ok,am,t,f⟩=>Cp ⟨e,M,_,ok,am,t,eO f⟩⟩
def qv(tab:List (Str × D))(y:D)(M:Mem)(R:DK):Prop:=∃ s v,y = .str s∧p5 s tab=some v∧R v M
def zM(tab:List (Str × D))(tb:DTE):DTE:=fun e M R=>tb e M fun y M1=>qv tab y M1 R
def Gv(K:OR)(q:Addr)(tab:List (Str × D)):R2:=fun x y H Q=>x = .ref q∧∃ s d,y = .str s∧p5 s tab=some d∧∀ v,(∀ H',Has K H' v d)→Q v H
theorem yN{q:Addr}{es:Array DictEntry}{n:Nat}(hl:X.K.lookup q=some ⟨.type "dict",none,.dict es n,#[]⟩)(hk:PySem.W.KeysLit X.w.params es.toList)(hd:dc X.K es.toList tab):IxR X (Gv X.K q tab):=by
 intro value slice pins s σ H x y v u Q I rx ry h hs
 obtain⟨rfl,z,d,rfl,e2,r⟩:=h
 obtain⟨t,rfl⟩:=ry
 obtain rfl:v=Value.ref q:=rx
 obtain⟨m,F⟩:=I.fr
 rcases zu (s:=z) hl hd with⟨_,e3⟩|⟨u',d',e1,e3,hc⟩
 ·rw[e2]at e3;cases e3
 ·obtain rfl:d=d':=by rw[e2]at e3;exact Option.some.inj e3
  obtain⟨v',rv,hv⟩:=hc.ex
  exact PySem.W.topItem_K F I.ok.mod.kin hl hk e1 ⟨v',H,I.tok _,rv,r v' hv⟩ hs
theorem nG(T:Dp X.K X.w.params X.mg x tab)(hg:Gl X x)(hb:JE X b ta)(hs:dZ b)(hdb:(x == ("__debug__" : Str))=false:=by decide):JE X (.Subscript (.Name x p) b pos) (zM tab ta):=by
 obtain⟨q,es,n,hm,hl,hk,lo,hd⟩:=T.ex
 exact⟨PE.imp (ED (yN hl hk hd) (kq (v:=.ref q) hg hm rfl hdb) hb.out hs) fun σ H Q ⟨e,M,R,ok,am,t,f⟩=>⟨e,M,_,ok,am,t,fun y M1 ⟨s,w,z,hw,r⟩ v H1 k1 a1 r1=>by
  subst z
  cases r1
  exact⟨rfl,s,w,rfl,hw,fun v' hv'=>f _ _ r _ _ k1 a1 (hv' _)⟩⟩⟩
end
theorem HS{K:OR}{P:Params}{mg:Str→Option Value}{h:Heap}{x:Str}{a:Addr}{es:List DictEntry}{n:Nat}{tab:List (Str × D)}(X:K.In h)(G:h.Ns mainGlobals mg)
  (nm:PySem.W.nsIn K mainGlobals x=some (some (.ref a))) (l:K.lookup a=some ⟨.type "dict",none,.dict es.toArray n,#[]⟩) (k:PySem.W.KeysLit P es) (lo:(a == sysModules)=false) (hd:dc K es tab):Dp K P mg x tab :=
 ⟨a,es.toArray,n,PySem.W.mg_of X G nm,l,k,lo,hd⟩
end DL
namespace DL
open PySem PySem.Spec L2 PySem.W
open PyProof.Rows hiding St
section
variable {K:OR} {mg:Str→Option Value} {c x q f0:Str} {C f:Addr} {st:Stmt} {ps:List Str} {h:Heap}
theorem CP(n:nsIn K mainGlobals c=some (some (.ref C)))(pg:plainGet K C Str.empty=true)(hd:hasDictIn K C=true)(po:plainOver K C=true)(sa:findIn K (.ref C) "__setattr__" = some (some (.builtin "object.__setattr__"))):Dq K c:=⟨C,n,⟨pg,hd,po,sa⟩⟩
theorem yA(n:nsIn K mainGlobals c=some (some (.ref C)))(a:findIn K (.ref C) f0=some none):NoA K c f0:=⟨C,n,a⟩
theorem Ho(n:nsIn K mainGlobals c=some (some (.ref C)))(mk:makesIn K C=true)(i:findIn K (.ref C) "__init__" = some (some (.ref f)))(fn:isFn K (.ref f)=true)(kp:keepIn K (.ref C)=true):MkD K c:=⟨C,f,n,⟨mk,i,fn,kp⟩⟩
theorem zx{oc:Value}{od an:Option Addr}{osl:Array (Option Value)}{dV kV doc pm cdv ct:Value}(X:K.In h)(G:h.Ns mainGlobals mg)(n:nsIn K mainGlobals c=some (some (.ref C)))(a:findIn K (.ref C) x=some (some (.ref f)))(i:isFn K (.ref f)=true)
  (l:K.lookup f=some ⟨oc,od,.func (fnOf x q (F8 st) (A9 st) (d7 st) dV kV doc pm an cdv ct),osl⟩) (cd:codeIn K cdv q=true) (k:keepIn K (.ref f)=true)
  (pg:plainGet K C Str.empty=true) (hd:hasDictIn K C=true) (po:plainOver K C=true) (sa:findIn K (.ref C) "__setattr__" = some (some (.builtin "object.__setattr__")))
  (hb:∀ us:List Value,us.length=ps.length→bindArgs (fnOf x q (F8 st) (A9 st) (d7 st) dV kV doc pm an cdv ct) ⟨us,[]⟩=pure (ps.zip us)):DfM K mg c x q st ps :=
 ⟨C,f,_,⟨⟨oc,od,dV,kV,doc,pm,an,cdv,ct,osl,rfl,l,cd⟩⟩,mg_of X G n,⟨n,⟨pg,hd,po,sa⟩⟩,⟨a,i,k⟩,.all hb⟩
end
section
variable {c f m:Str} {x y:D} {M:Mem} {R:DK} {e:Ev} {ta tv to:DTE} {t:DTA} {F:W2} {sp:DSp} {Y:DXK} {tab:List (Str × D)} {i j:Nat} {xs:List Str} {tb:DXK→DTE} {ts:DTS}
theorem Ej:KO c f ta e M R=ta e M fun x M1=>Iz c f x M1 R:=rfl
theorem wy:Fh c f ta tv F e M=tv e M fun y M1=>ta e M1 fun x M2=>Iv c f y x M2 (F.nx e):=rfl
theorem wF:zJ c m sp Y to t e M R=to e M fun x M1=>Iw c m x M1 (t e M1 fun ds M2=>sp (x :: ds) M2 R Y):=rfl
theorem wG:Fl c sp e M R = ∀ x,M x=none→sp [.ref x] (q9 M x (.ins c [])) (fun d M2=>d = .non∧R (.ref x) M2) Y0:=rfl
theorem ma:kS tab ta e M R=ta e M fun y M1=>qu tab y M1 R:=rfl
theorem lZ{s:Str}:qu tab (.str s) M R=R (.bl (p5 s tab).isNone) M:=propext ⟨fun⟨_,z,r⟩=>by cases z;exact r,fun r=>⟨s,rfl,r⟩⟩
theorem rW:zM tab ta e M R=ta e M fun y M1=>qv tab y M1 R:=rfl
theorem mf{s:Str}:qv tab (.str s) M R = ∃ v,p5 s tab=some v∧R v M:=propext ⟨fun⟨_,v,z,h,r⟩=>by cases z;exact⟨v,h,r⟩,fun⟨v,h,r⟩=>⟨s,v,rfl,h,r⟩⟩
theorem lh{p:Addr}{fs:List (Str × D)}{v:D}(h:M p=some (.ins c fs))(g:p5 f fs=some v)(r:R v M):Iz c f (.ref p) M R:=⟨p,fs,v,rfl,h,g,r⟩
theorem qr{P:Mem→Prop}{p:Addr}{fs:List (Str × D)}(h:M p=some (.ins c fs))(hl:fs.length<1000)(r:P (q9 M p (.ins c (pI f y fs)))):Iv c f y (.ref p) M P:=⟨p,fs,rfl,h,hl,r⟩
theorem ee{P:Prop}{p:Addr}{fs:List (Str × D)}(h:M p=some (.ins c fs))(g:p5 m fs=none)(r:P):Iw c m (.ref p) M P:=⟨⟨p,fs,rfl,h,g⟩,r⟩
end
end DL
namespace DL
open PySem PySem.Spec L2
open PyProof.Rows hiding St
theorem yG{X:Cx}{body suite:List Stmt}{c:Expr}{n:Option Str}{hpos pos:Pos}{t:DTS}(hxe:X.xe=fun _ _=>False)(hb:JSs X body t):JS X (.Try body [.ExceptHandler (some c) n suite hpos] [] [] pos) t:=by
 refine⟨fun pins s σ H D I h=>?_⟩
 refine wpAny_Try_except (wpAny_mono (hb.out pins s σ H D I h) (fun fl s1 q=>?_) fun e s1 z=>?_)
 ·cases fl with
  | next=>exact wpAny_execs_nil q
  | brk=>exact q
  | cont=>exact q
  | ret u=>exact q
 ·rw[hxe]at z;exact False.elim z
theorem ox.noX{P:Program}{w:World}{K:OR}{mg:Str→Option Value}{base:Heap}{c x:Str}{k:Nat}{ps:List Str}{sp:DSp}(G:vt P w K mg base c x k ps sp):FnM P w K mg base c x k ps (noX sp):=G.fn fun _ _ _ _ h=>h
section
variable {X:Cx} {mk:Bool} {H₀:Hp} {Y:DXK} {pos:Pos} {c a b:Expr} {ta tb:DTE} {tA:DTT}
theorem FN{es:List Expr}{tr:DTA}(h:JXA X mk H₀ Y es tr):JXE X mk H₀ Y (.List es pos) (zK tr) :=
 ⟨PE.imp (bT (pK (X:=Cx.ex' X mk H₀ Y) h.out)) fun σ H Q ⟨k,e,M,R,ok,am,t,f⟩=>⟨k,e,M,_,ok,am,t,fun ds M1 ⟨hz,h1⟩ vs H1 k1 a1 r1=>⟨by rw[r1.length];exact hz,fun p hp=>bj f k1 a1 r1 h1 p hp⟩⟩⟩
theorem Jn(hc:JT X.nox c tA)(ha:JXE X mk H₀ Y a ta)(hb:JXE X mk H₀ Y b tb):JXE X mk H₀ Y (.IfExp c a b pos) (dIf tA ta tb) :=
 ⟨PE.imp (mT (X:=Cx.ex' X mk H₀ Y) (so hc.out) ha.out hb.out) fun σ H Q ⟨kk,e,M,R,ok,am,t,f⟩=>⟨e,M,_,ok,am,t,fun k M1 h1 H1 k1 a1=>by
  cases k with
  | true=>exact⟨kk.trans k1,e,M1,R,ok.mono k1,a1,h1,f.mono k1⟩
  | false=>exact⟨kk.trans k1,e,M1,R,ok.mono k1,a1,h1,f.mono k1⟩⟩⟩
end
end DL
namespace GM
open PySem PySem.Spec L2 DL PySem.NumText
open RM (sz)
noncomputable def jnW:List (List Nat)→List Nat
 | []=>[]
 | [w]=>w
 | w :: r=>w++32 :: jnW r
theorem xj{c:Nat}{a b:List Nat}(h:c∉a):(a++c :: b).takeWhile (· != c)=a∧(a++c :: b).dropWhile (· != c)=c :: b:=by
 induction a with
 | nil=>exact⟨by simp,by simp⟩
 | cons x a ih =>
  have hx:x≠c:=fun e=>h (e▸Ph ..)
  obtain⟨i1,i2⟩:=ih fun m=>h (OW _ m)
  rw[QQ,PY (by simp[hx]),Qx (by simp[hx]),i1,i2]
  exact⟨rfl,rfl⟩
theorem eS:∀(ws:List (List Nat)) (N:Nat),ws≠[]→(∀ w∈ws,32∉w)→(jnW ws).length<N→E7 [32] N (jnW ws) []=ws
 | [],_,h,_,_=>absurd rfl h
 | [w],N,_,hw,hN=>by
  have h0:¬ 32∈jnW [w]:=hw w (by simp)
  rw[eU 32 N _ [] hN,if_neg h0];rfl
 | w :: v :: r,N,_,hw,hN=>by
  have e:jnW (w :: v :: r)=w++32 :: jnW (v :: r):=rfl
  have h1:=xj (c:=32) (a:=w) (b:=jnW (v :: r)) (hw w (by simp))
  rw[e]at hN ⊢
  rw[eU 32 N _ [] hN,if_pos (by simp),h1.1,h1.2]
  rw[Pl,Pz]at hN
  show([]++w) :: E7 [32] (N - 1 - w.length) (jnW (v :: r)) []=_
  rw[eS (v :: r) (N - 1 - w.length) (by simp) (fun x hx=>hw x (OW _ hx)) (by omega)]
  rfl
theorem S8{s:Str}{ws:List Str}(h:sg s=jnW (ws.map sg))(hn:ws≠[])(hw:∀ w∈ws,32∉sg w):Txt.split s (Str.ofString " ")=ws:=by
 have sp:Str.ofString " " = ⟨#[32]⟩:=by decide +kernel
 rw[sp,mr (x:=s) (y:=⟨#[32]⟩) (Pe 1) (by decide +kernel) (Qi s.length)]
 show(E7 [32] s.length.succ (sg s) []).map mkS=ws
 rw[h,eS _ _ (by simpa using hn) (fun x hx=>by obtain⟨w,hm,rfl⟩:=Qv.mp hx;exact hw w hm) (by rw[← h,u6];exact Qi _),Qb]
 conv=>rhs;rw[← Sb ws]
 exact Qp fun x _=>rfl
theorem mj(n:Int):32∉sg (tx n):=fun h=>by have:=aA n 32 h;omega
theorem bS(q:Rat):32∉sg (rtx q):=by
 unfold rtx
 split
 ·exact mj _
 ·rw[v8,v8]
  intro h
  rcases Pq.mp h with h|h
  ·rcases Pq.mp h with h|h
   ·exact mj _ h
   ·exact absurd h (by decide +kernel)
  ·exact mj _ h
theorem nD{x:Str × Rat}(h:(x.1 = "gap" ∧ 0≤x.2)∨x.1 = "glass" ∨ (x.1 = "stop" ∧ 0<x.2)):K2 x.1 x.2=true:=by
 have mb:K2 x.1 x.2=if x.1=Str.ofString "gap" then decide (0≤x.2.num)else if x.1=Str.ofString "stop" then decide (0<x.2.num)else decide (x.1=Str.ofString "glass"):=rfl
 rw[mb]
 rcases h with⟨e,h2⟩|e|⟨e,h2⟩
 ·rw[if_pos e,decide_eq_true_eq];exact QN.mpr h2
 ·rw[if_neg (by rw[e];decide +kernel),if_neg (by rw[e];decide +kernel),decide_eq_true_eq];exact e
 ·rw[if_neg (by rw[e];decide +kernel),if_pos e,decide_eq_true_eq]
  have:=(SX 0 x.2).mp h2
  simpa using this
noncomputable abbrev Hl:=Rat × List (Str × Rat) × Rat
noncomputable def fR(h:Hl):D:=.tup [e8 h.1,.vl (h.2.1.map i0),e8 h.2.2]
noncomputable def hl0:Hl:=(0,[],0)
structure E6(M:Mem)(d l:Addr)(h:Hl)(ps:List Hl):Prop where
 ob:M d=some (.ins (Str.ofString "Desk") [(Str.ofString "hall",fR h),(Str.ofString "past",.ref l)])
 pa:M l=some (.lst (ps.map fR))
inductive Cmd
 | put (w:Str) (q:Rat)|set (k:Nat) (q:Rat)|cut (k:Nat)|near (q:Rat)|far (q:Rat)|back|bench|hall
noncomputable def Cmd.row:Cmd→Str
 | .put w q=>Str.ofString "put " ++ w++Str.ofString " " ++ rtx q
 | .set k q=>Str.ofString "set " ++ tx (k:Int)++Str.ofString " " ++ rtx q
 | .cut k=>Str.ofString "cut " ++ tx (k:Int)
 | .near q=>Str.ofString "near " ++ rtx q
 | .far q=>Str.ofString "far " ++ rtx q
 | .back=>Str.ofString "back"
 | .bench=>Str.ofString "bench"
 | .hall=>Str.ofString "hall"
noncomputable def Cmd.word:Cmd→Str
 | .put _ _=>Str.ofString "put"
 | .set _ _=>Str.ofString "set"
 | .cut _=>Str.ofString "cut"
 | .near _=>Str.ofString "near"
 | .far _=>Str.ofString "far"
 | .back=>Str.ofString "back"
 | .bench=>Str.ofString "bench"
 | .hall=>Str.ofString "hall"
noncomputable def Cmd.vals:Cmd→List D
 | .put w q=>[.str w,e8 q]
 | .set k q=>[.int (k:Int),e8 q]
 | .cut k=>[.int (k:Int)]
 | .near q=>[e8 q]
 | .far q=>[e8 q]
 | _=>[]
noncomputable def Cmd.Ok:Cmd→Prop
 | .put w q=>J7 w=true∧sz q≤41
 | .set k q=>k≤12∧sz q≤41
 | .cut k=>k≤12
 | .near q=>sz q≤41
 | .far q=>sz q≤41
 | _=>True
theorem ju{w:Str}(h:J7 w=true):32∉sg w:=by
 unfold J7 at h
 rw[Qg,Qg,decide_eq_true_eq,decide_eq_true_eq,decide_eq_true_eq]at h
 rcases h with(h|h)|h<;>rw[h]<;>decide +kernel
theorem F0{w:Str}(h:J7 w=true):w.length≤5:=by
 unfold J7 at h
 rw[Qg,Qg,decide_eq_true_eq,decide_eq_true_eq,decide_eq_true_eq]at h
 rcases h with(h|h)|h<;>rw[h]<;>decide +kernel
noncomputable def Cmd.texts:Cmd→List Str
 | .put w q=>[w,rtx q]
 | .set k q=>[tx (k:Int),rtx q]
 | .cut k=>[tx (k:Int)]
 | .near q=>[rtx q]
 | .far q=>[rtx q]
 | _=>[]
theorem Cmd.split{c:Cmd}(h:c.Ok):Txt.split c.row (Str.ofString " ")=c.word :: c.texts:=by
 have b1:sg (Str.ofString " ")=[32]:=by decide +kernel
 have w2:∀{a b a0:Str},sg a=sg a0++[32]→32∉sg a0→32∉sg b→Txt.split (a++b) (Str.ofString " ")=[a0,b]:=fun{a b a0} e h1 h2 =>
  S8 (by rw[v8,e];show(sg a0++[32])++sg b=sg a0++32 :: sg b;simp) (by simp) (fun w hw=>by
   simp only[Pb,Pj,or_false]at hw
   rcases hw with rfl|rfl
   ·exact h1
   ·exact h2)
 have w3:∀{a b c a0:Str},sg a=sg a0++[32]→32∉sg a0→32∉sg b→32∉sg c→Txt.split (a++b++Str.ofString " " ++ c) (Str.ofString " ")=[a0,b,c]:=fun{a b c a0} e h1 h2 h3 =>
  S8 (by rw[v8,v8,v8,e,b1];show _=sg a0++32 :: (sg b++32 :: sg c);simp) (by simp) (fun w hw=>by
   simp only[Pb,Pj,or_false]at hw
   rcases hw with rfl|rfl|rfl
   ·exact h1
   ·exact h2
   ·exact h3)
 cases c with
 | put w q=>exact w3 (a0:=Str.ofString "put") (by decide +kernel) (by decide +kernel) (ju h.1) (bS q)
 | set k q=>exact w3 (a0:=Str.ofString "set") (by decide +kernel) (by decide +kernel) (mj _) (bS q)
 | cut k=>exact w2 (a0:=Str.ofString "cut") (by decide +kernel) (by decide +kernel) (mj _)
 | near q=>exact w2 (a0:=Str.ofString "near") (by decide +kernel) (by decide +kernel) (bS q)
 | far q=>exact w2 (a0:=Str.ofString "far") (by decide +kernel) (by decide +kernel) (bS q)
 | back=>decide +kernel
 | bench=>decide +kernel
 | hall=>decide +kernel
theorem Cmd.len{c:Cmd}(h:c.Ok):c.row.length≤200:=by
 have tk:∀ k:Nat,k≤12→(tx (k:Int)).length≤3:=fun k hk=>G4 (n:=(k:Int)) (k:=2) (by decide) (by rw[OZ];omega)
 have q4:(Str.ofString "put ").length=4:=by decide +kernel
 have q5:(Str.ofString "set ").length=4:=by decide +kernel
 have q6:(Str.ofString "cut ").length=4:=by decide +kernel
 have q7:(Str.ofString "near ").length=5:=by decide +kernel
 have q8:(Str.ofString "far ").length=4:=by decide +kernel
 have q1:(Str.ofString " ").length=1:=by decide +kernel
 cases c with
 | put w q=>have h1:=dJ h.2;have h2:=F0 h.1;unfold Cmd.row;rw[i9,i9,i9];omega
 | set k q=>have h1:=dJ h.2;have h2:=tk k h.1;unfold Cmd.row;rw[i9,i9,i9];omega
 | cut k=>have h2:=tk k h;unfold Cmd.row;rw[i9];omega
 | near q=>have h1:=dJ (q:=q) h;unfold Cmd.row;rw[i9];omega
 | far q=>have h1:=dJ (q:=q) h;unfold Cmd.row;rw[i9];omega
 | back=>decide +kernel
 | bench=>decide +kernel
 | hall=>decide +kernel
abbrev aN(t:Str)(M:Mem)(R:DK)(Y:DXK):Prop:=t.length≤100000∧∃ q,rdR (sg t)=some q∧R (e8 q) M
def pk:DSp:=fun ds M R Y=>∃(t:Str),ds=[.str t]∧aN t M R Y
theorem lK{t:Str}{M:Mem}{R:DK}{Y:DXK}:pk [.str t] M R Y=(aN t M R Y):=propext ⟨fun z=>by obtain⟨_,_,_⟩:=z;walk_at "inj",fun h=>⟨t,rfl,h⟩⟩
abbrev aQ(bs:List (Str × Rat))(k:Nat)(M:Mem)(R:DK)(Y:DXK):Prop:=(∀ x,bs[k]? = some x→R (i0 x) M)∧(bs.length≤k→Y (xN "NoPart") M)
def pw:DSp:=fun ds M R Y=>∃(bs:List (Str × Rat)) (k:Nat),ds=[.vl (bs.map i0),.int (k:Int)]∧aQ bs k M R Y
theorem lN{bs:List (Str × Rat)}{k:Nat}{M:Mem}{R:DK}{Y:DXK}:pw [.vl (bs.map i0),.int (k:Int)] M R Y=(aQ bs k M R Y):=propext ⟨fun z=>by obtain⟨_,_,_,_⟩:=z;walk_at "inj",fun h=>⟨bs,k,rfl,h⟩⟩
abbrev dA(w:Str)(q:Rat)(M:Mem)(R:DK)(Y:DXK):Prop:=(K2 w q=true→R (i0 (w,q)) M)∧(K2 w q=false→Y (xN "NoNumber") M)
def sH:DSp:=fun ds M R Y=>∃(w:Str) (q:Rat),ds=[.str w,e8 q]∧dA w q M R Y
theorem qG{w:Str}{q:Rat}{M:Mem}{R:DK}{Y:DXK}:sH [.str w,e8 q] M R Y=(dA w q M R Y):=propext ⟨fun z=>by obtain⟨_,_,_,_⟩:=z;walk_at "inj",fun h=>⟨w,q,rfl,h⟩⟩
noncomputable def chB(bs:List (Str × Rat)):Cmd→Except Str (List (Str × Rat))
 | .put w q=>if K2 w q=false then .error (Str.ofString "NoNumber")else if 12≤bs.length then .error (Str.ofString "TooMany")else .ok (bs++[(w,q)])
 | .set k q=>match bs[k]? with
  | none=>.error (Str.ofString "NoPart")
  | some x=>if K2 x.1 q=false then .error (Str.ofString "NoNumber")else .ok (bs.take k++[(x.1,q)]++bs.drop (k+1))
 | .cut k=>match bs[k]? with
  | none=>.error (Str.ofString "NoPart")
  | some _=>.ok (bs.take k++[]++bs.drop (k+1))
 | _=>.ok bs
noncomputable def Cmd.isB:Cmd→Prop
 | .put _ _=>True
 | .set _ _=>True
 | .cut _=>True
 | _=>False
noncomputable def Cmd.isC:Cmd→Prop
 | .near _=>True
 | .far _=>True
 | c=>c.isB
noncomputable def chH(h:Hl):Cmd→Except Str Hl
 | .near q=>.ok (q,h.2.1,h.2.2)
 | .far q=>.ok (h.1,h.2.1,q)
 | c=>match chB h.2.1 c with
  | .ok cs=>.ok (h.1,cs,h.2.2)
  | .error x=>.error x
def Oth(d l:Addr)(M M':Mem):Prop:=∀ b,b≠d→b≠l→M' b=M b
abbrev dz(bs:List (Str × Rat))(w:Str)(q:Rat)(M:Mem)(R:DK)(Y:DXK):Prop:=bs.length≤12∧(K2 w q=false→Y (xN "NoNumber") M)∧(K2 w q=true→12≤bs.length→Y (xN "TooMany") M)∧(K2 w q=true→bs.length<12→R (.vl ((bs++[(w,q)]).map i0)) M)
def xE:DSp:=fun ds M R Y=>∃(bs:List (Str × Rat)) (w:Str) (q:Rat),ds=[.vl (bs.map i0),.str w,e8 q]∧dz bs w q M R Y
theorem qF{bs:List (Str × Rat)}{w:Str}{q:Rat}{M:Mem}{R:DK}{Y:DXK}:xE [.vl (bs.map i0),.str w,e8 q] M R Y=(dz bs w q M R Y):=propext ⟨fun z=>by obtain⟨_,_,_,_,_⟩:=z;walk_at "inj",fun h=>⟨bs,w,q,rfl,h⟩⟩
abbrev kj(bs:List (Str × Rat))(w:Str)(vs:List D)(M:Mem)(R:DK)(Y:DXK):Prop:=bs.length≤12∧∃ c:Cmd,w=c.word∧vs=c.vals∧c.isB∧(∀ cs,chB bs c = .ok cs→R (.vl (cs.map i0)) M)∧(∀ x,chB bs c = .error x→Y (xN x) M)
def Gi:DSp:=fun ds M R Y=>∃(bs:List (Str × Rat)) (w:Str) (vs:List D),ds=[.vl (bs.map i0),.str w,.vl vs]∧kj bs w vs M R Y
theorem vG{bs:List (Str × Rat)}{w:Str}{vs:List D}{M:Mem}{R:DK}{Y:DXK}:Gi [.vl (bs.map i0),.str w,.vl vs] M R Y=(kj bs w vs M R Y):=propext ⟨fun z=>by obtain⟨_,_,_,_,_⟩:=z;walk_at "inj",fun h=>⟨bs,w,vs,rfl,h⟩⟩
abbrev ki(near:Rat)(bs:List (Str × Rat))(far:Rat)(w:Str)(vs:List D)(M:Mem)(R:DK)(Y:DXK):Prop:=bs.length≤12∧∃ c:Cmd,w=c.word∧vs=c.vals∧c.isC∧(∀ g,chH (near,bs,far) c = .ok g→R (fR g) M)∧(∀ x,chH (near,bs,far) c = .error x→Y (xN x) M)
def Gh:DSp:=fun ds M R Y=>∃(near:Rat) (bs:List (Str × Rat)) (far:Rat) (w:Str) (vs:List D),ds=[.tup [e8 near,.vl (bs.map i0),e8 far],.str w,.vl vs]∧ki near bs far w vs M R Y
theorem vF{near:Rat}{bs:List (Str × Rat)}{far:Rat}{w:Str}{vs:List D}{M:Mem}{R:DK}{Y:DXK}:Gh [.tup [e8 near,.vl (bs.map i0),e8 far],.str w,.vl vs] M R Y=(ki near bs far w vs M R Y):=propext ⟨fun z=>by obtain⟨_,_,_,_,_,_,_⟩:=z;walk_at "inj",fun h=>⟨near,bs,far,w,vs,rfl,h⟩⟩
abbrev dE(d:Addr)(M:Mem)(R:DK)(Y:DXK):Prop:=M d=some (.ins (Str.ofString "Desk") [])∧∀ l,M l=none→R .non (q9 (q9 M l (.lst [])) d (.ins (Str.ofString "Desk") [(Str.ofString "hall",fR hl0),(Str.ofString "past",.ref l)]))
def xH:DSp:=fun ds M R Y=>∃(d:Addr),ds=[.ref d]∧dE d M R Y
theorem qL{d:Addr}{M:Mem}{R:DK}{Y:DXK}:xH [.ref d] M R Y=(dE d M R Y):=propext ⟨fun z=>by obtain⟨_,_,_⟩:=z;walk_at "inj",fun h=>⟨d,rfl,h⟩⟩
theorem dY{bs:List (Str × Rat)}{w:Str}{q:Rat}:chB bs (.put w q)=if K2 w q=false then .error (Str.ofString "NoNumber")else if 12≤bs.length then .error (Str.ofString "TooMany")else .ok (bs++[(w,q)]):=rfl
theorem uj{bs:List (Str × Rat)}{k:Nat}{q:Rat}{x:Str × Rat}(h:bs[k]? = some x):chB bs (.set k q)=if K2 x.1 q=false then .error (Str.ofString "NoNumber")else .ok (bs.take k++[(x.1,q)]++bs.drop (k+1)):=by
 show(match bs[k]? with|none=>_|some x=>_)=_
 rw[h]
theorem zU{bs:List (Str × Rat)}{k:Nat}{q:Rat}(h:bs.length≤k):chB bs (.set k q) = .error (Str.ofString "NoPart"):=by
 show(match bs[k]? with|none=>_|some x=>_)=_
 rw[QP h]
theorem CV{bs:List (Str × Rat)}{k:Nat}{x:Str × Rat}(h:bs[k]? = some x):chB bs (.cut k) = .ok (bs.take k++[]++bs.drop (k+1)):=by
 show(match bs[k]? with|none=>_|some x=>_)=_
 rw[h]
theorem zV{bs:List (Str × Rat)}{k:Nat}(h:bs.length≤k):chB bs (.cut k) = .error (Str.ofString "NoPart"):=by
 show(match bs[k]? with|none=>_|some x=>_)=_
 rw[QP h]
theorem tJ(w:Str):∀ ts:List Str,inV (.str w) (ts.map V.str)=ts.any (· == w)
 | []=>rfl
 | t :: ts=>by
  show((t == w) || inV (.str w) (ts.map V.str))=_
  rw[tJ w ts];rfl
noncomputable def E8:List (Str × D):=[("put",.tup [.str "word",.str "number"]),("set",.tup [.str "part",.str "number"]),("cut",.tup [.str "part"]),("near",.tup [.str "number"]),("far",.tup [.str "number"]),("back",.tup []),("bench",.tup []),("hall",.tup []),("table",.tup []),("image",.tup [.str "plane"]),("ray",.tup [.str "number",.str "number"]),("idle",.tup [.str "part"]),("round",.tup []),("ever",.tup [.str "number",.str "number"]),("glasses",.tup [])]
noncomputable def Cmd.forms:Cmd→List Str
 | .put _ _=>["word","number"]
 | .set _ _=>["part","number"]
 | .cut _=>["part"]
 | .near _=>["number"]
 | .far _=>["number"]
 | _=>[]
theorem mL:p5 (Str.ofString "put") E8=some (.tup [.str "word",.str "number"]):=by kernel_rfl
theorem xP:p5 (Str.ofString "set") E8=some (.tup [.str "part",.str "number"]):=by kernel_rfl
theorem xR:p5 (Str.ofString "cut") E8=some (.tup [.str "part"]):=by kernel_rfl
theorem iW:p5 (Str.ofString "near") E8=some (.tup [.str "number"]):=by kernel_rfl
theorem mM:p5 (Str.ofString "far") E8=some (.tup [.str "number"]):=by kernel_rfl
theorem uD:p5 (Str.ofString "back") E8=some (.tup []):=by kernel_rfl
theorem pF:p5 (Str.ofString "bench") E8=some (.tup []):=by kernel_rfl
theorem uC:p5 (Str.ofString "hall") E8=some (.tup []):=by kernel_rfl
theorem Cmd.rows(c:Cmd):p5 c.word E8=some (.tup (c.forms.map D.str)):=by
 cases c with
 | put w q=>exact mL
 | set k q=>exact xP
 | cut k=>exact xR
 | near q=>exact iW
 | far q=>exact mM
 | back=>exact uD
 | bench=>exact pF
 | hall=>exact uC
theorem fU(x y:D):p5 (Str.ofString "hall") [(Str.ofString "hall",x),(Str.ofString "past",y)]=some x:=if_pos rfl
theorem zk(x y:D):p5 (Str.ofString "past") [(Str.ofString "hall",x),(Str.ofString "past",y)]=some y:=by
 have h:¬ Str.ofString "hall" = Str.ofString "past" := by decide +kernel
 show(if Str.ofString "hall" = Str.ofString "past" then _ else(if Str.ofString "past" = Str.ofString "past" then _ else _))=_
 rw[if_neg h,if_pos rfl]
theorem xY(x y z:D):pI (Str.ofString "hall") z [(Str.ofString "hall",x),(Str.ofString "past",y)]=[(Str.ofString "hall",z),(Str.ofString "past",y)]:=if_pos rfl
theorem xX(x y:D):pI (Str.ofString "past") y [(Str.ofString "hall",x)]=[(Str.ofString "hall",x),(Str.ofString "past",y)]:=by
 have h:¬ Str.ofString "hall" = Str.ofString "past" := by decide +kernel
 show(if Str.ofString "hall" = Str.ofString "past" then _ else _)=_
 rw[if_neg h];rfl
theorem dO(x y:D){m:Str}(h1:¬ Str.ofString "hall" = m)(h2:¬ Str.ofString "past" = m):p5 m [(Str.ofString "hall",x),(Str.ofString "past",y)]=none:=by
 show(if Str.ofString "hall" = m then _ else(if Str.ofString "past" = m then _ else _))=_
 rw[if_neg h1,if_neg h2];rfl
theorem E6.ne{M:Mem}{d l:Addr}{h:Hl}{ps:List Hl}(x:E6 M d l h ps):d≠l:=fun e=>by
 have:=x.ob
 rw[e,x.pa]at this;cases this
theorem An(xs:List (Str × Str × D)):bu ((xs.map (·.1)).map D.str) ((xs.map (·.2.1)).map D.str)=xs.map fun x=>.tup [.str x.1,.str x.2.1]:=by
 induction xs with
 | nil=>rfl
 | cons x xs ih =>
  unfold bu at ih ⊢
  rw[Po,Po,Po,Po,List.zipWith_cons_cons,ih];rfl
theorem Bn{M:Mem}{a b:Addr}{x y z:MO}(_h:b≠a):q9 (q9 (q9 M a x) b y) a z=q9 (q9 M b y) a z:=by
 funext c
 by_cases e:c=a
 ·rw[e,h8,h8]
 ·rw[j5 e,j5 e]
  by_cases e2:c=b
  ·rw[e2,h8,h8]
  ·rw[j5 e2,j5 e2,j5 e]
theorem Ai{neg:Bool}{w:Str}(ts:List Str){M:Mem}{R:DK}(r:R (.bl (if neg then !(ts.any (· == w))else ts.any (· == w))) M):gIn neg (.str w) (.tup (ts.map D.str)) M R :=
 ⟨.str w,ts.map D.str,ts.map V.str,rfl,by simp only[A0],by rw[Qb,Qb];rfl,by rw[tJ];exact r⟩
noncomputable def chT:List Str:=[Str.ofString "put",Str.ofString "set",Str.ofString "cut",Str.ofString "near",Str.ofString "far"]
theorem CS:(chT.any fun x=>x == Str.ofString "put")=true:=by decide +kernel
theorem CQ:(chT.any fun x=>x == Str.ofString "set")=true:=by decide +kernel
theorem CU:(chT.any fun x=>x == Str.ofString "cut")=true:=by decide +kernel
theorem zR:(chT.any fun x=>x == Str.ofString "near")=true:=by decide +kernel
theorem CT:(chT.any fun x=>x == Str.ofString "far")=true:=by decide +kernel
theorem zT:(chT.any fun x=>x == Str.ofString "back")=false:=by decide +kernel
theorem vh:(chT.any fun x=>x == Str.ofString "bench")=false:=by decide +kernel
theorem zS:(chT.any fun x=>x == Str.ofString "hall")=false:=by decide +kernel
theorem Cmd.change(c:Cmd):((chT.any fun x=>x == c.word)=true∧c.isC)∨((chT.any fun x=>x == c.word)=false∧(c = .back∨c = .bench∨c = .hall)):=by
 cases c with
 | put w q=>exact .inl ⟨CS,trivial⟩
 | set w q=>exact .inl ⟨CQ,trivial⟩
 | cut w=>exact .inl ⟨CU,trivial⟩
 | near q=>exact .inl ⟨zR,trivial⟩
 | far q=>exact .inl ⟨CT,trivial⟩
 | back=>exact .inr ⟨zT,.inl rfl⟩
 | bench=>exact .inr ⟨vh,.inr (.inl rfl)⟩
 | hall=>exact .inr ⟨zS,.inr (.inr rfl)⟩
theorem KU{h:Hl}{c:Cmd}(hb:c.isB):chH h c=(match chB h.2.1 c with|.ok cs=>.ok (h.1,cs,h.2.2)|.error x=>.error x):=by
 cases c<;>first|rfl|exact hb.elim
theorem E6.oth{M M':Mem}{d l:Addr}{h:Hl}{ps:List Hl}(x:E6 M d l h ps)(e1:M' d=M d)(e2:M' l=M l):E6 M' d l h ps:=⟨e1.trans x.ob,e2.trans x.pa⟩
theorem E6.same{M M':Mem}{d l:Addr}{h:Hl}{ps:List Hl}(x:E6 M d l h ps)(y:E6 M' d l h ps)(o:Oth d l M M'):M'=M:=by
 funext b
 by_cases e1:b=d
 ·rw[e1,x.ob,y.ob]
 ·by_cases e2:b=l
  ·rw[e2,x.pa,y.pa]
  ·exact o b e1 e2
noncomputable def two(a b:Addr):Nat→Addr:=fun j=>if j=0 then a else b
end GM
namespace L2
open PySem PySem.Spec PyProof.Rows
noncomputable abbrev TF:=Str→St→Hp→VK→Prop
def PF(X:Cx)(es:List Expr)(t:TF):Prop:=∀(pins:List (Addr × Obj)) (s:Shared) (σ:St) (H:Hp) (acc:Str) (Q:VK),Inv X pins σ H s→t acc σ H Q→wpAny (model X.prog X.w) X.A (joinParts acc (evalEach es X.env)) (EP X pins σ Q) X.xe s
section
variable {X:Cx} {e:Expr} {es:List Expr} {pos:Pos} {te:TE} {t:TF}
theorem GP:PF X [] (fun acc _ H Q=>acc.length≤sizeLine∧Q (.str acc) H):=fun pins s σ H acc Q I h =>
 joinParts_nil ⟨.str acc,H,I.tok _,⟨_,rfl⟩,h.2⟩ h.1
theorem GO{x:Str}{j}(hr:PF X es t):PF X (.Constant (.str x) j pos :: es) (fun acc σ H Q=>(acc++x).length≤sizeLine∧t (acc++x) σ H Q):=fun pins s σ H acc Q I h =>
 joinParts_cons (Calls.Constant_str ⟨h.1,hr pins _ σ H _ Q (I.tok _) h.2⟩)
theorem GN(he:PE X e te)(hr:PF X es t):PF X (.FormattedValue e (-1) none pos :: es) (fun acc σ H Q=>te σ H fun v H1=>(∃ z,v = .str z∧z.length≤sizeLine∧(acc++z).length≤sizeLine∧t (acc++z) σ H1 Q) ∨
  ∃ n:Int,v = .int n∧n.natAbs.log2<1920∧(acc++Str.ofString (toString n)).length≤sizeLine∧t (acc++Str.ofString (toString n)) σ H1 Q):=fun pins s σ H acc Q I h=>by
 refine joinParts_cons (FormattedValue_plain (wpAny_mono (he pins s σ H _ I h) (fun u s1 ⟨v,H1,I1,r,q⟩=>?_) fun _ _ z=>z))
 rcases q with⟨z,rfl,hz,hl,q⟩|⟨n,rfl,hn,hl,q⟩
 ·obtain⟨tk,rfl⟩:=r
  exact formatField_str (fun t' tk'=>⟨hl,hr pins _ σ H1 _ Q (I1.tok _) q⟩) hz
 ·obtain⟨tk,rfl⟩:=r
  exact formatField_int_small hn ⟨hl,hr pins _ σ H1 _ Q (I1.tok _) q⟩
theorem JU{e2:Expr}(h:PF X (e :: e2 :: es) t):PE X (.JoinedStr (e :: e2 :: es) pos) (fun σ H Q=>t Str.empty σ H Q):=fun pins s σ H Q I q=>JoinedStr_many (h pins s σ H Str.empty Q I q)
end
end L2
namespace DL
open PySem PySem.Spec L2
open PyProof.Rows hiding St
noncomputable abbrev DTF:=Str→DTE
noncomputable def upF(K:OR)(t:DTF):TF:=fun acc=>up K (t acc)
structure JF(X:Cx)(es:List Expr)(t:DTF):Prop where
 out:PF X es (upF X.K t)
theorem PF.imp{X:Cx}{es:List Expr}{t t':TF}(h:PF X es t)(i:∀ acc σ H Q,t' acc σ H Q→t acc σ H Q):PF X es t':=fun pins s σ H acc Q I q=>h pins s σ H acc Q I (i acc σ H Q q)
section
variable {X:Cx} {e:Expr} {es:List Expr} {pos:Pos} {te:DTE} {t:DTF}
noncomputable def Fe:DTF:=fun acc _ M R=>acc.length≤sizeLine∧R (.str acc) M
noncomputable def Fd(x:Str)(t:DTF):DTF:=fun acc e M R=>acc.length+x.length≤sizeLine∧t (acc++x) e M R
def FvK(d:D)(acc:Str)(M:Mem)(P:Str→Mem→Prop):Prop:=(∃ z,d = .str z∧acc.length+z.length≤sizeLine∧P (acc++z) M) ∨ ∃ n:Int,d = .int n∧n.natAbs.log2<1920∧acc.length+(Str.ofString (toString n)).length≤sizeLine∧P (acc++Str.ofString (toString n)) M
noncomputable def Fc(te:DTE)(t:DTF):DTF:=fun acc e M R=>te e M fun d M1=>FvK d acc M1 fun z M2=>t z e M2 R
theorem qe(a b:Str):(a++b).length=a.length+b.length:=by
 show(a.cps++b.cps).size=_
 rw[Array.size_append];rfl
theorem HB:JF X [] Fe:=⟨PF.imp GP fun acc σ H Q ⟨e,M,R,ok,am,⟨hl,r⟩,f⟩=>⟨hl,f _ M r _ H (KT.refl H) am (.str _)⟩⟩
theorem HA{x:Str}{j}(hr:JF X es t):JF X (.Constant (.str x) j pos :: es) (Fd x t):=⟨PF.imp (GO hr.out) fun acc σ H Q ⟨e,M,R,ok,am,⟨hl,r⟩,f⟩=>⟨by rw[qe];exact hl,e,M,R,ok,am,r,f⟩⟩
theorem Hz(he:JE X e te)(hr:JF X es t):JF X (.FormattedValue e (-1) none pos :: es) (Fc te t):=⟨PF.imp (GN he.out hr.out) fun acc σ H Q ⟨e,M,R,ok,am,tt,f⟩=>⟨e,M,_,ok,am,tt,fun d M1 h v H1 k1 a1 r1=>by
 rcases h with⟨z,rfl,hl,r⟩|⟨n,rfl,hn,hl,r⟩
 ·cases r1
  exact .inl ⟨z,rfl,by omega,by rw[qe];exact hl,e,M1,R,ok.mono k1,a1,r,f.mono k1⟩
 ·cases r1
  exact .inr ⟨n,rfl,hn,by rw[qe];exact hl,e,M1,R,ok.mono k1,a1,r,f.mono k1⟩⟩⟩
def dFs(t:DTF):DTE:=t Str.empty
theorem Kj{e2:Expr}(h:JF X (e :: e2 :: es) t):JE X (.JoinedStr (e :: e2 :: es) pos) (dFs t):=⟨JU h.out⟩
theorem Jl{e:Ev}{M:Mem}{R:DK}:dFs t e M R=t Str.empty e M R:=rfl
theorem we{acc:Str}{e:Ev}{M:Mem}{R:DK}:Fe acc e M R=(acc.length≤sizeLine∧R (.str acc) M):=rfl
theorem wd{x acc:Str}{e:Ev}{M:Mem}{R:DK}:Fd x t acc e M R=(acc.length+x.length≤sizeLine∧t (acc++x) e M R):=rfl
theorem wc{acc:Str}{e:Ev}{M:Mem}{R:DK}:Fc te t acc e M R=te e M fun d M1=>FvK d acc M1 fun z M2=>t z e M2 R:=rfl
theorem Ef{z acc:Str}{M:Mem}{P:Str→Mem→Prop}:FvK (.str z) acc M P=(acc.length+z.length≤sizeLine∧P (acc++z) M):=propext ⟨fun h=>(by
 rcases h with⟨_,e,h⟩|⟨_,e,_⟩
 ·cases e;exact h
 ·cases e),fun h=>.inl ⟨z,rfl,h⟩⟩
theorem Eg{n:Int}{acc:Str}{M:Mem}{P:Str→Mem→Prop}:FvK (.int n) acc M P=(n.natAbs.log2<1920∧acc.length+(Str.ofString (toString n)).length≤sizeLine∧P (acc++Str.ofString (toString n)) M):=propext ⟨fun h=>(by
 rcases h with⟨_,e,h⟩|⟨_,e,h⟩
 ·cases e
 ·cases e;exact h),fun h=>.inr ⟨n,rfl,h⟩⟩
end
end DL
namespace GM
open PySem PySem.Spec L2 DL
open RM (sz)
structure Cb(D k:Nat)(x:Rat):Prop where
 ex:∃ X:Int,x*(D:Rat)=(X:Rat)∧X.natAbs<2 ^ k
theorem Cb.mono{D k j:Nat}{x:Rat}(h:Cb D k x)(hk:k≤j):Cb D j x:=let ⟨X,a,b⟩:=h.ex;⟨X,a,R6 b hk⟩
theorem Cb.add{D k:Nat}{x y:Rat}(h:Cb D k x)(g:Cb D k y):Cb D (k+1) (x+y):=by
 obtain⟨X,a,b⟩:=h.ex
 obtain⟨Y,c,d⟩:=g.ex
 exact⟨X+Y,by rw[SG];grind,ak b d⟩
theorem Cb.neg{D k:Nat}{x:Rat}(h:Cb D k x):Cb D k (-x):=by
 obtain⟨X,a,b⟩:=h.ex
 exact⟨-X,by rw[SE];grind,by rw[PZ];exact b⟩
theorem Cb.sub{D k:Nat}{x y:Rat}(h:Cb D k x)(g:Cb D k y):Cb D (k+1) (x - y):=by
 have:=h.add g.neg
 rwa [show x + -y=x - y by grind]at this
theorem Cb.one{D k:Nat}(h:D<2 ^ k):Cb D k 1:=⟨(D:Int),by rw[Qo];grind,by rw[OZ];exact h⟩
theorem Cb.zero{D k:Nat}:Cb D k 0:=⟨0,by grind,Nat.pow_pos (by decide)⟩
theorem Cb.sz{D k:Nat}{x:Rat}(h:Cb D k x)(hk:0<k)(h0:D≠0)(hd:D<2 ^ k):sz x≤k:=let ⟨_,a,b⟩:=h.ex;nZ hk h0 hd a b
theorem Cb.div{D k:Nat}{x y:Rat}(h:Cb D k x)(g:Cb D k y)(hk:0<k)(h0:D≠0)(hy:y≠0):RM.sz (x / y)≤k:=by
 obtain⟨X,a,b⟩:=h.ex
 obtain⟨Y,c,d⟩:=g.ex
 have hD:(D:Rat)≠0:=fun z=>h0 (by exact_mod_cast z)
 have hY:Y≠0:=fun z=>by rw[z]at c;grind
 have hY':(Y:Rat)≠0:=fun z=>hY (by exact_mod_cast z)
 have e:x / y=QE X Y:=by
  rw[Rq,← a,← c]
  grind
 rw[e]
 exact Pa (RM.J4 X Y hY) (QU.mpr ⟨RM.V6 b hk,RM.V6 d hk⟩)
structure Cb4(D S:Nat)(a b c d:Rat):Prop where
 nz:D≠0
 lt:D<2 ^ S
 a:Cb D S a
 b:Cb D S b
 c:Cb D S c
 d:Cb D S d
theorem CD.cb{S:Nat}{a b c d:Rat}(h:CD S a b c d):∃ D,Cb4 D S a b c d:=by
 obtain⟨A,B,C,E,D,h0,hd,⟨h1,h2,h3,h4⟩,e1,e2,e3,e4⟩:=h.ex
 exact⟨D,h0,hd,⟨A,e1,h1⟩,⟨B,e2,h2⟩,⟨C,e3,h3⟩,⟨E,e4,h4⟩⟩
theorem zW:∀(bs:List (Str × Rat)) {S:Nat} {a b c d:Rat},CD S a b c d→CD (S+G7 bs) (i3 bs (a,c)).1 (i3 bs (b,d)).1 (i3 bs (a,c)).2 (i3 bs (b,d)).2
 | [],S,a,b,c,d,h=>h
 | x :: bs,S,a,b,c,d,h=>by
  have h1:=h.ledk (x:=x) (Pe (sz x.2))
  have h2:=zW bs h1
  have e:S+(sz x.2+1)+G7 bs=S+G7 (x :: bs):=by show _=S+((sz x.2+1)+G7 bs);omega
  rw[e]at h2
  exact h2
structure Iq(k:Nat)(a b c d g h:Rat):Prop where
 tg:sz g≤k
 th:sz h≤k
 tb:sz (b - a*g)≤k
 td:sz (d - c*g)≤k
 ta:sz (a - h*c)≤k
 tm:sz (b - a*g - h*(d - c*g))≤k
 p1:sz ((1 - (a - h*c)) / (b - a*g - h*(d - c*g)))≤k
 p2:sz ((1 - (d - c*g)) / (b - a*g - h*(d - c*g)))≤k
theorem xi{D S:Nat}{a b c d g h:Rat}(x:Cb4 D S a b c d)(hS:0<S)(hd:a*d - b*c=1)(e:t6 a b c d=some (g,h)):Iq (S+3) a b c d g h:=by
 obtain⟨nz,lt,xa,xb,xc,xd⟩:=x
 have lt3:=R6 lt (show S≤S+3 by omega)
 have o:=Cb.one (D:=D) (k:=S) lt
 have S3:∀{q:Rat},Cb D (S+3) q→sz q≤S+3:=fun q=>q.sz (by omega) nz lt3
 have D3:∀{q r:Rat},Cb D (S+3) q→Cb D (S+3) r→r≠0→sz (q / r)≤S+3:=fun q r h=>q.div r (by omega) nz h
 have n1:sz (1:Rat)≤S+3:=by rw[RM.L3];omega
 have n0:sz (0:Rat)≤S+3:=by rw[RM.D9];omega
 unfold t6 at e
 by_cases h1:0<b
 ·rw[if_pos h1]at e;cases e
  have e1:b - a*0=b:=by grind
  have e2:d - c*0=d:=by grind
  have e3:a - 0*c=a:=by grind
  have e4:b - 0*d=b:=by grind
  refine⟨n0,n0,?_,?_,?_,?_,?_,?_⟩<;>simp only[e1,e2,e3,e4]
  ·exact S3 (xb.mono (by omega))
  ·exact S3 (xd.mono (by omega))
  ·exact S3 (xa.mono (by omega))
  ·exact S3 (xb.mono (by omega))
  ·exact D3 ((o.sub xa).mono (by omega)) (xb.mono (by omega)) (by grind)
  ·exact D3 ((o.sub xd).mono (by omega)) (xb.mono (by omega)) (by grind)
 ·rw[if_neg h1]at e
  by_cases h2:a<0
  ·rw[if_pos h2]at e;cases e
   have ha:a≠0:=by grind
   have e1:b - a*((b - 1) / a)=1:=by grind
   have e2:d - c*((b - 1) / a)=(1+c) / a:=by
    have:a*(d - c*((b - 1) / a))=1+c:=by grind
    grind
   have e3:a - 0*c=a:=by grind
   refine⟨D3 ((xb.sub o).mono (by omega)) (xa.mono (by omega)) ha,n0,?_,?_,?_,?_,?_,?_⟩<;>simp only[e1,e2,e3]
   ·exact n1
   ·exact D3 ((o.add xc).mono (by omega)) (xa.mono (by omega)) ha
   ·exact S3 (xa.mono (by omega))
   ·rw[show(1:Rat) - 0*((1+c) / a)=1 by grind];exact n1
   ·rw[show(1 - a) / (1 - 0*((1+c) / a))=1 - a by grind];exact S3 ((o.sub xa).mono (by omega))
   ·rw[show(1 - (1+c) / a) / (1 - 0*((1+c) / a))=((a - 1) - c) / a by grind]
    exact D3 (((xa.sub o).sub (xc.mono (by omega))).mono (by omega)) (xa.mono (by omega)) ha
  ·rw[if_neg h2]at e
   by_cases h3:d<0
   ·rw[if_pos h3]at e;cases e
    have ha:d≠0:=by grind
    have e1:b - a*0=b:=by grind
    have e2:d - c*0=d:=by grind
    have e3:a - (b - 1) / d*c=(1+c) / d:=by
     have:d*(a - (b - 1) / d*c)=1+c:=by grind
     grind
    have e4:b - (b - 1) / d*d=1:=by grind
    refine⟨n0,D3 ((xb.sub o).mono (by omega)) (xd.mono (by omega)) ha,?_,?_,?_,?_,?_,?_⟩<;>simp only[e1,e2,e3,e4]
    ·exact S3 (xb.mono (by omega))
    ·exact S3 (xd.mono (by omega))
    ·exact D3 ((o.add xc).mono (by omega)) (xd.mono (by omega)) ha
    ·exact n1
    ·rw[show(1 - (1+c) / d) / 1=((d - 1) - c) / d by grind]
     exact D3 (((xd.sub o).sub (xc.mono (by omega))).mono (by omega)) (xd.mono (by omega)) ha
    ·rw[show(1 - d) / 1=1 - d by grind];exact S3 ((o.sub xd).mono (by omega))
   ·rw[if_neg h3]at e
    by_cases h4:0<c
    ·rw[if_pos h4]at e;cases e
     have ha:c≠0:=by grind
     have e0:1 - b+(d+1) / c*a=(c+1+a) / c:=by
      have:c*(1 - b+(d+1) / c*a)=c+1+a:=by grind
      grind
     have e1:b - a*((d+1) / c) = -(1+a) / c:=by
      have:c*(b - a*((d+1) / c)) = -(1+a):=by grind
      grind
     have e2:d - c*((d+1) / c) = -1:=by grind
     have e3:a - (c+1+a) / c*c = -(c+1):=by grind
     have e4:-(1+a) / c - (c+1+a) / c * -1=1:=by grind
     have z1:Cb D (S+3) (c+1+a):=((xc.add o).add (xa.mono (by omega))).mono (by omega)
     refine⟨D3 ((xd.add o).mono (by omega)) (xc.mono (by omega)) ha,?_,?_,?_,?_,?_,?_,?_⟩<;>simp only[e0,e1,e2,e3,e4]
     ·exact D3 z1 (xc.mono (by omega)) ha
     ·exact D3 ((o.add xa).neg.mono (by omega)) (xc.mono (by omega)) ha
     ·exact S3 ((o.mono (by omega)).neg)
     ·exact S3 ((xc.add o).neg.mono (by omega))
     ·exact n1
     ·rw[show(1 - -(c+1)) / 1=(c+1)+1 by grind]
      exact S3 (((xc.add o).add (o.mono (by omega))).mono (by omega))
     ·rw[show((1:Rat) - -1) / 1=1+1 by grind];exact S3 ((o.add o).mono (by omega))
    ·rw[if_neg h4]at e;cases e
theorem sy{D S:Nat}{a b c d:Rat}(x:Cb4 D S a b c d)(hS:0<S)(hd:a*d - b*c=1)(e:t6 a b c d=none) :
  sz (j7 a b c d)≤S+3∧sz (a+b*j7 a b c d)≤S+3∧sz (c+d*j7 a b c d)≤S+3∧t6 (a+b*j7 a b c d) b (c+d*j7 a b c d) d≠none ∧
  ∀ g h,t6 (a+b*j7 a b c d) b (c+d*j7 a b c d) d=some (g,h)→Iq (S+3) (a+b*j7 a b c d) b (c+d*j7 a b c d) d g h:=by
 obtain⟨o1,o2,o3,o4⟩:=pL e
 obtain⟨nz,lt,xa,xb,xc,xd⟩:=id x
 have lt3:=R6 lt (show S≤S+3 by omega)
 have o:=Cb.one (D:=D) (k:=S) lt
 have S3:∀{q:Rat},Cb D (S+3) q→sz q≤S+3:=fun q=>q.sz (by omega) nz lt3
 have D3:∀{q r:Rat},Cb D (S+3) q→Cb D (S+3) r→r≠0→sz (q / r)≤S+3:=fun q r h=>q.div r (by omega) nz h
 have n1:sz (1:Rat)≤S+3:=by rw[RM.L3];omega
 have n0:sz (0:Rat)≤S+3:=by rw[RM.D9];omega
 by_cases hb:b=0
 ·have hd0:d≠0:=by intro z;rw[hb,z]at hd;grind
  have ef:j7 a b c d=(1 - c) / d:=by unfold j7;rw[if_pos hb]
  have e1:a+b*((1 - c) / d)=a:=by rw[hb];grind
  have e2:c+d*((1 - c) / d)=1:=by grind
  rw[ef,e1,e2,hb]
  have y:Cb4 D S a 0 1 d:=⟨nz,lt,xa,Cb.zero,o,xd⟩
  refine⟨D3 ((o.sub xc).mono (by omega)) (xd.mono (by omega)) hd0,S3 (xa.mono (by omega)),n1,?_,fun g h z=>xi y hS (by rw[hb]at hd;grind) z⟩
  unfold t6
  rw[if_neg (by decide),if_neg o2,if_neg o3,if_pos (by decide)];simp
 ·have ef:j7 a b c d = -((1+a) / b):=by unfold j7;rw[if_neg hb]
  have e1:a+b * -((1+a) / b) = -1:=by grind
  have e2:c+d * -((1+a) / b) = -(1+d) / b:=by
   have:b*(c+d * -((1+a) / b)) = -(1+d):=by grind
   grind
  rw[ef,e1,e2]
  have oe:t6 (-1) b (-(1+d) / b) d=some ((b - 1) / -1,0):=by
   unfold t6
   rw[if_neg o1,if_pos (by decide)]
  refine⟨by rw[RM.E1];exact D3 ((o.add xa).mono (by omega)) (xb.mono (by omega)) hb,by rw[RM.E1];exact n1,D3 ((o.add xd).neg.mono (by omega)) (xb.mono (by omega)) hb,by rw[oe];simp,fun g h z=>?_⟩
  rw[oe]at z
  cases z
  have g1:(b - 1) / -1=1 - b:=by grind
  have f1:b - -1*(1 - b)=1:=by grind
  have f2:d - -(1+d) / b*(1 - b)=(1+d - b) / b:=by grind
  have f3:-1 - 0*(-(1+d) / b)=(-1:Rat):=by grind
  have f4:(1:Rat) - 0*((1+d - b) / b)=1:=by grind
  have z1:Cb D (S+3) (1+d - b):=((o.add xd).sub (xb.mono (by omega))).mono (by omega)
  refine⟨?_,n0,?_,?_,?_,?_,?_,?_⟩<;>simp only[g1,f1,f2,f3,f4]
  ·exact S3 ((o.sub xb).mono (by omega))
  ·exact n1
  ·exact D3 z1 (xb.mono (by omega)) hb
  ·rw[RM.E1];exact n1
  ·exact n1
  ·rw[show((1:Rat) - -1) / 1=1+1 by grind];exact S3 ((o.add o).mono (by omega))
  ·rw[show(1 - (1+d - b) / b) / 1=((b+b) - (1+d)) / b by grind]
   exact D3 (((xb.add xb).sub (o.add xd)).mono (by omega)) (xb.mono (by omega)) hb
def FwP(k:Nat)(x:Str × Rat):Prop:=((x.1 = "gap" ∧ 0≤x.2)∨x.1 = "glass")∧sz x.2≤k
theorem V3{k:Nat}{xs:List (Str × Rat)}(h:∀ x∈xs,FwP k x):∀ x∈R8 xs,FwP k x:=fun x hx=>h x (QV.mp hx).1
theorem tV{k:Nat}{a b c d g h:Rat}(hd:a*d - b*c=1)(e:t6 a b c d=some (g,h))(z:Iq k a b c d g h):∀ x∈S7 g h a b c d,FwP k x:=fun x hx=>by
 obtain⟨p1,p2,p3⟩:=jb hd e
 unfold S7 at hx
 rcases Pq.mp hx with hx|hx
 ·rcases Pq.mp hx with hx|hx
  ·refine V3 (fun y hy=>?_) x hx
   obtain rfl:=PB.mp hy
   exact⟨.inl ⟨rfl,p2⟩,z.tg⟩
  ·refine V3 (fun y hy=>?_) x hx
   simp only[Pb,Pj,or_false]at hy
   rcases hy with rfl|rfl|rfl
   ·exact⟨.inr rfl,z.p1⟩
   ·exact⟨.inl ⟨rfl,by show 0≤_;grind⟩,z.tm⟩
   ·exact⟨.inr rfl,z.p2⟩
 ·refine V3 (fun y hy=>?_) x hx
  obtain rfl:=PB.mp hy
  exact⟨.inl ⟨rfl,p3⟩,z.th⟩
theorem sv(g h a b c d:Rat):(S7 g h a b c d).length≤5:=by
 have l1:∀ q:Rat,(R8 [((Str.ofString "gap"),q)]).length≤1:=fun q=>Pa (Px _ _) (by simp)
 have l2:∀ x y w,(fu x y w).length≤3:=fun x y w=>Pa (Px _ _) (by simp)
 unfold S7
 rw[Pl,Pl]
 exact Qr (Qr (l1 _) (l2 _ _ _)) (l1 _)
theorem tW{D S:Nat}{a b c d:Rat}(x:Cb4 D S a b c d)(hS:0<S)(hd:a*d - b*c=1):(∀ y∈fV a b c d,FwP (S+3) y)∧(fV a b c d).length≤6:=by
 obtain⟨nz,lt,xa,xb,xc,xd⟩:=id x
 have lt3:=R6 lt (show S≤S+3 by omega)
 have o:=Cb.one (D:=D) (k:=S) lt
 unfold fV
 split
 ·rename_i q
  refine⟨V3 fun y hy=>?_,Pa (Px _ _) (by simp)⟩
  obtain rfl:=PB.mp hy
  exact⟨.inl ⟨rfl,by show 0≤b;grind⟩,(xb.mono (by omega)).sz (by omega) nz lt3⟩
 ·split
  ·rename_i q
   refine⟨V3 fun y hy=>?_,Pa (Px _ _) (by simp)⟩
   simp only[Pb,Pj,or_false]at hy
   rcases hy with rfl|rfl|rfl
   ·exact⟨.inl ⟨rfl,by show 0≤(d - 1) / c;grind⟩,((xd.sub o).mono (by omega)).div (xc.mono (by omega)) (by omega) nz q.1⟩
   ·exact⟨.inr rfl,(xc.neg.mono (by omega)).sz (by omega) nz lt3⟩
   ·exact⟨.inl ⟨rfl,by show 0≤(a - 1) / c;grind⟩,((xa.sub o).mono (by omega)).div (xc.mono (by omega)) (by omega) nz q.1⟩
  ·cases e:t6 a b c d with
   | some gh =>
    obtain⟨g,h⟩:=gh
    exact⟨tV hd e (xi x hS hd e),Pa (sv ..) (by decide)⟩
   | none =>
    obtain⟨z1,z2,z3,z4,z5⟩:=sy x hS hd e
    cases e2:t6 (a+b*j7 a b c d) b (c+d*j7 a b c d) d with
    | none=>exact absurd e2 z4
    | some gh =>
     obtain⟨g,h⟩:=gh
     refine⟨fun y hy=>?_,Nat.succ_le_succ (sv ..)⟩
     rcases Pb.mp hy with rfl|hy
     ·exact⟨.inr rfl,z1⟩
     ·exact tV (by grind) e2 (z5 g h e2) y hy
end GM
namespace GM
open PySem PySem.Spec L2 DL PySem.NumText
open RM (sz)
theorem oa{D S:Nat}{a b c d:Rat}(x:Cb4 D S a b c d)(hS:0<S):sz a≤S∧sz b≤S∧sz c≤S∧sz d≤S:=⟨x.a.sz hS x.nz x.lt,x.b.sz hS x.nz x.lt,x.c.sz hS x.nz x.lt,x.d.sz hS x.nz x.lt⟩
abbrev W9(a b c d:Rat)(M:Mem)(R:DK)(Y:DXK):Prop:=((∃ D,Cb4 D 1480 a b c d)∧a*d - b*c=1)∧t6 a b c d=none∧∀ g h,t6 (a+b*j7 a b c d) b (c+d*j7 a b c d) d=some (g,h)→∀ p,M p=none→R (.ref p) (q9 M p (.lst ((((Str.ofString "glass"),j7 a b c d) :: S7 g h (a+b*j7 a b c d) b (c+d*j7 a b c d) d).map i0)))
def jU:DSp:=fun ds M R Y=>∃(a b c d:Rat),ds=[B3 a b c d]∧W9 a b c d M R Y
theorem iq{a b c d:Rat}{M:Mem}{R:DK}{Y:DXK}:jU [B3 a b c d] M R Y=(W9 a b c d M R Y):=propext ⟨fun z=>by obtain⟨_,_,_,_,_,_⟩:=z;walk_at "inj",fun h=>⟨a,b,c,d,rfl,h⟩⟩
abbrev dH(a b c d:Rat)(M:Mem)(R:DK)(Y:DXK):Prop:=((∃ D,Cb4 D 1480 a b c d)∧a*d - b*c=1)∧∀ p,M p=none→R (.ref p) (q9 M p (.lst ((fV a b c d).map i0)))
def sN:DSp:=fun ds M R Y=>∃(a b c d:Rat),ds=[B3 a b c d]∧dH a b c d M R Y
theorem qO{a b c d:Rat}{M:Mem}{R:DK}{Y:DXK}:sN [B3 a b c d] M R Y=(dH a b c d M R Y):=propext ⟨fun z=>by obtain⟨_,_,_,_,_,_⟩:=z;walk_at "inj",fun h=>⟨a,b,c,d,rfl,h⟩⟩
structure W0(x:Str × Rat):Prop where
 kind:(x.1 = "gap" ∧ 0≤x.2)∨x.1 = "glass" ∨ (x.1 = "stop" ∧ 0<x.2)
 sz:RM.sz x.2≤1700
theorem EB:(2:Nat) ^ 1700≤10 ^ 520:=by decide +kernel
theorem EI{q:Rat}(h:sz q≤1700):q.num.natAbs<10 ^ 520:=OV (Q3 q h) EB
theorem Ff{q:Rat}(h:sz q≤1700):q.den<10 ^ 520:=OV (Q9 q h) EB
theorem Kh{q:Rat}(h:sz q≤1700):q.num.natAbs.log2<1920∧((q.den:Int)).natAbs.log2<1920:=by
 have:=FX (n:=1920) (q:=q) (by omega)
 exact⟨this.1,by rw[OZ];exact this.2⟩
theorem Ft{q:Rat}(h:sz q≤1700):q.num.natAbs<10 ^ 5000∧q.den<10 ^ 5000:=⟨OV (EI h) (Pp (by decide) (by decide)),OV (Ff h) (Pp (by decide) (by decide))⟩
theorem p8{q:Rat}(h:sz q≤1700):(rtx q).length≤1043:=by
 have h1:=G4 (k:=520) (by decide) (EI h)
 have h2:=G4 (n:=(q.den:Int)) (k:=520) (by decide) (by rw[OZ];exact Ff h)
 unfold rtx
 split
 ·omega
 ·rw[i9,i9,show(Str.ofString "/").length=1 by decide +kernel];omega
theorem W0.word{x:Str × Rat}(h:W0 x):J7 x.1=true:=by
 rcases h.kind with⟨e,_⟩|e|⟨e,_⟩<;>rw[e]<;>decide +kernel
theorem W0.may{x:Str × Rat}(h:W0 x):K2 x.1 x.2=true:=nD h.kind
theorem iY{x:Str × Rat}(h:W0 x):(ptx x).length≤1050:=by
 have h1:=F0 h.word
 have h2:=p8 h.sz
 unfold ptx
 rw[i9,i9,show(Str.ofString " ").length=1 by decide +kernel];omega
theorem iX{bs:List (Str × Rat)}(hp:∀ x∈bs,W0 x):((bs.map ptx).map (·.length)).sum≤1050*bs.length:=by
 induction bs with
 | nil=>exact Pe _
 | cons x bs ih =>
  have h1:=iY (hp x Ph)
  have h2:=ih fun y hy=>hp y (OW _ hy)
  simp only[Po,Sj,Pz]at h2 ⊢
  omega
theorem jl{bs:List (Str × Rat)}(hp:∀ x∈bs,W0 x):∀ i,i≤bs.length→(btx (bs.take i)).length≤4+1060*i
 | 0,_=>by rw[SW,kX];decide +kernel
 | i+1,h=>by
  have hx:=PH (l:=bs) (i:=i) (by omega)
  have ih:=jl hp i (by omega)
  have p:=iY (hp _ (Sx (l:=bs) (n:=i) (by omega)))
  rw[Ij hx]
  split
  ·omega
  ·rw[i9,i9,show(Str.ofString "; ").length=2 by decide +kernel];omega
theorem vm{bs:List (Str × Rat)}(hp:∀ x∈bs,W0 x)(hl:bs.length≤12):(btx bs).length≤13000:=by
 have:=jl hp bs.length (Pe _)
 rw[PX]at this;omega
abbrev ka(x:Str × Rat)(M:Mem)(R:DK)(Y:DXK):Prop:=W0 x∧R (.str (ptx x)) M
def Gf:DSp:=fun ds M R Y=>∃(x:Str × Rat),ds=[i0 x]∧ka x M R Y
theorem vB{x:Str × Rat}{M:Mem}{R:DK}{Y:DXK}:Gf [i0 x] M R Y=(ka x M R Y):=propext ⟨fun z=>by obtain⟨_,_,_⟩:=z;walk_at "inj",fun h=>⟨x,rfl,h⟩⟩
abbrev kl(bs:List (Str × Rat))(M:Mem)(R:DK)(Y:DXK):Prop:=(bs.length≤12∧∀ x∈bs,W0 x)∧R (.str (btx bs)) M
def xJ:DSp:=fun ds M R Y=>∃(bs:List (Str × Rat)),ds=[.vl (bs.map i0)]∧kl bs M R Y
theorem vH{bs:List (Str × Rat)}{M:Mem}{R:DK}{Y:DXK}:xJ [.vl (bs.map i0)] M R Y=(kl bs M R Y):=propext ⟨fun z=>by obtain⟨_,_,_⟩:=z;walk_at "inj",fun h=>⟨bs,rfl,h⟩⟩
abbrev jW(q:Rat)(M:Mem)(R:DK)(Y:DXK):Prop:=sz q≤1700∧R (.str (rtx q)) M
def pe:DSp:=fun ds M R Y=>∃(q:Rat),ds=[e8 q]∧jW q M R Y
theorem vA{q:Rat}{M:Mem}{R:DK}{Y:DXK}:pe [e8 q] M R Y=(jW q M R Y):=propext ⟨fun z=>by obtain⟨_,_,_⟩:=z;walk_at "inj",fun h=>⟨q,rfl,h⟩⟩
noncomputable def jnP:List (List Nat)→List Nat
 | []=>[]
 | [w]=>w
 | w :: r=>w++59 :: 32 :: jnP r
theorem bC(n:Nat)(cs:List Nat):∀(w acc:List Nat),59∉w→E7 [59,32] (n+w.length) (w++cs) acc=E7 [59,32] n cs (w.reverse++acc)
 | [],acc,_=>rfl
 | c :: w,acc,h=>by
  have hc:¬ [59,32].isPrefixOf (c :: (w++cs))=true:=fun z=>by
   have:(59 == c && [32].isPrefixOf (w++cs))=true:=z
   rw[PL,beq_iff_eq]at this
   exact h (this.1▸Ph ..)
  show E7 [59,32] (n+(w.length+1)) (c :: (w++cs)) acc=_
  rw[← Nat.add_assoc,bD,if_neg hc,bC n cs w (c :: acc) fun m=>h (OW _ m),QM,Qe];rfl
theorem eT:∀(ws:List (List Nat)) (N:Nat),ws≠[]→(∀ w∈ws,59∉w)→(jnP ws).length<N→E7 [59,32] N (jnP ws) []=ws
 | [],_,h,_,_=>absurd rfl h
 | [w],N,_,hw,hN=>by
  have e:jnP [w]=w++[]:=by show w=_;simp
  rw[e]at hN ⊢
  rw[PJ]at hN
  obtain⟨n,rfl⟩:∃ n,N=(n+1)+w.length:=⟨N - 1 - w.length,by omega⟩
  rw[bC (n+1) [] w [] (hw w (by simp))]
  show[_]=_
  rw[PJ,Qz]
 | w :: v :: r,N,_,hw,hN=>by
  have e:jnP (w :: v :: r)=w++(59 :: 32 :: jnP (v :: r)):=rfl
  rw[e]at hN ⊢
  rw[Pl,Pz,Pz]at hN
  obtain⟨n,rfl⟩:∃ n,N=(n+1)+w.length:=⟨N - 1 - w.length,by omega⟩
  rw[bC (n+1) _ w [] (hw w (by simp)),bD,if_pos (show[59,32].isPrefixOf (59 :: 32 :: jnP (v :: r))=true by rfl),PJ,Qz]
  show w :: E7 [59,32] n (jnP (v :: r)) []=_
  rw[eT (v :: r) n (by simp) (fun x hx=>hw x (OW _ hx)) (by omega)]
theorem Hy:∀(xs:List Str) (a:Str),sg (Txt.join (Str.ofString "; ") (a :: xs))=jnP ((a :: xs).map sg)
 | xs,a=>by
  have s2:(Str.ofString "; ").cps = #[59,32]:=by decide +kernel
  have key:∀(xs:List Str) (a:Array Nat),(xs.foldl (fun acc p=>acc++(Str.ofString "; ").cps++p.cps) a).toList=jnP (a.toList :: xs.map sg):=by
   intro xs
   induction xs with
   | nil=>intro a;rfl
   | cons x xs ih =>
    intro a
    rw[SJ,ih,s2]
    cases xs with
    | nil=>show(a ++ #[59,32]++x.cps).toList=a.toList++59 :: 32 :: x.cps.toList;simp
    | cons y ys=>show(a ++ #[59,32]++x.cps).toList++59 :: 32 :: jnP ((y :: ys).map sg)=a.toList++59 :: 32 :: (x.cps.toList++59 :: 32 :: jnP ((y :: ys).map sg));simp
  exact key xs a.cps
theorem Gj(q:Rat):59∉sg (rtx q):=by
 have tn:∀ n:Int,59∉sg (tx n):=fun n h=>by have:=aA n 59 h;omega
 unfold rtx
 split
 ·exact tn _
 ·rw[v8,v8]
  intro h
  rcases Pq.mp h with h|h
  ·rcases Pq.mp h with h|h
   ·exact tn _ h
   ·exact absurd h (by decide +kernel)
  ·exact tn _ h
theorem Bk{w:Str}(h:J7 w=true):59∉sg w:=by
 unfold J7 at h
 rw[Qg,Qg,decide_eq_true_eq,decide_eq_true_eq,decide_eq_true_eq]at h
 rcases h with(h|h)|h<;>rw[h]<;>decide +kernel
theorem Gz{x:Str × Rat}(h:J7 x.1=true):59∉sg (ptx x):=by
 unfold ptx
 rw[v8,v8]
 intro m
 rcases Pq.mp m with m|m
 ·rcases Pq.mp m with m|m
  ·exact Bk h m
  ·exact absurd m (by decide +kernel)
 ·exact Gj _ m
theorem BK{x:Str × Rat}(hw:J7 x.1=true)(hm:K2 x.1 x.2=true)(hq:Gr x.2):rdP (sg (ptx x))=some x:=by
 have b1:sg (Str.ofString " ")=[32]:=by decide +kernel
 have e:sg (ptx x)=sg x.1++32 :: sg (rtx x.2):=by unfold ptx;rw[v8,v8,b1];simp
 have h1:=xj (c:=32) (a:=sg x.1) (b:=sg (rtx x.2)) (ju hw)
 have c1:A1 32 (sg (ptx x))=(sg x.1,true,sg (rtx x.2)):=by
  unfold A1
  rw[e,h1.1,h1.2]
  simp
 unfold rdP
 rw[c1]
 show(match rdR (sg (rtx x.2))with|some q=>if K2 ⟨(sg x.1).toArray⟩ q then some (⟨(sg x.1).toArray⟩,q)else none|none=>none)=some x
 rw[pG hq.1 hq.2]
 have e2:(⟨(sg x.1).toArray⟩:Str)=x.1:=rfl
 show(if K2 ⟨(sg x.1).toArray⟩ x.2 then some (⟨(sg x.1).toArray⟩,x.2)else none)=some x
 rw[e2,if_pos hm]
theorem og{bs:List (Str × Rat)}(hp:∀ x∈bs,J7 x.1=true∧K2 x.1 x.2=true∧Gr x.2)(hl:bs.length≤12):rdB 12 (btx bs)=some bs:=by
 unfold rdB btx
 cases bs with
 | nil=>rw[if_pos rfl,if_pos rfl]
 | cons x r =>
  have e0:(if x :: r=[]then Str.ofString "none" else Txt.join (Str.ofString "; ") ((x :: r).map ptx))=Txt.join (Str.ofString "; ") ((x :: r).map ptx):=if_neg (by simp)
  rw[e0]
  have sp:Str.ofString "; " = ⟨#[59,32]⟩:=by decide +kernel
  have ej:=Hy (r.map ptx) (ptx x)
  have es:Txt.split (Txt.join (Str.ofString "; ") ((x :: r).map ptx)) (Str.ofString "; ")=(x :: r).map ptx:=by
   rw[sp,mr (y:=⟨#[59,32]⟩) (by decide) (by decide +kernel) (Qi _)]
   show(E7 [59,32] _ (sg (Txt.join ⟨#[59,32]⟩ ((x :: r).map ptx))) []).map mkS=_
   rw[← sp,show(x :: r).map ptx=ptx x :: r.map ptx from rfl,ej,eT _ _ (by simp) (fun w hw=>by
    obtain⟨s,hs,rfl⟩:=Qv.mp hw
    obtain⟨y,hy,rfl⟩:=Qv.mp (show s∈(x :: r).map ptx from hs)
    exact Gz (hp y hy).1) (by rw[← ej,u6];exact Qi _),Qb]
   conv=>rhs;rw[← Sb (ptx x :: r.map ptx)]
   exact Qp fun s _=>rfl
  have nn:¬ Txt.join (Str.ofString "; ") ((x :: r).map ptx)=Str.ofString "none" := fun z=>by
   have h0:32∈sg (Txt.join (Str.ofString "; ") ((x :: r).map ptx)):=by
    rw[show(x :: r).map ptx=ptx x :: r.map ptx from rfl,ej]
    have hx:32∈sg (ptx x):=by
     unfold ptx
     rw[v8,v8]
     exact Qy _ (Pg _ (by decide +kernel))
    cases r with
    | nil=>exact hx
    | cons y s=>exact Qy _ hx
   rw[z]at h0
   exact absurd h0 (by decide +kernel)
  rw[if_neg nn,es,OU,if_neg (by omega)]
  refine N4.mpr ?_
  rw[Qb]
  exact Qp fun y hy=>BK (hp y hy).1 (hp y hy).2.1 (hp y hy).2.2
def br(x:Str × Str × D):Prop:=x.2.1.length≤100000∧((x.1=Str.ofString "word" ∧ J7 x.2.1=true∧x.2.2 = .str x.2.1)∨(x.1=Str.ofString "number" ∧ ∃ q,rdR (sg x.2.1)=some q∧x.2.2=e8 q)∨(x.1=Str.ofString "part" ∧ ∃ k:Nat,rdR (sg x.2.1)=some (k:Rat)∧x.2.2 = .int (k:Int))∨(x.1=Str.ofString "plane" ∧ ((x.2.1=Str.ofString "far" ∧ x.2.2 = .non)∨(x.2.1≠Str.ofString "far" ∧ ∃ q,rdR (sg x.2.1)=some q∧x.2.2=e8 q))))
structure O1(s w:Str)(xs:List (Str × Str × D)):Prop where
 sp:Txt.split s (Str.ofString " ")=w :: xs.map (·.2.1)
 len:s.length≤100000
 rows:p5 w E8=some (.tup ((xs.map (·.1)).map D.str))
 few:xs.length≤2
 ok:∀ x∈xs,br x
theorem kn{s w:Str}{xs:List (Str × Str × D)}(hs:sg s=jnW (sg w :: xs.map fun x=>sg x.2.1))(hw:32∉sg w)(hx:∀ x∈xs,32∉sg x.2.1∧br x)(hl:s.length≤100000)(hr:p5 w E8=some (.tup ((xs.map (·.1)).map D.str)))(hf:xs.length≤2):O1 s w xs :=
 ⟨S8 (ws:=w :: xs.map (·.2.1)) (by rw[hs,Po,Qb];rfl) (by simp) (fun v hv=>by
  rcases Pb.mp hv with rfl|hv
  ·exact hw
  ·obtain⟨x,hm,rfl⟩:=Qv.mp hv;exact(hx x hm).1),hl,hr,hf,fun x hm=>(hx x hm).2⟩
theorem Gm{p w t f:Str}{v:D}(hp:sg p=sg w++[32])(hw:32∉sg w)(hx:32∉sg t∧br (f,t,v))(hl:p.length+t.length≤100000)(hr:p5 w E8=some (.tup [.str f])):O1 (p++t) w [(f,t,v)] :=
 kn (by rw[v8,hp];show _=sg w++32 :: sg t;simp) hw (fun x hm=>by rw[PB.mp hm];exact hx) (by rw[i9];exact hl) hr (by show 1≤2;decide)
theorem JK{p w a b f g:Str}{v z:D}(hp:sg p=sg w++[32])(hw:32∉sg w)(hx:32∉sg a∧br (f,a,v))(hy:32∉sg b∧br (g,b,z))(hl:p.length+a.length+1+b.length≤100000)(hr:p5 w E8=some (.tup [.str f,.str g])):O1 (p++a++Str.ofString " " ++ b) w [(f,a,v),(g,b,z)] :=
 kn (by
  have b1:sg (Str.ofString " ")=[32]:=by decide +kernel
  rw[v8,v8,v8,hp,b1];show _=sg w++32 :: (sg a++32 :: sg b);simp) hw (fun x hm=>by
  simp only[Pb,Pj,or_false]at hm
  rcases hm with rfl|rfl
  ·exact hx
  ·exact hy) (by rw[i9,i9,i9,show(Str.ofString " ").length=1 by decide +kernel];exact hl) hr (Pe 2)
noncomputable def yy(q:Rat):Str × Str × D:=(Str.ofString "number",rtx q,e8 q)
theorem fM{q:Rat}(h:Gr q):32∉sg (rtx q)∧br (Str.ofString "number",rtx q,e8 q):=⟨bS q,by have:=N0 h;show(rtx q).length≤_;omega,.inr (.inl ⟨rfl,q,pG h.1 h.2,rfl⟩)⟩
theorem FO{w:Str}(h:J7 w=true):32∉sg w∧br (Str.ofString "word",w,.str w):=⟨ju h,by have:=F0 h;show w.length≤_;omega,.inl ⟨rfl,h,rfl⟩⟩
noncomputable def otx:Option Rat→Str
 | none=>Str.ofString "far"
 | some q=>rtx q
theorem Gk(q:Rat):∀ c∈sg (rtx q),c<60:=by
 have tn:∀(n:Int) c,c∈sg (tx n)→c<60:=fun n c h=>by have:=aA n c h;omega
 unfold rtx
 split
 ·exact tn _
 ·rw[v8,v8]
  intro c h
  rcases Pq.mp h with h|h
  ·rcases Pq.mp h with h|h
   ·exact tn _ c h
   ·have e:sg (Str.ofString "/")=[47]:=by decide +kernel
    rw[e,PB]at h;omega
  ·exact tn _ c h
theorem BB(q:Rat):rtx q≠Str.ofString "far" := fun e=>by
 have:=Gk q 102 (by rw[e];decide +kernel)
 omega
theorem JP{o:Option Rat}(h:∀ q,o=some q→Gr q):32∉sg (otx o)∧br (Str.ofString "plane",otx o,af o):=by
 cases o with
 | none=>exact⟨by decide +kernel,by decide +kernel,.inr (.inr (.inr ⟨rfl,.inl ⟨rfl,rfl⟩⟩))⟩
 | some q =>
  have g:=h q rfl
  exact⟨bS q,by have:=N0 g;show(rtx q).length≤_;omega,.inr (.inr (.inr ⟨rfl,.inr ⟨BB q,q,pG g.1 g.2,rfl⟩⟩))⟩
theorem sW{o:Option Rat}(h:∀ q,o=some q→Gr q):(otx o).length≤603:=by
 cases o with
 | none=>decide +kernel
 | some q=>exact N0 (h q rfl)
theorem pD:p5 (Str.ofString "table") E8=some (.tup []):=by kernel_rfl
theorem pE:p5 (Str.ofString "image") E8=some (.tup [.str "plane"]):=by kernel_rfl
theorem xQ:p5 (Str.ofString "ray") E8=some (.tup [.str "number",.str "number"]):=by kernel_rfl
theorem km:p5 (Str.ofString "glasses") E8=some (.tup []):=by kernel_rfl
theorem BD{w:Str}{q:Rat}(hw:J7 w=true)(h:Gr q):O1 (Str.ofString "put " ++ w++Str.ofString " " ++ rtx q) (Str.ofString "put") [(Str.ofString "word",w,.str w),yy q] :=
 JK (by decide +kernel) (by decide +kernel) (FO hw) (fM h) (by have:=N0 h;have:=F0 hw;rw[show(Str.ofString "put ").length=4 by decide +kernel];omega) mL
theorem xS{q:Rat}(h:Gr q):O1 (Str.ofString "near " ++ rtx q) (Str.ofString "near") [yy q] :=
 Gm (by decide +kernel) (by decide +kernel) (fM h) (by have:=N0 h;rw[show(Str.ofString "near ").length=5 by decide +kernel];omega) iW
theorem BF{q:Rat}(h:Gr q):O1 (Str.ofString "far " ++ rtx q) (Str.ofString "far") [yy q] :=
 Gm (by decide +kernel) (by decide +kernel) (fM h) (by have:=N0 h;rw[show(Str.ofString "far ").length=4 by decide +kernel];omega) mM
theorem BE{o:Option Rat}(h:∀ q,o=some q→Gr q):O1 (Str.ofString "image " ++ otx o) (Str.ofString "image") [(Str.ofString "plane",otx o,af o)] :=
 Gm (by decide +kernel) (by decide +kernel) (JP h) (by have:=sW h;rw[show(Str.ofString "image ").length=6 by decide +kernel];omega) pE
theorem BC{y u:Rat}(h:Gr y)(g:Gr u):O1 (Str.ofString "ray " ++ rtx y++Str.ofString " " ++ rtx u) (Str.ofString "ray") [yy y,yy u] :=
 JK (by decide +kernel) (by decide +kernel) (fM h) (fM g) (by have:=N0 h;have:=N0 g;rw[show(Str.ofString "ray ").length=4 by decide +kernel];omega) xQ
theorem uE:O1 (Str.ofString "table") (Str.ofString "table") []:=kn (by rfl) (by decide +kernel) (fun _ h=>nomatch h) (by decide +kernel) pD (PD _)
theorem mO:O1 (Str.ofString "glasses") (Str.ofString "glasses") []:=kn (by rfl) (by decide +kernel) (fun _ h=>nomatch h) (by decide +kernel) km (PD _)
structure ur(x:Str × Rat):Prop where
 kind:(x.1 = "gap" ∧ 0≤x.2)∨x.1 = "glass" ∨ (x.1 = "stop" ∧ 0<x.2)
 sz:RM.sz x.2≤1000
 gr:Gr x.2
theorem ur.b{x:Str × Rat}(h:ur x):W0 x:=⟨h.kind,by have:=h.sz;omega⟩
theorem V9.c{x:Str × Rat}(h:V9 x):ur x:=⟨h.kind,by have:=h.sz;omega,fT (by have:=h.sz;omega)⟩
structure BnC(bs:List (Str × Rat)):Prop where
 l:bs.length≤12
 p:∀ x∈bs,ur x
 s:G7 bs≤1465
theorem BnC.take{bs:List (Str × Rat)}(h:BnC bs)(i:Nat):BnC (bs.take i):=by
 refine⟨by rw[PC];have:=h.l;omega,fun x hx=>h.p x (QS hx),?_⟩
 have e:=U3 (bs.drop i) (bs.take i)
 rw[RO]at e
 have:=h.s
 omega
theorem BnC.ok{bs:List (Str × Rat)}(hl:bs.length≤12)(h:∀ x∈bs,V9 x):BnC bs:=⟨hl,fun x hx=>(h x hx).c,by have:=xp fun x hx=>(h x hx).sz;omega⟩
theorem yT:sz ((3*10 ^ 299:Int):Rat)≤1000:=xo (by decide) (by decide +kernel)
theorem gr3:Gr ((3*10 ^ 299:Int):Rat):=by
 refine⟨?_,?_⟩
 ·rw[RL];decide +kernel
 ·rw[RN];decide +kernel
theorem BnC.great{bs:List (Str × Rat)}(h:∀ x∈bs,V9 x):BnC (bs.take 11++[(Str.ofString "glass",((3*10 ^ 299:Int):Rat))]):=by
 have hl:(bs.take 11).length≤11:=Rc _ _
 have ht:∀ x∈bs.take 11,V9 x:=fun x hx=>h x (QS hx)
 refine⟨by rw[Pl];show _+1≤_;omega,fun x hx=>?_,?_⟩
 ·rcases Pq.mp hx with hx|hx
  ·exact(ht x hx).c
  ·rw[PB.mp hx];exact⟨.inr (.inl rfl),yT,gr3⟩
 ·have:=xp fun x hx=>(ht x hx).sz
  have g:=yT
  rw[U3]
  show _+(sz ((3*10 ^ 299:Int):Rat)+1+0)≤_
  omega
theorem BnC.tab{bs:List (Str × Rat)}(h:BnC bs):∃ D,Cb4 D 1480 (i3 bs (1,0)).1 (i3 bs (0,1)).1 (i3 bs (1,0)).2 (i3 bs (0,1)).2:=((zW bs CD.one).mono (by have:=h.s;omega)).cb
theorem Cb.mulq{D k m:Nat}{x q:Rat}(h:Cb D k x)(hq:RM.sz q≤m):Cb (D*q.den) (k+m) (x*q):=by
 obtain⟨X,a,b⟩:=h.ex
 refine⟨X*q.num,?_,?_⟩
 ·have e:=dP q
  rw[Ra,← a,← e,QZ]
  grind
 ·rw[PR,QX];exact QB b (Q3 q hq)
theorem Cb.up{D k m e:Nat}{x:Rat}(h:Cb D k x)(he:e<2 ^ m)(h0:0<e):Cb (D*e) (k+m) x:=by
 obtain⟨X,a,b⟩:=h.ex
 refine⟨X*(e:Int),?_,?_⟩
 ·rw[Ra,← a,QZ,Qo]
  grind
 ·rw[PR,QX,OZ];exact QB b he
theorem Kn{D:Nat}{a b c d:Rat}(x:Cb4 D 1480 a b c d){o:Option Rat}(ho:∀ q,o=some q→sz q≤41):(∀ r,imP a b c d o=some r→sz r≤1700)∧∀ r,shP c d o=some r→sz r≤1700:=by
 obtain⟨nz,lt,xa,xb,xc,xd⟩:=x
 have ax:∀{E k:Nat} {y u:Rat},Cb E k y→Cb E k u→0<k→k≤1700→E≠0→∀ r,axO y u=some r→sz r≤1700:=fun{E k y u} h1 h2 hk hk2 h0 r hr=>by
  unfold axO at hr
  split at hr
  ·cases hr
  ·rename_i hu
   cases hr
   have:=h1.div h2 hk h0 hu
   rw[RM.E1];omega
 cases o with
 | none =>
  refine⟨fun r hr=>?_,fun r hr=>by cases hr⟩
  have e:imP a b c d none=axO (a*1+b*0) (c*1+d*0):=rfl
  rw[e,show a*1+b*0=a by grind,show c*1+d*0=c by grind]at hr
  exact ax xa xc (by decide) (by decide) nz r hr
 | some q =>
  have hq:=ho q rfl
  have dp:=q.den_pos
  have dl:=Q9 q hq
  have nz2:D*q.den≠0:=fun z=>by
   rcases Nat.mul_eq_zero.mp z with z|z
   ·exact nz z
   ·omega
  have y1:=(xa.mulq hq).add (xb.up dl dp)
  have u1:=(xc.mulq hq).add (xd.up dl dp)
  refine⟨fun r hr=>?_,fun r hr=>?_⟩
  ·have e:imP a b c d (some q)=axO (a*q+b*1) (c*q+d*1):=rfl
   rw[e,show b*1=b by grind,show d*1=d by grind]at hr
   exact ax y1 u1 (by decide) (by decide) nz2 r hr
  ·have e:shP c d (some q)=if c*q+d=0 then none else some (1 / (c*q+d)):=rfl
   rw[e]at hr
   split at hr
   ·cases hr
   ·rename_i hu
    cases hr
    have ll:D*q.den<2 ^ (1480+41+1):=OV (QB lt dl) (by rw[← QX];exact Pp (by decide) (by decide))
    have o1:=Cb.one ll
    have:=o1.div u1 (by decide) nz2 hu
    omega
theorem yq{os:List (Option Rat)}(h:∀ o∈os,∀ q,o=some q→sz q≤1700):((os.map otx).map (·.length)).sum≤1050*os.length:=by
 induction os with
 | nil=>exact Pe _
 | cons o os ih =>
  have h2:=ih fun y hy=>h y (OW _ hy)
  have h1:(otx o).length≤1050:=by
   cases o with
   | none=>decide +kernel
   | some q=>have:=p8 (h _ Ph q rfl);show(rtx q).length≤_;omega
  simp only[Po,Sj,Pz]at h2 ⊢
  omega
theorem EE{o:Option Rat}(h:∀ q,o=some q→sz q≤1700):(otx o).length≤1050:=by
 cases o with
 | none=>decide +kernel
 | some q=>have:=p8 (h q rfl);show(rtx q).length≤_;omega
noncomputable def ttx(bs:List (Str × Rat)):Str:=Txt.join (Str.ofString " ") [rtx (i3 bs (1,0)).1,rtx (i3 bs (0,1)).1,rtx (i3 bs (1,0)).2,rtx (i3 bs (0,1)).2]
noncomputable def imx(bs:List (Str × Rat))(o:Option Rat):Str:=Txt.join (Str.ofString " ") [otx (imP (i3 bs (1,0)).1 (i3 bs (0,1)).1 (i3 bs (1,0)).2 (i3 bs (0,1)).2 o),otx (shP (i3 bs (1,0)).2 (i3 bs (0,1)).2 o)]
noncomputable def gtx(bs:List (Str × Rat)):Str:=btx (fV (i3 bs (1,0)).1 (i3 bs (0,1)).1 (i3 bs (1,0)).2 (i3 bs (0,1)).2)
def cp(bs:List (Str × Rat))(y u:Rat)(t:Str):Prop:=(∃ i:Nat,p6 bs (y,u) i∧(∀ j,j<i→¬ p6 bs (y,u) j)∧t=Str.ofString "stopped " ++ tx (i:Int))∨((∀ i,¬ p6 bs (y,u) i)∧t=Str.ofString "out " ++ rtx (i3 bs (y,u)).1++Str.ofString " " ++ rtx (i3 bs (y,u)).2)
theorem cp.one{bs:List (Str × Rat)}{y u:Rat}{t t':Str}(h:cp bs y u t)(h':cp bs y u t'):t=t':=by
 rcases h with⟨i,a,b,rfl⟩|⟨a,rfl⟩
 ·rcases h' with⟨j,c,d,rfl⟩|⟨c,rfl⟩
  ·rcases Rr i j with z|z|z
   ·exact absurd a (d i z)
   ·rw[z]
   ·exact absurd c (b j z)
  ·exact absurd a (c i)
 ·rcases h' with⟨j,c,d,rfl⟩|⟨c,rfl⟩
  ·exact absurd c (a j)
  ·rfl
theorem cp.ex(bs:List (Str × Rat))(y u:Rat):∃ t,cp bs y u t:=by
 by_cases h:∃ i,p6 bs (y,u) i
 ·have key:∀ n,(∃ i,i<n∧p6 bs (y,u) i)→∃ i,p6 bs (y,u) i∧∀ j,j<i→¬ p6 bs (y,u) j:=by
   intro n
   induction n with
   | zero=>rintro⟨i,hi,_⟩;omega
   | succ n ih =>
    rintro⟨i,hi,hs⟩
    by_cases hn:∃ i,i<n∧p6 bs (y,u) i
    ·exact ih hn
    ·refine⟨i,hs,fun j hj z=>hn ⟨j,by omega,z⟩⟩
  obtain⟨i,hi⟩:=h
  obtain⟨j,a,b⟩:=key (i+1) ⟨i,Qi i,hi⟩
  exact⟨_,.inl ⟨j,a,b,rfl⟩⟩
 ·exact⟨_,.inr ⟨fun i hi=>h ⟨i,hi⟩,rfl⟩⟩
def ID(bs:List (Str × Rat))(w:Str)(vs:List D)(t:Str):Prop:=(w=Str.ofString "table" ∧ t=ttx bs)∨(w=Str.ofString "image" ∧ ∃ o,vs=[af o]∧(∀ q,o=some q→sz q≤41)∧t=imx bs o)∨(w=Str.ofString "ray" ∧ ∃ y u,vs=[e8 y,e8 u]∧(sz y≤41∧sz u≤41)∧cp bs y u t)∨(w=Str.ofString "glasses" ∧ t=gtx bs)
abbrev dw(f t:Str)(M:Mem)(R:DK)(Y:DXK):Prop:=∃ v,br (f,t,v)∧R v M
def xD:DSp:=fun ds M R Y=>∃(f t:Str),ds=[.str f,.str t]∧dw f t M R Y
theorem qE{f t:Str}{M:Mem}{R:DK}{Y:DXK}:xD [.str f,.str t] M R Y=(dw f t M R Y):=propext ⟨fun z=>by obtain⟨_,_,_,_⟩:=z;walk_at "inj",fun h=>⟨f,t,rfl,h⟩⟩
abbrev X1(s:Str)(M:Mem)(R:DK)(Y:DXK):Prop:=∃ w xs,O1 s w xs∧R (.tup [.str w,.vl (xs.map (·.2.2))]) M
def jY:DSp:=fun ds M R Y=>∃(s:Str),ds=[.str s]∧X1 s M R Y
theorem ir{s:Str}{M:Mem}{R:DK}{Y:DXK}:jY [.str s] M R Y=(X1 s M R Y):=propext ⟨fun z=>by obtain⟨_,_,_⟩:=z;walk_at "inj",fun h=>⟨s,rfl,h⟩⟩
abbrev dq(d:D)(M:Mem)(R:DK)(Y:DXK):Prop:=∃ os:List (Option Rat),d = .tup (os.map af)∧(os.length≤4∧∀ o∈os,∀ q,o=some q→sz q≤1700)∧R (.str (Txt.join (Str.ofString " ") (os.map otx))) M
def sG:DSp:=fun ds M R Y=>∃(d:D),ds=[d]∧dq d M R Y
theorem qD{d:D}{M:Mem}{R:DK}{Y:DXK}:sG [d] M R Y=(dq d M R Y):=propext ⟨fun z=>by obtain⟨_,_,_⟩:=z;walk_at "inj",fun h=>⟨d,rfl,h⟩⟩
abbrev aO(bs:List (Str × Rat))(y u:Rat)(M:Mem)(R:DK)(Y:DXK):Prop:=(BnC bs∧sz y≤41∧sz u≤41)∧∃ t,cp bs y u t∧R (.str t) M
def pq:DSp:=fun ds M R Y=>∃(bs:List (Str × Rat)) (y u:Rat),ds=[.vl (bs.map i0),y3 y u]∧aO bs y u M R Y
theorem lL{bs:List (Str × Rat)}{y u:Rat}{M:Mem}{R:DK}{Y:DXK}:pq [.vl (bs.map i0),y3 y u] M R Y=(aO bs y u M R Y):=propext ⟨fun z=>by obtain⟨_,_,_,_,_⟩:=z;walk_at "inj",fun h=>⟨bs,y,u,rfl,h⟩⟩
abbrev dm(bs:List (Str × Rat))(y u:Rat)(M:Mem)(R:DK)(Y:DXK):Prop:=(BnC bs∧CD 90 y 0 u 0)∧∀ v,V7 bs (y,u) v→R v M
def xC:DSp:=fun ds M R Y=>∃(bs:List (Str × Rat)) (y u:Rat),ds=[.vl (bs.map i0),y3 y u]∧dm bs y u M R Y
theorem qB{bs:List (Str × Rat)}{y u:Rat}{M:Mem}{R:DK}{Y:DXK}:xC [.vl (bs.map i0),y3 y u] M R Y=(dm bs y u M R Y):=propext ⟨fun z=>by obtain⟨_,_,_,_,_⟩:=z;walk_at "inj",fun h=>⟨bs,y,u,rfl,h⟩⟩
abbrev dF(a b c d:Rat)(x:D)(M:Mem)(R:DK)(Y:DXK):Prop:=∃ o:Option Rat,x=af o∧((sz a≤1480∧sz b≤1480∧sz c≤1480∧sz d≤1480)∧∀ q,o=some q→sz q≤41)∧R (.tup [af (imP a b c d o),af (shP c d o)]) M
def sL:DSp:=fun ds M R Y=>∃(a b c d:Rat) (x:D),ds=[B3 a b c d,x]∧dF a b c d x M R Y
theorem qM{a b c d:Rat}{x:D}{M:Mem}{R:DK}{Y:DXK}:sL [B3 a b c d,x] M R Y=(dF a b c d x M R Y):=propext ⟨fun z=>by obtain⟨_,_,_,_,_,_,_⟩:=z;walk_at "inj",fun h=>⟨a,b,c,d,x,rfl,h⟩⟩
abbrev aW(bs:List (Str × Rat))(w:Str)(vs:List D)(M:Mem)(R:DK)(Y:DXK):Prop:=BnC bs∧∃ t,ID bs w vs t∧R (.str t) M
def pB:DSp:=fun ds M R Y=>∃(bs:List (Str × Rat)) (w:Str) (vs:List D),ds=[.vl (bs.map i0),.str w,.vl vs]∧aW bs w vs M R Y
theorem lS{bs:List (Str × Rat)}{w:Str}{vs:List D}{M:Mem}{R:DK}{Y:DXK}:pB [.vl (bs.map i0),.str w,.vl vs] M R Y=(aW bs w vs M R Y):=propext ⟨fun z=>by obtain⟨_,_,_,_,_⟩:=z;walk_at "inj",fun h=>⟨bs,w,vs,rfl,h⟩⟩
abbrev dn(d:Addr)(s:Str)(M:Mem)(R:DK)(Y:DXK):Prop:=∃(w:Str) (xs:List (Str × Str × D)) (h:Hl) (ps:List Hl) (l:Addr),O1 s w xs∧BnC h.2.1∧ps.length≤1000∧E6 M d l h ps∧((∃(c:Cmd) (g:Hl),w=c.word∧xs.map (·.2.2)=c.vals∧c.isC∧chH h c = .ok g∧∀ M',E6 M' d l g (ps++[h])→Oth d l M M'→R (.str (Str.ofString "ok")) M')∨(∃ t,ID h.2.1 w (xs.map (·.2.2)) t∧R (.str t) M))
def sF:DSp:=fun ds M R Y=>∃(d:Addr) (s:Str),ds=[.ref d,.str s]∧dn d s M R Y
theorem qC{d:Addr}{s:Str}{M:Mem}{R:DK}{Y:DXK}:sF [.ref d,.str s] M R Y=(dn d s M R Y):=propext ⟨fun z=>by obtain⟨_,_,_,_⟩:=z;walk_at "inj",fun h=>⟨d,s,rfl,h⟩⟩
abbrev X4(p:Addr)(M:Mem)(R:DK)(Y:DXK):Prop:=B7 M p∧∀ x M',V9 x→A2 p M M'→R (i0 x) M'
def kc:DSp:=fun ds M R Y=>∃(p:Addr),ds=[.ref p,.vl [.str "gap",.str "glass",.str "stop",.str "gap",.str "glass"]]∧X4 p M R Y
theorem iy{p:Addr}{M:Mem}{R:DK}{Y:DXK}:kc [.ref p,.vl [.str "gap",.str "glass",.str "stop",.str "gap",.str "glass"]] M R Y=(X4 p M R Y):=propext ⟨fun z=>by obtain⟨_,_,_⟩:=z;walk_at "inj",fun h=>⟨p,rfl,h⟩⟩
abbrev Q1(p:Addr)(n:Int)(M:Mem)(R:DK)(Y:DXK):Prop:=B7 M p∧(0≤n∧n≤12)∧∀(bs:List (Str × Rat)) M',bs.length≤12→(∀ x∈bs,V9 x)→A2 p M M'→R (.vl (bs.map i0)) M'
def fk:DSp:=fun ds M R Y=>∃(p:Addr) (n:Int),ds=[.ref p,.int n,.vl [.str "gap",.str "glass",.str "stop",.str "gap",.str "glass"]]∧Q1 p n M R Y
theorem ek{p:Addr}{n:Int}{M:Mem}{R:DK}{Y:DXK}:fk [.ref p,.int n,.vl [.str "gap",.str "glass",.str "stop",.str "gap",.str "glass"]] M R Y=(Q1 p n M R Y):=propext ⟨fun z=>by obtain⟨_,_,_,_⟩:=z;walk_at "inj",fun h=>⟨p,n,rfl,h⟩⟩
abbrev aI(d:Addr)(bs:List (Str × Rat))(near far:Rat)(M:Mem)(R:DK)(Y:DXK):Prop:=(BnC bs∧sz near≤41∧sz far≤41)∧∃ l,E6 M d l hl0 []∧∀ M' ps,ps.length≤20→E6 M' d l (near,bs,far) ps→Oth d l M M'→R (.ref d) M'
def pd:DSp:=fun ds M R Y=>∃(d:Addr) (bs:List (Str × Rat)) (near far:Rat),ds=[.ref d,.vl (bs.map i0),.vl [e8 near,e8 far]]∧aI d bs near far M R Y
theorem lF{d:Addr}{bs:List (Str × Rat)}{near far:Rat}{M:Mem}{R:DK}{Y:DXK}:pd [.ref d,.vl (bs.map i0),.vl [e8 near,e8 far]] M R Y=(aI d bs near far M R Y):=propext ⟨fun z=>by obtain⟨_,_,_,_,_,_⟩:=z;walk_at "inj",fun h=>⟨d,bs,near,far,rfl,h⟩⟩
abbrev X2(bs:List (Str × Rat))(y u:Rat)(M:Mem)(R:DK)(Y:DXK):Prop:=(BnC bs∧sz y≤41∧sz u≤41)∧∃ t,cp bs y u t∧R (.str t) M
def jZ:DSp:=fun ds M R Y=>∃(bs:List (Str × Rat)) (y u:Rat),ds=[.vl (bs.map i0),y3 y u]∧X2 bs y u M R Y
theorem iu{bs:List (Str × Rat)}{y u:Rat}{M:Mem}{R:DK}{Y:DXK}:jZ [.vl (bs.map i0),y3 y u] M R Y=(X2 bs y u M R Y):=propext ⟨fun z=>by obtain⟨_,_,_,_,_⟩:=z;walk_at "inj",fun h=>⟨bs,y,u,rfl,h⟩⟩
abbrev X3(x:D)(M:Mem)(R:DK)(Y:DXK):Prop:=∃ o:Option Rat,x=af o∧(∀ q,o=some q→sz q≤1700)∧R (.str (otx o)) M
def kb:DSp:=fun ds M R Y=>∃(x:D),ds=[x]∧X3 x M R Y
theorem ix{x:D}{M:Mem}{R:DK}{Y:DXK}:kb [x] M R Y=(X3 x M R Y):=propext ⟨fun z=>by obtain⟨_,_,_⟩:=z;walk_at "inj",fun h=>⟨x,rfl,h⟩⟩
def gj(bs:List (Str × Rat))(d:D):Prop:=∃(s w t:Str) (xs:List (Str × Str × D)),d = .tup [.str s,.str t]∧O1 s w xs∧ID bs w (xs.map (·.2.2)) t
abbrev aX(bs:List (Str × Rat))(y1 u1 y2 u2 x:Rat)(M:Mem)(R:DK)(Y:DXK):Prop:=(BnC bs∧(sz y1≤41∧sz u1≤41)∧(sz y2≤41∧sz u2≤41)∧sz x≤41)∧∀ ds:List D,ds.length=6→(∀ d∈ds,gj bs d)→R (.vl ds) M
def pC:DSp:=fun ds M R Y=>∃(bs:List (Str × Rat)) (y1 u1 y2 u2 x:Rat),ds=[.vl (bs.map i0),.vl [y3 y1 u1,y3 y2 u2],e8 x]∧aX bs y1 u1 y2 u2 x M R Y
theorem lU{bs:List (Str × Rat)}{y1 u1 y2 u2 x:Rat}{M:Mem}{R:DK}{Y:DXK}:pC [.vl (bs.map i0),.vl [y3 y1 u1,y3 y2 u2],e8 x] M R Y=(aX bs y1 u1 y2 u2 x M R Y):=propext ⟨fun z=>by obtain⟨_,_,_,_,_,_,_,_⟩:=z;walk_at "inj",fun h=>⟨bs,y1,u1,y2,u2,x,rfl,h⟩⟩
end GM
namespace K60
open PySem PySem.Spec L2 DL GM
open RM (sz)
open PyProof.Rows hiding St
local macro_rules|`(tactic| walk_at "sim")=>do
 let f:=fun(b:Bool) (p:String) (s:String)=>((s.splitOn " ").mapM (fun s=>(let i:=Lean.mkIdent (p++s).toName;if b then `(Lean.Parser.Tactic.simpLemma| ↓$i:ident)else `(Lean.Parser.Tactic.simpLemma| $i:ident))):Lean.MacroM _)
 let a := "z_C Ji Jg Je Jf Jd Jc Jb wg Em Eo Jh DT wV DS wB Jk Ec DU wO DM DX wU Jm wC DP wN DQ rR rE wb rF eL En DR wA Ea Ep DW Eb Ee Ed wH wR DN me wz rQ lX rC vZ rB Eh Ek rZ si DJ rJ wu wt lY rY rX rG rO rL rN rM rK wx Ei El wI wJ Jj oF rm rk rq rp rn rA rz wo rP sj qZ qY rg rf rd rj rh cB et iG eu iF cA eo iE er iD cE eD iN eF iM cD eB iL eC iK cC ey iJ eA iH cG eJ iS eK iR cF eG iQ eI iP IP IM IL IK IJ II IH IG IF IE Du Dt Ds Ja IZ IY IX IW IV IU IT IS IQ DH DG DF en el oA vY vX vW vV vU vT vS vR vQ vP vO vN vM DE DD DC DB DA Dz Dy Dx Dw Dv wQ wq wL rV wK wM wD DZ DY DO wa wj rH wm DV rD lW iT DI Ej wy wF wG ma lZ rW mf Jl we wd wc Ef Eg"
 let b := "lV iC qQ vL vK vJ vI qT qS qR qU qX qW qV lU qP lS lR ek vH vG vF qO qN vE qM qL qK vD qJ lQ vC qI qH lP iB iA cz lO iy ix lN qG vB qF iu lM lL lK ir qE lJ lI bw lH lG vA vz qD qC lF qB lE qA iq lD lC vy ip qz cy cx lB qy ik lA ei qx lz lu lr ij aX dI aW aV Q1 kl kj ki dH dG dF dE aU aT dD kg dB X6 aS X5 K6 aR X4 X3 aQ dA ka dz X2 aP fh aO aN X1 dw aM aL X0 aK aJ jW jV dq dn aI dm aH di W9 aG aF jS W8"
 let xs:=((← f true "DL." a)++(← f true "GM." b)++(← f false "GM." b)++(← f false "DL." a)++(← f false "" "DL.Be DL.AY DL.AM DL.AG DL.Bf DL.AZ DL.AN DL.AH DL.Bg DL.Ba DL.AO DL.AI DL.Bh DL.Bb DL.AQ DL.AJ DL.Bi DL.Bc DL.AR DL.AK DL.Bj DL.Bd DL.AS DL.AL DL.As DL.Az DL.Au DL.AA DL.Av DL.AB DL.Aw DL.AD DL.Ax DL.AE DL.Ay DL.AF GM.AU GM.AV GM.AW GM.AX DL.FL DL.FK DL.FJ DL.FI DL.FH DL.FG DL.FF DL.FE DL.FD DL.Ar DL.Aq DL.Ap Nat.reduceAdd Nat.reduceLT Nat.reduceLeDiff Nat.zero_add Int.reduceLT Int.reduceLE Int.reduceEq eq_self decide_true decide_false D.int.injEq D.str.injEq beq_self_eq_true and_self true_and and_true not_true_eq_false not_false_eq_true false_implies true_implies forall_const F4 Po List.map_nil QQ List.nil_append PJ Pz RP PK cX List.getElem?_cons_zero List.getElem?_cons_succ Option.getD_some decide_eq_true_eq decide_eq_false_iff_not Rp Bool.not_eq_false' Bool.and_self Sf SY Bool.xor_false Bool.false_xor Bool.true_xor Bool.not_true Bool.not_false Rm Bool.true_eq_false reduceIte GM.r0 GM.r1 GM.r2 GM.r4 GM.rm1 GM.rm2 GM.g8 GM.Gs GM.Ey GM.JL GM.Gq")).toArray
 `(tactic| try simp only[$xs,*])
local macro_rules|`(tactic| walk_at "fn")=>do
 let i:=fun(s:String)=>Lean.mkIdent s.toName
 let x:=(("f cdv A outer s H E ds M R Y hr h".splitOn " ").map i).toArray
 `(tactic| (refine $(i "j6") $(i "d") $(i "sc") (by walk_at "len") (fun $x*=>?_);have $(i "hu"):ident:=$(i "hr.units")))
local macro_rules|`(tactic| walk_at "len")=>`(tactic| (intro ds M R Y h;repeat(first|exact congrArg Qn h.1|(obtain⟨_,h⟩:=h))))
local macro_rules|`(tactic| walk_at "size")=>`(tactic| first|omega|grind only[RM.bA,RM.bB,RM.eQ,RM.E1,RM.L3,RM.D9,GM.jB])
local macro_rules|`(tactic| walk_at "sc")=>`(tactic| exact⟨rfl,rfl,rfl,by decide +kernel,rfl,by decide +kernel,by decide +kernel⟩)
noncomputable def top(i:Nat):Stmt:=PySem.Challenge.pw_roundglass_k60_desk_leads.main.body.getD i (.Pass ⟨0,0,0,0⟩)
noncomputable abbrev T8:Stmt:=top 161
noncomputable abbrev E3:Stmt:=top 162
noncomputable abbrev oZ:Stmt:=top 100
noncomputable abbrev bN:Stmt:=top 13
noncomputable abbrev Z7:Stmt:=top 12
noncomputable abbrev jP:Stmt:=top 15
noncomputable abbrev oX:Stmt:=top 21
noncomputable abbrev oW:Stmt:=top 18
noncomputable abbrev Z5:Stmt:=top 16
noncomputable abbrev jQ:Stmt:=top 19
noncomputable abbrev F2:Stmt:=top 103
noncomputable abbrev P3:Stmt:=top 32
noncomputable abbrev jO:Stmt:=top 20
noncomputable abbrev xA:Stmt:=top 31
noncomputable abbrev fe:Stmt:=top 33
noncomputable abbrev C2:Stmt:=top 102
noncomputable abbrev C6:Stmt:=top 101
noncomputable abbrev oY:Stmt:=top 24
noncomputable abbrev P2:Stmt:=top 105
noncomputable abbrev F1:Stmt:=top 106
noncomputable abbrev C8:Stmt:=top 107
noncomputable abbrev J8:Stmt:=top 104
noncomputable abbrev L8:Stmt:=top 108
noncomputable abbrev P7:Stmt:=top 152
noncomputable abbrev T9:Stmt:=top 154
noncomputable abbrev bP:Stmt:=top 155
noncomputable abbrev aa:Stmt:=top 153
noncomputable abbrev Z9:Stmt:=top 159
noncomputable abbrev K1:Stmt:=top 164
noncomputable abbrev P8:Stmt:=top 165
noncomputable abbrev P5:Stmt:=top 36
noncomputable abbrev Z4:Stmt:=top 97
noncomputable abbrev jR:Stmt:=top 98
noncomputable abbrev L7:Stmt:=top 41
noncomputable abbrev Z1:Stmt:=top 42
noncomputable abbrev K0:Stmt:=top 160
noncomputable abbrev Z6:Stmt:=top 39
noncomputable abbrev Z8:Stmt:=top 14
noncomputable abbrev bM:Stmt:=top 40
noncomputable abbrev L9:Stmt:=top 120
noncomputable abbrev O7:Stmt:=top 121
noncomputable abbrev O8:Stmt:=top 122
noncomputable abbrev T5:Stmt:=top 123
noncomputable abbrev O9:Stmt:=top 124
noncomputable abbrev P0:Stmt:=top 125
noncomputable abbrev Q0:Stmt:=top 166
noncomputable abbrev U2:Stmt:=top 151
noncomputable abbrev M0:Stmt:=top 156
noncomputable abbrev O5:Stmt:=top 115
noncomputable abbrev P1:Stmt:=top 116
noncomputable abbrev T7:Stmt:=top 117
noncomputable abbrev P4:Stmt:=top 118
noncomputable abbrev L6:Stmt:=top 141
noncomputable abbrev Z0:Stmt:=top 17
noncomputable abbrev O6:Stmt:=top 127
noncomputable abbrev Z3:Stmt:=top 142
noncomputable abbrev J9:Stmt:=top 147
noncomputable abbrev L5:Stmt:=top 133
noncomputable abbrev T3:Stmt:=top 134
noncomputable abbrev Z2:Stmt:=top 135
noncomputable abbrev T6:Stmt:=top 137
noncomputable abbrev bL:Stmt:=top 136
noncomputable abbrev xy:Stmt:=top 138
noncomputable abbrev G5:Stmt:=top 139
noncomputable abbrev bO:Stmt:=top 140
noncomputable abbrev ae:Stmt:=tL (top 148) 1
noncomputable abbrev P6:Stmt:=top 163
noncomputable abbrev G6:Stmt:=tL (top 148) 0
noncomputable abbrev U1:Stmt:=top 157
noncomputable abbrev P9:Stmt:=top 158
noncomputable abbrev U0:Stmt:=top 150
noncomputable abbrev xB:Stmt:=top 167
theorem jJ:e6 ["one"] ["one"] (d7 T8):=by walk_at "sc"
theorem Y9:e6 ["bench"] ["bench"] (d7 E3):=by walk_at "sc"
theorem By:e6 ["parts"] ["parts"] (d7 oZ):=by walk_at "sc"
theorem oS:e6 ["one","other"] ["one","other"] (d7 bN):=by walk_at "sc"
theorem mF:e6 ["thing"] ["thing"] (d7 Z7):=by walk_at "sc"
theorem xv:e6 ["top","bottom","share"] ["top","bottom"] (d7 jP):=by walk_at "sc"
theorem Bw:e6 ["one","other"] ["one","other"] (d7 oX):=by walk_at "sc"
theorem Bv:e6 ["one","other"] ["one","other"] (d7 oW):=by walk_at "sc"
theorem mD:e6 ["one"] ["one"] (d7 Z5):=by walk_at "sc"
theorem xw:e6 ["one","other"] ["one","other"] (d7 jQ):=by walk_at "sc"
theorem aE:e6 ["table","a","b","c","d"] ["table"] (d7 F2):=by walk_at "sc"
theorem gA:e6 ["first","second"] ["first","second"] (d7 P3):=by walk_at "sc"
theorem xu:e6 ["one","other"] ["one","other"] (d7 jO):=by walk_at "sc"
theorem Gb:e6 ["table","ray","a","b","c","d","y","u"] ["table","ray"] (d7 xA):=by walk_at "sc"
theorem uB:e6 ["one","other","a","b","c","d"] ["one","other"] (d7 fe):=by walk_at "sc"
theorem S0:e6 ["table","gap"] ["table","gap"] (d7 C2):=by walk_at "sc"
theorem T0:e6 ["table","gap"] ["table","gap"] (d7 C6):=by walk_at "sc"
theorem Bx:e6 ["one","other"] ["one","other"] (d7 oY):=by walk_at "sc"
theorem gz:e6 ["table","a","b","c","d","ahead"] ["table"] (d7 P2):=by walk_at "sc"
theorem aD:e6 ["table","gaps","ahead","last","core"] ["table"] (d7 F1):=by walk_at "sc"
theorem Y4:e6 ["table","a","b","c","d","first","rest"] ["table"] (d7 C8):=by walk_at "sc"
theorem cO:e6 ["table","a","b","c","d","ahead","last"] ["table"] (d7 J8):=by walk_at "sc"
theorem eZ:e6 ["table","a","b","c","d","bench"] ["table"] (d7 L8):=by walk_at "sc"
theorem gE:e6 ["top","bottom","one","other"] ["top","bottom"] (d7 P7):=by walk_at "sc"
theorem jK:e6 ["one","other"] ["one","other"] (d7 T9):=by walk_at "sc"
theorem oV:e6 ["one","other"] ["one","other"] (d7 bP):=by walk_at "sc"
theorem mI:e6 ["one","other"] ["one","other"] (d7 aa):=by walk_at "sc"
theorem mH:e6 ["part","ray","y","u"] ["part","ray"] (d7 Z9):=by walk_at "sc"
theorem cR:e6 ["bench","ray","k","part","height"] ["bench","ray"] (d7 K1):=by walk_at "sc"
theorem gG:e6 ["one"] ["one"] (d7 P8):=by walk_at "sc"
theorem gC:e6 ["ray","y","u"] ["ray"] (d7 P5):=by walk_at "sc"
theorem mC:e6 ["plane"] ["plane"] (d7 Z4):=by walk_at "sc"
theorem xx:e6 ["table","x","leaving","plane"] ["table","x"] (d7 jR):=by walk_at "sc"
theorem eY:e6 ["part","ray","word","number","y","u"] ["part","ray"] (d7 L7):=by walk_at "sc"
theorem my:e6 ["bench","first","second","part"] ["bench"] (d7 Z1):=by walk_at "sc"
theorem cQ:e6 ["bench","ray","part"] ["bench","ray"] (d7 K0):=by walk_at "sc"
theorem mE:e6 ["word","number"] ["word","number"] (d7 Z6):=by walk_at "sc"
theorem mG:e6 ["thing","top","bottom"] ["thing"] (d7 Z8):=by walk_at "sc"
theorem oR:e6 ["thing","word","number"] ["thing"] (d7 bM):=by walk_at "sc"
theorem fb:e6 ["text"] ["text"] (d7 L9):=by walk_at "sc"
theorem gq:e6 ["text"] ["text"] (d7 O7):=by walk_at "sc"
theorem gu:e6 ["text","top_text","slash","bottom_text","told"] ["text"] (d7 O8):=by walk_at "sc"
theorem jG:e6 ["text","word","blank","number","part"] ["text"] (d7 T5):=by walk_at "sc"
theorem gv:e6 ["text","most","parts"] ["text","most"] (d7 O9):=by walk_at "sc"
theorem gw:e6 ["text"] ["text"] (d7 P0):=by walk_at "sc"
theorem gJ:e6 ["bench","rays","x","first","second","table","found","told_table","plane","seen","row","ray"] ["bench","rays","x"] (d7 Q0):=by walk_at "sc"
theorem jN:e6 ["pool","base","digit","near","stir"] ["pool","base"] (d7 U2):=by walk_at "sc"
theorem fc:e6 ["pool","pick","top"] ["pool"] (d7 M0):=by walk_at "sc"
theorem gn:e6 ["number","unit","rest","pieces","piece"] ["number"] (d7 O5):=by walk_at "sc"
theorem gy:e6 ["one","top","bottom"] ["one"] (d7 P1):=by walk_at "sc"
theorem jI:e6 ["part"] ["part"] (d7 T7):=by walk_at "sc"
theorem gB:e6 ["bench"] ["bench"] (d7 P4):=by walk_at "sc"
theorem eX:e6 ["ratios"] ["ratios"] (d7 L6):=by walk_at "sc"
theorem mw:e6 ["one"] ["one"] (d7 Z0):=by walk_at "sc"
theorem gp:e6 ["bench","ray","entering","number","part"] ["bench","ray"] (d7 O6):=by walk_at "sc"
theorem mB:e6 ["bench","ray","k"] ["bench","ray"] (d7 Z3):=by walk_at "sc"
theorem cP:e6 ["bench","question","values"] ["bench","question","values"] (d7 J9):=by walk_at "sc"
theorem eW:e6 ["text"] ["text"] (d7 L5):=by walk_at "sc"
theorem jF:e6 ["form","text","number"] ["form","text"] (d7 T3):=by walk_at "sc"
theorem mz:e6 ["row","words"] ["row"] (d7 Z2):=by walk_at "sc"
theorem jH:e6 ["word","number"] ["word","number"] (d7 T6):=by walk_at "sc"
theorem oQ:e6 ["bench","k"] ["bench","k"] (d7 bL):=by walk_at "sc"
theorem Ga:e6 ["bench","word","number","part"] ["bench","word","number"] (d7 xy):=by walk_at "sc"
theorem bJ:e6 ["bench","deed","values","k","part","instead"] ["bench","deed","values"] (d7 G5):=by walk_at "sc"
theorem oU:e6 ["hall","deed","values","near","bench","far"] ["hall","deed","values"] (d7 bO):=by walk_at "sc"
theorem mJ:e6 ["self","row","word","values","hall"] ["self","row"] (d7 ae):=by walk_at "sc"
theorem gD:e6 ["desk","bench","mirrors","part"] ["desk","bench","mirrors"] (d7 P6):=by walk_at "sc"
theorem bK:e6 ["self"] ["self"] (d7 G6):=by walk_at "sc"
theorem jM:e6 ["pool","words","word","top","bottom"] ["pool","words"] (d7 U1):=by walk_at "sc"
theorem gH:e6 ["pool","count","words"] ["pool","count","words"] (d7 P9):=by walk_at "sc"
theorem jL:e6 ["cell"] ["cell"] (d7 U0):=by walk_at "sc"
theorem Gd:e6 ["script","cell","pool","bench","desk","rays","asked","row","due"] ["script"] (d7 xB):=by walk_at "sc"
structure Txt(K:OR)(mg:Str→Option Value)(Pm:Params):Prop where
 b_abs:mg "abs" = none
 b_any:mg "any" = none
 b_bool:mg "bool" = none
 b_divmod:mg "divmod" = none
 b_enumerate:mg "enumerate" = none
 b_int:mg "int" = none
 b_isinstance:mg "isinstance" = none
 b_len:mg "len" = none
 b_list:mg "list" = none
 b_max:mg "max" = none
 b_range:mg "range" = none
 b_reversed:mg "reversed" = none
 b_str:mg "str" = none
 b_tuple:mg "tuple" = none
 b_zip:mg "zip" = none
 sub:oq K
 o_Desk:Dq K "Desk"
 n_Desk__hall:NoA K "Desk" "hall"
 n_Desk__past:NoA K "Desk" "past"
 m_Desk:MkD K "Desk"
 dc_ROWS:Dp K Pm mg "ROWS" [("put",(.tup [(.str "word"),(.str "number")])),("set",(.tup [(.str "part"),(.str "number")])),("cut",(.tup [(.str "part")])),("near",(.tup [(.str "number")])),("far",(.tup [(.str "number")])),("back",(.tup [])),("bench",(.tup [])),("hall",(.tup [])),("table",(.tup [])),("image",(.tup [(.str "plane")])),("ray",(.tup [(.str "number"),(.str "number")])),("idle",(.tup [(.str "part")])),("round",(.tup [])),("ever",(.tup [(.str "number"),(.str "number")])),("glasses",(.tup []))]
 c_AXIS_RAY:GlD K mg "AXIS_RAY" (.tup [(.tup [(.int 0),(.int 1)]),(.tup [(.int 1),(.int 1)])])
 c_CHANGES:GlD K mg "CHANGES" (.tup [(.str "put"),(.str "set"),(.str "cut"),(.str "near"),(.str "far")])
 c_FIGURES:GlD K mg "FIGURES" (.str "0123456789")
 c_LEVEL_RAY:GlD K mg "LEVEL_RAY" (.tup [(.tup [(.int 1),(.int 1)]),(.tup [(.int 0),(.int 1)])])
 c_MOST_FIGURES:GlD K mg "MOST_FIGURES" (.int 300)
 c_MOST_PARTS:GlD K mg "MOST_PARTS" (.int 12)
 c_NOUGHT:GlD K mg "NOUGHT" (.tup [(.int 0),(.int 1)])
 c_NO_PARTS:GlD K mg "NO_PARTS" (.str "none")
 c_OF_HALLS:GlD K mg "OF_HALLS" (.tup [(.str "hall"),(.str "round"),(.str "ever")])
 c_ONE:GlD K mg "ONE" (.tup [(.int 1),(.int 1)])
 c_PARTS_APART:GlD K mg "PARTS_APART" (.str "; ")
 c_PART_WORDS:GlD K mg "PART_WORDS" (.tup [(.str "gap"),(.str "glass"),(.str "stop")])
 x_NoNumber:ExD K mg "NoNumber"
 x_NoPart:ExD K mg "NoPart"
 x_NoText:ExD K mg "NoText"
 x_TooMany:ExD K mg "TooMany"
section
variable {P:Program} {w:World} {K:OR} {mg:Str→Option Value} {base:Heap}
theorem kA(T:Txt K mg w.params)(d:Df K mg "_law_text" T8 ["one"]):Fn P w K mg base "_law_text" 1 ["one"] pe:=by
 have sc:=jJ
 walk_at "fn"
 obtain⟨q,rfl,hq,k⟩:=h
 refine⟨_,(d0 (f8 (jtm F9 (jx (a8 0) d3) d3) (d4 (d5 (J2 cn rfl T.b_str B0 (a7 (jx (a8 0) d3) a9)))) d9) (d4 (d5 (i4 u7 (i4 u7 (J2 cn rfl T.b_str B0 (a7 (jx (a8 0) d3) a9)) d8) (J2 cn rfl T.b_str B0 (a7 (jx (a8 0) d3) a9)))))),?_⟩
 walk_at "sim"
 have sl:=B2
 have h1:=p8 hq
 obtain⟨n1,n2⟩:=Kh hq
 refine⟨fun e=>⟨n1,?_⟩,fun e=>⟨n1,?_⟩⟩
 ·have:rtx q=tx q.num:=if_pos (by omega)
  rw[this]at k;exact k
 ·have e2:rtx q=tx q.num++Str.ofString "/" ++ tx (q.den:Int):=if_neg (by omega)
  rw[e2]at k h1
  rw[i9]at h1
  have h2:=h1
  rw[i9]at h2
  exact⟨Pa (show(tx q.num).length+(Str.ofString "/").length≤1000000 by omega) sl,n2,Pa (show(tx q.num++Str.ofString "/").length+(tx (q.den:Int)).length≤1000000 by omega) sl,k⟩
theorem ag(T:Txt K mg w.params)(d:Df K mg "_law_bench_text" E3 ["bench"])(Md:Fn P w K mg base "_law_text" 1 ["one"] pe):Fn P w K mg base "_law_bench_text" 2 ["bench"] xJ:=by
 have sc:=Y9
 walk_at "fn"
 obtain⟨bs,rfl,⟨hl,hp⟩,k⟩:=h
 refine⟨_,(d0 (f8 (jtm F9 (f9 C1 rfl T.b_len u8 (a7 (a8 0) a9)) d3) (d4 (d5 d8)) d9) (d4 (d5 (dU d8 (a7 (K4 [] ["part"] [] rfl (by decide +kernel) rfl (by decide +kernel) (by decide +kernel) rfl G3 G3 (w6 (a8 0)) (fun _ _ _ _ _ _=>(jn 0 (show(["part"]:List Str).Nodup by decide +kernel))) (fun _ _ _ _ _ _=>v6) (fun _ _ _ _ _ _=>(i4 u7 (i4 u7 (jx (a8 0) d3) d8) (jc Md hr (a7 (jx (a8 0) d3) a9))))) a9))))),?_⟩
 walk_at "sim"
 rw[OU]
 have sl:=B2
 have q1:(Str.ofString " ").length=1:=by decide +kernel
 refine⟨fun z=>?_,fun z=>?_⟩
 ·obtain rfl:bs=[]:=List.length_eq_zero_iff.mp (by omega)
  rw[kX]at k;exact k
 ·refine J5 (fun x=>.str (ptx x)) (by omega) (by simp only[u9]) (fun x hx Q hQ=>?_) ?_
  ·have ok:=hp x hx
   have wl:=F0 ok.word
   have rl:=p8 ok.sz
   have px:i0 x=D.tup [D.str x.1,e8 x.2]:=rfl
   rw[px]
   walk_at "sim"
   exact⟨by omega,ok.sz,by rw[i9];omega,hQ⟩
  ·have e:btx bs=Txt.join (Str.ofString "; ") (bs.map ptx):=if_neg (fun e=>z (by rw[e];rfl))
   rw[e]at k
   have su:=iX hp
   exact⟨_,_,bs.map ptx,rfl,rfl,by rw[Qb];rfl,⟨by rw[OU];omega,by decide +kernel⟩,k⟩
theorem Cj(T:Txt K mg w.params)(d:Df K mg "bare" oZ ["parts"]):Fn P w K mg base "bare" 1 ["parts"] bR:=by
 have sc:=By
 walk_at "fn"
 obtain⟨xs,rfl,hl,k⟩:=h
 refine⟨_,(d4 (d5 (yL [] ["part"] [] rfl (by decide +kernel) rfl (by decide +kernel) (by decide +kernel) rfl G3 G3 (w6 (a8 0)) (fun _ _ _ _ _ _=>(jn 0 (show(["part"]:List Str).Nodup by decide +kernel))) (fun _ _ _ _ _ _=>(uS (jtm (Kc hu) (jx (a8 0) d3) (e7 rfl T.c_NOUGHT)))) (fun _ _ _ _ _ _=>(a8 0))))),?_⟩
 walk_at "sim"
 refine kT (fun x=>!decide (x.2=0)) i0 (by omega) (by simp only[u9]) (fun x hx Q N h1 h2=>?_) k
 walk_at "sim"
 exact⟨fun z=>h1 (by simp[z]),fun z=>h2 (by simp[z])⟩
theorem pO(T:Txt K mg w.params)(d:Df K mg "divisor" bN ["one","other"]):Fn P w K mg base "divisor" 1 ["one","other"] W5:=by
 have sc:=oS
 refine j6 d sc (fun ds M R Y h=>?_) (fun f cdv A outer s H E ds M R Y hr h=>?_)
 ·obtain⟨a,b,rfl,_⟩:=h;rfl
 ·obtain⟨a,b,rfl,k⟩:=h
  refine⟨_,(d0 (cf PassesOwn.never (jtm K8 (a8 1) d3) (d4 (dR (i:=0) (j:=1) rfl sc.nd rfl rfl (by decide) rfl rfl (a7 (a8 1) (a7 (i4 cJ (a8 0) (a8 1)) a9))))) (d4 (d5 (a8 0)))),?_⟩
  refine⟨fun m e M'=>M'=M∧∃ u:Nat,e=[some (.int (u:Int)),some (.int (m:Int))]∧PN u m=PN a b,⟨b,rfl,a,rfl,rfl⟩,?_⟩
  rintro v e M' ⟨rfl,u,rfl,hg⟩
  refine⟨_,rfl,_,rfl,_,rfl,?_⟩
  refine Kk (fun h0=>?_) (fun h0=>?_)
  ·have hv:0<v:=by omega
   refine⟨_,rfl,_,rfl,_,rfl,_,_,rfl,rfl,by omega,_,_,rfl,?_⟩
   exact⟨u % v,RR _ hv,rfl,v,rfl,by rw[← RM.nJ u v (by omega)];exact hg⟩
  ·have hv:v=0:=by omega
   subst hv
   rw[Nat.gcd_zero_right]at hg
   subst hg
   exact⟨_,rfl,k⟩
theorem nr(T:Txt K mg w.params)(d:Df K mg "is_whole" Z7 ["thing"]):Fn P w K mg base "is_whole" 1 ["thing"] dh:=by
 have sc:=mF
 walk_at "fn"
 obtain⟨x,rfl,hx,k⟩:=h
 cases x with
 | ref a=>cases hx
 | ty a=>cases hx
 | exc a=>cases hx
 | int i =>
  refine⟨_,(d4 (d5 (K9 (f9 (t9 T.sub) rfl T.b_isinstance e5 (a7 (a8 0) (a7 (p9 rfl T.b_int N2) a9))) (J1 (Q4 (f9 (t9 T.sub) rfl T.b_isinstance e5 (a7 (a8 0) (a7 (p9 rfl T.b_bool R0) a9)))))))),?_⟩
  walk_at "sim"
  exact k
 | bl i =>
  refine⟨_,(d4 (d5 (K9 (f9 (t9 T.sub) rfl T.b_isinstance e5 (a7 (a8 0) (a7 (p9 rfl T.b_int N2) a9))) (J1 (Q4 (f9 (t9 T.sub) rfl T.b_isinstance e5 (a7 (a8 0) (a7 (p9 rfl T.b_bool R0) a9)))))))),?_⟩
  walk_at "sim"
  exact k
 | non =>
  refine⟨_,(d4 (d5 (K9 (f9 (t9 T.sub) rfl T.b_isinstance e5 (a7 (a8 0) (a7 (p9 rfl T.b_int N2) a9))) (J1 (Q4 (f9 (t9 T.sub) rfl T.b_isinstance e5 (a7 (a8 0) (a7 (p9 rfl T.b_bool R0) a9)))))))),?_⟩
  walk_at "sim"
  exact k
 | str i =>
  refine⟨_,(d4 (d5 (K9 (f9 (t9 T.sub) rfl T.b_isinstance e5 (a7 (a8 0) (a7 (p9 rfl T.b_int N2) a9))) (J1 (Q4 (f9 (t9 T.sub) rfl T.b_isinstance e5 (a7 (a8 0) (a7 (p9 rfl T.b_bool R0) a9)))))))),?_⟩
  walk_at "sim"
  exact k
 | tup i =>
  refine⟨_,(d4 (d5 (K9 (f9 (t9 T.sub) rfl T.b_isinstance e5 (a7 (a8 0) (a7 (p9 rfl T.b_int N2) a9))) (J1 (Q4 (f9 (t9 T.sub) rfl T.b_isinstance e5 (a7 (a8 0) (a7 (p9 rfl T.b_bool R0) a9)))))))),?_⟩
  walk_at "sim"
  exact k
 | vl i =>
  refine⟨_,(d4 (d5 (K9 (f9 (t9 T.sub) rfl T.b_isinstance e5 (a7 (a8 0) (a7 (p9 rfl T.b_int N2) a9))) (J1 (Q4 (f9 (t9 T.sub) rfl T.b_isinstance e5 (a7 (a8 0) (a7 (p9 rfl T.b_bool R0) a9)))))))),?_⟩
  walk_at "sim"
  exact k
 | dic =>
  refine⟨_,(d4 (d5 (K9 (f9 (t9 T.sub) rfl T.b_isinstance e5 (a7 (a8 0) (a7 (p9 rfl T.b_int N2) a9))) (J1 (Q4 (f9 (t9 T.sub) rfl T.b_isinstance e5 (a7 (a8 0) (a7 (p9 rfl T.b_bool R0) a9)))))))),?_⟩
  walk_at "sim"
  exact k
theorem yu(T:Txt K mg w.params)(d:Df K mg "ratio" jP ["top","bottom"])(Mc:Fn P w K mg base "is_whole" 1 ["thing"] dh)(Mj:Fn P w K mg base "divisor" 1 ["one","other"] W5):Fn P w K mg base "ratio" 2 ["top","bottom"] Y7:=by
 have sc:=xv
 refine j6 d sc (fun ds M R Y h=>?_) (fun f cdv A outer s H E ds M R Y hr h=>?_)
 ·obtain⟨p,b,rfl,_⟩:=h;rfl
 ·obtain⟨a,b,rfl,hb,hl,k⟩:=h
  refine⟨_,(d0 (f8 (t8 (o8 (i7 (g5 (jc Mc hr (a7 (a8 0) a9)))) (o8 (i7 (g5 (jc Mc hr (a7 (a8 1) a9)))) (o9 (jtm F9 (a8 1) d3))))) (d4 y4) d9) (d0 (jst 2 sc.nd (jc Mj hr (a7 (f9 E9 rfl T.b_abs B5 (a7 (a8 0) a9)) (a7 (f9 E9 rfl T.b_abs B5 (a7 (a8 1) a9)) a9)))) (d0 (f8 (jtm S4 (a8 1) d3) (d4 (jst 2 sc.nd (pZ (a8 2)))) d9) (d4 (d5 (h7 (a7 (i4 bW (a8 0) (a8 2)) (a7 (i4 bW (a8 1) (a8 2)) a9)))))))),?_⟩
  refine⟨_,rfl,_,rfl,rfl,true,rfl,?_⟩
  refine Kl ?_
  refine⟨_,rfl,_,rfl,rfl,true,rfl,?_⟩
  refine Kl ?_
  refine⟨_,rfl,_,rfl,_,rfl,?_⟩
  refine HG (fun h=>absurd h hb) (fun _=>?_)
  refine⟨_,rfl,_,rfl,_,rfl,_,rfl,a.natAbs,b.natAbs,rfl,?_⟩
  have hn:=yX (a:=a) hb
  have hlg:=tO (a:=a) hb hl
  refine⟨_,rfl,_,rfl,_,rfl,?_⟩
  refine HG (fun h1=>?_) (fun h1=>?_)
  ·have c1:∀ i:Int,CFd i (-((PN a.natAbs b.natAbs:Nat):Int)):=fun i=>⟨by omega,by rw[PZ];exact hlg⟩
   refine⟨_,rfl,_,rfl,_,rfl,_,rfl,_,_,rfl,rfl,c1 _,_,rfl,_,rfl,_,_,rfl,rfl,c1 _,sl 2,?_⟩
   exact kI hb (by rw[if_pos h1]) k
  ·have c1:∀ i:Int,CFd i ((PN a.natAbs b.natAbs:Nat):Int):=fun i=>⟨hn,hlg⟩
   refine⟨_,rfl,_,rfl,_,_,rfl,rfl,c1 _,_,rfl,_,rfl,_,_,rfl,rfl,c1 _,sl 2,?_⟩
   exact kI hb (by rw[if_neg h1]) k
theorem Cg(T:Txt K mg w.params)(d:Df K mg "over" oX ["one","other"])(MP:Fn P w K mg base "ratio" 2 ["top","bottom"] Y7):Fn P w K mg base "over" 3 ["one","other"] S9:=by
 have sc:=Bw
 refine j6 d sc (fun ds M R Y h=>?_) (fun f cdv A outer s H E ds M R Y hr h=>?_)
 ·obtain⟨q,r,rfl,_⟩:=h;rfl
 ·obtain⟨q,r,rfl,h0,hz,k⟩:=h
  refine⟨_,(d4 (d5 (jc MP hr (a7 (i4 D2 (jx (a8 0) d3) (jx (a8 1) d3)) (a7 (i4 D2 (jx (a8 0) d3) (jx (a8 1) d3)) a9))))),?_⟩
  refine⟨_,rfl,_,rfl,_,rfl,_,rfl,_,_,rfl,rfl,mND hz,_,rfl,_,rfl,_,rfl,_,rfl,_,_,rfl,rfl,mDN hz,_,_,rfl,Qa (RM.A8 q) (Hk h0),lDN hz,?_⟩
  rw[RM.zt]at k
  exact k
theorem Cf(T:Txt K mg w.params)(d:Df K mg "plus" oW ["one","other"])(MP:Fn P w K mg base "ratio" 2 ["top","bottom"] Y7):Fn P w K mg base "plus" 3 ["one","other"] O4:=by
 have sc:=Bv
 refine j6 d sc (fun ds M R Y h=>?_) (fun f cdv A outer s H E ds M R Y hr h=>?_)
 ·obtain⟨q,r,rfl,_⟩:=h;rfl
 ·obtain⟨q,r,rfl,hz,k⟩:=h
  refine⟨_,(d4 (d5 (jc MP hr (a7 (i4 U9 (i4 D2 (jx (a8 0) d3) (jx (a8 1) d3)) (i4 D2 (jx (a8 1) d3) (jx (a8 0) d3))) (a7 (i4 D2 (jx (a8 0) d3) (jx (a8 1) d3)) a9))))),?_⟩
  refine⟨_,rfl,_,rfl,_,rfl,_,rfl,_,_,rfl,rfl,mND hz,_,rfl,_,rfl,_,rfl,_,rfl,_,_,rfl,rfl,mND (by omega),_,rfl,_,rfl,_,rfl,_,rfl,_,rfl,_,_,rfl,rfl,mDD hz,_,_,rfl,Qa (RM.A8 q) (RM.A8 r),lDD hz,?_⟩
  rw[RM.kZ]at k
  exact k
theorem nk(T:Txt K mg w.params)(d:Df K mg "opposite" Z5 ["one"]):Fn P w K mg base "opposite" 1 ["one"] cH:=by
 have sc:=mD
 refine j6 d sc (fun ds M R Y h=>?_) (fun f cdv A outer s H E ds M R Y hr h=>?_)
 ·obtain⟨q,rfl,_⟩:=h;rfl
 ·obtain⟨q,rfl,k⟩:=h
  refine⟨_,(d4 (d5 (h7 (a7 (pZ (jx (a8 0) d3)) (a7 (jx (a8 0) d3) a9))))),?_⟩
  refine⟨_,rfl,_,rfl,_,rfl,_,rfl,_,rfl,sl 2,?_⟩
  have e:e8 (-q) = .tup [.int (-q.num),.int (q.den:Int)]:=by unfold e8;rw[Rv,Rw]
  rw[e]at k
  exact k
theorem yv(T:Txt K mg w.params)(d:Df K mg "minus" jQ ["one","other"])(Mu:Fn P w K mg base "plus" 3 ["one","other"] O4)(Mf:Fn P w K mg base "opposite" 1 ["one"] cH):Fn P w K mg base "minus" 4 ["one","other"] F7:=by
 have sc:=xw
 refine j6 d sc (fun ds M R Y h=>?_) (fun f cdv A outer s H E ds M R Y hr h=>?_)
 ·obtain⟨q,r,rfl,_⟩:=h;rfl
 ·obtain⟨q,r,rfl,hz,k⟩:=h
  refine⟨_,(d4 (d5 (jc Mu hr (a7 (a8 0) (a7 (jc Mf hr (a7 (a8 1) a9)) a9))))),?_⟩
  refine⟨_,rfl,_,rfl,r,rfl,q,-r,rfl,by rw[RM.E1];exact hz,?_⟩
  rw[Rk]at k
  exact k
theorem bc(T:Txt K mg w.params)(d:Df K mg "around_one_gap" F2 ["table"])(MH:Fn P w K mg base "bare" 1 ["parts"] bR)(Mo:Fn P w K mg base "over" 3 ["one","other"] S9)(Mm:Fn P w K mg base "minus" 4 ["one","other"] F7):Fn P w K mg base "around_one_gap" 5 ["table"] ke:=by
 have sc:=aE
 walk_at "fn"
 obtain⟨a,b,c,d,rfl,⟨h1,h2,h3,h4⟩,k⟩:=h
 refine⟨_,(d0 (j4 (a8 0) (j3 (n:=4) rfl (d6 (jn 1 sc.nd) (d6 (jn 2 sc.nd) (d6 (jn 3 sc.nd) (d6 (jn 4 sc.nd) i5)))))) (d4 (d5 (jc MH hr (a7 (A6 (a7 (h7 (a7 d8 (a7 (jc Mo hr (a7 (jc Mm hr (a7 (e7 rfl T.c_ONE) (a7 (a8 1) a9))) (a7 (a8 2) a9))) a9))) (a7 (h7 (a7 d8 (a7 (a8 2) a9))) (a7 (h7 (a7 d8 (a7 (jc Mo hr (a7 (jc Mm hr (a7 (e7 rfl T.c_ONE) (a7 (a8 4) a9))) (a7 (a8 2) a9))) a9))) a9)))) a9))))),?_⟩
 walk_at "sim"
 exact⟨by walk_at "size",h4,by walk_at "size",by walk_at "size",h4,by walk_at "size",[("glass",(1 - a) / b),("gap",b),("glass",(1 - d) / b)],rfl,(by simp),k⟩
theorem gR(T:Txt K mg w.params)(d:Df K mg "by_columns" P3 ["first","second"]):Fn P w K mg base "by_columns" 1 ["first","second"] W6:=by
 have sc:=gA
 walk_at "fn"
 obtain⟨a,b,c,d,rfl,k⟩:=h
 refine⟨_,(d4 (d5 (h7 (a7 (jx (a8 0) d3) (a7 (jx (a8 1) d3) (a7 (jx (a8 0) d3) (a7 (jx (a8 1) d3) a9))))))),?_⟩
 walk_at "sim"
 exact k
theorem yt(T:Txt K mg w.params)(d:Df K mg "times" jO ["one","other"])(MP:Fn P w K mg base "ratio" 2 ["top","bottom"] Y7):Fn P w K mg base "times" 3 ["one","other"] O3:=by
 have sc:=xu
 refine j6 d sc (fun ds M R Y h=>?_) (fun f cdv A outer s H E ds M R Y hr h=>?_)
 ·obtain⟨q,r,rfl,_⟩:=h;rfl
 ·obtain⟨q,r,rfl,hz,k⟩:=h
  refine⟨_,(d4 (d5 (jc MP hr (a7 (i4 D2 (jx (a8 0) d3) (jx (a8 1) d3)) (a7 (i4 D2 (jx (a8 0) d3) (jx (a8 1) d3)) a9))))),?_⟩
  refine⟨_,rfl,_,rfl,_,rfl,_,rfl,_,_,rfl,rfl,mNN hz,_,rfl,_,rfl,_,rfl,_,rfl,_,_,rfl,rfl,mDD hz,_,_,rfl,Qa (RM.A8 q) (RM.A8 r),lDD hz,?_⟩
  rw[RM.pQ]at k
  exact k
theorem Hf(T:Txt K mg w.params)(d:Df K mg "led" xA ["table","ray"])(Mu:Fn P w K mg base "plus" 3 ["one","other"] O4)(Mw:Fn P w K mg base "times" 3 ["one","other"] O3):Fn P w K mg base "led" 4 ["table","ray"] xF:=by
 have sc:=Gb
 walk_at "fn"
 obtain⟨a,b,c,d,y,u,rfl,h1,h2,k⟩:=h
 refine⟨_,(d0 (j4 (a8 0) (j3 (n:=4) rfl (d6 (jn 2 sc.nd) (d6 (jn 3 sc.nd) (d6 (jn 4 sc.nd) (d6 (jn 5 sc.nd) i5)))))) (d0 (j4 (a8 1) (j3 (n:=2) rfl (d6 (jn 6 sc.nd) (d6 (jn 7 sc.nd) i5)))) (d4 (d5 (h7 (a7 (jc Mu hr (a7 (jc Mw hr (a7 (a8 2) (a7 (a8 6) a9))) (a7 (jc Mw hr (a7 (a8 3) (a7 (a8 7) a9))) a9))) (a7 (jc Mu hr (a7 (jc Mw hr (a7 (a8 4) (a7 (a8 6) a9))) (a7 (jc Mw hr (a7 (a8 5) (a7 (a8 7) a9))) a9))) a9))))))),?_⟩
 walk_at "sim"
 exact⟨by walk_at "size",by walk_at "size",by walk_at "size",by walk_at "size",by walk_at "size",by walk_at "size",k⟩
theorem uM(T:Txt K mg w.params)(d:Df K mg "behind" fe ["one","other"])(Mx:Fn P w K mg base "by_columns" 1 ["first","second"] W6)(Nl:Fn P w K mg base "led" 4 ["table","ray"] xF):Fn P w K mg base "behind" 5 ["one","other"] mK:=by
 have sc:=uB
 walk_at "fn"
 obtain⟨a,b,c,d,a',b',c',d',rfl,⟨h1,h2,h3,h4⟩,k⟩:=h
 refine⟨_,(d0 (j4 (a8 0) (j3 (n:=4) rfl (d6 (jn 2 sc.nd) (d6 (jn 3 sc.nd) (d6 (jn 4 sc.nd) (d6 (jn 5 sc.nd) i5)))))) (d4 (d5 (jc Mx hr (a7 (jc Nl hr (a7 (a8 1) (a7 (h7 (a7 (a8 2) (a7 (a8 4) a9))) a9))) (a7 (jc Nl hr (a7 (a8 1) (a7 (h7 (a7 (a8 3) (a7 (a8 5) a9))) a9))) a9)))))),?_⟩
 walk_at "sim"
 exact⟨by omega,by omega,by omega,by omega,k⟩
theorem S2(T:Txt K mg w.params)(d:Df K mg "without_gap_behind" C2 ["table","gap"])(MD:Fn P w K mg base "behind" 5 ["one","other"] mK)(Mf:Fn P w K mg base "opposite" 1 ["one"] cH):Fn P w K mg base "without_gap_behind" 6 ["table","gap"] kf:=by
 have sc:=S0
 walk_at "fn"
 obtain⟨a,b,c,d,g,rfl,⟨h1,h2,h3,h4,h5⟩,k⟩:=h
 refine⟨_,(d4 (d5 (jc MD hr (a7 (a8 0) (a7 (h7 (a7 (e7 rfl T.c_ONE) (a7 (jc Mf hr (a7 (a8 1) a9)) (a7 (e7 rfl T.c_NOUGHT) (a7 (e7 rfl T.c_ONE) a9))))) a9))))),?_⟩
 walk_at "sim"
 have z1:=RM.L3
 have z0:=RM.D9
 rw[RM.E1,show 1*a + -g*c=a - g*c by grind,show 1*b + -g*d=b - g*d by grind,show 0*a+1*c=c by grind,show 0*b+1*d=d by grind]
 exact⟨⟨by omega,by omega,by omega,by omega⟩,k⟩
theorem U8(T:Txt K mg w.params)(d:Df K mg "without_gap_ahead" C6 ["table","gap"])(MD:Fn P w K mg base "behind" 5 ["one","other"] mK)(Mf:Fn P w K mg base "opposite" 1 ["one"] cH):Fn P w K mg base "without_gap_ahead" 6 ["table","gap"] pA:=by
 have sc:=T0
 walk_at "fn"
 obtain⟨a,b,c,d,g,rfl,⟨h1,h2,h3,h4,h5⟩,k⟩:=h
 refine⟨_,(d4 (d5 (jc MD hr (a7 (h7 (a7 (e7 rfl T.c_ONE) (a7 (jc Mf hr (a7 (a8 1) a9)) (a7 (e7 rfl T.c_NOUGHT) (a7 (e7 rfl T.c_ONE) a9))))) (a7 (a8 0) a9))))),?_⟩
 walk_at "sim"
 have z1:=RM.L3
 have z0:=RM.D9
 rw[RM.E1,show a*1+b*0=a by grind,show a * -g+b*1=b - a*g by grind,show c*1+d*0=c by grind,show c * -g+d*1=d - c*g by grind]
 exact⟨⟨by omega,by omega,by omega,by omega⟩,k⟩
theorem Ci(T:Txt K mg w.params)(d:Df K mg "less" oY ["one","other"]):Fn P w K mg base "less" 1 ["one","other"] bG:=by
 have sc:=Bx
 refine j6 d sc (fun ds M R Y h=>?_) (fun f cdv A outer s H E ds M R Y hr h=>?_)
 ·obtain⟨q,r,rfl,_⟩:=h;rfl
 ·obtain⟨q,r,rfl,hz,k⟩:=h
  refine⟨_,(d4 (d5 (jm S4 (i4 D2 (jx (a8 0) d3) (jx (a8 1) d3)) (i4 D2 (jx (a8 1) d3) (jx (a8 0) d3))))),?_⟩
  refine⟨_,rfl,_,rfl,_,rfl,_,rfl,_,_,rfl,rfl,mND hz,_,rfl,_,rfl,_,rfl,_,rfl,_,_,rfl,rfl,mND (by omega),_,rfl,?_⟩
  rw[← RM.Kg]at k
  exact k
theorem gQ(T:Txt K mg w.params)(d:Df K mg "outer_gaps" P2 ["table"])(Mz:Fn P w K mg base "less" 1 ["one","other"] bG)(Mu:Fn P w K mg base "plus" 3 ["one","other"] O4)(Mw:Fn P w K mg base "times" 3 ["one","other"] O3)(Mm:Fn P w K mg base "minus" 4 ["one","other"] F7)(Mo:Fn P w K mg base "over" 3 ["one","other"] S9):Fn P w K mg base "outer_gaps" 5 ["table"] pz:=by
 have sc:=gz
 walk_at "fn"
 obtain⟨a,b,c,d,rfl,⟨h1,h2,h3,h4⟩,k⟩:=h
 refine⟨_,(d0 (j4 (a8 0) (j3 (n:=4) rfl (d6 (jn 1 sc.nd) (d6 (jn 2 sc.nd) (d6 (jn 3 sc.nd) (d6 (jn 4 sc.nd) i5)))))) (d0 (f8 (g5 (jc Mz hr (a7 (e7 rfl T.c_NOUGHT) (a7 (a8 2) a9)))) (d4 (d5 (h7 (a7 (e7 rfl T.c_NOUGHT) (a7 (e7 rfl T.c_NOUGHT) a9))))) d9) (d0 (f8 (g5 (jc Mz hr (a7 (a8 1) (a7 (e7 rfl T.c_NOUGHT) a9)))) (d4 (d5 (h7 (a7 (jc Mo hr (a7 (jc Mm hr (a7 (a8 2) (a7 (e7 rfl T.c_ONE) a9))) (a7 (a8 1) a9))) (a7 (e7 rfl T.c_NOUGHT) a9))))) d9) (d0 (f8 (g5 (jc Mz hr (a7 (a8 4) (a7 (e7 rfl T.c_NOUGHT) a9)))) (d4 (d5 (h7 (a7 (e7 rfl T.c_NOUGHT) (a7 (jc Mo hr (a7 (jc Mm hr (a7 (a8 2) (a7 (e7 rfl T.c_ONE) a9))) (a7 (a8 4) a9))) a9))))) d9) (d0 (f8 (g5 (jc Mz hr (a7 (e7 rfl T.c_NOUGHT) (a7 (a8 3) a9)))) (d0 (jst 5 sc.nd (jc Mo hr (a7 (jc Mu hr (a7 (a8 4) (a7 (e7 rfl T.c_ONE) a9))) (a7 (a8 3) a9)))) (d4 (d5 (h7 (a7 (a8 5) (a7 (jc Mu hr (a7 (jc Mm hr (a7 (e7 rfl T.c_ONE) (a7 (a8 2) a9))) (a7 (jc Mw hr (a7 (a8 5) (a7 (a8 1) a9))) a9))) a9)))))) d9) (d4 (d5 z6))))))),?_⟩
 walk_at "sim"
 have z1:=RM.L3
 have z0:=RM.D9
 unfold t6 at k
 refine⟨by omega,fun q1=>?_,fun q1=>⟨by omega,fun q2=>⟨by omega,by grind,by walk_at "size",?_⟩,fun q2=>⟨by omega,fun q3=>⟨by omega,by grind,by walk_at "size",?_⟩,fun q3=>⟨by omega,fun q4=>?_,fun q4=>?_⟩⟩⟩⟩
 ·rw[if_pos q1]at k;exact k
 ·rw[if_neg q1,if_pos q2]at k;exact k
 ·rw[if_neg q1,if_neg q2,if_pos q3]at k;exact k
 ·rw[if_neg q1,if_neg q2,if_neg q3,if_pos q4]at k
  have f1:=RM.eR (d+1) c (by grind)
  have f2:=RM.bB d 1
  have f3:=RM.eQ 1 b
  have f4:=RM.bA ((d+1) / c) a
  exact⟨by omega,by grind,by omega,by omega,by omega,by omega,k⟩
 ·rw[if_neg q1,if_neg q2,if_neg q3,if_neg q4]at k;exact k
theorem ba(T:Txt K mg w.params)(d:Df K mg "by_two_glasses" F1 ["table"])(MH:Fn P w K mg base "bare" 1 ["parts"] bR)(MI:Fn P w K mg base "around_one_gap" 5 ["table"] ke)(Mv:Fn P w K mg base "without_gap_behind" 6 ["table","gap"] kf)(MA:Fn P w K mg base "without_gap_ahead" 6 ["table","gap"] pA)(MV:Fn P w K mg base "outer_gaps" 5 ["table"] pz):Fn P w K mg base "by_two_glasses" 7 ["table"] jT:=by
 have sc:=aD
 walk_at "fn"
 obtain⟨a,b,c,d,rfl,⟨h1,h2,h3,h4,hdet,hsz⟩,k1,k2⟩:=h
 refine⟨_,(d0 (jst 1 sc.nd (jc MV hr (a7 (a8 0) a9))) (d0 (f8 (jtm hV (a8 1) z6) (d4 (d5 z6)) d9) (d0 (j4 (a8 1) (j3 (n:=2) rfl (d6 (jn 2 sc.nd) (d6 (jn 3 sc.nd) i5)))) (d0 (jst 4 sc.nd (jc Mv hr (a7 (jc MA hr (a7 (a8 0) (a7 (a8 2) a9))) (a7 (a8 3) a9)))) (d4 (d5 (i4 EH (L0 (V2 (jc MH hr (a7 (A6 (a7 (h7 (a7 d8 (a7 (a8 2) a9))) a9)) a9))) (V2 (jc MI hr (a7 (a8 4) a9)))) (V2 (jc MH hr (a7 (A6 (a7 (h7 (a7 d8 (a7 (a8 3) a9))) a9)) a9)))))))))),?_⟩
 walk_at "sim"
 refine⟨⟨by omega,by omega,by omega,by omega⟩,?_⟩
 cases e:t6 a b c d with
 | none =>
  unfold GM.yp
  rw[gk (b:=true) rfl]
  walk_at "sim"
  exact k1 e
 | some gh =>
  obtain⟨g,h⟩:=gh
  obtain⟨sg',sh,sb,sd,sa,sm⟩:=hsz g h e
  unfold GM.yp
  rw[gk (b:=false) rfl]
  walk_at "sim"
  refine⟨⟨by omega,by omega,by omega,by omega,by omega⟩,⟨by omega,by omega,by omega,by omega,by omega⟩,?_⟩
  have hp:=(jb hdet e).1
  refine⟨[("gap",g)],rfl,(by simp),fun p hp1=>?_⟩
  refine aw hp1 ?_
  walk_at "sim"
  refine⟨⟨by omega,by omega,by omega,by grind⟩,fun p2 hp2=>?_⟩
  refine aw hp2 ?_
  walk_at "sim"
  have l1:(R8 [((Str.ofString "gap"),g)]).length≤1:=Pa (Px _ _) (by simp)
  have l2:(fu (a - h*c) (b - a*g - h*(d - c*g)) (d - c*g)).length≤3:=Pa (Px _ _) (by simp)
  have l3:(R8 [((Str.ofString "gap"),h)]).length≤1:=Pa (Px _ _) (by simp)
  refine⟨by simp only[OU];exact Pa (Qr l1 l2) (by decide),[("gap",h)],rfl,(by simp),fun p3 hp3=>?_⟩
  refine aw hp3 ?_
  refine⟨_,_,rfl,rfl,by simp only[OU,Pl];exact Pa (Qr (Qr l1 l2) l3) (by decide),fun p4 hp4=>?_⟩
  have:=k2 g h e p4 hp4
  unfold S7 at this
  rw[Pt,Pt]at this
  exact this
theorem Y5(T:Txt K mg w.params)(d:Df K mg "by_three_glasses" C8 ["table"])(Mn:Fn P w K mg base "by_two_glasses" 7 ["table"] jT)(MD:Fn P w K mg base "behind" 5 ["one","other"] mK)(Mo:Fn P w K mg base "over" 3 ["one","other"] S9)(Mm:Fn P w K mg base "minus" 4 ["one","other"] F7)(Mf:Fn P w K mg base "opposite" 1 ["one"] cH)(Mu:Fn P w K mg base "plus" 3 ["one","other"] O4):Fn P w K mg base "by_three_glasses" 8 ["table"] jU:=by
 have sc:=Y4
 walk_at "fn"
 obtain⟨a,b,c,d,rfl,⟨⟨D0,x4⟩,h5⟩,hno,k⟩:=h
 obtain⟨t1,t2,t3,ho,t5⟩:=sy x4 (by decide) h5 hno
 obtain⟨h1,h2,h3,h4⟩:=oa x4 (by decide)
 refine⟨_,(d0 (j4 (a8 0) (j3 (n:=4) rfl (d6 (jn 1 sc.nd) (d6 (jn 2 sc.nd) (d6 (jn 3 sc.nd) (d6 (jn 4 sc.nd) i5)))))) (d0 (jst 5 sc.nd (E5 (jtm (ny hu) (a8 2) (e7 rfl T.c_NOUGHT)) (jc Mo hr (a7 (jc Mm hr (a7 (e7 rfl T.c_ONE) (a7 (a8 3) a9))) (a7 (a8 4) a9))) (jc Mf hr (a7 (jc Mo hr (a7 (jc Mu hr (a7 (e7 rfl T.c_ONE) (a7 (a8 1) a9))) (a7 (a8 2) a9))) a9)))) (d0 (jst 6 sc.nd (jc MD hr (a7 (h7 (a7 (e7 rfl T.c_ONE) (a7 (e7 rfl T.c_NOUGHT) (a7 (a8 5) (a7 (e7 rfl T.c_ONE) a9))))) (a7 (a8 0) a9)))) (d4 (d5 (i4 EH (A6 (a7 (h7 (a7 d8 (a7 (a8 5) a9))) a9)) (V2 (jc Mn hr (a7 (a8 6) a9))))))))),?_⟩
 walk_at "sim"
 have z1:=RM.L3
 have z0:=RM.D9
 have fin:∀(q:Rat) (e:q=j7 a b c d),sz q≤1483→(sz a+sz 1+(sz b+sz q)≤8900∧sz a+sz 0+(sz b+sz 1)≤8900∧sz c+sz 1+(sz d+sz q)≤8900∧sz c+sz 0+(sz d+sz 1)≤8900)∧(sz (a*1+b*q)≤1600∧sz (a*0+b*1)≤1600∧sz (c*1+d*q)≤1600∧sz (c*0+d*1)≤1600∧(a*1+b*q)*(c*0+d*1) - (a*0+b*1)*(c*1+d*q)=1∧∀ g h,t6 (a*1+b*q) (a*0+b*1) (c*1+d*q) (c*0+d*1)=some (g,h)→Fu (a*1+b*q) (a*0+b*1) (c*1+d*q) (c*0+d*1) g h) ∧
   (t6 (a*1+b*q) (a*0+b*1) (c*1+d*q) (c*0+d*1)=none→Dm D.non M fun y M2=>zi (.vl [.tup [.str "glass",e8 q]]) y M2 R)∧∀ g h,t6 (a*1+b*q) (a*0+b*1) (c*1+d*q) (c*0+d*1)=some (g,h)→∀ p,M p=none→Dm (.ref p) (q9 M p (.lst ((S7 g h (a*1+b*q) (a*0+b*1) (c*1+d*q) (c*0+d*1)).map i0))) fun y M2=>zi (.vl [.tup [.str "glass",e8 q]]) y M2 R:=fun q e hq=>by
  rw[show a*1+b*q=a+b*q by grind,show a*0+b*1=b by grind,show c*1+d*q=c+d*q by grind,show c*0+d*1=d by grind,e]
  rw[e]at hq
  have sz1:sz (a+b*j7 a b c d)≤1600∧sz (c+d*j7 a b c d)≤1600:=⟨by omega,by omega⟩
  refine⟨⟨by omega,by omega,by omega,by omega⟩,⟨sz1.1,by omega,sz1.2,by omega,by grind,fun g h z=>?_⟩,fun z=>absurd z ho,fun g h z p hp=>aw hp ⟨_,_,rfl,rfl,?_,fun p2 hp2=>k g h z p2 hp2⟩⟩
  ·obtain⟨m1,m2,m3,m4,m5,m6,_,_⟩:=t5 g h z
   exact⟨by omega,by omega,by omega,by omega,by omega,by omega⟩
  have l1:(R8 [((Str.ofString "gap"),g)]).length≤1:=Pa (Px _ _) (by simp)
  have l3:(R8 [((Str.ofString "gap"),h)]).length≤1:=Pa (Px _ _) (by simp)
  have l2:∀ x y w,(fu x y w).length≤3:=fun x y w=>Pa (Px _ _) (by simp)
  unfold S7
  simp only[OU,Pl]
  exact Pa (Nat.add_le_add_left (Qr (Qr l1 (l2 _ _ _)) l3) _) (show 1+(1+3+1)≤sizeLine by decide)
 refine⟨fun hb=>?_,fun hb=>?_⟩
 ·have hd0:d≠0:=by intro z;rw[hb,z]at h5;grind
  have f1:=RM.eQ 1 c
  have f2:=RM.eR (1 - c) d hd0
  exact⟨by omega,hd0,by omega,fin _ (by unfold j7;rw[if_pos hb]) (by have e:j7 a b c d=(1 - c) / d:=(by unfold j7;rw[if_pos hb]);rw[← e];omega)⟩
 ·have f1:=RM.bB 1 a
  have f2:=RM.eR (1+a) b hb
  have f3:=RM.E1 ((1+a) / b)
  exact⟨by omega,hb,by omega,fin _ (by unfold j7;rw[if_neg hb]) (by have e:j7 a b c d = -((1+a) / b):=(by unfold j7;rw[if_neg hb]);rw[← e];omega)⟩
theorem cS(T:Txt K mg w.params)(d:Df K mg "by_one_glass" J8 ["table"])(MH:Fn P w K mg base "bare" 1 ["parts"] bR)(Mf:Fn P w K mg base "opposite" 1 ["one"] cH)(Mz:Fn P w K mg base "less" 1 ["one","other"] bG)(Mo:Fn P w K mg base "over" 3 ["one","other"] S9)(Mm:Fn P w K mg base "minus" 4 ["one","other"] F7):Fn P w K mg base "by_one_glass" 5 ["table"] bQ:=by
 have sc:=cO
 walk_at "fn"
 obtain⟨a,b,c,d,rfl,⟨h1,h2,h3,h4⟩,k1,k2⟩:=h
 refine⟨_,(d0 (j4 (a8 0) (j3 (n:=4) rfl (d6 (jn 1 sc.nd) (d6 (jn 2 sc.nd) (d6 (jn 3 sc.nd) (d6 (jn 4 sc.nd) i5)))))) (d0 (f8 (jtm (ny hu) (a8 3) (e7 rfl T.c_NOUGHT)) (d4 (d5 z6)) d9) (d0 (jst 5 sc.nd (jc Mo hr (a7 (jc Mm hr (a7 (a8 4) (a7 (e7 rfl T.c_ONE) a9))) (a7 (a8 3) a9)))) (d0 (jst 6 sc.nd (jc Mo hr (a7 (jc Mm hr (a7 (a8 1) (a7 (e7 rfl T.c_ONE) a9))) (a7 (a8 3) a9)))) (d0 (f8 (t8 (o8 (g5 (jc Mz hr (a7 (a8 5) (a7 (e7 rfl T.c_NOUGHT) a9)))) (o9 (g5 (jc Mz hr (a7 (a8 6) (a7 (e7 rfl T.c_NOUGHT) a9))))))) (d4 (d5 z6)) d9) (d4 (d5 (jc MH hr (a7 (A6 (a7 (h7 (a7 d8 (a7 (a8 5) a9))) (a7 (h7 (a7 d8 (a7 (jc Mf hr (a7 (a8 3) a9)) a9))) (a7 (h7 (a7 d8 (a7 (a8 6) a9))) a9)))) a9))))))))),?_⟩
 walk_at "sim"
 have z1:=RM.L3
 have z0:=RM.D9
 refine⟨fun hc=>k1 (.inl hc),fun hc=>?_⟩
 have f1:=RM.eQ d 1
 have f2:=RM.eQ a 1
 have f3:=RM.eR (d - 1) c hc
 have f4:=RM.eR (a - 1) c hc
 exact⟨by omega,hc,by omega,by omega,hc,by omega,by omega,fun z=>k1 (.inr (.inl z)),fun z=>⟨by omega,fun y=>k1 (.inr (.inr y)),fun y=>⟨[("gap",(d - 1) / c),("glass",-c),("gap",(a - 1) / c)],rfl,(by simp),k2 hc z y⟩⟩⟩
theorem fH(T:Txt K mg w.params)(d:Df K mg "few_glasses" L8 ["table"])(MB:Fn P w K mg base "by_three_glasses" 8 ["table"] jU)(Mn:Fn P w K mg base "by_two_glasses" 7 ["table"] jT)(MR:Fn P w K mg base "by_one_glass" 5 ["table"] bQ)(Mz:Fn P w K mg base "less" 1 ["one","other"] bG)(MH:Fn P w K mg base "bare" 1 ["parts"] bR):Fn P w K mg base "few_glasses" 9 ["table"] sN:=by
 have sc:=eZ
 walk_at "fn"
 obtain⟨a,b,c,d,rfl,⟨⟨D0,x4⟩,h5⟩,k⟩:=h
 obtain⟨h1,h2,h3,h4⟩:=oa x4 (by decide)
 refine⟨_,(d0 (j4 (a8 0) (j3 (n:=4) rfl (d6 (jn 1 sc.nd) (d6 (jn 2 sc.nd) (d6 (jn 3 sc.nd) (d6 (jn 4 sc.nd) i5)))))) (N6 (f8 (t8 (aj (jtm (ny hu) (a8 3) (e7 rfl T.c_NOUGHT)) (aj (jtm (ny hu) (a8 1) (e7 rfl T.c_ONE)) (bg (i7 (g5 (jc Mz hr (a7 (a8 2) (a7 (e7 rfl T.c_NOUGHT) a9))))))))) (d4 (d5 (jc MH hr (a7 (A6 (a7 (h7 (a7 d8 (a7 (a8 2) a9))) a9)) a9)))) d9) (d0 (jst 5 sc.nd (jc MR hr (a7 (a8 0) a9))) (N6 (f8 (jtm hV (a8 5) z6) (d4 (jst 5 sc.nd (jc Mn hr (a7 (a8 0) a9)))) d9) (N6 (f8 (jtm hV (a8 5) z6) (d4 (jst 5 sc.nd (jc MB hr (a7 (a8 0) a9)))) d9) (d4 (d5 (a8 5)))))))),?_⟩
 walk_at "sim"
 have z0:=RM.D9
 refine W1 (fun e' M'=>M'=M∧e'=[some (B3 a b c d),some (e8 a),some (e8 b),some (e8 c),some (e8 d),none]∧¬ (c=0∧a=1∧¬ b<0)) ?_ ?_
 ·walk_at "sim"
  refine⟨fun hc=>⟨fun ha=>⟨by omega,fun hb=>⟨[("gap",b)],rfl,(by simp),by unfold fV at k;rw[if_pos ⟨hc,ha,hb⟩]at k;exact k⟩,fun hb z=>z.2.2 hb⟩,fun ha z=>ha z.2.1⟩,fun hc z=>hc z.1⟩
 ·rintro e' M' ⟨rfl,rfl,hn⟩
  walk_at "sim"
  unfold fV at k
  rw[if_neg hn]at k
  have fin:∀(p:Addr) (bs:List (Str × Rat)),(R (.ref p) (q9 M' p (.lst (bs.map i0))))→True:=fun _ _ _=>trivial
  have is0:∀{M2:Mem} {E:DK},E (.bl true) M2→gIs false .non .non M2 E:=fun h=>by rw[gk (b:=true) rfl];exact h
  have is1:∀{M2:Mem} {E:DK} {p:Addr},E (.bl false) M2→gIs false (.ref p) .non M2 E:=fun h=>by rw[gk (b:=false) rfl];exact h
  refine⟨⟨by omega,by omega,by omega,by omega⟩,fun h0=>?_,fun q1 q2 q3 p hp=>?_⟩
  ·have hn2:¬ (c≠0∧¬ (d - 1) / c<0∧¬ (a - 1) / c<0):=fun z=>by
    rcases h0 with y|y|y
    ·exact z.1 y
    ·exact z.2.1 y
    ·exact z.2.2 y
   rw[if_neg hn2]at k
   refine W1 (fun e' M2=>(M2=M'∧e'=[some (B3 a b c d),some (e8 a),some (e8 b),some (e8 c),some (e8 d),some .non]∧t6 a b c d=none) ∨ ∃ p,e'=[some (B3 a b c d),some (e8 a),some (e8 b),some (e8 c),some (e8 d),some (.ref p)]∧R (.ref p) M2) ?_ ?_
   ·walk_at "sim"
    refine is0 ?_
    walk_at "sim"
    refine⟨⟨by omega,by omega,by omega,by omega,h5,fun g h e=>?_⟩,fun e=>.inl e,fun g h e p hp=>.inr ⟨p,rfl,?_⟩⟩
    ·obtain⟨m1,m2,m3,m4,m5,m6,_,_⟩:=xi x4 (by decide) h5 e
     exact⟨by omega,by omega,by omega,by omega,by omega,by omega⟩
    rw[e]at k
    exact k p hp
   ·rintro e' M2 (⟨rfl,rfl,e⟩|⟨p,rfl,kp⟩)
    ·refine W1 (fun e' M2=>∃ p,e'=[some (B3 a b c d),some (e8 a),some (e8 b),some (e8 c),some (e8 d),some (.ref p)]∧R (.ref p) M2) ?_ ?_
     ·walk_at "sim"
      refine is0 ?_
      walk_at "sim"
      refine⟨⟨⟨D0,x4⟩,h5⟩,e,fun g h e2 p hp=>⟨p,rfl,?_⟩⟩
      rw[e]at k
      simp only[e2]at k
      exact k p hp
     ·rintro e' M3 ⟨p,rfl,kp⟩
      walk_at "sim"
      exact kp
    ·refine W1 (fun e' M2=>∃ p,e'=[some (B3 a b c d),some (e8 a),some (e8 b),some (e8 c),some (e8 d),some (.ref p)]∧R (.ref p) M2) ?_ ?_
     ·walk_at "sim"
      refine is1 ?_
      walk_at "sim"
      exact⟨p,rfl,kp⟩
     ·rintro e' M3 ⟨p,rfl,kp⟩
      walk_at "sim"
      exact kp
  ·rw[if_pos ⟨q1,q2,q3⟩]at k
   refine W1 (fun e' M2=>∃ p,e'=[some (B3 a b c d),some (e8 a),some (e8 b),some (e8 c),some (e8 d),some (.ref p)]∧R (.ref p) M2) ?_ ?_
   ·walk_at "sim"
    refine is1 ?_
    walk_at "sim"
    exact⟨p,rfl,k p hp⟩
   ·rintro e' M3 ⟨p,rfl,kp⟩
    refine W1 (fun e' M2=>∃ p,e'=[some (B3 a b c d),some (e8 a),some (e8 b),some (e8 c),some (e8 d),some (.ref p)]∧R (.ref p) M2) ?_ ?_
    ·walk_at "sim"
     refine is1 ?_
     walk_at "sim"
     exact⟨p,rfl,kp⟩
    ·rintro e' M4 ⟨p,rfl,kp⟩
     walk_at "sim"
     exact kp
theorem gY(T:Txt K mg w.params)(d:Df K mg "_law_ratio" P7 ["top","bottom"]):Fn P w K mg base "_law_ratio" 1 ["top","bottom"] Y7:=by
 have sc:=gE
 walk_at "fn"
 obtain⟨a,b,rfl,hb,hl,k⟩:=h
 refine⟨_,(N6 (f8 (jtm S4 (a8 1) d3) (d4 (dR (i:=0) (j:=1) rfl sc.nd rfl rfl (by decide) rfl rfl (a7 (i4 fL d3 (a8 0)) (a7 (i4 fL d3 (a8 1)) a9)))) d9) (d0 (dR (i:=2) (j:=3) rfl sc.nd rfl rfl (by decide) rfl rfl (a7 (f9 E9 rfl T.b_abs B5 (a7 (a8 0) a9)) (a7 (a8 1) a9))) (d0 (cf PassesOwn.never (jtm hZ (a8 2) d3) (d4 (dR (i:=2) (j:=3) rfl sc.nd rfl rfl (by decide) rfl rfl (a7 (i4 cJ (a8 3) (a8 2)) (a7 (a8 2) a9))))) (d4 (d5 (h7 (a7 (i4 bW (a8 0) (a8 3)) (a7 (i4 bW (a8 1) (a8 3)) a9)))))))),?_⟩
 walk_at "sim"
 refine W1 (fun e' M'=>M'=M∧∃(t u:Int) (x1 x2:Option D),e'=[some (.int t),some (.int u),x1,x2]∧0<u∧u.natAbs.log2<9000∧QE t u=QE a b) ?_ ?_
 ·walk_at "sim"
  refine⟨fun h1=>⟨_,_,_,_,rfl,by omega,by rw[Ss,PZ];exact hl,by rw[Ss,Ss,Rat.neg_divInt_neg]⟩,fun h1=>⟨_,_,_,_,rfl,by omega,hl,rfl⟩⟩
 ·rintro e' M' ⟨rfl,t,u,x1,x2,rfl,hu0,hul,hq⟩
  walk_at "sim"
  refine uo (fun m e M2=>M2=M'∧∃ v:Nat,e=[some (.int t),some (.int u),some (.int (m:Int)),some (.int (v:Int))]∧PN m v=PN t.natAbs u.natAbs) t.natAbs ⟨rfl,u.natAbs,by rw[show((u.natAbs:Nat):Int)=u by omega],rfl⟩ ?_
  rintro m e M2 ⟨rfl,v,rfl,hg⟩
  walk_at "sim"
  refine⟨fun h0=>⟨by omega,v % m,RR _ (by omega),m,by rw[Int.natCast_emod],by rw[← hg,Rl m v,RM.nJ v m (by omega),Rl]⟩,fun h0=>?_⟩
  have hm:m=0:=by omega
  subst hm
  rw[Nat.gcd_zero_left]at hg
  subst hg
  have hn:=yX (a:=t) (b:=u) (by omega)
  have hlg:=tO (a:=t) (b:=u) (by omega) hul
  rw[← hq]at k
  exact⟨⟨hn,hlg⟩,⟨hn,hlg⟩,kI (by omega) (by rw[if_neg (by omega)]) k⟩
theorem kB(T:Txt K mg w.params)(d:Df K mg "_law_take" T9 ["one","other"])(Mh:Fn P w K mg base "_law_ratio" 1 ["top","bottom"] Y7):Fn P w K mg base "_law_take" 2 ["one","other"] F7:=by
 have sc:=jK
 walk_at "fn"
 obtain⟨q,r,rfl,hz,k⟩:=h
 refine⟨_,(d4 (d5 (jc Mh hr (a7 (i4 fL (i4 D2 (jx (a8 0) d3) (jx (a8 1) d3)) (i4 D2 (jx (a8 1) d3) (jx (a8 0) d3))) (a7 (i4 D2 (jx (a8 0) d3) (jx (a8 1) d3)) a9))))),?_⟩
 walk_at "sim"
 rw[uy]
 exact⟨mND hz,mND (by omega),mDD hz,Qa (RM.A8 q) (RM.A8 r),lDD hz,k⟩
theorem pP(T:Txt K mg w.params)(d:Df K mg "_law_by" bP ["one","other"])(Mh:Fn P w K mg base "_law_ratio" 1 ["top","bottom"] Y7):Fn P w K mg base "_law_by" 2 ["one","other"] O3:=by
 have sc:=oV
 walk_at "fn"
 obtain⟨q,r,rfl,hz,k⟩:=h
 refine⟨_,(d4 (d5 (jc Mh hr (a7 (i4 D2 (jx (a8 0) d3) (jx (a8 1) d3)) (a7 (i4 D2 (jx (a8 0) d3) (jx (a8 1) d3)) a9))))),?_⟩
 walk_at "sim"
 rw[← RM.pQ]
 exact⟨mNN hz,mDD hz,Qa (RM.A8 q) (RM.A8 r),lDD hz,k⟩
theorem nv(T:Txt K mg w.params)(d:Df K mg "_law_add" aa ["one","other"])(Mh:Fn P w K mg base "_law_ratio" 1 ["top","bottom"] Y7):Fn P w K mg base "_law_add" 2 ["one","other"] O4:=by
 have sc:=mI
 walk_at "fn"
 obtain⟨q,r,rfl,hz,k⟩:=h
 refine⟨_,(d4 (d5 (jc Mh hr (a7 (i4 U9 (i4 D2 (jx (a8 0) d3) (jx (a8 1) d3)) (i4 D2 (jx (a8 1) d3) (jx (a8 0) d3))) (a7 (i4 D2 (jx (a8 0) d3) (jx (a8 1) d3)) a9))))),?_⟩
 walk_at "sim"
 rw[← RM.kZ]
 exact⟨mND hz,mND (by omega),mDD hz,Qa (RM.A8 q) (RM.A8 r),lDD hz,k⟩
theorem nu(T:Txt K mg w.params)(d:Df K mg "_law_led" Z9 ["part","ray"])(MC:Fn P w K mg base "_law_take" 2 ["one","other"] F7)(Ni:Fn P w K mg base "_law_by" 2 ["one","other"] O3)(Nm:Fn P w K mg base "_law_add" 2 ["one","other"] O4):Fn P w K mg base "_law_led" 3 ["part","ray"] fi:=by
 have sc:=mH
 walk_at "fn"
 obtain⟨x,y,u,rfl,hz,k⟩:=h
 refine⟨_,(d0 (j4 (a8 1) (j3 (n:=2) rfl (d6 (jn 2 sc.nd) (d6 (jn 3 sc.nd) i5)))) (d0 (f8 (jtm p0 (jx (a8 0) d3) d8) (d4 (d5 (h7 (a7 (jc Nm hr (a7 (a8 2) (a7 (jc Ni hr (a7 (jx (a8 0) d3) (a7 (a8 3) a9))) a9))) (a7 (a8 3) a9))))) d9) (d0 (f8 (jtm p0 (jx (a8 0) d3) d8) (d4 (d5 (h7 (a7 (a8 2) (a7 (jc MC hr (a7 (a8 3) (a7 (jc Ni hr (a7 (jx (a8 0) d3) (a7 (a8 2) a9))) a9))) a9))))) d9) (d4 (d5 (a8 1)))))),?_⟩
 walk_at "sim"
 unfold D7 at k
 refine⟨fun h1=>?_,fun h1=>⟨fun h2=>?_,fun h2=>?_⟩⟩
 ·rw[if_pos h1]at k;exact⟨by omega,by walk_at "size",k⟩
 ·rw[if_neg h1,if_pos h2]at k;exact⟨by omega,by walk_at "size",k⟩
 ·rw[if_neg h1,if_neg h2]at k;exact k
theorem cV(T:Txt K mg w.params)(d:Df K mg "_law_ray_due" K1 ["bench","ray"])(Md:Fn P w K mg base "_law_text" 1 ["one"] pe)(MJ:Fn P w K mg base "_law_led" 3 ["part","ray"] fi)(MC:Fn P w K mg base "_law_take" 2 ["one","other"] F7):Fn P w K mg base "_law_ray_due" 4 ["bench","ray"] jZ:=by
 have sc:=cR
 walk_at "fn"
 obtain⟨bs,y,u,rfl,⟨hb,hy,hu⟩,t,ht,k⟩:=h
 have cd:CD 90 y 0 u 0:=(CD.ray hy hu).mono (by decide)
 have sl:=B2
 have s1:(Str.ofString "stopped ").length=8:=by decide +kernel
 have s2:(Str.ofString "out ").length=4:=by decide +kernel
 have s3:(Str.ofString " ").length=1:=by decide +kernel
 have hl:=hb.l
 refine⟨_,(d0 (E4 PassesOwn.never rfl (nE rfl T.b_enumerate (a7 (a8 0) a9)) (j3 (n:=2) rfl (d6 (jn 2 sc.nd) (d6 (jn 3 sc.nd) i5))) (d0 (jst 4 sc.nd (h7 (a7 (f9 E9 rfl T.b_abs B5 (a7 (jx (jx (a8 1) d3) d3) a9)) (a7 (jx (jx (a8 1) d3) d3) a9)))) (d0 (f8 (t8 (aj (jtm p0 (jx (a8 3) d3) d8) (bg (jtm S4 (jx (jc MC hr (a7 (jx (a8 3) d3) (a7 (a8 4) a9))) d3) d3)))) (d4 (d5 (i4 u7 d8 (J2 cn rfl T.b_str B0 (a7 (a8 2) a9))))) d9) (d4 (jst 1 sc.nd (jc MJ hr (a7 (a8 3) (a7 (a8 1) a9)))))))) (d4 (d5 (i4 u7 (i4 u7 (i4 u7 d8 (jc Md hr (a7 (jx (a8 1) d3) a9))) d8) (jc Md hr (a7 (jx (a8 1) d3) a9)))))),?_⟩
 walk_at "sim"
 refine cZ.by (fun i e M'=>M'=M∧(∃ z1 z2 z3:Option D,e=[some _,some (y3 (i3 (bs.take i) (y,u)).1 (i3 (bs.take i) (y,u)).2),z1,z2,z3])∧∀ j,j<i→¬ p6 bs (y,u) j) ⟨rfl,⟨_,_,_,rfl⟩,fun j z=>absurd z (SM j)⟩ (fun i e M' _ _=>by simp only[u9,A0]) ?_ ?_
 ·rintro i dd e M' hd ⟨rfl,⟨z1,z2,z3,rfl⟩,hno⟩
  obtain⟨de,hde,rfl⟩:=nM hd
  obtain⟨pt,hpt,rfl⟩:=N5 hde
  have hm:=Pn hpt
  have hi:=(Pc.mp hpt).1
  have t2:=(V5 (bs:=bs.take i) cd).t2
  have ss:=(hb.take i).s
  have q1:=t2.y
  have q1':=t2.u
  have q2:=(hb.p pt hm).sz
  have qa:=jB (i3 (bs.take i) (y,u)).1
  have go:∀(hn:¬ p6 bs (y,u) i),∀ j,j<i+1→¬ p6 bs (y,u) j:=fun hn j hj=>by
   rcases Rt.mp hj with z|z
   ·exact hno j z
   ·rw[z];exact hn
  have tl:(tx (i:Int)).length≤3:=G4 (n:=(i:Int)) (k:=2) (by decide) (by rw[OZ];omega)
  have tl:(Str.ofString (toString (i:Int))).length≤3:=tl
  have ng:(pt.2 - N3 (i3 (bs.take i) (y,u)).1).num<0↔pt.2<N3 (i3 (bs.take i) (y,u)).1:=by
   rw[nA];grind
  walk_at "sim"
  rw[← U7 hpt]
  refine⟨fun h1=>⟨by omega,fun h2=>⟨?_,by omega,?_⟩,fun h2=>⟨by omega,⟨_,_,_,rfl⟩,go fun⟨x,e,_,e3⟩=>h2 (ng.mpr (by rw[hpt]at e;cases e;exact e3))⟩⟩,fun h1=>⟨by omega,⟨_,_,_,rfl⟩,go fun⟨x,e,e2,_⟩=>h1 (by rw[hpt]at e;cases e;exact e2)⟩⟩
  ·rw[OZ]
   exact ai (k:=1920) (OV (show i<2 ^ 4 by omega) (Pp (by decide) (by decide))) (by decide)
  ·rw[cp.one ht (.inl ⟨i,⟨pt,hpt,h1,ng.mp h2⟩,hno,rfl⟩)]at k
   exact k
 ·rw[J3,OU]
  rintro e M' ⟨rfl,⟨z1,z2,z3,rfl⟩,hno⟩
  walk_at "sim"
  rw[PX]
  have cs:=(V5 (bs:=bs) cd).t2
  have hs:=hb.s
  have c1:=cs.y
  have c2:=cs.u
  have g1:=p8 (q:=(i3 bs (y,u)).1) (by omega)
  have g2:=p8 (q:=(i3 bs (y,u)).2) (by omega)
  refine⟨by omega,by omega,by rw[i9];omega,by omega,by rw[i9,i9];omega,?_⟩
  rw[cp.one ht (.inr ⟨tf hno,rfl⟩)]at k
  exact k
theorem gZ(T:Txt K mg w.params)(d:Df K mg "_law_plane" P8 ["one"])(Md:Fn P w K mg base "_law_text" 1 ["one"] pe):Fn P w K mg base "_law_plane" 2 ["one"] kb:=by
 have sc:=gG
 walk_at "fn"
 obtain⟨x,rfl,o,rfl,hz,k⟩:=h
 cases o with
 | none =>
  refine⟨_,(d0 (f8 (jtm hV (a8 0) z6) (d4 (d5 d8)) d9) (d4 (d5 (jc Md hr (a7 (a8 0) a9))))),?_⟩
  walk_at "sim"
  exact⟨fun _=>k,fun h=>(by cases h)⟩
 | some q =>
  refine⟨_,(d0 (f8 (jtm hV (a8 0) z6) (d4 (d5 d8)) d9) (d4 (d5 (jc Md hr (a7 (a8 0) a9))))),?_⟩
  walk_at "sim"
  exact⟨fun h=>(by cases h),fun _=>⟨q,rfl,hz q rfl,k⟩⟩
theorem gW(T:Txt K mg w.params)(d:Df K mg "axis_ahead" P5 ["ray"])(Mf:Fn P w K mg base "opposite" 1 ["one"] cH)(Mo:Fn P w K mg base "over" 3 ["one","other"] S9):Fn P w K mg base "axis_ahead" 4 ["ray"] xK:=by
 have sc:=gC
 walk_at "fn"
 obtain⟨y,u,rfl,hz,k⟩:=h
 refine⟨_,(d0 (j4 (a8 0) (j3 (n:=2) rfl (d6 (jn 1 sc.nd) (d6 (jn 2 sc.nd) i5)))) (d0 (f8 (jtm (ny hu) (a8 2) (e7 rfl T.c_NOUGHT)) (d4 (d5 z6)) d9) (d4 (d5 (jc Mf hr (a7 (jc Mo hr (a7 (a8 1) (a7 (a8 2) a9))) a9)))))),?_⟩
 walk_at "sim"
 unfold axO at k
 refine⟨fun h0=>?_,fun h0=>⟨h0,by omega,?_⟩⟩
 ·rw[if_pos h0]at k;exact k
 ·rw[if_neg h0]at k;exact k
theorem nj(T:Txt K mg w.params)(d:Df K mg "ray_from" Z4 ["plane"]):Fn P w K mg base "ray_from" 1 ["plane"] pv:=by
 have sc:=mC
 walk_at "fn"
 obtain⟨x,rfl,o,rfl,k⟩:=h
 cases o with
 | none =>
  refine⟨_,(d0 (f8 (jtm hV (a8 0) z6) (d4 (d5 (e7 rfl T.c_LEVEL_RAY))) d9) (d4 (d5 (h7 (a7 (a8 0) (a7 (e7 rfl T.c_ONE) a9)))))),?_⟩
  walk_at "sim"
  exact⟨fun _=>k,fun h=>(by cases h)⟩
 | some q =>
  refine⟨_,(d0 (f8 (jtm hV (a8 0) z6) (d4 (d5 (e7 rfl T.c_LEVEL_RAY))) d9) (d4 (d5 (h7 (a7 (a8 0) (a7 (e7 rfl T.c_ONE) a9)))))),?_⟩
  walk_at "sim"
  exact⟨fun h=>(by cases h),fun _=>k⟩
theorem yw(T:Txt K mg w.params)(d:Df K mg "image" jR ["table","x"])(Mo:Fn P w K mg base "over" 3 ["one","other"] S9)(MW:Fn P w K mg base "axis_ahead" 4 ["ray"] xK)(Nl:Fn P w K mg base "led" 4 ["table","ray"] xF)(Nn:Fn P w K mg base "ray_from" 1 ["plane"] pv):Fn P w K mg base "image" 5 ["table","x"] sL:=by
 have sc:=xx
 walk_at "fn"
 obtain⟨a,b,c,d,x,rfl,o,rfl,⟨⟨h1,h2,h3,h4⟩,hq⟩,k⟩:=h
 have z1:=RM.L3
 have y1:sz (S1 o).1≤41:=by
  cases o with
  | none=>show sz 1≤_;omega
  | some q=>exact hq q rfl
 have u1:sz (S1 o).2≤1:=by
  cases o with
  | none=>show sz 0≤_;rw[RM.D9];decide
  | some q=>show sz 1≤_;omega
 have m1:=RM.bA a (S1 o).1
 have m2:=RM.bA b (S1 o).2
 have m3:=RM.bA c (S1 o).1
 have m4:=RM.bA d (S1 o).2
 have m5:=RM.bB (a*(S1 o).1) (b*(S1 o).2)
 have m6:=RM.bB (c*(S1 o).1) (d*(S1 o).2)
 refine⟨_,(d0 (jst 2 sc.nd (jc Nl hr (a7 (a8 0) (a7 (jc Nn hr (a7 (a8 1) a9)) a9)))) (d0 (jst 3 sc.nd (jc MW hr (a7 (a8 2) a9))) (d0 (f8 (t8 (o8 (jtm hV (a8 1) z6) (o9 (jtm hV (a8 3) z6)))) (d4 (d5 (h7 (a7 (a8 3) (a7 z6 a9))))) d9) (d4 (d5 (h7 (a7 (a8 3) (a7 (jc Mo hr (a7 (e7 rfl T.c_ONE) (a7 (jx (a8 2) d3) a9))) a9)))))))),?_⟩
 walk_at "sim"
 refine⟨o,rfl,by omega,by omega,by omega,?_⟩
 cases o with
 | none=>exact⟨fun _=>k,fun h=>(by cases h)⟩
 | some q =>
  refine⟨fun h=>(by cases h),fun _=>⟨fun h=>?_,fun h=>⟨oj h,by omega,?_⟩⟩⟩
  ·have hu:c*q+d*1=0:=Ad h
   rw[show shP c d (some q)=none from if_pos (by grind)]at k
   exact k
  ·have hu:c*q+d*1≠0:=oj h
   rw[show shP c d (some q)=some (1 / (c*q+d))from if_neg (by grind),show c*q+d=c*(S1 (some q)).1+d*(S1 (some q)).2 by show _=c*q+d*1;grind]at k
   exact k
theorem fG(T:Txt K mg w.params)(d:Df K mg "led_by_part" L7 ["part","ray"])(Mm:Fn P w K mg base "minus" 4 ["one","other"] F7)(Mw:Fn P w K mg base "times" 3 ["one","other"] O3)(Mu:Fn P w K mg base "plus" 3 ["one","other"] O4):Fn P w K mg base "led_by_part" 5 ["part","ray"] fi:=by
 have sc:=eY
 walk_at "fn"
 obtain⟨x,y,u,rfl,hz,k⟩:=h
 refine⟨_,(d0 (j4 (a8 0) (j3 (n:=2) rfl (d6 (jn 2 sc.nd) (d6 (jn 3 sc.nd) i5)))) (d0 (j4 (a8 1) (j3 (n:=2) rfl (d6 (jn 4 sc.nd) (d6 (jn 5 sc.nd) i5)))) (d0 (f8 (jtm p0 (a8 2) d8) (d4 (d5 (h7 (a7 (jc Mu hr (a7 (a8 4) (a7 (jc Mw hr (a7 (a8 3) (a7 (a8 5) a9))) a9))) (a7 (a8 5) a9))))) d9) (d0 (f8 (jtm p0 (a8 2) d8) (d4 (d5 (h7 (a7 (a8 4) (a7 (jc Mm hr (a7 (a8 5) (a7 (jc Mw hr (a7 (a8 3) (a7 (a8 4) a9))) a9))) a9))))) d9) (d4 (d5 (a8 1))))))),?_⟩
 walk_at "sim"
 unfold D7 at k
 refine⟨fun h1=>?_,fun h1=>⟨fun h2=>?_,fun h2=>?_⟩⟩
 ·rw[if_pos h1]at k;exact⟨by omega,by walk_at "size",k⟩
 ·rw[if_neg h1,if_pos h2]at k;exact⟨by omega,by walk_at "size",k⟩
 ·rw[if_neg h1,if_neg h2]at k;exact k
theorem nc(T:Txt K mg w.params)(d:Df K mg "table_of" Z1 ["bench"])(Mx:Fn P w K mg base "by_columns" 1 ["first","second"] W6)(Mq:Fn P w K mg base "led_by_part" 5 ["part","ray"] fi):Fn P w K mg base "table_of" 6 ["bench"] fg:=by
 have sc:=my
 walk_at "fn"
 obtain⟨bs,rfl,hs,k⟩:=h
 refine⟨_,(d0 (jst 1 sc.nd (e7 rfl T.c_LEVEL_RAY)) (d0 (jst 2 sc.nd (e7 rfl T.c_AXIS_RAY)) (d0 (E4 PassesOwn.never rfl (w6 (a8 0)) (jn 3 sc.nd) (d0 (jst 1 sc.nd (jc Mq hr (a7 (a8 3) (a7 (a8 1) a9)))) (d4 (jst 2 sc.nd (jc Mq hr (a7 (a8 3) (a7 (a8 2) a9))))))) (d4 (d5 (jc Mx hr (a7 (a8 1) (a7 (a8 2) a9)))))))),?_⟩
 walk_at "sim"
 refine cZ.by (fun i e M'=>M'=M∧∃ z:Option D,e=[some (D.vl (bs.map i0)),some (y3 (i3 (bs.take i) (1,0)).1 (i3 (bs.take i) (1,0)).2),some (y3 (i3 (bs.take i) (0,1)).1 (i3 (bs.take i) (0,1)).2),z]) ⟨rfl,_,rfl⟩ (fun i e M' _ _=>by simp only[u9]) ?_ ?_
 ·rintro i dd e M' hd ⟨rfl,z,rfl⟩
  obtain⟨pt,hpt,rfl⟩:=N5 hd
  have st:=mq hpt
  have t1:=(V5 (bs:=bs.take i) KZ).t2
  have t2:=(V5 (bs:=bs.take i) KY).t2
  have a1:=t1.y
  have a2:=t1.u
  have b1:=t2.y
  have b2:=t2.u
  have o1:=U7 hpt (1,0)
  have o2:=U7 hpt (0,1)
  walk_at "sim"
  rw[← o1,← o2]
  exact⟨by omega,by omega,_,rfl⟩
 ·rw[OU]
  rintro e M' ⟨rfl,z,rfl⟩
  rw[PX]
  walk_at "sim"
  exact k
theorem cU(T:Txt K mg w.params)(d:Df K mg "_law_through" K0 ["bench","ray"])(MJ:Fn P w K mg base "_law_led" 3 ["part","ray"] fi):Fn P w K mg base "_law_through" 4 ["bench","ray"] pb:=by
 have sc:=cQ
 walk_at "fn"
 obtain⟨bs,y,u,rfl,⟨hs,hl,cd⟩,k⟩:=h
 refine⟨_,(d0 (E4 PassesOwn.never rfl (w6 (a8 0)) (jn 2 sc.nd) (d4 (jst 1 sc.nd (jc MJ hr (a7 (a8 2) (a7 (a8 1) a9)))))) (d4 (d5 (a8 1)))),?_⟩
 walk_at "sim"
 refine cZ.by (fun i e M'=>M'=M∧∃ z:Option D,e=[some (D.vl (bs.map i0)),some (y3 (i3 (bs.take i) (y,u)).1 (i3 (bs.take i) (y,u)).2),z]) ⟨rfl,_,rfl⟩ (fun i e M' _ _=>by simp only[u9]) ?_ ?_
 ·rintro i dd e M' hd ⟨rfl,z,rfl⟩
  obtain⟨pt,hpt,rfl⟩:=N5 hd
  have st:=mq hpt
  have t1:=(V5 (bs:=bs.take i) cd).t2
  have a1:=t1.y
  have a2:=t1.u
  have o1:=U7 hpt (y,u)
  walk_at "sim"
  rw[← o1]
  exact⟨by omega,_,rfl⟩
 ·rw[OU]
  rintro e M' ⟨rfl,z,rfl⟩
  rw[PX]
  walk_at "sim"
  exact k
theorem nq(T:Txt K mg w.params)(d:Df K mg "may_have" Z6 ["word","number"]):Fn P w K mg base "may_have" 1 ["word","number"] sI:=by
 have sc:=mE
 walk_at "fn"
 obtain⟨w,q,rfl,k⟩:=h
 refine⟨_,(d0 (f8 (jtm p0 (a8 0) d8) (d4 (d5 (jm Co (jx (a8 1) d3) d3))) d9) (d0 (f8 (jtm p0 (a8 0) d8) (d4 (d5 (jm hZ (jx (a8 1) d3) d3))) d9) (d4 (d5 (jm p0 (a8 0) d8))))),?_⟩
 walk_at "sim"
 have k:R (.bl (K2 w q)) M:=k
 unfold K2 at k
 refine⟨fun e=>?_,fun e=>⟨fun e2=>?_,fun e2=>?_⟩⟩
 ·rw[if_pos e]at k;exact k
 ·rw[if_neg e,if_pos e2]at k;exact k
 ·rw[if_neg e,if_neg e2]at k;exact k
theorem nt(T:Txt K mg w.params)(d:Df K mg "is_ratio" Z8 ["thing"])(Mj:Fn P w K mg base "divisor" 1 ["one","other"] W5)(Mc:Fn P w K mg base "is_whole" 1 ["thing"] dh):Fn P w K mg base "is_ratio" 2 ["thing"] fj:=by
 have sc:=mG
 walk_at "fn"
 obtain⟨x,rfl,hx,k⟩:=h
 cases x with
 | ref a=>cases hx
 | ty a=>cases hx
 | exc a=>cases hx
 | int i =>
  refine⟨_,(d0 (f8 (t8 (o8 (i7 (g5 (f9 (t9 T.sub) rfl T.b_isinstance e5 (a7 (a8 0) (a7 (p9 rfl T.b_tuple B1) a9))))) (o9 (jtm K8 (f9 C1 rfl T.b_len u8 (a7 (a8 0) a9)) d3)))) (d4 (d5 B9)) d9) (d0 (j4 (a8 0) (j3 (n:=2) rfl (d6 (jn 1 sc.nd) (d6 (jn 2 sc.nd) i5)))) (d0 (f8 (t8 (o8 (i7 (g5 (jc Mc hr (a7 (a8 1) a9)))) (o8 (i7 (g5 (jc Mc hr (a7 (a8 2) a9)))) (o9 (jtm S4 (a8 2) d3))))) (d4 (d5 B9)) d9) (d4 (d5 (jm F9 (jc Mj hr (a7 (f9 E9 rfl T.b_abs B5 (a7 (a8 1) a9)) (a7 (a8 2) a9))) d3)))))),?_⟩
  walk_at "sim"
  exact k
 | bl i =>
  refine⟨_,(d0 (f8 (t8 (o8 (i7 (g5 (f9 (t9 T.sub) rfl T.b_isinstance e5 (a7 (a8 0) (a7 (p9 rfl T.b_tuple B1) a9))))) (o9 (jtm K8 (f9 C1 rfl T.b_len u8 (a7 (a8 0) a9)) d3)))) (d4 (d5 B9)) d9) (d0 (j4 (a8 0) (j3 (n:=2) rfl (d6 (jn 1 sc.nd) (d6 (jn 2 sc.nd) i5)))) (d0 (f8 (t8 (o8 (i7 (g5 (jc Mc hr (a7 (a8 1) a9)))) (o8 (i7 (g5 (jc Mc hr (a7 (a8 2) a9)))) (o9 (jtm S4 (a8 2) d3))))) (d4 (d5 B9)) d9) (d4 (d5 (jm F9 (jc Mj hr (a7 (f9 E9 rfl T.b_abs B5 (a7 (a8 1) a9)) (a7 (a8 2) a9))) d3)))))),?_⟩
  walk_at "sim"
  exact k
 | non =>
  refine⟨_,(d0 (f8 (t8 (o8 (i7 (g5 (f9 (t9 T.sub) rfl T.b_isinstance e5 (a7 (a8 0) (a7 (p9 rfl T.b_tuple B1) a9))))) (o9 (jtm K8 (f9 C1 rfl T.b_len u8 (a7 (a8 0) a9)) d3)))) (d4 (d5 B9)) d9) (d0 (j4 (a8 0) (j3 (n:=2) rfl (d6 (jn 1 sc.nd) (d6 (jn 2 sc.nd) i5)))) (d0 (f8 (t8 (o8 (i7 (g5 (jc Mc hr (a7 (a8 1) a9)))) (o8 (i7 (g5 (jc Mc hr (a7 (a8 2) a9)))) (o9 (jtm S4 (a8 2) d3))))) (d4 (d5 B9)) d9) (d4 (d5 (jm F9 (jc Mj hr (a7 (f9 E9 rfl T.b_abs B5 (a7 (a8 1) a9)) (a7 (a8 2) a9))) d3)))))),?_⟩
  walk_at "sim"
  exact k
 | str i =>
  refine⟨_,(d0 (f8 (t8 (o8 (i7 (g5 (f9 (t9 T.sub) rfl T.b_isinstance e5 (a7 (a8 0) (a7 (p9 rfl T.b_tuple B1) a9))))) (o9 (jtm K8 (f9 C1 rfl T.b_len u8 (a7 (a8 0) a9)) d3)))) (d4 (d5 B9)) d9) (d0 (j4 (a8 0) (j3 (n:=2) rfl (d6 (jn 1 sc.nd) (d6 (jn 2 sc.nd) i5)))) (d0 (f8 (t8 (o8 (i7 (g5 (jc Mc hr (a7 (a8 1) a9)))) (o8 (i7 (g5 (jc Mc hr (a7 (a8 2) a9)))) (o9 (jtm S4 (a8 2) d3))))) (d4 (d5 B9)) d9) (d4 (d5 (jm F9 (jc Mj hr (a7 (f9 E9 rfl T.b_abs B5 (a7 (a8 1) a9)) (a7 (a8 2) a9))) d3)))))),?_⟩
  walk_at "sim"
  exact k
 | vl i =>
  refine⟨_,(d0 (f8 (t8 (o8 (i7 (g5 (f9 (t9 T.sub) rfl T.b_isinstance e5 (a7 (a8 0) (a7 (p9 rfl T.b_tuple B1) a9))))) (o9 (jtm K8 (f9 C1 rfl T.b_len u8 (a7 (a8 0) a9)) d3)))) (d4 (d5 B9)) d9) (d0 (j4 (a8 0) (j3 (n:=2) rfl (d6 (jn 1 sc.nd) (d6 (jn 2 sc.nd) i5)))) (d0 (f8 (t8 (o8 (i7 (g5 (jc Mc hr (a7 (a8 1) a9)))) (o8 (i7 (g5 (jc Mc hr (a7 (a8 2) a9)))) (o9 (jtm S4 (a8 2) d3))))) (d4 (d5 B9)) d9) (d4 (d5 (jm F9 (jc Mj hr (a7 (f9 E9 rfl T.b_abs B5 (a7 (a8 1) a9)) (a7 (a8 2) a9))) d3)))))),?_⟩
  walk_at "sim"
  exact k
 | dic =>
  refine⟨_,(d0 (f8 (t8 (o8 (i7 (g5 (f9 (t9 T.sub) rfl T.b_isinstance e5 (a7 (a8 0) (a7 (p9 rfl T.b_tuple B1) a9))))) (o9 (jtm K8 (f9 C1 rfl T.b_len u8 (a7 (a8 0) a9)) d3)))) (d4 (d5 B9)) d9) (d0 (j4 (a8 0) (j3 (n:=2) rfl (d6 (jn 1 sc.nd) (d6 (jn 2 sc.nd) i5)))) (d0 (f8 (t8 (o8 (i7 (g5 (jc Mc hr (a7 (a8 1) a9)))) (o8 (i7 (g5 (jc Mc hr (a7 (a8 2) a9)))) (o9 (jtm S4 (a8 2) d3))))) (d4 (d5 B9)) d9) (d4 (d5 (jm F9 (jc Mj hr (a7 (f9 E9 rfl T.b_abs B5 (a7 (a8 1) a9)) (a7 (a8 2) a9))) d3)))))),?_⟩
  walk_at "sim"
  exact k
 | tup ds =>
  match ds,hx,k with
  | [],hx,k =>
   refine⟨_,(d0 (f8 (t8 (o8 (i7 (g5 (f9 (t9 T.sub) rfl T.b_isinstance e5 (a7 (a8 0) (a7 (p9 rfl T.b_tuple B1) a9))))) (o9 (jtm K8 (f9 C1 rfl T.b_len u8 (a7 (a8 0) a9)) d3)))) (d4 (d5 B9)) d9) (d0 (j4 (a8 0) (j3 (n:=2) rfl (d6 (jn 1 sc.nd) (d6 (jn 2 sc.nd) i5)))) (d0 (f8 (t8 (o8 (i7 (g5 (jc Mc hr (a7 (a8 1) a9)))) (o8 (i7 (g5 (jc Mc hr (a7 (a8 2) a9)))) (o9 (jtm S4 (a8 2) d3))))) (d4 (d5 B9)) d9) (d4 (d5 (jm F9 (jc Mj hr (a7 (f9 E9 rfl T.b_abs B5 (a7 (a8 1) a9)) (a7 (a8 2) a9))) d3)))))),?_⟩
   walk_at "sim"
   exact⟨fun _=>k,fun z=>absurd z (by decide)⟩
  | [a],hx,k =>
   rw[show fP (.tup [a])=false by cases a<;>rfl]at k
   refine⟨_,(d0 (f8 (t8 (o8 (i7 (g5 (f9 (t9 T.sub) rfl T.b_isinstance e5 (a7 (a8 0) (a7 (p9 rfl T.b_tuple B1) a9))))) (o9 (jtm K8 (f9 C1 rfl T.b_len u8 (a7 (a8 0) a9)) d3)))) (d4 (d5 B9)) d9) (d0 (j4 (a8 0) (j3 (n:=2) rfl (d6 (jn 1 sc.nd) (d6 (jn 2 sc.nd) i5)))) (d0 (f8 (t8 (o8 (i7 (g5 (jc Mc hr (a7 (a8 1) a9)))) (o8 (i7 (g5 (jc Mc hr (a7 (a8 2) a9)))) (o9 (jtm S4 (a8 2) d3))))) (d4 (d5 B9)) d9) (d4 (d5 (jm F9 (jc Mj hr (a7 (f9 E9 rfl T.b_abs B5 (a7 (a8 1) a9)) (a7 (a8 2) a9))) d3)))))),?_⟩
   walk_at "sim"
   exact⟨fun _=>k,fun z=>absurd z (by decide)⟩
  | a :: b :: c :: r,hx,k =>
   rw[show fP (.tup (a :: b :: c :: r))=false by cases a<;>first|rfl|(cases b<;>rfl)]at k
   refine⟨_,(d0 (f8 (t8 (o8 (i7 (g5 (f9 (t9 T.sub) rfl T.b_isinstance e5 (a7 (a8 0) (a7 (p9 rfl T.b_tuple B1) a9))))) (o9 (jtm K8 (f9 C1 rfl T.b_len u8 (a7 (a8 0) a9)) d3)))) (d4 (d5 B9)) d9) (d0 (j4 (a8 0) (j3 (n:=2) rfl (d6 (jn 1 sc.nd) (d6 (jn 2 sc.nd) i5)))) (d0 (f8 (t8 (o8 (i7 (g5 (jc Mc hr (a7 (a8 1) a9)))) (o8 (i7 (g5 (jc Mc hr (a7 (a8 2) a9)))) (o9 (jtm S4 (a8 2) d3))))) (d4 (d5 B9)) d9) (d4 (d5 (jm F9 (jc Mj hr (a7 (f9 E9 rfl T.b_abs B5 (a7 (a8 1) a9)) (a7 (a8 2) a9))) d3)))))),?_⟩
   walk_at "sim"
   exact⟨fun _=>k,fun z=>absurd z (by omega)⟩
  | [a,b],hx,k =>
   refine⟨_,(d0 (f8 (t8 (o8 (i7 (g5 (f9 (t9 T.sub) rfl T.b_isinstance e5 (a7 (a8 0) (a7 (p9 rfl T.b_tuple B1) a9))))) (o9 (jtm K8 (f9 C1 rfl T.b_len u8 (a7 (a8 0) a9)) d3)))) (d4 (d5 B9)) d9) (d0 (j4 (a8 0) (j3 (n:=2) rfl (d6 (jn 1 sc.nd) (d6 (jn 2 sc.nd) i5)))) (d0 (f8 (t8 (o8 (i7 (g5 (jc Mc hr (a7 (a8 1) a9)))) (o8 (i7 (g5 (jc Mc hr (a7 (a8 2) a9)))) (o9 (jtm S4 (a8 2) d3))))) (d4 (d5 B9)) d9) (d4 (d5 (jm F9 (jc Mj hr (a7 (f9 E9 rfl T.b_abs B5 (a7 (a8 1) a9)) (a7 (a8 2) a9))) d3)))))),?_⟩
   walk_at "sim"
   have hx':fl0 a=true∧fl0 b=true:=by simpa[fl1]using hx
   refine⟨fun z=>absurd rfl z,fun _=>⟨hx'.1,fun h1=>?_,fun h1=>⟨hx'.2,fun h2=>?_,fun h2=>?_⟩⟩⟩
   ·rw[CA h1]at k;exact k
   ·rw[Cz h2]at k;exact k
   ·obtain⟨n,rfl⟩:=nI h1
    obtain⟨m,rfl⟩:=nI h2
    walk_at "sim"
    refine⟨fun h=>?_,fun h=>?_⟩
    ·rw[show fP (.tup [.int n,.int m])=false by show(decide (1≤m) && _)=false;rw[decide_eq_false (by omega)];rfl]at k
     exact k
    ·obtain⟨d,rfl⟩:=Rx (show 0≤m by omega)
     walk_at "sim"
     rw[show fP (.tup [.int n,.int (d:Int)])=decide (PN n.natAbs d=1)by show(decide (1≤(d:Int)) && _)=_;rw[decide_eq_true (by omega)];rfl]at k
     rw[show decide (((PN n.natAbs d:Nat):Int)=1)=decide (PN n.natAbs d=1)from decide_eq_decide.mpr (by omega)]
     exact k
theorem pN(T:Txt K mg w.params)(d:Df K mg "is_part" bM ["thing"])(ML:Fn P w K mg base "may_have" 1 ["word","number"] sI)(Mi:Fn P w K mg base "is_ratio" 2 ["thing"] fj):Fn P w K mg base "is_part" 3 ["thing"] sJ:=by
 have sc:=oR
 walk_at "fn"
 obtain⟨w,q,rfl,k⟩:=h
 refine⟨_,(d0 (f8 (t8 (o8 (i7 (g5 (f9 (t9 T.sub) rfl T.b_isinstance e5 (a7 (a8 0) (a7 (p9 rfl T.b_tuple B1) a9))))) (o9 (jtm K8 (f9 C1 rfl T.b_len u8 (a7 (a8 0) a9)) d3)))) (d4 (d5 B9)) d9) (d0 (j4 (a8 0) (j3 (n:=2) rfl (d6 (jn 1 sc.nd) (d6 (jn 2 sc.nd) i5)))) (d4 (d5 (K9 (jc Mi hr (a7 (a8 2) a9)) (J1 (jc ML hr (a7 (a8 1) (a7 (a8 2) a9))))))))),?_⟩
 walk_at "sim"
 exact⟨fun h=>absurd rfl h,fun _=>⟨rfl,fun _=>k,fun h=>by rw[nH]at h;cases h⟩⟩
theorem fJ(T:Txt K mg w.params)(d:Df K mg "are_figures" L9 ["text"]):Fn P w K mg base "are_figures" 1 ["text"] xI:=by
 have sc:=fb
 walk_at "fn"
 obtain⟨s,rfl,hs,k⟩:=h
 refine⟨_,(d0 (f8 (t8 (o8 (jtm F9 (f9 zZ rfl T.b_len u8 (a7 (a8 0) a9)) d3) (o8 (jtm hZ (f9 zZ rfl T.b_len u8 (a7 (a8 0) a9)) (e7 rfl T.c_MOST_FIGURES)) (o9 (g5 (f9 (KW rfl) rfl T.b_any Ik (a7 (K4 [] ["sign"] [] rfl (by decide +kernel) rfl (by decide +kernel) (by decide +kernel) rfl G3 G3 (Ct (a8 0)) (fun _ _ _ _ _ _=>(jn 0 (show(["sign"]:List Str).Nodup by decide +kernel))) (fun _ _ _ _ _ _=>v6) (fun _ _ _ _ _ _=>(jm yx (a8 0) (e7 rfl T.c_FIGURES)))) a9))))))) (d4 (d5 B9)) d9) (d4 (d5 (HC (jm p0 (a8 0) d8) (J1 (jm sY (HD (a8 0) d3) d8)))))),?_⟩
 walk_at "sim"
 have hl:=u6 s
 have sl:=df hs
 have no:∀ M',N1 (sg s)=false→M'=M→R (D.bl false) M':=fun M' h e=>by rw[e,← h];exact k
 refine⟨sl,fun h0=>no M ?_ rfl,fun h0=>⟨sl,fun h1=>no M ?_ rfl,fun h1=>?_⟩⟩
 ·rw[Q7];rw[decide_eq_false (show ¬ (sg s).length≠0 by omega)];rfl
 ·rw[Q7];rw[decide_eq_false (show ¬ (sg s).length≤300 by omega),QA];rfl
 refine J5 (xs:=sg s) (enc:=fun c=>D.str ⟨#[c]⟩) (fun c=>.bl (!isF c)) (by omega) trivial (fun c hc Q hQ=>?_) ?_
 ·walk_at "sim"
  rw[HQ]
  exact hQ
 have em:(sg s).map (fun c=>D.bl (!isF c))=((sg s).map fun c=>!isF c).map D.bl:=by rw[Qb];rfl
 rw[em]
 show HM [_] M _
 rw[oF]
 walk_at "sim"
 have ea:((sg s).map fun c=>!isF c).any id = !(sg s).all isF:=by rw[List.any_map,List.all_eq_not_any_not,Bool.not_not];rfl
 have d1:decide ((sg s).length≠0)=true:=decide_eq_true (by omega)
 have d2:decide ((sg s).length≤300)=true:=decide_eq_true (by omega)
 refine⟨fun h=>no M ?_ rfl,fun h=>?_⟩
 ·have:(sg s).all isF=false:=by rw[ea]at h;simpa using h
  rw[Q7];rw[this,QA];rfl
 ·have hf:(sg s).all isF=true:=by
   cases hc:(sg s).all isF with
   | true=>rfl
   | false=>(have h9:=h;rw[ea,hc]at h9;cases h9)
  have z0:sg (Str.ofString "0")=[48]:=by decide +kernel
  refine⟨fun e=>?_,fun e=>?_⟩
  ·have e2:sg s=[48]:=by rw[e];exact z0
   have:N1 (sg s)=true:=by rw[e2];decide
   rw[← this];exact k
  ·have ne:sg s≠[48]:=fun e2=>e (bI (e2.trans z0.symm))
   cases hc:sg s with
   | nil=>rw[hc]at hl;exact absurd hl.symm (by show ¬ s.length=0;omega)
   | cons c r =>
    have g0:s.cps[(0:Int).toNat]? = some c:=by rw[← Array.getElem?_toList];show(sg s)[0]? = _;rw[hc];rfl
    refine CH (by decide) (by decide) g0 ?_
    walk_at "sim"
    have:N1 (sg s) = !decide ((⟨#[c]⟩:Str)=Str.ofString "0"):=by
     rw[Q7]
     rw[d1,d2,hf,decide_eq_false ne,hc]
     by_cases q:c=48
     ·subst q
      rw[decide_eq_true (show(⟨#[48]⟩:Str)=Str.ofString "0" by decide +kernel)];rfl
     ·rw[decide_eq_false (show ¬ (⟨#[c]⟩:Str)=Str.ofString "0" from fun z=>q (by have:=congrArg sg z;rw[z0]at this;exact(List.cons.inj this).1))]
      show(true && true && true && (false || decide (some c≠some 48)))=true
      rw[decide_eq_true (show some c≠some 48 from fun z=>q (Option.some.inj z))];rfl
    rw[← this];exact k
theorem gO(T:Txt K mg w.params)(d:Df K mg "read_whole" O7 ["text"])(MM:Fn P w K mg base "are_figures" 1 ["text"] xI):Fn P w K mg base "read_whole" 2 ["text"] pf:=by
 have sc:=gq
 walk_at "fn"
 obtain⟨s,rfl,hs,k⟩:=h
 refine⟨_,(d0 (f8 (g5 (jc MM hr (a7 (a8 0) a9))) (d4 (d5 (J2 qp rfl T.b_int N2 (a7 (a8 0) a9)))) d9) (d0 (f8 (t8 (aj (jtm p0 (pY (a8 0) D5 (D4 d3)) d8) (aj (g5 (jc MM hr (a7 (pY (a8 0) (D4 d3) D5) a9))) (bg (jtm sY (a8 0) d8))))) (d4 (d5 (pZ (J2 qp rfl T.b_int N2 (a7 (pY (a8 0) (D4 d3) D5) a9))))) d9) (d4 (d5 z6)))),?_⟩
 walk_at "sim"
 have sl:=df hs
 have m0:sg (Str.ofString "-")=[45]:=by decide +kernel
 have e1:sg (Txt.slice s none (some 1))=(sg s).take 1:=JH s 1
 have e2:sg (Txt.slice s (some 1) none)=(sg s).drop 1:=Bt s 1
 refine⟨hs,fun h=>⟨_,tT h,by rw[← u6];have:=(dX h).1;omega,by rw[sO h]at k;exact k⟩,fun h=>⟨sl,fun e=>?_,fun e=>?_⟩⟩
 ·have e3:(sg s).take 1=[45]:=by rw[← e1,e,m0]
  obtain⟨r,hr⟩:=xm.mp e3
  have e4:sg (Txt.slice s (some 1) none)=r:=by rw[e2,hr];rfl
  rw[hr]at h k
  rw[BH h]at k
  refine⟨sl,Pa (Txt.slice_le s _ _) hs,?_⟩
  have q0:s=Str.ofString "-0" ↔ r=[48]:=by
   rw[Ex,hr,show sg (Str.ofString "-0")=[45,48]by decide +kernel];simp
  refine⟨fun h1=>⟨fun h2=>⟨sl,_,tT h1,by rw[← u6];have:=(dX h1).1;omega,?_⟩,fun h2=>?_⟩,fun h1=>?_⟩
  ·rw[e4]at h1 ⊢
   rw[h1,decide_eq_true (show r≠[48]from fun z=>h2 (q0.mpr z))]at k;exact k
  ·rw[decide_eq_false (show ¬ r≠[48]from fun z=>z (q0.mp h2)),QA]at k;exact k
  ·rw[e4]at h1
   rw[h1]at k;exact k
 ·rw[Gn h (fun z=>e (bI (by rw[e1,z,m0])))]at k;exact k
theorem fw(T:Txt K mg w.params)(d:Df K mg "read_ratio" O8 ["text"])(Mi:Fn P w K mg base "is_ratio" 2 ["thing"] fj)(Mg:Fn P w K mg base "read_whole" 2 ["text"] pf):FnX P w K mg base "read_ratio" 3 ["text"] jX:=by
 have sc:=gu
 refine Q6 d sc (by walk_at "len") (fun f cdv A outer s H E ds M R Y hr h=>?_)
 have hu:=hr.units
 obtain⟨x,rfl,k⟩:=h
 rcases k with⟨s,rfl,hs,k1,k2⟩|⟨ho,k⟩
 ·skip
  refine⟨_,(g9 (D6 (i7 (g5 (f9 (t9 T.sub) rfl T.b_isinstance e5 (a7 (a8 0) (a7 (p9 rfl T.b_str B0) a9))))) (j9 (m9 T.x_NoText rfl rfl d8)) y0) (g9 (o6 (j4 (V1 PySem.F.slot_str_partition PySem.F.type_str_partition A5 C3 (a8 0) (a7 d8 a9)) (j3 (n:=3) rfl (d6 (jn 1 sc.nd) (d6 (jn 2 sc.nd) (d6 (jn 3 sc.nd) i5)))))) (g9 (o6 (jst 4 sc.nd (h7 (a7 (jc Mg hr (a7 (a8 1) a9)) (a7 (E5 (jtm p0 (a8 2) d8) (jc Mg hr (a7 (a8 3) a9)) d3) a9))))) (g9 (D6 (t8 (o8 (i7 (g5 (jc Mi hr (a7 (a8 4) a9)))) (o9 (jtm p0 (a8 3) d8)))) (j9 (m9 T.x_NoText rfl rfl d8)) y0) (j9 (o6 (d5 (a8 4)))))))),?_⟩
  walk_at "sim"
  have sl:Str.ofString "/" = ⟨#[47]⟩:=by decide +kernel
  rw[sl]
  obtain⟨p1,p2,p3⟩:=sV s 47
  obtain⟨c1,c2⟩:=uh 47 (sg s)
  rw[u6]at c1 c2
  rw[p1,p2,p3]
  have one:(Txt.partition s ⟨#[47]⟩).2.2=Str.ofString "1" ↔ (A1 47 (sg s)).2.2=[49]:=by
   rw[Ex,p3,show sg (Str.ofString "1")=[49]by decide +kernel]
  rw[one]
  have fin:∀ b:Option Int,b=(if (A1 47 (sg s)).2.1 then rdW (A1 47 (sg s)).2.2 else some 1)→((fP (.tup [fq (rdW (A1 47 (sg s)).1),fq b])=false→Y (xN (Str.ofString "NoText")) M)∧(fP (.tup [fq (rdW (A1 47 (sg s)).1),fq b])=true →
    ((A1 47 (sg s)).2.2=[49]→Y (xN (Str.ofString "NoText")) M)∧(¬ (A1 47 (sg s)).2.2=[49]→R (D.tup [fq (rdW (A1 47 (sg s)).1),fq b]) M))):=fun b hb=>by
   unfold rdR sx at k1 k2
   rw[← hb]at k1 k2
   rw[yO]
   cases ha:rdW (A1 47 (sg s)).1 with
   | none=>rw[ha]at k2;exact⟨fun _=>k2 rfl,fun z=>by cases z⟩
   | some n =>
    cases b with
    | none=>rw[ha]at k2;exact⟨fun _=>k2 rfl,fun z=>by cases z⟩
    | some d =>
     rw[ha]at k1 k2
     refine⟨fun z=>k2 ?_,fun z=>⟨fun e=>k2 ?_,fun e=>?_⟩⟩
     ·have z2:(decide (1≤d) && decide (PN n.natAbs d.natAbs=1))=false:=z
      show RS _ (if (_ && _)=true then _ else _)=none
      rw[z2];rfl
     ·show RS _ (if (_ && _)=true then _ else _)=none
      rw[decide_eq_false (show ¬ (A1 47 (sg s)).2.2≠[49]from fun h=>h e),QA];rfl
     ·have z2:(decide (1≤d) && decide (PN n.natAbs d.natAbs=1))=true:=z
      have:=k1 (mkRat n d.natAbs) (by
       show RS _ (if (_ && _)=true then _ else _)=_
       rw[z2,decide_eq_true (show(A1 47 (sg s)).2.2≠[49]from e)];rfl)
      rw[← Gp z2]at this
      exact this
  refine⟨by decide,df hs,by rw[← u6,p1];omega,fun h=>⟨by rw[← u6,p3];omega,zl _ _,?_⟩,fun h=>⟨zl _ (some 1),?_⟩⟩
  ·refine fin _ ?_
   cases hb:(A1 47 (sg s)).2.1 with
   | true=>rfl
   | false=>rw[hb]at h;exact absurd h (by decide +kernel)
  ·refine fin (some 1) ?_
   cases hb:(A1 47 (sg s)).2.1 with
   | true=>rw[hb]at h;exact absurd rfl h
   | false=>rfl
 ·cases x with
  | non =>
   refine⟨_,(g9 (D6 (i7 (g5 (f9 (t9 T.sub) rfl T.b_isinstance e5 (a7 (a8 0) (a7 (p9 rfl T.b_str B0) a9))))) (j9 (m9 T.x_NoText rfl rfl d8)) y0) (g9 (o6 (j4 (V1 PySem.F.slot_str_partition PySem.F.type_str_partition A5 C3 (a8 0) (a7 d8 a9)) (j3 (n:=3) rfl (d6 (jn 1 sc.nd) (d6 (jn 2 sc.nd) (d6 (jn 3 sc.nd) i5)))))) (g9 (o6 (jst 4 sc.nd (h7 (a7 (jc Mg hr (a7 (a8 1) a9)) (a7 (E5 (jtm p0 (a8 2) d8) (jc Mg hr (a7 (a8 3) a9)) d3) a9))))) (g9 (D6 (t8 (o8 (i7 (g5 (jc Mi hr (a7 (a8 4) a9)))) (o9 (jtm p0 (a8 3) d8)))) (j9 (m9 T.x_NoText rfl rfl d8)) y0) (j9 (o6 (d5 (a8 4)))))))),?_⟩
   walk_at "sim"
   exact k
  | bl b =>
   refine⟨_,(g9 (D6 (i7 (g5 (f9 (t9 T.sub) rfl T.b_isinstance e5 (a7 (a8 0) (a7 (p9 rfl T.b_str B0) a9))))) (j9 (m9 T.x_NoText rfl rfl d8)) y0) (g9 (o6 (j4 (V1 PySem.F.slot_str_partition PySem.F.type_str_partition A5 C3 (a8 0) (a7 d8 a9)) (j3 (n:=3) rfl (d6 (jn 1 sc.nd) (d6 (jn 2 sc.nd) (d6 (jn 3 sc.nd) i5)))))) (g9 (o6 (jst 4 sc.nd (h7 (a7 (jc Mg hr (a7 (a8 1) a9)) (a7 (E5 (jtm p0 (a8 2) d8) (jc Mg hr (a7 (a8 3) a9)) d3) a9))))) (g9 (D6 (t8 (o8 (i7 (g5 (jc Mi hr (a7 (a8 4) a9)))) (o9 (jtm p0 (a8 3) d8)))) (j9 (m9 T.x_NoText rfl rfl d8)) y0) (j9 (o6 (d5 (a8 4)))))))),?_⟩
   walk_at "sim"
   exact k
  | int b =>
   refine⟨_,(g9 (D6 (i7 (g5 (f9 (t9 T.sub) rfl T.b_isinstance e5 (a7 (a8 0) (a7 (p9 rfl T.b_str B0) a9))))) (j9 (m9 T.x_NoText rfl rfl d8)) y0) (g9 (o6 (j4 (V1 PySem.F.slot_str_partition PySem.F.type_str_partition A5 C3 (a8 0) (a7 d8 a9)) (j3 (n:=3) rfl (d6 (jn 1 sc.nd) (d6 (jn 2 sc.nd) (d6 (jn 3 sc.nd) i5)))))) (g9 (o6 (jst 4 sc.nd (h7 (a7 (jc Mg hr (a7 (a8 1) a9)) (a7 (E5 (jtm p0 (a8 2) d8) (jc Mg hr (a7 (a8 3) a9)) d3) a9))))) (g9 (D6 (t8 (o8 (i7 (g5 (jc Mi hr (a7 (a8 4) a9)))) (o9 (jtm p0 (a8 3) d8)))) (j9 (m9 T.x_NoText rfl rfl d8)) y0) (j9 (o6 (d5 (a8 4)))))))),?_⟩
   walk_at "sim"
   exact k
  | tup b =>
   refine⟨_,(g9 (D6 (i7 (g5 (f9 (t9 T.sub) rfl T.b_isinstance e5 (a7 (a8 0) (a7 (p9 rfl T.b_str B0) a9))))) (j9 (m9 T.x_NoText rfl rfl d8)) y0) (g9 (o6 (j4 (V1 PySem.F.slot_str_partition PySem.F.type_str_partition A5 C3 (a8 0) (a7 d8 a9)) (j3 (n:=3) rfl (d6 (jn 1 sc.nd) (d6 (jn 2 sc.nd) (d6 (jn 3 sc.nd) i5)))))) (g9 (o6 (jst 4 sc.nd (h7 (a7 (jc Mg hr (a7 (a8 1) a9)) (a7 (E5 (jtm p0 (a8 2) d8) (jc Mg hr (a7 (a8 3) a9)) d3) a9))))) (g9 (D6 (t8 (o8 (i7 (g5 (jc Mi hr (a7 (a8 4) a9)))) (o9 (jtm p0 (a8 3) d8)))) (j9 (m9 T.x_NoText rfl rfl d8)) y0) (j9 (o6 (d5 (a8 4)))))))),?_⟩
   walk_at "sim"
   exact k
  | vl b =>
   refine⟨_,(g9 (D6 (i7 (g5 (f9 (t9 T.sub) rfl T.b_isinstance e5 (a7 (a8 0) (a7 (p9 rfl T.b_str B0) a9))))) (j9 (m9 T.x_NoText rfl rfl d8)) y0) (g9 (o6 (j4 (V1 PySem.F.slot_str_partition PySem.F.type_str_partition A5 C3 (a8 0) (a7 d8 a9)) (j3 (n:=3) rfl (d6 (jn 1 sc.nd) (d6 (jn 2 sc.nd) (d6 (jn 3 sc.nd) i5)))))) (g9 (o6 (jst 4 sc.nd (h7 (a7 (jc Mg hr (a7 (a8 1) a9)) (a7 (E5 (jtm p0 (a8 2) d8) (jc Mg hr (a7 (a8 3) a9)) d3) a9))))) (g9 (D6 (t8 (o8 (i7 (g5 (jc Mi hr (a7 (a8 4) a9)))) (o9 (jtm p0 (a8 3) d8)))) (j9 (m9 T.x_NoText rfl rfl d8)) y0) (j9 (o6 (d5 (a8 4)))))))),?_⟩
   walk_at "sim"
   exact k
  | _=>cases ho
theorem gK(T:Txt K mg w.params)(d:Df K mg "read_part" T5 ["text"])(MQ:Fn P w K mg base "is_part" 3 ["thing"] sJ)(GX_read_ratio:FnX P w K mg base "read_ratio" 3 ["text"] jX):FnX P w K mg base "read_part" 4 ["text"] ph:=by
 have sc:=jG
 refine Q6 d sc (by walk_at "len") (fun f cdv A outer s H E ds M R Y hr h=>?_)
 have hu:=hr.units
 obtain⟨s,rfl,hs,k1,k2⟩:=h
 refine⟨_,(g9 (o6 (j4 (V1 PySem.F.slot_str_partition PySem.F.type_str_partition A5 C3 (a8 0) (a7 d8 a9)) (j3 (n:=3) rfl (d6 (jn 1 sc.nd) (d6 (jn 2 sc.nd) (d6 (jn 3 sc.nd) i5)))))) (g9 (mh (i:=4) sc.nd rfl (Or.inl rfl) (Er (W3 (jt (a8 1)) (W3 (B8 GX_read_ratio (hr.mono (by decide)) rfl (a7 (a8 3) a9)) oG)))) (g9 (D6 (i7 (g5 (jc MQ hr (a7 (a8 4) a9)))) (j9 (m9 T.x_NoText rfl rfl d8)) y0) (j9 (o6 (d5 (a8 4))))))),?_⟩
 walk_at "sim"
 have sl:Str.ofString " " = ⟨#[32]⟩:=by decide +kernel
 rw[sl]
 obtain⟨p1,p2,p3⟩:=sV s 32
 obtain⟨c1,c2⟩:=uh 32 (sg s)
 rw[u6]at c1 c2
 have w1:(Txt.partition s ⟨#[32]⟩).1 = ⟨(A1 32 (sg s)).1.toArray⟩:=bI p1
 rw[w1]
 unfold rdP at k1 k2
 refine⟨by decide,df hs,.inl ⟨_,rfl,by rw[← u6,p3];omega,?_⟩⟩
 rw[p3]
 refine⟨fun q hq=>⟨fun h=>k2 ?_,fun h=>k1 (⟨(A1 32 (sg s)).1.toArray⟩,q) ?_⟩,fun hq=>k2 ?_⟩
 ·rw[hq];show(if K2 _ q=true then _ else _)=_;rw[h];rfl
 ·rw[hq];show(if K2 _ q=true then _ else _)=_;rw[h];rfl
 ·rw[hq]
theorem fA(T:Txt K mg w.params)(d:Df K mg "read_parts" O9 ["text","most"])(GX_read_part:FnX P w K mg base "read_part" 4 ["text"] ph):FnX P w K mg base "read_parts" 5 ["text","most"] du:=by
 have sc:=gv
 refine Q6 d sc (by walk_at "len") (fun f cdv A outer s H E ds M R Y hr h=>?_)
 have hu:=hr.units
 obtain⟨x,n,rfl,k⟩:=h
 rcases k with⟨s,rfl,hs,hn,k1,k2⟩|⟨ho,k⟩
 ·skip
  refine⟨_,(g9 (D6 (i7 (g5 (f9 (t9 T.sub) rfl T.b_isinstance e5 (a7 (a8 0) (a7 (p9 rfl T.b_str B0) a9))))) (j9 (m9 T.x_NoText rfl rfl d8)) y0) (g9 (o6 (f8 (jtm p0 (a8 0) (e7 rfl T.c_NO_PARTS)) (d4 (d5 (M9 a9))) d9)) (g9 (o6 (jst 2 sc.nd (K3 rfl PySem.F.slot_str_split (a8 0) (a7 (e7 rfl T.c_PARTS_APART) a9)))) (g9 (D6 (jtm hZ (f9 C1 rfl T.b_len u8 (a7 (a8 2) a9)) (a8 1)) (j9 (m9 T.x_NoText rfl rfl d8)) y0) (j9 (ay (W4 [] ["part"] [] rfl rfl rfl (by decide +kernel) rfl (by decide +kernel) (by decide +kernel) rfl G3 G3 (w6 (a8 2)) (fun _ _ _ _ _ _=>(jn 0 (show(["part"]:List Str).Nodup by decide +kernel))) (fun _ _ _ _ _ _=>v6) (fun _ _ _ _ _ _=>(B8 GX_read_part (hr.mono (by decide)) rfl (a7 (a8 0) a9)))))))))),?_⟩
  walk_at "sim"
  unfold rdB at k1 k2
  refine⟨fun e=>?_,fun e=>?_⟩
  ·rw[if_pos e]at k1
   exact k1 [] rfl
  rw[if_neg e]at k1 k2
  rw[OU]
  refine⟨by decide +kernel,by rw[sizeLine_eq];omega,fun h=>k2 (if_pos (by omega)),fun h=>?_⟩
  rw[if_neg (show ¬ n<(Txt.split s (Str.ofString "; ")).length by omega)]at k1 k2
  generalize hxs:Txt.split s (Str.ofString "; ")=xs at *
  have short:∀ a∈xs,a.length≤s.length:=fun a ha=>part_short (y:=Str.ofString "; ") (by rw[hxs];exact ha)
  refine⟨fun i ys M'=>M'=M∧∃ ps:List (Str × Rat),(xs.take i).map (fun s=>rdP (sg s))=ps.map some∧ys=ps.map i0,⟨⟨rfl,[],rfl,rfl⟩,fun i ys M' _ w=>by simp only[u9],?_,?_⟩⟩
  ·rintro i d ys M' hd ⟨rfl,ps,e1,rfl⟩
   rw[Py]at hd
   cases hx:xs[i]? with
   | none=>rw[hx]at hd;cases hd
   | some x =>
    rw[hx]at hd
    obtain rfl:D.str x=d:=by simpa using hd
    have hm:=Pn hx
    have hlp:ps.length≤100:=by
     have:=congrArg Qn e1
     rw[OU,OU,PC]at this;omega
    walk_at "sim"
    refine⟨Pa (short x hm) hs,fun p hp=>⟨by rw[OU,sizeLine_eq];omega,ps++[p],?_,by rw[Pt];rfl⟩,fun hp=>k2 (uG hm hp)⟩
    obtain⟨hl,he⟩:=Pc.mp hx
    rw[Pw hl,Pt,Pt,e1,he]
    show _++[rdP (sg x)]=_
    rw[hp];rfl
  ·rintro ys M' ⟨rfl,ps,e1,rfl⟩
   rw[OU,PX]at e1
   exact k1 ps (N4.mpr e1)
 ·cases x with
  | non =>
   refine⟨_,(g9 (D6 (i7 (g5 (f9 (t9 T.sub) rfl T.b_isinstance e5 (a7 (a8 0) (a7 (p9 rfl T.b_str B0) a9))))) (j9 (m9 T.x_NoText rfl rfl d8)) y0) (g9 (o6 (f8 (jtm p0 (a8 0) (e7 rfl T.c_NO_PARTS)) (d4 (d5 (M9 a9))) d9)) (g9 (o6 (jst 2 sc.nd (K3 rfl PySem.F.slot_str_split (a8 0) (a7 (e7 rfl T.c_PARTS_APART) a9)))) (g9 (D6 (jtm hZ (f9 C1 rfl T.b_len u8 (a7 (a8 2) a9)) (a8 1)) (j9 (m9 T.x_NoText rfl rfl d8)) y0) (j9 (ay (W4 [] ["part"] [] rfl rfl rfl (by decide +kernel) rfl (by decide +kernel) (by decide +kernel) rfl G3 G3 (w6 (a8 2)) (fun _ _ _ _ _ _=>(jn 0 (show(["part"]:List Str).Nodup by decide +kernel))) (fun _ _ _ _ _ _=>v6) (fun _ _ _ _ _ _=>(B8 GX_read_part (hr.mono (by decide)) rfl (a7 (a8 0) a9)))))))))),?_⟩
   walk_at "sim"
   exact k
  | bl b =>
   refine⟨_,(g9 (D6 (i7 (g5 (f9 (t9 T.sub) rfl T.b_isinstance e5 (a7 (a8 0) (a7 (p9 rfl T.b_str B0) a9))))) (j9 (m9 T.x_NoText rfl rfl d8)) y0) (g9 (o6 (f8 (jtm p0 (a8 0) (e7 rfl T.c_NO_PARTS)) (d4 (d5 (M9 a9))) d9)) (g9 (o6 (jst 2 sc.nd (K3 rfl PySem.F.slot_str_split (a8 0) (a7 (e7 rfl T.c_PARTS_APART) a9)))) (g9 (D6 (jtm hZ (f9 C1 rfl T.b_len u8 (a7 (a8 2) a9)) (a8 1)) (j9 (m9 T.x_NoText rfl rfl d8)) y0) (j9 (ay (W4 [] ["part"] [] rfl rfl rfl (by decide +kernel) rfl (by decide +kernel) (by decide +kernel) rfl G3 G3 (w6 (a8 2)) (fun _ _ _ _ _ _=>(jn 0 (show(["part"]:List Str).Nodup by decide +kernel))) (fun _ _ _ _ _ _=>v6) (fun _ _ _ _ _ _=>(B8 GX_read_part (hr.mono (by decide)) rfl (a7 (a8 0) a9)))))))))),?_⟩
   walk_at "sim"
   exact k
  | int b =>
   refine⟨_,(g9 (D6 (i7 (g5 (f9 (t9 T.sub) rfl T.b_isinstance e5 (a7 (a8 0) (a7 (p9 rfl T.b_str B0) a9))))) (j9 (m9 T.x_NoText rfl rfl d8)) y0) (g9 (o6 (f8 (jtm p0 (a8 0) (e7 rfl T.c_NO_PARTS)) (d4 (d5 (M9 a9))) d9)) (g9 (o6 (jst 2 sc.nd (K3 rfl PySem.F.slot_str_split (a8 0) (a7 (e7 rfl T.c_PARTS_APART) a9)))) (g9 (D6 (jtm hZ (f9 C1 rfl T.b_len u8 (a7 (a8 2) a9)) (a8 1)) (j9 (m9 T.x_NoText rfl rfl d8)) y0) (j9 (ay (W4 [] ["part"] [] rfl rfl rfl (by decide +kernel) rfl (by decide +kernel) (by decide +kernel) rfl G3 G3 (w6 (a8 2)) (fun _ _ _ _ _ _=>(jn 0 (show(["part"]:List Str).Nodup by decide +kernel))) (fun _ _ _ _ _ _=>v6) (fun _ _ _ _ _ _=>(B8 GX_read_part (hr.mono (by decide)) rfl (a7 (a8 0) a9)))))))))),?_⟩
   walk_at "sim"
   exact k
  | tup b =>
   refine⟨_,(g9 (D6 (i7 (g5 (f9 (t9 T.sub) rfl T.b_isinstance e5 (a7 (a8 0) (a7 (p9 rfl T.b_str B0) a9))))) (j9 (m9 T.x_NoText rfl rfl d8)) y0) (g9 (o6 (f8 (jtm p0 (a8 0) (e7 rfl T.c_NO_PARTS)) (d4 (d5 (M9 a9))) d9)) (g9 (o6 (jst 2 sc.nd (K3 rfl PySem.F.slot_str_split (a8 0) (a7 (e7 rfl T.c_PARTS_APART) a9)))) (g9 (D6 (jtm hZ (f9 C1 rfl T.b_len u8 (a7 (a8 2) a9)) (a8 1)) (j9 (m9 T.x_NoText rfl rfl d8)) y0) (j9 (ay (W4 [] ["part"] [] rfl rfl rfl (by decide +kernel) rfl (by decide +kernel) (by decide +kernel) rfl G3 G3 (w6 (a8 2)) (fun _ _ _ _ _ _=>(jn 0 (show(["part"]:List Str).Nodup by decide +kernel))) (fun _ _ _ _ _ _=>v6) (fun _ _ _ _ _ _=>(B8 GX_read_part (hr.mono (by decide)) rfl (a7 (a8 0) a9)))))))))),?_⟩
   walk_at "sim"
   exact k
  | vl b =>
   refine⟨_,(g9 (D6 (i7 (g5 (f9 (t9 T.sub) rfl T.b_isinstance e5 (a7 (a8 0) (a7 (p9 rfl T.b_str B0) a9))))) (j9 (m9 T.x_NoText rfl rfl d8)) y0) (g9 (o6 (f8 (jtm p0 (a8 0) (e7 rfl T.c_NO_PARTS)) (d4 (d5 (M9 a9))) d9)) (g9 (o6 (jst 2 sc.nd (K3 rfl PySem.F.slot_str_split (a8 0) (a7 (e7 rfl T.c_PARTS_APART) a9)))) (g9 (D6 (jtm hZ (f9 C1 rfl T.b_len u8 (a7 (a8 2) a9)) (a8 1)) (j9 (m9 T.x_NoText rfl rfl d8)) y0) (j9 (ay (W4 [] ["part"] [] rfl rfl rfl (by decide +kernel) rfl (by decide +kernel) (by decide +kernel) rfl G3 G3 (w6 (a8 2)) (fun _ _ _ _ _ _=>(jn 0 (show(["part"]:List Str).Nodup by decide +kernel))) (fun _ _ _ _ _ _=>v6) (fun _ _ _ _ _ _=>(B8 GX_read_part (hr.mono (by decide)) rfl (a7 (a8 0) a9)))))))))),?_⟩
   walk_at "sim"
   exact k
  | _=>cases ho
theorem fD(T:Txt K mg w.params)(d:Df K mg "read_bench" P0 ["text"])(GX_read_parts:FnX P w K mg base "read_parts" 5 ["text","most"] du):FnX P w K mg base "read_bench" 6 ["text"] pj:=by
 have sc:=gw
 refine Q6 d sc (by walk_at "len") (fun f cdv A outer s H E ds M R Y hr h=>?_)
 have hu:=hr.units
 obtain⟨x,rfl,k⟩:=h
 refine⟨_,(j9 (ay (B8 GX_read_parts (hr.mono (by decide)) rfl (a7 (a8 0) (a7 (e7 rfl T.c_MOST_PARTS) a9))))),?_⟩
 walk_at "sim"
 show du [x,.int ((12:Nat):Int)] M R Y
 rw[bw]
 rcases k with⟨s,h1,h2,h3,h4⟩|k
 ·exact .inl ⟨s,h1,h2,by decide,h3,h4⟩
 ·exact .inr k
theorem hJ(T:Txt K mg w.params)(d:Df K mg "_law_asked" Q0 ["bench","rays","x"])(Mt:Fn P w K mg base "_law_bench_text" 2 ["bench"] xJ)(Ms:Fn P w K mg base "few_glasses" 9 ["table"] sN)(MS:Fn P w K mg base "_law_ray_due" 4 ["bench","ray"] jZ)(Md:Fn P w K mg base "_law_text" 1 ["one"] pe)(ME:Fn P w K mg base "_law_plane" 2 ["one"] kb)(Nj:Fn P w K mg base "image" 5 ["table","x"] sL)(Mp:Fn P w K mg base "table_of" 6 ["bench"] fg)(MF:Fn P w K mg base "_law_through" 4 ["bench","ray"] pb)(GX_read_bench:FnX P w K mg base "read_bench" 6 ["text"] pj):Fn P w K mg base "_law_asked" 10 ["bench","rays","x"] pC:=by
 have sc:=gJ
 walk_at "fn"
 obtain⟨bs,y1,u1,y2,u2,x,rfl,⟨hb,h1,h2,hx⟩,k⟩:=h
 have sl:=B2
 have hs:=hb.s
 have hl:=hb.l
 obtain⟨D0,x4⟩:=hb.tab
 obtain⟨t1,t2,t3,t4⟩:=oa x4 (by decide)
 refine⟨_,(d0 (jst 3 sc.nd (jc MF hr (a7 (a8 0) (a7 (h7 (a7 (h7 (a7 d3 (a7 d3 a9))) (a7 (h7 (a7 d3 (a7 d3 a9))) a9))) a9)))) (d0 (jst 4 sc.nd (jc MF hr (a7 (a8 0) (a7 (h7 (a7 (h7 (a7 d3 (a7 d3 a9))) (a7 (h7 (a7 d3 (a7 d3 a9))) a9))) a9)))) (d0 (jst 5 sc.nd (h7 (a7 (jx (a8 3) d3) (a7 (jx (a8 4) d3) (a7 (jx (a8 3) d3) (a7 (jx (a8 4) d3) a9)))))) (d0 (jst 6 sc.nd (M9 (a7 (h7 (a7 d8 (a7 (dU d8 (a7 (K4 [] ["one"] [] rfl (by decide +kernel) rfl (by decide +kernel) (by decide +kernel) rfl G3 G3 (w6 (a8 5)) (fun _ _ _ _ _ _=>(jn 0 (show(["one"]:List Str).Nodup by decide +kernel))) (fun _ _ _ _ _ _=>v6) (fun _ _ _ _ _ _=>(jc Md hr (a7 (a8 0) a9)))) a9)) a9))) a9))) (d0 (jst 7 sc.nd (jc Mp hr (a7 (V2 (jc (FnX.nox GX_read_bench) hr (a7 (jc Mt hr (a7 (a8 0) a9)) a9))) a9))) (d0 (E4 PassesOwn.never rfl (w6 (A6 (a7 (a8 2) (a7 z6 a9)))) (jn 8 sc.nd) (d0 (jst 9 sc.nd (jc Nj hr (a7 (a8 7) (a7 (a8 8) a9)))) (d0 (jst 10 sc.nd (i4 u7 d8 (jc ME hr (a7 (a8 8) a9)))) (d4 (G0 (nF PySem.F.slot_list_append PySem.F.type_list_append O0 (a8 6) (a7 (h7 (a7 (a8 10) (a7 (i4 u7 (i4 u7 (jc ME hr (a7 (jx (a8 9) d3) a9)) d8) (jc ME hr (a7 (jx (a8 9) d3) a9))) a9))) a9))))))) (d0 (E4 PassesOwn.never rfl (w6 (a8 1)) (jn 11 sc.nd) (d0 (jst 10 sc.nd (i4 u7 (i4 u7 (i4 u7 d8 (jc Md hr (a7 (jx (a8 11) d3) a9))) d8) (jc Md hr (a7 (jx (a8 11) d3) a9)))) (d4 (G0 (nF PySem.F.slot_list_append PySem.F.type_list_append O0 (a8 6) (a7 (h7 (a7 (a8 10) (a7 (jc MS hr (a7 (a8 0) (a7 (a8 11) a9))) a9))) a9)))))) (d4 (d5 (yK (L0 (V2 (a8 6)) (A6 (a7 (h7 (a7 d8 (a7 (jc Mt hr (a7 (V2 (jc Ms hr (a7 (a8 7) a9))) a9)) a9))) a9))))))))))))),?_⟩
 walk_at "sim"
 refine⟨⟨by omega,by omega,KZ⟩,⟨by omega,by omega,KY⟩,?_⟩
 refine J5 (xs:=[(i3 bs (1,0)).1,(i3 bs (0,1)).1,(i3 bs (1,0)).2,(i3 bs (0,1)).2]) (enc:=e8) (fun q=>D.str (rtx q)) (by show 4≤1000;decide) (by simp only[A0]) (fun q hq Q hQ=>?_) ?_
 ·walk_at "sim"
  refine⟨?_,hQ⟩
  simp only[Pb,Pj,or_false]at hq
  rcases hq with rfl|rfl|rfl|rfl<;>omega
 refine⟨_,_,[rtx (i3 bs (1,0)).1,rtx (i3 bs (0,1)).1,rtx (i3 bs (1,0)).2,rtx (i3 bs (0,1)).2],rfl,rfl,rfl,?_,fun p hp=>⟨⟨hl,fun x hx=>(hb.p x hx).b⟩,.inl ⟨_,rfl,?_,fun bs' e l hl2=>?_,fun e=>?_⟩⟩⟩
 ·have g1:=p8 (q:=(i3 bs (1,0)).1) (by omega)
  have g2:=p8 (q:=(i3 bs (0,1)).1) (by omega)
  have g3:=p8 (q:=(i3 bs (1,0)).2) (by omega)
  have g4:=p8 (q:=(i3 bs (0,1)).2) (by omega)
  exact⟨by show(rtx _).length+((rtx _).length+((rtx _).length+((rtx _).length+0)))+4≤1048576;omega,by decide +kernel⟩
 ·have:=vm (fun x hx=>(hb.p x hx).b) hl
  omega
 ·rw[og (fun x hx=>⟨(hb.p x hx).b.word,(hb.p x hx).b.may,(hb.p x hx).gr⟩) hl]at e
  cases e
  refine aw hl2 ?_
  walk_at "sim"
  refine⟨by omega,?_⟩
  have one:∀{ds:List D} {d:D},(∀ d∈ds,gj bs d)→gj bs d→∀ e∈ds++[d],gj bs e:=fun a b e he=>by
   rcases Pq.mp he with he|he
   ·exact a e he
   ·rw[PB.mp he];exact b
  refine cZ.by (fun i e M'=>∃(ds:List D) (z1 z2 z3 z4:Option D),M'=q9 M p (.lst ds)∧ds.length=1+i∧(∀ d∈ds,gj bs d)∧e=[some (D.vl (QK i0 bs)),some (D.vl [y3 y1 u1,y3 y2 u2]),some (e8 x),some (y3 (i3 bs (1,0)).fst (i3 bs (1,0)).snd),some (y3 (i3 bs (0,1)).fst (i3 bs (0,1)).snd),some (D.tup [e8 (i3 bs (1,0)).fst,e8 (i3 bs (0,1)).fst,e8 (i3 bs (1,0)).snd,e8 (i3 bs (0,1)).snd]),some (D.ref p),some (FT bs),z1,z2,z3,z4]) ⟨_,_,_,_,_,rfl,rfl,fun d hd=>?_,rfl⟩ (fun i e M' _ _=>by simp only[u9]) ?_ ?_
  ·rw[PB.mp hd]
   exact⟨_,_,_,_,rfl,uE,.inl ⟨rfl,rfl⟩⟩
  ·rintro i dd e M1 hd ⟨ds,z1,z2,z3,z4,rfl,hdl,hda,rfl⟩
   have hi:i<2:=(Pc.mp hd).1
   obtain⟨o,ho,rfl⟩:∃ o:Option Rat,(∀ q,o=some q→sz q≤41)∧dd=af o:=by
    have hm:=Pn hd
    simp only[Pb,Pj,or_false]at hm
    rcases hm with rfl|rfl
    ·exact⟨some x,fun q e=>by cases e;exact hx,rfl⟩
    ·exact⟨none,fun q e=>(by cases e),rfl⟩
   obtain⟨i1,i2⟩:=Kn x4 ho
   have o1:=sW (o:=o) fun q e=>fT (by have:=ho q e;omega)
   have o2:(otx (imP (i3 bs (1,0)).1 (i3 bs (0,1)).1 (i3 bs (1,0)).2 (i3 bs (0,1)).2 o)).length≤1050:=EE i1
   have o3:(otx (shP (i3 bs (1,0)).2 (i3 bs (0,1)).2 o)).length≤1050:=EE i2
   have s6:(Str.ofString "image ").length=6:=by decide +kernel
   have s1:(Str.ofString " ").length=1:=by decide +kernel
   walk_at "sim"
   refine⟨_,_,_,_,_,rfl,o,rfl,⟨⟨t1,t2,t3,t4⟩,ho⟩,o,rfl,fun q e=>by have:=ho q e;omega,by omega,gg h8 ⟨_,rfl,_,rfl,i1,by omega,_,rfl,_,rfl,i2,by rw[i9];omega,lq h8 (by omega) ?_⟩⟩
   exact⟨_,_,_,_,_,eN,by rw[Pl];show ds.length+1=_;omega,one hda ⟨_,_,_,_,rfl,BE (o:=o) (fun q e=>fT (by have:=ho q e;omega)),.inr (.inl ⟨rfl,o,rfl,ho,rfl⟩)⟩,rfl⟩
  ·rintro e M1 ⟨ds,z1,z2,z3,z4,rfl,hdl,hda,rfl⟩
   walk_at "sim"
   refine cZ.by (fun i e M'=>∃(ds:List D) (z1 z2 z3 z4:Option D),M'=q9 M p (.lst ds)∧ds.length=3+i∧(∀ d∈ds,gj bs d)∧e=[some (D.vl (QK i0 bs)),some (D.vl [y3 y1 u1,y3 y2 u2]),some (e8 x),some (y3 (i3 bs (1,0)).fst (i3 bs (1,0)).snd),some (y3 (i3 bs (0,1)).fst (i3 bs (0,1)).snd),some (D.tup [e8 (i3 bs (1,0)).fst,e8 (i3 bs (0,1)).fst,e8 (i3 bs (1,0)).snd,e8 (i3 bs (0,1)).snd]),some (D.ref p),some (FT bs),z1,z2,z3,z4]) ⟨_,_,_,_,_,rfl,hdl,hda,rfl⟩ (fun i e M' _ _=>by simp only[u9]) ?_ ?_
   ·rintro i dd e M1 hd ⟨ds,z1,z2,z3,z4,rfl,hdl,hda,rfl⟩
    have hi:i<2:=(Pc.mp hd).1
    obtain⟨y,u,hy,rfl⟩:∃ y u:Rat,(sz y≤41∧sz u≤41)∧dd=y3 y u:=by
     have hm:=Pn hd
     simp only[Pb,Pj,or_false]at hm
     rcases hm with rfl|rfl
     ·exact⟨y1,u1,h1,rfl⟩
     ·exact⟨y2,u2,h2,rfl⟩
    obtain⟨t,ht⟩:=cp.ex bs y u
    have g1:Gr y:=fT (by omega)
    have g2:Gr u:=fT (by omega)
    have o1:=N0 g1
    have o2:=N0 g2
    have s4:(Str.ofString "ray ").length=4:=by decide +kernel
    have s1:(Str.ofString " ").length=1:=by decide +kernel
    walk_at "sim"
    refine⟨by omega,by omega,by rw[i9];omega,by omega,by rw[i9,i9];omega,gg h8 ⟨⟨hb,hy⟩,t,ht,lq h8 (by omega) ?_⟩⟩
    exact⟨_,_,_,_,_,eN,by rw[Pl];show ds.length+1=_;omega,one hda ⟨_,_,_,_,rfl,BC g1 g2,.inr (.inr (.inl ⟨rfl,y,u,rfl,hy,ht⟩))⟩,rfl⟩
   ·rintro e M1 ⟨ds,z1,z2,z3,z4,rfl,hdl,hda,rfl⟩
    walk_at "sim"
    have dt:=ua bs
    obtain⟨f1,f2⟩:=tW x4 (by decide) dt
    refine⟨p,_,rfl,h8,?_⟩
    rw[nP hp]
    refine⟨_,_,_,_,rfl,⟨⟨D0,x4⟩,dt⟩,fun p2 hp2=>aw hp2 ⟨_,rfl,⟨by omega,fun x hx=>?_⟩,?_⟩⟩
    ·obtain⟨kd,sz'⟩:=f1 x hx
     exact⟨by rcases kd with kd|kd;exact .inl kd;exact .inr (.inl kd),by omega⟩
    walk_at "sim"
    have hdl:ds.length=5:=hdl
    rw[v9 (by omega)]
    exact qw (M2:=M) (fun a o h=>h) (k _ (by rw[Pl];show ds.length+1=6;omega) (one hda ⟨_,_,_,_,rfl,mO,.inr (.inr (.inr ⟨rfl,rfl⟩))⟩))
 ·rw[og (fun x hx=>⟨(hb.p x hx).b.word,(hb.p x hx).b.may,(hb.p x hx).gr⟩) hl]at e
  cases e
theorem kF(T:Txt K mg w.params)(d:Df K mg "_law_next" U2 ["pool","base"]):Fn P w K mg base "_law_next" 1 ["pool","base"] bF:=by
 have sc:=jN
 refine j6 d sc (fun ds M R Y h=>?_) (fun f cdv A outer s H E ds M R Y hr h=>?_)
 ·obtain⟨p,b,rfl,_⟩:=h;rfl
 ·obtain⟨p,b,rfl,⟨x,y,z,hM⟩,hb,hl,k⟩:=h
  refine⟨_,(d0 (f8 (jtm hZ (jx (a8 0) d3) d3) (d0 (jst 2 sc.nd (i4 cJ (jx (a8 0) d3) (a8 1))) (d0 (j4 (i4 bW (jx (a8 0) d3) (a8 1)) (tF (a8 0) d3)) (d4 (d5 (a8 2))))) d9) (d0 (j4 (i4 U9 (jx (a8 0) d3) d3) (tF (a8 0) d3)) (d0 (jst 3 sc.nd (i4 cJ (i4 U9 (jx (a8 0) d3) (i4 D2 d3 (jx (a8 0) d3))) d3)) (d0 (jst 4 sc.nd (i4 cJ (i4 D2 (i4 U9 (a8 3) d3) (i4 U9 (a8 3) d3)) d3)) (d4 (d5 (i4 cJ (i4 bW (i4 cJ (i4 D2 (a8 4) (a8 4)) d3) d3) (a8 1)))))))),?_⟩
  refine⟨_,rfl,_,X9 hM rfl,_,rfl,_,rfl,?_⟩
  refine HG (fun h0=>?_) (fun h0=>?_)
  ·refine⟨_,rfl,_,X9 hM rfl,_,rfl,_,_,rfl,rfl,hb,?_⟩
   refine⟨_,rfl,_,X9 hM rfl,_,rfl,_,_,rfl,rfl,⟨by omega,hl⟩,_,rfl,_,_,_,_,rfl,rfl,hM,rfl,?_⟩
   exact⟨_,rfl,k _ _ (QY _ (by omega)) (QI _ hb) (A2.upd _ _ _)⟩
  ·refine⟨_,rfl,_,X9 hM rfl,_,rfl,_,rfl,_,_,_,_,rfl,rfl,hM,rfl,?_⟩
   refine⟨_,rfl,_,X9 h8 rfl,_,rfl,_,X9 h8 rfl,_,_,rfl,rfl,Hq (by decide) (by decide),_,rfl,_,_,rfl,rfl,(by show(0:Int)<1000000007;decide),?_⟩
   refine⟨_,rfl,_,rfl,_,rfl,_,rfl,_,_,rfl,rfl,LI (by decide) (by decide) (by decide) (by decide),_,_,rfl,rfl,(by show(0:Int)<998244353;decide),?_⟩
   refine⟨_,rfl,_,rfl,_,_,rfl,rfl,Kf (by decide) (by decide),_,_,rfl,rfl,(by show(0:Int)<2147483647;decide),_,_,rfl,rfl,LU,_,rfl,_,_,rfl,rfl,hb,?_⟩
   exact k _ _ (QY _ (by omega)) (QI _ hb) (A2.upd _ _ _)
theorem fK(T:Txt K mg w.params)(d:Df K mg "_law_number" M0 ["pool"])(Mh:Fn P w K mg base "_law_ratio" 1 ["top","bottom"] Y7)(Me:Fn P w K mg base "_law_next" 1 ["pool","base"] bF):Fn P w K mg base "_law_number" 2 ["pool"] aC:=by
 have sc:=fc
 walk_at "fn"
 obtain⟨p,rfl,hp,k⟩:=h
 refine⟨_,(d0 (jst 1 sc.nd (jc Me hr (a7 (a8 0) (a7 d3 a9)))) (d0 (f8 (jtm S4 (a8 1) d3) (d4 (d5 (h7 (a7 (i4 fL (jc Me hr (a7 (a8 0) (a7 d3 a9))) d3) (a7 d3 a9))))) d9) (d0 (f8 (jtm S4 (a8 1) d3) (d4 (d5 (jc Mh hr (a7 (i4 fL (jc Me hr (a7 (a8 0) (a7 d3 a9))) d3) (a7 (i4 U9 d3 (jc Me hr (a7 (a8 0) (a7 d3 a9)))) a9))))) d9) (d0 (jst 2 sc.nd (i4 fL (jc Me hr (a7 (a8 0) (a7 (i4 jd d3 d3) a9))) (jc Me hr (a7 (a8 0) (a7 (i4 jd d3 d3) a9))))) (d4 (d5 (jc Mh hr (a7 (a8 2) (a7 (i4 U9 d3 (jc Me hr (a7 (a8 0) (a7 (i4 jd d3 d3) a9)))) a9))))))))),?_⟩
 walk_at "sim"
 have e12:(10:Int) ^ SK 12=1000000000000:=by decide
 have e9:(10:Int) ^ SK 9=1000000000:=by decide
 have c9:Am 10 9:=⟨by decide,by decide,by decide⟩
 rw[e12,e9]
 refine⟨hp,by decide,fun r M1 r0 r9 s1=>⟨fun _=>⟨s1.pool,by decide,fun t M2 t0 t7 s2=>?_⟩,fun _=>⟨fun _=>⟨s1.pool,by decide,fun t M2 t0 t1 s2=>⟨s2.pool,by decide,fun u M3 u0 u1 s3=>⟨by omega,?_,?_⟩⟩⟩,fun _=>⟨KS,s1.pool,by decide,by decide,fun t M2 t0 t1 s2=>⟨KS,s2.pool,by decide,by decide,fun u M3 u0 u1 s3=>⟨c9,s3.pool,by decide,by decide,fun v M4 v0 v1 s4=>⟨by omega,?_,?_⟩⟩⟩⟩⟩⟩⟩
 ·have e:=k ((t - 3:Int):Rat) M2 (xo (by decide) (by omega)) (s1.trans s2)
  rw[mQ]at e
  exact e
 ·exact ai (k:=9000) (OV (show(1+u).natAbs<2 ^ 5 by omega) (Pp (by decide) (by decide))) (by decide)
 ·exact k _ _ (pW (by decide) (by omega) (by omega) (by omega)) (s1.trans (s2.trans s3))
 ·exact ai (k:=9000) (OV (show(1+v).natAbs<2 ^ 40 by omega) (Pp (by decide) (by decide))) (by decide)
 ·exact k _ _ (pW (by decide) (by omega) (by omega) (by omega)) (s1.trans (s2.trans (s3.trans s4)))
theorem gM(T:Txt K mg w.params)(d:Df K mg "whole_text" O5 ["number"]):Fn P w K mg base "whole_text" 1 ["number"] Ge:=by
 have sc:=gn
 walk_at "fn"
 obtain⟨n,rfl,hn,k⟩:=h
 have sl:=B2
 have tl:=G4 (n:=(n.natAbs:Int)) (k:=5000) (by decide) (by rw[OZ];exact hn)
 refine⟨_,(d0 (jst 1 sc.nd (i4 jd d3 d3)) (d0 (jst 2 sc.nd (f9 E9 rfl T.b_abs B5 (a7 (a8 0) a9))) (d0 (jst 3 sc.nd (M9 a9)) (d0 (cf PassesOwn.never (jtm Co (a8 2) (a8 1)) (d0 (j4 (f9 Aa rfl T.b_divmod vn (a7 (a8 2) (a7 (a8 1) a9))) (j3 (n:=2) rfl (d6 (jn 2 sc.nd) (d6 (jn 4 sc.nd) i5)))) (d4 (G0 (nF PySem.F.slot_list_append PySem.F.type_list_append O0 (a8 3) (a7 (V1 PySem.F.slot_str_zfill PySem.F.type_str_zfill yB BL (J2 cn rfl T.b_str B0 (a7 (a8 4) a9)) (a7 d3 a9)) a9)))))) (d0 (G0 (nF PySem.F.slot_list_append PySem.F.type_list_append O0 (a8 3) (a7 (J2 cn rfl T.b_str B0 (a7 (a8 2) a9)) a9))) (d4 (d5 (yK (i4 u7 (E5 (jtm S4 (a8 0) d3) d8 d8) (yJ rfl rfl T.b_reversed oh d8 (a8 3))))))))))),?_⟩
 walk_at "sim"
 refine⟨⟨by decide,by decide,by decide⟩,fun p hp=>?_⟩
 refine uo (fun m e M'=>∃(r:Nat) (ps:List Str) (z:Option D),m=r∧e=[some (D.int n),some (D.int (10 ^ SK 60)),some (D.int (r:Int)),some (D.ref p),z]∧M'=q9 M p (.lst (ps.map D.str))∧sg (tx (n.natAbs:Int))=sg (tx (r:Int))++(ps.reverse.map sg).flatten∧(∀ y∈ps,y.length≤60)∧60*ps.length+(tx (r:Int)).length≤5001) n.natAbs ⟨n.natAbs,[],none,rfl,rfl,rfl,by simp,fun y hy=>(by cases hy),by simpa using tl⟩ ?_
 rintro m e M' ⟨r,ps,z,rfl,rfl,rfl,h1,h2,h3⟩
 walk_at "sim"
 rw[Bp]
 have lg:∀ x:Nat,x<10 ^ 60→((x:Int)).natAbs.log2<1920:=fun x hx=>by
  rw[OZ]
  exact ai (k:=1920) (OV hx (Pa (show 10 ^ 60≤2 ^ 200 by decide +kernel) (Pp (by decide) (by decide)))) (by decide)
 have hps:ps.length≤100:=by omega
 have md:m % 10 ^ 60<10 ^ 60:=RR _ (by decide)
 rw[Kx,Kw]
 refine⟨fun h=>⟨⟨by decide +kernel,by decide +kernel⟩,gg h8 ⟨lg _ md,60,rfl,by decide +kernel,lq h8 (by rw[OU];omega) ?_⟩⟩,fun h=>gg h8 ⟨lg _ ?_,lq h8 (by rw[OU];omega) ?_⟩⟩
 ·have hm:10 ^ 60≤m:=Int.ofNat_le.mp h
  have hd:m / 10 ^ 60<m:=Nat.div_lt_self (OV (by decide) hm) (by decide)
  obtain⟨l1,l2⟩:=FC hm
  refine⟨m / 10 ^ 60,hd,m / 10 ^ 60,ps++[Txt.zfill (tx ((m % 10 ^ 60:Nat):Int)) 60],_,rfl,rfl,by rw[eN,Pt];rfl,?_,?_,?_⟩
  ·rw[Rb,h1,xh hm]
   show sg (_++_)++_=_++(sg _++(ps.reverse.map sg).flatten)
   rw[show ∀ a b:Str,sg (a++b)=sg a++sg b from fun a b=>Array.toList_append,Qe]
  ·intro y hy
   rcases Pq.mp hy with q|q
   ·exact h2 y q
   ·rw[PB.mp q];omega
  ·rw[Pl]
   show 60*(ps.length+1)+_≤5001
   omega
 ·have:¬ ((10 ^ 60:Nat):Int)≤(m:Int):=h
  omega
 ·have ks:=jy n
  have jn:Txt.join (Str.ofString "") (ps++[tx (m:Int)]).reverse=tx (n.natAbs:Int):=bI (by
   rw[Cu,Rb,h1];rfl)
  have it:F3 (q9 (q9 M p (.lst (ps.map D.str))) p (.lst (ps.map D.str++[D.str (tx (m:Int))]))) (D.ref p)=some ((ps++[tx (m:Int)]).map D.str):=by
   simp only[F3,h8,Pt];rfl
  have sm:cq (Str.ofString "") ((ps++[tx (m:Int)]).reverse):=by
   refine⟨?_,by decide +kernel⟩
   have:=yF h2
   rw[Sa,RA,List.sum_reverse,Pt,List.sum_append,Pl]
   show _+((tx (m:Int)).length+0)+(ps.length+1)≤1048576
   omega
  have kp:Exd M (q9 (q9 M p (.lst (ps.map D.str))) p (.lst (ps.map D.str++[D.str (tx (m:Int))]))):=fun a o h=>by
   have ne:a≠p:=fun e=>by rw[e,hp]at h;cases h
   rw[j5 ne,j5 ne];exact h
  refine⟨fun hneg=>⟨_,_,rfl,it,sm,?_,qw (M2:=M) kp ?_⟩,fun hneg=>⟨_,_,rfl,it,sm,?_,qw (M2:=M) kp ?_⟩⟩
  ·rw[jn,show(Str.ofString "-").length=1 by decide +kernel];omega
  ·rw[if_pos hneg]at ks
   rw[jn,ks];exact k
  ·rw[jn,show(Str.ofString "").length=0 by decide +kernel];omega
  ·rw[if_neg hneg]at ks
   rw[jn,ks];exact k
theorem gP(T:Txt K mg w.params)(d:Df K mg "ratio_text" P1 ["one"])(MG:Fn P w K mg base "whole_text" 1 ["number"] Ge)(Mi:Fn P w K mg base "is_ratio" 2 ["thing"] fj):Fn P w K mg base "ratio_text" 3 ["one"] Bz:=by
 have sc:=gy
 walk_at "fn"
 obtain⟨q,rfl,⟨hn,hd⟩,k⟩:=h
 have h1:=G4 (n:=q.num) (k:=5000) (by decide) hn
 have h2:=G4 (n:=(q.den:Int)) (k:=5000) (by decide) (by rw[OZ];exact hd)
 have sl:=B2
 have e1:(Str.ofString "/").length=1:=by decide +kernel
 refine⟨_,(d0 (f8 (i7 (g5 (jc Mi hr (a7 (a8 0) a9)))) (d4 y4) d9) (d0 (j4 (a8 0) (j3 (n:=2) rfl (d6 (jn 1 sc.nd) (d6 (jn 2 sc.nd) i5)))) (d0 (f8 (jtm F9 (a8 2) d3) (d4 (d5 (jc MG hr (a7 (a8 1) a9)))) d9) (d4 (d5 (i4 u7 (i4 u7 (jc MG hr (a7 (a8 1) a9)) d8) (jc MG hr (a7 (a8 2) a9)))))))),?_⟩
 walk_at "sim"
 refine⟨rfl,fun h=>(by rw[nH]at h;cases h),fun _=>⟨fun h=>⟨hn,?_⟩,fun h=>⟨hn,by omega,by rw[OZ];exact hd,by rw[i9];omega,?_⟩⟩⟩
 ·have k:R (.str (rtx q)) M:=k
  unfold rtx at k
  rw[if_pos (by omega)]at k;exact k
 ·have k:R (.str (rtx q)) M:=k
  unfold rtx at k
  rw[if_neg (by omega)]at k;exact k
theorem kz(T:Txt K mg w.params)(d:Df K mg "part_text" T7 ["part"])(My:Fn P w K mg base "ratio_text" 3 ["one"] Bz)(MQ:Fn P w K mg base "is_part" 3 ["thing"] sJ):Fn P w K mg base "part_text" 4 ["part"] Gf:=by
 have sc:=jI
 walk_at "fn"
 obtain⟨x,rfl,hx,k⟩:=h
 have h1:=F0 hx.word
 have h2:=p8 hx.sz
 have sl:=B2
 have e1:(Str.ofString " ").length=1:=by decide +kernel
 refine⟨_,(d0 (f8 (i7 (g5 (jc MQ hr (a7 (a8 0) a9)))) (d4 y4) d9) (d4 (d5 (i4 u7 (i4 u7 (jx (a8 0) d3) d8) (jc My hr (a7 (jx (a8 0) d3) a9)))))),?_⟩
 walk_at "sim"
 refine⟨x.1,x.2,rfl,?_⟩
 unfold aU
 rw[nD hx.kind]
 walk_at "sim"
 exact⟨by omega,Ft hx.sz,by rw[i9];omega,k⟩
theorem gT(T:Txt K mg w.params)(d:Df K mg "bench_text" P4 ["bench"])(Nc:Fn P w K mg base "part_text" 4 ["part"] Gf):Fn P w K mg base "bench_text" 5 ["bench"] xJ:=by
 have sc:=gB
 walk_at "fn"
 obtain⟨bs,rfl,⟨hl,hp⟩,k⟩:=h
 refine⟨_,(d0 (f8 (i7 (g5 (f9 (Ii T.sub) rfl T.b_isinstance e5 (a7 (a8 0) (a7 (h7 (a7 (p9 rfl T.b_list CY) (a7 (p9 rfl T.b_tuple B1) a9))) a9))))) (d4 y4) d9) (d0 (f8 (jtm F9 (f9 C1 rfl T.b_len u8 (a7 (a8 0) a9)) d3) (d4 (d5 (e7 rfl T.c_NO_PARTS))) d9) (d4 (d5 (dU d8 (a7 (K4 [] ["part"] [] rfl (by decide +kernel) rfl (by decide +kernel) (by decide +kernel) rfl G3 G3 (w6 (a8 0)) (fun _ _ _ _ _ _=>(jn 0 (show(["part"]:List Str).Nodup by decide +kernel))) (fun _ _ _ _ _ _=>v6) (fun _ _ _ _ _ _=>(jc Nc hr (a7 (a8 0) a9)))) a9)))))),?_⟩
 walk_at "sim"
 rw[OU]
 refine⟨fun h=>?_,fun h=>?_⟩
 ·have:bs=[]:=List.eq_nil_of_length_eq_zero (by omega)
  rw[this,kX]at k;exact k
 ·have ne:bs≠[]:=fun e=>h (by rw[e];rfl)
  unfold btx at k
  rw[if_neg ne]at k
  have ps:=iX hp
  refine J5 (fun x=>D.str (ptx x)) (by omega) (by first|simp only[u9]|simp only[A0]) (fun x hx Q hQ=>?_) ?_
  ·walk_at "sim"
   exact⟨hp x hx,hQ⟩
  ·exact⟨_,_,bs.map ptx,rfl,rfl,by show some _=some _;rw[Qb];rfl,⟨by rw[OU];omega,by decide +kernel⟩,k⟩
theorem fF(T:Txt K mg w.params)(d:Df K mg "ratio_texts" L6 ["ratios"])(My:Fn P w K mg base "ratio_text" 3 ["one"] Bz):Fn P w K mg base "ratio_texts" 4 ["ratios"] sG:=by
 have sc:=eX
 walk_at "fn"
 obtain⟨d,rfl,os,rfl,⟨hl,hz⟩,k⟩:=h
 refine⟨_,(d4 (d5 (dU d8 (a7 (K4 [] ["one"] [] rfl (by decide +kernel) rfl (by decide +kernel) (by decide +kernel) rfl G3 G3 (w6 (a8 0)) (fun _ _ _ _ _ _=>(jn 0 (show(["one"]:List Str).Nodup by decide +kernel))) (fun _ _ _ _ _ _=>v6) (fun _ _ _ _ _ _=>(E5 (jtm hV (a8 0) z6) d8 (jc My hr (a7 (a8 0) a9))))) a9)))),?_⟩
 walk_at "sim"
 refine J5 (fun o=>D.str (otx o)) (by omega) (by simp only[A0]) (fun o ho Q hQ=>?_) ?_
 ·cases o with
  | none =>
   rw[show af none=D.non from rfl]
   walk_at "sim"
   rw[gk (b:=true) rfl]
   walk_at "sim"
   exact hQ
  | some q =>
   rw[show af (some q)=e8 q from rfl]
   walk_at "sim"
   rw[gk (b:=false) rfl]
   walk_at "sim"
   exact⟨Ft (hz _ ho q rfl),hQ⟩
 ·have sm:=yq hz
  exact⟨_,_,os.map otx,rfl,rfl,by show some _=some _;rw[Qb];rfl,⟨by rw[OU];omega,by decide +kernel⟩,k⟩
theorem mZ(T:Txt K mg w.params)(d:Df K mg "unsigned" Z0 ["one"]):Fn P w K mg base "unsigned" 1 ["one"] xr:=by
 have sc:=mw
 walk_at "fn"
 obtain⟨q,rfl,k⟩:=h
 refine⟨_,(d4 (d5 (h7 (a7 (f9 E9 rfl T.b_abs B5 (a7 (jx (a8 0) d3) a9)) (a7 (jx (a8 0) d3) a9))))),?_⟩
 walk_at "sim"
 exact k
theorem gN(T:Txt K mg w.params)(d:Df K mg "stopped_by" O6 ["bench","ray"])(Mq:Fn P w K mg base "led_by_part" 5 ["part","ray"] fi)(Mz:Fn P w K mg base "less" 1 ["one","other"] bG)(Np:Fn P w K mg base "unsigned" 1 ["one"] xr):Fn P w K mg base "stopped_by" 6 ["bench","ray"] xC:=by
 have sc:=gp
 walk_at "fn"
 obtain⟨bs,y,u,rfl,⟨hb,cd⟩,k⟩:=h
 refine⟨_,(d0 (jst 2 sc.nd (a8 1)) (d0 (E4 PassesOwn.never rfl (nE rfl T.b_enumerate (a7 (a8 0) a9)) (j3 (n:=2) rfl (d6 (jn 3 sc.nd) (d6 (jn 4 sc.nd) i5))) (d0 (f8 (t8 (aj (jtm p0 (jx (a8 4) d3) d8) (bg (g5 (jc Mz hr (a7 (jx (a8 4) d3) (a7 (jc Np hr (a7 (jx (a8 2) d3) a9)) a9))))))) (d4 (d5 (a8 3))) d9) (d4 (jst 2 sc.nd (jc Mq hr (a7 (a8 4) (a7 (a8 2) a9))))))) (d4 (d5 z6)))),?_⟩
 walk_at "sim"
 refine cZ.by (fun i e M'=>M'=M∧(∃ z1 z2:Option D,e=[some _,some (y3 y u),some (y3 (i3 (bs.take i) (y,u)).1 (i3 (bs.take i) (y,u)).2),z1,z2])∧∀ j,j<i→¬ p6 bs (y,u) j) ⟨rfl,⟨_,_,rfl⟩,fun j z=>absurd z (SM j)⟩ (fun i e M' _ _=>by simp only[u9,A0]) ?_ ?_
 ·rintro i dd e M' hd ⟨rfl,⟨z1,z2,rfl⟩,hno⟩
  obtain⟨de,hde,rfl⟩:=nM hd
  obtain⟨pt,hpt,rfl⟩:=N5 hde
  have hm:=Pn hpt
  have t2:=(V5 (bs:=bs.take i) cd).t2
  have ss:=(hb.take i).s
  have q1:=t2.y
  have q1':=t2.u
  have q2:=(hb.p pt hm).sz
  have go:∀(hn:¬ p6 bs (y,u) i),∀ j,j<i+1→¬ p6 bs (y,u) j:=fun hn j hj=>by
   rcases Rt.mp hj with z|z
   ·exact hno j z
   ·rw[z];exact hn
  walk_at "sim"
  rw[← U7 hpt]
  refine⟨fun h1=>⟨by walk_at "size",fun h2=>k _ (.inl ⟨i,⟨pt,hpt,h1,h2⟩,hno,rfl⟩),fun h2=>⟨by walk_at "size",⟨_,_,rfl⟩,go fun⟨x,e,_,e3⟩=>h2 (by rw[hpt]at e;cases e;exact e3)⟩⟩,fun h1=>⟨by walk_at "size",⟨_,_,rfl⟩,go fun⟨x,e,e2,_⟩=>h1 (by rw[hpt]at e;cases e;exact e2)⟩⟩
 ·rw[J3,OU]
  rintro e M' ⟨rfl,⟨z1,z2,rfl⟩,hno⟩
  walk_at "sim"
  exact k _ (.inr ⟨tf hno,rfl⟩)
theorem ni(T:Txt K mg w.params)(d:Df K mg "ray_text" Z3 ["bench","ray"])(Mr:Fn P w K mg base "ratio_texts" 4 ["ratios"] sG)(Nl:Fn P w K mg base "led" 4 ["table","ray"] xF)(Mp:Fn P w K mg base "table_of" 6 ["bench"] fg)(MX:Fn P w K mg base "stopped_by" 6 ["bench","ray"] xC):Fn P w K mg base "ray_text" 7 ["bench","ray"] pq:=by
 have sc:=mB
 walk_at "fn"
 obtain⟨bs,y,u,rfl,⟨hb,hy,hu⟩,t,ht,k⟩:=h
 have cd:CD 90 y 0 u 0:=(CD.ray hy hu).mono (by decide)
 have sl:=B2
 have s1:(Str.ofString "stopped ").length=8:=by decide +kernel
 have s0:Str.empty.length=0:=by decide +kernel
 have s2:(Str.ofString "out ").length=4:=by decide +kernel
 have cs:=V5 (bs:=bs) cd
 have hs:=hb.s
 have z1:=cs.t2.y
 have z2:=cs.t2.u
 refine⟨_,(d0 (jst 2 sc.nd (jc MX hr (a7 (a8 0) (a7 (a8 1) a9)))) (d0 (f8 (jtm Cn (a8 2) z6) (d4 (d5 (Kj (HA (Hz (a8 2) HB))))) d9) (d4 (d5 (i4 u7 d8 (jc Mr hr (a7 (jc Nl hr (a7 (jc Mp hr (a7 (a8 0) a9)) (a7 (a8 1) a9))) a9))))))),?_⟩
 walk_at "sim"
 refine⟨⟨hb,cd⟩,fun v hv=>?_⟩
 rcases hv with⟨i,a,b,rfl⟩|⟨a,rfl⟩
 ·rw[gk (b:=false) rfl]
  walk_at "sim"
  have hi:i<12:=by
   obtain⟨x,e,_⟩:=id a
   have:=(Pc.mp e).1
   have:=hb.l;omega
  have tl:=G4 (n:=(i:Int)) (k:=2) (by decide) (by rw[OZ];omega)
  have tl:(Str.ofString (toString (i:Int))).length≤3:=tl
  have e0:Str.empty++Str.ofString "stopped " = Str.ofString "stopped " := tj _
  rw[e0,cp.one ht (.inl ⟨i,a,b,rfl⟩)]at *
  refine⟨by omega,?_,by omega,by rw[i9];omega,k⟩
  rw[OZ]
  exact ai (k:=1920) (OV (show i<2 ^ 4 by omega) (Pp (by decide) (by decide))) (by decide)
 ·rw[gk (b:=true) rfl]
  walk_at "sim"
  obtain⟨D0,x4⟩:=hb.tab
  obtain⟨t1,t2,t3,t4⟩:=oa x4 (by decide)
  obtain⟨l1,l2⟩:=BZ bs y u
  refine⟨by omega,_,_,_,_,_,_,rfl,by omega,by omega,?_⟩
  rw[← l1,← l2]
  have g1:=p8 (q:=(i3 bs (y,u)).1) (by omega)
  have g2:=p8 (q:=(i3 bs (y,u)).2) (by omega)
  refine⟨[some (i3 bs (y,u)).1,some (i3 bs (y,u)).2],rfl,⟨by show 2≤4;decide,fun o ho q e=>?_⟩,?_,?_⟩
  ·simp only[Pb,Pj,or_false]at ho
   rcases ho with rfl|rfl<;>cases e<;>omega
  ·have ej:Txt.join (Str.ofString " ") (QK otx [some (i3 bs (y,u)).1,some (i3 bs (y,u)).2])=rtx (i3 bs (y,u)).1++Str.ofString " " ++ rtx (i3 bs (y,u)).2:=rfl
   rw[ej,i9,i9,show(Str.ofString " ").length=1 by decide +kernel]
   omega
  ·have ej:Txt.join (Str.ofString " ") (QK otx [some (i3 bs (y,u)).1,some (i3 bs (y,u)).2])=rtx (i3 bs (y,u)).1++Str.ofString " " ++ rtx (i3 bs (y,u)).2:=rfl
   rw[cp.one ht (.inr ⟨a,rfl⟩)]at k
   rw[ej,← jk,← jk]
   exact k
theorem cT(T:Txt K mg w.params)(d:Df K mg "bench_answer" J9 ["bench","question","values"])(MY:Fn P w K mg base "bench_text" 5 ["bench"] xJ)(Ms:Fn P w K mg base "few_glasses" 9 ["table"] sN)(Mp:Fn P w K mg base "table_of" 6 ["bench"] fg)(Nq:Fn P w K mg base "ray_text" 7 ["bench","ray"] pq)(Mr:Fn P w K mg base "ratio_texts" 4 ["ratios"] sG)(Nj:Fn P w K mg base "image" 5 ["table","x"] sL):Fn P w K mg base "bench_answer" 10 ["bench","question","values"] pB:=by
 have sc:=cP
 walk_at "fn"
 obtain⟨bs,w,vs,rfl,hb,t,ht,k⟩:=h
 have hs:=hb.s
 obtain⟨D0,x4⟩:=hb.tab
 obtain⟨t1,t2,t3,t4⟩:=oa x4 (by decide)
 refine⟨_,(d0 (f8 (jtm p0 (a8 1) d8) (d4 y4) d9) (d0 (f8 (jtm p0 (a8 1) d8) (d4 (d5 (jc Mr hr (a7 (jc Mp hr (a7 (a8 0) a9)) a9)))) d9) (d0 (f8 (jtm p0 (a8 1) d8) (d4 (d5 (jc Mr hr (a7 (jc Nj hr (a7 (jc Mp hr (a7 (a8 0) a9)) (a7 (jx (a8 2) d3) a9))) a9)))) d9) (d0 (f8 (jtm p0 (a8 1) d8) (d4 (d5 (jc Nq hr (a7 (a8 0) (a7 (h7 (a7 (jx (a8 2) d3) (a7 (jx (a8 2) d3) a9))) a9))))) d9) (d0 (f8 (jtm p0 (a8 1) d8) (d4 y4) d9) (d4 (d5 (jc MY hr (a7 (V2 (jc Ms hr (a7 (jc Mp hr (a7 (a8 0) a9)) a9))) a9))))))))),?_⟩
 walk_at "sim"
 rcases ht with⟨rfl,rfl⟩|⟨rfl,o,rfl,ho,rfl⟩|⟨rfl,y,u,rfl,⟨hy,hu⟩,ht⟩|⟨rfl,rfl⟩
 ·refine⟨fun z=>absurd z (by decide +kernel),fun _=>⟨fun _=>⟨by omega,[some (i3 bs (1,0)).1,some (i3 bs (0,1)).1,some (i3 bs (1,0)).2,some (i3 bs (0,1)).2],rfl,⟨by show 4≤4;decide,fun o ho q e=>?_⟩,k⟩,fun z=>absurd rfl z⟩⟩
  simp only[Pb,Pj,or_false]at ho
  rcases ho with rfl|rfl|rfl|rfl<;>cases e<;>omega
 ·refine⟨fun z=>absurd z (by decide +kernel),fun _=>⟨fun z=>absurd z (by decide +kernel),fun _=>⟨fun _=>⟨by omega,?_⟩,fun z=>absurd rfl z⟩⟩⟩
  obtain⟨i1,i2⟩:=Kn x4 ho
  refine⟨af o,rfl,_,_,_,_,_,rfl,o,rfl,⟨⟨t1,t2,t3,t4⟩,ho⟩,[imP (i3 bs (1,0)).1 (i3 bs (0,1)).1 (i3 bs (1,0)).2 (i3 bs (0,1)).2 o,shP (i3 bs (1,0)).2 (i3 bs (0,1)).2 o],rfl,⟨by show 2≤4;decide,fun o ho q e=>?_⟩,k⟩
  simp only[Pb,Pj,or_false]at ho
  rcases ho with rfl|rfl
  ·exact i1 q e
  ·exact i2 q e
 ·refine⟨fun z=>absurd z (by decide +kernel),fun _=>⟨fun z=>absurd z (by decide +kernel),fun _=>⟨fun z=>absurd z (by decide +kernel),fun _=>⟨fun _=>?_,fun z=>absurd rfl z⟩⟩⟩⟩
  exact⟨e8 y,rfl,e8 u,rfl,bs,y,u,rfl,⟨hb,hy,hu⟩,t,ht,k⟩
 ·refine⟨fun z=>absurd z (by decide +kernel),fun _=>⟨fun z=>absurd z (by decide +kernel),fun _=>⟨fun z=>absurd z (by decide +kernel),fun _=>⟨fun z=>absurd z (by decide +kernel),fun _=>⟨fun z=>absurd z (by decide +kernel),fun _=>⟨by omega,?_⟩⟩⟩⟩⟩⟩
  have dt:=ua bs
  obtain⟨f1,f2⟩:=tW x4 (by decide) dt
  refine⟨_,_,_,_,rfl,⟨⟨D0,x4⟩,dt⟩,fun p hp=>aw hp ⟨_,rfl,⟨by omega,fun x hx=>?_⟩,k⟩⟩
  obtain⟨kd,sz'⟩:=f1 x hx
  exact⟨by rcases kd with kd|kd;exact .inl kd;exact .inr (.inl kd),by omega⟩
theorem fE(T:Txt K mg w.params)(d:Df K mg "read_number" L5 ["text"])(GX_read_ratio:FnX P w K mg base "read_ratio" 3 ["text"] jX):Fn P w K mg base "read_number" 4 ["text"] pk:=by
 have sc:=eW
 walk_at "fn"
 obtain⟨t,rfl,hl,q,hq,k⟩:=h
 refine⟨_,(d4 (yG rfl (d4 (d5 (jc (FnX.nox GX_read_ratio) hr (a7 (a8 0) a9)))))),?_⟩
 walk_at "sim"
 exact .inl ⟨t,rfl,hl,fun q' hq'=>by rw[hq]at hq';cases hq';exact k,fun z=>by rw[hq]at z;cases z⟩
theorem ky(T:Txt K mg w.params)(d:Df K mg "read_word" T3 ["form","text"])(MU:Fn P w K mg base "read_number" 4 ["text"] pk):Fn P w K mg base "read_word" 5 ["form","text"] xD:=by
 have sc:=jF
 walk_at "fn"
 obtain⟨f,t,rfl,v,⟨hl,k0⟩,k⟩:=h
 refine⟨_,(d0 (f8 (jtm p0 (a8 0) d8) (d0 (f8 (jtm Cm (a8 1) (e7 rfl T.c_PART_WORDS)) (d4 y4) d9) (d4 (d5 (a8 1)))) d9) (d0 (f8 (t8 (aj (jtm p0 (a8 0) d8) (bg (jtm p0 (a8 1) d8)))) (d4 (d5 z6)) d9) (d0 (jst 2 sc.nd (jc MU hr (a7 (a8 1) a9))) (d0 (f8 (jtm sY (a8 0) d8) (d4 (d5 (a8 2))) d9) (d0 (f8 (t8 (o8 (jtm K8 (jx (a8 2) d3) d3) (o9 (jtm S4 (jx (a8 2) d3) d3)))) (d4 y4) d9) (d4 (d5 (jx (a8 2) d3)))))))),?_⟩
 walk_at "sim"
 have pn:¬ Str.ofString "part" = Str.ofString "number" := by decide +kernel
 have wn:¬ Str.ofString "number" = Str.ofString "word" := by decide +kernel
 have wp:¬ Str.ofString "part" = Str.ofString "word" := by decide +kernel
 have wl:¬ Str.ofString "plane" = Str.ofString "word" := by decide +kernel
 have ln:¬ Str.ofString "number" = Str.ofString "plane" := by decide +kernel
 have lp:¬ Str.ofString "part" = Str.ofString "plane" := by decide +kernel
 have hl:t.length≤100000:=hl
 rcases k0 with⟨e1,hw,e3⟩|⟨e1,q,hq,e3⟩|⟨e1,n,hq,e3⟩|⟨e1,⟨e2,e3⟩|⟨e2,q,hq,e3⟩⟩
 ·obtain rfl:f=_:=e1
  have e3:v = .str t:=e3
  subst e3
  have hw:J7 t=true:=hw
  refine⟨fun _=>?_,fun z=>absurd rfl z⟩
  have iw:inV (.str t) [.str (Str.ofString "gap"),.str (Str.ofString "glass"),.str (Str.ofString "stop")]=true:=by
   have hb:∀ a:Str,(a == t)=decide (t=a):=fun a=>by
    rw[Qt,beq_iff_eq,decide_eq_true_eq];exact eq_comm
   show((Str.ofString "gap" == t) || ((Str.ofString "glass" == t) || ((Str.ofString "stop" == t) || false)))=_
   rw[hb,hb,hb,Sg,← Bool.or_assoc]
   exact hw
  refine⟨.str t,[D.str (Str.ofString "gap"),D.str (Str.ofString "glass"),D.str (Str.ofString "stop")],[.str (Str.ofString "gap"),.str (Str.ofString "glass"),.str (Str.ofString "stop")],rfl,by simp only[A0],rfl,?_⟩
  rw[iw]
  exact⟨_,rfl,fun z=>RB z,fun _=>k⟩
 ·obtain rfl:f=_:=e1
  obtain rfl:v=_:=e3
  exact⟨fun z=>absurd z wn,fun _=>⟨fun z=>absurd z ln,fun _=>⟨hl,q,hq,fun _=>k,fun z=>absurd z.symm pn⟩⟩⟩
 ·obtain rfl:f=_:=e1
  obtain rfl:v=_:=e3
  refine⟨fun z=>absurd z wp,fun _=>⟨fun z=>absurd z lp,fun _=>⟨hl,(n:Rat),hq,fun z=>absurd rfl z,fun _=>⟨fun z=>absurd (show(((n:Rat)).den:Int)=1 from rfl) z,fun _=>⟨fun z=>?_,fun _=>k⟩⟩⟩⟩⟩
  have:((n:Rat)).num=(n:Int):=rfl
  omega
 ·obtain rfl:f=_:=e1
  obtain rfl:v=_:=e3
  obtain rfl:t=_:=e2
  exact⟨fun z=>absurd z wl,fun _=>⟨fun _=>⟨fun _=>k,fun z=>absurd rfl z⟩,fun z=>absurd rfl z⟩⟩
 ·obtain rfl:f=_:=e1
  obtain rfl:v=_:=e3
  exact⟨fun z=>absurd z wl,fun _=>⟨fun _=>⟨fun z=>absurd z e2,fun _=>⟨hl,q,hq,fun _=>k,fun z=>absurd z.symm lp⟩⟩,fun z=>absurd rfl z⟩⟩
theorem nh(T:Txt K mg w.params)(d:Df K mg "read_row" Z2 ["row"])(Nd:Fn P w K mg base "read_word" 5 ["form","text"] xD):Fn P w K mg base "read_row" 6 ["row"] jY:=by
 have sc:=mz
 walk_at "fn"
 obtain⟨s,rfl,w,xs,row,k⟩:=h
 refine⟨_,(d0 (f8 (i7 (g5 (f9 (t9 T.sub) rfl T.b_isinstance e5 (a7 (a8 0) (a7 (p9 rfl T.b_str B0) a9))))) (d4 y4) d9) (d0 (jst 1 sc.nd (K3 rfl PySem.F.slot_str_split (a8 0) (a7 d8 a9))) (d0 (f8 (t8 (o8 (pX T.dc_ROWS rfl (jx (a8 1) d3)) (o9 (jtm K8 (f9 C1 rfl T.b_len u8 (a7 (a8 1) a9)) (i4 U9 d3 (f9 C1 rfl T.b_len u8 (a7 (nG T.dc_ROWS rfl (jx (a8 1) d3) (fun _ _=>rfl)) a9))))))) (d4 y4) d9) (d4 (d5 (h7 (a7 (jx (a8 1) d3) (a7 (K4 [] ["form","text"] [] rfl (by decide +kernel) rfl (by decide +kernel) (by decide +kernel) rfl G3 G3 (Cs rfl T.b_zip (a7 (nG T.dc_ROWS rfl (jx (a8 1) d3) (fun _ _=>rfl)) (a7 (N7 (a8 1) (D4 d3) D5) a9))) (fun _ _ _ _ _ _=>(j3 (n:=2) rfl (d6 (jn 0 (show(["form","text"]:List Str).Nodup by decide +kernel)) (d6 (jn 1 (show(["form","text"]:List Str).Nodup by decide +kernel)) i5)))) (fun _ _ _ _ _ _=>v6) (fun _ _ _ _ _ _=>(jc Nd hr (a7 (a8 0) (a7 (a8 1) a9))))) a9)))))))),?_⟩
 walk_at "sim"
 have sl:=B2
 have hl:=row.len
 refine⟨by decide +kernel,by omega,?_⟩
 have hr:=row.rows
 unfold E8 at hr
 rw[row.sp,Po]
 walk_at "sim"
 rw[hr]
 have tl:=row.few
 have to:=row.ok
 refine⟨fun z=>RB z,fun _=>⟨_,rfl,?_⟩⟩
 walk_at "sim"
 rw[OU,OU,OU,OU]
 refine⟨fun z=>absurd (by omega) z,fun _=>⟨_,rfl,?_⟩⟩
 have ec:DL.aq (D.str w :: QK D.str (QK (fun x=>x.2.1) xs)) (some 1) none=QK D.str (QK (fun x=>x.2.1) xs):=by
  rw[show(1:Int)=((1:Nat):Int)from rfl,nR];rfl
 rw[ec]
 walk_at "sim"
 rw[An]
 refine J5 (fun x=>x.2.2) (by omega) (by simp only[A0,u9,and_self]) (fun x hx Q hQ=>?_) k
 walk_at "sim"
 exact⟨_,to x hx,hQ⟩
theorem gL(T:Txt K mg w.params)(d:Df K mg "part_with" T6 ["word","number"])(ML:Fn P w K mg base "may_have" 1 ["word","number"] sI):FnX P w K mg base "part_with" 2 ["word","number"] sH:=by
 have sc:=jH
 refine Q6 d sc (by walk_at "len") (fun f cdv A outer s H E ds M R Y hr h=>?_)
 have hu:=hr.units
 obtain⟨w,q,rfl,k1,k2⟩:=h
 refine⟨_,(g9 (D6 (i7 (g5 (jc ML hr (a7 (a8 0) (a7 (a8 1) a9))))) (j9 (m9 T.x_NoNumber rfl rfl d8)) y0) (j9 (o6 (d5 (h7 (a7 (a8 0) (a7 (a8 1) a9))))))),?_⟩
 walk_at "sim"
 exact⟨k2,k1⟩
theorem mX(T:Txt K mg w.params)(d:Df K mg "part_of" bL ["bench","k"]):FnX P w K mg base "part_of" 1 ["bench","k"] pw:=by
 have sc:=oQ
 refine Q6 d sc (by walk_at "len") (fun f cdv A outer s H E ds M R Y hr h=>?_)
 have hu:=hr.units
 obtain⟨bs,k,rfl,k1,k2⟩:=h
 refine⟨_,(g9 (D6 (jtm Co (a8 1) (f9 C1 rfl T.b_len u8 (a7 (a8 0) a9))) (j9 (m9 T.x_NoPart rfl rfl d8)) y0) (j9 (o6 (d5 (jx (a8 0) (a8 1)))))),?_⟩
 walk_at "sim"
 rw[OU]
 refine⟨fun h1=>k2 (by omega),fun h1=>?_⟩
 have hk:k<bs.length:=by omega
 have hx:=PH hk
 exact⟨_,by show atI (bs.map i0) (k:Int)=_;rw[Dd (by rw[Py,hx];rfl)],k1 _ hx⟩
theorem Ce(T:Txt K mg w.params)(d:Df K mg "put" xy ["bench","word","number"])(GX_part_with:FnX P w K mg base "part_with" 2 ["word","number"] sH):FnX P w K mg base "put" 3 ["bench","word","number"] xE:=by
 have sc:=Ga
 refine Q6 d sc (by walk_at "len") (fun f cdv A outer s H E ds M R Y hr h=>?_)
 have hu:=hr.units
 obtain⟨bs,w,q,rfl,hl,k1,k2,k3⟩:=h
 refine⟨_,(g9 (mh (i:=3) sc.nd rfl (Or.inl rfl) (B8 GX_part_with (hr.mono (by decide)) rfl (a7 (a8 1) (a7 (a8 2) a9)))) (g9 (D6 (jtm Co (f9 C1 rfl T.b_len u8 (a7 (a8 0) a9)) (e7 rfl T.c_MOST_PARTS)) (j9 (m9 T.x_TooMany rfl rfl d8)) y0) (j9 (o6 (d5 (L0 (a8 0) (A6 (a7 (a8 3) a9)))))))),?_⟩
 walk_at "sim"
 rw[OU]
 refine⟨fun h1=>⟨fun h2=>k2 h1 (by omega),fun h2=>?_⟩,k1⟩
 rw[v9 (by omega)]
 have e:=k3 h1 (by omega)
 rw[Pt]at e
 exact e
theorem aZ(T:Txt K mg w.params)(d:Df K mg "changed_bench" G5 ["bench","deed","values"])(GX_part_with:FnX P w K mg base "part_with" 2 ["word","number"] sH)(GX_part_of:FnX P w K mg base "part_of" 1 ["bench","k"] pw)(GX_put:FnX P w K mg base "put" 3 ["bench","word","number"] xE):FnX P w K mg base "changed_bench" 4 ["bench","deed","values"] Gi:=by
 have sc:=bJ
 refine Q6 d sc (by walk_at "len") (fun f cdv A outer s H E ds M R Y hr h=>?_)
 have hu:=hr.units
 obtain⟨bs,w,vs,rfl,hl,c,rfl,rfl,hc,k1,k2⟩:=h
 refine⟨_,(g9 (D6 (jtm p0 (a8 1) d8) (j9 (ay (B8 GX_put (hr.mono (by decide)) rfl (a7 (a8 0) (a7 (jx (a8 2) d3) (a7 (jx (a8 2) d3) a9)))))) y0) (g9 (o6 (jst 3 sc.nd (jx (a8 2) d3))) (g9 (mh (i:=4) sc.nd rfl (Or.inl rfl) (B8 GX_part_of (hr.mono (by decide)) rfl (a7 (a8 0) (a7 (a8 3) a9)))) (g9 (mh (i:=5) sc.nd rfl (Or.inl rfl) (Jn (jtm p0 (a8 1) d8) (jt (A6 a9)) (FN (W3 (B8 GX_part_with (hr.mono (by decide)) rfl (a7 (jx (a8 4) d3) (a7 (jx (a8 2) d3) a9))) oG)))) (j9 (o6 (d5 (L0 (L0 (N7 (a8 0) D5 (D4 (a8 3))) (a8 5)) (N7 (a8 0) (D4 (i4 U9 (a8 3) d3)) D5))))))))),?_⟩
 walk_at "sim"
 have c1:¬ Str.ofString "set" = Str.ofString "put" := by decide +kernel
 have c2:¬ Str.ofString "cut" = Str.ofString "put" := by decide +kernel
 have c3:¬ Str.ofString "set" = Str.ofString "cut" := by decide +kernel
 have lm:(bs.map i0).length=bs.length:=OU ..
 have cut1:∀ k:Nat,DL.aq (bs.map i0) none (some (k:Int))=(bs.take k).map i0:=fun k=>by rw[ql,Ta]
 have cut2:∀ k:Nat,DL.aq (bs.map i0) (some ((k:Int)+1)) none=(bs.drop (k+1)).map i0:=fun k=>by
  rw[show(k:Int)+1=((k+1:Nat):Int)by omega,nR,List.map_drop]
 have l1:∀ k:Nat,((bs.take k).map i0).length≤12:=fun k=>by rw[OU,PC];omega
 have l2:∀ k:Nat,((bs.drop (k+1)).map i0).length≤12:=fun k=>by rw[OU,Qc];omega
 cases c with
 | put w q =>
  refine⟨fun _=>?_,fun z=>absurd rfl z⟩
  unfold Cmd.vals
  walk_at "sim"
  refine⟨hl,fun h1=>k2 _ (by rw[dY,if_pos h1]),fun h1 h2=>k2 _ (by rw[dY,if_neg (by rw[h1];decide),if_pos h2]),fun h1 h2=>k1 _ (by rw[dY,if_neg (by rw[h1];decide),if_neg (by omega)])⟩
 | set k q =>
  refine⟨fun z=>absurd z c1,fun _=>?_⟩
  unfold Cmd.vals
  walk_at "sim"
  refine⟨fun x hx=>⟨fun z=>absurd z c3,fun _=>?_⟩,fun h1=>k2 _ (zU h1)⟩
  refine⟨fun h1=>?_,fun h1=>k2 _ (by rw[uj hx,if_pos h1])⟩
  have e:=k1 (bs.take k++[(x.1,q)]++bs.drop (k+1)) (by rw[uj hx,if_neg (by rw[h1];decide)])
  rw[cut1,cut2,v9 (by have:=l1 k;omega),v9 (by rw[Pl];have:=l1 k;have:=l2 k;show _+1+_≤_;omega)]
  rw[Pt,Pt]at e
  exact e
 | cut k =>
  refine⟨fun z=>absurd z c2,fun _=>?_⟩
  unfold Cmd.vals
  walk_at "sim"
  refine⟨fun x hx=>⟨fun _=>?_,fun z=>absurd rfl z⟩,fun h1=>k2 _ (zV h1)⟩
  have e:=k1 (bs.take k++[]++bs.drop (k+1)) (CV hx)
  rw[cut1,cut2,v9 (by have:=l1 k;omega),v9 (by have:=l1 k;have:=l2 k;omega)]
  rw[PJ,Pt]at e
  exact e
 | near q=>exact hc.elim
 | far q=>exact hc.elim
 | back=>exact hc.elim
 | bench=>exact hc.elim
 | hall=>exact hc.elim
theorem mY(T:Txt K mg w.params)(d:Df K mg "changed" bO ["hall","deed","values"])(GX_changed_bench:FnX P w K mg base "changed_bench" 4 ["bench","deed","values"] Gi):FnX P w K mg base "changed" 5 ["hall","deed","values"] Gh:=by
 have sc:=oU
 refine Q6 d sc (by walk_at "len") (fun f cdv A outer s H E ds M R Y hr h=>?_)
 have hu:=hr.units
 obtain⟨near,bs,far,w,vs,rfl,hl,c,rfl,rfl,hc,k1,k2⟩:=h
 refine⟨_,(g9 (o6 (j4 (a8 0) (j3 (n:=3) rfl (d6 (jn 3 sc.nd) (d6 (jn 4 sc.nd) (d6 (jn 5 sc.nd) i5)))))) (g9 (o6 (f8 (jtm p0 (a8 1) d8) (d4 (d5 (h7 (a7 (jx (a8 2) d3) (a7 (a8 4) (a7 (a8 5) a9)))))) d9)) (g9 (o6 (f8 (jtm p0 (a8 1) d8) (d4 (d5 (h7 (a7 (a8 3) (a7 (a8 4) (a7 (jx (a8 2) d3) a9)))))) d9)) (j9 (ay (Er (W3 (jt (a8 3)) (W3 (B8 GX_changed_bench (hr.mono (by decide)) rfl (a7 (a8 4) (a7 (a8 1) (a7 (a8 2) a9)))) (W3 (jt (a8 5)) oG))))))))),?_⟩
 walk_at "sim"
 have other:c.isB→¬ c.word=Str.ofString "near" ∧ ¬ c.word=Str.ofString "far" := fun hb=>by
  cases c with
  | put w q=>exact⟨by show ¬ Str.ofString "put" = _;decide +kernel,by show ¬ Str.ofString "put" = _;decide +kernel⟩
  | set k q=>exact⟨by show ¬ Str.ofString "set" = _;decide +kernel,by show ¬ Str.ofString "set" = _;decide +kernel⟩
  | cut k=>exact⟨by show ¬ Str.ofString "cut" = _;decide +kernel,by show ¬ Str.ofString "cut" = _;decide +kernel⟩
  | near q=>exact hb.elim
  | far q=>exact hb.elim
  | back=>exact hb.elim
  | bench=>exact hb.elim
  | hall=>exact hb.elim
 have fin:c.isB→chH (near,bs,far) c=(match chB bs c with|.ok cs=>.ok (near,cs,far)|.error x=>.error x)→(¬ c.word=Str.ofString "far" → bs.length≤12∧∃ c_1:Cmd,c.word=c_1.word∧c.vals=c_1.vals∧c_1.isB∧(∀(cs:List (Str × Rat)),chB bs c_1=Except.ok cs→R (D.tup [e8 near,D.vl (QK i0 cs),e8 far]) M)∧∀(x:Str),chB bs c_1=Except.error x→Y (xN x) M):=fun hb e _ =>
  ⟨hl,c,rfl,rfl,hb,fun cs hcs=>k1 (near,cs,far) (by rw[e,hcs]),fun x hx=>k2 x (by rw[e,hx])⟩
 cases c with
 | near q =>
  refine⟨fun _=>?_,fun z=>absurd rfl z⟩
  unfold Cmd.vals
  walk_at "sim"
  exact k1 _ rfl
 | far q =>
  refine⟨fun z=>absurd z (by show ¬ Str.ofString "far" = _;decide +kernel),fun _=>⟨fun _=>?_,fun z=>absurd rfl z⟩⟩
  unfold Cmd.vals
  walk_at "sim"
  exact k1 _ rfl
 | put w q=>exact⟨fun z=>absurd z (other hc).1,fun _=>⟨fun z=>absurd z (other hc).2,fin hc rfl⟩⟩
 | set w q=>exact⟨fun z=>absurd z (other hc).1,fun _=>⟨fun z=>absurd z (other hc).2,fin hc rfl⟩⟩
 | cut w=>exact⟨fun z=>absurd z (other hc).1,fun _=>⟨fun z=>absurd z (other hc).2,fin hc rfl⟩⟩
 | back=>exact hc.elim
 | bench=>exact hc.elim
 | hall=>exact hc.elim
theorem kv(T:Txt K mg w.params)(d:DfM K mg "Desk" "say" "Desk.say" ae ["self","row"])(MT:Fn P w K mg base "bench_answer" 10 ["bench","question","values"] pB)(Nr:Fn P w K mg base "read_row" 6 ["row"] jY)(GX_changed:FnX P w K mg base "changed" 5 ["hall","deed","values"] Gh):vt P w K mg base "Desk" "say" 11 ["self","row"] sF:=by
 have sc:=mJ
 refine CI d sc (by walk_at "len") (fun f cdv A outer s H E ds M R Y hr h=>?_)
 have hu:=hr.units
 obtain⟨d,s,rfl,w,xs,h,ps,l,row,hb,hl,dk,k⟩:=h
 refine⟨_,(g9 (o6 (j4 (jc Nr hr (a7 (a8 1) a9)) (j3 (n:=2) rfl (d6 (jn 2 sc.nd) (d6 (jn 3 sc.nd) i5))))) (g9 (D6 (jtm Kd (a8 2) (e7 rfl T.c_CHANGES)) (g9 (mh (i:=4) sc.nd rfl (Or.inl rfl) (B8 GX_changed (hr.mono (by decide)) rfl (a7 (kL T.o_Desk T.n_Desk__hall (a8 0)) (a7 (a8 2) (a7 (a8 3) a9))))) (g9 (o6 (G0 (nF PySem.F.slot_list_append PySem.F.type_list_append O0 (kL T.o_Desk T.n_Desk__past (a8 0)) (a7 (kL T.o_Desk T.n_Desk__hall (a8 0)) a9)))) (g9 (o6 (kK T.o_Desk T.n_Desk__hall (a8 0) (a8 4))) (j9 (o6 (d5 d8)))))) y0) (g9 (o6 (f8 (jtm p0 (a8 2) d8) (d4 y4) d9)) (g9 (o6 (f8 (jtm Kd (a8 2) (e7 rfl T.c_OF_HALLS)) (d4 y4) d9)) (j9 (o6 (d5 (jc MT hr (a7 (jx (kL T.o_Desk T.n_Desk__hall (a8 0)) d3) (a7 (a8 2) (a7 (a8 3) a9))))))))))),?_⟩
 walk_at "sim"
 refine⟨w,xs,row,?_⟩
 refine Ai chT ?_
 rw[if_neg (by decide)]
 walk_at "sim"
 rcases k with⟨c,g,rfl,ev,hc,e,k⟩|⟨t,ht,k⟩
 ·have z:(chT.any fun x=>x == c.word)=true:=by
   rcases c.change with⟨z,_⟩|⟨_,hb⟩
   ·exact z
   ·rcases hb with rfl|rfl|rfl<;>exact hc.elim
  refine⟨fun _=>?_,fun z2=>absurd (z.symm.trans z2) (by decide)⟩
  refine lh dk.ob (fU _ _) ?_
  rw[ev]
  refine⟨h.1,h.2.1,h.2.2,c.word,c.vals,rfl,hb.l,c,rfl,rfl,hc,fun g' e'=>?_,fun x e'=>by rw[show chH (h.1,h.2.1,h.2.2) c = .ok g from e]at e';cases e'⟩
  have:g'=g:=by rw[show chH (h.1,h.2.1,h.2.2) c = .ok g from e]at e';cases e';rfl
  subst this
  refine lh dk.ob (zk _ _) (gg dk.pa (lh dk.ob (fU _ _) (Dr dk.pa (by rw[OU];omega) (qr (fs:=[(Str.ofString "hall",fR h),(Str.ofString "past",.ref l)]) (by rw[j5 dk.ne];exact dk.ob) (by show 2<1000;decide) ?_))))
  rw[xY]
  walk_at "sim"
  exact k _ ⟨h8,by rw[j5 (Ne.symm dk.ne),h8,Pt];rfl⟩ (fun b hb hl=>by rw[j5 hb,j5 hl])
 ·have z:(chT.any fun x=>x == w)=false∧¬ w=Str.ofString "back" ∧ ([Str.ofString "hall",Str.ofString "round",Str.ofString "ever"].any fun x=>x == w)=false:=by
   rcases ht with⟨rfl,_⟩|⟨rfl,_⟩|⟨rfl,_⟩|⟨rfl,_⟩<;>decide +kernel
  refine⟨fun z2=>absurd (z.1.symm.trans z2) (by decide),fun _=>⟨fun z2=>absurd z2 z.2.1,fun _=>Ai [Str.ofString "hall",Str.ofString "round",Str.ofString "ever"] ?_⟩⟩
  rw[if_neg (by decide),z.2.2]
  exact⟨_,rfl,fun z2=>RB z2,fun _=>lh dk.ob (fU _ _) ⟨_,rfl,h.2.1,_,_,rfl,hb,t,ht,k⟩⟩
theorem gX(T:Txt K mg w.params)(d:Df K mg "_law_stood" P6 ["desk","bench","mirrors"])(Md:Fn P w K mg base "_law_text" 1 ["one"] pe)(GX_Desk_say:vt P w K mg base "Desk" "say" 11 ["self","row"] sF):Fn P w K mg base "_law_stood" 12 ["desk","bench","mirrors"] pd:=by
 have sc:=gD
 walk_at "fn"
 obtain⟨d,bs,near,far,rfl,⟨hb,hn,hf⟩,l,dk,k⟩:=h
 have sl:=B2
 have s4:(Str.ofString "put ").length=4:=by decide +kernel
 have s1:(Str.ofString " ").length=1:=by decide +kernel
 have s5:(Str.ofString "near ").length=5:=by decide +kernel
 have s6:(Str.ofString "far ").length=4:=by decide +kernel
 refine⟨_,(d0 (E4 PassesOwn.never rfl (w6 (a8 1)) (jn 3 sc.nd) (d4 (G0 (dS (ox.noX GX_Desk_say) (hr.mono (by decide)) (a8 0) (a7 (i4 u7 (i4 u7 (i4 u7 d8 (jx (a8 3) d3)) d8) (jc Md hr (a7 (jx (a8 3) d3) a9))) a9))))) (d0 (G0 (dS (ox.noX GX_Desk_say) (hr.mono (by decide)) (a8 0) (a7 (i4 u7 d8 (jc Md hr (a7 (jx (a8 2) d3) a9))) a9))) (d0 (G0 (dS (ox.noX GX_Desk_say) (hr.mono (by decide)) (a8 0) (a7 (i4 u7 d8 (jc Md hr (a7 (jx (a8 2) d3) a9))) a9))) (d4 (d5 (a8 0)))))),?_⟩
 walk_at "sim"
 refine cZ.by (fun i e M'=>∃(ps:List Hl) (z:Option D),E6 M' d l (0,bs.take i,0) ps∧ps.length=i∧Oth d l M M'∧e=[some (.ref d),some (.vl (bs.map i0)),some (.vl [e8 near,e8 far]),z]) ⟨[],_,dk,rfl,fun _ _ _=>rfl,rfl⟩ (fun i e M' _ _=>by simp only[u9]) ?_ ?_
 ·rintro i dd e M1 hd ⟨ps,z,dk1,hps,ot,rfl⟩
  obtain⟨pt,hpt,rfl⟩:=N5 hd
  have hm:=Pn hpt
  have hi:=(Pc.mp hpt).1
  have hl:=hb.l
  have pc:=hb.p pt hm
  have wl:=F0 pc.b.word
  have rl:=p8 pc.b.sz
  have tk:bs.take (i+1)=bs.take i++[pt]:=by rw[Pw hi,(Pc.mp hpt).2]
  have lt:(bs.take i).length=i:=by rw[PC];omega
  have px:i0 pt=D.tup [D.str pt.1,e8 pt.2]:=rfl
  rw[px]
  walk_at "sim"
  refine ee dk1.ob (dO _ _ (by decide +kernel) (by decide +kernel)) ⟨by omega,by rw[i9];omega,by have:=pc.sz;omega,by rw[i9,i9];omega,_,_,(0,bs.take i,0),ps,l,BD pc.b.word pc.gr,hb.take i,by omega,dk1,.inl ⟨.put pt.1 pt.2,(0,bs.take i++[pt],0),rfl,rfl,trivial,?_,fun M' dk2 ot2=>⟨_,_,by rw[tk];exact dk2,by rw[Pl];show ps.length+1=_;omega,fun b b1 b2=>by rw[ot2 b b1 b2,ot b b1 b2],rfl⟩⟩⟩
  rw[KU (c:=.put pt.1 pt.2) trivial,dY,if_neg (by rw[pc.b.may];decide),if_neg (by show ¬ 12≤(bs.take i).length;omega)]
 ·rw[OU]
  rintro e M1 ⟨ps,z,dk1,hps,ot,rfl⟩
  rw[PX]at dk1
  walk_at "sim"
  have hl:=hb.l
  have r1:=p8 (q:=near) (by omega)
  have r2:=p8 (q:=far) (by omega)
  refine ee dk1.ob (dO _ _ (by decide +kernel) (by decide +kernel)) ⟨by omega,by omega,_,_,(0,bs,0),ps,l,xS (fT (by omega)),hb,by omega,dk1,.inl ⟨.near near,(near,bs,0),rfl,rfl,trivial,rfl,fun M2 dk2 ot2=>?_⟩⟩
  refine ee dk2.ob (dO _ _ (by decide +kernel) (by decide +kernel)) ⟨by omega,by omega,_,_,(near,bs,0),_,l,BF (fT (by omega)),hb,by rw[Pl];show ps.length+1≤_;omega,dk2,.inl ⟨.far far,(near,bs,far),rfl,rfl,trivial,rfl,fun M3 dk3 ot3=>?_⟩⟩
  exact k M3 _ (by rw[Pl,Pl];show ps.length+1+1≤_;omega) dk3 fun b b1 b2=>by rw[ot3 b b1 b2,ot2 b b1 b2,ot b b1 b2]
theorem bV(T:Txt K mg w.params)(d:DfM K mg "Desk" "__init__" "Desk.__init__" G6 ["self"]):FnM P w K mg base "Desk" "__init__" 1 ["self"] xH:=by
 have sc:=bK
 refine HN d sc (by walk_at "len") (fun f cdv A outer s H E ds M R Y hr h=>?_)
 have hu:=hr.units
 obtain⟨d,rfl,hd,k⟩:=h
 refine⟨_,(d0 (kK T.o_Desk T.n_Desk__hall (a8 0) (h7 (a7 (e7 rfl T.c_NOUGHT) (a7 (A6 a9) (a7 (e7 rfl T.c_NOUGHT) a9))))) (d4 (kK T.o_Desk T.n_Desk__past (a8 0) (M9 a9)))),?_⟩
 walk_at "sim"
 have r0:D.tup [e8 0,D.vl [],e8 0]=fR hl0:=rfl
 refine qr hd (by decide) ?_
 rw[r0]
 walk_at "sim"
 refine fun l hl=>qr (fs:=[(Str.ofString "hall",fR hl0)]) ?_ (by decide) ?_
 ·have ne:d≠l:=fun e=>by rw[← e,h8]at hl;cases hl
  rw[j5 ne,h8];rfl
 have ne:l≠d:=fun e=>by rw[e,h8]at hl;cases hl
 rw[xX,Bn ne]
 exact k l (by rw[j5 ne]at hl;exact hl)
theorem kD(T:Txt K mg w.params)(d:Df K mg "_law_part" U1 ["pool","words"])(Ml:Fn P w K mg base "_law_number" 2 ["pool"] aC)(Me:Fn P w K mg base "_law_next" 1 ["pool","base"] bF):Fn P w K mg base "_law_part" 3 ["pool","words"] kc:=by
 have sc:=jM
 walk_at "fn"
 obtain⟨p,rfl,hp,k⟩:=h
 refine⟨_,(d0 (jst 2 sc.nd (jx (a8 1) (jc Me hr (a7 (a8 0) (a7 (f9 C1 rfl T.b_len u8 (a7 (a8 1) a9)) a9))))) (d0 (j4 (jc Ml hr (a7 (a8 0) a9)) (j3 (n:=2) rfl (d6 (jn 3 sc.nd) (d6 (jn 4 sc.nd) i5)))) (d0 (f8 (jtm p0 (a8 2) d8) (d4 (d5 (h7 (a7 (a8 2) (a7 (h7 (a7 (f9 E9 rfl T.b_abs B5 (a7 (a8 3) a9)) (a7 (a8 4) a9))) a9))))) d9) (d0 (f8 (jtm p0 (a8 2) d8) (d4 (d5 (h7 (a7 (a8 2) (a7 (h7 (a7 (f9 (Fs rfl) rfl T.b_max Ab (a7 d3 (a7 (f9 E9 rfl T.b_abs B5 (a7 (a8 3) a9)) a9))) (a7 (a8 4) a9))) a9))))) d9) (d4 (d5 (h7 (a7 (a8 2) (a7 (h7 (a7 (a8 3) (a7 (a8 4) a9))) a9))))))))),?_⟩
 walk_at "sim"
 refine⟨hp,by decide,by decide,fun r M1 r0 r1 s1=>CG r0 (by show r<5;exact r1) fun d hd=>?_⟩
 have hd':d = .str "gap" ∨ d = .str "glass" ∨ d = .str "stop" := by
  simp only[Pb,Pj,or_false]at hd
  rcases hd with h|h|h|h|h
  ·exact .inl h
  ·exact .inr (.inl h)
  ·exact .inr (.inr h)
  ·exact .inl h
  ·exact .inr (.inl h)
 refine⟨s1.pool,fun q M2 hq s2=>?_⟩
 have st:=s1.trans s2
 rcases hd' with rfl|rfl|rfl
 ·walk_at "sim"
  exact k ("gap",N3 q) M2 ⟨.inl ⟨rfl,Di q⟩,by show sz (N3 q)≤41;rw[jB];exact hq⟩ st
 ·walk_at "sim"
  exact⟨fun z=>absurd z (by decide),fun _=>⟨fun z=>absurd z (by decide),fun _=>k ("glass",q) M2 ⟨.inr (.inl rfl),hq⟩ st⟩⟩
 ·walk_at "sim"
  refine⟨fun z=>absurd z (by decide),fun _=>?_⟩
  by_cases h0:q=0
  ·subst h0
   exact k ("stop",1) M2 ⟨.inr (.inr ⟨rfl,by decide⟩),by show sz 1≤41;rw[RM.L3];decide⟩ st
  ·have hn:q.num≠0:=fun z=>h0 (RJ.mp z)
   rw[show max 1 (q.num.natAbs:Int)=(q.num.natAbs:Int)by omega,Ey]
   exact k ("stop",N3 q) M2 ⟨.inr (.inr ⟨rfl,Dh h0⟩),by show sz (N3 q)≤41;rw[jB];exact hq⟩ st
theorem hG(T:Txt K mg w.params)(d:Df K mg "_law_bench" P9 ["pool","count","words"])(Me:Fn P w K mg base "_law_next" 1 ["pool","base"] bF)(Nf:Fn P w K mg base "_law_part" 3 ["pool","words"] kc):Fn P w K mg base "_law_bench" 4 ["pool","count","words"] fk:=by
 have sc:=gH
 walk_at "fn"
 obtain⟨p,n,rfl,hp,hn,k⟩:=h
 have lg:∀{b:Int},b.natAbs<2 ^ 41→b.natAbs.log2<9000:=fun{b} hb=>ai (OV hb (Pp (by decide) (by decide))) (by decide)
 refine⟨_,(d4 (d5 (K4 [0,2] ["k"] ["pool","words"] rfl (by decide +kernel) rfl (by decide +kernel) (by decide +kernel) rfl (La ⟨rfl,rfl⟩ ⟨rfl,rfl⟩) (La (Or.inl rfl) (Or.inl rfl)) (tE rfl T.b_range (a7 (jc Me hr (a7 (a8 0) (a7 (i4 U9 (a8 1) d3) a9))) a9)) (fun _ _ _ _ _ _=>(jn 0 (show(["k","pool","words"]:List Str).Nodup by decide +kernel))) (fun _ _ _ _ _ _=>v6) (fun _ _ _ _ _ _=>(jc Nf hr (a7 (a8 1) (a7 (a8 2) a9))))))),?_⟩
 walk_at "sim"
 refine⟨hp,by omega,lg (by omega),fun r M1 r0 r1 s1=>⟨by omega,?_⟩⟩
 refine gc i0 V9 (A2 p) r.toNat (C7 _ _) (by omega) (fun _ _=>trivial) (A2.refl s1.pool) (fun d hd M2 s2 Q hQ=>?_) (fun bs M2 hl hok s2=>k bs M2 (by omega) hok (s1.trans s2))
 walk_at "sim"
 exact⟨s2.pool,fun x M' hx s3=>hQ x M' hx (s2.trans s3)⟩
theorem kC(T:Txt K mg w.params)(d:Df K mg "_law_pool" U0 ["cell"]):Fn P w K mg base "_law_pool" 1 ["cell"] oN:=by
 have sc:=jL
 refine j6 d sc (fun ds M R Y h=>?_) (fun f cdv A outer s H E ds M R Y hr h=>?_)
 ·obtain⟨c,rfl,_⟩:=h;rfl
 ·obtain⟨c,rfl,k⟩:=h
  refine⟨_,(d4 (d5 (M9 (a7 (f9 (Fs rfl) rfl T.b_max Ab (a7 d3 (a7 (i4 fL (a8 0) (i4 jd d3 d3)) a9))) (a7 (i4 cJ (a8 0) (i4 jd d3 d3)) (a7 d3 a9)))))),?_⟩
  refine⟨_,rfl,_,_,rfl,rfl,KR,_,rfl,_,_,rfl,_,rfl,_,_,rfl,rfl,KR,_,_,rfl,rfl,(by show(0:Int)<10 ^ 18;decide),sl 3,fun p hp=>?_⟩
  exact k p _ hp (MK.new hp) ⟨_,_,_,h8⟩
theorem Hg{f:Addr}{fd:FuncData}(T:Txt K mg w.params)(d:Dl K "law" xB f fd)(MZ:Fn P w K mg base "_law_asked" 10 ["bench","rays","x"] pC)(Ml:Fn P w K mg base "_law_number" 2 ["pool"] aC)(Na:Fn P w K mg base "_law_stood" 12 ["desk","bench","mirrors"] pd)(MN:FnM P w K mg base "Desk" "__init__" 1 ["self"] xH)(Me:Fn P w K mg base "_law_next" 1 ["pool","base"] bF)(Nb:Fn P w K mg base "_law_bench" 4 ["pool","count","words"] fk)(Ng:Fn P w K mg base "_law_pool" 1 ["cell"] oN)(GX_Desk_say:vt P w K mg base "Desk" "say" 11 ["self","row"] sF):K5 P w K mg base CX0 13 f fd ["script"] (jv K sE):=by
 have sc:=Gd
 refine ET d sc (fun ds M R Y h=>by obtain⟨n,rfl,_⟩:=h;rfl) (fun cdv A outer s H E ds M R Y hr h=>?_)
 obtain⟨ns,rfl,hlen,k⟩:=h
 have hu:=hr.units
 refine⟨_,(d0 (E4 PassesOwn.never rfl (w6 (L0 (A6 (a7 d3 a9)) (a8 0))) (jn 1 sc.nd) (d0 (jst 2 sc.nd (jc Ng hr (a7 (a8 1) a9))) (d0 (jst 3 sc.nd (jc Nb hr (a7 (a8 2) (a7 d3 (a7 (A6 (a7 d8 (a7 d8 (a7 d8 (a7 d8 (a7 d8 a9)))))) a9))))) (N6 (f8 (jtm F9 (jc Me hr (a7 (a8 2) (a7 d3 a9))) d3) (d4 (jst 3 sc.nd (L0 (N7 (a8 3) D5 (D4 d3)) (A6 (a7 (h7 (a7 d8 (a7 (h7 (a7 (J2 qp rfl T.b_int N2 (a7 (i4 u7 d8 (i4 Hj d8 d3)) a9)) (a7 d3 a9))) a9))) a9))))) d9) (d0 (jst 4 sc.nd (jc Na hr (a7 (yI MN T.m_Desk (hr.mono (by decide)) rfl) (a7 (a8 3) (a7 (A6 (a7 (jc Ml hr (a7 (a8 2) a9)) (a7 (h7 (a7 d3 (a7 d3 a9))) a9))) a9))))) (d0 (kJ (i:=5) [2] ["k"] ["pool"] sc.nd rfl (Or.inl rfl) rfl (by decide +kernel) rfl (by decide +kernel) (by decide +kernel) rfl (Lb ⟨rfl,rfl⟩) (Lb (Or.inl rfl)) (tE rfl T.b_range (a7 d3 a9)) (fun _ _ _ _ _ _=>(jn 0 (show(["k","pool"]:List Str).Nodup by decide +kernel))) (fun _ _ _ _ _ _=>v6) (fun _ _ _ _ _ _=>(h7 (a7 (jc Ml hr (a7 (a8 1) a9)) (a7 (jc Ml hr (a7 (a8 1) a9)) a9))))) (d0 (jst 6 sc.nd (jc MZ hr (a7 (a8 3) (a7 (a8 5) (a7 (jc Ml hr (a7 (a8 2) a9)) a9))))) (d4 (E4 PassesOwn.never rfl (w6 (L0 (a8 6) (N7 (a8 6) D5 (D4 d3)))) (j3 (n:=2) rfl (d6 (jn 7 sc.nd) (d6 (jn 8 sc.nd) i5))) (d4 (f8 (jtm sY (dS (ox.noX GX_Desk_say) (hr.mono (by decide)) (a8 4) (a7 (a8 7) a9)) (a8 8)) (d4 (d5 B9)) d9))))))))))) (d4 (d5 B9))),?_⟩
 walk_at "sim"
 rw[v9 (by rw[OU];omega)]
 refine cZ.by (fun i e M'=>∃ x1 x2 x3 x4 x5 x6 x7 x8:Option D,e=[some (.vl (ns.map D.int)),x1,x2,x3,x4,x5,x6,x7,x8]) ⟨_,_,_,_,_,_,_,_,rfl⟩ (fun i e M' _ _=>by simp only[u9]) ?_ ?_
 ·rintro i dd e M' hd ⟨x1,x2,x3,x4,x5,x6,x7,x8,rfl⟩
  obtain⟨n,rfl⟩:=CB (uU (ms:=[.int 0]) (by simp)) hd
  walk_at "sim"
  refine fun p M1 hp mk hP=>⟨hP,fun bs M2 hl hok s2=>?_⟩
  refine W1 (fun e' M'=>∃ bs:List (Str × Rat),e'=[some (.vl (ns.map D.int)),some (.int n),some (.ref p),some (.vl (bs.map i0)),x4,x5,x6,x7,x8]∧BnC bs∧A2 p M1 M') ?_ ?_
  ·walk_at "sim"
   refine⟨s2.pool,by decide,fun r M4 r0 r4 s4=>⟨fun _=>⟨Hn (by decide +kernel) (by decide) (by decide),by decide +kernel,3*10 ^ 299,by decide +kernel,by decide +kernel,?_⟩,fun _=>⟨bs,rfl,BnC.ok hl hok,s2.trans s4⟩⟩⟩
   have e1:DL.aq (QK i0 bs) none (some 11)=(bs.take 11).map i0:=by
    rw[show(11:Int)=((11:Nat):Int)from rfl,ql,Ta]
   have hl11:((bs.take 11).map i0).length≤11:=by rw[OU];exact Rc _ _
   rw[e1,v9 (by omega)]
   refine⟨bs.take 11++[(Str.ofString "glass",((3*10 ^ 299:Int):Rat))],?_,BnC.great hok,s2.trans s4⟩
   rw[Pt,← mQ]
   rfl
  ·rintro e' M3 ⟨bs,rfl,hb,s3⟩
   walk_at "sim"
   intro d hd0
   refine⟨h8,fun l hl0=>?_⟩
   have nld:l≠d:=fun e=>by rw[e,h8]at hl0;cases hl0
   have hl1:M3 l=none:=by rw[j5 nld]at hl0;exact hl0
   obtain⟨a0,b0,c0,hp3⟩:=s3.pool.ex
   have npd:p≠d:=fun e=>by rw[e,hd0]at hp3;cases hp3
   have npl:p≠l:=fun e=>by rw[e,hl1]at hp3;cases hp3
   refine⟨⟨a0,b0,c0,by rw[j5 npd,j5 npl,j5 npd];exact hp3⟩,fun q M4 hq s4=>⟨⟨hb,hq,by rw[RM.D9];decide⟩,l,⟨s4.keep d _ (Ne.symm npd) h8,s4.keep l _ (Ne.symm npl) (by rw[j5 nld,h8];rfl)⟩,fun M5 ps hps dk ot=>⟨by decide,?_⟩⟩⟩
   have pl5:B7 M5 p:=by
    obtain⟨a,b,c,e⟩:=s4.pool.ex
    exact⟨a,b,c,by rw[ot p npd npl];exact e⟩
   refine gc (fun r:Rat × Rat=>y3 r.1 r.2) (fun r=>sz r.1≤41∧sz r.2≤41) (A2 p) 2 (C7 _ _) (by decide) (fun _ _=>trivial) (A2.refl pl5) (fun dd hdd M6 s6 Q hQ=>?_) (fun rs M6 hrl hrs s6=>?_)
   ·walk_at "sim"
    exact⟨s6.pool,fun y M7 hy s7=>⟨s7.pool,fun u M8 hu s8=>hQ (y,u) M8 ⟨hy,hu⟩ (s6.trans (s7.trans s8))⟩⟩
   obtain⟨ra,rb,rfl⟩:∃ ra rb,rs=[ra,rb]:=by
    match rs,hrl with
    | [a,b],_=>exact⟨a,b,rfl⟩
   have r1:=hrs ra (by simp)
   have r2:=hrs rb (by simp)
   refine⟨s6.pool,fun x M7 hx s7=>⟨bs,ra.1,ra.2,rb.1,rb.2,x,rfl,⟨hb,r1,r2,hx⟩,fun ds hdl hda=>?_⟩⟩
   have s67:=s6.trans s7
   have dk7:E6 M7 d l (q,bs,0) ps:=⟨s67.keep d _ (Ne.symm npd) dk.ob,s67.keep l _ (Ne.symm npl) dk.pa⟩
   have ec:DL.aq ds none (some 2)=ds.take 2:=by rw[show(2:Int)=((2:Nat):Int)from rfl,ql]
   walk_at "sim"
   have h2:(ds.take 2).length≤2:=Rc _ _
   rw[ec,v9 (by omega)]
   refine cZ.by (fun j e M'=>M'=M7∧∃ z7 z8:Option D,e=[some (D.vl (QK D.int ns)),some (D.int n),some (D.ref p),some (D.vl (QK i0 bs)),some (D.ref d),some (D.vl [y3 ra.fst ra.snd,y3 rb.fst rb.snd]),some (D.vl ds),z7,z8]) ⟨rfl,_,_,rfl⟩ (fun i e M' _ _=>by simp only[u9]) ?_ ?_
   ·rintro j dj e M8 hj ⟨rfl,z7,z8,rfl⟩
    obtain⟨s,w,t,xs,rfl,row,an⟩:gj bs dj:=by
     rcases Pq.mp (Pn hj)with h|h
     ·exact hda _ h
     ·exact hda _ (QS h)
    walk_at "sim"
    refine ee dk7.ob (dO _ _ (by decide +kernel) (by decide +kernel)) ⟨w,xs,(q,bs,0),ps,l,row,hb,by omega,dk7,.inr ⟨t,an,fun z=>absurd rfl z,fun _=>⟨_,_,rfl⟩⟩⟩
   ·rintro e M8 ⟨rfl,z7,z8,rfl⟩
    exact⟨_,_,_,_,_,_,_,_,rfl⟩
 ·rintro e M' ⟨x1,x2,x3,x4,x5,x6,x7,x8,rfl⟩
  walk_at "sim"
  exact k _
end
end K60
namespace K60
open PySem PySem.Spec L2 DL GM
theorem Im{P:Program}{w:World}{K:OR}{mg:Str→Option Value}{fa:Addr}(T:Txt K mg w.params)(hfa:mg "law" = some (.ref fa))(Oa:Df K mg "_law_text" T8 ["one"])(Nu:Df K mg "_law_bench_text" E3 ["bench"])(OK:Df K mg "bare" oZ ["parts"])(OA:Df K mg "divisor" bN ["one","other"])(Oj:Df K mg "is_whole" Z7 ["thing"])(OG:Df K mg "ratio" jP ["top","bottom"])(OL:Df K mg "over" oX ["one","other"])(OM:Df K mg "plus" oW ["one","other"])(Ol:Df K mg "opposite" Z5 ["one"])(OH:Df K mg "minus" jQ ["one","other"])(Nv:Df K mg "around_one_gap" F2 ["table"])(NK:Df K mg "by_columns" P3 ["first","second"])(OI:Df K mg "times" jO ["one","other"])(OO:Df K mg "led" xA ["table","ray"])(OF:Df K mg "behind" fe ["one","other"])(Nh:Df K mg "without_gap_behind" C2 ["table","gap"])(Nk:Df K mg "without_gap_ahead" C6 ["table","gap"])(ON:Df K mg "less" oY ["one","other"])(NL:Df K mg "outer_gaps" P2 ["table"])(Nw:Df K mg "by_two_glasses" F1 ["table"])(Nt:Df K mg "by_three_glasses" C8 ["table"])(Nz:Df K mg "by_one_glass" J8 ["table"])(ND:Df K mg "few_glasses" L8 ["table"])(NM:Df K mg "_law_ratio" P7 ["top","bottom"])(Ob:Df K mg "_law_take" T9 ["one","other"])(OB:Df K mg "_law_by" bP ["one","other"])(Om:Df K mg "_law_add" aa ["one","other"])(Oo:Df K mg "_law_led" Z9 ["part","ray"])(NA:Df K mg "_law_ray_due" K1 ["bench","ray"])(NN:Df K mg "_law_plane" P8 ["one"])(NO:Df K mg "axis_ahead" P5 ["ray"])(Oq:Df K mg "ray_from" Z4 ["plane"])(OJ:Df K mg "image" jR ["table","x"])(NF:Df K mg "led_by_part" L7 ["part","ray"])(Ot:Df K mg "table_of" Z1 ["bench"])(NB:Df K mg "_law_through" K0 ["bench","ray"])(Ou:Df K mg "may_have" Z6 ["word","number"])(Ov:Df K mg "is_ratio" Z8 ["thing"])(OC:Df K mg "is_part" bM ["thing"])(NG:Df K mg "are_figures" L9 ["text"])(NP:Df K mg "read_whole" O7 ["text"])(NQ:Df K mg "read_ratio" O8 ["text"])(Oc:Df K mg "read_part" T5 ["text"])(NR:Df K mg "read_parts" O9 ["text","most"])(NS:Df K mg "read_bench" P0 ["text"])(NT:Df K mg "_law_asked" Q0 ["bench","rays","x"])(Od:Df K mg "_law_next" U2 ["pool","base"])(NH:Df K mg "_law_number" M0 ["pool"])(NU:Df K mg "whole_text" O5 ["number"])(NV:Df K mg "ratio_text" P1 ["one"])(Oe:Df K mg "part_text" T7 ["part"])(NW:Df K mg "bench_text" P4 ["bench"])(NI:Df K mg "ratio_texts" L6 ["ratios"])(Ow:Df K mg "unsigned" Z0 ["one"])(NX:Df K mg "stopped_by" O6 ["bench","ray"])(Ox:Df K mg "ray_text" Z3 ["bench","ray"])(NC:Df K mg "bench_answer" J9 ["bench","question","values"])(NJ:Df K mg "read_number" L5 ["text"])(Of:Df K mg "read_word" T3 ["form","text"])(Oy:Df K mg "read_row" Z2 ["row"])(Og:Df K mg "part_with" T6 ["word","number"])(OD:Df K mg "part_of" bL ["bench","k"])(OP:Df K mg "put" xy ["bench","word","number"])(Nx:Df K mg "changed_bench" G5 ["bench","deed","values"])(OE:Df K mg "changed" bO ["hall","deed","values"])(Oz:DfM K mg "Desk" "say" "Desk.say" ae ["self","row"])(NY:Df K mg "_law_stood" P6 ["desk","bench","mirrors"])(Ny:DfM K mg "Desk" "__init__" "Desk.__init__" G6 ["self"])(Oh:Df K mg "_law_part" U1 ["pool","words"])(NZ:Df K mg "_law_bench" P9 ["pool","count","words"])(Oi:Df K mg "_law_pool" U0 ["cell"])(OQ:DfL K mg "law" xB ["script"]) :
  ∃ fd:FuncData,(∀(s:Shared) (u:Value),BindsTo s fd ⟨[u],[]⟩ [("script",u)])∧∀ base:Heap,K5 P w K mg base CX0 13 fa fd ["script"] (jv K sE):=by
 obtain⟨f,fd,F,hm,hb⟩:=OQ.ex
 have e:f=fa:=by rw[hm]at hfa;injection hfa with z;injection z
 subst e
 refine⟨fd,fun s u=>.of_eq (hb [u] rfl),fun base=>?_⟩
 have Md:=kA (P:=P) (w:=w) (base:=base) T Oa
 have Mt:=ag (P:=P) (w:=w) (base:=base) T Nu Md
 have MH:=Cj (P:=P) (w:=w) (base:=base) T OK
 have Mj:=pO (P:=P) (w:=w) (base:=base) T OA
 have Mc:=nr (P:=P) (w:=w) (base:=base) T Oj
 have MP:=yu (P:=P) (w:=w) (base:=base) T OG Mc Mj
 have Mo:=Cg (P:=P) (w:=w) (base:=base) T OL MP
 have Mu:=Cf (P:=P) (w:=w) (base:=base) T OM MP
 have Mf:=nk (P:=P) (w:=w) (base:=base) T Ol
 have Mm:=yv (P:=P) (w:=w) (base:=base) T OH Mu Mf
 have MI:=bc (P:=P) (w:=w) (base:=base) T Nv MH Mo Mm
 have Mx:=gR (P:=P) (w:=w) (base:=base) T NK
 have Mw:=yt (P:=P) (w:=w) (base:=base) T OI MP
 have Nl:=Hf (P:=P) (w:=w) (base:=base) T OO Mu Mw
 have MD:=uM (P:=P) (w:=w) (base:=base) T OF Mx Nl
 have Mv:=S2 (P:=P) (w:=w) (base:=base) T Nh MD Mf
 have MA:=U8 (P:=P) (w:=w) (base:=base) T Nk MD Mf
 have Mz:=Ci (P:=P) (w:=w) (base:=base) T ON
 have MV:=gQ (P:=P) (w:=w) (base:=base) T NL Mz Mu Mw Mm Mo
 have Mn:=ba (P:=P) (w:=w) (base:=base) T Nw MH MI Mv MA MV
 have MB:=Y5 (P:=P) (w:=w) (base:=base) T Nt Mn MD Mo Mm Mf Mu
 have MR:=cS (P:=P) (w:=w) (base:=base) T Nz MH Mf Mz Mo Mm
 have Ms:=fH (P:=P) (w:=w) (base:=base) T ND MB Mn MR Mz MH
 have Mh:=gY (P:=P) (w:=w) (base:=base) T NM
 have MC:=kB (P:=P) (w:=w) (base:=base) T Ob Mh
 have Ni:=pP (P:=P) (w:=w) (base:=base) T OB Mh
 have Nm:=nv (P:=P) (w:=w) (base:=base) T Om Mh
 have MJ:=nu (P:=P) (w:=w) (base:=base) T Oo MC Ni Nm
 have MS:=cV (P:=P) (w:=w) (base:=base) T NA Md MJ MC
 have ME:=gZ (P:=P) (w:=w) (base:=base) T NN Md
 have MW:=gW (P:=P) (w:=w) (base:=base) T NO Mf Mo
 have Nn:=nj (P:=P) (w:=w) (base:=base) T Oq
 have Nj:=yw (P:=P) (w:=w) (base:=base) T OJ Mo MW Nl Nn
 have Mq:=fG (P:=P) (w:=w) (base:=base) T NF Mm Mw Mu
 have Mp:=nc (P:=P) (w:=w) (base:=base) T Ot Mx Mq
 have MF:=cU (P:=P) (w:=w) (base:=base) T NB MJ
 have ML:=nq (P:=P) (w:=w) (base:=base) T Ou
 have Mi:=nt (P:=P) (w:=w) (base:=base) T Ov Mj Mc
 have MQ:=pN (P:=P) (w:=w) (base:=base) T OC ML Mi
 have MM:=fJ (P:=P) (w:=w) (base:=base) T NG
 have Mg:=gO (P:=P) (w:=w) (base:=base) T NP MM
 have GX_read_ratio:=fw (P:=P) (w:=w) (base:=base) T NQ Mi Mg
 have GX_read_part:=gK (P:=P) (w:=w) (base:=base) T Oc MQ GX_read_ratio
 have GX_read_parts:=fA (P:=P) (w:=w) (base:=base) T NR GX_read_part
 have GX_read_bench:=fD (P:=P) (w:=w) (base:=base) T NS GX_read_parts
 have MZ:=hJ (P:=P) (w:=w) (base:=base) T NT Mt Ms MS Md ME Nj Mp MF GX_read_bench
 have Me:=kF (P:=P) (w:=w) (base:=base) T Od
 have Ml:=fK (P:=P) (w:=w) (base:=base) T NH Mh Me
 have MG:=gM (P:=P) (w:=w) (base:=base) T NU
 have My:=gP (P:=P) (w:=w) (base:=base) T NV MG Mi
 have Nc:=kz (P:=P) (w:=w) (base:=base) T Oe My MQ
 have MY:=gT (P:=P) (w:=w) (base:=base) T NW Nc
 have Mr:=fF (P:=P) (w:=w) (base:=base) T NI My
 have Np:=mZ (P:=P) (w:=w) (base:=base) T Ow
 have MX:=gN (P:=P) (w:=w) (base:=base) T NX Mq Mz Np
 have Nq:=ni (P:=P) (w:=w) (base:=base) T Ox Mr Nl Mp MX
 have MT:=cT (P:=P) (w:=w) (base:=base) T NC MY Ms Mp Nq Mr Nj
 have MU:=fE (P:=P) (w:=w) (base:=base) T NJ GX_read_ratio
 have Nd:=ky (P:=P) (w:=w) (base:=base) T Of MU
 have Nr:=nh (P:=P) (w:=w) (base:=base) T Oy Nd
 have GX_part_with:=gL (P:=P) (w:=w) (base:=base) T Og ML
 have GX_part_of:=mX (P:=P) (w:=w) (base:=base) T OD
 have GX_put:=Ce (P:=P) (w:=w) (base:=base) T OP GX_part_with
 have GX_changed_bench:=aZ (P:=P) (w:=w) (base:=base) T Nx GX_part_with GX_part_of GX_put
 have GX_changed:=mY (P:=P) (w:=w) (base:=base) T OE GX_changed_bench
 have GX_Desk_say:=kv (P:=P) (w:=w) (base:=base) T Oz MT Nr GX_changed
 have Na:=gX (P:=P) (w:=w) (base:=base) T NY Md GX_Desk_say
 have MN:=bV (P:=P) (w:=w) (base:=base) T Ny
 have Nf:=kD (P:=P) (w:=w) (base:=base) T Oh Ml Me
 have Nb:=hG (P:=P) (w:=w) (base:=base) T NZ Me Nf
 have Ng:=kC (P:=P) (w:=w) (base:=base) T Oi
 exact Hg T F MZ Ml Na MN Me Nb Ng GX_Desk_say
theorem Lk{l:PySem.W.OpenLaw}{q:Program}{loose:List Str}{XP:(Str→Option Value)→Heap→Prop}{YP:World→Heap→Prop}{d:DefRec}{K:Params→OR}(hn:l.most=some 63)(hdf:d.params.defaults=[])
  (hY:∀(w:World) (h:Heap),YP w h→(K w.params).In h)
  (F:∀(w:World) (mg:Str→Option Value) (fa:Addr) (h:Heap),(K w.params).In h→h.Ns mainGlobals mg→mg d.name=some (.ref fa) →
   ∃ fd:FuncData,(∀(s:Shared) (u:Value),BindsTo s fd ⟨[u],[]⟩ [("script",u)])∧∀ base:Heap,K5 l.prog w (K w.params) mg base CX0 13 fa fd ["script"] (jv (K w.params) sE)) :
  PySem.W.WalkO q loose XP YP l.row.toRowW d [] (fun f vs=>PySem.call f vs) :=
 L2.xf (n:=63) (k:=13) (x := "script") (CX:=CX0) (sp:=fun K=>jv K sE) hn (by decide) hdf ⟨rfl,by decide,by decide⟩ hY (fun w mg fa h a b c=>let ⟨fd,h1,h2⟩:=F w mg fa h a b c;⟨fd,h1,fun base _ _=>h2 base⟩)
  (fun K H a ns hl hO hS=>Ht hO hS ⟨ns,rfl,hl,fun _=>rfl⟩) fun _ _ _ _ z=>z
end K60
open PySem PySem.W PyProof.Rows
set_option maxRecDepth 100000 in
set_option maxHeartbeats 0 in
theorem PySem.Challenge.cw_roundglass_k60_desk_leads_holds : PySem.Challenge.rw_roundglass_k60_desk_leads.Holds := by
 w_on;refine TP ?_
 k_fill
 refine K60.Lk (l:=PySem.Challenge.rw_roundglass_k60_desk_leads) rfl rfl (fun w h Y=>PySem.W.kIn_of Y) ?F
 case F =>
  intro w mg fa h KX G hmg
  refine' K60.Im ⟨PySem.W.mg_none_of KX G ?z_abs,PySem.W.mg_none_of KX G ?z_any,PySem.W.mg_none_of KX G ?z_bool,PySem.W.mg_none_of KX G ?z_divmod,PySem.W.mg_none_of KX G ?z_enumerate,PySem.W.mg_none_of KX G ?z_int,PySem.W.mg_none_of KX G ?z_isinstance,PySem.W.mg_none_of KX G ?z_len,PySem.W.mg_none_of KX G ?z_list,PySem.W.mg_none_of KX G ?z_max,PySem.W.mg_none_of KX G ?z_range,PySem.W.mg_none_of KX G ?z_reversed,PySem.W.mg_none_of KX G ?z_str,PySem.W.mg_none_of KX G ?z_tuple,PySem.W.mg_none_of KX G ?z_zip,DL.JD _,DL.CP ?o_Desk_h0 ?o_Desk_h1 ?o_Desk_h2 ?o_Desk_h3 ?o_Desk_h4,DL.yA ?n_Desk__hall_h0 ?n_Desk__hall_h1,DL.yA ?n_Desk__past_h0 ?n_Desk__past_h1,DL.Ho ?m_Desk_h0 ?m_Desk_h1 ?m_Desk_h2 ?m_Desk_h3 ?m_Desk_h4,DL.HS KX G ?dc_ROWS_h0 ?dc_ROWS_h1 ?dc_ROWS_h2 ?dc_ROWS_h3 (DL.u5 (DL.B4 ?dc_ROWS_h4 rfl (DL.m8.cons DL.u4 (DL.m8.cons DL.u4 DL.m8.nil))) (DL.u5 (DL.B4 ?dc_ROWS_h5 rfl (DL.m8.cons DL.u4 (DL.m8.cons DL.u4 DL.m8.nil))) (DL.u5 (DL.B4 ?dc_ROWS_h6 rfl (DL.m8.cons DL.u4 DL.m8.nil)) (DL.u5 (DL.B4 ?dc_ROWS_h7 rfl (DL.m8.cons DL.u4 DL.m8.nil)) (DL.u5 (DL.B4 ?dc_ROWS_h8 rfl (DL.m8.cons DL.u4 DL.m8.nil)) (DL.u5 (DL.B4 ?dc_ROWS_h9 rfl DL.m8.nil) (DL.u5 (DL.B4 ?dc_ROWS_h10 rfl DL.m8.nil) (DL.u5 (DL.B4 ?dc_ROWS_h11 rfl DL.m8.nil) (DL.u5 (DL.B4 ?dc_ROWS_h12 rfl DL.m8.nil) (DL.u5 (DL.B4 ?dc_ROWS_h13 rfl (DL.m8.cons DL.u4 DL.m8.nil)) (DL.u5 (DL.B4 ?dc_ROWS_h14 rfl (DL.m8.cons DL.u4 (DL.m8.cons DL.u4 DL.m8.nil))) (DL.u5 (DL.B4 ?dc_ROWS_h15 rfl (DL.m8.cons DL.u4 DL.m8.nil)) (DL.u5 (DL.B4 ?dc_ROWS_h16 rfl DL.m8.nil) (DL.u5 (DL.B4 ?dc_ROWS_h17 rfl (DL.m8.cons DL.u4 (DL.m8.cons DL.u4 DL.m8.nil))) (DL.u5 (DL.B4 ?dc_ROWS_h18 rfl DL.m8.nil) DL.dc.nil))))))))))))))),DL.yU KX G ?c0_AXIS_RAY ?c1_AXIS_RAY ?c2_AXIS_RAY ?c3_AXIS_RAY,DL.cg KX G ?c0_CHANGES (DL.B4 ?c1_CHANGES rfl (DL.m8.cons DL.u4 (DL.m8.cons DL.u4 (DL.m8.cons DL.u4 (DL.m8.cons DL.u4 (DL.m8.cons DL.u4 DL.m8.nil)))))),DL.cg KX G ?c0_FIGURES DL.u4,DL.yU KX G ?c0_LEVEL_RAY ?c1_LEVEL_RAY ?c2_LEVEL_RAY ?c3_LEVEL_RAY,DL.yV KX G ?c0_MOST_FIGURES,DL.yV KX G ?c0_MOST_PARTS,DL.tN KX G ?c0_NOUGHT ?c1_NOUGHT,DL.cg KX G ?c0_NO_PARTS DL.u4,DL.cg KX G ?c0_OF_HALLS (DL.B4 ?c1_OF_HALLS rfl (DL.m8.cons DL.u4 (DL.m8.cons DL.u4 (DL.m8.cons DL.u4 DL.m8.nil)))),DL.tN KX G ?c0_ONE ?c1_ONE,DL.cg KX G ?c0_PARTS_APART DL.u4,DL.cg KX G ?c0_PART_WORDS (DL.B4 ?c1_PART_WORDS rfl (DL.m8.cons DL.u4 (DL.m8.cons DL.u4 (DL.m8.cons DL.u4 DL.m8.nil)))),DL.kP KX G ?n_x_NoNumber ?q_x_NoNumber,DL.kP KX G ?n_x_NoPart ?q_x_NoPart,DL.kP KX G ?n_x_NoText ?q_x_NoText,DL.kP KX G ?n_x_TooMany ?q_x_TooMany⟩ hmg (DL.j0 KX G ?n0 ?l0 ?c0 ?k0 ?b0) (DL.j0 KX G ?n1 ?l1 ?c1 ?k1 ?b1) (DL.j0 KX G ?n2 ?l2 ?c2 ?k2 ?b2) (DL.j0 KX G ?n3 ?l3 ?c3 ?k3 ?b3) (DL.j0 KX G ?n4 ?l4 ?c4 ?k4 ?b4) (DL.HV KX G ?n5 ?l5 ?c5 ?k5 ?b5) (DL.j0 KX G ?n6 ?l6 ?c6 ?k6 ?b6) (DL.j0 KX G ?n7 ?l7 ?c7 ?k7 ?b7) (DL.j0 KX G ?n8 ?l8 ?c8 ?k8 ?b8) (DL.j0 KX G ?n9 ?l9 ?c9 ?k9 ?b9) (DL.j0 KX G ?n10 ?l10 ?c10 ?k10 ?b10) (DL.j0 KX G ?n11 ?l11 ?c11 ?k11 ?b11) (DL.j0 KX G ?n12 ?l12 ?c12 ?k12 ?b12) (DL.j0 KX G ?n13 ?l13 ?c13 ?k13 ?b13) (DL.j0 KX G ?n14 ?l14 ?c14 ?k14 ?b14) (DL.j0 KX G ?n15 ?l15 ?c15 ?k15 ?b15) (DL.j0 KX G ?n16 ?l16 ?c16 ?k16 ?b16) (DL.j0 KX G ?n17 ?l17 ?c17 ?k17 ?b17) (DL.j0 KX G ?n18 ?l18 ?c18 ?k18 ?b18) (DL.j0 KX G ?n19 ?l19 ?c19 ?k19 ?b19) (DL.j0 KX G ?n20 ?l20 ?c20 ?k20 ?b20) (DL.j0 KX G ?n21 ?l21 ?c21 ?k21 ?b21) (DL.j0 KX G ?n22 ?l22 ?c22 ?k22 ?b22) (DL.j0 KX G ?n23 ?l23 ?c23 ?k23 ?b23) (DL.j0 KX G ?n24 ?l24 ?c24 ?k24 ?b24) (DL.j0 KX G ?n25 ?l25 ?c25 ?k25 ?b25) (DL.j0 KX G ?n26 ?l26 ?c26 ?k26 ?b26) (DL.j0 KX G ?n27 ?l27 ?c27 ?k27 ?b27) (DL.j0 KX G ?n28 ?l28 ?c28 ?k28 ?b28) (DL.j0 KX G ?n29 ?l29 ?c29 ?k29 ?b29) (DL.j0 KX G ?n30 ?l30 ?c30 ?k30 ?b30) (DL.j0 KX G ?n31 ?l31 ?c31 ?k31 ?b31) (DL.j0 KX G ?n32 ?l32 ?c32 ?k32 ?b32) (DL.j0 KX G ?n33 ?l33 ?c33 ?k33 ?b33) (DL.j0 KX G ?n34 ?l34 ?c34 ?k34 ?b34) (DL.j0 KX G ?n35 ?l35 ?c35 ?k35 ?b35) (DL.j0 KX G ?n36 ?l36 ?c36 ?k36 ?b36) (DL.j0 KX G ?n37 ?l37 ?c37 ?k37 ?b37) (DL.j0 KX G ?n38 ?l38 ?c38 ?k38 ?b38) (DL.j0 KX G ?n39 ?l39 ?c39 ?k39 ?b39) (DL.j0 KX G ?n40 ?l40 ?c40 ?k40 ?b40) (DL.j0 KX G ?n41 ?l41 ?c41 ?k41 ?b41) (DL.j0 KX G ?n42 ?l42 ?c42 ?k42 ?b42) (DL.j0 KX G ?n43 ?l43 ?c43 ?k43 ?b43) (DL.j0 KX G ?n44 ?l44 ?c44 ?k44 ?b44) (DL.j0 KX G ?n45 ?l45 ?c45 ?k45 ?b45) (DL.j0 KX G ?n46 ?l46 ?c46 ?k46 ?b46) (DL.j0 KX G ?n47 ?l47 ?c47 ?k47 ?b47) (DL.j0 KX G ?n48 ?l48 ?c48 ?k48 ?b48) (DL.j0 KX G ?n49 ?l49 ?c49 ?k49 ?b49) (DL.j0 KX G ?n50 ?l50 ?c50 ?k50 ?b50) (DL.j0 KX G ?n51 ?l51 ?c51 ?k51 ?b51) (DL.j0 KX G ?n52 ?l52 ?c52 ?k52 ?b52) (DL.j0 KX G ?n53 ?l53 ?c53 ?k53 ?b53) (DL.j0 KX G ?n54 ?l54 ?c54 ?k54 ?b54) (DL.j0 KX G ?n55 ?l55 ?c55 ?k55 ?b55) (DL.j0 KX G ?n56 ?l56 ?c56 ?k56 ?b56) (DL.j0 KX G ?n57 ?l57 ?c57 ?k57 ?b57) (DL.j0 KX G ?n58 ?l58 ?c58 ?k58 ?b58) (DL.j0 KX G ?n59 ?l59 ?c59 ?k59 ?b59) (DL.j0 KX G ?n60 ?l60 ?c60 ?k60 ?b60) (DL.j0 KX G ?n61 ?l61 ?c61 ?k61 ?b61) (DL.j0 KX G ?n62 ?l62 ?c62 ?k62 ?b62) (DL.j0 KX G ?n63 ?l63 ?c63 ?k63 ?b63) (DL.j0 KX G ?n64 ?l64 ?c64 ?k64 ?b64) (DL.zx KX G ?n65 ?a65 ?i65 ?l65 ?c65 ?k65 ?pg65 ?hd65 ?po65 ?sa65 ?b65) (DL.j0 KX G ?n66 ?l66 ?c66 ?k66 ?b66) (DL.zx KX G ?n67 ?a67 ?i67 ?l67 ?c67 ?k67 ?pg67 ?hd67 ?po67 ?sa67 ?b67) (DL.j0 KX G ?n68 ?l68 ?c68 ?k68 ?b68) (DL.j0 KX G ?n69 ?l69 ?c69 ?k69 ?b69) (DL.j0 KX G ?n70 ?l70 ?c70 ?k70 ?b70) (DL.HU KX G ?n71 ?l71 ?c71 ?k71 ?b71)
  (case n0=>k_is);(case l0=>k_is);(case c0=>k_is);(case k0=>k_is);(case b0=>(intro us hl;exact match us,hl with|[_],_=>rfl))
  (case n1=>k_is);(case l1=>k_is);(case c1=>k_is);(case k1=>k_is);(case b1=>(intro us hl;exact match us,hl with|[_],_=>rfl))
  (case n2=>k_is);(case l2=>k_is);(case c2=>k_is);(case k2=>k_is);(case b2=>(intro us hl;exact match us,hl with|[_],_=>rfl))
  (case n3=>k_is);(case l3=>k_is);(case c3=>k_is);(case k3=>k_is);(case b3=>(intro us hl;exact match us,hl with|[_,_],_=>rfl))
  (case n4=>k_is);(case l4=>k_is);(case c4=>k_is);(case k4=>k_is);(case b4=>(intro us hl;exact match us,hl with|[_],_=>rfl))
  (case n5=>k_is);(case l5=>k_is);(case c5=>k_is);(case k5=>k_is);(case b5=>(intro us hl S;exact match us,hl with|[_,_],_=>rfl))
  (case n6=>k_is);(case l6=>k_is);(case c6=>k_is);(case k6=>k_is);(case b6=>(intro us hl;exact match us,hl with|[_,_],_=>rfl))
  (case n7=>k_is);(case l7=>k_is);(case c7=>k_is);(case k7=>k_is);(case b7=>(intro us hl;exact match us,hl with|[_,_],_=>rfl))
  (case n8=>k_is);(case l8=>k_is);(case c8=>k_is);(case k8=>k_is);(case b8=>(intro us hl;exact match us,hl with|[_],_=>rfl))
  (case n9=>k_is);(case l9=>k_is);(case c9=>k_is);(case k9=>k_is);(case b9=>(intro us hl;exact match us,hl with|[_,_],_=>rfl))
  (case n10=>k_is);(case l10=>k_is);(case c10=>k_is);(case k10=>k_is);(case b10=>(intro us hl;exact match us,hl with|[_],_=>rfl))
  (case n11=>k_is);(case l11=>k_is);(case c11=>k_is);(case k11=>k_is);(case b11=>(intro us hl;exact match us,hl with|[_,_],_=>rfl))
  (case n12=>k_is);(case l12=>k_is);(case c12=>k_is);(case k12=>k_is);(case b12=>(intro us hl;exact match us,hl with|[_,_],_=>rfl))
  (case n13=>k_is);(case l13=>k_is);(case c13=>k_is);(case k13=>k_is);(case b13=>(intro us hl;exact match us,hl with|[_,_],_=>rfl))
  (case n14=>k_is);(case l14=>k_is);(case c14=>k_is);(case k14=>k_is);(case b14=>(intro us hl;exact match us,hl with|[_,_],_=>rfl))
  (case n15=>k_is);(case l15=>k_is);(case c15=>k_is);(case k15=>k_is);(case b15=>(intro us hl;exact match us,hl with|[_,_],_=>rfl))
  (case n16=>k_is);(case l16=>k_is);(case c16=>k_is);(case k16=>k_is);(case b16=>(intro us hl;exact match us,hl with|[_,_],_=>rfl))
  (case n17=>k_is);(case l17=>k_is);(case c17=>k_is);(case k17=>k_is);(case b17=>(intro us hl;exact match us,hl with|[_,_],_=>rfl))
  (case n18=>k_is);(case l18=>k_is);(case c18=>k_is);(case k18=>k_is);(case b18=>(intro us hl;exact match us,hl with|[_],_=>rfl))
  (case n19=>k_is);(case l19=>k_is);(case c19=>k_is);(case k19=>k_is);(case b19=>(intro us hl;exact match us,hl with|[_],_=>rfl))
  (case n20=>k_is);(case l20=>k_is);(case c20=>k_is);(case k20=>k_is);(case b20=>(intro us hl;exact match us,hl with|[_],_=>rfl))
  (case n21=>k_is);(case l21=>k_is);(case c21=>k_is);(case k21=>k_is);(case b21=>(intro us hl;exact match us,hl with|[_],_=>rfl))
  (case n22=>k_is);(case l22=>k_is);(case c22=>k_is);(case k22=>k_is);(case b22=>(intro us hl;exact match us,hl with|[_],_=>rfl))
  (case n23=>k_is);(case l23=>k_is);(case c23=>k_is);(case k23=>k_is);(case b23=>(intro us hl;exact match us,hl with|[_,_],_=>rfl))
  (case n24=>k_is);(case l24=>k_is);(case c24=>k_is);(case k24=>k_is);(case b24=>(intro us hl;exact match us,hl with|[_,_],_=>rfl))
  (case n25=>k_is);(case l25=>k_is);(case c25=>k_is);(case k25=>k_is);(case b25=>(intro us hl;exact match us,hl with|[_,_],_=>rfl))
  (case n26=>k_is);(case l26=>k_is);(case c26=>k_is);(case k26=>k_is);(case b26=>(intro us hl;exact match us,hl with|[_,_],_=>rfl))
  (case n27=>k_is);(case l27=>k_is);(case c27=>k_is);(case k27=>k_is);(case b27=>(intro us hl;exact match us,hl with|[_,_],_=>rfl))
  (case n28=>k_is);(case l28=>k_is);(case c28=>k_is);(case k28=>k_is);(case b28=>(intro us hl;exact match us,hl with|[_,_],_=>rfl))
  (case n29=>k_is);(case l29=>k_is);(case c29=>k_is);(case k29=>k_is);(case b29=>(intro us hl;exact match us,hl with|[_],_=>rfl))
  (case n30=>k_is);(case l30=>k_is);(case c30=>k_is);(case k30=>k_is);(case b30=>(intro us hl;exact match us,hl with|[_],_=>rfl))
  (case n31=>k_is);(case l31=>k_is);(case c31=>k_is);(case k31=>k_is);(case b31=>(intro us hl;exact match us,hl with|[_],_=>rfl))
  (case n32=>k_is);(case l32=>k_is);(case c32=>k_is);(case k32=>k_is);(case b32=>(intro us hl;exact match us,hl with|[_,_],_=>rfl))
  (case n33=>k_is);(case l33=>k_is);(case c33=>k_is);(case k33=>k_is);(case b33=>(intro us hl;exact match us,hl with|[_,_],_=>rfl))
  (case n34=>k_is);(case l34=>k_is);(case c34=>k_is);(case k34=>k_is);(case b34=>(intro us hl;exact match us,hl with|[_],_=>rfl))
  (case n35=>k_is);(case l35=>k_is);(case c35=>k_is);(case k35=>k_is);(case b35=>(intro us hl;exact match us,hl with|[_,_],_=>rfl))
  (case n36=>k_is);(case l36=>k_is);(case c36=>k_is);(case k36=>k_is);(case b36=>(intro us hl;exact match us,hl with|[_,_],_=>rfl))
  (case n37=>k_is);(case l37=>k_is);(case c37=>k_is);(case k37=>k_is);(case b37=>(intro us hl;exact match us,hl with|[_],_=>rfl))
  (case n38=>k_is);(case l38=>k_is);(case c38=>k_is);(case k38=>k_is);(case b38=>(intro us hl;exact match us,hl with|[_],_=>rfl))
  (case n39=>k_is);(case l39=>k_is);(case c39=>k_is);(case k39=>k_is);(case b39=>(intro us hl;exact match us,hl with|[_],_=>rfl))
  (case n40=>k_is);(case l40=>k_is);(case c40=>k_is);(case k40=>k_is);(case b40=>(intro us hl;exact match us,hl with|[_],_=>rfl))
  (case n41=>k_is);(case l41=>k_is);(case c41=>k_is);(case k41=>k_is);(case b41=>(intro us hl;exact match us,hl with|[_],_=>rfl))
  (case n42=>k_is);(case l42=>k_is);(case c42=>k_is);(case k42=>k_is);(case b42=>(intro us hl;exact match us,hl with|[_],_=>rfl))
  (case n43=>k_is);(case l43=>k_is);(case c43=>k_is);(case k43=>k_is);(case b43=>(intro us hl;exact match us,hl with|[_,_],_=>rfl))
  (case n44=>k_is);(case l44=>k_is);(case c44=>k_is);(case k44=>k_is);(case b44=>(intro us hl;exact match us,hl with|[_],_=>rfl))
  (case n45=>k_is);(case l45=>k_is);(case c45=>k_is);(case k45=>k_is);(case b45=>(intro us hl;exact match us,hl with|[_,_,_],_=>rfl))
  (case n46=>k_is);(case l46=>k_is);(case c46=>k_is);(case k46=>k_is);(case b46=>(intro us hl;exact match us,hl with|[_,_],_=>rfl))
  (case n47=>k_is);(case l47=>k_is);(case c47=>k_is);(case k47=>k_is);(case b47=>(intro us hl;exact match us,hl with|[_],_=>rfl))
  (case n48=>k_is);(case l48=>k_is);(case c48=>k_is);(case k48=>k_is);(case b48=>(intro us hl;exact match us,hl with|[_],_=>rfl))
  (case n49=>k_is);(case l49=>k_is);(case c49=>k_is);(case k49=>k_is);(case b49=>(intro us hl;exact match us,hl with|[_],_=>rfl))
  (case n50=>k_is);(case l50=>k_is);(case c50=>k_is);(case k50=>k_is);(case b50=>(intro us hl;exact match us,hl with|[_],_=>rfl))
  (case n51=>k_is);(case l51=>k_is);(case c51=>k_is);(case k51=>k_is);(case b51=>(intro us hl;exact match us,hl with|[_],_=>rfl))
  (case n52=>k_is);(case l52=>k_is);(case c52=>k_is);(case k52=>k_is);(case b52=>(intro us hl;exact match us,hl with|[_],_=>rfl))
  (case n53=>k_is);(case l53=>k_is);(case c53=>k_is);(case k53=>k_is);(case b53=>(intro us hl;exact match us,hl with|[_],_=>rfl))
  (case n54=>k_is);(case l54=>k_is);(case c54=>k_is);(case k54=>k_is);(case b54=>(intro us hl;exact match us,hl with|[_,_],_=>rfl))
  (case n55=>k_is);(case l55=>k_is);(case c55=>k_is);(case k55=>k_is);(case b55=>(intro us hl;exact match us,hl with|[_,_],_=>rfl))
  (case n56=>k_is);(case l56=>k_is);(case c56=>k_is);(case k56=>k_is);(case b56=>(intro us hl;exact match us,hl with|[_,_,_],_=>rfl))
  (case n57=>k_is);(case l57=>k_is);(case c57=>k_is);(case k57=>k_is);(case b57=>(intro us hl;exact match us,hl with|[_],_=>rfl))
  (case n58=>k_is);(case l58=>k_is);(case c58=>k_is);(case k58=>k_is);(case b58=>(intro us hl;exact match us,hl with|[_,_],_=>rfl))
  (case n59=>k_is);(case l59=>k_is);(case c59=>k_is);(case k59=>k_is);(case b59=>(intro us hl;exact match us,hl with|[_],_=>rfl))
  (case n60=>k_is);(case l60=>k_is);(case c60=>k_is);(case k60=>k_is);(case b60=>(intro us hl;exact match us,hl with|[_,_],_=>rfl))
  (case n61=>k_is);(case l61=>k_is);(case c61=>k_is);(case k61=>k_is);(case b61=>(intro us hl;exact match us,hl with|[_,_],_=>rfl))
  (case n62=>k_is);(case l62=>k_is);(case c62=>k_is);(case k62=>k_is);(case b62=>(intro us hl;exact match us,hl with|[_,_,_],_=>rfl))
  (case n63=>k_is);(case l63=>k_is);(case c63=>k_is);(case k63=>k_is);(case b63=>(intro us hl;exact match us,hl with|[_,_,_],_=>rfl))
  (case n64=>k_is);(case l64=>k_is);(case c64=>k_is);(case k64=>k_is);(case b64=>(intro us hl;exact match us,hl with|[_,_,_],_=>rfl))
  (case n65=>k_is);(case a65=>k_is);(case i65=>k_is);(case pg65=>k_is);(case hd65=>k_is);(case po65=>k_is);(case sa65=>k_is);(case l65=>k_is);(case c65=>k_is);(case k65=>k_is);(case b65=>(intro us hl;exact match us,hl with|[_,_],_=>rfl))
  (case n66=>k_is);(case l66=>k_is);(case c66=>k_is);(case k66=>k_is);(case b66=>(intro us hl;exact match us,hl with|[_,_,_],_=>rfl))
  (case n67=>k_is);(case a67=>k_is);(case i67=>k_is);(case pg67=>k_is);(case hd67=>k_is);(case po67=>k_is);(case sa67=>k_is);(case l67=>k_is);(case c67=>k_is);(case k67=>k_is);(case b67=>(intro us hl;exact match us,hl with|[_],_=>rfl))
  (case n68=>k_is);(case l68=>k_is);(case c68=>k_is);(case k68=>k_is);(case b68=>(intro us hl;exact match us,hl with|[_,_],_=>rfl))
  (case n69=>k_is);(case l69=>k_is);(case c69=>k_is);(case k69=>k_is);(case b69=>(intro us hl;exact match us,hl with|[_,_,_],_=>rfl))
  (case n70=>k_is);(case l70=>k_is);(case c70=>k_is);(case k70=>k_is);(case b70=>(intro us hl;exact match us,hl with|[_],_=>rfl))
  (case n71=>k_is);(case l71=>k_is);(case c71=>k_is);(case k71=>k_is);(case b71=>(intro us hl;exact match us,hl with|[_],_=>rfl))
  (case z_abs=>k_is);(case z_any=>k_is);(case z_bool=>k_is);(case z_divmod=>k_is);(case z_enumerate=>k_is);(case z_int=>k_is);(case z_isinstance=>k_is);(case z_len=>k_is);(case z_list=>k_is);(case z_max=>k_is);(case z_range=>k_is);(case z_reversed=>k_is);(case z_str=>k_is);(case z_tuple=>k_is);(case z_zip=>k_is);(case o_Desk_h0=>k_is);(case o_Desk_h1=>k_is);(case o_Desk_h2=>k_is);(case o_Desk_h3=>k_is);(case o_Desk_h4=>k_is);(case n_Desk__hall_h0=>k_is);(case n_Desk__hall_h1=>k_is);(case n_Desk__past_h0=>k_is);(case n_Desk__past_h1=>k_is);(case m_Desk_h0=>k_is);(case m_Desk_h1=>k_is);(case m_Desk_h2=>k_is);(case m_Desk_h3=>k_is);(case m_Desk_h4=>k_is);(case dc_ROWS_h0=>k_is);(case dc_ROWS_h1=>k_is);(case dc_ROWS_h2=>k_keys);(case dc_ROWS_h3=>decide);(case dc_ROWS_h4=>k_is);(case dc_ROWS_h5=>k_is);(case dc_ROWS_h6=>k_is);(case dc_ROWS_h7=>k_is);(case dc_ROWS_h8=>k_is);(case dc_ROWS_h9=>k_is);(case dc_ROWS_h10=>k_is);(case dc_ROWS_h11=>k_is);(case dc_ROWS_h12=>k_is);(case dc_ROWS_h13=>k_is);(case dc_ROWS_h14=>k_is);(case dc_ROWS_h15=>k_is);(case dc_ROWS_h16=>k_is);(case dc_ROWS_h17=>k_is);(case dc_ROWS_h18=>k_is);(case c0_AXIS_RAY=>k_is);(case c1_AXIS_RAY=>k_is);(case c2_AXIS_RAY=>k_is);(case c3_AXIS_RAY=>k_is);(case c0_CHANGES=>k_is);(case c1_CHANGES=>k_is);(case c0_FIGURES=>k_is);(case c0_LEVEL_RAY=>k_is);(case c1_LEVEL_RAY=>k_is);(case c2_LEVEL_RAY=>k_is);(case c3_LEVEL_RAY=>k_is);(case c0_MOST_FIGURES=>k_is);(case c0_MOST_PARTS=>k_is);(case c0_NOUGHT=>k_is);(case c1_NOUGHT=>k_is);(case c0_NO_PARTS=>k_is);(case c0_OF_HALLS=>k_is);(case c1_OF_HALLS=>k_is);(case c0_ONE=>k_is);(case c1_ONE=>k_is);(case c0_PARTS_APART=>k_is);(case c0_PART_WORDS=>k_is);(case c1_PART_WORDS=>k_is);(case n_x_NoNumber=>k_is);(case q_x_NoNumber=>k_exc);(case n_x_NoPart=>k_is);(case q_x_NoPart=>k_exc);(case n_x_NoText=>k_is);(case q_x_NoText=>k_exc);(case n_x_TooMany=>k_is);(case q_x_TooMany=>k_exc)
end
